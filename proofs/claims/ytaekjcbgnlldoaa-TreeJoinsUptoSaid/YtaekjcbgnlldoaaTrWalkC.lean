/- Walks over the document's trees: Size, Deep, Groups, Backs. -/
import Derived.Test.YtaekjcbgnlldoaaTrWalkB
namespace Go.Proofs.Ytaekjcbgnlldoaa
open Go.RowKit

theorem trd_zero {w : World} {t : Tr} {a : Option Addr} {cap : Nat} (h : TrD 0 w t a cap) : False := by
  obtain ⟨n, h1, h2⟩ := h
  cases n with
  | zero => exact h1
  | succ n => omega
set_option linter.unusedSimpArgs false in
set_option maxRecDepth 100000 in
set_option maxHeartbeats 2000000 in
theorem rsize_any : ∀ (N : Nat) (t : Tr) (a : Option Addr) (cap : Nat) (w : World), TrD N w t a cap → nsize (canon t) ≤ 4000000 →
    Calls Try.prog 12 #[tV t a cap] w fun e w' => e = .returned (.int .i64 (nsize (canon t) : Int)) ∧ Below w.heap.size w w' := by
  intro N
  induction N with
  | zero => intro t a cap w h; exact (trd_zero h).elim
  | succ N ih =>
    intro t a cap w h hb
    have hW := (Below.refl w.heap.size w).alloc (Nat.le_refl _) (.cells (tC t a cap) 27)
    have hK := kids_any N t a cap _ (h.below hW)
    have hs := nsize_kids (canon t)
    rw [canon_kids] at hs
    generalize nsize (canon t) = S at hs hb ⊢
    generalize tkids t = l at hK hs
    have Hs := Lib.hid hs
    have Hb := Lib.hid hb
    clear hs hb h
    unfold tV at hK ⊢
    go_enter Try.func12, Try.ntmps12
    go_wp2_with fail
    refine hK.mono ?_
    clear hK
    rintro e w1 ⟨a1, cap1, rfl, hR, b1⟩
    replace hW := hW.trans (b1.mono hW.size)
    clear b1
    have hl1 := hR.1
    have hl2 := hR.2.1
    unfold maxLen at hl2
    have HR := Lib.hid hR.2.2
    clear hR
    go_wp2_with fail
    go_loopw [3, 10] (fun s i wr => ∃ k : Nat, k ≤ l.length ∧ i = .int .i64 k ∧ s = .int .i64 (1 + (nsizes ((l.map canon).take k) : Int)) ∧ Below w1.heap.size w1 wr) (fun _ i _ => l.length - (intOf i).toNat)
    case atStart => exact ⟨0, by omega, rfl, rfl, Below.refl _ _⟩
    case round =>
      obtain ⟨k, hk, rfl, rfl, hV⟩ := hrel
      by_cases hlt : k < l.length
      · obtain ⟨b, o, rfl, hbl, hx⟩ := HR.out (by omega)
        obtain ⟨a', cap', h9, hr⟩ := hx k hlt
        replace h9 := h9.below hV hbl
        replace hr := hr.below hV
        have hsn := nsizes_take (l.map canon) k (by simpa using hlt)
        have hle := nsizes_le (l.map canon) (k + 1)
        have hA := Hs.out
        have hB := Hb.out
        rw [List.getElem_map] at hsn
        obtain ⟨c0, c1, c2, c3, c4, c5, c6, c7, c8⟩ := h9
        clear hx
        generalize l[k] = x at *
        have Wn : IntKind.i64.wrap (1 + (nsizes ((l.map canon).take k) : Int) + (nsize (canon x) : Int)) = 1 + (nsizes ((l.map canon).take (k + 1)) : Int) := by
          rw [IntWalk.i64_in _ (by omega)]
          omega
        have hx2 : nsize (canon x) ≤ 4000000 := by omega
        clear hsn hle hA hB
        go_wp2_with fail
        refine (ih x a' cap' _ hr hx2).mono ?_
        rintro e w2 ⟨rfl, b2⟩
        replace hV := hV.trans (b2.mono hV.size)
        clear b2 hr c0 c1 c2 c3 c4 c5 c6 c7 c8
        go_wp2_with fail
        go_roundw
        case rel => exact ⟨k + 1, by omega, by go_num, by go_num, hV⟩
        case measure => simp [intOf]; omega
      · obtain rfl : k = l.length := by omega
        rw [List.take_of_length_le (by simp)]
        go_wp2_with fail
        go_ret
        exact ⟨tr_ret_int (by rw [Hs.out]; omega), hW.trans (hV.mono hW.size)⟩
set_option linter.unusedSimpArgs false in
set_option maxRecDepth 100000 in
set_option maxHeartbeats 4000000 in
theorem rgroups_any : ∀ (N : Nat) (t : Tr) (a : Option Addr) (cap : Nat) (w : World), TrD N w t a cap → ngroups (canon t) ≤ 4000000 →
    Calls Try.prog 16 #[tV t a cap] w fun e w' => e = .returned (.int .i64 (ngroups (canon t) : Int)) ∧ Below w.heap.size w w' := by
  intro N
  induction N with
  | zero => intro t a cap w h; exact (trd_zero h).elim
  | succ N ih =>
    intro t a cap w h hb
    have hT := (Blk.new w (tC t a cap) 27 _ rfl)
    have hW := (Below.refl w.heap.size w).alloc (Nat.le_refl _) (.cells (tC t a cap) 27)
    have hK := kids_any N t a cap _ (h.below hW)
    have hs := ngroups_kids (canon t)
    rw [canon_kids, canon_grp] at hs
    generalize ngroups (canon t) = S at hs hb ⊢
    generalize tkids t = l at hK hs
    have Hs := Lib.hid hs
    have Hb := Lib.hid hb
    clear hs hb h
    unfold tV at hK ⊢
    go_enter Try.func16, Try.ntmps16
    go_wp2_with fail
    refine hK.mono ?_
    clear hK
    rintro e w1 ⟨a1, cap1, rfl, hR, b1⟩
    replace hW := hW.trans (b1.mono hW.size)
    replace hT := hT.below b1 hT.lt
    have hlT := hT.lt
    clear b1
    have hl1 := hR.1
    have hl2 := hR.2.1
    unfold maxLen at hl2
    have HR := Lib.hid hR.2.2
    clear hR
    go_wp2_with fail
    go_loopw [3, 10] (fun s i wr => ∃ k : Nat, k ≤ l.length ∧ i = .int .i64 k ∧ s = .int .i64 (ngroupss ((l.map canon).take k) : Int) ∧ Below w1.heap.size w1 wr) (fun _ i _ => l.length - (intOf i).toNat)
    case atStart => exact ⟨0, by omega, rfl, rfl, Below.refl _ _⟩
    case round =>
      obtain ⟨k, hk, rfl, rfl, hV⟩ := hrel
      by_cases hlt : k < l.length
      · obtain ⟨b, o, rfl, hbl, hx⟩ := HR.out (by omega)
        obtain ⟨a', cap', h9, hr⟩ := hx k hlt
        replace h9 := h9.below hV hbl
        replace hr := hr.below hV
        have hsn := ngroupss_take (l.map canon) k (by simpa using hlt)
        have hle := ngroupss_le (l.map canon) (k + 1)
        have hA := Hs.out
        have hB := Hb.out
        rw [List.getElem_map] at hsn
        obtain ⟨c0, c1, c2, c3, c4, c5, c6, c7, c8⟩ := h9
        clear hx
        generalize l[k] = x at *
        have Wn : IntKind.i64.wrap ((ngroupss ((l.map canon).take k) : Int) + (ngroups (canon x) : Int)) = (ngroupss ((l.map canon).take (k + 1)) : Int) := by
          split at hA <;> (rw [IntWalk.i64_in _ (by omega)]; omega)
        have hx2 : ngroups (canon x) ≤ 4000000 := by
          split at hA <;> omega
        clear hsn hle hA hB
        go_wp2_with fail
        refine (ih x a' cap' _ hr hx2).mono ?_
        rintro e w2 ⟨rfl, b2⟩
        replace hV := hV.trans (b2.mono hV.size)
        clear b2 hr c0 c1 c2 c3 c4 c5 c6 c7 c8
        go_wp2_with fail
        go_roundw
        case rel => exact ⟨k + 1, by omega, by go_num, by go_num, hV⟩
        case measure => simp [intOf]; omega
      · obtain rfl : k = l.length := by omega
        rw [List.take_of_length_le (by simp)]
        have hT2 := hT.below hV hlT
        have t0 := (hT2.cell 0).trans rfl
        have hA := Hs.out
        have hB := Hb.out
        clear hT hT2
        cases hg : (t.kind == 5)
        · rw [hg] at hA
          clear hB
          go_wp2_with fail
          go_ret
          exact ⟨tr_ret_int (by rw [hA]; simp), hW.trans (hV.mono hW.size)⟩
        · rw [hg, if_pos rfl] at hA
          have Wg : IntKind.i64.wrap ((ngroupss (l.map canon) : Int) + 1) = (ngroupss (l.map canon) : Int) + 1 := IntWalk.i64_in _ (by omega)
          clear hB
          go_wp2_with fail
          go_ret
          exact ⟨tr_ret_int (by rw [hA]; omega), hW.trans (hV.mono hW.size)⟩
set_option linter.unusedSimpArgs false in
set_option maxRecDepth 100000 in
set_option maxHeartbeats 4000000 in
theorem rdeep_any : ∀ (N : Nat) (t : Tr) (a : Option Addr) (cap : Nat) (w : World), TrD N w t a cap → ndeep (canon t) ≤ 4000000 →
    Calls Try.prog 14 #[tV t a cap] w fun e w' => e = .returned (.int .i64 (ndeep (canon t) : Int)) ∧ Below w.heap.size w w' := by
  intro N
  induction N with
  | zero => intro t a cap w h; exact (trd_zero h).elim
  | succ N ih =>
    intro t a cap w h hb
    have hT := (Blk.new w (tC t a cap) 27 _ rfl)
    have hW := (Below.refl w.heap.size w).alloc (Nat.le_refl _) (.cells (tC t a cap) 27)
    have hK := kids_any N t a cap _ (h.below hW)
    have hs := ndeep_kids (canon t)
    rw [canon_kids, canon_grp] at hs
    generalize ndeep (canon t) = S at hs hb ⊢
    generalize tkids t = l at hK hs
    have Hs := Lib.hid hs
    have Hb := Lib.hid hb
    clear hs hb h
    unfold tV at hK ⊢
    go_enter Try.func14, Try.ntmps14
    go_wp2_with fail
    refine hK.mono ?_
    clear hK
    rintro e w1 ⟨a1, cap1, rfl, hR, b1⟩
    replace hW := hW.trans (b1.mono hW.size)
    replace hT := hT.below b1 hT.lt
    have hlT := hT.lt
    clear b1
    have hl1 := hR.1
    have hl2 := hR.2.1
    unfold maxLen at hl2
    have HR := Lib.hid hR.2.2
    clear hR
    go_wp2_with fail
    go_loopw [3, 10] (fun s i wr => ∃ k : Nat, k ≤ l.length ∧ i = .int .i64 k ∧ s = .int .i64 (ndeeps ((l.map canon).take k) : Int) ∧ Below w1.heap.size w1 wr) (fun _ i _ => l.length - (intOf i).toNat)
    case atStart => exact ⟨0, by omega, rfl, rfl, Below.refl _ _⟩
    case round =>
      obtain ⟨k, hk, rfl, rfl, hV⟩ := hrel
      by_cases hlt : k < l.length
      · obtain ⟨b, o, rfl, hbl, hx⟩ := HR.out (by omega)
        obtain ⟨a', cap', h9, hr⟩ := hx k hlt
        replace h9 := h9.below hV hbl
        replace hr := hr.below hV
        have hsn := ndeeps_take (l.map canon) k (by simpa using hlt)
        have hle := ndeeps_le (l.map canon) (k + 1)
        have hA := Hs.out
        have hB := Hb.out
        rw [List.getElem_map] at hsn
        obtain ⟨c0, c1, c2, c3, c4, c5, c6, c7, c8⟩ := h9
        clear hx
        generalize l[k] = x at *
        have Hmx := Lib.hid hsn
        have hx2 : ndeep (canon x) ≤ 4000000 := by
          split at hA <;> omega
        clear hsn hle hA hB
        go_wp2_with fail
        refine (ih x a' cap' _ hr hx2).mono ?_
        rintro e w2 ⟨rfl, b2⟩
        replace hV := hV.trans (b2.mono hV.size)
        clear b2 hr c0 c1 c2 c3 c4 c5 c6 c7 c8
        go_wp2_with fail
        go_roundw
        case rel => exact ⟨k + 1, by omega, by go_num, by rw [Hmx.out]; exact congrArg _ (by omega), hV⟩
        case measure => simp [intOf]; omega
      · obtain rfl : k = l.length := by omega
        rw [List.take_of_length_le (by simp)]
        have hT2 := hT.below hV hlT
        have t0 := (hT2.cell 0).trans rfl
        have hA := Hs.out
        have hB := Hb.out
        clear hT hT2
        cases hg : (t.kind == 5)
        · rw [hg] at hA
          clear hB
          go_wp2_with fail
          go_ret
          exact ⟨tr_ret_int (by rw [hA]; simp), hW.trans (hV.mono hW.size)⟩
        · rw [hg, if_pos rfl] at hA
          have Wg : IntKind.i64.wrap ((ndeeps (l.map canon) : Int) + 1) = (ndeeps (l.map canon) : Int) + 1 := IntWalk.i64_in _ (by omega)
          clear hB
          go_wp2_with fail
          go_ret
          exact ⟨tr_ret_int (by rw [hA]; omega), hW.trans (hV.mono hW.size)⟩
set_option linter.unusedSimpArgs false in
set_option maxRecDepth 100000 in
set_option maxHeartbeats 4000000 in
theorem rbacks_any : ∀ (N : Nat) (t : Tr) (a : Option Addr) (cap : Nat) (w : World), TrD N w t a cap →
    Calls Try.prog 18 #[tV t a cap] w fun e w' => e = .returned (.bool (nbacks (canon t))) ∧ Below w.heap.size w w' := by
  intro N
  induction N with
  | zero => intro t a cap w h; exact (trd_zero h).elim
  | succ N ih =>
    intro t a cap w h
    have hT := (Blk.new w (tC t a cap) 27 _ rfl)
    have hW := (Below.refl w.heap.size w).alloc (Nat.le_refl _) (.cells (tC t a cap) 27)
    have hK := kids_any N t a cap _ (h.below hW)
    have hs := nbacks_kids (canon t)
    rw [canon_kids, canon_bck] at hs
    generalize nbacks (canon t) = S at hs ⊢
    generalize tkids t = l at hK hs
    have Hs := Lib.hid hs
    clear hs h
    unfold tV at hK ⊢
    go_enter Try.func18, Try.ntmps18
    go_wp2_with fail
    refine hK.mono ?_
    clear hK
    rintro e w1 ⟨a1, cap1, rfl, hR, b1⟩
    replace hW := hW.trans (b1.mono hW.size)
    replace hT := hT.below b1 hT.lt
    have hlT := hT.lt
    clear b1
    have hl1 := hR.1
    have hl2 := hR.2.1
    unfold maxLen at hl2
    have HR := Lib.hid hR.2.2
    clear hR
    go_wp2_with fail
    go_loopw [9] (fun i wr => ∃ k : Nat, k ≤ l.length ∧ i = .int .i64 k ∧ nbackss ((l.map canon).take k) = false ∧ Below w1.heap.size w1 wr) (fun i _ => l.length - (intOf i).toNat)
    case atStart => exact ⟨0, by omega, rfl, rfl, Below.refl _ _⟩
    case round =>
      obtain ⟨k, hk, rfl, hnb, hV⟩ := hrel
      have Hnb := Lib.hid hnb
      clear hnb
      by_cases hlt : k < l.length
      · obtain ⟨b, o, rfl, hbl, hx⟩ := HR.out (by omega)
        obtain ⟨a', cap', h9, hr⟩ := hx k hlt
        replace h9 := h9.below hV hbl
        replace hr := hr.below hV
        have hsn := nbackss_take (l.map canon) k (by simpa using hlt)
        rw [List.getElem_map, Hnb.out, Bool.false_or] at hsn
        have Hsn := Lib.hid hsn
        obtain ⟨c0, c1, c2, c3, c4, c5, c6, c7, c8⟩ := h9
        clear hx hsn
        generalize l[k] = x at *
        go_wp2_with fail
        refine (ih x a' cap' _ hr).mono ?_
        rintro e w2 ⟨he, b2⟩
        replace hV := hV.trans (b2.mono hV.size)
        clear b2 hr c0 c1 c2 c3 c4 c5 c6 c7 c8
        cases hb : nbacks (canon x)
        · rw [hb] at he
          subst he
          have Hr := Lib.hid (Hsn.out.trans hb)
          clear hb
          go_wp2_with fail
          go_roundw
          case rel => exact ⟨k + 1, by omega, by go_num, Hr.out, hV⟩
          case measure => simp [intOf]; omega
        · rw [hb] at he
          subst he
          have Hr := Lib.hid (show S = true by rw [Hs.out, nbackss_yes _ _ (Hsn.out.trans hb)]; rfl)
          clear hb
          go_wp2_with fail
          go_ret
          exact ⟨tr_ret_bool (by rw [Hr.out]), hW.trans (hV.mono hW.size)⟩
      · obtain rfl : k = l.length := by omega
        have hT2 := hT.below hV hlT
        have t0 := (hT2.cell 0).trans rfl
        have Hr := Lib.hid (show S = (t.kind == 6) by
          have := Hnb.out
          rw [List.take_of_length_le (by simp)] at this
          rw [Hs.out, this, Bool.false_or])
        clear hT hT2
        go_wp2_with fail
        go_ret
        exact ⟨tr_ret_bool (by rw [Hr.out]), hW.trans (hV.mono hW.size)⟩
end Go.Proofs.Ytaekjcbgnlldoaa
