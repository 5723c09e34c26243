/- UNDER WAY: Same: whether two of the document's trees are the same: where both are of one kind that has neither set, bounds nor number (rsame_tail). Left: the other kinds (4, 5, 6: the same walk with one more Bool; 1 returns at once), unlike kinds, the induction on N. -/
import Derived.Test.YtaekjcbgnlldoaaTrWalkC
import Derived.ChangeKeysEq
import Derived.Deep.RegionHeld3
import Derived.Deep.DeepCutAuto
import Derived.Deep.RegionWith
import Derived.Deep.QuietTactic
namespace Go.Proofs.Ytaekjcbgnlldoaa
open Go.RowKit

theorem rpart0 (a b c d : Int) (w : World) : (part 22 #[.int .u64 a, .int .u64 b, .int .u64 c, .int .u64 d] (0 * 1)).run Try.prog w = .ok (.int .u64 a) w := by kernel_rfl
theorem rpart1 (a b c d : Int) (w : World) : (part 22 #[.int .u64 a, .int .u64 b, .int .u64 c, .int .u64 d] 1).run Try.prog w = .ok (.int .u64 b) w := by kernel_rfl
theorem rpart2 (a b c d : Int) (w : World) : (part 22 #[.int .u64 a, .int .u64 b, .int .u64 c, .int .u64 d] 2).run Try.prog w = .ok (.int .u64 c) w := by kernel_rfl
theorem rpart3 (a b c d : Int) (w : World) : (part 22 #[.int .u64 a, .int .u64 b, .int .u64 c, .int .u64 d] 3).run Try.prog w = .ok (.int .u64 d) w := by kernel_rfl
set_option linter.unusedSimpArgs false in
theorem req_items (a b c d a' b' c' d' : Int) (w : World) : (Op.eqItems 9999 22 1 #[.int .u64 a, .int .u64 b, .int .u64 c, .int .u64 d] #[.int .u64 a', .int .u64 b', .int .u64 c', .int .u64 d'] [0, 1, 2, 3]).run Try.prog w = .ok (a == a' && (b == b' && (c == c' && d == d'))) w := by
  have h := fun (x y : Int) (w : World) => (run_equalIn_int (P := Try.prog) w 9998 22 .u64 .u64 x y Try.underlying22 : (Op.equalIn 9999 22 (.int .u64 x) (.int .u64 y)).run Try.prog w = _)
  simp only [Op.eqItems, Sem.run_bind, rpart0, h, Result.andThen_ok]
  cases ha : a == a' <;> cases hb : b == b' <;> cases hc : c == c' <;> cases hd : d == d' <;> simp [ha, hb, hc, hd, h, rpart1, rpart2, rpart3]
theorem rset_beq (s t : OSet) : (ow s 0 == ow t 0 && (ow s 1 == ow t 1 && (ow s 2 == ow t 2 && ow s 3 == ow t 3))) = decide (s = t) := by
  by_cases h : s = t
  · subst h; simp
  · have h2 := oset_ne h
    rw [decide_eq_false h]
    cases hx : (ow s 0 == ow t 0 && (ow s 1 == ow t 1 && (ow s 2 == ow t 2 && ow s 3 == ow t 3)))
    · rfl
    · exfalso
      simp only [Bool.and_eq_true, beq_iff_eq] at hx
      exact h2 hx
theorem rset_eql (s t : OSet) (w : World) : (Op.equalIn 10000 24 (.agg #[.int .u64 (ow s 0), .int .u64 (ow s 1), .int .u64 (ow s 2), .int .u64 (ow s 3)]) (.agg #[.int .u64 (ow t 0), .int .u64 (ow t 1), .int .u64 (ow t 2), .int .u64 (ow t 3)])).run Try.prog w = .ok (decide (s = t)) w := by
  have hc : Try.prog.cellsOf 22 = 1 := by kernel_rfl
  have hi0 : (Try.prog.info? 22).isSome = true := by kernel_rfl
  obtain ⟨i, hi⟩ := Option.isSome_iff_exists.1 hi0
  rw [run_equalIn_array w 9999 (e := 22) (n := 4) _ _ Try.underlying24 hi]
  rw [hc, show List.range 4 = [0, 1, 2, 3] from rfl, req_items, rset_beq]
theorem blk9 {w : World} {b : Nat} {t : Tr} {a : Option Addr} {cap : Nat} {T : TypeId} (h : Blk w b (tC t a cap) T) : Cl9 w b 0 t a cap :=
  ⟨(h.cell 0).trans rfl, (h.cell 1).trans rfl, (h.cell 2).trans rfl, (h.cell 3).trans rfl, (h.cell 4).trans rfl, (h.cell 5).trans rfl, (h.cell 6).trans rfl, (h.cell 7).trans rfl, (h.cell 8).trans rfl⟩
set_option linter.unusedSimpArgs false in
set_option maxRecDepth 100000 in
set_option maxHeartbeats 4000000 in
theorem rsame_tail (N : Nat) (t u : Tr) (a a2 : Option Addr) (cap cap2 : Nat) (w : World) (h : TrD (N + 1) w t a cap) (h2 : TrD (N + 1) w u a2 cap2)
    (ih : ∀ (t : Tr) (a : Option Addr) (cap : Nat) (u : Tr) (a2 : Option Addr) (cap2 : Nat) (w : World), TrD N w t a cap → TrD N w u a2 cap2 → Calls Try.prog 20 #[tV t a cap, tV u a2 cap2] w fun e w' => e = .returned (.bool (nsame (canon t) (canon u))) ∧ Below w.heap.size w w')
    (b0 : (t.kind != u.kind) = false) (b1 : (t.kind == 1) = false) (b4 : (t.kind == 4) = false) (b5 : (t.kind == 5) = false) (b6 : (t.kind == 6) = false) :
    Calls Try.prog 20 #[tV t a cap, tV u a2 cap2] w fun e w' => e = .returned (.bool (nsames ((tkids t).map canon) ((tkids u).map canon))) ∧ Below w.heap.size w w' := by
  have hW := ((Below.refl w.heap.size w).alloc (Nat.le_refl _) (.cells (tC t a cap) 27)).alloc (by simp) (.cells (tC u a2 cap2) 27)
  have hK1 := fun w' (hb : Below w.heap.size w w') => kids_any N t a cap w' (h.below hb)
  have hK2 := fun w' (hb : Below w.heap.size w w') => kids_any N u a2 cap2 w' (h2.below hb)
  clear h h2
  generalize tkids t = l at hK1 ⊢
  generalize tkids u = m at hK2 ⊢
  unfold tV at hK1 hK2 ⊢
  go_enter Try.func20, Try.ntmps20
  have hU := Blk.new (w.alloc (.cells (tC t a cap) 27)) (tC u a2 cap2) 27 (w.heap.size + 1) (by simp)
  have hlU := hU.lt
  go_upto_region 13 with fail
  go_cut [5, 6] from 44 to 48 (fun x y wx => ∃ a1 c1 a3 c3, x = .slice a1 l.length c1 ∧ y = .slice a3 m.length c3 ∧ RowD N wx l a1 c1 ∧ RowD N wx m a3 c3 ∧ Below w.heap.size w wx)
  case first =>
    clear ih
    go_region_with (first | (go_at_call_of 29 (Tr.kind t); refine (hK1 _ (by first | exact hW | exact Below.drew hW)).mono ?_; rintro e w8 ⟨a1, c1, rfl, hR1, b8⟩; (first | replace hW := hW.trans (b8.mono hW.size) | replace hW := (Below.drew hW).trans (b8.mono hW.size)); (first | replace hU := hU.below b8 hU.lt | replace hU := (Blk.drew hU).below b8 hU.lt); (try clear b8); obtain ⟨q0, q1, q2, q3, q4, q5, q6, q7, q8⟩ := blk9 hU) | (go_at_call_of 29 (Tr.kind u); refine (hK2 _ (by first | exact hW | exact Below.drew hW)).mono ?_; rintro e w9 ⟨a3, c3, rfl, hR2, b9⟩; have hR1' := hR1.below b9; replace hW := hW.trans (b9.mono hW.size); (try clear b9)))
    all_goals go_wp2_with fail
    all_goals go_meet
    all_goals exact ⟨a1, c1, a3, c3, rfl, rfl, hR1', hR2, hW⟩
  case rest =>
    clear hW hU hlU hK1 hK2
    obtain ⟨a1, c1, a3, c3, rfl, rfl, hR1, hR2, hW⟩ := hcut
    have hl1 := hR1.1
    have hl2 := hR1.2.1
    have hm1 := hR2.1
    have hm2 := hR2.2.1
    unfold maxLen at hl2 hm2
    have HR1 := Lib.hid hR1.2.2
    have HR2 := Lib.hid hR2.2.2
    clear hR1 hR2
    by_cases hln : l.length = m.length
    · have e1 : ((l.length : Int) != (m.length : Int)) = false := by simp [hln]
      have Hln := Lib.hid hln
      clear hln
      go_wp2_with fail
      go_loopw [55] (fun i wr => ∃ k : Nat, k ≤ l.length ∧ i = .int .i64 k ∧ nsames ((l.map canon).take k) ((m.map canon).take k) = true ∧ Below wc.heap.size wc wr) (fun i _ => l.length - (intOf i).toNat)
      case atStart => exact ⟨0, by omega, rfl, rfl, Below.refl _ _⟩
      case round =>
        obtain ⟨k, hk, rfl, hsm, hV⟩ := hrel
        have Hsm := Lib.hid hsm
        clear hsm
        by_cases hlt : k < l.length
        · obtain ⟨b, o, rfl, hbl, hx⟩ := HR1.out (by omega)
          have hkm : k < m.length := by have := Hln.out; omega
          obtain ⟨b', o', rfl, hbl', hx'⟩ := HR2.out (by omega)
          obtain ⟨a', cap', h9, hr⟩ := hx k hlt
          obtain ⟨a'', cap'', h9', hr'⟩ := hx' k (by omega)
          have Htk := Lib.hid (nsames_take (l.map canon) (m.map canon) (by simpa using Hln.out) k (by simpa using hlt) (by simp; omega))
          have Hno := Lib.hid (nsames_no (l.map canon) (m.map canon) k (by simpa using hlt) (by simp; omega))
          simp only [List.getElem_map] at Htk Hno
          replace h9 := h9.below hV hbl
          replace h9' := h9'.below hV hbl'
          replace hr := (hr.below hV).below (Below.drew (Below.refl _ _))
          replace hr' := (hr'.below hV).below (Below.drew (Below.refl _ _))
          obtain ⟨c0, c1, c2, c3, c4, c5, c6, c7, c8⟩ := h9
          obtain ⟨d0, d1, d2, d3, d4, d5, d6, d7, d8⟩ := h9'
          clear hx hx'
          have e3 : decide (k < m.length) = true := decide_eq_true hkm
          generalize l[k] = x at *
          generalize m[k] = y at *
          have hI := ih x a' cap' y a'' cap'' _ hr hr'
          unfold tV at hI
          cases hxy : nsame (canon x) (canon y)
          · rw [hxy] at hI
            have Hr := Lib.hid (Hno.out hxy)
            clear hxy
            go_wp2_with fail
            go_region_with (go_at_call 20; refine hI.mono ?_; rintro e w8 ⟨rfl, b8⟩; have hV8 := (Below.drew hV).trans (b8.mono hV.size))
            all_goals go_wp2_with fail
            all_goals go_ret
            all_goals exact ⟨tr_ret_bool (by rw [Hr.out]), hW.trans (hV8.mono hW.size)⟩
          · rw [hxy] at hI
            have Hr := Lib.hid (show nsames ((l.map canon).take (k + 1)) ((m.map canon).take (k + 1)) = true by rw [Htk.out, Hsm.out, hxy]; rfl)
            clear hxy
            go_wp2_with fail
            go_region_with (go_at_call 20; refine hI.mono ?_; rintro e w8 ⟨rfl, b8⟩; have hV8 := (Below.drew hV).trans (b8.mono hV.size))
            all_goals go_wp2_with fail
            all_goals
              go_roundw
              case rel => exact ⟨k + 1, by omega, by go_num, Hr.out, hV8⟩
              case measure => simp [intOf]; omega
        · obtain rfl : k = l.length := by omega
          have Hr := Lib.hid (show nsames (l.map canon) (m.map canon) = true by
            have := Hsm.out
            rw [List.take_of_length_le (by simp), List.take_of_length_le (by have := Hln.out; simp; omega)] at this
            exact this)
          go_wp2_with fail
          go_ret
          exact ⟨tr_ret_bool (by rw [Hr.out]), hW.trans (hV.mono hW.size)⟩
    · have e1 : ((l.length : Int) != (m.length : Int)) = true := by simp; omega
      have Hn := Lib.hid (nsames_len (l.map canon) (m.map canon) (by rw [List.length_map, List.length_map]; exact hln))
      go_wp2_with fail
      go_ret
      exact ⟨tr_ret_bool (by rw [Hn.out]), hW⟩
end Go.Proofs.Ytaekjcbgnlldoaa
