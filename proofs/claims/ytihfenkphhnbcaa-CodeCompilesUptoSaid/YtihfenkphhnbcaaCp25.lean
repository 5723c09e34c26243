/- The proof's texts TrReal, ClS, ClR, OctHeld: what the claim reaches of them. -/
import Derived.Test.YtihfenkphhnbcaaCp06
import Derived.Test.YtihfenkphhnbcaaCp04
import Derived.Test.YtihfenkphhnbcaaCp23
import Derived.Test.YtihfenkphhnbcaaCp24
import Derived.Test.YtihfenkphhnbcaaCp08
import Derived.Test.YtihfenkphhnbcaaCp03
import Derived.Deep.RegionHeld3
import Derived.ChangeKeysEq
namespace Go.Proofs.Ytihfenkphhnbcaa
open Go.RowKit
theorem nd_info : ∃ i, Try.prog.info? 37 = some i ∧ i.zero = some .nilIface ∧ i.size = 1 ∧ i.bytes = 16 := by
  have h : (Try.prog.info? 37).map (fun i => (i.zero, i.size, i.bytes)) = some (some .nilIface, 1, 16) := by kernel_rfl
  obtain ⟨i, hi, he⟩ := Option.map_eq_some_iff.1 h
  injection he with h1 h2
  injection h2 with h2 h3
  exact ⟨i, hi, h1, h2, h3⟩
set_option linter.unusedSimpArgs false in
set_option maxRecDepth 100000 in
set_option maxHeartbeats 4000000 in
theorem lreal_any : ∀ (N : Nat) (t : Tr) (a : Option Addr) (cap : Nat) (w : World), TrD N w t a cap → nsize (canon t) ≤ 4000000 →
    Calls Try.prog 10 #[tV t a cap] w fun e w' => ∃ (T : TypeId) (v : Value), e = .returned (.iface T v) ∧ NdAt (fun b => w.heap.size ≤ b) N w' (canon t) (.iface T v) ∧ Below w.heap.size w w' := by
  intro N
  induction N with
  | zero => intro t a cap w h; exact (trd_zero h).elim
  | succ N ih =>
    intro t a cap w h hb
    obtain ⟨i0, hi, hz0, hz1, hz2⟩ := nd_info
    have hT := (Blk.new w (tC t a cap) 27 _ rfl)
    have hW := (Below.refl w.heap.size w).alloc (Nat.le_refl _) (.cells (tC t a cap) 27)
    have hK := kids_any N t a cap _ (h.below hW)
    have hs := nsize_kids (canon t)
    have hlen := nsizes_length (nkids (canon t))
    rw [canon_kids] at hs hlen
    rw [List.length_map] at hlen
    have Hs := Lib.hid hs
    have Hl := Lib.hid (show (tkids t).length ≤ 4000000 by omega)
    have Hb := Lib.hid hb
    clear hs hb h hlen
    unfold tV at hK ⊢
    go_enter Try.func10, Try.ntmps10
    go_wp2_with fail
    refine hK.mono ?_
    clear hK
    rintro e w1 ⟨a1, cap1, rfl, hR, b1⟩
    replace hW := hW.trans (b1.mono hW.size)
    replace hT := hT.below b1 hT.lt
    have hlT := hT.lt
    clear b1
    have hl1 := hR.1
    have hl2 := hR.2.1
    unfold maxLen at hl2
    have HR := Lib.hid hR.2.2
    clear hR
    go_wp2_with fail
    go_loopw [3, 9] (fun s i wr => ∃ (k : Nat) (us : List Value) (pv : Value), k ≤ (tkids t).length ∧ i = .int .i64 k ∧ pv = s ∧ NdOwn w1.heap.size N wr (((tkids t).map canon).take k) pv us ∧ Below w1.heap.size w1 wr) (fun _ i _ => (tkids t).length - (intOf i).toNat)
    case atStart => exact ⟨0, [], _, by omega, rfl, rfl, NdOwn.nil _ _ _, Below.refl _ _⟩
    case round =>
      obtain ⟨k, us, pv, hk, rfl, hpv, hN, hV⟩ := hrel
      subst hpv
      by_cases hlt : k < (tkids t).length
      · obtain ⟨b, o, rfl, hbl, hx⟩ := HR.out (by omega)
        obtain ⟨a', cap', h9, hr⟩ := hx k hlt
        replace h9 := h9.below hV hbl
        replace hr := hr.below hV
        have hsn := nsizes_take ((tkids t).map canon) k (by simpa using hlt)
        have hle := nsizes_le ((tkids t).map canon) (k + 1)
        have hA := Hs.out
        have hB := Hb.out
        rw [List.getElem_map] at hsn
        have Htk := Lib.hid (show ((tkids t).map canon).take (k + 1) = ((tkids t).map canon).take k ++ [canon (tkids t)[k]] by
          rw [List.take_succ_eq_append_getElem (by simpa using hlt), List.getElem_map])
        obtain ⟨c0, c1, c2, c3, c4, c5, c6, c7, c8⟩ := h9
        clear hx
        generalize (tkids t)[k] = x at *
        have hx2 : nsize (canon x) ≤ 4000000 := by omega
        clear hsn hle hA hB
        go_wp2_with fail
        refine (ih x a' cap' _ (hr.below ((Below.refl wr.heap.size wr).alloc (Nat.le_refl _) _)) hx2).mono ?_
        rintro e w2 ⟨T, u, rfl, hu, b2⟩
        have hbw : Below wr.heap.size wr w2 := ((Below.refl wr.heap.size wr).alloc (Nat.le_refl _) _).trans (b2.mono (by simp))
        have hN2 := hN.below hbw
        have hlt2 := hN.lt
        have hu2 : NdAt (fun b => w1.heap.size ≤ b ∧ pv.ownBlock ≠ some b) N w2 (canon x) (.iface T u) := NdAt.wider (fun b hb _ => by
          simp at hb
          have := hV.size
          exact ⟨by omega, fun he => by have := hlt2 b he; omega⟩) _ _ _ hu
        have hV2 := hV.trans (hbw.mono hV.size)
        have hNn := hN2
        obtain ⟨hul, hown, hel⟩ := hN2
        have hlu : us.length ≤ 4000000 := by
          have := Hl.out
          rw [hul, List.length_take, List.length_map]
          omega
        clear hN hu b2 hbw hel hul c0 c1 c2 c3 c4 c5 c6 c7 c8 hr hlt2
        go_wp2_with (at_builtin; refine wpList_append_own_at _ rfl _ _ 68 rfl w1.heap.size 37 i0 .nilIface 1 16 Try.underlying68 hi hz0 hz1 hz2 rfl (by decide) _ _ _ rfl (hown.alloc _) ⟨w2.heap.size, 0, none⟩ 1 1 [.iface T u] rfl rfl ?c1 ?c2 ?c3 ?c4 ?c5 ?_)
        case c1 =>
          intro j y hj
          match j, hj with
          | 0, hj => simp at hj; subst hj; simp [Addr.add]
        case c2 => intro y hy; simp at hy; subst hy; rfl
        case c3 => unfold maxLen; omega
        case c4 => omega
        case c5 => simp; have := hV2.size; omega
        · intro v' w3 hown' hgrow _ hob
          have hN3 := (hNn.below ((Below.refl w2.heap.size w2).alloc (Nat.le_refl _) _)).push (NdAt.below ((Below.refl w2.heap.size w2).alloc (Nat.le_refl _) _) _ _ _ hu2) hown' hgrow (by simpa using hob)
          have hlt3 := hNn.lt
          have hV3 : Below w1.heap.size w1 w3 := hV2.trans (((Below.refl w1.heap.size w2).alloc hV2.size _).grown hgrow (by simp; have := hV2.size; omega) (fun j hj => by
            have := own_of hNn.2.1 j hj
            exact this))
          go_wp2_with fail
          go_roundw
          case rel => exact ⟨k + 1, us ++ [.iface T u], v', by omega, by go_num, rfl, by rw [Htk.out]; exact hN3, hV3⟩
          case measure => simp [intOf]; omega
      · obtain rfl : k = (tkids t).length := by omega
        have hT2 := hT.below hV hlT
        have t0 := (hT2.cell 0).trans rfl
        have t1 := (hT2.cell 1).trans rfl
        have t2 := (hT2.cell 2).trans rfl
        have t3 := (hT2.cell 3).trans rfl
        have t4 := (hT2.cell 4).trans rfl
        have t6 := (hT2.cell 6).trans rfl
        have t7 := (hT2.cell 7).trans rfl
        have t8 := (hT2.cell 8).trans rfl
        rw [List.take_of_length_le (by simp)] at hN
        have hWV := hW.trans (hV.mono hW.size)
        have hwide : ∀ b, w1.heap.size ≤ b → b < wr.heap.size → w.heap.size ≤ b := fun b hb _ => Nat.le_trans hW.size hb
        clear hT hT2 HR Hs
        by_cases k1 : t.kind = 1
        · have Hc := Lib.hid (canon_1 t k1)
          have b1 : (t.kind == 1) = true := by simp [k1]
          have b2 : (t.kind == 2) = false := by simp [k1]
          have b3 : (t.kind == 3) = false := by simp [k1]
          have b4 : (t.kind == 4) = false := by simp [k1]
          have b5 : (t.kind == 5) = false := by simp [k1]
          have b6 : (t.kind == 6) = false := by simp [k1]
          have b7 : (t.kind == 7) = false := by simp [k1]
          have b8 : (t.kind == 8) = false := by simp [k1]
          clear k1
          go_wp2_with fail
          go_ret
          refine ⟨_, _, rfl, ?_, hWV⟩
          rw [Hc.out]
          rfl
        by_cases k2 : t.kind = 2
        · have Hc := Lib.hid (canon_2 t k2)
          have b1 : (t.kind == 1) = false := by simp [k2]
          have b2 : (t.kind == 2) = true := by simp [k2]
          have b3 : (t.kind == 3) = false := by simp [k2]
          have b4 : (t.kind == 4) = false := by simp [k2]
          have b5 : (t.kind == 5) = false := by simp [k2]
          have b6 : (t.kind == 6) = false := by simp [k2]
          have b7 : (t.kind == 7) = false := by simp [k2]
          have b8 : (t.kind == 8) = false := by simp [k2]
          clear k2
          obtain ⟨ca, ccap, rfl, hRow⟩ := hN.row
          go_wp2_with fail
          go_ret
          refine ⟨_, _, rfl, ?_, hWV⟩
          rw [Hc.out]
          exact ⟨ca, ccap, by rw [List.length_map], hRow.1, hRow.2.1, (hRow.wider hwide).2.2⟩
        by_cases k3 : t.kind = 3
        · have Hc := Lib.hid (canon_3 t k3)
          have b1 : (t.kind == 1) = false := by simp [k3]
          have b2 : (t.kind == 2) = false := by simp [k3]
          have b3 : (t.kind == 3) = true := by simp [k3]
          have b4 : (t.kind == 4) = false := by simp [k3]
          have b5 : (t.kind == 5) = false := by simp [k3]
          have b6 : (t.kind == 6) = false := by simp [k3]
          have b7 : (t.kind == 7) = false := by simp [k3]
          have b8 : (t.kind == 8) = false := by simp [k3]
          clear k3
          obtain ⟨ca, ccap, rfl, hRow⟩ := hN.row
          go_wp2_with fail
          go_ret
          refine ⟨_, _, rfl, ?_, hWV⟩
          rw [Hc.out]
          exact ⟨ca, ccap, by rw [List.length_map], hRow.1, hRow.2.1, (hRow.wider hwide).2.2⟩
        by_cases k4 : t.kind = 4
        · have Hc := Lib.hid (canon_4 t k4).1
          have b1 : (t.kind == 1) = false := by simp [k4]
          have b2 : (t.kind == 2) = false := by simp [k4]
          have b3 : (t.kind == 3) = false := by simp [k4]
          have b4 : (t.kind == 4) = true := by simp [k4]
          have b5 : (t.kind == 5) = false := by simp [k4]
          have b6 : (t.kind == 6) = false := by simp [k4]
          have b7 : (t.kind == 7) = false := by simp [k4]
          have b8 : (t.kind == 8) = false := by simp [k4]
          have hkd := (canon_4 t k4).2
          clear k4
          rw [hkd] at hN
          have hln : (tkids t).length = 1 := by rw [hkd]; rfl
          clear hkd
          obtain ⟨ca, ccap, rfl, hRow⟩ := hN.row
          obtain ⟨cb, co, rfl, _, hcb, hel⟩ := (hRow.wider hwide).2.2 (by simp)
          obtain ⟨u, hu, hru⟩ := hel 0 (by simp)
          have hcap := hRow.1
          have hcap2 := hRow.2.1
          unfold maxLen at hcap2
          simp only [List.map_cons, List.map_nil, List.length_cons, List.length_nil, Nat.zero_add, Nat.add_zero, List.getElem_cons_zero] at hu hru hcap
          clear hN hel hRow
          rcases nd_shape hru with ⟨uT, up, rfl⟩ | rfl
          · go_wp2_with fail
            go_region; all_goals go_wp2_with fail; all_goals go_ret; all_goals refine ⟨_, _, rfl, ?_, Below.drew hWV⟩; all_goals rw [Hc.out]; all_goals exact ⟨_, rfl, NdAt.below (Below.drew (Below.refl _ _)) _ _ _ hru⟩
          · go_wp2_with fail
            go_region; all_goals go_wp2_with fail; all_goals go_ret; all_goals refine ⟨_, _, rfl, ?_, Below.drew hWV⟩; all_goals rw [Hc.out]; all_goals exact ⟨_, rfl, NdAt.below (Below.drew (Below.refl _ _)) _ _ _ hru⟩
        by_cases k5 : t.kind = 5
        · have Hc := Lib.hid (canon_5 t k5).1
          have b1 : (t.kind == 1) = false := by simp [k5]
          have b2 : (t.kind == 2) = false := by simp [k5]
          have b3 : (t.kind == 3) = false := by simp [k5]
          have b4 : (t.kind == 4) = false := by simp [k5]
          have b5 : (t.kind == 5) = true := by simp [k5]
          have b6 : (t.kind == 6) = false := by simp [k5]
          have b7 : (t.kind == 7) = false := by simp [k5]
          have b8 : (t.kind == 8) = false := by simp [k5]
          have hkd := (canon_5 t k5).2
          clear k5
          rw [hkd] at hN
          have hln : (tkids t).length = 1 := by rw [hkd]; rfl
          clear hkd
          obtain ⟨ca, ccap, rfl, hRow⟩ := hN.row
          obtain ⟨cb, co, rfl, _, hcb, hel⟩ := (hRow.wider hwide).2.2 (by simp)
          obtain ⟨u, hu, hru⟩ := hel 0 (by simp)
          have hcap := hRow.1
          have hcap2 := hRow.2.1
          unfold maxLen at hcap2
          simp only [List.map_cons, List.map_nil, List.length_cons, List.length_nil, Nat.zero_add, Nat.add_zero, List.getElem_cons_zero] at hu hru hcap
          clear hN hel hRow
          rcases nd_shape hru with ⟨uT, up, rfl⟩ | rfl
          · go_wp2_with fail
            go_region; all_goals go_wp2_with fail; all_goals go_ret; all_goals refine ⟨_, _, rfl, ?_, Below.drew hWV⟩; all_goals rw [Hc.out]; all_goals exact ⟨_, rfl, NdAt.below (Below.drew (Below.refl _ _)) _ _ _ hru⟩
          · go_wp2_with fail
            go_region; all_goals go_wp2_with fail; all_goals go_ret; all_goals refine ⟨_, _, rfl, ?_, Below.drew hWV⟩; all_goals rw [Hc.out]; all_goals exact ⟨_, rfl, NdAt.below (Below.drew (Below.refl _ _)) _ _ _ hru⟩
        by_cases k6 : t.kind = 6
        · have Hc := Lib.hid (canon_6 t k6)
          have b1 : (t.kind == 1) = false := by simp [k6]
          have b2 : (t.kind == 2) = false := by simp [k6]
          have b3 : (t.kind == 3) = false := by simp [k6]
          have b4 : (t.kind == 4) = false := by simp [k6]
          have b5 : (t.kind == 5) = false := by simp [k6]
          have b6 : (t.kind == 6) = true := by simp [k6]
          have b7 : (t.kind == 7) = false := by simp [k6]
          have b8 : (t.kind == 8) = false := by simp [k6]
          clear k6
          go_wp2_with fail
          go_ret
          refine ⟨_, _, rfl, ?_, hWV⟩
          rw [Hc.out]
          rfl
        by_cases k7 : t.kind = 7
        · have Hc := Lib.hid (canon_7 t k7)
          have b1 : (t.kind == 1) = false := by simp [k7]
          have b2 : (t.kind == 2) = false := by simp [k7]
          have b3 : (t.kind == 3) = false := by simp [k7]
          have b4 : (t.kind == 4) = false := by simp [k7]
          have b5 : (t.kind == 5) = false := by simp [k7]
          have b6 : (t.kind == 6) = false := by simp [k7]
          have b7 : (t.kind == 7) = true := by simp [k7]
          have b8 : (t.kind == 8) = false := by simp [k7]
          clear k7
          go_wp2_with fail
          go_ret
          refine ⟨_, _, rfl, ?_, hWV⟩
          rw [Hc.out]
          rfl
        by_cases k8 : t.kind = 8
        · have Hc := Lib.hid (canon_8 t k8)
          have b1 : (t.kind == 1) = false := by simp [k8]
          have b2 : (t.kind == 2) = false := by simp [k8]
          have b3 : (t.kind == 3) = false := by simp [k8]
          have b4 : (t.kind == 4) = false := by simp [k8]
          have b5 : (t.kind == 5) = false := by simp [k8]
          have b6 : (t.kind == 6) = false := by simp [k8]
          have b7 : (t.kind == 7) = false := by simp [k8]
          have b8 : (t.kind == 8) = true := by simp [k8]
          clear k8
          go_wp2_with fail
          go_ret
          refine ⟨_, _, rfl, ?_, hWV⟩
          rw [Hc.out]
          rfl
        have Hc := Lib.hid (canon_0 t k1 k2 k3 k4 k5 k6 k7 k8)
        have b1 : (t.kind == 1) = false := by simp [k1]
        have b2 : (t.kind == 2) = false := by simp [k2]
        have b3 : (t.kind == 3) = false := by simp [k3]
        have b4 : (t.kind == 4) = false := by simp [k4]
        have b5 : (t.kind == 5) = false := by simp [k5]
        have b6 : (t.kind == 6) = false := by simp [k6]
        have b7 : (t.kind == 7) = false := by simp [k7]
        have b8 : (t.kind == 8) = false := by simp [k8]
        clear k1 k2 k3 k4 k5 k6 k7 k8
        go_wp2_with fail
        go_ret
        refine ⟨_, _, rfl, ?_, hWV⟩
        rw [Hc.out]
        exact Or.inl rfl
end Go.Proofs.Ytihfenkphhnbcaa
namespace Go.Proofs.Ytihfenkphhnbcaa
open Go Go.RowKit
set_option linter.unusedSimpArgs false in
set_option maxRecDepth 100000 in
set_option maxHeartbeats 4000000 in
theorem right7 (N : Nat) (t : Tr) (a : Option Addr) (cap : Nat) (w : World) (h : TrD N w t a cap) (hkn : tknown t = true) (hb : ngroups (canon t) ≤ 4000000) :
    Calls Try.prog 16 #[tV t a cap] w fun e w' => e = .returned (.bool (nrightB (canon t))) ∧ Below w.heap.size w w' := by
  have hW := (Below.refl w.heap.size w).alloc (Nat.le_refl _) (.cells (tC t a cap) 27)
  have hI := rright_any N t a cap 0 [] none 0 _ (h.below hW) hkn (IntsAt.nil _) (by omega) (by omega) (by simp; exact hb)
  unfold nrightB
  generalize nright (canon t) 0 [] = R at hI ⊢
  clear h
  unfold tV at hI ⊢
  simp only [List.length_nil] at hI
  go_enter Try.func16, Try.ntmps16
  go_wp2_with fail
  refine hI.mono ?_
  clear hI
  rintro e w1 ⟨he, b1⟩
  cases R with
  | none =>
    replace he : e = _ := he
    subst he
    go_wp2_with fail
    go_ret
    exact ⟨rfl, hW.trans (b1.mono hW.size)⟩
  | some q =>
    obtain ⟨a9, cap9, rfl, h9⟩ := he
    clear h9
    go_wp2_with fail
    go_ret
    exact ⟨rfl, hW.trans (b1.mono hW.size)⟩
theorem trd7 {n : Nat} {w : World} {t : Tr} {a : Option Addr} {cap : Nat} (h : TrAt n w t a cap) : ∃ N, TrD N w t a cap := ⟨2 * n + 1, n, h, by have := kb_le t; omega⟩
theorem real7 {N : Nat} {t : Tr} {a : Option Addr} {cap : Nat} {w : World} (h : TrD N w t a cap) (hs : nsize (canon t) ≤ 4000000) :
    Calls Try.prog 10 #[tV t a cap] w fun e w' => ∃ (T : TypeId) (v : Value), e = .returned (.iface T v) ∧ NdX (fun b => b < w'.heap.size) w' (canon t) (.iface T v) ∧ Below w.heap.size w w' := by
  refine (lreal_any N t a cap w h hs).mono ?_
  rintro e w' ⟨T, v, rfl, hd, hb⟩
  exact ⟨T, v, rfl, NdX.keep (F := fun b => w.heap.size ≤ b) (Nat.le_refl _) (fun b _ hl => ⟨hl, fun _ => rfl⟩) ⟨N, hd⟩, hb⟩
end Go.Proofs.Ytihfenkphhnbcaa
namespace Go.Proofs.Ytihfenkphhnbcaa
open Go Go.RowKit
theorem few_small {t : Tr} (h : (decide (tall t ≤ 100) && tknown t) = true) : tall t ≤ 100 ∧ tknown t = true := by
  rw [Bool.and_eq_true, decide_eq_true_eq] at h
  exact h
end Go.Proofs.Ytihfenkphhnbcaa
namespace Go.Proofs.Ytihfenkphhnbcaa
open Go Go.RowKit
def DCompOk (w : World) (d : Nd) (e : Ending) (w' : World) : Prop :=
  Below w.heap.size w w' ∧ ((nrightB d = false ∧ e = .returned (.tuple #[PrV nilS 0 0 false, .int .i64 2])) ∨
    (nrightB d = true ∧ 3000 < csz d + 3 ∧ e = .returned (.tuple #[PrV nilS 0 0 false, .int .i64 3])) ∨
    (nrightB d = true ∧ csz d + 3 ≤ 3000 ∧ ∃ iv, e = .returned (.tuple #[PrV iv (ngroups d : Int) (clp d : Int) (nbacks d), .int .i64 0]) ∧ w'.ownsRow w.heap.size 84 7 iv (prg d).length (inF (prg d))))
theorem blk_grown {w w' : World} {p q : Nat} {cs : Array Value} {T : TypeId} (h : Blk w p cs T) (hg : w.grownBy w' (some q)) (hne : p ≠ q) : Blk w' p cs T := by
  have hl := h.lt
  unfold Blk at h ⊢
  rw [hg.block p hl (fun e => by injection e with e; exact hne e)]
  exact h
theorem blk_grown' {w w' : World} {p : Nat} {r : Option Nat} {cs : Array Value} {T : TypeId} (h : Blk w p cs T) (hg : w.grownBy w' r) (hne : r ≠ some p) : Blk w' p cs T := by
  have hl := h.lt
  unfold Blk at h ⊢
  rw [hg.block p hl (fun e => hne e.symm)]
  exact h
theorem cn_prg (d : Nd) : (prg d).length = csz d + 3 ∧ (∀ L K, (L, K) = ([ins 3 0 0] ++ cd d 1 0, clp d) → L ++ [ins 3 1 0, ins 9 0 0] = prg d) := by
  refine ⟨prg_len d, fun L K h => ?_⟩
  injection h with h1 h2
  rw [h1]
  simp [prg]
theorem dl_prg (d : Nd) : (dl d [ins 3 0 0] 0 = ([ins 3 0 0] ++ cd d 1 0, clp d)) ∨ (3000 < (dl d [ins 3 0 0] 0).1.length ∧ 3000 < csz d + 1) := by
  rcases (dl_lays d).eqv [ins 3 0 0] 0 with h | ⟨h1, h2⟩
  · refine .inl ?_
    simpa using h
  · refine .inr ⟨h1, ?_⟩
    simp only [List.length_append, cd_len, List.length_cons, List.length_nil] at h2
    omega
abbrev C9 (w : World) (p : Nat) (v0 v1 v2 v3 v4 v5 v6 v7 v8 : Value) : Prop := w.cell? ⟨p, 0, none⟩ = some v0 ∧ w.cell? ⟨p, 1, none⟩ = some v1 ∧ w.cell? ⟨p, 2, none⟩ = some v2 ∧ w.cell? ⟨p, 3, none⟩ = some v3 ∧ w.cell? ⟨p, 4, none⟩ = some v4 ∧ w.cell? ⟨p, 5, none⟩ = some v5 ∧ w.cell? ⟨p, 6, none⟩ = some v6 ∧ w.cell? ⟨p, 7, none⟩ = some v7 ∧ w.cell? ⟨p, 8, none⟩ = some v8
theorem C9.of {w : World} {p : Nat} {T : TypeId} {v0 v1 v2 v3 v4 v5 v6 v7 v8 : Value} (h : Blk w p #[v0, v1, v2, v3, v4, v5, v6, v7, v8] T) : C9 w p v0 v1 v2 v3 v4 v5 v6 v7 v8 :=
  ⟨(h.cell 0).trans rfl, (h.cell 1).trans rfl, (h.cell 2).trans rfl, (h.cell 3).trans rfl, (h.cell 4).trans rfl, (h.cell 5).trans rfl, (h.cell 6).trans rfl, (h.cell 7).trans rfl, (h.cell 8).trans rfl⟩
theorem C9.drew {w : World} {p : Nat} {v0 v1 v2 v3 v4 v5 v6 v7 v8 : Value} (h : C9 w p v0 v1 v2 v3 v4 v5 v6 v7 v8) : C9 w.drew p v0 v1 v2 v3 v4 v5 v6 v7 v8 := h
theorem C9.put4 {w : World} {p r : Nat} {v0 v1 v2 v3 v4 v5 v6 v7 v8 u0 u1 u2 u3 : Value} (h : C9 w p v0 v1 v2 v3 v4 v5 v6 v7 v8) (n1 : p ≠ r) : C9 ((((w.setCell ⟨r, 0, none⟩ u0).setCell ⟨r, 1, none⟩ u1).setCell ⟨r, 2, none⟩ u2).setCell ⟨r, 3, none⟩ u3) p v0 v1 v2 v3 v4 v5 v6 v7 v8 := by
  obtain ⟨h0, h1, h2, h3, h4, h5, h6, h7, h8⟩ := h
  have e : ∀ (w : World) (j i : Nat) (v : Value), (w.setCell ⟨r, j, none⟩ v).cell? ⟨p, i, none⟩ = w.cell? ⟨p, i, none⟩ := fun w j i v => World.cell?_of_block (w := w) (Below.heap_setCell _ _ _ _ (fun e => n1 e))
  simp only [C9, e]
  exact ⟨h0, h1, h2, h3, h4, h5, h6, h7, h8⟩
structure DCs (w : World) (p : Nat) (t : Tr) (a : Option Addr) (cap : Nat) (v : Value) (l : List Inn) (W : World) : Prop where
  b : Below w.heap.size w W
  t : Blk W w.heap.size #[.int .i64 t.kind, .int .u64 (ow t.set 0), .int .u64 (ow t.set 1), .int .u64 (ow t.set 2), .int .u64 (ow t.set 3), .slice a t.parts.length cap, .int .i64 t.mn, .int .i64 t.mx, .int .i64 t.num] 27
  k : Blk W p #[nilS, .int .i64 0, .int .i64 0, .bool false] 41
  r : W.ownsRow w.heap.size 84 7 v l.length (inF l)
theorem DCs.step {w : World} {p : Nat} {t : Tr} {a : Option Addr} {cap : Nat} {v : Value} {l : List Inn} {W W' : World} (h : DCs w p t a cap v l W) (b : Below W.heap.size W W') : DCs w p t a cap v l W' :=
  ⟨h.b.trans (b.mono h.b.size), h.t.below b h.t.lt, h.k.below b h.k.lt, nd_own_below h.r b⟩
set_option linter.unusedVariables false in
set_option linter.unusedSimpArgs false in
set_option maxRecDepth 100000 in
set_option maxHeartbeats 4000000 in
theorem dcompile_any (N : Nat) (t : Tr) (a : Option Addr) (cap : Nat) (w : World) (h : TrD N w t a cap) (hkn : tknown t = true) (hsz : nsize (canon t) ≤ 10000) : Calls Try.prog 11 #[tV t a cap] w (DCompOk w (canon t)) := by
  obtain ⟨W1, hW1⟩ : ∃ W1, w.alloc (.cells (tC t a cap) 27) = W1 := ⟨_, rfl⟩
  have hT := Blk.new w (tC t a cap) 27 _ rfl
  have hb1 := (Below.refl w.heap.size w).alloc (Nat.le_refl _) (.cells (tC t a cap) 27)
  have hs1 : (w.alloc (.cells (tC t a cap) 27)).heap.size = w.heap.size + 1 := by simp
  rw [hW1] at hT hb1 hs1
  obtain ⟨p, hp⟩ : ∃ p, W1.heap.size = p := ⟨_, rfl⟩
  have hps : p = w.heap.size + 1 := by omega
  obtain ⟨W2, hW2⟩ : ∃ W2, W1.alloc (.cells #[nilS, .int .i64 0, .int .i64 0, .bool false] 41) = W2 := ⟨_, rfl⟩
  have hP := Blk.new W1 #[nilS, .int .i64 0, .int .i64 0, .bool false] 41 p hp.symm
  have hb2 := hb1.alloc hb1.size (.cells #[nilS, .int .i64 0, .int .i64 0, .bool false] 41)
  unfold tC at hT
  replace hT := hT.alloc (.cells #[nilS, .int .i64 0, .int .i64 0, .bool false] 41)
  rw [hW2] at hP hb2 hT
  have hg := ngroups_size (canon t)
  have hRt := right7 N t a cap W2 (h.below hb2) hkn (by omega)
  have hW1' : w.alloc (.cells #[.int .i64 t.kind, .int .u64 (ow t.set 0), .int .u64 (ow t.set 1), .int .u64 (ow t.set 2), .int .u64 (ow t.set 3), .slice a t.parts.length cap, .int .i64 t.mn, .int .i64 t.mx, .int .i64 t.num] 27) = W1 := hW1
  obtain ⟨q0, q1, q2, q3, q4, q5, q6, q7, q8⟩ := blk9 (t := t) (a := a) (cap := cap) hT
  obtain ⟨z0, z1, z2, z3, v0, v1, v2, v3, hz⟩ := blk4 hP
  have HP := Lib.hid hP
  have HT := Lib.hid hT
  have HB := Lib.hid hb2
  have H := Lib.hid h
  have Hps := Lib.hid hps
  clear hP hT hb1 hb2 hs1 h hW1 hkn hps hz z0 z1 z2 z3 v0 v1 v2 v3
  cases hr : nrightB (canon t) with
  | false =>
    rw [hr] at hRt
    have HR := Lib.hid hr
    unfold tV at hRt ⊢
    clear hr
    go_enter Try.func11, Try.ntmps11
    go_upto_region 2 with (go_at_call 16; refine hRt.mono ?_; rintro e w1 ⟨rfl, b1⟩)
    have b01 := HB.out.trans (b1.mono HB.out.size)
    have hR1 := HP.out.below b1 HP.out.lt
    obtain ⟨z0, z1, z2, z3, v0, v1, v2, v3, hz⟩ := blk4 hR1
    have HB := Lib.hid b01
    have HK := Lib.hid hR1
    clear b1 b01 hR1 hRt
    go_wp2_with fail
    first
      | (with_reducible refine post4 HB.out HK.out (by have := Hps.out; omega) ?_; intro w9 hB9 hk9 hs9 hz9)
      | (have hB9 := HB.out; have hk9 := HK.out; generalize w1 = w9 at *)
    clear z0 z1 z2 z3 v0 v1 v2 v3 hz
    obtain ⟨z0, z1, z2, z3, _⟩ := blk4 hk9
    refine bodyPost_ret (v := .tuple #[PrV nilS 0 0 false, .int .i64 2]) (by simp [results, Try.results11, go_sem, z0, z1, z2, z3]) rfl ?_
    exact ⟨hB9, .inl ⟨HR.out, rfl⟩⟩
  | true =>
    have hcok := nrightB_cok hr (by omega)
    rw [hr] at hRt
    have HR := Lib.hid hr
    have hGr := fun (W : World) (hb : Below w.heap.size w W) => rgroups_any N t a cap W (H.out.below hb) (by omega)
    have hBk := fun (W : World) (hb : Below w.heap.size w W) => rbacks_any N t a cap W (H.out.below hb)
    obtain ⟨i0, hi, hz0, hz1, hz2⟩ := dinst_info
    unfold tV at hRt hGr hBk ⊢
    have HGr := Lib.hid hGr
    have HBk := Lib.hid hBk
    clear hr hGr hBk
    go_enter Try.func11, Try.ntmps11
    go_upto_region 3 with (go_at_call 16; refine hRt.mono ?_; rintro e w1 ⟨rfl, b1⟩)
    clear hRt
    have b01 := HB.out.trans (b1.mono HB.out.size)
    have k1 := HP.out.below b1 HP.out.lt
    have t1 := HT.out.below b1 HT.out.lt
    obtain ⟨g, hgs⟩ : ∃ g, w1.heap.size = g := ⟨_, rfl⟩
    have hpg : p < g := by have := k1.lt; omega
    obtain ⟨W4, hW4⟩ : ∃ W4, w1.alloc (.cells #[.int .i64 3, .int .u64 0, .int .u64 0, .int .u64 0, .int .u64 0, .int .i64 0, .int .i64 0] 84) = W4 := ⟨_, rfl⟩
    have hrow : DRow w W4 [ins 3 0 0] (.slice (some ⟨g, 0, none⟩) 1 1) := by
      have := World.ownsRow_lit (base := w.heap.size) (size := 7) (e := 84) w1 (inC (ins 3 0 0)).toArray 1 b01.size (by decide) rfl
      rw [inC_ins, hW4, hgs] at this
      unfold DRow
      rw [show inF [ins 3 0 0] = (inC (ins 3 0 0)).toArray.toList by simp [inF], inC_ins]
      exact this
    have b4 := b01.alloc b01.size (.cells #[.int .i64 3, .int .u64 0, .int .u64 0, .int .u64 0, .int .u64 0, .int .i64 0, .int .i64 0] 84)
    have t4 := t1.alloc (.cells #[.int .i64 3, .int .u64 0, .int .u64 0, .int .u64 0, .int .u64 0, .int .i64 0, .int .i64 0] 84)
    have k4 := k1.alloc (.cells #[.int .i64 3, .int .u64 0, .int .u64 0, .int .u64 0, .int .u64 0, .int .i64 0, .int .i64 0] 84)
    have hg4 : (w1.alloc (.cells #[.int .i64 3, .int .u64 0, .int .u64 0, .int .u64 0, .int .u64 0, .int .i64 0, .int .i64 0] 84)).heap.size = g + 1 := by simp [hgs]
    rw [hW4] at b4 t4 k4 hg4
    have hL := lay_all N t a cap w W4 [ins 3 0 0] 0 (.slice (some ⟨g, 0, none⟩) 1 1) H.out b4 hrow (by simp; omega) (by simp) hcok
    have hdp := dl_prg (canon t)
    have hfew := dl_few (canon t) [ins 3 0 0] 0
    simp only [List.length_cons, List.length_nil] at hfew
    obtain ⟨R, hRe⟩ : ∃ R, dl (canon t) [ins 3 0 0] 0 = R := ⟨_, rfl⟩
    rw [hRe] at hL hdp hfew
    obtain ⟨L, K⟩ := R
    simp only at hfew hdp
    obtain ⟨M, hM⟩ : ∃ M, L.length + 2 = M := ⟨_, rfl⟩
    have hm3 : M ≤ maxLen := by unfold maxLen; omega
    have hm4 : M * 56 ≤ 140737488355328 := by omega
    unfold tV at hL
    rw [show (((0 : Nat) : Int)) = 0 from rfl] at hL
    clear q0 q1 q2 q3 q4 q5 q6 q7 q8
    obtain ⟨q0, q1, q2, q3, q4, q5, q6, q7, q8⟩ := blk9 (t := t) (a := a) (cap := cap) t4
    have T4 := Lib.hid t4
    have K4 := Lib.hid k4
    have B4 := Lib.hid b4
    have Hgs := Lib.hid hg4
    have Hpg := Lib.hid hpg
    have Hdp := Lib.hid hdp
    have HM := Lib.hid hM
    clear t4 k4 b4 hg4 hpg hdp hRe hfew b1 b01 k1 t1 hrow hcok hM
    go_upto_region 4 with (go_at_call 26; refine hL.mono ?_; clear hL; rintro e w5 ⟨v5, rfl, g2, g3, g4⟩)
    obtain ⟨va, vc, rfl⟩ := co_form g2
    replace g3 : W4.grownBy w5 (some g) := g3
    have hown : ∀ b, (Value.slice va L.length vc).ownBlock = some b → g ≤ b := fun b hb => by
      rcases g4 with e | ⟨x, e, hx⟩
      · rw [e] at hb; replace hb : some g = some b := hb; injection hb with hb; omega
      · rw [e] at hb; injection hb with hb; have := Hgs.out; omega
    have t5 := blk_grown T4.out g3 (by have := Hpg.out; have := Hps.out; omega)
    have k5 := blk_grown K4.out g3 (by have := Hpg.out; omega)
    have b5 := B4.out.grown g3 B4.out.size (fun b hb => by injection hb with hb; have := Hpg.out; have := Hps.out; omega)
    have hB5 : w.heap.size ≤ (w5.alloc (.cells (inC (ins 3 1 0) ++ inC (ins 9 0 0)).toArray 84)).heap.size := by have := b5.size; simp; omega
    rw [in2_ins] at hB5
    have G2 := Lib.hid g2
    have T5 := Lib.hid t5
    have K5 := Lib.hid k5
    have B5 := Lib.hid b5
    have Hown := Lib.hid hown
    clear g2 g3 g4 t5 k5 b5 hown q0 q1 q2 q3 q4 q5 q6 q7 q8
    go_upto_region 5 with (at_builtin; go_loud (refine wpList_append_own_at _ rfl _ _ 39 rfl w.heap.size 84 i0 (.agg #[.int .i64 0, .int .u64 0, .int .u64 0, .int .u64 0, .int .u64 0, .int .i64 0, .int .i64 0]) 7 56 Try.underlying39 hi hz0 hz1 hz2 rfl (by decide) (.slice va L.length vc) L.length (inF L) rfl (nd_own_below G2.out ((Below.refl _ w5).alloc (Nat.le_refl _) _)) ⟨w5.heap.size, 0, none⟩ 2 2 (inC (ins 3 1 0) ++ inC (ins 9 0 0)) rfl rfl (by rw [← in2_ins]; exact in2_new w5 (ins 3 1 0) (ins 9 0 0) _) (in2_one _ _) (by rw [HM.out]; exact hm3) (by rw [HM.out]; exact hm4) hB5 ?_; intro v8 w8 hown8 hgr8 _ hat8))
    have hS8 : DCs w p t a cap v8 (L ++ [ins 3 1 0, ins 9 0 0]) w8 := by
      refine ⟨(B5.out.alloc B5.out.size _).grown hgr8 (by have := B5.out.size; simp; omega) (fun b hb => by have := Hown.out b hb; have := Hpg.out; have := Hps.out; omega), blk_grown' (T5.out.alloc _) hgr8 (fun e => by have := Hown.out _ e; have := Hpg.out; have := Hps.out; omega), blk_grown' (K5.out.alloc _) hgr8 (fun e => by have := Hown.out _ e; have := Hpg.out; omega), ?_⟩
      have e : inF (L ++ [ins 3 1 0, ins 9 0 0]) = inF L ++ (inC (ins 3 1 0) ++ inC (ins 9 0 0)) := by rw [show L ++ [ins 3 1 0, ins 9 0 0] = (L ++ [ins 3 1 0]) ++ [ins 9 0 0] by simp, inF_snoc, inF_snoc, List.append_assoc]
      rw [e, show (L ++ [ins 3 1 0, ins 9 0 0]).length = L.length + 2 by simp]
      exact hown8
    have h8b : ∀ b, v8.ownBlock = some b → p < b := fun b hb => by
      have := Hpg.out
      rcases hat8 with e | e
      · rw [e] at hb; have := Hown.out b hb; omega
      · rw [e] at hb; injection hb with hb
        have := K5.out.lt
        simp at hb
        omega
    have hl8 : (L ++ [ins 3 1 0, ins 9 0 0]).length = M := by rw [← HM.out]; simp
    obtain ⟨xa, xc, rfl⟩ := co_form hS8.r
    rw [hl8] at hS8 h8b ⊢
    have H8 := Lib.hid hS8
    have H8b := Lib.hid h8b
    have Hl8 := Lib.hid hl8
    clear hown8 hgr8 hat8 hS8 h8b hl8 hB5
    obtain ⟨z0, z1, z2, z3, v0, v1, v2, v3, hz⟩ := blk4 H8.out.k
    by_cases hlong : 3000 < M
    · have hlg : (3000 : Int) < (M : Int) := by omega
      have hfin : 3000 < csz (canon t) + 3 := by
        rcases Hdp.out with h1 | ⟨_, h2⟩
        · have := congrArg List.length ((cn_prg (canon t)).2 L K h1)
          rw [Hl8.out, prg_len] at this
          omega
        · omega
      have Hf := Lib.hid hfin
      clear hfin
      go_wp2_with fail
      with_reducible refine post4 H8.out.b H8.out.k (by have := Hps.out; omega) ?_
      intro w9 hB9 hk9 hs9 hz9
      clear z0 z1 z2 z3 v0 v1 v2 v3 hz
      obtain ⟨z0, z1, z2, z3, _⟩ := blk4 hk9
      refine bodyPost_ret (v := .tuple #[PrV nilS 0 0 false, .int .i64 3]) (by simp [results, Try.results11, go_sem, z0, z1, z2, z3]) rfl ?_
      exact ⟨hB9, .inr (.inl ⟨HR.out, Hf.out, rfl⟩)⟩
    · have hlg : ¬ (3000 : Int) < (M : Int) := by omega
      have hfin : L ++ [ins 3 1 0, ins 9 0 0] = prg (canon t) ∧ K = clp (canon t) := by
        rcases Hdp.out with h1 | ⟨h2, _⟩
        · exact ⟨(cn_prg (canon t)).2 L K h1, by injection h1⟩
        · have := HM.out; omega
      obtain ⟨hf1, rfl⟩ := hfin
      have hpl : csz (canon t) + 3 ≤ 3000 := by
        have := congrArg List.length hf1
        rw [Hl8.out, prg_len] at this
        omega
      have Hf := Lib.hid (And.intro hf1 hpl)
      clear hf1 hpl
      have hlgB : decide ((3000 : Int) < (M : Int)) = false := decide_eq_false hlg
      go_upto_region 7 with fail
      have HSS := Lib.hid (C9.of H8.out.t)
      have hn1 : w.heap.size ≠ p := by have := Hps.out; omega
      go_region_held3 (fun w' => C9 w' w.heap.size (.int .i64 t.kind) (.int .u64 (ow t.set 0)) (.int .u64 (ow t.set 1)) (.int .u64 (ow t.set 2)) (.int .u64 (ow t.set 3)) (.slice a t.parts.length cap) (.int .i64 t.mn) (.int .i64 t.mx) (.int .i64 t.num))
        (first | (with_reducible exact C9.of H31.out.t) | (with_reducible exact C9.of H30.out.t) | (with_reducible exact C9.drew HSS.out) | (with_reducible exact C9.put4 (by assumption) hn1))
        (first | (go_at_call 28; refine (HBk.out _ H30.out.b).mono ?_; rintro e w31 ⟨rfl, b31⟩; have H31 := Lib.hid (H30.out.step b31); clear b31; clear z0 z1 z2 z3 v0 v1 v2 v3 hz; obtain ⟨z0, z1, z2, z3, v0, v1, v2, v3, hz⟩ := blk4 H31.out.k) | (go_at_call 27; refine (HGr.out _ (by first | exact H8.out.b | exact H8.out.b.drew)).mono ?_; rintro e w30 ⟨rfl, b30⟩; have H30 := Lib.hid (by first | exact H8.out.step b30 | exact (H8.out.step (Below.refl _ _).drew).step b30 : DCs w p t a cap (.slice xa M xc) (L ++ [ins 3 1 0, ins 9 0 0]) w30); clear b30))
      all_goals
        go_wp2_with fail
        with_reducible refine post4 H31.out.b H31.out.k (by have := Hps.out; omega) ?_
        intro w9 hB9 hk9 hs9 hz9
        clear z0 z1 z2 z3 v0 v1 v2 v3 hz
        obtain ⟨z0, z1, z2, z3, _⟩ := blk4 hk9
        refine bodyPost_ret (v := .tuple #[PrV (.slice xa M xc) (ngroups (canon t) : Int) (clp (canon t) : Int) (nbacks (canon t)), .int .i64 0]) (by simp [results, Try.results11, go_sem, z0, z1, z2, z3]) rfl ?_
        refine ⟨hB9, .inr (.inr ⟨HR.out, Hf.out.2, _, rfl, ?_⟩)⟩
        rw [← Hf.out.1]
        exact own_row_same H31.out.r fun b hb => hs9 b fun e => by have := H8b.out b hb; omega
end Go.Proofs.Ytihfenkphhnbcaa
namespace Go.Proofs.Ytihfenkphhnbcaa
open Go.RowKit
theorem opart0 (a b c d : Int) (w : World) : (part 22 #[.int .u64 a, .int .u64 b, .int .u64 c, .int .u64 d] (0 * 1)).run Try.prog w = .ok (.int .u64 a) w := by kernel_rfl
theorem opart1' (a b c d : Int) (w : World) : (part 22 #[.int .u64 a, .int .u64 b, .int .u64 c, .int .u64 d] 1).run Try.prog w = .ok (.int .u64 b) w := by kernel_rfl
theorem opart2' (a b c d : Int) (w : World) : (part 22 #[.int .u64 a, .int .u64 b, .int .u64 c, .int .u64 d] 2).run Try.prog w = .ok (.int .u64 c) w := by kernel_rfl
theorem opart3' (a b c d : Int) (w : World) : (part 22 #[.int .u64 a, .int .u64 b, .int .u64 c, .int .u64 d] 3).run Try.prog w = .ok (.int .u64 d) w := by kernel_rfl
set_option linter.unusedSimpArgs false in
theorem oeq_items (a b c d a' b' c' d' : Int) (w : World) : (Op.eqItems 9999 22 1 #[.int .u64 a, .int .u64 b, .int .u64 c, .int .u64 d] #[.int .u64 a', .int .u64 b', .int .u64 c', .int .u64 d'] [0, 1, 2, 3]).run Try.prog w = .ok (a == a' && (b == b' && (c == c' && d == d'))) w := by
  have h := fun (x y : Int) (w : World) => (run_equalIn_int (P := Try.prog) w 9998 22 .u64 .u64 x y Try.underlying22 : (Op.equalIn 9999 22 (.int .u64 x) (.int .u64 y)).run Try.prog w = _)
  simp only [Op.eqItems, Sem.run_bind, opart0, h, Result.andThen_ok]
  cases ha : a == a' <;> cases hb : b == b' <;> cases hc : c == c' <;> cases hd : d == d' <;> simp [ha, hb, hc, hd, h, opart1', opart2', opart3']
theorem oset_beq (s t : OSet) : (ow s 0 == ow t 0 && (ow s 1 == ow t 1 && (ow s 2 == ow t 2 && ow s 3 == ow t 3))) = decide (s = t) := by
  by_cases h : s = t
  · subst h; simp
  · have h2 := oset_ne h
    rw [decide_eq_false h]
    cases hx : (ow s 0 == ow t 0 && (ow s 1 == ow t 1 && (ow s 2 == ow t 2 && ow s 3 == ow t 3)))
    · rfl
    · exfalso
      simp only [Bool.and_eq_true, beq_iff_eq] at hx
      exact h2 hx
theorem oset_eql (s t : OSet) (w : World) : (Op.equalIn 10000 47 (.agg #[.int .u64 (ow s 0), .int .u64 (ow s 1), .int .u64 (ow s 2), .int .u64 (ow s 3)]) (.agg #[.int .u64 (ow t 0), .int .u64 (ow t 1), .int .u64 (ow t 2), .int .u64 (ow t 3)])).run Try.prog w = .ok (decide (s = t)) w := by
  have hc : Try.prog.cellsOf 22 = 1 := by kernel_rfl
  have hi0 : (Try.prog.info? 22).isSome = true := by kernel_rfl
  obtain ⟨i, hi⟩ := Option.isSome_iff_exists.1 hi0
  rw [run_equalIn_array w 9999 (e := 22) (n := 4) _ _ Try.underlying47 hi]
  rw [hc, show List.range 4 = [0, 1, 2, 3] from rfl, oeq_items, oset_beq]
end Go.Proofs.Ytihfenkphhnbcaa
