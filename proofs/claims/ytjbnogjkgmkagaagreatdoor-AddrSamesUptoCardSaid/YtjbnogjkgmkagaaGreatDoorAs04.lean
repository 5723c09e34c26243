/- The proof's texts TrReal: what the claim reaches of them. -/
import Derived.Test.YtjbnogjkgmkagaaGreatDoorAs02
import Derived.Test.YtjbnogjkgmkagaaGreatDoorAs03
namespace Go.Proofs.YtjbnogjkgmkagaaGreatDoor
open Go.RowKit
theorem nd_info : ∃ i, Tryz.prog.info? 36 = some i ∧ i.zero = some .nilIface ∧ i.size = 1 ∧ i.bytes = 16 := by
 have h : (Tryz.prog.info? 36).map (fun i => (i.zero, i.size, i.bytes)) = some (some .nilIface, 1, 16) := by kernel_rfl
 obtain ⟨i, hi, he⟩ := Option.map_eq_some_iff.1 h
 injection he with h1 h2
 injection h2 with h2 h3
 exact ⟨i, hi, h1, h2, h3⟩
set_option linter.unusedSimpArgs false in
set_option maxRecDepth 100000 in
set_option maxHeartbeats 4000000 in
theorem lreal_any : ∀ (N : Nat) (t : Tr) (a : Option Addr) (cap : Nat) (w : World), TrD N w t a cap → nsize (canon t) ≤ 4000000 →
  Calls Tryz.prog 41 #[tV t a cap] w fun e w' => ∃ (T : TypeId) (v : Value), e = .returned (.iface T v) ∧ NdAt (fun b => w.heap.size ≤ b) N w' (canon t) (.iface T v) ∧ Below w.heap.size w w' := by
 intro N
 induction N with
 | zero => intro t a cap w h; exact (trd_zero h).elim
 | succ N ih =>
  intro t a cap w h hb
  obtain ⟨i0, hi, hz0, hz1, hz2⟩ := nd_info
  have hT := (Blk.new w (tC t a cap) 27 _ rfl)
  have hW := (Below.refl w.heap.size w).alloc (Nat.le_refl _) (.cells (tC t a cap) 27)
  have hK := kids_any N t a cap _ (h.below hW)
  have hs := nsize_kids (canon t)
  have hlen := nsizes_length (nkids (canon t))
  rw [canon_kids] at hs hlen
  rw [List.length_map] at hlen
  have Hs := Lib.hid hs
  have Hl := Lib.hid (show (tkids t).length ≤ 4000000 by omega)
  have Hb := Lib.hid hb
  clear hs hb h hlen
  unfold tV at hK ⊢
  go_enter Tryz.func41, Tryz.ntmps41
  go_wp2_with fail
  refine hK.mono ?_
  clear hK
  rintro e w1 ⟨a1, cap1, rfl, hR, b1⟩
  replace hW := hW.trans (b1.mono hW.size)
  replace hT := hT.below b1 hT.lt
  have hlT := hT.lt
  clear b1
  have hl1 := hR.1
  have hl2 := hR.2.1
  unfold maxLen at hl2
  have HR := Lib.hid hR.2.2
  clear hR
  go_wp2_with fail
  go_loopw [3, 9] (fun s i wr => ∃ (k : Nat) (us : List Value) (pv : Value), k ≤ (tkids t).length ∧ i = .int .i64 k ∧ pv = s ∧ NdOwn w1.heap.size N wr (((tkids t).map canon).take k) pv us ∧ Below w1.heap.size w1 wr) (fun _ i _ => (tkids t).length - (intOf i).toNat)
  case atStart => exact ⟨0, [], _, by omega, rfl, rfl, NdOwn.nil _ _ _, Below.refl _ _⟩
  case round =>
   obtain ⟨k, us, pv, hk, rfl, hpv, hN, hV⟩ := hrel
   subst hpv
   by_cases hlt : k < (tkids t).length
   ·obtain ⟨b, o, rfl, hbl, hx⟩ := HR.out (by omega)
    obtain ⟨a', cap', h9, hr⟩ := hx k hlt
    replace h9 := h9.below hV hbl
    replace hr := hr.below hV
    have hsn := nsizes_take ((tkids t).map canon) k (by simpa using hlt)
    have hle := nsizes_le ((tkids t).map canon) (k + 1)
    have hA := Hs.out
    have hB := Hb.out
    rw [List.getElem_map] at hsn
    have Htk := Lib.hid (show ((tkids t).map canon).take (k + 1) = ((tkids t).map canon).take k ++ [canon (tkids t)[k]] by
     rw [List.take_succ_eq_append_getElem (by simpa using hlt), List.getElem_map])
    obtain ⟨c0, c1, c2, c3, c4, c5, c6, c7, c8⟩ := h9
    clear hx
    generalize (tkids t)[k] = x at *
    have hx2 : nsize (canon x) ≤ 4000000 := by omega
    clear hsn hle hA hB
    go_wp2_with fail
    refine (ih x a' cap' _ (hr.below ((Below.refl wr.heap.size wr).alloc (Nat.le_refl _) _)) hx2).mono ?_
    rintro e w2 ⟨T, u, rfl, hu, b2⟩
    have hbw : Below wr.heap.size wr w2 := ((Below.refl wr.heap.size wr).alloc (Nat.le_refl _) _).trans (b2.mono (by simp))
    have hN2 := hN.below hbw
    have hlt2 := hN.lt
    have hu2 : NdAt (fun b => w1.heap.size ≤ b ∧ pv.ownBlock ≠ some b) N w2 (canon x) (.iface T u) := NdAt.wider (fun b hb _ => by
     simp at hb
     have := hV.size
     exact ⟨by omega, fun he => by have := hlt2 b he; omega⟩) _ _ _ hu
    have hV2 := hV.trans (hbw.mono hV.size)
    have hNn := hN2
    obtain ⟨hul, hown, hel⟩ := hN2
    have hlu : us.length ≤ 4000000 := by
     have := Hl.out
     rw [hul, List.length_take, List.length_map]
     omega
    clear hN hu b2 hbw hel hul c0 c1 c2 c3 c4 c5 c6 c7 c8 hr hlt2
    go_wp2_with (at_builtin; refine wpList_append_own_at _ rfl _ _ 106 rfl w1.heap.size 36 i0 .nilIface 1 16 Tryz.underlying106 hi hz0 hz1 hz2 rfl (by decide) _ _ _ rfl (hown.alloc _) ⟨w2.heap.size, 0, none⟩ 1 1 [.iface T u] rfl rfl ?c1 ?c2 ?c3 ?c4 ?c5 ?_)
    case c1 =>
     intro j y hj
     match j, hj with
     | 0, hj => simp at hj; subst hj; simp [Addr.add]
    case c2 => intro y hy; simp at hy; subst hy; rfl
    case c3 => unfold maxLen; omega
    case c4 => omega
    case c5 => simp; have := hV2.size; omega
    ·intro v' w3 hown' hgrow _ hob
     have hN3 := (hNn.below ((Below.refl w2.heap.size w2).alloc (Nat.le_refl _) _)).push (NdAt.below ((Below.refl w2.heap.size w2).alloc (Nat.le_refl _) _) _ _ _ hu2) hown' hgrow (by simpa using hob)
     have hlt3 := hNn.lt
     have hV3 : Below w1.heap.size w1 w3 := hV2.trans (((Below.refl w1.heap.size w2).alloc hV2.size _).grown hgrow (by simp; have := hV2.size; omega) (fun j hj => by
      have := own_of hNn.2.1 j hj
      exact this))
     go_wp2_with fail
     go_roundw
     case rel => exact ⟨k + 1, us ++ [.iface T u], v', by omega, by go_num, rfl, by rw [Htk.out]; exact hN3, hV3⟩
     case measure => simp [intOf]; omega
   ·obtain rfl : k = (tkids t).length := by omega
    have hT2 := hT.below hV hlT
    have t0 := (hT2.cell 0).trans rfl
    have t1 := (hT2.cell 1).trans rfl
    have t2 := (hT2.cell 2).trans rfl
    have t3 := (hT2.cell 3).trans rfl
    have t4 := (hT2.cell 4).trans rfl
    have t6 := (hT2.cell 6).trans rfl
    have t7 := (hT2.cell 7).trans rfl
    have t8 := (hT2.cell 8).trans rfl
    rw [List.take_of_length_le (by simp)] at hN
    have hWV := hW.trans (hV.mono hW.size)
    have hwide : ∀ b, w1.heap.size ≤ b → b < wr.heap.size → w.heap.size ≤ b := fun b hb _ => Nat.le_trans hW.size hb
    clear hT hT2 HR Hs
    by_cases k1 : t.kind = 1
    ·have Hc := Lib.hid (canon_1 t k1)
     have b1 : (t.kind == 1) = true := by simp [k1]
     have b2 : (t.kind == 2) = false := by simp [k1]
     have b3 : (t.kind == 3) = false := by simp [k1]
     have b4 : (t.kind == 4) = false := by simp [k1]
     have b5 : (t.kind == 5) = false := by simp [k1]
     have b6 : (t.kind == 6) = false := by simp [k1]
     have b7 : (t.kind == 7) = false := by simp [k1]
     have b8 : (t.kind == 8) = false := by simp [k1]
     clear k1
     go_wp2_with fail
     go_ret
     refine ⟨_, _, rfl, ?_, hWV⟩
     rw [Hc.out]
     rfl
    by_cases k2 : t.kind = 2
    ·have Hc := Lib.hid (canon_2 t k2)
     have b1 : (t.kind == 1) = false := by simp [k2]
     have b2 : (t.kind == 2) = true := by simp [k2]
     have b3 : (t.kind == 3) = false := by simp [k2]
     have b4 : (t.kind == 4) = false := by simp [k2]
     have b5 : (t.kind == 5) = false := by simp [k2]
     have b6 : (t.kind == 6) = false := by simp [k2]
     have b7 : (t.kind == 7) = false := by simp [k2]
     have b8 : (t.kind == 8) = false := by simp [k2]
     clear k2
     obtain ⟨ca, ccap, rfl, hRow⟩ := hN.row
     go_wp2_with fail
     go_ret
     refine ⟨_, _, rfl, ?_, hWV⟩
     rw [Hc.out]
     exact ⟨ca, ccap, by rw [List.length_map], hRow.1, hRow.2.1, (hRow.wider hwide).2.2⟩
    by_cases k3 : t.kind = 3
    ·have Hc := Lib.hid (canon_3 t k3)
     have b1 : (t.kind == 1) = false := by simp [k3]
     have b2 : (t.kind == 2) = false := by simp [k3]
     have b3 : (t.kind == 3) = true := by simp [k3]
     have b4 : (t.kind == 4) = false := by simp [k3]
     have b5 : (t.kind == 5) = false := by simp [k3]
     have b6 : (t.kind == 6) = false := by simp [k3]
     have b7 : (t.kind == 7) = false := by simp [k3]
     have b8 : (t.kind == 8) = false := by simp [k3]
     clear k3
     obtain ⟨ca, ccap, rfl, hRow⟩ := hN.row
     go_wp2_with fail
     go_ret
     refine ⟨_, _, rfl, ?_, hWV⟩
     rw [Hc.out]
     exact ⟨ca, ccap, by rw [List.length_map], hRow.1, hRow.2.1, (hRow.wider hwide).2.2⟩
    by_cases k4 : t.kind = 4
    ·have Hc := Lib.hid (canon_4 t k4).1
     have b1 : (t.kind == 1) = false := by simp [k4]
     have b2 : (t.kind == 2) = false := by simp [k4]
     have b3 : (t.kind == 3) = false := by simp [k4]
     have b4 : (t.kind == 4) = true := by simp [k4]
     have b5 : (t.kind == 5) = false := by simp [k4]
     have b6 : (t.kind == 6) = false := by simp [k4]
     have b7 : (t.kind == 7) = false := by simp [k4]
     have b8 : (t.kind == 8) = false := by simp [k4]
     have hkd := (canon_4 t k4).2
     clear k4
     rw [hkd] at hN
     have hln : (tkids t).length = 1 := by rw [hkd]; rfl
     clear hkd
     obtain ⟨ca, ccap, rfl, hRow⟩ := hN.row
     obtain ⟨cb, co, rfl, _, hcb, hel⟩ := (hRow.wider hwide).2.2 (by simp)
     obtain ⟨u, hu, hru⟩ := hel 0 (by simp)
     have hcap := hRow.1
     have hcap2 := hRow.2.1
     unfold maxLen at hcap2
     simp only [List.map_cons, List.map_nil, List.length_cons, List.length_nil, Nat.zero_add, Nat.add_zero, List.getElem_cons_zero] at hu hru hcap
     clear hN hel hRow
     rcases nd_shape hru with ⟨uT, up, rfl⟩ | rfl
     ·go_wp2_with fail
      go_region; all_goals go_wp2_with fail; all_goals go_ret; all_goals refine ⟨_, _, rfl, ?_, Below.drew hWV⟩; all_goals rw [Hc.out]; all_goals exact ⟨_, rfl, NdAt.below (Below.drew (Below.refl _ _)) _ _ _ hru⟩
     ·go_wp2_with fail
      go_region; all_goals go_wp2_with fail; all_goals go_ret; all_goals refine ⟨_, _, rfl, ?_, Below.drew hWV⟩; all_goals rw [Hc.out]; all_goals exact ⟨_, rfl, NdAt.below (Below.drew (Below.refl _ _)) _ _ _ hru⟩
    by_cases k5 : t.kind = 5
    ·have Hc := Lib.hid (canon_5 t k5).1
     have b1 : (t.kind == 1) = false := by simp [k5]
     have b2 : (t.kind == 2) = false := by simp [k5]
     have b3 : (t.kind == 3) = false := by simp [k5]
     have b4 : (t.kind == 4) = false := by simp [k5]
     have b5 : (t.kind == 5) = true := by simp [k5]
     have b6 : (t.kind == 6) = false := by simp [k5]
     have b7 : (t.kind == 7) = false := by simp [k5]
     have b8 : (t.kind == 8) = false := by simp [k5]
     have hkd := (canon_5 t k5).2
     clear k5
     rw [hkd] at hN
     have hln : (tkids t).length = 1 := by rw [hkd]; rfl
     clear hkd
     obtain ⟨ca, ccap, rfl, hRow⟩ := hN.row
     obtain ⟨cb, co, rfl, _, hcb, hel⟩ := (hRow.wider hwide).2.2 (by simp)
     obtain ⟨u, hu, hru⟩ := hel 0 (by simp)
     have hcap := hRow.1
     have hcap2 := hRow.2.1
     unfold maxLen at hcap2
     simp only [List.map_cons, List.map_nil, List.length_cons, List.length_nil, Nat.zero_add, Nat.add_zero, List.getElem_cons_zero] at hu hru hcap
     clear hN hel hRow
     rcases nd_shape hru with ⟨uT, up, rfl⟩ | rfl
     ·go_wp2_with fail
      go_region; all_goals go_wp2_with fail; all_goals go_ret; all_goals refine ⟨_, _, rfl, ?_, Below.drew hWV⟩; all_goals rw [Hc.out]; all_goals exact ⟨_, rfl, NdAt.below (Below.drew (Below.refl _ _)) _ _ _ hru⟩
     ·go_wp2_with fail
      go_region; all_goals go_wp2_with fail; all_goals go_ret; all_goals refine ⟨_, _, rfl, ?_, Below.drew hWV⟩; all_goals rw [Hc.out]; all_goals exact ⟨_, rfl, NdAt.below (Below.drew (Below.refl _ _)) _ _ _ hru⟩
    by_cases k6 : t.kind = 6
    ·have Hc := Lib.hid (canon_6 t k6)
     have b1 : (t.kind == 1) = false := by simp [k6]
     have b2 : (t.kind == 2) = false := by simp [k6]
     have b3 : (t.kind == 3) = false := by simp [k6]
     have b4 : (t.kind == 4) = false := by simp [k6]
     have b5 : (t.kind == 5) = false := by simp [k6]
     have b6 : (t.kind == 6) = true := by simp [k6]
     have b7 : (t.kind == 7) = false := by simp [k6]
     have b8 : (t.kind == 8) = false := by simp [k6]
     clear k6
     go_wp2_with fail
     go_ret
     refine ⟨_, _, rfl, ?_, hWV⟩
     rw [Hc.out]
     rfl
    by_cases k7 : t.kind = 7
    ·have Hc := Lib.hid (canon_7 t k7)
     have b1 : (t.kind == 1) = false := by simp [k7]
     have b2 : (t.kind == 2) = false := by simp [k7]
     have b3 : (t.kind == 3) = false := by simp [k7]
     have b4 : (t.kind == 4) = false := by simp [k7]
     have b5 : (t.kind == 5) = false := by simp [k7]
     have b6 : (t.kind == 6) = false := by simp [k7]
     have b7 : (t.kind == 7) = true := by simp [k7]
     have b8 : (t.kind == 8) = false := by simp [k7]
     clear k7
     go_wp2_with fail
     go_ret
     refine ⟨_, _, rfl, ?_, hWV⟩
     rw [Hc.out]
     rfl
    by_cases k8 : t.kind = 8
    ·have Hc := Lib.hid (canon_8 t k8)
     have b1 : (t.kind == 1) = false := by simp [k8]
     have b2 : (t.kind == 2) = false := by simp [k8]
     have b3 : (t.kind == 3) = false := by simp [k8]
     have b4 : (t.kind == 4) = false := by simp [k8]
     have b5 : (t.kind == 5) = false := by simp [k8]
     have b6 : (t.kind == 6) = false := by simp [k8]
     have b7 : (t.kind == 7) = false := by simp [k8]
     have b8 : (t.kind == 8) = true := by simp [k8]
     clear k8
     go_wp2_with fail
     go_ret
     refine ⟨_, _, rfl, ?_, hWV⟩
     rw [Hc.out]
     rfl
    have Hc := Lib.hid (canon_0 t k1 k2 k3 k4 k5 k6 k7 k8)
    have b1 : (t.kind == 1) = false := by simp [k1]
    have b2 : (t.kind == 2) = false := by simp [k2]
    have b3 : (t.kind == 3) = false := by simp [k3]
    have b4 : (t.kind == 4) = false := by simp [k4]
    have b5 : (t.kind == 5) = false := by simp [k5]
    have b6 : (t.kind == 6) = false := by simp [k6]
    have b7 : (t.kind == 7) = false := by simp [k7]
    have b8 : (t.kind == 8) = false := by simp [k8]
    clear k1 k2 k3 k4 k5 k6 k7 k8
    go_wp2_with fail
    go_ret
    refine ⟨_, _, rfl, ?_, hWV⟩
    rw [Hc.out]
    exact Or.inl rfl
end Go.Proofs.YtjbnogjkgmkagaaGreatDoor
