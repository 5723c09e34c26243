/- Package files, walked: Clear, Copy. -/
import Derived.Test.YtnognicabhgmcaaDoorFiPd
import Derived.Maps.RangeWalk
namespace Go.Proofs.YtnognicabhgmcaaDoor
open Go Go.RowKit Go.Maps Go.Sort

set_option linter.unusedVariables false in
set_option linter.unusedSimpArgs false in
set_option maxRecDepth 100000 in
set_option maxHeartbeats 4000000 in
theorem ficlear_any {F : Nat → Prop} {p mp n : Nat} {V : List UInt8 → Value} {l : List Fl} {w : World} (x : List UInt8) (h : FAt F p mp n V l w) (hx : x.length ≤ maxLen) (hn : n < maxLen) :
    Calls Tryd.prog 12 #[.pointer (some ⟨p, 0, none⟩), .string (txt x)] w fun e w' => e = .returned (.tuple #[]) ∧ ∃ V', FAt F p mp (n + 1) V' (put x [] l) w' ∧ Turn F w w' := by
  have hP := fiput_any (FBut.kept h (q' := (· ≠ x)) (fun _ _ => trivial) rfl rfl fun _ _ _ _ => rfl) hx hn (v := nilS) (ls := []) (World.ownsRow_nil _ _ _ _) fun b hb => by simp [Value.ownBlock] at hb
  have HM := Lib.hid h.mF
  clear h hx hn
  go_enter Tryd.func12, Tryd.ntmps12
  go_wp2_with (go_at_call 24; refine hP.mono ?_; clear hP; rintro e w1 ⟨rfl, h1, g1⟩)
  have HZ := Lib.hid (And.intro h1 (Turn.of_grown (F := F) g1 fun b e _ => by injection e with e; subst e; exact HM.out))
  clear h1 g1
  go_end0
  exact ⟨rfl, _, HZ.out⟩
theorem copy_store {B p2 mp2 n r : Nat} {x : List UInt8} {V2 : List UInt8 → Value} {l2 : List Fl} {ls : List (List UInt8)} {v5 : Value} {W w4 w5 : World} (h : FAt (fun b => B ≤ b ∧ b ≠ r) p2 mp2 n V2 l2 w4) (hr : r < w4.heap.size) (hB : B ≤ w4.heap.size) (hx : x.length ≤ maxLen) (hn : n < maxLen) (h5 : LnNew W ls v5 w5) (hz : W.heap.size = w4.heap.size) (hW : Below w4.heap.size w4 w5) :
    w5.cell? ⟨p2, 0, none⟩ = some (.map (some mp2)) ∧ ∃ w6, (Instr.mapUpdate 52 (.map (some mp2)) (.string (txt x)) v5).run Tryd.prog w5 = .ok () w6 ∧ w6.cell? ⟨p2, 0, none⟩ = some (.map (some mp2)) ∧ FAt (fun b => B ≤ b ∧ b ≠ r) p2 mp2 (n + 1) (fun y => if y = x then v5 else V2 y) (put x ls l2) w6 ∧ w5.grownBy w6 (some mp2) := by
  have h1 := h.below hW
  have h2 : FBut (· ≠ x) (fun b => B ≤ b ∧ b ≠ r) p2 mp2 n V2 l2 w5 := FBut.kept h1 (fun _ _ => trivial) rfl rfl fun _ _ _ _ => rfl
  obtain ⟨w6, hup, hF, hg⟩ := h2.store (ls := ls) hx hn (fi_row_mono h5.1 (Nat.zero_le _)) fun b hb => by
    have h3 := (fi_row_lt h5.1 hb).1
    have h4 := h.blk.lt
    have h6 := h.mlt
    exact ⟨by omega, by omega, ⟨by omega, by omega⟩, fun y _ hy => by have := h.blt (x := y) trivial hy; omega⟩
  exact ⟨(h1.blk.cell 0).trans rfl, w6, hup, (hF.blk.cell 0).trans rfl, hF, hg⟩
set_option linter.unusedVariables false in
set_option linter.unusedSimpArgs false in
set_option maxRecDepth 100000 in
set_option maxHeartbeats 8000000 in
theorem ficopy_any {F : Nat → Prop} {p mp N : Nat} {V : List UInt8 → Value} {l : List Fl} {w : World} (h : FAt F p mp N V l w) (hN : N ≤ 1000) (hl : LnFew 100000 l) :
    Calls Tryd.prog 14 #[.pointer (some ⟨p, 0, none⟩)] w fun e w' => ∃ p2, e = .returned (.pointer (some ⟨p2, 0, none⟩)) ∧ FT (fun b => w.heap.size ≤ b) p2 N l w' ∧ Below w.heap.size w w' := by
  obtain ⟨D, hown, hhas, hat⟩ := h.own
  have hsz := hown.size_le
  have hmm := run_makeMap_hint
  have c0 : w.cell? ⟨p, 0, none⟩ = some (.map (some mp)) := (h.blk.cell 0).trans rfl
  have HOWN := Lib.hid hown
  have HH := Lib.hid h
  have HL := Lib.hid hl
  have HS := Lib.hid h.srt
  have HHAS := Lib.hid hhas
  clear h hl hhas hat
  go_enter Tryd.func14, Tryd.ntmps14
  go_upto_region 1 with fail
  go_upto_region 2 with (at_len; go_loud (refine wpList_len_own _ rfl _ 52 rfl 9 36 Tryd.underlying52 _ mp N D rfl HOWN.out ?_))
  generalize hW1 : w.alloc _ = w1
  generalize hW2 : w1.alloc _ = w2
  have H2 := Lib.hid (show FAt (fun b => w.heap.size ≤ b) (w.heap.size + 1) w.heap.size 0 (fun _ => nilS) [] w2 ∧ Below w.heap.size w w2 by
    have e1 : w1.heap.size = w.heap.size + 1 := by rw [← hW1]; exact World.size_alloc _ _
    have b1 : Below w.heap.size w w1 := by rw [← hW1]; exact (Below.refl _ w).alloc (Nat.le_refl _) _
    have b2 : Below w1.heap.size w1 w2 := by rw [← hW2]; exact (Below.refl _ w1).alloc (Nat.le_refl _) _
    have o1 : w1.ownsMap Tryd.prog 9 heldR w.heap.size 0 (.map []) := by rw [← hW1]; exact World.ownsMap_made _ _ _ _
    have q2 : Blk w2 w1.heap.size #[.map (some w.heap.size)] 54 := by rw [← hW2]; exact (MapKept.heap_alloc w1 _).1
    rw [e1] at q2
    exact ⟨FAt.made q2 (o1.kept (fi_grown_none b2) (by simp)) (by omega) (by show w.heap.size ≤ _; omega) (Nat.le_refl _), b1.trans (b2.mono b1.size)⟩)
  obtain ⟨p2, hp⟩ : ∃ p2, w.heap.size + 1 = p2 := ⟨_, rfl⟩
  rw [hp] at H2 ⊢
  have c2 : w2.cell? ⟨p, 0, none⟩ = some (.map (some mp)) := ((HH.out.below H2.out.2).blk.cell 0).trans rfl
  have HO2 := Lib.hid (HOWN.out.kept (fi_grown_none H2.out.2) (by simp))
  clear hW1 hW2 hmm c0 hown
  go_wp2_with (at_range; go_loud (refine wpList_range_own _ rfl _ 52 rfl 9 36 (string_keyed Tryd.underlying9) Tryd.underlying52 heldR mp N D rfl HO2.out ?_; intro w3 hrg3 hg3 hs3))
  obtain ⟨r, hr⟩ : ∃ r, w2.heap.size = r := ⟨_, rfl⟩
  rw [hr] at hrg3 ⊢
  have HR := Lib.hid (show w.heap.size < r from by have := H2.out.1.blk.lt; omega)
  have H3 := Lib.hid (show w3.ranges Tryd.prog 9 heldR mp r N D (has D) (size D) ∧ FAt (fun b => w.heap.size ≤ b ∧ b ≠ r) p2 w.heap.size 0 (fun _ => nilS) [] w3 ∧ Below w.heap.size w w3 ∧ r < w3.heap.size from ⟨hrg3, (H2.out.1.wider (G := fun b => w.heap.size ≤ b ∧ b ≠ r) fun b hb hF => ⟨hF, by omega⟩).turn (Turn.of_grown (F := fun _ => False) hg3 (fun b e => by cases e)) (fun _ _ _ => id), H2.out.2.grown hg3 H2.out.2.size (fun b e => by cases e), by omega⟩)
  have HMP := Lib.hid (show mp < w.heap.size from HH.out.mlt)
  clear hrg3 hg3 hs3 c2 hr hp
  go_frame
  go_loopw [4] (fun _ wr => ∃ (left : Lit → Bool) (cnt : Nat) (ss : List (List UInt8)) (V2 : List UInt8 → Value) (l2 : List Fl), wr.ranges Tryd.prog 9 heldR mp r N D left cnt ∧ Collected D left ss ∧ ss.length + cnt ≤ size D ∧ FAt (fun b => w.heap.size ≤ b ∧ b ≠ r) p2 w.heap.size ss.length V2 l2 wr ∧ (∀ x, fLines l2 x = if x ∈ ss then fLines l x else none) ∧ Below w.heap.size w wr ∧ r < wr.heap.size)
    (fun _ wr => wr.rangeLeft mp r)
  case atStart => exact ⟨_, _, [], _, [], H3.out.1, Collected.start D, by simp, H3.out.2.1, fun x => rfl, H3.out.2.2⟩
  case round =>
    obtain ⟨left, cnt, ss, V2, l2, hrg, hC, hcs, hA, hfl, hb, hrl⟩ := hrel
    have HC := Lib.hid hC
    have HA := Lib.hid hA
    have HFL := Lib.hid hfl
    have HB := Lib.hid hb
    have HRL := Lib.hid hrl
    have HRG := Lib.hid hrg
    clear hC hA hfl hb hrl hrg
    go_wp2_with (at_next; go_loud (refine wpList_next_ranges _ rfl _ rfl 9 (string_keyed Tryd.underlying9) heldR encStr id (fun key kl hk => by obtain ⟨x, hx, _⟩ := Maps.keyOf_str Tryd.underlying9 hk; exact ⟨x, hx⟩) (fun v _ _ => ⟨v, rfl⟩) mp r N _ _ _ rfl HRG.out ?_ ?_))
    · intro hc0 hl0
      have HZ := Lib.hid (show FT (fun b => w.heap.size ≤ b) p2 N l wr ∧ Below w.heap.size w wr from by
        have e : l2 = l := srt_ext HA.out.srt HS.out fun x => by
          rw [HFL.out x]
          by_cases hx : x ∈ ss
          · rw [if_pos hx]
          · rw [if_neg hx]
            have h1 : ¬ (has D (.string x) = true) := fun h => hx ((HC.out.2 x).2 ⟨h, hl0 _⟩)
            rw [HHAS.out x] at h1
            cases hf : fLines l x with
            | none => rfl
            | some y => rw [hf] at h1; exact absurd rfl h1
        subst e
        exact ⟨⟨_, V2, (HA.out.wider fun b _ h => h.1).more (by omega)⟩, HB.out⟩)
      go_wp2_with fail
      go_ret
      exact ⟨p2, rfl, HZ.out⟩
    · intro x c kl yd yp w4 cnt4 hkey hlk hv hat hrg4 hlt hg4 hs4 hen
      obtain ⟨x', ex, rfl, hxl⟩ := Maps.keyOf_str Tryd.underlying9 hkey
      obtain rfl : x = x' := encStr_inj ex
      have hen2 : (Instr.entry (.pointer (some ⟨r, 0, none⟩))).run Tryd.prog w4 = .ok (.tuple #[.string (txt x), c]) w4 := hen
      have B4 := Lib.hid (show Below w.heap.size w w4 from HB.out.grown hg4 HB.out.size fun b e => by injection e with e; have := HR.out; omega)
      have A4 := Lib.hid (HA.out.turn (Turn.of_grown (F := fun b => b = r) hg4 fun b e _ => by injection e with e; exact e.symm) fun b _ h e => h.2 e)
      have hz4 : w4.heap.size = wr.heap.size := hs4
      have HR4 := Lib.hid (show r < w4.heap.size by rw [hz4]; exact HRL.out)
      have hasx : has D (.string x) = true := has_true_of_atKey hat
      have HX := Lib.hid (show fLines l x = some (gl l x) by
        rw [HHAS.out x] at hasx
        unfold gl
        cases hf : fLines l x with
        | none => rw [hf] at hasx; cases hasx
        | some y => rfl)
      have HCS := Lib.hid (HC.out.step hlk hat)
      have hnew : x ∉ ss := fun hx => by have := ((HC.out.2 x).1 hx).2; rw [hlk] at this; cases this
      have HCN := Lib.hid (show (ss ++ [x]).length + cnt4 ≤ size D by rw [List.length_append, List.length_singleton]; omega)
      have hLi := filines_any x (HH.out.below B4.out) hxl (Nat.le_trans (HL.out.gl x) (by decide))
      have hns : ss.length < maxLen := by unfold maxLen; omega
      have hD : ∀ W, W.heap.size = w4.heap.size → Below w4.heap.size w4 W → Calls Tryd.prog 20 #[.pointer (some ⟨p, 0, none⟩), .string (txt x)] W fun e w5 => ∃ v5 w6, e = .returned v5 ∧ (Instr.mapUpdate 52 (.map (some w.heap.size)) (.string (txt x)) v5).run Tryd.prog w5 = .ok () w6 ∧ w5.cell? ⟨p2, 0, none⟩ = some (.map (some w.heap.size)) ∧ w6.cell? ⟨p2, 0, none⟩ = some (.map (some w.heap.size)) ∧ FAt (fun b => w.heap.size ≤ b ∧ b ≠ r) p2 w.heap.size (ss.length + 1) (fun y => if y = x then v5 else V2 y) (put x (gl l x) l2) w6 ∧ Below w4.heap.size w4 w5 ∧ w5.grownBy w6 (some w.heap.size) := fun W hz hW => by
        refine (filines_any x (HH.out.below (B4.out.trans (hW.mono B4.out.size))) hxl (Nat.le_trans (HL.out.gl x) (by decide))).mono ?_
        rintro e w5 ⟨v5, rfl, h5⟩
        have hb5 : Below w4.heap.size w4 w5 := hW.trans (by rw [← hz]; exact h5.2)
        obtain ⟨m0, w6, hup, n0, hF6, hg6⟩ := copy_store A4.out HR4.out B4.out.size hxl hns h5 hz hb5
        exact ⟨v5, w6, rfl, hup, m0, n0, hF6, hb5, hg6⟩
      have HRG4 := Lib.hid hrg4
      have HLT := Lib.hid hlt
      have k0 : w4.cell? ⟨p2, 0, none⟩ = some (.map (some w.heap.size)) := (A4.out.blk.cell 0).trans rfl
      have HNW := Lib.hid hnew
      have HCL := Lib.hid (HRG4.out.left_eq)
      have HCL0 := Lib.hid (HRG.out.left_eq)
      clear hs4 hkey hlk hv hat hrg4 hlt hg4 hen hz4 hasx hnew hLi hns ex hxl
      go_upto_region 5 with fail
      go_region_held3 (fun w' => w'.cell? ⟨p2, 0, none⟩ = some (.map (some w.heap.size))) (first | exact k0 | exact m0 | exact n0)
        (first | (go_at_call 20; refine (hD w4.drew rfl (Below.refl _ _).drew).mono ?_; clear hD; rintro e w5 ⟨v5, w6, rfl, hup, m0, n0, h6⟩; have H6 := Lib.hid h6; clear h6))
      have HF6 := Lib.hid (show w6.ranges Tryd.prog 9 heldR mp r N D (fun z => left z && !z.sameKey (.string x)) cnt4 ∧ (∀ y, fLines (put x (gl l x) l2) y = if y ∈ ss ++ [x] then fLines l y else none) ∧ Below w.heap.size w w6 ∧ r < w6.heap.size from by
        refine ⟨(HRG4.out.kept (fi_grown_none H6.out.2.1) (by simp) (by simp)).kept H6.out.2.2 (fun e => by injection e with e; have := HMP.out; omega) (fun e => by injection e with e; have := HR.out; omega), fun y => ?_, (B4.out.trans (H6.out.2.1.mono B4.out.size)).grown H6.out.2.2 (Nat.le_trans B4.out.size H6.out.2.1.size) fun b e => by injection e with e; exact Nat.le_of_eq e, Nat.lt_of_lt_of_le HR4.out (Nat.le_trans H6.out.2.1.size H6.out.2.2.size)⟩
        rw [lines_put A4.out.srt]
        by_cases hy : y = x
        · subst hy; rw [if_pos rfl, if_pos (by simp), HX.out]
        · rw [if_neg hy, HFL.out y]
          by_cases hm : y ∈ ss
          · rw [if_pos hm, if_pos (by simp [hm])]
          · rw [if_neg hm, if_neg (by simp [hm, hy])])
      have HA6 := Lib.hid (show FAt (fun b => w.heap.size ≤ b ∧ b ≠ r) p2 w.heap.size (ss ++ [x]).length (fun y => if y = x then v5 else V2 y) (put x (gl l x) l2) w6 by rw [List.length_append, List.length_singleton]; exact H6.out.1)
      go_wp2_with fail
      go_roundw
      case rel => exact ⟨_, cnt4, ss ++ [x], _, _, HF6.out.1, HCS.out, HCN.out, HA6.out, HF6.out.2⟩
      case measure => rw [HF6.out.1.left_eq, HCL0.out]; exact HLT.out
end Go.Proofs.YtnognicabhgmcaaDoor
