/- Ref: the program's node as the document's; Is. -/
import Derived.Test.YtbbcjclkklmoaaaDoorTrJoin
import Derived.Test.YtbbcjclkklmoaaaDoorNdFits
import Derived.Test.YtbbcjclkklmoaaaDoorTrSameB
import Derived.Deep.RegionHeld3
namespace Go.Proofs.YtbbcjclkklmoaaaDoor
open Go Go.RowKit

mutual
/-- The document's node of what a regex is made of. -/
def unc : Nd → Tr
  | .empty => tz
  | .one s => .mk 1 s 0 0 0 []
  | .cat l => .mk 2 oz 0 0 0 (uncs l)
  | .alt l => .mk 3 oz 0 0 0 (uncs l)
  | .rep d mn mx => .mk 4 oz mn mx 0 [unc d]
  | .group n d => .mk 5 oz 0 0 n [unc d]
  | .back n => .mk 6 oz 0 0 n []
  | .start => .mk 7 oz 0 0 0 []
  | .fin => .mk 8 oz 0 0 0 []
def uncs : List Nd → List Tr
  | [] => []
  | d :: ds => unc d :: uncs ds
end
theorem uncs_map (l : List Nd) : uncs l = l.map unc := by
  induction l with
  | nil => rfl
  | cons d ds ih => rw [uncs, ih]; rfl
mutual
theorem canon_unc : ∀ d : Nd, canon (unc d) = d
  | .empty => rfl
  | .one _ => rfl
  | .cat l => congrArg Nd.cat (canons_uncs l)
  | .alt l => congrArg Nd.alt (canons_uncs l)
  | .rep d mn mx => congrArg (fun x => Nd.rep x mn mx) (canon_unc d)
  | .group n d => congrArg (Nd.group n) (canon_unc d)
  | .back _ => rfl
  | .start => rfl
  | .fin => rfl
theorem canons_uncs : ∀ l : List Nd, canons (uncs l) = l
  | [] => rfl
  | d :: ds => by rw [uncs, canons, canon_unc d, canons_uncs ds]
end
mutual
theorem known_unc : ∀ d : Nd, tknown (unc d) = true
  | .empty => rfl
  | .one _ => rfl
  | .cat l => known_uncs l
  | .alt l => known_uncs l
  | .rep d _ _ => by show (true && (tknown (unc d) && true)) = true; rw [known_unc d]; rfl
  | .group _ d => by show (true && (tknown (unc d) && true)) = true; rw [known_unc d]; rfl
  | .back _ => rfl
  | .start => rfl
  | .fin => rfl
theorem known_uncs : ∀ l : List Nd, tknowns (uncs l) = true
  | [] => rfl
  | d :: ds => by rw [uncs, tknowns, known_unc d, known_uncs ds]; rfl
end
/-- What Ref answers. -/
def RefR (d : Nd) (w : World) (e : Ending) (w' : World) : Prop := ∃ a cap, e = .returned (tV (unc d) a cap) ∧ TrX (fun b => w.heap.size ≤ b) w' (unc d) a cap ∧ Below w.heap.size w w'
set_option linter.unusedSimpArgs false in
set_option maxRecDepth 100000 in
set_option maxHeartbeats 4000000 in
theorem llist_of {F : Nat → Prop} (n : Nat) (ih : ∀ (d : Nd) (v : Value) (w : World), nsize d ≤ n → NdX F w d v → Calls Tryd.prog 19 #[v] w (RefR d w))
    (l : List Nd) (a : Option Addr) (cap : Nat) (w : World) (h : NdRw F w l a cap) (hs : nsizes l ≤ n) (hn : n ≤ 4000000) :
    Calls Tryd.prog 36 #[.slice a l.length cap] w fun e w' => ∃ a' cap', e = .returned (.slice a' l.length cap') ∧ TrRw (fun b => w.heap.size ≤ b) w' (l.map unc) a' cap' ∧ Below w.heap.size w w' := by
  obtain ⟨i0, hi, hz0, hz1, hz2⟩ := t_info
  have hl1 := h.1
  have hl2 := h.2.1
  unfold maxLen at hl2
  have hlen := nsizes_length l
  have Hs := Lib.hid hs
  have hln : l.length ≤ 4000000 := by omega
  clear hs hlen
  go_enter Tryd.func36, Tryd.ntmps36
  go_wp2_with fail
  go_loopw [3, 8] (fun s i wr => ∃ (k : Nat) (us : List Value) (pv : Value), k ≤ l.length ∧ i = .int .i64 k ∧ pv = s ∧ TOwn (fun b => w.heap.size ≤ b) w.heap.size wr ((l.take k).map unc) pv us ∧ Below w.heap.size w wr) (fun _ i _ => l.length - (intOf i).toNat)
  case atStart => exact ⟨0, [], _, by omega, rfl, rfl, TOwn.nil _ _ _, Below.refl _ _⟩
  case round =>
    obtain ⟨k, us, pv, hk, rfl, hpv, hO, hV⟩ := hrel
    subst hpv
    by_cases hlt : k < l.length
    · have hrow := h.below hV
      obtain ⟨b, o, rfl, hbF, hbl, hx⟩ := hrow.2.2 (by omega)
      obtain ⟨u, hu, hnx⟩ := hx k hlt
      have Htk := Lib.hid (show (l.take (k + 1)).map unc = (l.take k).map unc ++ [unc l[k]] by rw [List.take_succ_eq_append_getElem hlt, List.map_append]; rfl)
      have hsz : nsize l[k] ≤ n := by
        have h1 := nsizes_take l k hlt
        have h2 := nsizes_le l (k + 1)
        have := Hs.out
        omega
      have hlk : ((l.take k).map unc).length = k := by rw [List.length_map, List.length_take]; omega
      have Hlk := Lib.hid hlk
      clear hx hrow hlk
      generalize l[k] = x at *
      have hI := ih x u wr hsz hnx
      unfold RefR tV at hI
      have hsh := hnx.elim fun _ h => nd_shape h
      have hm1 : ((l.take k).map unc).length + 1 ≤ maxLen := by rw [Hlk.out]; unfold maxLen; omega
      have hm2 : (((l.take k).map unc).length + 1) * 88 ≤ 140737488355328 := by rw [Hlk.out]; omega
      have Hm1 := Lib.hid hm1
      have Hm2 := Lib.hid hm2
      clear hm1 hm2 hnx hsz
      rcases hsh with ⟨T1, p1, rfl⟩ | rfl
      all_goals
        go_wp2_with fail
        refine hI.mono ?_
        rintro e w2 ⟨a', cap', rfl, hxx, b2⟩
        have hO2 := hO.below b2
        have hV2 := hV.trans (b2.mono hV.size)
        have hlo := fun g hg => town_lt hO.1 g hg
        have hch : Chunks (fun b => w.heap.size ≤ b ∧ OffV pv b) w2 [unc x] (tC (unc x) a' cap').toList := Chunks.single (hxx.keep (Nat.le_refl _) (fun b hf _ => ⟨⟨Nat.le_trans hV.size hf, fun e => by have := hlo b e; omega⟩, fun _ => rfl⟩))
        have hv1 := hch.one
        have hA := (Below.refl w2.heap.size w2).alloc (Nat.le_refl _) (.cells (tC (unc x) a' cap') 46)
        have hOA := hO2.below hA
        have hVA := hV2.alloc hV2.size (.cells (tC (unc x) a' cap') 46)
        have hchA : Chunks (fun b => w.heap.size ≤ b ∧ OffV pv b) (w2.alloc (.cells (tC (unc x) a' cap') 46)) [unc x] (tC (unc x) a' cap').toList := hch.keep hA.size (fun b hf hl => ⟨hf, fun o => hA.cell (p := ⟨b, o, none⟩) hl⟩)
        have hnw := news_new w2 (unc x) a' cap' 46 w2.heap.size rfl
        have hwb : w.heap.size ≤ w2.heap.size := hV2.size
        clear hI hO hV hO2 hV2 hch hlo hxx b2 hu
        go_wp2_with (at_builtin; refine wpList_append_any _ rfl _ _ 44 rfl w.heap.size 46 i0 (.agg zC) 9 88 Tryd.underlying44 hi hz0 hz1 hz2 rfl (by decide) _ _ _ rfl hOA.1 (some ⟨w2.heap.size, 0, none⟩) 1 1 (tC (unc x) a' cap').toList rfl rfl (fun _ => ⟨_, rfl, hnw⟩) hv1 Hm1.out Hm2.out (by simp; omega) ?_; intro v6 w6 hown6 hgrow6 hat6)
        have hO6 := hOA.push hchA hown6 hgrow6 hat6
        have hV6 := hVA.grown hgrow6 hVA.size (fun k hk => own_of hOA.1 k hk)
        clear hown6 hgrow6 hat6 hOA hVA hA hchA hnw
        go_wp2_with fail
        go_roundw
        case rel => exact ⟨k + 1, us ++ (tC (unc x) a' cap').toList, v6, by omega, by go_num, rfl, by rw [Htk.out]; exact hO6, hV6⟩
        case measure => simp [intOf]; omega
    · obtain rfl : k = l.length := by omega
      rw [List.take_of_length_le (Nat.le_refl _)] at hO
      obtain ⟨a9, cap9, rfl, hR⟩ := hO.row
      rw [List.length_map]
      go_wp2_with fail
      go_ret
      exact ⟨a9, cap9, rfl, hR.keep (Nat.le_refl _) (fun b hf _ => ⟨hf.elim id id, fun _ => rfl⟩), hV⟩
abbrev QC (w : World) (q : Nat) (v0 v1 v2 : Value) : Prop := w.cell? ⟨q, 0, none⟩ = some v0 ∧ w.cell? ⟨q, 1, none⟩ = some v1 ∧ w.cell? ⟨q, 2, none⟩ = some v2 ∧ q < w.heap.size
theorem qc_all {w : World} {q : Nat} {v0 v1 v2 : Value} {T : TypeId} (h : Blk w q #[v0, v1, v2] T) : QC w q v0 v1 v2 := ⟨(h.cell 0).trans rfl, (h.cell 1).trans rfl, (h.cell 2).trans rfl, h.lt⟩
theorem qc_drew {w : World} {q : Nat} {v0 v1 v2 : Value} (h : QC w q v0 v1 v2) : QC w.drew q v0 v1 v2 := h
theorem qc_step {w w' : World} {q : Nat} {v0 v1 v2 : Value} (hb : Below w.heap.size w w') (h : QC w q v0 v1 v2) : QC w' q v0 v1 v2 :=
  ⟨(hb.cell (p := ⟨q, 0, none⟩) h.2.2.2).trans h.1, (hb.cell (p := ⟨q, 1, none⟩) h.2.2.2).trans h.2.1, (hb.cell (p := ⟨q, 2, none⟩) h.2.2.2).trans h.2.2.1, Nat.lt_of_lt_of_le h.2.2.2 hb.size⟩
theorem cell_set_far {w : World} {p : Addr} {v : Value} {q o : Nat} (hp : p.block ≠ q) : (w.setCell p v).cell? ⟨q, o, none⟩ = w.cell? ⟨q, o, none⟩ := World.cell?_of_block (w := w) (a := ⟨q, o, none⟩) (Below.heap_setCell _ _ _ _ (fun e => hp e.symm))
theorem qc_alloc {w : World} {q : Nat} {v0 v1 v2 : Value} (o : Obj) (h : QC w q v0 v1 v2) : QC (w.alloc o) q v0 v1 v2 := qc_step ((Below.refl w.heap.size w).alloc (Nat.le_refl _) o) h
theorem qc_set {w : World} {q : Nat} {v0 v1 v2 : Value} {p : Addr} {v : Value} (hp : p.block ≠ q) (h : QC w q v0 v1 v2) : QC (w.setCell p v) q v0 v1 v2 := ⟨(cell_set_far hp).trans h.1, (cell_set_far hp).trans h.2.1, (cell_set_far hp).trans h.2.2.1, by simp [World.setCell]; exact h.2.2.2⟩
abbrev QD (w : World) (q : Nat) (v0 v1 : Value) : Prop := w.cell? ⟨q, 0, none⟩ = some v0 ∧ w.cell? ⟨q, 1, none⟩ = some v1 ∧ q < w.heap.size
theorem qd_all {w : World} {q : Nat} {v0 v1 : Value} {T : TypeId} (h : Blk w q #[v0, v1] T) : QD w q v0 v1 := ⟨(h.cell 0).trans rfl, (h.cell 1).trans rfl, h.lt⟩
theorem qd_drew {w : World} {q : Nat} {v0 v1 : Value} (h : QD w q v0 v1) : QD w.drew q v0 v1 := h
theorem qd_step {w w' : World} {q : Nat} {v0 v1 : Value} (hb : Below w.heap.size w w') (h : QD w q v0 v1) : QD w' q v0 v1 :=
  ⟨(hb.cell (p := ⟨q, 0, none⟩) h.2.2).trans h.1, (hb.cell (p := ⟨q, 1, none⟩) h.2.2).trans h.2.1, Nat.lt_of_lt_of_le h.2.2 hb.size⟩
theorem qd_alloc {w : World} {q : Nat} {v0 v1 : Value} (o : Obj) (h : QD w q v0 v1) : QD (w.alloc o) q v0 v1 := qd_step ((Below.refl w.heap.size w).alloc (Nat.le_refl _) o) h
theorem qd_set {w : World} {q : Nat} {v0 v1 : Value} {p : Addr} {v : Value} (hp : p.block ≠ q) (h : QD w q v0 v1) : QD (w.setCell p v) q v0 v1 := ⟨(cell_set_far hp).trans h.1, (cell_set_far hp).trans h.2.1, by simp [World.setCell]; exact h.2.2⟩
set_option linter.unusedSimpArgs false in
set_option maxRecDepth 100000 in
set_option maxHeartbeats 8000000 in
theorem lref_any {F : Nat → Prop} : ∀ (n : Nat), n ≤ 4000000 → ∀ (d : Nd) (v : Value) (w : World), nsize d ≤ n → NdX F w d v → Calls Tryd.prog 19 #[v] w (RefR d w) := by
  intro n
  induction n with
  | zero => intro _ d v w hs; have := nsize_kids d; omega
  | succ n ih0 =>
    intro hn d v w hs h
    have ih := ih0 (by omega)
    have hP0 := Blk.new w zC 46 w.heap.size rfl
    have hB0 := (Below.refl w.heap.size w).alloc (Nat.le_refl _) (.cells zC 46)
    rcases nd_kinds h with ⟨rfl, rfl | rfl⟩ | ⟨s, rfl, rfl⟩ | ⟨l, a, cap, rfl, rfl, hr⟩ | ⟨l, a, cap, rfl, rfl, hr⟩ | ⟨d', mn, mx, u, rfl, rfl, hu⟩ | ⟨num, d', u, rfl, rfl, hu⟩ | ⟨num, rfl, rfl⟩ | ⟨rfl, rfl⟩ | ⟨rfl, rfl⟩
    · go_enter Tryd.func19, Tryd.ntmps19
      go_wp2_with fail
      refine bodyPost_ret (v := tV (unc (.empty)) none 0) (by simp [results, Tryd.results19, go_sem, tV, unc, tz, Tr.kind, Tr.set, Tr.parts, Tr.mn, Tr.mx, Tr.num, ow_zero]) rfl ⟨none, 0, rfl, TrRw.up (TrRw.nil _ _ _ _ (Nat.zero_le _)), ?_⟩
      repeat (first | (with_reducible exact Below.refl _ _) | refine Below.setCell ?_ (by first | omega | (simp; omega) | simp) _ | refine Below.alloc ?_ (by first | omega | (simp; omega) | simp) _)
    · go_enter Tryd.func19, Tryd.ntmps19
      go_wp2_with fail
      refine bodyPost_ret (v := tV (unc (.empty)) none 0) (by simp [results, Tryd.results19, go_sem, tV, unc, tz, Tr.kind, Tr.set, Tr.parts, Tr.mn, Tr.mx, Tr.num, ow_zero]) rfl ⟨none, 0, rfl, TrRw.up (TrRw.nil _ _ _ _ (Nat.zero_le _)), ?_⟩
      repeat (first | (with_reducible exact Below.refl _ _) | refine Below.setCell ?_ (by first | omega | (simp; omega) | simp) _ | refine Below.alloc ?_ (by first | omega | (simp; omega) | simp) _)
    · go_enter Tryd.func19, Tryd.ntmps19
      go_wp2_with fail
      refine bodyPost_ret (v := tV (unc (.one s)) none 0) (by simp [results, Tryd.results19, go_sem, tV, unc, tz, Tr.kind, Tr.set, Tr.parts, Tr.mn, Tr.mx, Tr.num, ow_zero]) rfl ⟨none, 0, rfl, TrRw.up (TrRw.nil _ _ _ _ (Nat.zero_le _)), ?_⟩
      repeat (first | (with_reducible exact Below.refl _ _) | refine Below.setCell ?_ (by first | omega | (simp; omega) | simp) _ | refine Below.alloc ?_ (by first | omega | (simp; omega) | simp) _)
    · have hA1 := (Below.refl w.heap.size w).alloc (Nat.le_refl _) (.cells zC 46)
      have hA2 := hA1.alloc hA1.size (.cells #[.slice a l.length cap] 67)
      have hP2 := hP0.alloc (.cells #[.slice a l.length cap] 67)
      have hI := llist_of n ih l a cap _ (hr.below hA2) (by simp only [nsize] at hs; omega) (by omega)
      have hl1 := hr.1
      have hl2 := hr.2.1
      unfold maxLen at hl2
      clear h hr hP0 hB0 hA1
      go_enter Tryd.func19, Tryd.ntmps19
      go_wp2_with fail
      refine hI.mono ?_
      rintro e w2 ⟨a', cap', rfl, hR, b2⟩
      have hP3 := hP2.below b2 hP2.lt
      have hB3 := hA2.trans (b2.mono hA2.size)
      have hR0 := hR.1
      have p0 := (hP3.cell 0).trans rfl
      have z0 := hP3.frozen 0
      have p1 := (hP3.cell 1).trans rfl
      have z1 := hP3.frozen 1
      have p2 := (hP3.cell 2).trans rfl
      have z2 := hP3.frozen 2
      have p3 := (hP3.cell 3).trans rfl
      have z3 := hP3.frozen 3
      have p4 := (hP3.cell 4).trans rfl
      have z4 := hP3.frozen 4
      have p5 := (hP3.cell 5).trans rfl
      have z5 := hP3.frozen 5
      have p6 := (hP3.cell 6).trans rfl
      have z6 := hP3.frozen 6
      have p7 := (hP3.cell 7).trans rfl
      have z7 := hP3.frozen 7
      have p8 := (hP3.cell 8).trans rfl
      have z8 := hP3.frozen 8
      clear hI hP2 b2
      go_wp2_with fail
      (obtain ⟨w9, hw9⟩ : ∃ w9, w9 = _ := ⟨_, rfl⟩; obtain ⟨hB9, hk9, hs9, d0, d1, d2, d3, d4, d5, d6, d7, d8⟩ := put9 hB3 (Nat.le_refl _) hP3 _ _ _ _ _ _ _ _ _ w9 hw9.symm; rw [← hw9]; clear hw9)
      refine bodyPost_ret (v := tV (unc (.cat l)) a' cap') (by simp [results, Tryd.results19, go_sem, tV, unc, uncs_map, Tr.kind, Tr.set, Tr.parts, Tr.mn, Tr.mx, Tr.num, ow_zero, d0, d1, d2, d3, d4, d5, d6, d7, d8]) rfl ⟨a', cap', rfl, TrRw.up (t := unc (.cat l)) (by show TrRw _ _ (uncs l) _ _; rw [uncs_map]; exact hR.keep (by rw [hs9]; exact Nat.le_refl _) (fun b hf _ => ⟨by simp at hf; omega, hk9 b (by simp at hf; omega)⟩)), hB9⟩
    · have hA1 := (Below.refl w.heap.size w).alloc (Nat.le_refl _) (.cells zC 46)
      have hA2 := hA1.alloc hA1.size (.cells #[.slice a l.length cap] 65)
      have hP2 := hP0.alloc (.cells #[.slice a l.length cap] 65)
      have hI := llist_of n ih l a cap _ (hr.below hA2) (by simp only [nsize] at hs; omega) (by omega)
      have hl1 := hr.1
      have hl2 := hr.2.1
      unfold maxLen at hl2
      clear h hr hP0 hB0 hA1
      go_enter Tryd.func19, Tryd.ntmps19
      go_wp2_with fail
      refine hI.mono ?_
      rintro e w2 ⟨a', cap', rfl, hR, b2⟩
      have hP3 := hP2.below b2 hP2.lt
      have hB3 := hA2.trans (b2.mono hA2.size)
      have hR0 := hR.1
      have p0 := (hP3.cell 0).trans rfl
      have z0 := hP3.frozen 0
      have p1 := (hP3.cell 1).trans rfl
      have z1 := hP3.frozen 1
      have p2 := (hP3.cell 2).trans rfl
      have z2 := hP3.frozen 2
      have p3 := (hP3.cell 3).trans rfl
      have z3 := hP3.frozen 3
      have p4 := (hP3.cell 4).trans rfl
      have z4 := hP3.frozen 4
      have p5 := (hP3.cell 5).trans rfl
      have z5 := hP3.frozen 5
      have p6 := (hP3.cell 6).trans rfl
      have z6 := hP3.frozen 6
      have p7 := (hP3.cell 7).trans rfl
      have z7 := hP3.frozen 7
      have p8 := (hP3.cell 8).trans rfl
      have z8 := hP3.frozen 8
      clear hI hP2 b2
      go_wp2_with fail
      (obtain ⟨w9, hw9⟩ : ∃ w9, w9 = _ := ⟨_, rfl⟩; obtain ⟨hB9, hk9, hs9, d0, d1, d2, d3, d4, d5, d6, d7, d8⟩ := put9 hB3 (Nat.le_refl _) hP3 _ _ _ _ _ _ _ _ _ w9 hw9.symm; rw [← hw9]; clear hw9)
      refine bodyPost_ret (v := tV (unc (.alt l)) a' cap') (by simp [results, Tryd.results19, go_sem, tV, unc, uncs_map, Tr.kind, Tr.set, Tr.parts, Tr.mn, Tr.mx, Tr.num, ow_zero, d0, d1, d2, d3, d4, d5, d6, d7, d8]) rfl ⟨a', cap', rfl, TrRw.up (t := unc (.alt l)) (by show TrRw _ _ (uncs l) _ _; rw [uncs_map]; exact hR.keep (by rw [hs9]; exact Nat.le_refl _) (fun b hf _ => ⟨by simp at hf; omega, hk9 b (by simp at hf; omega)⟩)), hB9⟩
    · have hsh : (∃ T q, u = .iface T q) ∨ u = .nilIface := hu.elim fun _ h => nd_shape h
      have hA1 := (Below.refl w.heap.size w).alloc (Nat.le_refl _) (.cells zC 46)
      have hA2 := fun o => hA1.alloc hA1.size o
      have hP2 := fun o => hP0.alloc o
      have hI := fun (o : Obj) (w' : World) (hb : Below ((w.alloc (.cells zC 46)).alloc o).heap.size ((w.alloc (.cells zC 46)).alloc o) w') => ih d' u w' (by simp only [nsize] at hs; omega) ((hu.below (hA2 o)).below hb)
      unfold RefR tV at hI
      clear h hP0 hB0 hA1 hu hs
      rcases hsh with ⟨T1, q1, rfl⟩ | rfl
      · go_enter Tryd.func19, Tryd.ntmps19
        go_upto_region 13 with fail
        have hb2 : Below w.heap.size w _ := hA2 (.cells #[(.iface T1 q1), .int .i64 mn, .int .i64 mx] 54)
        have hbk : Blk _ w.heap.size zC 46 := hP2 (.cells #[(.iface T1 q1), .int .i64 mn, .int .i64 mx] 54)
        have hq := Blk.new (w.alloc (.cells zC 46)) #[(.iface T1 q1), .int .i64 mn, .int .i64 mx] 54 (w.heap.size + 1) (by simp)
        have hI2 := hI (.cells #[(.iface T1 q1), .int .i64 mn, .int .i64 mx] 54)
        have hall := qc_all hq
        clear hI hA2 hP2
        go_region_held3 (fun w' => QC w' (w.heap.size + 1) (.iface T1 q1) (.int .i64 mn) (.int .i64 mx))
          (first | (with_reducible refine qc_set (by simp) (qc_set (by simp) (qc_set (by simp) (qc_set (by simp) (qc_set (by simp) (qc_set (by simp) (qc_set (by simp) (qc_set (by simp) (qc_set (by simp) ?_)))))))); with_reducible assumption) | (with_reducible exact qc_step hb5 (by with_reducible assumption)) | (with_reducible exact qc_step hbX (by with_reducible assumption)) | (with_reducible exact qc_drew hall) | (with_reducible exact hall))
          (first | (go_at_call 19; refine (hI2 _ (by first | exact Below.refl _ _ | exact Below.drew (Below.refl _ _))).mono ?_; rintro e w2 ⟨a', cap', rfl, hxx, hbX⟩; have hbY : Below ((w.alloc (.cells zC 46)).alloc (.cells #[(.iface T1 q1), .int .i64 mn, .int .i64 mx] 54)).heap.size ((w.alloc (.cells zC 46)).alloc (.cells #[(.iface T1 q1), .int .i64 mn, .int .i64 mx] 54)) w2 := (by first | exact hbX | exact (Below.drew (Below.refl _ _)).trans hbX); have hP3 := Blk.below hbk hbY hbk.lt; obtain ⟨W5, hW5⟩ : ∃ W5, w2.alloc (.cells #[.int .i64 (unc d').kind, .int .u64 (ow (unc d').set 0), .int .u64 (ow (unc d').set 1), .int .u64 (ow (unc d').set 2), .int .u64 (ow (unc d').set 3), .slice a' (unc d').parts.length cap', .int .i64 (unc d').mn, .int .i64 (unc d').mx, .int .i64 (unc d').num] 46) = W5 := ⟨_, rfl⟩; have hb5 : Below w2.heap.size w2 W5 := (by rw [← hW5]; exact (Below.refl _ _).alloc (Nat.le_refl _) _); have hP5 := hP3.below hb5 hP3.lt; have p0 := (hP5.cell 0).trans rfl; have z0 := hP5.frozen 0; have p1 := (hP5.cell 1).trans rfl; have z1 := hP5.frozen 1; have p2 := (hP5.cell 2).trans rfl; have z2 := hP5.frozen 2; have p3 := (hP5.cell 3).trans rfl; have z3 := hP5.frozen 3; have p4 := (hP5.cell 4).trans rfl; have z4 := hP5.frozen 4; have p5 := (hP5.cell 5).trans rfl; have z5 := hP5.frozen 5; have p6 := (hP5.cell 6).trans rfl; have z6 := hP5.frozen 6; have p7 := (hP5.cell 7).trans rfl; have z7 := hP5.frozen 7; have p8 := (hP5.cell 8).trans rfl; have z8 := hP5.frozen 8))
        go_wp2_with fail
        have hBW := (hb2.trans (hbY.mono hb2.size)).trans (hb5.mono (Nat.le_trans (hb2.trans (hbY.mono hb2.size)).size (Nat.le_refl _)))
        have hrw : TrRw (fun b => w.heap.size < b) W5 [unc d'] (some ⟨w2.heap.size, 0, none⟩) 1 := by
          rw [← hW5]
          exact trw_one hxx (fun b hf _ => by simp at hf; omega) hP3.lt
        clear hW5
        (obtain ⟨w9, hw9⟩ : ∃ w9, w9 = _ := ⟨_, rfl⟩; obtain ⟨hB9, hk9, hs9, d0, d1, d2, d3, d4, d5, d6, d7, d8⟩ := put9 hBW (Nat.le_refl _) hP5 _ _ _ _ _ _ _ _ _ w9 hw9.symm; rw [← hw9]; clear hw9)
        refine bodyPost_ret (v := tV (unc (.rep d' mn mx)) (some ⟨w2.heap.size, 0, none⟩) 1) (by simp [results, Tryd.results19, go_sem, tV, unc, Tr.kind, Tr.set, Tr.parts, Tr.mn, Tr.mx, Tr.num, ow_zero, d0, d1, d2, d3, d4, d5, d6, d7, d8]) rfl ⟨_, _, rfl, TrRw.up (t := unc (.rep d' mn mx)) (hrw.keep (by rw [hs9]; exact Nat.le_refl _) (fun b hf _ => ⟨Nat.le_of_lt hf, hk9 b (by omega)⟩)), hB9⟩
      · go_enter Tryd.func19, Tryd.ntmps19
        go_upto_region 13 with fail
        have hb2 : Below w.heap.size w _ := hA2 (.cells #[.nilIface, .int .i64 mn, .int .i64 mx] 54)
        have hbk : Blk _ w.heap.size zC 46 := hP2 (.cells #[.nilIface, .int .i64 mn, .int .i64 mx] 54)
        have hq := Blk.new (w.alloc (.cells zC 46)) #[.nilIface, .int .i64 mn, .int .i64 mx] 54 (w.heap.size + 1) (by simp)
        have hI2 := hI (.cells #[.nilIface, .int .i64 mn, .int .i64 mx] 54)
        have hall := qc_all hq
        clear hI hA2 hP2
        go_region_held3 (fun w' => QC w' (w.heap.size + 1) .nilIface (.int .i64 mn) (.int .i64 mx))
          (first | (with_reducible refine qc_set (by simp) (qc_set (by simp) (qc_set (by simp) (qc_set (by simp) (qc_set (by simp) (qc_set (by simp) (qc_set (by simp) (qc_set (by simp) (qc_set (by simp) ?_)))))))); with_reducible assumption) | (with_reducible exact qc_step hb5 (by with_reducible assumption)) | (with_reducible exact qc_step hbX (by with_reducible assumption)) | (with_reducible exact qc_drew hall) | (with_reducible exact hall))
          (first | (go_at_call 19; refine (hI2 _ (by first | exact Below.refl _ _ | exact Below.drew (Below.refl _ _))).mono ?_; rintro e w2 ⟨a', cap', rfl, hxx, hbX⟩; have hbY : Below ((w.alloc (.cells zC 46)).alloc (.cells #[.nilIface, .int .i64 mn, .int .i64 mx] 54)).heap.size ((w.alloc (.cells zC 46)).alloc (.cells #[.nilIface, .int .i64 mn, .int .i64 mx] 54)) w2 := (by first | exact hbX | exact (Below.drew (Below.refl _ _)).trans hbX); have hP3 := Blk.below hbk hbY hbk.lt; obtain ⟨W5, hW5⟩ : ∃ W5, w2.alloc (.cells #[.int .i64 (unc d').kind, .int .u64 (ow (unc d').set 0), .int .u64 (ow (unc d').set 1), .int .u64 (ow (unc d').set 2), .int .u64 (ow (unc d').set 3), .slice a' (unc d').parts.length cap', .int .i64 (unc d').mn, .int .i64 (unc d').mx, .int .i64 (unc d').num] 46) = W5 := ⟨_, rfl⟩; have hb5 : Below w2.heap.size w2 W5 := (by rw [← hW5]; exact (Below.refl _ _).alloc (Nat.le_refl _) _); have hP5 := hP3.below hb5 hP3.lt; have p0 := (hP5.cell 0).trans rfl; have z0 := hP5.frozen 0; have p1 := (hP5.cell 1).trans rfl; have z1 := hP5.frozen 1; have p2 := (hP5.cell 2).trans rfl; have z2 := hP5.frozen 2; have p3 := (hP5.cell 3).trans rfl; have z3 := hP5.frozen 3; have p4 := (hP5.cell 4).trans rfl; have z4 := hP5.frozen 4; have p5 := (hP5.cell 5).trans rfl; have z5 := hP5.frozen 5; have p6 := (hP5.cell 6).trans rfl; have z6 := hP5.frozen 6; have p7 := (hP5.cell 7).trans rfl; have z7 := hP5.frozen 7; have p8 := (hP5.cell 8).trans rfl; have z8 := hP5.frozen 8))
        go_wp2_with fail
        have hBW := (hb2.trans (hbY.mono hb2.size)).trans (hb5.mono (Nat.le_trans (hb2.trans (hbY.mono hb2.size)).size (Nat.le_refl _)))
        have hrw : TrRw (fun b => w.heap.size < b) W5 [unc d'] (some ⟨w2.heap.size, 0, none⟩) 1 := by
          rw [← hW5]
          exact trw_one hxx (fun b hf _ => by simp at hf; omega) hP3.lt
        clear hW5
        (obtain ⟨w9, hw9⟩ : ∃ w9, w9 = _ := ⟨_, rfl⟩; obtain ⟨hB9, hk9, hs9, d0, d1, d2, d3, d4, d5, d6, d7, d8⟩ := put9 hBW (Nat.le_refl _) hP5 _ _ _ _ _ _ _ _ _ w9 hw9.symm; rw [← hw9]; clear hw9)
        refine bodyPost_ret (v := tV (unc (.rep d' mn mx)) (some ⟨w2.heap.size, 0, none⟩) 1) (by simp [results, Tryd.results19, go_sem, tV, unc, Tr.kind, Tr.set, Tr.parts, Tr.mn, Tr.mx, Tr.num, ow_zero, d0, d1, d2, d3, d4, d5, d6, d7, d8]) rfl ⟨_, _, rfl, TrRw.up (t := unc (.rep d' mn mx)) (hrw.keep (by rw [hs9]; exact Nat.le_refl _) (fun b hf _ => ⟨Nat.le_of_lt hf, hk9 b (by omega)⟩)), hB9⟩
    · have hsh : (∃ T q, u = .iface T q) ∨ u = .nilIface := hu.elim fun _ h => nd_shape h
      have hA1 := (Below.refl w.heap.size w).alloc (Nat.le_refl _) (.cells zC 46)
      have hA2 := fun o => hA1.alloc hA1.size o
      have hP2 := fun o => hP0.alloc o
      have hI := fun (o : Obj) (w' : World) (hb : Below ((w.alloc (.cells zC 46)).alloc o).heap.size ((w.alloc (.cells zC 46)).alloc o) w') => ih d' u w' (by simp only [nsize] at hs; omega) ((hu.below (hA2 o)).below hb)
      unfold RefR tV at hI
      clear h hP0 hB0 hA1 hu hs
      rcases hsh with ⟨T1, q1, rfl⟩ | rfl
      · go_enter Tryd.func19, Tryd.ntmps19
        go_upto_region 16 with fail
        have hb2 : Below w.heap.size w _ := hA2 (.cells #[.int .i64 num, (.iface T1 q1)] 36)
        have hbk : Blk _ w.heap.size zC 46 := hP2 (.cells #[.int .i64 num, (.iface T1 q1)] 36)
        have hq := Blk.new (w.alloc (.cells zC 46)) #[.int .i64 num, (.iface T1 q1)] 36 (w.heap.size + 1) (by simp)
        have hI2 := hI (.cells #[.int .i64 num, (.iface T1 q1)] 36)
        have hall := qd_all hq
        clear hI hA2 hP2
        go_region_held3 (fun w' => QD w' (w.heap.size + 1) (.int .i64 num) (.iface T1 q1))
          (first | (with_reducible refine qd_set (by simp) (qd_set (by simp) (qd_set (by simp) (qd_set (by simp) (qd_set (by simp) (qd_set (by simp) (qd_set (by simp) (qd_set (by simp) (qd_set (by simp) ?_)))))))); with_reducible assumption) | (with_reducible exact qd_step hb5 (by with_reducible assumption)) | (with_reducible exact qd_step hbX (by with_reducible assumption)) | (with_reducible exact qd_drew hall) | (with_reducible exact hall))
          (first | (go_at_call 19; refine (hI2 _ (by first | exact Below.refl _ _ | exact Below.drew (Below.refl _ _))).mono ?_; rintro e w2 ⟨a', cap', rfl, hxx, hbX⟩; have hbY : Below ((w.alloc (.cells zC 46)).alloc (.cells #[.int .i64 num, (.iface T1 q1)] 36)).heap.size ((w.alloc (.cells zC 46)).alloc (.cells #[.int .i64 num, (.iface T1 q1)] 36)) w2 := (by first | exact hbX | exact (Below.drew (Below.refl _ _)).trans hbX); have hP3 := Blk.below hbk hbY hbk.lt; obtain ⟨W5, hW5⟩ : ∃ W5, w2.alloc (.cells #[.int .i64 (unc d').kind, .int .u64 (ow (unc d').set 0), .int .u64 (ow (unc d').set 1), .int .u64 (ow (unc d').set 2), .int .u64 (ow (unc d').set 3), .slice a' (unc d').parts.length cap', .int .i64 (unc d').mn, .int .i64 (unc d').mx, .int .i64 (unc d').num] 46) = W5 := ⟨_, rfl⟩; have hb5 : Below w2.heap.size w2 W5 := (by rw [← hW5]; exact (Below.refl _ _).alloc (Nat.le_refl _) _); have hP5 := hP3.below hb5 hP3.lt; have p0 := (hP5.cell 0).trans rfl; have z0 := hP5.frozen 0; have p1 := (hP5.cell 1).trans rfl; have z1 := hP5.frozen 1; have p2 := (hP5.cell 2).trans rfl; have z2 := hP5.frozen 2; have p3 := (hP5.cell 3).trans rfl; have z3 := hP5.frozen 3; have p4 := (hP5.cell 4).trans rfl; have z4 := hP5.frozen 4; have p5 := (hP5.cell 5).trans rfl; have z5 := hP5.frozen 5; have p6 := (hP5.cell 6).trans rfl; have z6 := hP5.frozen 6; have p7 := (hP5.cell 7).trans rfl; have z7 := hP5.frozen 7; have p8 := (hP5.cell 8).trans rfl; have z8 := hP5.frozen 8))
        go_wp2_with fail
        have hBW := (hb2.trans (hbY.mono hb2.size)).trans (hb5.mono (Nat.le_trans (hb2.trans (hbY.mono hb2.size)).size (Nat.le_refl _)))
        have hrw : TrRw (fun b => w.heap.size < b) W5 [unc d'] (some ⟨w2.heap.size, 0, none⟩) 1 := by
          rw [← hW5]
          exact trw_one hxx (fun b hf _ => by simp at hf; omega) hP3.lt
        clear hW5
        (obtain ⟨w9, hw9⟩ : ∃ w9, w9 = _ := ⟨_, rfl⟩; obtain ⟨hB9, hk9, hs9, d0, d1, d2, d3, d4, d5, d6, d7, d8⟩ := put9 hBW (Nat.le_refl _) hP5 _ _ _ _ _ _ _ _ _ w9 hw9.symm; rw [← hw9]; clear hw9)
        refine bodyPost_ret (v := tV (unc (.group num d')) (some ⟨w2.heap.size, 0, none⟩) 1) (by simp [results, Tryd.results19, go_sem, tV, unc, Tr.kind, Tr.set, Tr.parts, Tr.mn, Tr.mx, Tr.num, ow_zero, d0, d1, d2, d3, d4, d5, d6, d7, d8]) rfl ⟨_, _, rfl, TrRw.up (t := unc (.group num d')) (hrw.keep (by rw [hs9]; exact Nat.le_refl _) (fun b hf _ => ⟨Nat.le_of_lt hf, hk9 b (by omega)⟩)), hB9⟩
      · go_enter Tryd.func19, Tryd.ntmps19
        go_upto_region 16 with fail
        have hb2 : Below w.heap.size w _ := hA2 (.cells #[.int .i64 num, .nilIface] 36)
        have hbk : Blk _ w.heap.size zC 46 := hP2 (.cells #[.int .i64 num, .nilIface] 36)
        have hq := Blk.new (w.alloc (.cells zC 46)) #[.int .i64 num, .nilIface] 36 (w.heap.size + 1) (by simp)
        have hI2 := hI (.cells #[.int .i64 num, .nilIface] 36)
        have hall := qd_all hq
        clear hI hA2 hP2
        go_region_held3 (fun w' => QD w' (w.heap.size + 1) (.int .i64 num) .nilIface)
          (first | (with_reducible refine qd_set (by simp) (qd_set (by simp) (qd_set (by simp) (qd_set (by simp) (qd_set (by simp) (qd_set (by simp) (qd_set (by simp) (qd_set (by simp) (qd_set (by simp) ?_)))))))); with_reducible assumption) | (with_reducible exact qd_step hb5 (by with_reducible assumption)) | (with_reducible exact qd_step hbX (by with_reducible assumption)) | (with_reducible exact qd_drew hall) | (with_reducible exact hall))
          (first | (go_at_call 19; refine (hI2 _ (by first | exact Below.refl _ _ | exact Below.drew (Below.refl _ _))).mono ?_; rintro e w2 ⟨a', cap', rfl, hxx, hbX⟩; have hbY : Below ((w.alloc (.cells zC 46)).alloc (.cells #[.int .i64 num, .nilIface] 36)).heap.size ((w.alloc (.cells zC 46)).alloc (.cells #[.int .i64 num, .nilIface] 36)) w2 := (by first | exact hbX | exact (Below.drew (Below.refl _ _)).trans hbX); have hP3 := Blk.below hbk hbY hbk.lt; obtain ⟨W5, hW5⟩ : ∃ W5, w2.alloc (.cells #[.int .i64 (unc d').kind, .int .u64 (ow (unc d').set 0), .int .u64 (ow (unc d').set 1), .int .u64 (ow (unc d').set 2), .int .u64 (ow (unc d').set 3), .slice a' (unc d').parts.length cap', .int .i64 (unc d').mn, .int .i64 (unc d').mx, .int .i64 (unc d').num] 46) = W5 := ⟨_, rfl⟩; have hb5 : Below w2.heap.size w2 W5 := (by rw [← hW5]; exact (Below.refl _ _).alloc (Nat.le_refl _) _); have hP5 := hP3.below hb5 hP3.lt; have p0 := (hP5.cell 0).trans rfl; have z0 := hP5.frozen 0; have p1 := (hP5.cell 1).trans rfl; have z1 := hP5.frozen 1; have p2 := (hP5.cell 2).trans rfl; have z2 := hP5.frozen 2; have p3 := (hP5.cell 3).trans rfl; have z3 := hP5.frozen 3; have p4 := (hP5.cell 4).trans rfl; have z4 := hP5.frozen 4; have p5 := (hP5.cell 5).trans rfl; have z5 := hP5.frozen 5; have p6 := (hP5.cell 6).trans rfl; have z6 := hP5.frozen 6; have p7 := (hP5.cell 7).trans rfl; have z7 := hP5.frozen 7; have p8 := (hP5.cell 8).trans rfl; have z8 := hP5.frozen 8))
        go_wp2_with fail
        have hBW := (hb2.trans (hbY.mono hb2.size)).trans (hb5.mono (Nat.le_trans (hb2.trans (hbY.mono hb2.size)).size (Nat.le_refl _)))
        have hrw : TrRw (fun b => w.heap.size < b) W5 [unc d'] (some ⟨w2.heap.size, 0, none⟩) 1 := by
          rw [← hW5]
          exact trw_one hxx (fun b hf _ => by simp at hf; omega) hP3.lt
        clear hW5
        (obtain ⟨w9, hw9⟩ : ∃ w9, w9 = _ := ⟨_, rfl⟩; obtain ⟨hB9, hk9, hs9, d0, d1, d2, d3, d4, d5, d6, d7, d8⟩ := put9 hBW (Nat.le_refl _) hP5 _ _ _ _ _ _ _ _ _ w9 hw9.symm; rw [← hw9]; clear hw9)
        refine bodyPost_ret (v := tV (unc (.group num d')) (some ⟨w2.heap.size, 0, none⟩) 1) (by simp [results, Tryd.results19, go_sem, tV, unc, Tr.kind, Tr.set, Tr.parts, Tr.mn, Tr.mx, Tr.num, ow_zero, d0, d1, d2, d3, d4, d5, d6, d7, d8]) rfl ⟨_, _, rfl, TrRw.up (t := unc (.group num d')) (hrw.keep (by rw [hs9]; exact Nat.le_refl _) (fun b hf _ => ⟨Nat.le_of_lt hf, hk9 b (by omega)⟩)), hB9⟩
    · go_enter Tryd.func19, Tryd.ntmps19
      go_wp2_with fail
      refine bodyPost_ret (v := tV (unc (.back num)) none 0) (by simp [results, Tryd.results19, go_sem, tV, unc, tz, Tr.kind, Tr.set, Tr.parts, Tr.mn, Tr.mx, Tr.num, ow_zero]) rfl ⟨none, 0, rfl, TrRw.up (TrRw.nil _ _ _ _ (Nat.zero_le _)), ?_⟩
      repeat (first | (with_reducible exact Below.refl _ _) | refine Below.setCell ?_ (by first | omega | (simp; omega) | simp) _ | refine Below.alloc ?_ (by first | omega | (simp; omega) | simp) _)
    · go_enter Tryd.func19, Tryd.ntmps19
      go_wp2_with fail
      refine bodyPost_ret (v := tV (unc (.start)) none 0) (by simp [results, Tryd.results19, go_sem, tV, unc, tz, Tr.kind, Tr.set, Tr.parts, Tr.mn, Tr.mx, Tr.num, ow_zero]) rfl ⟨none, 0, rfl, TrRw.up (TrRw.nil _ _ _ _ (Nat.zero_le _)), ?_⟩
      repeat (first | (with_reducible exact Below.refl _ _) | refine Below.setCell ?_ (by first | omega | (simp; omega) | simp) _ | refine Below.alloc ?_ (by first | omega | (simp; omega) | simp) _)
    · go_enter Tryd.func19, Tryd.ntmps19
      go_wp2_with fail
      refine bodyPost_ret (v := tV (unc (.fin)) none 0) (by simp [results, Tryd.results19, go_sem, tV, unc, tz, Tr.kind, Tr.set, Tr.parts, Tr.mn, Tr.mx, Tr.num, ow_zero]) rfl ⟨none, 0, rfl, TrRw.up (TrRw.nil _ _ _ _ (Nat.zero_le _)), ?_⟩
      repeat (first | (with_reducible exact Below.refl _ _) | refine Below.setCell ?_ (by first | omega | (simp; omega) | simp) _ | refine Below.alloc ?_ (by first | omega | (simp; omega) | simp) _)
end Go.Proofs.YtbbcjclkklmoaaaDoor
