/- The closure of an Alt's branches that are left. -/
import Derived.Test.YtjjhkagpoicimaaCbQ
namespace Go.Proofs.Ytjjhkagpoicimaa
open Go Go.RowKit

theorem jint_info : ∃ i, Try.prog.info? 3 = some i ∧ i.zero = some (.int .i64 0) ∧ i.size = 1 ∧ i.bytes = 8 := by
  have h : (Try.prog.info? 3).map (fun i => (i.zero, i.size, i.bytes)) = some (some (.int .i64 0), 1, 8) := by kernel_rfl
  obtain ⟨i, hi, he⟩ := Option.map_eq_some_iff.1 h
  injection he with h1 h2
  injection h2 with h2 h3
  exact ⟨i, hi, h1, h2, h3⟩
theorem jvOf_snoc (js : List Nat) (j : Nat) : jvOf (js ++ [j]) = jvOf js ++ [.int .i64 (j : Int)] := by simp [jvOf]
/-- The row of jumps that is put behind: what is kept beside it. -/
theorem jump_more {B p : Nat} {w w6 : World} {l : List Inn} {g : Int} {k : Nat} {bk : Bool} {iv tv jv v6 : Value} {ts : List CTk} {us jvs : List Value} {js : List Nat} {j : Nat} {ds : List Nd} {a : Option Addr} {c : Nat} (h : Sta B p w l g k bk iv tv ts us jvs jv) (hrow : w.ownsRow B 3 1 jv js.length (jvOf js))
    (hv : NdRw (OffT p iv tv (jv :: jvs)) w ds a c) (hown : w6.ownsRow B 3 1 v6 (js.length + 1) (jvOf js ++ [.int .i64 (j : Int)])) (hg : (w.alloc (.cells #[.int .i64 (j : Int)] 3)).drew.grownBy w6 jv.ownBlock)
    (hat : v6.ownBlock = jv.ownBlock ∨ (v6.ownBlock = some (w.alloc (.cells #[.int .i64 (j : Int)] 3)).drew.heap.size ∧ (w.alloc (.cells #[.int .i64 (j : Int)] 3)).drew.grownBy w6 none)) :
    Sta B p w6 l g k bk iv tv ts us jvs v6 ∧ w6.ownsRow B 3 1 v6 (js ++ [j]).length (jvOf (js ++ [j])) ∧ NdRw (OffT p iv tv (v6 :: jvs)) w6 ds a c ∧ Below B w w6 ∧
      (∀ b o, OffT p iv tv (jv :: jvs) b → b < w.heap.size → OffT p iv tv (v6 :: jvs) b ∧ w6.cell? ⟨b, o, none⟩ = w.cell? ⟨b, o, none⟩) := by
  have hA : Below w.heap.size w (w.alloc (.cells #[.int .i64 (j : Int)] 3)).drew := Below.drew ((Below.refl _ w).alloc (Nat.le_refl _) _)
  have hs := (h.below hA).jrow hg (hat.imp id And.left) hown
  have hX : w.heap.size < (w.alloc (.cells #[.int .i64 (j : Int)] 3)).drew.heap.size := by
    show w.heap.size < (w.alloc (.cells #[.int .i64 (j : Int)] 3)).heap.size
    rw [World.size_alloc]; exact Nat.lt_succ_self _
  have hkeep : ∀ b, OffT p iv tv (jv :: jvs) b → b < w.heap.size → OffT p iv tv (v6 :: jvs) b ∧ ∀ o, w6.cell? ⟨b, o, none⟩ = w.cell? ⟨b, o, none⟩ := fun b hb hl => by
    refine ⟨⟨hb.1, fun y hm e => ?_⟩, fun o => ?_⟩
    · rcases List.mem_cons.1 hm with rfl | hm
      · rcases hat with e2 | ⟨e2, _⟩
        · exact hb.2 jv (List.mem_cons_self ..) (by rw [← e2]; exact e)
        · rw [e2] at e; injection e with e; omega
      · exact hb.2 y (List.mem_cons_of_mem _ hm) e
    · refine (World.cell?_of_block (w := (w.alloc (.cells #[.int .i64 (j : Int)] 3)).drew) (a := ⟨b, o, none⟩) (hg.block b (by omega) fun e => hb.2 jv (List.mem_cons_self ..) e.symm)).trans (hA.cell (p := ⟨b, o, none⟩) hl)
  refine ⟨hs, by rw [jvOf_snoc, List.length_append]; exact hown, hv.keep (Nat.le_trans (Nat.le_of_lt hX) hg.size) hkeep, (hA.mono (Nat.le_trans h.bld.bp (Nat.le_of_lt h.bld.blk.lt))).trans ⟨hg.os, hg.tape, hg.output, hg.size, fun b hb => ?_⟩, fun b o hb hl => ⟨(hkeep b hb hl).1, (hkeep b hb hl).2 o⟩⟩
  have hpl := h.bld.blk.lt
  have hbp := h.bld.bp
  refine hg.block b (by omega) fun e => ?_
  have := own_of hrow b e.symm
  omega

set_option linter.unusedVariables false in
set_option linter.unusedSimpArgs false in
set_option maxRecDepth 100000 in
set_option maxHeartbeats 4000000 in
theorem task_branch {B p : Nat} {l : List Inn} {g : Int} {k : Nat} {bk : Bool} {iv tv v jv : Value} {ts : List CTk} {us jvs : List Value} (s : Nat) (ds : List Nd) (js : List Nat) (w : World) (h : Sta B p w l g k bk iv tv ts us jvs jv) (ht : TkAt B p (OffT p iv tv (jv :: jvs)) w (.branch s ds js) v jv) (hf : Fit l.length k (.branch s ds js)) (hpos : 0 < l.length) (hbd : Bd l) (hus : us.length ≤ 4000000) (hl : l.length ≤ 3000) (hk : k ≤ l.length) :
    ∃ x z y j, v = .func (.func 56) #[] #[ptr x, ptr z, ptr y, ptr j] ∧ Calls Try.prog 56 #[ptr x, ptr z, ptr y, ptr j] w (Did B p g bk w l k (.branch s ds js) ts us) := by
  obtain ⟨hrow, x, z, y, j, a, c, d, rfl, bx, bz, by', hv, bj⟩ := ht
  refine ⟨x, z, y, j, rfl, ?_⟩
  obtain ⟨f1, f2, f3, f5, f4⟩ := hf
  obtain ⟨b, o, rfl⟩ := hv.some
  obtain ⟨ja, jc, rfl⟩ := co_form hrow
  obtain ⟨n, hn⟩ : ∃ n, ds.length = n := ⟨_, rfl⟩
  obtain ⟨X, hX⟩ : ∃ X, l.length + 1 = X := ⟨_, rfl⟩
  have hn0 : 0 < n := by rw [← hn]; exact List.length_pos_iff.2 f2
  have hcap := hv.1
  have hmax := hv.2.1
  rw [List.length_cons, hn] at hcap
  have hc1 : ¬ c = 1 := by omega
  have hL := lay_ins 2 0 0 w h.bld (by omega)
  have c0 := bx.2.2
  have Hh := Lib.hid h
  have Hx := Lib.hid bx
  have Hy := Lib.hid by'
  have Hz := Lib.hid bz
  have Hj := Lib.hid bj
  have Hv := Lib.hid hv
  have Hrow := Lib.hid hrow
  clear h bx bz by' bj hv hrow f1 f4 hbd
  go_enter Try.func56, Try.ntmps56
  go_upto_region 1 with (go_at_call 22; refine hL.mono ?_; rintro e w1 ⟨rfl, iv1, hB1, hC1, _⟩)
  have hF := OffT.step (jvs := .slice ja js.length jc :: jvs) (jvs' := .slice ja js.length jc :: jvs) hC1 fun jv hm => .inr hm
  have hS1 := Hh.out.step hC1 hB1
  have x1 := ((hF x Hx.out.1 Hx.out.2.1).2 0).trans Hx.out.2.2
  have z1 := ((hF z Hz.out.1 Hz.out.2.1).2 0).trans Hz.out.2.2
  obtain ⟨ia, ic, rfl⟩ := co_form hB1.io
  have hlen : (l ++ [ins 2 0 0]).length = X := by simp [← hX]
  obtain ⟨hlc, hcm, q0, rfl, hBq, hq0, hqp, hcell, hfz⟩ := hB1.inst (by omega)
  have hfy := hfz (s * 7 + 6)
  have hcy : w1.cell? ⟨q0, s * 7 + 6, none⟩ = some (.int .i64 ((l ++ [ins 2 0 0])[s]'(by omega)).y) := (hcell s (by omega) 6 (by omega)).trans rfl
  have p0 := hB1.cells.c0
  have hd2 : Below w1.heap.size w1 w1.drew := Below.drew (Below.refl _ _)
  obtain ⟨hB2, hC2⟩ := (hB1.below hd2).setY s (by omega) (X : Int)
  have hC12 := (hC1.trans (CStep.of_below hd2)).trans hC2
  have hS2 := Hh.out.step hC12 hB2
  have hlow2 := hC12.low Hh.out.bld
  have hF2 := OffT.step (jvs := .slice ja js.length jc :: jvs) (jvs' := .slice ja js.length jc :: jvs) hC12 fun jv hm => .inr hm
  have hv2 := Hv.out.keep hC12.size hF2
  have hrow2 := own_row_same Hrow.out (fun g hg => by
    obtain ⟨h1, h2⟩ := Hh.out.jb _ (List.mem_cons_self ..) g hg
    exact (hC12.block g h2 h1.1 h1.2.1 h1.2.2).1)
  have x2 := ((hF2 x Hx.out.1 Hx.out.2.1).2 0).trans Hx.out.2.2
  have y2 := ((hF2 y Hy.out.1 Hy.out.2.1).2 0).trans Hy.out.2.2
  have j2 := ((hF2 j Hj.out.1 Hj.out.2.1).2 0).trans Hj.out.2.2
  have ox := (hF2 x Hx.out.1 Hx.out.2.1).1
  have oy := (hF2 y Hy.out.1 Hy.out.2.1).1
  have oj := (hF2 j Hj.out.1 Hj.out.2.1).1
  rw [List.length_cons, hn] at y2
  rw [hlen] at p0
  have hsX : (s : Int) < (X : Int) := by omega
  have HS2 := Lib.hid hS2
  have Hlow2 := Lib.hid hlow2
  have Hv2 := Lib.hid hv2
  have Hrow2 := Lib.hid hrow2
  have Ox := Lib.hid ox
  have Oy := Lib.hid oy
  have Oj := Lib.hid oj
  have X2 := Lib.hid x2
  have Y2 := Lib.hid y2
  have J2 := Lib.hid j2
  clear hF hS1 hB1 hC1 hcell hfz hd2 hB2 hC2 hC12 hS2 hlow2 hF2 hv2 hrow2 ox oy oj x2 y2 j2 hL c0 Hx Hy Hz Hj Hv Hrow Hh hlc hcm
  go_still_tail 14, (by kernel_rfl)
  change wpList _ _ _ _ _ w1.drew
  go_wp2_with fail
  change Code.wp _ _ _ _ (w1.drew.setCell ⟨q0, s * 7 + 6, none⟩ (.int .i64 (X : Int)))
  generalize hWW : w1.drew.setCell ⟨q0, s * 7 + 6, none⟩ (.int .i64 (X : Int)) = W2 at HS2 Hlow2 Hv2 Hrow2 X2 Y2 J2 ⊢
  clear hWW x1 z1 hfy hcy p0
  generalize hIV : Value.slice (some ⟨q0, 0, none⟩) (upd (l ++ [ins 2 0 0]) s fun i => { i with y := (X : Int) }).length ic = iv2 at HS2 Hv2 Ox Oy Oj
  have hL2l : (upd (l ++ [ins 2 0 0]) s fun i => { i with y := (X : Int) }).length = X := (upd_len _ _ _).trans hlen
  have hst : stp (.branch s ds js) l k = (((brSt ds (js ++ [l.length]) (upd (l ++ [ins 2 0 0]) s fun i => { i with y := (X : Int) })).1, k), (brSt ds (js ++ [l.length]) (upd (l ++ [ins 2 0 0]) s fun i => { i with y := (X : Int) })).2) := by rw [← hX]; rfl
  generalize hL2 : (upd (l ++ [ins 2 0 0]) s fun i => { i with y := (X : Int) }) = L2 at HS2 hst hL2l
  have Hst := Lib.hid hst
  clear hIV hL2 hst hlen
  have hmix : Try.prog.follows .mixedOrders = true := by kernel_rfl
  have c0 := X2.out
  have c1 := Y2.out
  have c2 := J2.out
  have hle : (1 : Int) ≤ (n : Int) + 1 := by omega
  have hx0 := World.block_lt_of_cell? _ _ c0
  have hy0 := World.block_lt_of_cell? _ _ c1
  have hj0 := World.block_lt_of_cell? _ _ c2
  have hS0 : ∀ W' : World, Below W2.heap.size W2 W' → (fun W' : World => W'.cell? ⟨x, 0, none⟩ = some (ptr p) ∧ W'.cell? ⟨y, 0, none⟩ = some (.slice (some ⟨b, o, none⟩) (n + 1) c) ∧ W'.cell? ⟨j, 0, none⟩ = some (.slice ja js.length jc) ∧ True) W' := fun W' hW => ⟨(hW.cell hx0).trans c0, (hW.cell hy0).trans c1, (hW.cell hj0).trans c2, trivial⟩
  obtain ⟨i0, hi, hz0, hz1, hz2⟩ := jint_info
  have hBW := Nat.le_trans HS2.out.bld.bp (Nat.le_of_lt HS2.out.bld.blk.lt)
  have hm1 : js.length + 1 ≤ maxLen := by unfold maxLen; omega
  have hm2 : (js.length + 1) * 8 ≤ 140737488355328 := by omega
  refine wp_region_held_drew (S := fun W' : World => W'.cell? ⟨x, 0, none⟩ = some (ptr p) ∧ W'.cell? ⟨y, 0, none⟩ = some (.slice (some ⟨b, o, none⟩) (n + 1) c) ∧ W'.cell? ⟨j, 0, none⟩ = some (.slice ja js.length jc) ∧ True) hmix ⟨c0, c1, c2, trivial⟩ (fun hHeld => ?_)
  refine wpAnyH_take (i := 0) (v := ?_) rfl (by kernel_rfl) (by kernel_rfl) (by kernel_rfl) (fun _ _ _ h => h) (Or.inl ⟨by rfl, ?_⟩) (by assumption) ?_
  rotate_left
  · intro W' hSw; obtain ⟨d0, d1, d2, _⟩ := hSw; go_simp; try with_reducible rfl
  try simp only [Act.put, List.setIfInBounds_toArray, List.set_cons_zero, List.set_cons_succ]
  refine wpAnyH_take (i := 1) (v := ?_) rfl (by kernel_rfl) (by kernel_rfl) (by kernel_rfl) (fun _ _ _ h => h) (Or.inl ⟨by rfl, ?_⟩) (by assumption) ?_
  rotate_left
  · intro W' hSw; obtain ⟨d0, d1, d2, _⟩ := hSw; go_simp; try with_reducible rfl
  try simp only [Act.put, List.setIfInBounds_toArray, List.set_cons_zero, List.set_cons_succ]
  refine wpAnyH_take (i := 2) (v := ?_) rfl (by kernel_rfl) (by kernel_rfl) (by kernel_rfl) (fun _ _ _ h => h) (Or.inl ⟨by rfl, ?_⟩) (by assumption) ?_
  rotate_left
  · intro W' hSw; obtain ⟨d0, d1, d2, _⟩ := hSw; go_simp; try with_reducible rfl
  try simp only [Act.put, List.setIfInBounds_toArray, List.set_cons_zero, List.set_cons_succ]
  refine wpAnyH_take (i := 3) (v := ?_) rfl (by kernel_rfl) (by kernel_rfl) (by kernel_rfl) (fun _ _ _ h => h) (Or.inl ⟨by rfl, ?_⟩) (by assumption) ?_
  rotate_left
  · intro W' hSw; obtain ⟨d0, d1, d2, _⟩ := hSw; go_simp; try with_reducible rfl
  try simp only [Act.put, List.setIfInBounds_toArray, List.set_cons_zero, List.set_cons_succ]
  refine wpAnyH_take (i := 4) (v := ?_) rfl (by kernel_rfl) (by kernel_rfl) (by kernel_rfl) (fun _ _ _ h => h) (Or.inl ⟨by rfl, ?_⟩) (by assumption) ?_
  rotate_left
  · intro W' hSw; obtain ⟨d0, d1, d2, _⟩ := hSw; go_simp; try with_reducible rfl
  try simp only [Act.put, List.setIfInBounds_toArray, List.set_cons_zero, List.set_cons_succ]
  refine wpAnyH_ready (rs := [5]) (by kernel_rfl) (by simp) ?_
  refine AllReadyH.cons rfl (fun K hK => ?_) AllReadyH.nil
  go_simp
  refine hK.out _ _ (hS0 _ (Below.alloc (Below.drew (Below.refl _ _)) (Nat.le_refl _) _)) (fun hHeld2 => ?_)
  clear hK K hHeld
  try simp only [Act.put, List.setIfInBounds_toArray, List.set_cons_zero, List.set_cons_succ]
  refine wpAnyH_ready (rs := [6]) (by kernel_rfl) (by simp) ?_
  refine AllReadyH.cons rfl (fun K hK => ?_) AllReadyH.nil
  refine step_append_keep rfl _ _ 92 rfl B 3 i0 (.int .i64 0) 1 8 Try.underlying92 hi hz0 hz1 hz2 rfl (by decide) (.slice ja js.length jc) js.length (jvOf js) rfl (nd_own_below Hrow2.out (Below.drew (Below.alloc (Below.refl _ _) (Nat.le_refl _) _))) ⟨W2.heap.size, 0, none⟩ 1 1 [.int .i64 (l.length : Int)] rfl rfl (cells_one_new W2 _ _) (fun u hu => by obtain rfl := List.mem_singleton.1 hu; rfl) hm1 hm2 (by simp; omega) ?_
  intro v6 w6 hown6 hg6 hat6
  obtain ⟨a6, c6, rfl⟩ := co_form hown6
  obtain ⟨g1, g2, g3, g4, g5⟩ := jump_more HS2.out Hrow2.out Hv2.out hown6 hg6 hat6
  have k0 := g5 _ 0 Ox.out hx0
  have k1 := g5 _ 0 Oy.out hy0
  have k2 := g5 _ 0 Oj.out hj0
  refine hK.out _ _ ⟨k0.2.trans c0, k1.2.trans c1, k2.2.trans c2, trivial⟩ (fun hHeld3 => ?_)
  clear hK K hHeld2
  try simp only [Act.put, List.setIfInBounds_toArray, List.set_cons_zero, List.set_cons_succ]
  have hsz6 := g4.size
  have hB7 := branches_any ds (js ++ [l.length]) (some ⟨b, o + 1, none⟩) (c - 1) w6 g1 g2 g3.behind f2 hus (by omega)
  rw [hn] at hB7
  have G4 := Lib.hid (Hlow2.out.trans g4)
  clear g1 g2 g3 hown6 hg6 hat6 g4 g5
  refine wpAnyH_ready (rs := [7]) (by kernel_rfl) (by simp) ?_
  refine AllReadyH.cons rfl (fun K hK => ?_) AllReadyH.nil
  go_simp
  go_wp2_with (go_at_call 51; go_loud (refine hB7.mono ?_; rintro e w7 ⟨rfl, hend, hlow, hcells⟩))
  refine hK.out _ _ ⟨(hcells _ _ k0.1 (by omega)).trans (k0.2.trans c0), (hcells _ _ k1.1 (by omega)).trans (k1.2.trans c1), (hcells _ _ k2.1 (by omega)).trans (k2.2.trans c2), trivial⟩ (fun hHeld4 => ?_)
  refine wpAnyH_done (by kernel_rfl) ?_ _
  go_end0
  refine ⟨rfl, ?_, G4.out.trans hlow⟩
  rw [Hst.out]
  exact hend
end Go.Proofs.Ytjjhkagpoicimaa
