/- The proof's texts CbQ, CbR, ClJ: what the claim reaches of them. -/
import Derived.Test.YtihfenkphhnbcaaCp19
import Derived.Test.YtihfenkphhnbcaaCp07
namespace Go.Proofs.Ytihfenkphhnbcaa
open Go Go.RowKit
theorem jrow_cells {B n : Nat} {w : World} {jv : Value} {js : List Nat} (h : w.ownsRow B 3 1 jv js.length (jvOf js)) (h0 : 0 < js.length) (hn : n = js.length) :
    ∃ q c, jv = .slice (some ⟨q, 0, none⟩) n c ∧ q < w.heap.size ∧ n ≤ 9223372036854775807 ∧ ∀ j (hj : j < js.length), w.cell? ⟨q, j, none⟩ = some (.int .i64 (js[j] : Int)) := by
  subst hn
  obtain ⟨_, h⟩ := h
  rcases h with ⟨_, h⟩ | ⟨g, cap, cur, rfl, _, hg, hnc, hcm, hcs, htake⟩
  · omega
  · refine ⟨g, cap, rfl, (Array.getElem?_eq_some_iff.1 hg).1, by unfold maxLen at hcm; omega, fun j hj => ?_⟩
    have h4 : w.cell? ⟨g, j, none⟩ = cur[j]? := by simp [World.cell?, hg]
    have h5 : (jvOf js)[j]? = some (.int .i64 (js[j] : Int)) := by simp [jvOf, hj]
    rw [h4, ← h5, ← htake, List.getElem?_take_of_lt (by omega), Array.getElem?_toList]
set_option linter.unusedVariables false in
set_option linter.unusedSimpArgs false in
set_option maxRecDepth 100000 in
set_option maxHeartbeats 4000000 in
theorem task_jumps {B p : Nat} {l : List Inn} {g : Int} {k : Nat} {bk : Bool} {iv tv v jv : Value} {ts : List CTk} {us jvs : List Value} (js : List Nat) (w : World) (h : Sta B p w l g k bk iv tv ts us jvs jv) (ht : TkAt B p (OffT p iv tv (jv :: jvs)) w (.jumps js) v jv) (hf : Fit l.length k (.jumps js)) (hpos : 0 < l.length) (hbd : Bd l) (hus : us.length ≤ 4000000) (hl : l.length ≤ 3000) (hk : k ≤ l.length) :
    ∃ x y, v = .func (.func 55) #[] #[ptr y, ptr x] ∧ Calls Try.prog 55 #[ptr y, ptr x] w (Did B p g bk w l k (.jumps js) ts us) := by
  obtain ⟨hrow, x, y, rfl, bx, by'⟩ := ht
  refine ⟨x, y, rfl, ?_⟩
  obtain ⟨n, hn⟩ : ∃ n, js.length = n := ⟨_, rfl⟩
  obtain ⟨V, hV⟩ : ∃ V, l.length = V := ⟨_, rfl⟩
  have hst : stp (.jumps js) l k = ((patch (V : Int) js l, k), []) := by rw [stp, hV]
  have Hst := Lib.hid hst
  have c0 := bx.2.2
  have c1 := by'.2.2
  have hxl := bx.2.1
  have hxo := bx.1.1
  have Hh := Lib.hid h
  have Hf := Lib.hid (show ∀ j ∈ js, j < l.length from hf)
  obtain ⟨ia, ic, rfl⟩ := co_form h.bld.io
  have hvj : ∃ ja jc, jv = .slice ja n jc := by rw [← hn]; exact co_form hrow
  obtain ⟨ja, jc, rfl⟩ := hvj
  have hrd : 0 < n → ∃ q, ja = some ⟨q, 0, none⟩ ∧ q < w.heap.size ∧ n ≤ 9223372036854775807 ∧ OffC p (.slice ia l.length ic) tv q ∧ ∀ j (hj : j < js.length), w.cell? ⟨q, j, none⟩ = some (.int .i64 (js[j] : Int)) := fun h0 => by
    obtain ⟨q, c, e1, e2, e0, e3⟩ := jrow_cells hrow (by omega) hn.symm
    injection e1 with e1 _ _
    subst e1
    exact ⟨q, rfl, e2, e0, (h.jb _ (List.mem_cons_self ..) q rfl).1, e3⟩
  have Hrd := Lib.hid hrd
  clear h bx by' hrow hrd hf hst
  go_enter Try.func55, Try.ntmps55
  go_wp2_with fail
  go_loopw [6] (fun j wr => ∃ (i : Nat) (L : List Inn), i ≤ n ∧ j = .int .i64 i ∧ L.length = l.length ∧ Bld B p wr L g k bk (.slice ia l.length ic) tv us.reverse ∧ CStep p w (.slice ia l.length ic) tv wr (.slice ia l.length ic) tv ∧ patch (V : Int) (js.drop i) L = patch (V : Int) js l) (fun j _ => n - (intOf j).toNat)
  case atStart => exact ⟨0, l, by omega, rfl, rfl, Hh.out.bld, CStep.refl _ _ _ _, rfl⟩
  case round =>
    obtain ⟨i, L, hi, rfl, hL, hB, hC, hP⟩ := hrel
    have hb0 := ((hC.keep x hxo hxl).2 0).trans c0
    by_cases hlt : i < n
    · have hlti : (i : Int) < (n : Int) := by omega
      obtain ⟨q, rfl, hq, hnm, hqo, hqc⟩ := Hrd.out (by omega)
      have Wi : IntKind.i64.wrap ((i : Int) + 1) = (i : Int) + 1 := IntWalk.i64_in _ (by omega)
      have hji := ((hC.keep q hqo hq).2 i).trans (hqc i (by omega))
      have hJl : js[i] < l.length := Hf.out _ (List.getElem_mem (by omega))
      have hdrop : js.drop i = js[i] :: js.drop (i + 1) := List.drop_eq_getElem_cons (by omega)
      obtain ⟨J, hJ⟩ : ∃ J, js[i] = J := ⟨_, rfl⟩
      rw [hJ] at hji hJl hdrop
      rw [hdrop, patch] at hP
      have hJi : (J : Int) < (l.length : Int) := by omega
      rw [← hL] at hB
      obtain ⟨hlc, hcm, q0, rfl, hBq, hq0, hqp, hcell, hfz⟩ := hB.inst (by omega)
      have hfy := hfz (J * 7 + 5)
      have hcy : wr.cell? ⟨q0, J * 7 + 5, none⟩ = some (.int .i64 (L[J]'(by omega)).x) := (hcell J (by omega) 5 (by omega)).trans rfl
      have p0 := hB.cells.c0
      have hd2 : Below wr.heap.size wr wr.drew := Below.drew (Below.refl _ _)
      obtain ⟨hB2, hC2⟩ := (hB.below hd2).setX J (by omega) (V : Int)
      rw [upd_len] at hB2 hC2
      rw [hL] at hB2 hC2 p0
      rw [hV] at *
      have Hfin := Lib.hid (And.intro hB2 (And.intro (hC.trans ((CStep.of_below hd2).trans hC2)) hP))
      clear hB hC hP hB2 hC2 hcell hfz hd2 hqc hdrop
      go_wp2_with fail
      go_still_tail 14, (by kernel_rfl)
      change wpList _ _ _ _ _ wr.drew
      go_wp2_with fail
      go_roundw
      case rel =>
        obtain ⟨g1, g2, g3⟩ := Hfin.out
        exact ⟨i + 1, _, by omega, rfl, (upd_len _ _ _).trans hL, g1, g2, g3⟩
      case measure => simp [intOf]; omega
    · have hlti : ¬ (i : Int) < (n : Int) := by omega
      obtain rfl : n = i := by omega
      rw [← hn, List.drop_length, patch] at hP
      subst hP
      have Hfin := Lib.hid (And.intro hB hC)
      clear hB hC hlt hi hL
      go_wp2_with fail
      go_end0
      refine ⟨rfl, ?_, Hfin.out.2.low Hh.out.bld⟩
      rw [Hst.out]
      exact ⟨_, _, _, _, (Hh.out.step Hfin.out.2 Hfin.out.1).drop, by omega⟩
end Go.Proofs.Ytihfenkphhnbcaa
namespace Go.Proofs.Ytihfenkphhnbcaa
open Go Go.RowKit
theorem jint_info : ∃ i, Try.prog.info? 3 = some i ∧ i.zero = some (.int .i64 0) ∧ i.size = 1 ∧ i.bytes = 8 := by
  have h : (Try.prog.info? 3).map (fun i => (i.zero, i.size, i.bytes)) = some (some (.int .i64 0), 1, 8) := by kernel_rfl
  obtain ⟨i, hi, he⟩ := Option.map_eq_some_iff.1 h
  injection he with h1 h2
  injection h2 with h2 h3
  exact ⟨i, hi, h1, h2, h3⟩
theorem jvOf_snoc (js : List Nat) (j : Nat) : jvOf (js ++ [j]) = jvOf js ++ [.int .i64 (j : Int)] := by simp [jvOf]
theorem jump_more {B p : Nat} {w w6 : World} {l : List Inn} {g : Int} {k : Nat} {bk : Bool} {iv tv jv v6 : Value} {ts : List CTk} {us jvs : List Value} {js : List Nat} {j : Nat} {ds : List Nd} {a : Option Addr} {c : Nat} (h : Sta B p w l g k bk iv tv ts us jvs jv) (hrow : w.ownsRow B 3 1 jv js.length (jvOf js))
    (hv : NdRw (OffT p iv tv (jv :: jvs)) w ds a c) (hown : w6.ownsRow B 3 1 v6 (js.length + 1) (jvOf js ++ [.int .i64 (j : Int)])) (hg : (w.alloc (.cells #[.int .i64 (j : Int)] 3)).drew.grownBy w6 jv.ownBlock)
    (hat : v6.ownBlock = jv.ownBlock ∨ (v6.ownBlock = some (w.alloc (.cells #[.int .i64 (j : Int)] 3)).drew.heap.size ∧ (w.alloc (.cells #[.int .i64 (j : Int)] 3)).drew.grownBy w6 none)) :
    Sta B p w6 l g k bk iv tv ts us jvs v6 ∧ w6.ownsRow B 3 1 v6 (js ++ [j]).length (jvOf (js ++ [j])) ∧ NdRw (OffT p iv tv (v6 :: jvs)) w6 ds a c ∧ Below B w w6 ∧
      (∀ b o, OffT p iv tv (jv :: jvs) b → b < w.heap.size → OffT p iv tv (v6 :: jvs) b ∧ w6.cell? ⟨b, o, none⟩ = w.cell? ⟨b, o, none⟩) := by
  have hA : Below w.heap.size w (w.alloc (.cells #[.int .i64 (j : Int)] 3)).drew := Below.drew ((Below.refl _ w).alloc (Nat.le_refl _) _)
  have hs := (h.below hA).jrow hg (hat.imp id And.left) hown
  have hX : w.heap.size < (w.alloc (.cells #[.int .i64 (j : Int)] 3)).drew.heap.size := by
    show w.heap.size < (w.alloc (.cells #[.int .i64 (j : Int)] 3)).heap.size
    rw [World.size_alloc]; exact Nat.lt_succ_self _
  have hkeep : ∀ b, OffT p iv tv (jv :: jvs) b → b < w.heap.size → OffT p iv tv (v6 :: jvs) b ∧ ∀ o, w6.cell? ⟨b, o, none⟩ = w.cell? ⟨b, o, none⟩ := fun b hb hl => by
    refine ⟨⟨hb.1, fun y hm e => ?_⟩, fun o => ?_⟩
    · rcases List.mem_cons.1 hm with rfl | hm
      · rcases hat with e2 | ⟨e2, _⟩
        · exact hb.2 jv (List.mem_cons_self ..) (by rw [← e2]; exact e)
        · rw [e2] at e; injection e with e; omega
      · exact hb.2 y (List.mem_cons_of_mem _ hm) e
    · refine (World.cell?_of_block (w := (w.alloc (.cells #[.int .i64 (j : Int)] 3)).drew) (a := ⟨b, o, none⟩) (hg.block b (by omega) fun e => hb.2 jv (List.mem_cons_self ..) e.symm)).trans (hA.cell (p := ⟨b, o, none⟩) hl)
  refine ⟨hs, by rw [jvOf_snoc, List.length_append]; exact hown, hv.keep (Nat.le_trans (Nat.le_of_lt hX) hg.size) hkeep, (hA.mono (Nat.le_trans h.bld.bp (Nat.le_of_lt h.bld.blk.lt))).trans ⟨hg.os, hg.tape, hg.output, hg.size, fun b hb => ?_⟩, fun b o hb hl => ⟨(hkeep b hb hl).1, (hkeep b hb hl).2 o⟩⟩
  have hpl := h.bld.blk.lt
  have hbp := h.bld.bp
  refine hg.block b (by omega) fun e => ?_
  have := own_of hrow b e.symm
  omega
set_option linter.unusedVariables false in
set_option linter.unusedSimpArgs false in
set_option maxRecDepth 100000 in
set_option maxHeartbeats 4000000 in
theorem task_branch {B p : Nat} {l : List Inn} {g : Int} {k : Nat} {bk : Bool} {iv tv v jv : Value} {ts : List CTk} {us jvs : List Value} (s : Nat) (ds : List Nd) (js : List Nat) (w : World) (h : Sta B p w l g k bk iv tv ts us jvs jv) (ht : TkAt B p (OffT p iv tv (jv :: jvs)) w (.branch s ds js) v jv) (hf : Fit l.length k (.branch s ds js)) (hpos : 0 < l.length) (hbd : Bd l) (hus : us.length ≤ 4000000) (hl : l.length ≤ 3000) (hk : k ≤ l.length) :
    ∃ x z y j, v = .func (.func 56) #[] #[ptr x, ptr z, ptr y, ptr j] ∧ Calls Try.prog 56 #[ptr x, ptr z, ptr y, ptr j] w (Did B p g bk w l k (.branch s ds js) ts us) := by
  obtain ⟨hrow, x, z, y, j, a, c, d, rfl, bx, bz, by', hv, bj⟩ := ht
  refine ⟨x, z, y, j, rfl, ?_⟩
  obtain ⟨f1, f2, f3, f5, f4⟩ := hf
  obtain ⟨b, o, rfl⟩ := hv.some
  obtain ⟨ja, jc, rfl⟩ := co_form hrow
  obtain ⟨n, hn⟩ : ∃ n, ds.length = n := ⟨_, rfl⟩
  obtain ⟨X, hX⟩ : ∃ X, l.length + 1 = X := ⟨_, rfl⟩
  have hn0 : 0 < n := by rw [← hn]; exact List.length_pos_iff.2 f2
  have hcap := hv.1
  have hmax := hv.2.1
  rw [List.length_cons, hn] at hcap
  have hc1 : ¬ c = 1 := by omega
  have hL := lay_ins 2 0 0 w h.bld (by omega)
  have c0 := bx.2.2
  have Hh := Lib.hid h
  have Hx := Lib.hid bx
  have Hy := Lib.hid by'
  have Hz := Lib.hid bz
  have Hj := Lib.hid bj
  have Hv := Lib.hid hv
  have Hrow := Lib.hid hrow
  clear h bx bz by' bj hv hrow f1 f4 hbd
  go_enter Try.func56, Try.ntmps56
  go_upto_region 1 with (go_at_call 22; refine hL.mono ?_; rintro e w1 ⟨rfl, iv1, hB1, hC1, _⟩)
  have hF := OffT.step (jvs := .slice ja js.length jc :: jvs) (jvs' := .slice ja js.length jc :: jvs) hC1 fun jv hm => .inr hm
  have hS1 := Hh.out.step hC1 hB1
  have x1 := ((hF x Hx.out.1 Hx.out.2.1).2 0).trans Hx.out.2.2
  have z1 := ((hF z Hz.out.1 Hz.out.2.1).2 0).trans Hz.out.2.2
  obtain ⟨ia, ic, rfl⟩ := co_form hB1.io
  have hlen : (l ++ [ins 2 0 0]).length = X := by simp [← hX]
  obtain ⟨hlc, hcm, q0, rfl, hBq, hq0, hqp, hcell, hfz⟩ := hB1.inst (by omega)
  have hfy := hfz (s * 7 + 6)
  have hcy : w1.cell? ⟨q0, s * 7 + 6, none⟩ = some (.int .i64 ((l ++ [ins 2 0 0])[s]'(by omega)).y) := (hcell s (by omega) 6 (by omega)).trans rfl
  have p0 := hB1.cells.c0
  have hd2 : Below w1.heap.size w1 w1.drew := Below.drew (Below.refl _ _)
  obtain ⟨hB2, hC2⟩ := (hB1.below hd2).setY s (by omega) (X : Int)
  have hC12 := (hC1.trans (CStep.of_below hd2)).trans hC2
  have hS2 := Hh.out.step hC12 hB2
  have hlow2 := hC12.low Hh.out.bld
  have hF2 := OffT.step (jvs := .slice ja js.length jc :: jvs) (jvs' := .slice ja js.length jc :: jvs) hC12 fun jv hm => .inr hm
  have hv2 := Hv.out.keep hC12.size hF2
  have hrow2 := own_row_same Hrow.out (fun g hg => by
    obtain ⟨h1, h2⟩ := Hh.out.jb _ (List.mem_cons_self ..) g hg
    exact (hC12.block g h2 h1.1 h1.2.1 h1.2.2).1)
  have x2 := ((hF2 x Hx.out.1 Hx.out.2.1).2 0).trans Hx.out.2.2
  have y2 := ((hF2 y Hy.out.1 Hy.out.2.1).2 0).trans Hy.out.2.2
  have j2 := ((hF2 j Hj.out.1 Hj.out.2.1).2 0).trans Hj.out.2.2
  have ox := (hF2 x Hx.out.1 Hx.out.2.1).1
  have oy := (hF2 y Hy.out.1 Hy.out.2.1).1
  have oj := (hF2 j Hj.out.1 Hj.out.2.1).1
  rw [List.length_cons, hn] at y2
  rw [hlen] at p0
  have hsX : (s : Int) < (X : Int) := by omega
  have HS2 := Lib.hid hS2
  have Hlow2 := Lib.hid hlow2
  have Hv2 := Lib.hid hv2
  have Hrow2 := Lib.hid hrow2
  have Ox := Lib.hid ox
  have Oy := Lib.hid oy
  have Oj := Lib.hid oj
  have X2 := Lib.hid x2
  have Y2 := Lib.hid y2
  have J2 := Lib.hid j2
  clear hF hS1 hB1 hC1 hcell hfz hd2 hB2 hC2 hC12 hS2 hlow2 hF2 hv2 hrow2 ox oy oj x2 y2 j2 hL c0 Hx Hy Hz Hj Hv Hrow Hh hlc hcm
  go_still_tail 14, (by kernel_rfl)
  change wpList _ _ _ _ _ w1.drew
  go_wp2_with fail
  change Code.wp _ _ _ _ (w1.drew.setCell ⟨q0, s * 7 + 6, none⟩ (.int .i64 (X : Int)))
  generalize hWW : w1.drew.setCell ⟨q0, s * 7 + 6, none⟩ (.int .i64 (X : Int)) = W2 at HS2 Hlow2 Hv2 Hrow2 X2 Y2 J2 ⊢
  clear hWW x1 z1 hfy hcy p0
  generalize hIV : Value.slice (some ⟨q0, 0, none⟩) (upd (l ++ [ins 2 0 0]) s fun i => { i with y := (X : Int) }).length ic = iv2 at HS2 Hv2 Ox Oy Oj
  have hL2l : (upd (l ++ [ins 2 0 0]) s fun i => { i with y := (X : Int) }).length = X := (upd_len _ _ _).trans hlen
  have hst : stp (.branch s ds js) l k = (((brSt ds (js ++ [l.length]) (upd (l ++ [ins 2 0 0]) s fun i => { i with y := (X : Int) })).1, k), (brSt ds (js ++ [l.length]) (upd (l ++ [ins 2 0 0]) s fun i => { i with y := (X : Int) })).2) := by rw [← hX]; rfl
  generalize hL2 : (upd (l ++ [ins 2 0 0]) s fun i => { i with y := (X : Int) }) = L2 at HS2 hst hL2l
  have Hst := Lib.hid hst
  clear hIV hL2 hst hlen
  have hmix : Try.prog.follows .mixedOrders = true := by kernel_rfl
  have c0 := X2.out
  have c1 := Y2.out
  have c2 := J2.out
  have hle : (1 : Int) ≤ (n : Int) + 1 := by omega
  have hx0 := World.block_lt_of_cell? _ _ c0
  have hy0 := World.block_lt_of_cell? _ _ c1
  have hj0 := World.block_lt_of_cell? _ _ c2
  have hS0 : ∀ W' : World, Below W2.heap.size W2 W' → (fun W' : World => W'.cell? ⟨x, 0, none⟩ = some (ptr p) ∧ W'.cell? ⟨y, 0, none⟩ = some (.slice (some ⟨b, o, none⟩) (n + 1) c) ∧ W'.cell? ⟨j, 0, none⟩ = some (.slice ja js.length jc) ∧ True) W' := fun W' hW => ⟨(hW.cell hx0).trans c0, (hW.cell hy0).trans c1, (hW.cell hj0).trans c2, trivial⟩
  obtain ⟨i0, hi, hz0, hz1, hz2⟩ := jint_info
  have hBW := Nat.le_trans HS2.out.bld.bp (Nat.le_of_lt HS2.out.bld.blk.lt)
  have hm1 : js.length + 1 ≤ maxLen := by unfold maxLen; omega
  have hm2 : (js.length + 1) * 8 ≤ 140737488355328 := by omega
  refine wp_region_held_drew (S := fun W' : World => W'.cell? ⟨x, 0, none⟩ = some (ptr p) ∧ W'.cell? ⟨y, 0, none⟩ = some (.slice (some ⟨b, o, none⟩) (n + 1) c) ∧ W'.cell? ⟨j, 0, none⟩ = some (.slice ja js.length jc) ∧ True) hmix ⟨c0, c1, c2, trivial⟩ (fun hHeld => ?_)
  refine wpAnyH_take (i := 0) (v := ?_) rfl (by kernel_rfl) (by kernel_rfl) (by kernel_rfl) (fun _ _ _ h => h) (Or.inl ⟨by rfl, ?_⟩) (by assumption) ?_
  rotate_left
  · intro W' hSw; obtain ⟨d0, d1, d2, _⟩ := hSw; go_simp; try with_reducible rfl
  try simp only [Act.put, List.setIfInBounds_toArray, List.set_cons_zero, List.set_cons_succ]
  refine wpAnyH_take (i := 1) (v := ?_) rfl (by kernel_rfl) (by kernel_rfl) (by kernel_rfl) (fun _ _ _ h => h) (Or.inl ⟨by rfl, ?_⟩) (by assumption) ?_
  rotate_left
  · intro W' hSw; obtain ⟨d0, d1, d2, _⟩ := hSw; go_simp; try with_reducible rfl
  try simp only [Act.put, List.setIfInBounds_toArray, List.set_cons_zero, List.set_cons_succ]
  refine wpAnyH_take (i := 2) (v := ?_) rfl (by kernel_rfl) (by kernel_rfl) (by kernel_rfl) (fun _ _ _ h => h) (Or.inl ⟨by rfl, ?_⟩) (by assumption) ?_
  rotate_left
  · intro W' hSw; obtain ⟨d0, d1, d2, _⟩ := hSw; go_simp; try with_reducible rfl
  try simp only [Act.put, List.setIfInBounds_toArray, List.set_cons_zero, List.set_cons_succ]
  refine wpAnyH_take (i := 3) (v := ?_) rfl (by kernel_rfl) (by kernel_rfl) (by kernel_rfl) (fun _ _ _ h => h) (Or.inl ⟨by rfl, ?_⟩) (by assumption) ?_
  rotate_left
  · intro W' hSw; obtain ⟨d0, d1, d2, _⟩ := hSw; go_simp; try with_reducible rfl
  try simp only [Act.put, List.setIfInBounds_toArray, List.set_cons_zero, List.set_cons_succ]
  refine wpAnyH_take (i := 4) (v := ?_) rfl (by kernel_rfl) (by kernel_rfl) (by kernel_rfl) (fun _ _ _ h => h) (Or.inl ⟨by rfl, ?_⟩) (by assumption) ?_
  rotate_left
  · intro W' hSw; obtain ⟨d0, d1, d2, _⟩ := hSw; go_simp; try with_reducible rfl
  try simp only [Act.put, List.setIfInBounds_toArray, List.set_cons_zero, List.set_cons_succ]
  refine wpAnyH_ready (rs := [5]) (by kernel_rfl) (by simp) ?_
  refine AllReadyH.cons rfl (fun K hK => ?_) AllReadyH.nil
  go_simp
  refine hK.out _ _ (hS0 _ (Below.alloc (Below.drew (Below.refl _ _)) (Nat.le_refl _) _)) (fun hHeld2 => ?_)
  clear hK K hHeld
  try simp only [Act.put, List.setIfInBounds_toArray, List.set_cons_zero, List.set_cons_succ]
  refine wpAnyH_ready (rs := [6]) (by kernel_rfl) (by simp) ?_
  refine AllReadyH.cons rfl (fun K hK => ?_) AllReadyH.nil
  refine step_append_keep rfl _ _ 92 rfl B 3 i0 (.int .i64 0) 1 8 Try.underlying92 hi hz0 hz1 hz2 rfl (by decide) (.slice ja js.length jc) js.length (jvOf js) rfl (nd_own_below Hrow2.out (Below.drew (Below.alloc (Below.refl _ _) (Nat.le_refl _) _))) ⟨W2.heap.size, 0, none⟩ 1 1 [.int .i64 (l.length : Int)] rfl rfl (cells_one_new W2 _ _) (fun u hu => by obtain rfl := List.mem_singleton.1 hu; rfl) hm1 hm2 (by simp; omega) ?_
  intro v6 w6 hown6 hg6 hat6
  obtain ⟨a6, c6, rfl⟩ := co_form hown6
  obtain ⟨g1, g2, g3, g4, g5⟩ := jump_more HS2.out Hrow2.out Hv2.out hown6 hg6 hat6
  have k0 := g5 _ 0 Ox.out hx0
  have k1 := g5 _ 0 Oy.out hy0
  have k2 := g5 _ 0 Oj.out hj0
  refine hK.out _ _ ⟨k0.2.trans c0, k1.2.trans c1, k2.2.trans c2, trivial⟩ (fun hHeld3 => ?_)
  clear hK K hHeld2
  try simp only [Act.put, List.setIfInBounds_toArray, List.set_cons_zero, List.set_cons_succ]
  have hsz6 := g4.size
  have hB7 := branches_any ds (js ++ [l.length]) (some ⟨b, o + 1, none⟩) (c - 1) w6 g1 g2 g3.behind f2 hus (by omega)
  rw [hn] at hB7
  have G4 := Lib.hid (Hlow2.out.trans g4)
  clear g1 g2 g3 hown6 hg6 hat6 g4 g5
  refine wpAnyH_ready (rs := [7]) (by kernel_rfl) (by simp) ?_
  refine AllReadyH.cons rfl (fun K hK => ?_) AllReadyH.nil
  go_simp
  go_wp2_with (go_at_call 51; go_loud (refine hB7.mono ?_; rintro e w7 ⟨rfl, hend, hlow, hcells⟩))
  refine hK.out _ _ ⟨(hcells _ _ k0.1 (by omega)).trans (k0.2.trans c0), (hcells _ _ k1.1 (by omega)).trans (k1.2.trans c1), (hcells _ _ k2.1 (by omega)).trans (k2.2.trans c2), trivial⟩ (fun hHeld4 => ?_)
  refine wpAnyH_done (by kernel_rfl) ?_ _
  go_end0
  refine ⟨rfl, ?_, G4.out.trans hlow⟩
  rw [Hst.out]
  exact hend
end Go.Proofs.Ytihfenkphhnbcaa
namespace Go.Proofs.Ytihfenkphhnbcaa
open Go Go.RowKit
structure JSt (w0 W : World) (v' jv : Value) (js : List Nat) (wr : World) : Prop where
  row : wr.ownsRow w0.heap.size 3 1 jv js.length (jvOf js)
  new : ∀ b, jv.ownBlock = some b → W.heap.size ≤ b ∧ v'.ownBlock ≠ some b
theorem jst_nil (w0 W wr : World) (v' : Value) : JSt w0 W v' (.slice none 0 0) [] wr := by
  refine ⟨⟨rfl, .inl ⟨rfl, rfl⟩⟩, fun b hb => ?_⟩
  cases hb
theorem JSt.list {w0 W wr w' : World} {v' v2 jv : Value} {js : List Nat} (h : JSt w0 W v' jv js wr) (hg : wr.grownBy w' v'.ownBlock) (hl : LocD wr v' v2) : JSt w0 W v2 jv js w' := by
  have hne : jv.ownBlock = none ∨ jv.ownBlock ≠ v'.ownBlock := by
    rcases hj : jv.ownBlock with _ | b
    · exact .inl rfl
    · exact .inr fun e => (h.new b hj).2 e.symm
  refine ⟨h.row.kept hg hne, fun b hb => ⟨(h.new b hb).1, fun e => ?_⟩⟩
  rcases hl with e2 | ⟨g, e2, hge⟩
  · exact (h.new b hb).2 (e2.symm.trans e)
  · have := co_own_lt h.row b hb
    rw [e2] at e
    injection e with e
    omega
theorem JSt.below {w0 W wr w' : World} {v' jv : Value} {js : List Nat} (h : JSt w0 W v' jv js wr) (hb : Below wr.heap.size wr w') : JSt w0 W v' jv js w' :=
  ⟨nd_own_below h.row hb, h.new⟩
theorem DSt.jrow {w0 W wr w' : World} {v v' jv jv' : Value} {l : List Inn} {js js' : List Nat} (h : DSt w0 W v l v' wr) (hj : JSt w0 W v' jv js wr) (ho : w'.ownsRow w0.heap.size 3 1 jv' js'.length (jvOf js')) (hg : wr.grownBy w' jv.ownBlock) (hat : jv'.ownBlock = jv.ownBlock ∨ ∃ g, jv'.ownBlock = some g ∧ wr.heap.size ≤ g) :
    DSt w0 W v l v' w' ∧ JSt w0 W v' jv' js' w' := by
  have hne : v'.ownBlock = none ∨ v'.ownBlock ≠ jv.ownBlock := by
    rcases hj1 : jv.ownBlock with _ | b
    · rcases v'.ownBlock with _ | c
      · exact .inl rfl
      · exact .inr (by simp)
    · exact .inr (hj.new b hj1).2
  refine ⟨⟨h.row.kept hg hne, ?_, h.loc, h.low.grown hg h.low.size fun b hb => own_of hj.row b hb⟩, ⟨ho, fun b hb => ?_⟩⟩
  · have hs := h.gr.size
    refine ⟨hg.os.trans h.gr.os, hg.tape.trans h.gr.tape, hg.output.trans h.gr.output, Nat.le_trans h.gr.size hg.size, fun b hb hne' => (hg.block b (Nat.lt_of_lt_of_le hb hs) fun e => ?_).trans (h.gr.block b hb hne')⟩
    have := (hj.new b e.symm).1
    omega
  · rcases hat with e | ⟨g, e, hge⟩
    · exact hj.new b (e ▸ hb)
    · rw [e] at hb
      injection hb with hb
      have hs := h.gr.size
      refine ⟨by omega, fun e2 => ?_⟩
      have := co_own_lt h.row b e2
      omega
theorem DSt.cellset {w0 W wr : World} {v : Value} {l m : List Inn} {q0 c o : Nat} {u : Value} (h : DSt w0 W v l (.slice (some ⟨q0, 0, none⟩) l.length c) wr) (hm : m.length = l.length) (hi : inF m = (inF l).set o u) :
    DSt w0 W v m (.slice (some ⟨q0, 0, none⟩) l.length c) (wr.setCell ⟨q0, o, none⟩ u) ∧ wr.grownBy (wr.setCell ⟨q0, o, none⟩ u) (some q0) := by
  obtain ⟨s1, s2⟩ := World.ownsRow.stored h.row o u
  exact ⟨h.step (by unfold DRow; rw [hm, hi]; exact s1) s2 (.inl rfl), s2⟩
theorem DSt.setY {w0 W wr : World} {v : Value} {l : List Inn} {q0 c : Nat} (h : DSt w0 W v l (.slice (some ⟨q0, 0, none⟩) l.length c) wr) (j : Nat) (hj : j < l.length) (y : Int) :
    DSt w0 W v (upd l j fun i => { i with y := y }) (.slice (some ⟨q0, 0, none⟩) l.length c) (wr.setCell ⟨q0, j * 7 + 6, none⟩ (.int .i64 y)) ∧ wr.grownBy (wr.setCell ⟨q0, j * 7 + 6, none⟩ (.int .i64 y)) (some q0) :=
  h.cellset (upd_len _ _ _) (inF_updY y l j hj)
theorem DSt.setX {w0 W wr : World} {v : Value} {l : List Inn} {q0 c : Nat} (h : DSt w0 W v l (.slice (some ⟨q0, 0, none⟩) l.length c) wr) (j : Nat) (hj : j < l.length) (x : Int) :
    DSt w0 W v (upd l j fun i => { i with x := x }) (.slice (some ⟨q0, 0, none⟩) l.length c) (wr.setCell ⟨q0, j * 7 + 5, none⟩ (.int .i64 x)) ∧ wr.grownBy (wr.setCell ⟨q0, j * 7 + 5, none⟩ (.int .i64 x)) (some q0) :=
  h.cellset (upd_len _ _ _) (inF_updX x l j hj)
theorem DSt.inst {w0 W wr : World} {v : Value} {l : List Inn} {a : Option Addr} {c : Nat} (h : DSt w0 W v l (.slice a l.length c) wr) (h0 : 0 < l.length) :
    l.length ≤ c ∧ c ≤ maxLen ∧ ∃ q, a = some ⟨q, 0, none⟩ ∧ q < wr.heap.size ∧ (∀ j (hj : j < l.length) i, i < 7 → wr.cell? ⟨q, j * 7 + i, none⟩ = (inC l[j])[i]?) ∧ ∀ j, wr.frozen? ⟨q, j, none⟩ = false := by
  obtain ⟨h1, h2⟩ := h.row
  rcases h2 with ⟨h2, h3⟩ | ⟨q, cap, cur, h2, hB, hh, hn, hcap, hcs, htk⟩
  · omega
  · injection h2 with e1 e2 e3
    subst e3
    subst e1
    refine ⟨hn, hcap, q, rfl, (Array.getElem?_eq_some_iff.1 hh).1, fun j hj i hi => ?_, fun j => by simp [World.frozen?, hh]⟩
    have hlt : j * 7 + i < l.length * 7 := by omega
    have h4 : wr.cell? ⟨q, j * 7 + i, none⟩ = cur[j * 7 + i]? := by simp [World.cell?, hh]
    rw [h4, ← inF_take l j hj i hi, ← htk, List.getElem?_take_of_lt hlt, Array.getElem?_toList]
end Go.Proofs.Ytihfenkphhnbcaa
