/- The proof's texts BrRefC: what the claim reaches of them. -/
import Derived.Test.YtkejeiopfblkgaaGreatDoorBp22
import Derived.Test.YtkejeiopfblkgaaGreatDoorBp04
import Derived.Deep.DeepCutAuto
import Derived.Deep.RegionHeld3
namespace Go.Proofs.YtkejeiopfblkgaaGreatDoor
open Go.RowKit
structure HoldP (w0 : World) (a b : Nat) (s t acc : OSet) (T : TypeId) (w' : World) : Prop where
 below : Below w0.heap.size w0 w'
 bs : Blk w' a (oc s) T
 bt : Blk w' b (oc t) T
 br : Blk w' w0.heap.size #[.int .u64 0, .int .u64 0, .int .u64 0, .int .u64 0] T
 bo : Blk w' (w0.heap.size + 1) (oc acc) T
 bn : Blk w' (w0.heap.size + 2) #[.int .u64 0, .int .u64 0, .int .u64 0, .int .u64 0] T
 la : w0.heap.size < a
 lb : w0.heap.size + 1 < a
 lc : w0.heap.size + 2 < a
 ld : a < b
theorem HoldP.step {w0 : World} {a b : Nat} {s t acc : OSet} {T : TypeId} {W W' : World} (hb : Below W.heap.size W W') (h : HoldP w0 a b s t acc T W) : HoldP w0 a b s t acc T W' :=
 ⟨h.below.trans (hb.mono h.below.size), h.bs.below hb h.bs.lt, h.bt.below hb h.bt.lt, h.br.below hb h.br.lt, h.bo.below hb h.bo.lt, h.bn.below hb h.bn.lt, h.la, h.lb, h.lc, h.ld⟩
theorem HoldP.drew {w0 : World} {a b : Nat} {s t acc : OSet} {T : TypeId} {W : World} (h : HoldP w0 a b s t acc T W) : HoldP w0 a b s t acc T W.drew :=
 ⟨h.below.drew, h.bs, h.bt, h.br, h.bo, h.bn, h.la, h.lb, h.lc, h.ld⟩
theorem HoldP.store {w0 : World} {a b : Nat} {s t acc : OSet} {T : TypeId} {W : World} (h : HoldP w0 a b s t acc T W) (u : OSet) :
  HoldP w0 a b u t acc T ((((W.setCell ⟨a, 0, none⟩ (.int .u64 (ow u 0))).setCell ⟨a, 1, none⟩ (.int .u64 (ow u 1))).setCell ⟨a, 2, none⟩ (.int .u64 (ow u 2))).setCell ⟨a, 3, none⟩ (.int .u64 (ow u 3))) := by
 have l1 := h.la
 have l2 := h.lb
 have l3 := h.lc
 have l4 := h.ld
 refine ⟨?_, oblk_store h.bs u, ?_, ?_, ?_, ?_, h.la, h.lb, h.lc, h.ld⟩
 ·exact (((h.below.setCell (by simp; omega) _).setCell (by simp; omega) _).setCell (by simp; omega) _).setCell (by simp; omega) _
 ·exact (((h.bt.set_other _ (by simp; omega) _).set_other _ (by simp; omega) _).set_other _ (by simp; omega) _).set_other _ (by simp; omega) _
 ·exact (((h.br.set_other _ (by simp; omega) _).set_other _ (by simp; omega) _).set_other _ (by simp; omega) _).set_other _ (by simp; omega) _
 ·exact (((h.bo.set_other _ (by simp; omega) _).set_other _ (by simp; omega) _).set_other _ (by simp; omega) _).set_other _ (by simp; omega) _
 ·exact (((h.bn.set_other _ (by simp; omega) _).set_other _ (by simp; omega) _).set_other _ (by simp; omega) _).set_other _ (by simp; omega) _
abbrev ReadP (w0 : World) (a b : Nat) (s t acc : OSet) (T : TypeId) (w' : World) : Prop := (w'.cell? ⟨a, 0, none⟩ = some (.int .u64 (ow s 0)) ∧ w'.cell? ⟨a, 1, none⟩ = some (.int .u64 (ow s 1)) ∧ w'.cell? ⟨a, 2, none⟩ = some (.int .u64 (ow s 2)) ∧ w'.cell? ⟨a, 3, none⟩ = some (.int .u64 (ow s 3))) ∧ (w'.cell? ⟨b, 0, none⟩ = some (.int .u64 (ow t 0)) ∧ w'.cell? ⟨b, 1, none⟩ = some (.int .u64 (ow t 1)) ∧ w'.cell? ⟨b, 2, none⟩ = some (.int .u64 (ow t 2)) ∧ w'.cell? ⟨b, 3, none⟩ = some (.int .u64 (ow t 3))) ∧ HoldP w0 a b s t acc T w'
theorem HoldP.all {w0 : World} {a b : Nat} {s t acc : OSet} {T : TypeId} {w' : World} (h : HoldP w0 a b s t acc T w') : ReadP w0 a b s t acc T w' := ⟨oblk_cells h.bs, oblk_cells h.bt, h⟩
theorem readP_step {w0 : World} {a b : Nat} {s t acc : OSet} {T : TypeId} {W W' : World} (hb : Below W.heap.size W W') (h : ReadP w0 a b s t acc T W) : ReadP w0 a b s t acc T W' := (HoldP.step hb h.2.2).all
theorem readP_drew {w0 : World} {a b : Nat} {s t acc : OSet} {T : TypeId} {W : World} (h : ReadP w0 a b s t acc T W) : ReadP w0 a b s t acc T W.drew := h.2.2.drew.all
set_option linter.unusedSimpArgs false in
set_option maxRecDepth 100000 in
set_option maxHeartbeats 8000000 in
theorem rparse_plain (s : ByteArray) (n : Nat) (w : World) (hs : s.size ≤ 35184372088832) (hn : n ≤ s.size) (hc : car s.data.toList n = false) :
  Calls Tryz.prog 91 #[.string s, .int .i64 (n : Int)] w fun e w' => e = .returned (prV (prs s.data.toList (n : Int))) ∧ Below w.heap.size w w' := by
  have g0 : decide ((n : Int) < 0) = false := by simp
  have g2 : decide (s.size < n) = false := decide_eq_false (by omega)
  have g1 : decide ((s.size : Int) < (n : Int)) = false := decide_eq_false (by omega)
  have Hok := Lib.hid (prs_ok s.data.toList n (by rw [list_size]; exact hn))
  have Her := Lib.hid (prs_err s.data.toList n (by rw [list_size]; exact hn))
  rw [hc] at Hok Her
  simp only [Bool.false_eq_true, if_false, if_true] at Hok Her
  have hZ := (Blk.new w #[.int .u64 0, .int .u64 0, .int .u64 0, .int .u64 0] 33 _ rfl)
  go_enter Tryz.func91, Tryz.ntmps91
  go_upto_region 4 with fail
  go_cut [9] from 31 to 41 (fun b wx => b = .bool false ∧ wx = ((w.alloc (.cells #[.int .u64 0, .int .u64 0, .int .u64 0, .int .u64 0] 33)).alloc (.cells #[.int .u64 0, .int .u64 0, .int .u64 0, .int .u64 0] 33)).alloc (.cells #[.int .u64 0, .int .u64 0, .int .u64 0, .int .u64 0] 33))
  case first =>
   by_cases hlt : n < s.size
   ·have h94 : ((s[n].toNat : Int) == 94) = false := by
     unfold car at hc
     rw [list_size, byt_at s n hlt, decide_eq_true hlt, Bool.true_and] at hc
     have := of_decide_eq_false hc
     simp; omega
    have g3 : decide ((n : Int) < (s.size : Int)) = true := decide_eq_true (by omega)
    clear Hok Her
    go_wp2_with fail
    go_meet
    exact ⟨rfl, rfl⟩
   ·have g3 : decide ((n : Int) < (s.size : Int)) = false := decide_eq_false (by omega)
    clear Hok Her
    go_wp2_with fail
    go_meet
    exact ⟨rfl, rfl⟩
  obtain ⟨rfl, rfl⟩ := hcut
  go_wp2_with fail
  go_loopw [1, 10] (fun i f wr => ∃ (k : Nat) (first : Bool) (acc : OSet), k ≤ s.size ∧ i = .int .i64 k ∧ f = .bool first ∧ rst s.data.toList first k acc = rst s.data.toList true n oz ∧ Below w.heap.size w wr ∧ Blk wr w.heap.size #[.int .u64 0, .int .u64 0, .int .u64 0, .int .u64 0] 33 ∧ Blk wr (w.heap.size + 1) (oc acc) 33 ∧ Blk wr (w.heap.size + 2) #[.int .u64 0, .int .u64 0, .int .u64 0, .int .u64 0] 33) (fun i _ _ => s.size + 1 - (intOf i).toNat)
  case atStart =>
   have hz : oc oz = #[.int .u64 0, .int .u64 0, .int .u64 0, .int .u64 0] := by unfold oc; rw [ow_zero, ow_zero, ow_zero, ow_zero]
   refine ⟨n, true, oz, by omega, rfl, rfl, rfl, (((Below.refl w.heap.size w).alloc (Nat.le_refl _) _).alloc (by first | omega | (simp; done) | (simp; omega)) _).alloc (by first | omega | (simp; done) | (simp; omega)) _, (hZ.alloc _).alloc _, ?_, ?_⟩
   ·rw [hz]; exact (Blk.new _ _ _ _ (by simp)).alloc _
   ·exact Blk.new _ _ _ _ (by simp)
  case round =>
   clear hZ
   obtain ⟨k, first, acc, hk, rfl, rfl, hq, hW, hB, hO, hN⟩ := hrel
   have Hq := Lib.hid hq
   clear hq
   obtain ⟨d0, d1, d2, d3⟩ := zblk_cells hB
   obtain ⟨c0, c1, c2, c3⟩ := oblk_cells hO
   obtain ⟨n0, n1, n2, n3⟩ := zblk_cells hN
   have f0 := hB.frozen 0; have f1 := hB.frozen 1; have f2 := hB.frozen 2; have f3 := hB.frozen 3
   by_cases hend : first = false ∧ k < s.size ∧ byt s.data.toList k = 93
   ·obtain ⟨rfl, hlt2, h93⟩ := hend
    rw [byt_at s k hlt2] at h93
    have e1 : ((s[k].toNat : Int) != 93) = false := by simp; omega
    have e2 : decide ((s.size : Int) ≤ (k : Int)) = false := by simp; omega
    have Hr := Lib.hid (Hok.out acc (k + 1) (by
     rw [← Hq.out, rst, if_pos ⟨rfl, by rw [list_size]; exact hlt2, by rw [byt_at s k hlt2]; exact h93⟩]))
    clear h93
    have Wk : IntKind.i64.wrap ((k : Int) + 1) = (k : Int) + 1 := IntWalk.i64_in _ (by omega)
    have hlB := hB.lt
    go_wp2_with fail
    refine bodyPost_ret (v := prV (acc, ((k + 1 : Nat) : Int), 0)) (by simp [results, Tryz.results91, go_sem, d0, d1, d2, d3, prV]) rfl ⟨ret_pr (by rw [Hr.out]), ?_⟩
    repeat (first | (with_reducible exact hW) | refine Below.setCell ?_ (by first | omega | (simp; omega) | simp) _ | refine Below.alloc ?_ (by first | omega | (simp; omega) | simp) _)
   ·have hend' : ¬ (first = false ∧ k < s.data.toList.length ∧ byt s.data.toList k = 93) := by rw [list_size]; exact hend
    go_upto_region 8 with fail
    go_cut [10, 56] from 44 to 57 (fun f b wx => f = .bool first ∧ b = .bool true ∧ wx = wr)
    case first =>
     by_cases hf : first = true
     ·subst hf
      go_wp2_with fail
      go_meet
      exact ⟨rfl, rfl, rfl⟩
     ·have hf' : first = false := by simpa using hf
      subst hf'
      by_cases hlt2 : k < s.size
      ·have e2 : decide ((s.size : Int) ≤ (k : Int)) = false := by simp; omega
       have e1 : ((s[k].toNat : Int) != 93) = true := by
        have := hend
        simp [hlt2, byt_at s k hlt2] at this
        simp; omega
       go_wp2_with fail
       go_meet
       exact ⟨rfl, rfl, rfl⟩
      ·have e2 : decide ((s.size : Int) ≤ (k : Int)) = true := by simp; omega
       go_wp2_with fail
       go_meet
       exact ⟨rfl, rfl, rfl⟩
    case rest =>
     obtain ⟨rfl, rfl, rfl⟩ := hcut
     clear hend
     go_wp2_with fail
     refine (ritem_any s k _ hs (by omega)).mono ?_
     rintro e w1 ⟨he, b1⟩
     have hx := itm_next s.data.toList k
     have hm := itm_may s.data.toList k
     generalize ha : itm s.data.toList k = a at he hx hm
     have Ha := Lib.hid ha
     obtain ⟨A, may, nx, er, pl⟩ := a
     unfold itV at he
     simp only at he hx hm
     subst he
     clear ha
     replace hW := hW.trans (b1.mono hW.size)
     replace hB := hB.below b1 hB.lt
     replace hO := hO.below b1 hO.lt
     replace hN := hN.below b1 hN.lt
     clear b1 d0 d1 d2 d3 c0 c1 c2 c3 n0 n1 n2 n3 f0 f1 f2 f3
     obtain ⟨d0, d1, d2, d3⟩ := zblk_cells hB
     obtain ⟨c0, c1, c2, c3⟩ := oblk_cells hO
     obtain ⟨n0, n1, n2, n3⟩ := zblk_cells hN
     have f0 := hB.frozen 0; have f1 := hB.frozen 1; have f2 := hB.frozen 2; have f3 := hB.frozen 3
     have hlB := hB.lt
     have hlO := hO.lt
     have hlN := hN.lt
     by_cases her : er = 0
     ·subst her
      obtain ⟨hx1, hx2⟩ := hx rfl
      rw [list_size] at hx2
      have Wn : IntKind.i64.wrap ((nx : Int) + 1) = ((nx + 1 : Nat) : Int) := by rw [IntWalk.i64_in _ (by omega)]; omega
      by_cases hr2 : nx + 1 < s.size ∧ byt s.data.toList nx = 45 ∧ byt s.data.toList (nx + 1) ≠ 93
      ·have r1 : decide ((nx : Int) + 1 < (s.size : Int)) = true := by simp; omega
       have hn1 : nx + 1 < s.size := hr2.1
       have hn0 : nx < s.size := by omega
       have r2 : (((s[nx]'hn0).toNat : Int) == 45) = true := by
        have := hr2.2.1
        rw [byt_at s nx (by omega)] at this
        simp; omega
       have r3 : (((s[nx + 1]'hn1).toNat : Int) != 93) = true := by
        have := hr2.2.2
        rw [byt_at s (nx + 1) hr2.1] at this
        simp; omega
       have Hr2 := Lib.hid hr2
       clear hr2
       go_wp2_with fail
       refine (ritem_any s (nx + 1) _ hs (by omega)).mono ?_
       rintro e w2 ⟨he, b2⟩
       have hx := itm_next s.data.toList (nx + 1)
       have hm2 := itm_may s.data.toList (nx + 1)
       generalize hb : itm s.data.toList (nx + 1) = b at he hx hm2
       have Hb := Lib.hid hb
       obtain ⟨B, may2, nx2, er2, pl2⟩ := b
       unfold itV at he
       simp only at he hx hm2
       subst he
       clear hb
       have hA := (Blk.new w1 (oc A) 33 _ rfl).below b2 (by simp)
       replace hW := (hW.alloc hW.size (.cells (oc A) 33)).trans (b2.mono (hW.alloc hW.size _).size)
       replace hB := (hB.alloc (.cells (oc A) 33)).below b2 (hB.alloc _).lt
       replace hO := (hO.alloc (.cells (oc A) 33)).below b2 (hO.alloc _).lt
       replace hN := (hN.alloc (.cells (oc A) 33)).below b2 (hN.alloc _).lt
       clear b2 d0 d1 d2 d3 c0 c1 c2 c3 n0 n1 n2 n3 f0 f1 f2 f3
       by_cases her2 : er2 = 0
       ·subst her2
        obtain ⟨hx3, hx4⟩ := hx rfl
        rw [list_size] at hx4
        have hP : HoldP w w1.heap.size w2.heap.size A B acc 33 (w2.alloc (.cells (oc B) 33)) :=
         ⟨hW.alloc hW.size _, hA.alloc _, Blk.new _ _ _ _ rfl, hB.alloc _, hO.alloc _, hN.alloc _, hlB, hlO, hlN, hA.lt⟩
        by_cases hbo : may = true ∧ may2 = true
        ·obtain ⟨rfl, rfl⟩ := hbo
         obtain ⟨x, hx5, rfl⟩ := hm rfl
         obtain ⟨y, hy5, rfl⟩ := hm2 rfl
         have hall := hP.all
         have hlx := (lst_one x hx5).2
         have hly := (lst_one y hy5).2
         have hel : elm s.data.toList k = if x ≤ y then .ok (oSpan x y, nx2) else .error (1, k) := by
          unfold elm
          rw [Ha.out]
          simp only [ne_eq, not_true, if_false]
          rw [if_pos (by rw [list_size]; exact Hr2.out), Hb.out]
          simp only [not_true, if_false, hlx, hly, Bool.and_self, Bool.true_and, decide_eq_true_eq]
         have Hel := Lib.hid hel
         clear hel hlx hly hP Hb Ha hx hW hB hO hN hA
         by_cases hxy : y < x
         ·have e1 : decide ((y : Int) < (x : Int)) = true := decide_eq_true (by omega)
          have e2 : decide (y < x) = true := decide_eq_true hxy
          have Hp := Lib.hid (Her.out 1 k (by rw [← Hq.out, rst_err _ _ _ _ _ hend' (by rw [Hel.out, if_neg (by omega)])]))
          go_wp2_with fail
          go_region_held3 (fun w' => (w'.cell? ⟨w1.heap.size, 0, none⟩ = some (.int .u64 (ow (oSpan x x) 0)) ∧ w'.cell? ⟨w1.heap.size, 1, none⟩ = some (.int .u64 (ow (oSpan x x) 1)) ∧ w'.cell? ⟨w1.heap.size, 2, none⟩ = some (.int .u64 (ow (oSpan x x) 2)) ∧ w'.cell? ⟨w1.heap.size, 3, none⟩ = some (.int .u64 (ow (oSpan x x) 3))) ∧ (w'.cell? ⟨w2.heap.size, 0, none⟩ = some (.int .u64 (ow (oSpan y y) 0)) ∧ w'.cell? ⟨w2.heap.size, 1, none⟩ = some (.int .u64 (ow (oSpan y y) 1)) ∧ w'.cell? ⟨w2.heap.size, 2, none⟩ = some (.int .u64 (ow (oSpan y y) 2)) ∧ w'.cell? ⟨w2.heap.size, 3, none⟩ = some (.int .u64 (ow (oSpan y y) 3))) ∧ HoldP w w1.heap.size w2.heap.size (oSpan x x) (oSpan y y) acc 33 w')
           (first | exact hall | exact readP_drew hall | with_reducible exact readP_step hbX (by assumption) | with_reducible exact readP_drew (by assumption))
           (first | (go_at_call 105; refine (rleast_any x hx5 _).mono ?_; rintro e w' ⟨rfl, hbX⟩) | (go_at_call 105; refine (rleast_any y hy5 _).mono ?_; rintro e w' ⟨rfl, hbX⟩))
          clear hall
          go_split_ands
          rename HoldP w w1.heap.size w2.heap.size (oSpan x x) (oSpan y y) acc 33 _ => hP
          have hW := hP.below
          have hB := hP.br
          have hN := hP.bn
          have hlB := hB.lt
          have hlN := hN.lt
          have f0 := hB.frozen 0; have f1 := hB.frozen 1; have f2 := hB.frozen 2; have f3 := hB.frozen 3
          obtain ⟨d0, d1, d2, d3⟩ := zblk_cells hB
          obtain ⟨n0, n1, n2, n3⟩ := zblk_cells hN
          go_wp2_with fail
          refine bodyPost_ret (v := prV (oz, (k : Int), 1)) (by simp [results, Tryz.results91, go_sem, d0, d1, d2, d3, prV, ow_zero, hlB]) rfl ⟨ret_pr (by rw [Hp.out]), ?_⟩
          repeat (first | (with_reducible exact hW) | refine Below.setCell ?_ (by first | omega | (simp; omega) | simp) _ | refine Below.drew ?_ | refine Below.alloc ?_ (by simpa using hW.size) _)
         ·have e1 : decide ((y : Int) < (x : Int)) = false := decide_eq_false (by omega)
          have e2 : decide (y < x) = false := decide_eq_false hxy
          have Hs := Lib.hid (rst_ok _ _ _ acc _ _ hend' (by rw [Hel.out, if_pos (by omega)]))
          go_wp2_with fail
          go_region_held3 (fun w' => (w'.cell? ⟨w1.heap.size, 0, none⟩ = some (.int .u64 (ow (oSpan x x) 0)) ∧ w'.cell? ⟨w1.heap.size, 1, none⟩ = some (.int .u64 (ow (oSpan x x) 1)) ∧ w'.cell? ⟨w1.heap.size, 2, none⟩ = some (.int .u64 (ow (oSpan x x) 2)) ∧ w'.cell? ⟨w1.heap.size, 3, none⟩ = some (.int .u64 (ow (oSpan x x) 3))) ∧ (w'.cell? ⟨w2.heap.size, 0, none⟩ = some (.int .u64 (ow (oSpan y y) 0)) ∧ w'.cell? ⟨w2.heap.size, 1, none⟩ = some (.int .u64 (ow (oSpan y y) 1)) ∧ w'.cell? ⟨w2.heap.size, 2, none⟩ = some (.int .u64 (ow (oSpan y y) 2)) ∧ w'.cell? ⟨w2.heap.size, 3, none⟩ = some (.int .u64 (ow (oSpan y y) 3))) ∧ HoldP w w1.heap.size w2.heap.size (oSpan x x) (oSpan y y) acc 33 w')
           (first | exact hall | exact readP_drew hall | with_reducible exact readP_step hbX (by assumption) | with_reducible exact readP_drew (by assumption))
           (first | (go_at_call 105; refine (rleast_any x hx5 _).mono ?_; rintro e w' ⟨rfl, hbX⟩) | (go_at_call 105; refine (rleast_any y hy5 _).mono ?_; rintro e w' ⟨rfl, hbX⟩))
          clear hall
          go_split_ands
          rename HoldP w w1.heap.size w2.heap.size (oSpan x x) (oSpan y y) acc 33 _ => hP
          go_upto_region 21 with fail
          go_cut [] from 121 to 126 (fun wx => HoldP w w1.heap.size w2.heap.size (oSpan x y) (oSpan y y) acc 33 wx)
          case first =>
           obtain ⟨a0, a1, a2, a3⟩ := oblk_cells hP.bs
           obtain ⟨b0, b1, b2, b3⟩ := oblk_cells hP.bt
           go_region_with (first | (go_at_call 105; refine (rleast_any x hx5 _).mono ?_; rintro e w8 ⟨rfl, b8⟩; (first | replace hP := HoldP.step b8 hP | replace hP := HoldP.step b8 hP.drew); (try clear b8); obtain ⟨a0, a1, a2, a3⟩ := oblk_cells hP.bs; obtain ⟨b0, b1, b2, b3⟩ := oblk_cells hP.bt) | (go_at_call 105; refine (rleast_any y hy5 _).mono ?_; rintro e w8 ⟨rfl, b8⟩; (first | replace hP := HoldP.step b8 hP | replace hP := HoldP.step b8 hP.drew); (try clear b8); obtain ⟨a0, a1, a2, a3⟩ := oblk_cells hP.bs; obtain ⟨b0, b1, b2, b3⟩ := oblk_cells hP.bt) | (go_at_call 93; refine (rspan_any (x : Int) (y : Int) _ (by omega) (by omega) (by omega) (by omega)).mono ?_; rintro e w8 ⟨rfl, b8⟩; (first | replace hP := HoldP.step b8 hP | replace hP := HoldP.step b8 hP.drew); (try clear b8); obtain ⟨a0, a1, a2, a3⟩ := oblk_cells hP.bs; have f0 := hP.bs.frozen 0; have f1 := hP.bs.frozen 1; have f2 := hP.bs.frozen 2; have f3 := hP.bs.frozen 3; have hls := hP.bs.lt))
           all_goals go_wp2_with fail
           all_goals go_meet
           all_goals exact HoldP.store hP _
          case rest =>
           have hP := hcut
           clear hcut
           have hW := hP.below
           have hB := hP.br
           have hN := hP.bn
           have hO := hP.bo
           have hA := hP.bs
           clear hP
           obtain ⟨c0, c1, c2, c3⟩ := oblk_cells hO
           obtain ⟨a0, a1, a2, a3⟩ := oblk_cells hA
           go_wp2_with fail
           refine (ror_any acc (oSpan x y) _).mono ?_
           rintro e w5 ⟨rfl, b5⟩
           replace hW := hW.trans (b5.mono hW.size)
           replace hB := hB.below b5 hB.lt
           replace hO := hO.below b5 hO.lt
           replace hN := hN.below b5 hN.lt
           clear c0 c1 c2 c3 a0 a1 a2 a3 b5 hA
           have f0 := hO.frozen 0
           have f1 := hO.frozen 1
           have f2 := hO.frozen 2
           have f3 := hO.frozen 3
           obtain ⟨c0, c1, c2, c3⟩ := oblk_cells hO
           have hlO := hO.lt
           go_wp2_with fail
           go_roundw
           case rel =>
            refine ⟨nx2, false, acc ||| oSpan x y, hx4, rfl, rfl, by rw [← Hs.out, Hq.out], ?_, ?_, oblk_store hO _, ?_⟩
            ·repeat (first | (with_reducible exact hW) | refine Below.setCell ?_ (by first | omega | (simp; omega) | simp) _ | refine Below.alloc ?_ (by first | omega | (simp; omega) | simp) _)
            ·repeat (first | (with_reducible exact hB) | refine Blk.set_other ?_ _ (by simp) _)
            ·repeat (first | (with_reducible exact hN) | refine Blk.set_other ?_ _ (by simp) _)
           case measure => simp [intOf]; omega
        ·have hall := hP.all
         have hmm : may = false ∨ (may = true ∧ may2 = false) := by
          cases may <;> cases may2 <;> simp_all
         have He : elm s.data.toList k = .error (1, k) := by
          unfold elm
          rw [Ha.out]
          simp only [ne_eq, not_true, if_false]
          rw [if_pos (by rw [list_size]; exact Hr2.out), Hb.out]
          simp only [not_true, if_false]
          rw [if_neg (by rcases hmm with h | ⟨h, h2⟩ <;> simp [h] <;> simp_all)]
         have Hp := Lib.hid (Her.out 1 k (by rw [← Hq.out, rst_err _ _ _ _ _ hend' He]))
         clear He
         clear hall hP hA hO
         have hlB := hB.lt
         have hlN := hN.lt
         have f0 := hB.frozen 0; have f1 := hB.frozen 1; have f2 := hB.frozen 2; have f3 := hB.frozen 3
         obtain ⟨d0, d1, d2, d3⟩ := zblk_cells hB
         obtain ⟨n0, n1, n2, n3⟩ := zblk_cells hN
         clear Hb Ha hm hm2 hbo hx
         rcases hmm with rfl | ⟨rfl, rfl⟩
         ·go_wp2_with fail
          go_region
          all_goals go_wp2_with fail
          all_goals refine bodyPost_ret (v := prV (oz, (k : Int), 1)) (by simp [results, Tryz.results91, go_sem, d0, d1, d2, d3, prV, ow_zero, hlB]) rfl ⟨ret_pr (by rw [Hp.out]), ?_⟩
          all_goals (repeat (first | (with_reducible exact hW) | refine Below.setCell ?_ (by first | omega | (simp; omega) | simp) _ | refine Below.drew ?_ | refine Below.alloc ?_ (by simpa using hW.size) _))
         ·go_wp2_with fail
          go_region
          all_goals go_wp2_with fail
          all_goals refine bodyPost_ret (v := prV (oz, (k : Int), 1)) (by simp [results, Tryz.results91, go_sem, d0, d1, d2, d3, prV, ow_zero, hlB]) rfl ⟨ret_pr (by rw [Hp.out]), ?_⟩
          all_goals (repeat (first | (with_reducible exact hW) | refine Below.setCell ?_ (by first | omega | (simp; omega) | simp) _ | refine Below.drew ?_ | refine Below.alloc ?_ (by simpa using hW.size) _))
       ·have e1 : ((er2 : Int) != 0) = true := by simp; omega
        obtain ⟨d0, d1, d2, d3⟩ := zblk_cells hB
        obtain ⟨n0, n1, n2, n3⟩ := zblk_cells hN
        have f0 := hB.frozen 0; have f1 := hB.frozen 1; have f2 := hB.frozen 2; have f3 := hB.frozen 3
        have hlB := hB.lt
        have hlN := hN.lt
        go_wp2_with fail
        have Hp := Lib.hid (Her.out er2 pl2 (by
         have he : elm s.data.toList k = .error (er2, pl2) := by
          unfold elm
          rw [Ha.out]
          simp only [ne_eq, not_true, if_false]
          rw [if_pos (by rw [list_size]; exact Hr2.out), Hb.out]
          simp only [ne_eq, her2, not_false_eq_true, if_true]
         rw [← Hq.out, rst_err _ _ _ _ _ hend' he]))
        refine bodyPost_ret (v := prV (oz, (pl2 : Int), er2)) (by simp [results, Tryz.results91, go_sem, d0, d1, d2, d3, prV, ow_zero, hlB]) rfl ⟨ret_pr (by rw [Hp.out]), ?_⟩
        repeat (first | (with_reducible exact hW) | refine Below.setCell ?_ (by first | omega | (simp; omega) | simp) _ | refine Below.alloc ?_ (by first | omega | (simp; omega) | simp) _)
      ·have He : elm s.data.toList k = .ok (A, nx) := by
        unfold elm
        rw [Ha.out]
        simp only [ne_eq, not_true, if_false]
        rw [if_neg (by rw [list_size]; exact hr2)]
       have Hs := Lib.hid (rst_ok _ _ _ acc _ _ hend' He)
       clear He
       go_upto_region 15 with fail
       go_cut [90] from 73 to 91 (fun b wx => b = .bool false ∧ Below w.heap.size w wx ∧ Blk wx w.heap.size #[.int .u64 0, .int .u64 0, .int .u64 0, .int .u64 0] 33 ∧ Blk wx (w.heap.size + 1) (oc acc) 33 ∧ Blk wx (w.heap.size + 2) #[.int .u64 0, .int .u64 0, .int .u64 0, .int .u64 0] 33 ∧ Blk wx w1.heap.size (oc A) 33)
       case first =>
        have hWW := hW.alloc hW.size (.cells (oc A) 33)
        by_cases q1 : nx + 1 < s.size
        ·have r1 : decide ((nx : Int) + 1 < (s.size : Int)) = true := by simp; omega
         by_cases q2 : s[nx].toNat = 45
         ·have r2 : ((s[nx].toNat : Int) == 45) = true := by simp; omega
          have r3 : ((s[nx + 1].toNat : Int) != 93) = false := by
           have := hr2
           rw [byt_at s nx (by omega), byt_at s (nx + 1) q1] at this
           simp; omega
          clear q2
          go_wp2_with fail
          go_meet
          exact ⟨rfl, hWW, hB.alloc _, hO.alloc _, hN.alloc _, Blk.new _ _ _ _ rfl⟩
         ·have r2 : ((s[nx].toNat : Int) == 45) = false := by simp; omega
          go_wp2_with fail
          go_meet
          exact ⟨rfl, hWW, hB.alloc _, hO.alloc _, hN.alloc _, Blk.new _ _ _ _ rfl⟩
        ·have r1 : decide ((nx : Int) + 1 < (s.size : Int)) = false := by simp; omega
         go_wp2_with fail
         go_meet
         exact ⟨rfl, hWW, hB.alloc _, hO.alloc _, hN.alloc _, Blk.new _ _ _ _ rfl⟩
       case rest =>
        clear hW hB hO hN d0 d1 d2 d3 c0 c1 c2 c3 n0 n1 n2 n3 f0 f1 f2 f3 hlB hlO hlN
        obtain ⟨rfl, hW, hB, hO, hN, hA⟩ := hcut
        obtain ⟨c0, c1, c2, c3⟩ := oblk_cells hO
        obtain ⟨a0, a1, a2, a3⟩ := oblk_cells hA
        go_wp2_with fail
        refine (ror_any acc A _).mono ?_
        rintro e w2 ⟨rfl, b2⟩
        replace hW := hW.trans (b2.mono hW.size)
        replace hB := hB.below b2 hB.lt
        replace hO := hO.below b2 hO.lt
        replace hN := hN.below b2 hN.lt
        clear c0 c1 c2 c3 a0 a1 a2 a3 b2 hA
        have f0 := hO.frozen 0
        have f1 := hO.frozen 1
        have f2 := hO.frozen 2
        have f3 := hO.frozen 3
        obtain ⟨c0, c1, c2, c3⟩ := oblk_cells hO
        have hlO := hO.lt
        go_wp2_with fail
        go_roundw
        case rel =>
         refine ⟨nx, false, acc ||| A, hx2, rfl, rfl, by rw [← Hs.out, Hq.out], ?_, ?_, oblk_store hO _, ?_⟩
         ·repeat (first | (with_reducible exact hW) | refine Below.setCell ?_ (by first | omega | (simp; omega) | simp) _ | refine Below.alloc ?_ (by first | omega | (simp; omega) | simp) _)
         ·repeat (first | (with_reducible exact hB) | refine Blk.set_other ?_ _ (by simp) _)
         ·repeat (first | (with_reducible exact hN) | refine Blk.set_other ?_ _ (by simp) _)
        case measure => simp [intOf]; omega
     ·have e1 : ((er : Int) != 0) = true := by simp; omega
      go_wp2_with fail
      have Hp := Lib.hid (Her.out er pl (by
       have he : elm s.data.toList k = .error (er, pl) := by unfold elm; rw [Ha.out]; simp [her]
       rw [← Hq.out, rst_err _ _ _ _ _ hend' he]))
      refine bodyPost_ret (v := prV (oz, (pl : Int), er)) (by simp [results, Tryz.results91, go_sem, d0, d1, d2, d3, prV, ow_zero, hlB]) rfl ⟨ret_pr (by rw [Hp.out]), ?_⟩
      repeat (first | (with_reducible exact hW) | refine Below.setCell ?_ (by first | omega | (simp; omega) | simp) _ | refine Below.alloc ?_ (by first | omega | (simp; omega) | simp) _)
end Go.Proofs.YtkejeiopfblkgaaGreatDoor
