/- The proof's texts BrRef, SpWalk, SpRow, BrRefB: what the claim reaches of them. -/
import Derived.Test.YtkejeiopfblkgaaGreatDoorBp13
import Derived.Test.YtkejeiopfblkgaaGreatDoorBp04
import Derived.BigQuiet
import Derived.Deep.QuietTactic
import Derived.Test.YtkejeiopfblkgaaGreatDoorBp03
import Derived.Test.YtkejeiopfblkgaaGreatDoorBp02
namespace Go.Proofs.YtkejeiopfblkgaaGreatDoor
open Go.RowKit
theorem byt_at (s : ByteArray) (k : Nat) (h : k < s.size) : byt s.data.toList k = s[k].toNat := by
 unfold byt
 rw [List.getD_eq_getElem?_getD, List.getElem?_eq_getElem (by simpa using h)]
 rfl
theorem fnd_unfold (s : ByteArray) (kind e : Nat) : fnd s.data.toList kind e = if e + 1 < s.size then (if byt s.data.toList e = kind ∧ byt s.data.toList (e + 1) = 93 then some e else fnd s.data.toList kind (e + 1)) else none := by
 rw [fnd]; simp
theorem extract_sub (s : ByteArray) (i j : Nat) : (s.extract i j).toList = sub s.data.toList i j := by
 rw [ByteArray.toList_eq, ByteArray.data_extract, Array.toList_extract, List.extract_eq_take_drop]
 rfl
theorem bext_size (s : ByteArray) (i j : Nat) (hj : j = i + 1) (h : i < s.size) : 0 < (s.extract i j).size := by
 subst hj; simp; omega
theorem ext_zero (s : ByteArray) (i j : Nat) (hj : j = i + 1) (h : i < s.size) : ((s.extract i j)[0]'(bext_size s i j hj h)).toNat = byt s.data.toList i := by
 subst hj
 rw [byt_at s i h, ByteArray.getElem_extract]
 rfl
theorem list_size (s : ByteArray) : s.data.toList.length = s.size := by simp
theorem itm_at (s : ByteArray) (k : Nat) (hlt : k < s.size) : itm s.data.toList k = if opens s.data.toList k then (match fnd s.data.toList (byt s.data.toList (k + 1)) (from1 s.data.toList k) with
   | some e => boxed s.data.toList k e
   | none => ⟨oz, false, 0, 5, s.data.toList.length⟩)
   else ⟨oSpan (byt s.data.toList k) (byt s.data.toList k), true, k + 1, 0, 0⟩ := by
 unfold itm
 rw [if_neg (by rw [list_size]; omega)]
 rfl
theorem u8a (b : UInt8) : (0 : Int) ≤ (b.toNat : Int) := Int.natCast_nonneg _
theorem u8b (b : UInt8) : (b.toNat : Int) ≤ 255 := by have := b.toNat_lt; omega
def itV (a : Itm) : Value := .tuple #[.agg #[.int .u64 (ow a.set 0), .int .u64 (ow a.set 1), .int .u64 (ow a.set 2), .int .u64 (ow a.set 3)], .bool a.may, .int .i64 (a.next : Int), .int .i64 (a.err : Int), .int .i64 (a.place : Int)]
theorem ret_it {a b : Itm} (h : a = b) : Ending.returned (itV a) = .returned (itV b) := by rw [h]
set_option linter.unusedSimpArgs false in
set_option maxRecDepth 100000 in
set_option maxHeartbeats 4000000 in
theorem ritem58 (s : ByteArray) (k : Nat) (w : World) (hs : s.size ≤ 35184372088832) (hk : k ≤ 70368744177664) (hlt : k < s.size) (h1 : k + 1 < s.size) (h91 : s[k].toNat = 91) (h58 : s[k + 1].toNat = 58) :
  Calls Tryz.prog 104 #[.string s, .int .i64 (k : Int)] w fun e w' => e = .returned (itV (itm s.data.toList k)) ∧ Below w.heap.size w w' := by
 have hB := (Blk.new w #[.int .u64 0, .int .u64 0, .int .u64 0, .int .u64 0] 33 _ rfl).alloc (.cells #[.int .u64 0, .int .u64 0, .int .u64 0, .int .u64 0] 33); have hN := Blk.new (w.alloc (.cells #[.int .u64 0, .int .u64 0, .int .u64 0, .int .u64 0] 33)) #[.int .u64 0, .int .u64 0, .int .u64 0, .int .u64 0] 33 _ rfl; have hW := ((Below.refl w.heap.size w).alloc (Nat.le_refl _) (.cells #[.int .u64 0, .int .u64 0, .int .u64 0, .int .u64 0] 33)).alloc (by simp) (.cells #[.int .u64 0, .int .u64 0, .int .u64 0, .int .u64 0] 33)
 have Hi := Lib.hid (itm_at s k hlt)
 have hb0 := s[k].toNat_lt
 have W1 : IntKind.i64.wrap ((k : Int) + 1) = (k : Int) + 1 := IntWalk.i64_in _ (by omega)
 have h91' : ((s[k].toNat : Int) != 91) = false := by simp; omega
 have g1 : decide ((s.size : Int) ≤ (k : Int) + 1) = false := by simp; omega
 have hb1 := byt_at s (k + 1) h1
 have hc0 := s[k + 1].toNat_lt
 have hc1 : (s[k + 1].toNat : Int) ≤ 255 := by omega
 have Ho := Lib.hid (show opens s.data.toList k = true by
  unfold opens; rw [byt_at s k hlt, hb1, h91, decide_eq_true (show k + 1 < s.data.toList.length by rw [list_size]; exact h1), h58]; rfl)
 have Hb1 := Lib.hid hb1
 clear h91 hb1
 have H58 := Lib.hid h58
 have p1 : ((s[k + 1].toNat : Int) != 58) = false := by simp; omega
 have p4 : ((s[k + 1].toNat : Int) == 58) = true := by simp; omega
 clear h58
 have W2 : IntKind.i64.wrap ((k : Int) + 2) = (k : Int) + 2 := IntWalk.i64_in _ (by omega)
 go_enter Tryz.func104, Tryz.ntmps104
 go_wp2_with fail
 go_loopw [12] (fun i wr => ∃ e : Nat, k + 2 ≤ e ∧ e ≤ s.size + 1 ∧ i = .int .i64 e ∧ fnd s.data.toList (s[k + 1].toNat) e = fnd s.data.toList (s[k + 1].toNat) (k + 2) ∧ Below w.heap.size w wr ∧ Blk wr w.heap.size #[.int .u64 0, .int .u64 0, .int .u64 0, .int .u64 0] 33 ∧ Blk wr (w.heap.size + 1) #[.int .u64 0, .int .u64 0, .int .u64 0, .int .u64 0] 33) (fun i _ => s.size + 2 - (intOf i).toNat)
 case atStart => exact ⟨k + 2, by omega, by omega, rfl, rfl, hW, hB, by simpa using hN⟩
 case round =>
  clear hW hB hN
  obtain ⟨e, he0, he1, rfl, hf, hW, hB, hN⟩ := hrel
  have Hf := Lib.hid hf
  have Hu := Lib.hid (fnd_unfold s (s[k + 1].toNat) e)
  clear hf
  have We := IntWalk.i64_in ((e : Int) + 1) (by omega)
  obtain ⟨n0, n1, n2, n3⟩ := zblk_cells hN
  obtain ⟨d0, d1, d2, d3⟩ := zblk_cells hB
  have f0 := hB.frozen 0
  have f1 := hB.frozen 1
  have f2 := hB.frozen 2
  have f3 := hB.frozen 3
  by_cases he : e + 1 < s.size
  ·have be1 := Lib.hid (byt_at s e (by omega))
   have be2 := Lib.hid (byt_at s (e + 1) he)
   have Hs := Lib.hid (show ¬ (s[e].toNat = s[k + 1].toNat ∧ s[e + 1].toNat = 93) → fnd s.data.toList (s[k + 1].toNat) (e + 1) = fnd s.data.toList (s[k + 1].toNat) (k + 2) from fun hn => by
    rw [← Hf.out, Hu.out, if_pos he, be1.out, be2.out, if_neg hn])
   by_cases hm : s[e].toNat = s[k + 1].toNat
   ·have q1 : ((s[e].toNat : Int) != (s[k + 1].toNat : Int)) = false := by simp; omega
    by_cases hc : s[e + 1].toNat = 93
    ·have q2 : ((s[e + 1].toNat : Int) != 93) = false := by simp; omega
     have Hx := Lib.hid (show fnd s.data.toList (s[k + 1].toNat) (k + 2) = some e by rw [← Hf.out, Hu.out, if_pos he, be1.out, be2.out, if_pos ⟨hm, hc⟩])
     have Hc := Lib.hid (extract_sub s (k + 2) e)
     clear hm hc
     have We2 : IntKind.i64.wrap ((e : Int) + 2) = (e : Int) + 2 := IntWalk.i64_in _ (by omega)
     have Hi2 := Lib.hid (show itm s.data.toList k = if clsOk (sub s.data.toList (k + 2) e) then ⟨clsSet (sub s.data.toList (k + 2) e), false, e + 2, 0, 0⟩ else ⟨oz, false, 0, 6, k⟩ by
      rw [Hi.out, Ho.out, if_pos rfl, Hb1.out, show from1 s.data.toList k = k + 2 by unfold from1; rw [Hb1.out, H58.out]; rfl, Hx.out]
      simp only
      unfold boxed
      rw [Hb1.out, if_pos H58.out])
     go_wp2_with fail
     refine (rclass_any _ _).mono ?_
     rintro e' w' ⟨hv, bX⟩
     rw [Hc.out] at hv
     subst hv
     replace hW := Below.trans hW (bX.mono hW.size)
     replace hB := Blk.below hB bX (Blk.lt hB)
     replace hN := Blk.below hN bX (Blk.lt hN)
     clear bX d0 d1 d2 d3 n0 n1 n2 n3 f0 f1 f2 f3
     obtain ⟨d0, d1, d2, d3⟩ := zblk_cells hB
     obtain ⟨n0, n1, n2, n3⟩ := zblk_cells hN
     have f0 := hB.frozen 0
     have f1 := hB.frozen 1
     have f2 := hB.frozen 2
     have f3 := hB.frozen 3
     have hlB := hB.lt
     have hlN := hN.lt
     generalize clsSet (sub s.data.toList (k + 2) e) = cs at Hi2 ⊢
     cases hok : clsOk (sub s.data.toList (k + 2) e)
     ·have Hok := Lib.hid hok
      clear hok
      go_wp2_with fail
      refine bodyPost_ret (v := itV ⟨oz, false, 0, 6, k⟩) (by simp [results, Tryz.results104, go_sem, d0, d1, d2, d3, itV, ow_zero, hlB]) rfl ⟨ret_it (by rw [Hi2.out, Hok.out]; rfl), ?_⟩; repeat (first | exact hW | refine Below.setCell ?_ (by simp) _ | refine Below.alloc ?_ (by simp; omega) _)
     ·have Hok := Lib.hid hok
      clear hok
      go_wp2_with fail
      refine bodyPost_ret (v := itV ⟨cs, false, e + 2, 0, 0⟩) (by simp [results, Tryz.results104, go_sem, d0, d1, d2, d3, itV, ow_zero, hlB]) rfl ⟨ret_it (by rw [Hi2.out, Hok.out]; rfl), ?_⟩; repeat (first | exact hW | refine Below.setCell ?_ (by simp) _ | refine Below.alloc ?_ (by simp; omega) _)
    ·have q2 : ((s[e + 1].toNat : Int) != 93) = true := by simp; omega
     have Hn := Lib.hid (Hs.out fun h => hc h.2)
     clear hm hc
     go_wp2_with fail; refine ⟨⟨e + 1, by omega, by omega, by go_num, Hn.out, hW, hB, hN⟩, by simp [intOf]; omega⟩
   ·have q1 : ((s[e].toNat : Int) != (s[k + 1].toNat : Int)) = true := by simp; omega
    have Hn := Lib.hid (Hs.out fun h => hm h.1)
    clear hm
    go_wp2_with fail; refine ⟨⟨e + 1, by omega, by omega, by go_num, Hn.out, hW, hB, hN⟩, by simp [intOf]; omega⟩
  ·have Hx := Lib.hid (show fnd s.data.toList (s[k + 1].toNat) (k + 2) = none by rw [← Hf.out, Hu.out, if_neg he])
   go_wp2_with fail
   refine bodyPost_ret (v := itV ⟨oz, false, 0, 5, s.size⟩) (by simp [results, Tryz.results104, go_sem, d0, d1, d2, d3, itV, ow_zero]) rfl ⟨ret_it (by rw [Hi.out, Ho.out, if_pos rfl, Hb1.out, show from1 s.data.toList k = k + 2 by unfold from1; rw [Hb1.out, H58.out]; rfl, Hx.out]; simp), ?_⟩; repeat (first | exact hW | refine Below.setCell ?_ (by simp) _)
set_option linter.unusedSimpArgs false in
set_option maxRecDepth 100000 in
set_option maxHeartbeats 4000000 in
theorem ritem61 (s : ByteArray) (k : Nat) (w : World) (hs : s.size ≤ 35184372088832) (hk : k ≤ 70368744177664) (hlt : k < s.size) (h1 : k + 1 < s.size) (h91 : s[k].toNat = 91) (h61 : s[k + 1].toNat = 61) :
  Calls Tryz.prog 104 #[.string s, .int .i64 (k : Int)] w fun e w' => e = .returned (itV (itm s.data.toList k)) ∧ Below w.heap.size w w' := by
 have hB := (Blk.new w #[.int .u64 0, .int .u64 0, .int .u64 0, .int .u64 0] 33 _ rfl).alloc (.cells #[.int .u64 0, .int .u64 0, .int .u64 0, .int .u64 0] 33); have hN := Blk.new (w.alloc (.cells #[.int .u64 0, .int .u64 0, .int .u64 0, .int .u64 0] 33)) #[.int .u64 0, .int .u64 0, .int .u64 0, .int .u64 0] 33 _ rfl; have hW := ((Below.refl w.heap.size w).alloc (Nat.le_refl _) (.cells #[.int .u64 0, .int .u64 0, .int .u64 0, .int .u64 0] 33)).alloc (by simp) (.cells #[.int .u64 0, .int .u64 0, .int .u64 0, .int .u64 0] 33)
 have Hi := Lib.hid (itm_at s k hlt)
 have hb0 := s[k].toNat_lt
 have W1 : IntKind.i64.wrap ((k : Int) + 1) = (k : Int) + 1 := IntWalk.i64_in _ (by omega)
 have h91' : ((s[k].toNat : Int) != 91) = false := by simp; omega
 have g1 : decide ((s.size : Int) ≤ (k : Int) + 1) = false := by simp; omega
 have hb1 := byt_at s (k + 1) h1
 have hc0 := s[k + 1].toNat_lt
 have hc1 : (s[k + 1].toNat : Int) ≤ 255 := by omega
 have Ho := Lib.hid (show opens s.data.toList k = true by
  unfold opens; rw [byt_at s k hlt, hb1, h91, decide_eq_true (show k + 1 < s.data.toList.length by rw [list_size]; exact h1), h61]; rfl)
 have Hb1 := Lib.hid hb1
 clear h91 hb1
 have h58 : ¬ s[k + 1].toNat = 58 := by omega
 have p1 : ((s[k + 1].toNat : Int) != 58) = true := by simp; omega
 have p4 : ((s[k + 1].toNat : Int) == 58) = false := by simp; omega
 have H58 := Lib.hid h58
 have p2 : ((s[k + 1].toNat : Int) != 61) = false := by simp; omega
 have p6 : ((s[k + 1].toNat : Int) == 46) = false := by simp; omega
 have Hk := Lib.hid (show decide (s[k + 1].toNat = 46) = false by simp; omega)
 clear h61 h58
 have W3 : IntKind.i64.wrap ((k : Int) + 3) = (k : Int) + 3 := IntWalk.i64_in _ (by omega)
 have W2 : IntKind.i64.wrap ((k : Int) + 2) = (k : Int) + 2 := IntWalk.i64_in _ (by omega)
 go_enter Tryz.func104, Tryz.ntmps104
 go_wp2_with fail
 go_loopw [12] (fun i wr => ∃ e : Nat, k + 3 ≤ e ∧ e ≤ s.size + 1 ∧ i = .int .i64 e ∧ fnd s.data.toList (s[k + 1].toNat) e = fnd s.data.toList (s[k + 1].toNat) (k + 3) ∧ Below w.heap.size w wr ∧ Blk wr w.heap.size #[.int .u64 0, .int .u64 0, .int .u64 0, .int .u64 0] 33 ∧ Blk wr (w.heap.size + 1) #[.int .u64 0, .int .u64 0, .int .u64 0, .int .u64 0] 33) (fun i _ => s.size + 2 - (intOf i).toNat)
 case atStart => exact ⟨k + 3, by omega, by omega, rfl, rfl, hW, hB, by simpa using hN⟩
 case round =>
  clear hW hB hN
  obtain ⟨e, he0, he1, rfl, hf, hW, hB, hN⟩ := hrel
  have Hf := Lib.hid hf
  have Hu := Lib.hid (fnd_unfold s (s[k + 1].toNat) e)
  clear hf
  have We := IntWalk.i64_in ((e : Int) + 1) (by omega)
  obtain ⟨n0, n1, n2, n3⟩ := zblk_cells hN
  obtain ⟨d0, d1, d2, d3⟩ := zblk_cells hB
  have f0 := hB.frozen 0
  have f1 := hB.frozen 1
  have f2 := hB.frozen 2
  have f3 := hB.frozen 3
  by_cases he : e + 1 < s.size
  ·have be1 := Lib.hid (byt_at s e (by omega))
   have be2 := Lib.hid (byt_at s (e + 1) he)
   have Hs := Lib.hid (show ¬ (s[e].toNat = s[k + 1].toNat ∧ s[e + 1].toNat = 93) → fnd s.data.toList (s[k + 1].toNat) (e + 1) = fnd s.data.toList (s[k + 1].toNat) (k + 3) from fun hn => by
    rw [← Hf.out, Hu.out, if_pos he, be1.out, be2.out, if_neg hn])
   by_cases hm : s[e].toNat = s[k + 1].toNat
   ·have q1 : ((s[e].toNat : Int) != (s[k + 1].toNat : Int)) = false := by simp; omega
    by_cases hc : s[e + 1].toNat = 93
    ·have q2 : ((s[e + 1].toNat : Int) != 93) = false := by simp; omega
     have Hx := Lib.hid (show fnd s.data.toList (s[k + 1].toNat) (k + 3) = some e by rw [← Hf.out, Hu.out, if_pos he, be1.out, be2.out, if_pos ⟨hm, hc⟩])
     clear hm hc
     have We2 : IntKind.i64.wrap ((e : Int) + 2) = (e : Int) + 2 := IntWalk.i64_in _ (by omega)
     have Hi2 := Lib.hid (show itm s.data.toList k = if e = k + 3 then ⟨oSpan (byt s.data.toList (k + 2)) (byt s.data.toList (k + 2)), decide (s[k + 1].toNat = 46), e + 2, 0, 0⟩ else ⟨oz, false, 0, 6, k⟩ by
      rw [Hi.out, Ho.out, if_pos rfl, Hb1.out, show from1 s.data.toList k = k + 3 by unfold from1; rw [Hb1.out, if_neg H58.out], Hx.out]
      simp only
      unfold boxed
      rw [Hb1.out, if_neg H58.out])
     by_cases he3 : e = k + 3
     ·subst he3
      have hm3 : (((min (k + 3) s.size - (k + 2) : Nat) : Int) != 1) = false := by simp; omega
      go_wp2_with fail
      have hz0 := bext_size s (k + 2) (k + 3) rfl (by omega)
      have hx0 : ((s.extract (k + 2) (k + 3))[0]'hz0).toNat = byt s.data.toList (k + 2) := ext_zero s (k + 2) (k + 3) rfl (by omega)
      generalize s.extract (k + 2) (k + 3) = X at hz0 hx0 ⊢
      have Hs3 := Lib.hid (show itm s.data.toList k = ⟨oSpan ((X[0]'hz0).toNat : Int) ((X[0]'hz0).toNat : Int), decide (s[k + 1].toNat = 46), k + 5, 0, 0⟩ from Hi2.out.trans (by rw [if_pos (by trivial), hx0]))
      clear hx0 hm3
      have We5 : IntKind.i64.wrap ((k : Int) + 3 + 2) = (k : Int) + 5 := by rw [IntWalk.i64_in _ (by omega)]; omega
      go_region_with (first | (go_at_call 93; refine (rspan_any _ _ _ (u8a _) (u8b _) (u8a _) (u8b _)).mono ?_; rintro e w1 ⟨rfl, b1⟩; replace hW := Below.trans (Below.drew hW) (b1.mono hW.size); replace hB := Blk.below (Blk.drew hB) b1 (Blk.lt hB); have f0 := hB.frozen 0; have f1 := hB.frozen 1; have f2 := hB.frozen 2; have f3 := hB.frozen 3; obtain ⟨d0, d1, d2, d3⟩ := zblk_cells hB; have hs := hB.lt))
      all_goals go_wp2_with fail
      all_goals (refine bodyPost_ret (v := itV ⟨oSpan ((X[0]'hz0).toNat : Int) ((X[0]'hz0).toNat : Int), false, k + 5, 0, 0⟩) (by simp [results, Tryz.results104, go_sem, d0, d1, d2, d3, itV, We5]) rfl ⟨ret_it (by rw [Hs3.out, Hk.out]), ?_⟩; repeat (first | exact hW | refine Below.setCell ?_ (by simp) _))
     ·have hm3 : (((min e s.size - (k + 2) : Nat) : Int) != 1) = true := by simp; omega
      have Hk3 := Lib.hid he3
      clear he3
      go_wp2_with fail
      refine bodyPost_ret (v := itV ⟨oz, false, 0, 6, k⟩) (by simp [results, Tryz.results104, go_sem, d0, d1, d2, d3, itV, ow_zero]) rfl ⟨ret_it (by rw [Hi2.out, if_neg Hk3.out]), ?_⟩; repeat (first | exact hW | refine Below.setCell ?_ (by simp) _)
    ·have q2 : ((s[e + 1].toNat : Int) != 93) = true := by simp; omega
     have Hn := Lib.hid (Hs.out fun h => hc h.2)
     clear hm hc
     go_wp2_with fail; refine ⟨⟨e + 1, by omega, by omega, by go_num, Hn.out, hW, hB, hN⟩, by simp [intOf]; omega⟩
   ·have q1 : ((s[e].toNat : Int) != (s[k + 1].toNat : Int)) = true := by simp; omega
    have Hn := Lib.hid (Hs.out fun h => hm h.1)
    clear hm
    go_wp2_with fail; refine ⟨⟨e + 1, by omega, by omega, by go_num, Hn.out, hW, hB, hN⟩, by simp [intOf]; omega⟩
  ·have Hx := Lib.hid (show fnd s.data.toList (s[k + 1].toNat) (k + 3) = none by rw [← Hf.out, Hu.out, if_neg he])
   go_wp2_with fail
   refine bodyPost_ret (v := itV ⟨oz, false, 0, 5, s.size⟩) (by simp [results, Tryz.results104, go_sem, d0, d1, d2, d3, itV, ow_zero]) rfl ⟨ret_it (by rw [Hi.out, Ho.out, if_pos rfl, Hb1.out, show from1 s.data.toList k = k + 3 by unfold from1; rw [Hb1.out, if_neg H58.out], Hx.out]; simp), ?_⟩; repeat (first | exact hW | refine Below.setCell ?_ (by simp) _)
set_option linter.unusedSimpArgs false in
set_option maxRecDepth 100000 in
set_option maxHeartbeats 4000000 in
theorem ritem46 (s : ByteArray) (k : Nat) (w : World) (hs : s.size ≤ 35184372088832) (hk : k ≤ 70368744177664) (hlt : k < s.size) (h1 : k + 1 < s.size) (h91 : s[k].toNat = 91) (h46 : s[k + 1].toNat = 46) :
  Calls Tryz.prog 104 #[.string s, .int .i64 (k : Int)] w fun e w' => e = .returned (itV (itm s.data.toList k)) ∧ Below w.heap.size w w' := by
 have hB := (Blk.new w #[.int .u64 0, .int .u64 0, .int .u64 0, .int .u64 0] 33 _ rfl).alloc (.cells #[.int .u64 0, .int .u64 0, .int .u64 0, .int .u64 0] 33); have hN := Blk.new (w.alloc (.cells #[.int .u64 0, .int .u64 0, .int .u64 0, .int .u64 0] 33)) #[.int .u64 0, .int .u64 0, .int .u64 0, .int .u64 0] 33 _ rfl; have hW := ((Below.refl w.heap.size w).alloc (Nat.le_refl _) (.cells #[.int .u64 0, .int .u64 0, .int .u64 0, .int .u64 0] 33)).alloc (by simp) (.cells #[.int .u64 0, .int .u64 0, .int .u64 0, .int .u64 0] 33)
 have Hi := Lib.hid (itm_at s k hlt)
 have hb0 := s[k].toNat_lt
 have W1 : IntKind.i64.wrap ((k : Int) + 1) = (k : Int) + 1 := IntWalk.i64_in _ (by omega)
 have h91' : ((s[k].toNat : Int) != 91) = false := by simp; omega
 have g1 : decide ((s.size : Int) ≤ (k : Int) + 1) = false := by simp; omega
 have hb1 := byt_at s (k + 1) h1
 have hc0 := s[k + 1].toNat_lt
 have hc1 : (s[k + 1].toNat : Int) ≤ 255 := by omega
 have Ho := Lib.hid (show opens s.data.toList k = true by
  unfold opens; rw [byt_at s k hlt, hb1, h91, decide_eq_true (show k + 1 < s.data.toList.length by rw [list_size]; exact h1), h46]; rfl)
 have Hb1 := Lib.hid hb1
 clear h91 hb1
 have h58 : ¬ s[k + 1].toNat = 58 := by omega
 have p1 : ((s[k + 1].toNat : Int) != 58) = true := by simp; omega
 have p4 : ((s[k + 1].toNat : Int) == 58) = false := by simp; omega
 have H58 := Lib.hid h58
 have p2 : ((s[k + 1].toNat : Int) != 61) = true := by simp; omega
 have p3 : ((s[k + 1].toNat : Int) != 46) = false := by simp; omega
 have p6 : ((s[k + 1].toNat : Int) == 46) = true := by simp; omega
 have Hk := Lib.hid (show decide (s[k + 1].toNat = 46) = true by simp; omega)
 clear h46 h58
 have W3 : IntKind.i64.wrap ((k : Int) + 3) = (k : Int) + 3 := IntWalk.i64_in _ (by omega)
 have W2 : IntKind.i64.wrap ((k : Int) + 2) = (k : Int) + 2 := IntWalk.i64_in _ (by omega)
 go_enter Tryz.func104, Tryz.ntmps104
 go_wp2_with fail
 go_loopw [12] (fun i wr => ∃ e : Nat, k + 3 ≤ e ∧ e ≤ s.size + 1 ∧ i = .int .i64 e ∧ fnd s.data.toList (s[k + 1].toNat) e = fnd s.data.toList (s[k + 1].toNat) (k + 3) ∧ Below w.heap.size w wr ∧ Blk wr w.heap.size #[.int .u64 0, .int .u64 0, .int .u64 0, .int .u64 0] 33 ∧ Blk wr (w.heap.size + 1) #[.int .u64 0, .int .u64 0, .int .u64 0, .int .u64 0] 33) (fun i _ => s.size + 2 - (intOf i).toNat)
 case atStart => exact ⟨k + 3, by omega, by omega, rfl, rfl, hW, hB, by simpa using hN⟩
 case round =>
  clear hW hB hN
  obtain ⟨e, he0, he1, rfl, hf, hW, hB, hN⟩ := hrel
  have Hf := Lib.hid hf
  have Hu := Lib.hid (fnd_unfold s (s[k + 1].toNat) e)
  clear hf
  have We := IntWalk.i64_in ((e : Int) + 1) (by omega)
  obtain ⟨n0, n1, n2, n3⟩ := zblk_cells hN
  obtain ⟨d0, d1, d2, d3⟩ := zblk_cells hB
  have f0 := hB.frozen 0
  have f1 := hB.frozen 1
  have f2 := hB.frozen 2
  have f3 := hB.frozen 3
  by_cases he : e + 1 < s.size
  ·have be1 := Lib.hid (byt_at s e (by omega))
   have be2 := Lib.hid (byt_at s (e + 1) he)
   have Hs := Lib.hid (show ¬ (s[e].toNat = s[k + 1].toNat ∧ s[e + 1].toNat = 93) → fnd s.data.toList (s[k + 1].toNat) (e + 1) = fnd s.data.toList (s[k + 1].toNat) (k + 3) from fun hn => by
    rw [← Hf.out, Hu.out, if_pos he, be1.out, be2.out, if_neg hn])
   by_cases hm : s[e].toNat = s[k + 1].toNat
   ·have q1 : ((s[e].toNat : Int) != (s[k + 1].toNat : Int)) = false := by simp; omega
    by_cases hc : s[e + 1].toNat = 93
    ·have q2 : ((s[e + 1].toNat : Int) != 93) = false := by simp; omega
     have Hx := Lib.hid (show fnd s.data.toList (s[k + 1].toNat) (k + 3) = some e by rw [← Hf.out, Hu.out, if_pos he, be1.out, be2.out, if_pos ⟨hm, hc⟩])
     clear hm hc
     have We2 : IntKind.i64.wrap ((e : Int) + 2) = (e : Int) + 2 := IntWalk.i64_in _ (by omega)
     have Hi2 := Lib.hid (show itm s.data.toList k = if e = k + 3 then ⟨oSpan (byt s.data.toList (k + 2)) (byt s.data.toList (k + 2)), decide (s[k + 1].toNat = 46), e + 2, 0, 0⟩ else ⟨oz, false, 0, 6, k⟩ by
      rw [Hi.out, Ho.out, if_pos rfl, Hb1.out, show from1 s.data.toList k = k + 3 by unfold from1; rw [Hb1.out, if_neg H58.out], Hx.out]
      simp only
      unfold boxed
      rw [Hb1.out, if_neg H58.out])
     by_cases he3 : e = k + 3
     ·subst he3
      have hm3 : (((min (k + 3) s.size - (k + 2) : Nat) : Int) != 1) = false := by simp; omega
      go_wp2_with fail
      have hz0 := bext_size s (k + 2) (k + 3) rfl (by omega)
      have hx0 : ((s.extract (k + 2) (k + 3))[0]'hz0).toNat = byt s.data.toList (k + 2) := ext_zero s (k + 2) (k + 3) rfl (by omega)
      generalize s.extract (k + 2) (k + 3) = X at hz0 hx0 ⊢
      have Hs3 := Lib.hid (show itm s.data.toList k = ⟨oSpan ((X[0]'hz0).toNat : Int) ((X[0]'hz0).toNat : Int), decide (s[k + 1].toNat = 46), k + 5, 0, 0⟩ from Hi2.out.trans (by rw [if_pos (by trivial), hx0]))
      clear hx0 hm3
      have We5 : IntKind.i64.wrap ((k : Int) + 3 + 2) = (k : Int) + 5 := by rw [IntWalk.i64_in _ (by omega)]; omega
      go_region_with (first | (go_at_call 93; refine (rspan_any _ _ _ (u8a _) (u8b _) (u8a _) (u8b _)).mono ?_; rintro e w1 ⟨rfl, b1⟩; replace hW := Below.trans (Below.drew hW) (b1.mono hW.size); replace hB := Blk.below (Blk.drew hB) b1 (Blk.lt hB); have f0 := hB.frozen 0; have f1 := hB.frozen 1; have f2 := hB.frozen 2; have f3 := hB.frozen 3; obtain ⟨d0, d1, d2, d3⟩ := zblk_cells hB; have hs := hB.lt))
      all_goals go_wp2_with fail
      all_goals (refine bodyPost_ret (v := itV ⟨oSpan ((X[0]'hz0).toNat : Int) ((X[0]'hz0).toNat : Int), true, k + 5, 0, 0⟩) (by simp [results, Tryz.results104, go_sem, d0, d1, d2, d3, itV, We5]) rfl ⟨ret_it (by rw [Hs3.out, Hk.out]), ?_⟩; repeat (first | exact hW | refine Below.setCell ?_ (by simp) _))
     ·have hm3 : (((min e s.size - (k + 2) : Nat) : Int) != 1) = true := by simp; omega
      have Hk3 := Lib.hid he3
      clear he3
      go_wp2_with fail
      refine bodyPost_ret (v := itV ⟨oz, false, 0, 6, k⟩) (by simp [results, Tryz.results104, go_sem, d0, d1, d2, d3, itV, ow_zero]) rfl ⟨ret_it (by rw [Hi2.out, if_neg Hk3.out]), ?_⟩; repeat (first | exact hW | refine Below.setCell ?_ (by simp) _)
    ·have q2 : ((s[e + 1].toNat : Int) != 93) = true := by simp; omega
     have Hn := Lib.hid (Hs.out fun h => hc h.2)
     clear hm hc
     go_wp2_with fail; refine ⟨⟨e + 1, by omega, by omega, by go_num, Hn.out, hW, hB, hN⟩, by simp [intOf]; omega⟩
   ·have q1 : ((s[e].toNat : Int) != (s[k + 1].toNat : Int)) = true := by simp; omega
    have Hn := Lib.hid (Hs.out fun h => hm h.1)
    clear hm
    go_wp2_with fail; refine ⟨⟨e + 1, by omega, by omega, by go_num, Hn.out, hW, hB, hN⟩, by simp [intOf]; omega⟩
  ·have Hx := Lib.hid (show fnd s.data.toList (s[k + 1].toNat) (k + 3) = none by rw [← Hf.out, Hu.out, if_neg he])
   go_wp2_with fail
   refine bodyPost_ret (v := itV ⟨oz, false, 0, 5, s.size⟩) (by simp [results, Tryz.results104, go_sem, d0, d1, d2, d3, itV, ow_zero]) rfl ⟨ret_it (by rw [Hi.out, Ho.out, if_pos rfl, Hb1.out, show from1 s.data.toList k = k + 3 by unfold from1; rw [Hb1.out, if_neg H58.out], Hx.out]; simp), ?_⟩; repeat (first | exact hW | refine Below.setCell ?_ (by simp) _)
set_option linter.unusedSimpArgs false in
set_option maxRecDepth 100000 in
set_option maxHeartbeats 4000000 in
theorem ritem_any (s : ByteArray) (k : Nat) (w : World) (hs : s.size ≤ 35184372088832) (hk : k ≤ 70368744177664) :
  Calls Tryz.prog 104 #[.string s, .int .i64 (k : Int)] w fun e w' => e = .returned (itV (itm s.data.toList k)) ∧ Below w.heap.size w w' := by
 have hB := (Blk.new w #[.int .u64 0, .int .u64 0, .int .u64 0, .int .u64 0] 33 _ rfl).alloc (.cells #[.int .u64 0, .int .u64 0, .int .u64 0, .int .u64 0] 33); have hN := Blk.new (w.alloc (.cells #[.int .u64 0, .int .u64 0, .int .u64 0, .int .u64 0] 33)) #[.int .u64 0, .int .u64 0, .int .u64 0, .int .u64 0] 33 _ rfl; have hW := ((Below.refl w.heap.size w).alloc (Nat.le_refl _) (.cells #[.int .u64 0, .int .u64 0, .int .u64 0, .int .u64 0] 33)).alloc (by simp) (.cells #[.int .u64 0, .int .u64 0, .int .u64 0, .int .u64 0] 33)
 by_cases hlt : k < s.size
 ·have Hi := Lib.hid (itm_at s k hlt)
  have hb0 := s[k].toNat_lt
  have W1 : IntKind.i64.wrap ((k : Int) + 1) = (k : Int) + 1 := IntWalk.i64_in _ (by omega)
  have hn0 : (0 : Int) ≤ (s[k].toNat : Int) := by omega
  have hn1 : (s[k].toNat : Int) ≤ 255 := by omega
  have hb := Lib.hid (byt_at s k hlt)
  by_cases h91 : s[k].toNat = 91
  ·have h91' : ((s[k].toNat : Int) != 91) = false := by simp; omega
   by_cases h1 : k + 1 < s.size
   ·have g1 : decide ((s.size : Int) ≤ (k : Int) + 1) = false := by simp; omega
    have hb1 := byt_at s (k + 1) h1
    have hc0 := s[k + 1].toNat_lt
    by_cases ho : s[k + 1].toNat = 58 ∨ s[k + 1].toNat = 61 ∨ s[k + 1].toNat = 46
    ·rcases ho with h58 | h61 | h46
     ·exact ritem58 s k w hs hk hlt h1 h91 h58
     ·exact ritem61 s k w hs hk hlt h1 h91 h61
     ·exact ritem46 s k w hs hk hlt h1 h91 h46
    ·have p1 : ((s[k + 1].toNat : Int) != 58) = true := by simp; omega
     have p2 : ((s[k + 1].toNat : Int) != 61) = true := by simp; omega
     have p3 : ((s[k + 1].toNat : Int) != 46) = true := by simp; omega
     have Ho := Lib.hid (show opens s.data.toList k = false by
      unfold opens; rw [hb1, decide_eq_false (show ¬ s[k + 1].toNat = 58 by omega), decide_eq_false (show ¬ s[k + 1].toNat = 61 by omega), decide_eq_false (show ¬ s[k + 1].toNat = 46 by omega)]; simp)
     clear ho hb1 h91
     go_enter Tryz.func104, Tryz.ntmps104; go_wp2_with fail; go_region_with (first | (go_at_call 93; refine (rspan_any _ _ _ hn0 hn1 hn0 hn1).mono ?_; rintro e w1 ⟨rfl, b1⟩; replace hW := Below.trans (Below.drew hW) (b1.mono hW.size); replace hB := Blk.below (Blk.drew hB) b1 (Blk.lt hB); have f0 := hB.frozen 0; have f1 := hB.frozen 1; have f2 := hB.frozen 2; have f3 := hB.frozen 3; obtain ⟨d0, d1, d2, d3⟩ := zblk_cells hB; have hs := hB.lt)); all_goals go_wp2_with fail; all_goals (refine bodyPost_ret (v := itV ⟨oSpan (s[k].toNat : Int) (s[k].toNat : Int), true, k + 1, 0, 0⟩) (by simp [results, Tryz.results104, go_sem, d0, d1, d2, d3, itV, ow_zero]) rfl ⟨ret_it (by rw [Hi.out, Ho.out, hb.out]; rfl), ?_⟩; repeat (first | exact hW | refine Below.setCell ?_ (by simp) _))
   ·have g1 : decide ((s.size : Int) ≤ (k : Int) + 1) = true := by simp; omega
    have Ho := Lib.hid (show opens s.data.toList k = false by unfold opens; rw [decide_eq_false (show ¬ k + 1 < s.data.toList.length by rw [list_size]; exact h1)]; simp)
    clear h91
    go_enter Tryz.func104, Tryz.ntmps104; go_wp2_with fail; go_region_with (first | (go_at_call 93; refine (rspan_any _ _ _ hn0 hn1 hn0 hn1).mono ?_; rintro e w1 ⟨rfl, b1⟩; replace hW := Below.trans (Below.drew hW) (b1.mono hW.size); replace hB := Blk.below (Blk.drew hB) b1 (Blk.lt hB); have f0 := hB.frozen 0; have f1 := hB.frozen 1; have f2 := hB.frozen 2; have f3 := hB.frozen 3; obtain ⟨d0, d1, d2, d3⟩ := zblk_cells hB; have hs := hB.lt)); all_goals go_wp2_with fail; all_goals (refine bodyPost_ret (v := itV ⟨oSpan (s[k].toNat : Int) (s[k].toNat : Int), true, k + 1, 0, 0⟩) (by simp [results, Tryz.results104, go_sem, d0, d1, d2, d3, itV, ow_zero]) rfl ⟨ret_it (by rw [Hi.out, Ho.out, hb.out]; rfl), ?_⟩; repeat (first | exact hW | refine Below.setCell ?_ (by simp) _))
  ·have h91' : ((s[k].toNat : Int) != 91) = true := by simp; omega
   have Ho := Lib.hid (show opens s.data.toList k = false by unfold opens; rw [byt_at s k hlt, decide_eq_false h91]; rfl)
   go_enter Tryz.func104, Tryz.ntmps104; go_wp2_with fail; go_region_with (first | (go_at_call 93; refine (rspan_any _ _ _ hn0 hn1 hn0 hn1).mono ?_; rintro e w1 ⟨rfl, b1⟩; replace hW := Below.trans (Below.drew hW) (b1.mono hW.size); replace hB := Blk.below (Blk.drew hB) b1 (Blk.lt hB); have f0 := hB.frozen 0; have f1 := hB.frozen 1; have f2 := hB.frozen 2; have f3 := hB.frozen 3; obtain ⟨d0, d1, d2, d3⟩ := zblk_cells hB; have hs := hB.lt)); all_goals go_wp2_with fail; all_goals (refine bodyPost_ret (v := itV ⟨oSpan (s[k].toNat : Int) (s[k].toNat : Int), true, k + 1, 0, 0⟩) (by simp [results, Tryz.results104, go_sem, d0, d1, d2, d3, itV, ow_zero]) rfl ⟨ret_it (by rw [Hi.out, Ho.out, hb.out]; rfl), ?_⟩; repeat (first | exact hW | refine Below.setCell ?_ (by simp) _))
 ·have Hi := Lib.hid (show itm s.data.toList k = ⟨oz, false, 0, 5, s.size⟩ by unfold itm; rw [if_pos (by rw [list_size]; omega), list_size])
  go_enter Tryz.func104, Tryz.ntmps104
  go_wp2_with fail
  obtain ⟨d0, d1, d2, d3⟩ := zblk_cells hB
  refine bodyPost_ret (v := itV ⟨oz, false, 0, 5, s.size⟩) (by simp [results, Tryz.results104, go_sem, d0, d1, d2, d3, itV, ow_zero]) rfl ⟨ret_it (by rw [Hi.out]), ?_⟩; repeat (first | exact hW | refine Below.setCell ?_ (by simp) _)
end Go.Proofs.YtkejeiopfblkgaaGreatDoor
namespace Go.Proofs.YtkejeiopfblkgaaGreatDoor
open Go.RowKit
def flat (l : List (Nat × Nat)) : List Value := l.flatMap (fun p => [.int .u8 (p.1 : Int), .int .u8 (p.2 : Int)])
theorem flat_len (l : List (Nat × Nat)) : (flat l).length = l.length * 2 := by
 induction l with
 | nil => rfl
 | cons p l ih =>
  have e : flat (p :: l) = [.int .u8 (p.1 : Int), .int .u8 (p.2 : Int)] ++ flat l := rfl
  rw [e, List.length_append, ih]
  simp
  omega
theorem flat_snoc (l : List (Nat × Nat)) (p : Nat × Nat) : flat (l ++ [p]) = flat l ++ [.int .u8 (p.1 : Int), .int .u8 (p.2 : Int)] := by
 unfold flat
 rw [List.flatMap_append]
 rfl
theorem flat_at (l : List (Nat × Nat)) : ∀ i, ∀ h : i < l.length, (flat l)[i * 2]? = some (.int .u8 ((l[i]).1 : Int)) ∧ (flat l)[i * 2 + 1]? = some (.int .u8 ((l[i]).2 : Int)) := by
 induction l with
 | nil => intro i h; simp at h
 | cons p l ih =>
  have e : flat (p :: l) = .int .u8 (p.1 : Int) :: .int .u8 (p.2 : Int) :: flat l := rfl
  intro i h
  cases i with
  | zero => rw [e]; exact ⟨rfl, rfl⟩
  | succ i =>
   have := ih i (by simpa using h)
   rw [e, show (i + 1) * 2 = i * 2 + 1 + 1 by omega, List.getElem?_cons_succ, List.getElem?_cons_succ, List.getElem?_cons_succ, List.getElem?_cons_succ, List.getElem_cons_succ]
   exact this
theorem own_grow {w : World} {base g cap k : Nat} {e : TypeId} {cur : Array Value} (a : List (Nat × Nat)) (p : Nat × Nat) (hg : base ≤ g) (hh : w.heap[g]? = some (.cells cur e (0, 0))) (hn : (a ++ [p]).length ≤ cap) (hcap : cap ≤ maxLen) (hcs : cur.size = cap * 2)
  (htk : cur.toList.take ((a ++ [p]).length * 2) = flat (a ++ [p])) :
  (w.setCell ⟨g, a.length * 2 + 1, none⟩ (.int .u8 (k : Int))).ownsRow base e 2 (.slice (some ⟨g, 0, none⟩) (a.length + 1) cap) (a.length + 1) (flat (a ++ [(p.1, k)])) := by
 refine ⟨by rw [flat_len]; simp, .inr ⟨g, cap, cur.setIfInBounds (a.length * 2 + 1) (.int .u8 (k : Int)), rfl, hg, ?_, by simpa using hn, hcap, by simpa using hcs, ?_⟩⟩
 ·simp only [World.setCell, Array.getElem?_modify, if_true, hh]
  rfl
 ·rw [Array.toList_setIfInBounds, List.take_set]
  have e2 : (a ++ [p]).length = a.length + 1 := by simp
  rw [e2] at htk
  rw [htk, flat_snoc, flat_snoc, List.set_append_right _ _ (by rw [flat_len]; omega), flat_len]
  rw [show a.length * 2 + 1 - a.length * 2 = 1 by omega]
  rfl
theorem own_ge {w : World} {base : Nat} {e : TypeId} {size : Nat} {v : Value} {n : Nat} {xs : List Value} (h : w.ownsRow base e size v n xs) : ∀ k, v.ownBlock = some k → base ≤ k := by
 obtain ⟨_, h2⟩ := h
 intro k hk
 rcases h2 with ⟨rfl, _⟩ | ⟨g, cap, cur, rfl, hg, _⟩
 ·simp [Value.ownBlock] at hk
 ·simp [Value.ownBlock] at hk; omega
theorem sp_info : (Tryz.prog.info? 193).map (fun i => (i.zero, i.size, i.bytes)) = some (some (.agg #[.int .u8 0, .int .u8 0]), 2, 2) := by kernel_rfl
theorem own_below {w w' : World} {base : Nat} {e : TypeId} {size : Nat} {v : Value} {n : Nat} {xs : List Value} (h : w.ownsRow base e size v n xs) (hb : Below w.heap.size w w') : w'.ownsRow base e size v n xs := by
 obtain ⟨h1, h2⟩ := h
 refine ⟨h1, ?_⟩
 rcases h2 with h2 | ⟨g, cap, cur, a, b, c, d⟩
 ·exact .inl h2
 ·exact .inr ⟨g, cap, cur, a, b, by rw [hb.block g (Array.getElem?_eq_some_iff.1 c).1]; exact c, d⟩
def SpansPost (s : OSet) (w : World) (e : Ending) (w' : World) : Prop :=
 ∃ v, e = .returned v ∧ w'.ownsRow (w.heap.size + 1) 193 2 v (sps s).length (flat (sps s)) ∧ Below w.heap.size w w'
set_option maxRecDepth 100000 in
set_option maxHeartbeats 4000000 in
theorem rspans_any (s : OSet) (w : World) :
  Calls Tryz.prog 125 #[.agg #[.int .u64 (ow s 0), .int .u64 (ow s 1), .int .u64 (ow s 2), .int .u64 (ow s 3)]] w (SpansPost s w) := by
 obtain ⟨i0, hi, hz0, hz1, hz2⟩ := info_parts sp_info
 go_enter Tryz.func125, Tryz.ntmps125
 go_wp2
 go_loopw [3, 5] (fun v i wr => ∃ k : Nat, k ≤ 256 ∧ i = .int .i64 k ∧ wr.ownsRow (w.heap.size + 1) 193 2 v (spTo s k).length (flat (spTo s k)) ∧ Below w.heap.size w wr ∧ Blk wr w.heap.size (oc s) 33) (fun _ i _ => 256 - (intOf i).toNat)
 case atStart =>
  exact ⟨0, by omega, rfl, World.ownsRow_nil _ _ _ _, (Below.refl _ _).alloc (Nat.le_refl _) _, Blk.new _ (oc s) _ _ rfl⟩
 case round =>
  obtain ⟨k, hk, rfl, hown, hbw, hblk⟩ := hrel
  have hsz := hblk.lt
  by_cases hlt : k < 256
  ·obtain ⟨c0, c1, c2, c3⟩ := oblk_cells hblk
   have hlen := spTo_len s k
   go_wp2_with fail
   refine (rhas_any s k (by omega) (by omega) _).mono ?_
   rintro e w1 ⟨rfl, hb1⟩
   rw [show ((k : Int)).toNat = k by omega]
   have hown1 := own_below hown hb1
   have hblk1 := hblk.below hb1 hblk.lt
   have hbw1 := hbw.trans (hb1.mono hbw.size)
   have hsz1 := hblk1.lt
   have Hs := Lib.hid (show spTo s (k + 1) = if ohas s k then (if prv s k then grow1 (spTo s k) k else spTo s k ++ [(k, k)]) else spTo s k from rfl)
   have Hp := Lib.hid (prv_succ s k)
   clear hown hblk hbw c0 c1 c2 c3 hb1
   cases hx : ohas s k
   ·have Hx := Lib.hid hx
    clear hx
    go_wp2
    go_roundw
    case rel => exact ⟨k + 1, by omega, by go_num, by rw [Hs.out, Hx.out]; exact hown1, hbw1, hblk1⟩
    case measure => simp [intOf]; omega
   ·have Hx := Lib.hid hx
    clear hx
    by_cases hk0 : 0 < k
    ·have hpv : ohas s (k - 1) = prv s k := by simp [prv, hk0]
     have Hpv := Lib.hid hpv
     clear hpv
     obtain ⟨c0, c1, c2, c3⟩ := oblk_cells hblk1
     go_wp2_with fail
     refine (rhas_any s ((k : Int) - 1) (by omega) (by omega) _).mono ?_
     rintro e w1 ⟨rfl, hb2⟩
     rw [show ((k : Int) - 1).toNat = k - 1 by omega, Hpv.out]
     replace hown1 := own_below hown1 hb2
     replace hbw1 := hbw1.trans (hb2.mono hbw1.size)
     replace hblk1 := hblk1.below hb2 hblk1.lt
     replace hsz1 := hblk1.lt
     clear c0 c1 c2 c3 hb2
     cases hq : prv s k
     ·have Hq := Lib.hid hq
      clear hq
      go_wp2_with (at_builtin; refine wpList_append_own _ rfl _ _ 194 rfl (w.heap.size + 1) 193 i0 (.agg #[.int .u8 0, .int .u8 0]) 2 2 Tryz.underlying194 hi hz0 hz1 hz2 rfl (by decide) _ _ _ rfl (hown1.alloc _) ⟨w1.heap.size, 0, none⟩ 1 1 [.int .u8 (k : Int), .int .u8 (k : Int)] rfl rfl ?c1 ?c2 ?c3 ?c4 ?c5 ?_)
      case c1 =>
       intro j u hj
       match j, hj with
       | 0, hj => simp at hj; subst hj; simp [Addr.add]
       | 1, hj => simp at hj; subst hj; simp [Addr.add]
      case c2 => intro u hu; simp at hu; subst hu; rfl
      case c3 => unfold maxLen; omega
      case c4 => omega
      case c5 => simp; omega
      ·intro v' w3 hown' hgrow _
       go_wp2
       go_roundw
       case rel =>
        refine ⟨k + 1, by omega, by go_num, ?_, ?_, ?_⟩
        ·rw [Hs.out, Hx.out, Hq.out]
         simp only [if_true, if_false, Bool.false_eq_true]
         rw [List.length_append, flat_snoc]
         exact hown'
        ·exact hbw1.trans (((Below.refl w.heap.size w1).alloc (by omega) _).grown hgrow (by simp; omega) (fun j hj => by have := own_ge hown1 j hj; omega))
        ·exact hblk1.below (((Below.refl (w.heap.size + 1) w1).alloc (by omega) _).grown hgrow (by simp; omega) (own_ge hown1)) (by omega)
       case measure => simp [intOf]; omega
     ·have Hq := Lib.hid hq
      clear hq
      obtain ⟨a, p, hl, hpk⟩ := (spOk s k).last Hq.out
      have Hl := Lib.hid hl
      rw [hl] at hown1 hlen
      clear hl
      obtain ⟨_, hown2⟩ := hown1
      rcases hown2 with ⟨_, hz⟩ | ⟨g, capv, cur, rfl, hg, hh, hn, hcap, hcs, htk⟩
      ·simp at hz
      ·have hfro : ∀ j, w1.frozen? ⟨g, j, none⟩ = false := fun j => by simp [World.frozen?, hh]
       have hlen2 : (a ++ [p]).length = a.length + 1 := by simp
       have hcel : w1.cell? ⟨g, a.length * 2 + 1, none⟩ = some (.int .u8 (p.2 : Int)) := by
        have h1 : w1.cell? ⟨g, a.length * 2 + 1, none⟩ = cur[a.length * 2 + 1]? := by simp [World.cell?, hh]
        have h2 := (flat_at (a ++ [p]) a.length (by simp)).2
        rw [← htk, List.getElem?_take_of_lt (by rw [hlen2]; omega)] at h2
        rw [h1]
        simpa using h2
       have Hg := Lib.hid (own_grow (k := k) a p hg hh hn hcap hcs htk)
       clear htk hcs
       generalize (a ++ [p]).length = n at hn hlen2 hlen ⊢
       subst hlen2
       go_wp2
       refine ⟨⟨k + 1, by omega, by go_num, ?_, hbw1.setCell (by simp; omega) _, hblk1.set_other _ (by simp; omega) _⟩, by simp [intOf]; omega⟩
       have e : spTo s (k + 1) = a ++ [(p.1, k)] := by
        rw [Hs.out, Hx.out, Hq.out]
        simp only [if_true]
        rw [Hl.out, grow1_snoc]
       rw [e, show (a ++ [(p.1, k)]).length = a.length + 1 by simp]
       exact Hg.out
    ·have Hq := Lib.hid (show prv s k = false by simp [prv, hk0])
     go_wp2_with (at_builtin; refine wpList_append_own _ rfl _ _ 194 rfl (w.heap.size + 1) 193 i0 (.agg #[.int .u8 0, .int .u8 0]) 2 2 Tryz.underlying194 hi hz0 hz1 hz2 rfl (by decide) _ _ _ rfl (hown1.alloc _) ⟨w1.heap.size, 0, none⟩ 1 1 [.int .u8 (k : Int), .int .u8 (k : Int)] rfl rfl ?c1 ?c2 ?c3 ?c4 ?c5 ?_)
     case c1 =>
      intro j u hj
      match j, hj with
      | 0, hj => simp at hj; subst hj; simp [Addr.add]
      | 1, hj => simp at hj; subst hj; simp [Addr.add]
     case c2 => intro u hu; simp at hu; subst hu; rfl
     case c3 => unfold maxLen; omega
     case c4 => omega
     case c5 => simp; omega
     ·intro v' w3 hown' hgrow _
      go_wp2
      go_roundw
      case rel =>
       refine ⟨k + 1, by omega, by go_num, ?_, ?_, ?_⟩
       ·rw [Hs.out, Hx.out, Hq.out]
        simp only [if_true, if_false, Bool.false_eq_true]
        rw [List.length_append, flat_snoc]
        exact hown'
       ·exact hbw1.trans (((Below.refl w.heap.size w1).alloc (by omega) _).grown hgrow (by simp; omega) (fun j hj => by have := own_ge hown1 j hj; omega))
       ·exact hblk1.below (((Below.refl (w.heap.size + 1) w1).alloc (by omega) _).grown hgrow (by simp; omega) (own_ge hown1)) (by omega)
      case measure => simp [intOf]; omega
  ·have hk2 : k = 256 := by omega
   subst hk2
   go_wp2
   go_ret
   exact ⟨_, rfl, hown, hbw⟩
end Go.Proofs.YtkejeiopfblkgaaGreatDoor
namespace Go.Proofs.YtkejeiopfblkgaaGreatDoor
open Go.RowKit
structure RowS (g : Nat) (l : List (Nat × Nat)) (w : World) : Prop where
 lt : 0 < l.length → g < w.heap.size
 c1 : ∀ i, ∀ h : i < l.length, w.cell? ⟨g, i * 2, none⟩ = some (.int .u8 ((l[i]).1 : Int))
 c2 : ∀ i, ∀ h : i < l.length, w.cell? ⟨g, i * 2 + 1, none⟩ = some (.int .u8 ((l[i]).2 : Int))
theorem RowS.below {g : Nat} {l : List (Nat × Nat)} {w w' : World} (h : RowS g l w) (hb : Below w.heap.size w w') : RowS g l w' :=
 ⟨fun h0 => Nat.lt_of_lt_of_le (h.lt h0) hb.size, fun i hi => (hb.cell (p := ⟨g, i * 2, none⟩) (h.lt (by omega))).trans (h.c1 i hi), fun i hi => (hb.cell (p := ⟨g, i * 2 + 1, none⟩) (h.lt (by omega))).trans (h.c2 i hi)⟩
theorem own_form {w : World} {B : Nat} {e : TypeId} {v : Value} {l : List (Nat × Nat)} (h : w.ownsRow B e 2 v l.length (flat l)) :
  ∃ a c g, v = .slice a l.length c ∧ (0 < l.length → a = some ⟨g, 0, none⟩) ∧ l.length ≤ c ∧ RowS g l w := by
 obtain ⟨_, h2⟩ := h
 rcases h2 with ⟨rfl, hz⟩ | ⟨g, cap, cur, rfl, hg, hh, hn, hcap, hcs, htk⟩
 ·exact ⟨none, 0, 0, by rw [hz], fun h => by omega, by omega, ⟨fun h => by omega, fun i hi => by omega, fun i hi => by omega⟩⟩
 ·refine ⟨_, cap, g, rfl, fun _ => rfl, hn, ⟨fun _ => (Array.getElem?_eq_some_iff.1 hh).1, fun i hi => ?_, fun i hi => ?_⟩⟩
  ·have h1 : w.cell? ⟨g, i * 2, none⟩ = cur[i * 2]? := by simp [World.cell?, hh]
   have h2 := (flat_at l i hi).1
   rw [← htk, List.getElem?_take_of_lt (by omega)] at h2
   rw [h1]
   simpa using h2
  ·have h1 : w.cell? ⟨g, i * 2 + 1, none⟩ = cur[i * 2 + 1]? := by simp [World.cell?, hh]
   have h2 := (flat_at l i hi).2
   rw [← htk, List.getElem?_take_of_lt (by omega)] at h2
   rw [h1]
   simpa using h2
end Go.Proofs.YtkejeiopfblkgaaGreatDoor
namespace Go.Proofs.YtkejeiopfblkgaaGreatDoor
open Go.RowKit
set_option maxHeartbeats 1000000 in
theorem rleast_any (b : Nat) (hb : b < 256) (w : World) :
  Calls Tryz.prog 105 #[.agg #[.int .u64 (ow (oSpan b b) 0), .int .u64 (ow (oSpan b b) 1), .int .u64 (ow (oSpan b b) 2), .int .u64 (ow (oSpan b b) 3)]] w fun e w' => e = .returned (.int .u8 (b : Int)) ∧ Below w.heap.size w w' := by
 obtain ⟨hne, hl⟩ := lst_one b hb
 have hW := (Below.refl w.heap.size w).alloc (Nat.le_refl _) (.cells (oc (oSpan b b)) 33)
 have hS := oblk_cells (Blk.new w (oc (oSpan b b)) 33 _ rfl)
 obtain ⟨c0, c1, c2, c3⟩ := hS
 obtain ⟨p, l, hs⟩ : ∃ p l, sps (oSpan b b) = p :: l := by
  cases h : sps (oSpan b b) with
  | nil => exact absurd h hne
  | cons p l => exact ⟨p, l, rfl⟩
 have hp : p.1 = b := by
  unfold lst at hl
  rw [hs] at hl
  exact hl
 have Hs := Lib.hid hs
 clear hs hl hne
 go_enter Tryz.func105, Tryz.ntmps105
 go_wp2_with (go_at_call 125; refine (rspans_any _ _).mono ?_)
 rintro e w1 ⟨v, rfl, hown, b1⟩
 rw [Hs.out] at hown
 obtain ⟨a, cap, g, rfl, ha, hc, hr⟩ := own_form hown
 obtain rfl := ha (by simp)
 have z := hr.c1 0 (by simp)
 simp only [Nat.zero_mul, List.getElem_cons_zero, hp] at z
 replace hW := hW.trans (b1.mono hW.size)
 clear hown hr ha b1 hp
 have hn : 0 < (p :: l).length := by simp
 generalize (p :: l).length = n at hc hn ⊢
 go_wp2_with fail
 go_ret
 exact ⟨rfl, hW⟩
end Go.Proofs.YtkejeiopfblkgaaGreatDoor
