/- The document's own answer for bracket expressions, walked: what stands at a place. -/
import Derived.Test.YtehikndlcepkgaaDoorOctRClass
import Derived.Test.YtehikndlcepkgaaDoorBrMath
import Derived.BigQuiet
import Derived.Deep.QuietTactic
namespace Go.Proofs.YtehikndlcepkgaaDoor
open Go.RowKit

theorem byt_at (s : ByteArray) (k : Nat) (h : k < s.size) : byt s.data.toList k = s[k].toNat := by
  unfold byt
  rw [List.getD_eq_getElem?_getD, List.getElem?_eq_getElem (by simpa using h)]
  rfl
theorem fnd_unfold (s : ByteArray) (kind e : Nat) : fnd s.data.toList kind e = if e + 1 < s.size then (if byt s.data.toList e = kind ∧ byt s.data.toList (e + 1) = 93 then some e else fnd s.data.toList kind (e + 1)) else none := by
  rw [fnd]; simp
theorem extract_sub (s : ByteArray) (i j : Nat) : (s.extract i j).toList = sub s.data.toList i j := by
  rw [ByteArray.toList_eq, ByteArray.data_extract, Array.toList_extract, List.extract_eq_take_drop]
  rfl
theorem ext_size (s : ByteArray) (i j : Nat) (hj : j = i + 1) (h : i < s.size) : 0 < (s.extract i j).size := by
  subst hj; simp; omega
theorem ext_zero (s : ByteArray) (i j : Nat) (hj : j = i + 1) (h : i < s.size) : ((s.extract i j)[0]'(ext_size s i j hj h)).toNat = byt s.data.toList i := by
  subst hj
  rw [byt_at s i h, ByteArray.getElem_extract]
  rfl
theorem list_size (s : ByteArray) : s.data.toList.length = s.size := by simp

theorem itm_at (s : ByteArray) (k : Nat) (hlt : k < s.size) : itm s.data.toList k = if opens s.data.toList k then (match fnd s.data.toList (byt s.data.toList (k + 1)) (from1 s.data.toList k) with
      | some e => boxed s.data.toList k e
      | none => ⟨oz, false, 0, 5, s.data.toList.length⟩)
      else ⟨oSpan (byt s.data.toList k) (byt s.data.toList k), true, k + 1, 0, 0⟩ := by
  unfold itm
  rw [if_neg (by rw [list_size]; omega)]
  rfl
theorem u8a (b : UInt8) : (0 : Int) ≤ (b.toNat : Int) := Int.natCast_nonneg _
theorem u8b (b : UInt8) : (b.toNat : Int) ≤ 255 := by have := b.toNat_lt; omega
/-- What item answers. -/
def itV (a : Itm) : Value := .tuple #[.agg #[.int .u64 (ow a.set 0), .int .u64 (ow a.set 1), .int .u64 (ow a.set 2), .int .u64 (ow a.set 3)], .bool a.may, .int .i64 (a.next : Int), .int .i64 (a.err : Int), .int .i64 (a.place : Int)]
theorem ret_it {a b : Itm} (h : a = b) : Ending.returned (itV a) = .returned (itV b) := by rw [h]
set_option linter.unusedSimpArgs false in
set_option maxRecDepth 100000 in
set_option maxHeartbeats 4000000 in
theorem ritem58 (s : ByteArray) (k : Nat) (w : World) (hs : s.size ≤ 35184372088832) (hk : k ≤ 70368744177664) (hlt : k < s.size) (h1 : k + 1 < s.size) (h91 : s[k].toNat = 91) (h58 : s[k + 1].toNat = 58) :
    Calls Tryd.prog 19 #[.string s, .int .i64 (k : Int)] w fun e w' => e = .returned (itV (itm s.data.toList k)) ∧ Below w.heap.size w w' := by
  have hB := (Blk.new w #[.int .u64 0, .int .u64 0, .int .u64 0, .int .u64 0] 29 _ rfl).alloc (.cells #[.int .u64 0, .int .u64 0, .int .u64 0, .int .u64 0] 29); have hN := Blk.new (w.alloc (.cells #[.int .u64 0, .int .u64 0, .int .u64 0, .int .u64 0] 29)) #[.int .u64 0, .int .u64 0, .int .u64 0, .int .u64 0] 29 _ rfl; have hW := ((Below.refl w.heap.size w).alloc (Nat.le_refl _) (.cells #[.int .u64 0, .int .u64 0, .int .u64 0, .int .u64 0] 29)).alloc (by simp) (.cells #[.int .u64 0, .int .u64 0, .int .u64 0, .int .u64 0] 29)
  have Hi := Lib.hid (itm_at s k hlt)
  have hb0 := s[k].toNat_lt
  have W1 : IntKind.i64.wrap ((k : Int) + 1) = (k : Int) + 1 := IntWalk.i64_in _ (by omega)
  have h91' : ((s[k].toNat : Int) != 91) = false := by simp; omega
  have g1 : decide ((s.size : Int) ≤ (k : Int) + 1) = false := by simp; omega
  have hb1 := byt_at s (k + 1) h1
  have hc0 := s[k + 1].toNat_lt
  have hc1 : (s[k + 1].toNat : Int) ≤ 255 := by omega
  have Ho := Lib.hid (show opens s.data.toList k = true by
    unfold opens; rw [byt_at s k hlt, hb1, h91, decide_eq_true (show k + 1 < s.data.toList.length by rw [list_size]; exact h1), h58]; rfl)
  have Hb1 := Lib.hid hb1
  clear h91 hb1
  have H58 := Lib.hid h58
  have p1 : ((s[k + 1].toNat : Int) != 58) = false := by simp; omega
  have p4 : ((s[k + 1].toNat : Int) == 58) = true := by simp; omega
  clear h58
  have W2 : IntKind.i64.wrap ((k : Int) + 2) = (k : Int) + 2 := IntWalk.i64_in _ (by omega)
  go_enter Tryd.func19, Tryd.ntmps19
  go_wp2_with fail
  go_loopw [12] (fun i wr => ∃ e : Nat, k + 2 ≤ e ∧ e ≤ s.size + 1 ∧ i = .int .i64 e ∧ fnd s.data.toList (s[k + 1].toNat) e = fnd s.data.toList (s[k + 1].toNat) (k + 2) ∧ Below w.heap.size w wr ∧ Blk wr w.heap.size #[.int .u64 0, .int .u64 0, .int .u64 0, .int .u64 0] 29 ∧ Blk wr (w.heap.size + 1) #[.int .u64 0, .int .u64 0, .int .u64 0, .int .u64 0] 29) (fun i _ => s.size + 2 - (intOf i).toNat)
  case atStart => exact ⟨k + 2, by omega, by omega, rfl, rfl, hW, hB, by simpa using hN⟩
  case round =>
    clear hW hB hN
    obtain ⟨e, he0, he1, rfl, hf, hW, hB, hN⟩ := hrel
    have Hf := Lib.hid hf
    have Hu := Lib.hid (fnd_unfold s (s[k + 1].toNat) e)
    clear hf
    have We := IntWalk.i64_in ((e : Int) + 1) (by omega)
    obtain ⟨n0, n1, n2, n3⟩ := zblk_cells hN
    obtain ⟨d0, d1, d2, d3⟩ := zblk_cells hB
    have f0 := hB.frozen 0
    have f1 := hB.frozen 1
    have f2 := hB.frozen 2
    have f3 := hB.frozen 3
    by_cases he : e + 1 < s.size
    · have be1 := Lib.hid (byt_at s e (by omega))
      have be2 := Lib.hid (byt_at s (e + 1) he)
      have Hs := Lib.hid (show ¬ (s[e].toNat = s[k + 1].toNat ∧ s[e + 1].toNat = 93) → fnd s.data.toList (s[k + 1].toNat) (e + 1) = fnd s.data.toList (s[k + 1].toNat) (k + 2) from fun hn => by
        rw [← Hf.out, Hu.out, if_pos he, be1.out, be2.out, if_neg hn])
      by_cases hm : s[e].toNat = s[k + 1].toNat
      · have q1 : ((s[e].toNat : Int) != (s[k + 1].toNat : Int)) = false := by simp; omega
        by_cases hc : s[e + 1].toNat = 93
        · have q2 : ((s[e + 1].toNat : Int) != 93) = false := by simp; omega
          have Hx := Lib.hid (show fnd s.data.toList (s[k + 1].toNat) (k + 2) = some e by rw [← Hf.out, Hu.out, if_pos he, be1.out, be2.out, if_pos ⟨hm, hc⟩])
          have Hc := Lib.hid (extract_sub s (k + 2) e)
          clear hm hc
          have We2 : IntKind.i64.wrap ((e : Int) + 2) = (e : Int) + 2 := IntWalk.i64_in _ (by omega)
          have Hi2 := Lib.hid (show itm s.data.toList k = if clsOk (sub s.data.toList (k + 2) e) then ⟨clsSet (sub s.data.toList (k + 2) e), false, e + 2, 0, 0⟩ else ⟨oz, false, 0, 6, k⟩ by
            rw [Hi.out, Ho.out, if_pos rfl, Hb1.out, show from1 s.data.toList k = k + 2 by unfold from1; rw [Hb1.out, H58.out]; rfl, Hx.out]
            simp only
            unfold boxed
            rw [Hb1.out, if_pos H58.out])
          go_wp2_with fail
          refine (rclass_any _ _).mono ?_
          rintro e' w' ⟨hv, bX⟩
          rw [Hc.out] at hv
          subst hv
          replace hW := Below.trans hW (bX.mono hW.size)
          replace hB := Blk.below hB bX (Blk.lt hB)
          replace hN := Blk.below hN bX (Blk.lt hN)
          clear bX d0 d1 d2 d3 n0 n1 n2 n3 f0 f1 f2 f3
          obtain ⟨d0, d1, d2, d3⟩ := zblk_cells hB
          obtain ⟨n0, n1, n2, n3⟩ := zblk_cells hN
          have f0 := hB.frozen 0
          have f1 := hB.frozen 1
          have f2 := hB.frozen 2
          have f3 := hB.frozen 3
          have hlB := hB.lt
          have hlN := hN.lt
          generalize clsSet (sub s.data.toList (k + 2) e) = cs at Hi2 ⊢
          cases hok : clsOk (sub s.data.toList (k + 2) e)
          · have Hok := Lib.hid hok
            clear hok
            go_wp2_with fail
            refine bodyPost_ret (v := itV ⟨oz, false, 0, 6, k⟩) (by simp [results, Tryd.results19, go_sem, d0, d1, d2, d3, itV, ow_zero, hlB]) rfl ⟨ret_it (by rw [Hi2.out, Hok.out]; rfl), ?_⟩; repeat (first | exact hW | refine Below.setCell ?_ (by simp) _ | refine Below.alloc ?_ (by simp; omega) _)
          · have Hok := Lib.hid hok
            clear hok
            go_wp2_with fail
            refine bodyPost_ret (v := itV ⟨cs, false, e + 2, 0, 0⟩) (by simp [results, Tryd.results19, go_sem, d0, d1, d2, d3, itV, ow_zero, hlB]) rfl ⟨ret_it (by rw [Hi2.out, Hok.out]; rfl), ?_⟩; repeat (first | exact hW | refine Below.setCell ?_ (by simp) _ | refine Below.alloc ?_ (by simp; omega) _)
        · have q2 : ((s[e + 1].toNat : Int) != 93) = true := by simp; omega
          have Hn := Lib.hid (Hs.out fun h => hc h.2)
          clear hm hc
          go_wp2_with fail; refine ⟨⟨e + 1, by omega, by omega, by go_num, Hn.out, hW, hB, hN⟩, by simp [intOf]; omega⟩
      · have q1 : ((s[e].toNat : Int) != (s[k + 1].toNat : Int)) = true := by simp; omega
        have Hn := Lib.hid (Hs.out fun h => hm h.1)
        clear hm
        go_wp2_with fail; refine ⟨⟨e + 1, by omega, by omega, by go_num, Hn.out, hW, hB, hN⟩, by simp [intOf]; omega⟩
    · have Hx := Lib.hid (show fnd s.data.toList (s[k + 1].toNat) (k + 2) = none by rw [← Hf.out, Hu.out, if_neg he])
      go_wp2_with fail
      refine bodyPost_ret (v := itV ⟨oz, false, 0, 5, s.size⟩) (by simp [results, Tryd.results19, go_sem, d0, d1, d2, d3, itV, ow_zero]) rfl ⟨ret_it (by rw [Hi.out, Ho.out, if_pos rfl, Hb1.out, show from1 s.data.toList k = k + 2 by unfold from1; rw [Hb1.out, H58.out]; rfl, Hx.out]; simp), ?_⟩; repeat (first | exact hW | refine Below.setCell ?_ (by simp) _)
set_option linter.unusedSimpArgs false in
set_option maxRecDepth 100000 in
set_option maxHeartbeats 4000000 in
theorem ritem61 (s : ByteArray) (k : Nat) (w : World) (hs : s.size ≤ 35184372088832) (hk : k ≤ 70368744177664) (hlt : k < s.size) (h1 : k + 1 < s.size) (h91 : s[k].toNat = 91) (h61 : s[k + 1].toNat = 61) :
    Calls Tryd.prog 19 #[.string s, .int .i64 (k : Int)] w fun e w' => e = .returned (itV (itm s.data.toList k)) ∧ Below w.heap.size w w' := by
  have hB := (Blk.new w #[.int .u64 0, .int .u64 0, .int .u64 0, .int .u64 0] 29 _ rfl).alloc (.cells #[.int .u64 0, .int .u64 0, .int .u64 0, .int .u64 0] 29); have hN := Blk.new (w.alloc (.cells #[.int .u64 0, .int .u64 0, .int .u64 0, .int .u64 0] 29)) #[.int .u64 0, .int .u64 0, .int .u64 0, .int .u64 0] 29 _ rfl; have hW := ((Below.refl w.heap.size w).alloc (Nat.le_refl _) (.cells #[.int .u64 0, .int .u64 0, .int .u64 0, .int .u64 0] 29)).alloc (by simp) (.cells #[.int .u64 0, .int .u64 0, .int .u64 0, .int .u64 0] 29)
  have Hi := Lib.hid (itm_at s k hlt)
  have hb0 := s[k].toNat_lt
  have W1 : IntKind.i64.wrap ((k : Int) + 1) = (k : Int) + 1 := IntWalk.i64_in _ (by omega)
  have h91' : ((s[k].toNat : Int) != 91) = false := by simp; omega
  have g1 : decide ((s.size : Int) ≤ (k : Int) + 1) = false := by simp; omega
  have hb1 := byt_at s (k + 1) h1
  have hc0 := s[k + 1].toNat_lt
  have hc1 : (s[k + 1].toNat : Int) ≤ 255 := by omega
  have Ho := Lib.hid (show opens s.data.toList k = true by
    unfold opens; rw [byt_at s k hlt, hb1, h91, decide_eq_true (show k + 1 < s.data.toList.length by rw [list_size]; exact h1), h61]; rfl)
  have Hb1 := Lib.hid hb1
  clear h91 hb1
  have h58 : ¬ s[k + 1].toNat = 58 := by omega
  have p1 : ((s[k + 1].toNat : Int) != 58) = true := by simp; omega
  have p4 : ((s[k + 1].toNat : Int) == 58) = false := by simp; omega
  have H58 := Lib.hid h58
  have p2 : ((s[k + 1].toNat : Int) != 61) = false := by simp; omega
  have p6 : ((s[k + 1].toNat : Int) == 46) = false := by simp; omega
  have Hk := Lib.hid (show decide (s[k + 1].toNat = 46) = false by simp; omega)
  clear h61 h58
  have W3 : IntKind.i64.wrap ((k : Int) + 3) = (k : Int) + 3 := IntWalk.i64_in _ (by omega)
  have W2 : IntKind.i64.wrap ((k : Int) + 2) = (k : Int) + 2 := IntWalk.i64_in _ (by omega)
  go_enter Tryd.func19, Tryd.ntmps19
  go_wp2_with fail
  go_loopw [12] (fun i wr => ∃ e : Nat, k + 3 ≤ e ∧ e ≤ s.size + 1 ∧ i = .int .i64 e ∧ fnd s.data.toList (s[k + 1].toNat) e = fnd s.data.toList (s[k + 1].toNat) (k + 3) ∧ Below w.heap.size w wr ∧ Blk wr w.heap.size #[.int .u64 0, .int .u64 0, .int .u64 0, .int .u64 0] 29 ∧ Blk wr (w.heap.size + 1) #[.int .u64 0, .int .u64 0, .int .u64 0, .int .u64 0] 29) (fun i _ => s.size + 2 - (intOf i).toNat)
  case atStart => exact ⟨k + 3, by omega, by omega, rfl, rfl, hW, hB, by simpa using hN⟩
  case round =>
    clear hW hB hN
    obtain ⟨e, he0, he1, rfl, hf, hW, hB, hN⟩ := hrel
    have Hf := Lib.hid hf
    have Hu := Lib.hid (fnd_unfold s (s[k + 1].toNat) e)
    clear hf
    have We := IntWalk.i64_in ((e : Int) + 1) (by omega)
    obtain ⟨n0, n1, n2, n3⟩ := zblk_cells hN
    obtain ⟨d0, d1, d2, d3⟩ := zblk_cells hB
    have f0 := hB.frozen 0
    have f1 := hB.frozen 1
    have f2 := hB.frozen 2
    have f3 := hB.frozen 3
    by_cases he : e + 1 < s.size
    · have be1 := Lib.hid (byt_at s e (by omega))
      have be2 := Lib.hid (byt_at s (e + 1) he)
      have Hs := Lib.hid (show ¬ (s[e].toNat = s[k + 1].toNat ∧ s[e + 1].toNat = 93) → fnd s.data.toList (s[k + 1].toNat) (e + 1) = fnd s.data.toList (s[k + 1].toNat) (k + 3) from fun hn => by
        rw [← Hf.out, Hu.out, if_pos he, be1.out, be2.out, if_neg hn])
      by_cases hm : s[e].toNat = s[k + 1].toNat
      · have q1 : ((s[e].toNat : Int) != (s[k + 1].toNat : Int)) = false := by simp; omega
        by_cases hc : s[e + 1].toNat = 93
        · have q2 : ((s[e + 1].toNat : Int) != 93) = false := by simp; omega
          have Hx := Lib.hid (show fnd s.data.toList (s[k + 1].toNat) (k + 3) = some e by rw [← Hf.out, Hu.out, if_pos he, be1.out, be2.out, if_pos ⟨hm, hc⟩])
          clear hm hc
          have We2 : IntKind.i64.wrap ((e : Int) + 2) = (e : Int) + 2 := IntWalk.i64_in _ (by omega)
          have Hi2 := Lib.hid (show itm s.data.toList k = if e = k + 3 then ⟨oSpan (byt s.data.toList (k + 2)) (byt s.data.toList (k + 2)), decide (s[k + 1].toNat = 46), e + 2, 0, 0⟩ else ⟨oz, false, 0, 6, k⟩ by
            rw [Hi.out, Ho.out, if_pos rfl, Hb1.out, show from1 s.data.toList k = k + 3 by unfold from1; rw [Hb1.out, if_neg H58.out], Hx.out]
            simp only
            unfold boxed
            rw [Hb1.out, if_neg H58.out])
          by_cases he3 : e = k + 3
          · subst he3
            have hm3 : (((min (k + 3) s.size - (k + 2) : Nat) : Int) != 1) = false := by simp; omega
            go_wp2_with fail
            have hz0 := ext_size s (k + 2) (k + 3) rfl (by omega)
            have hx0 : ((s.extract (k + 2) (k + 3))[0]'hz0).toNat = byt s.data.toList (k + 2) := ext_zero s (k + 2) (k + 3) rfl (by omega)
            generalize s.extract (k + 2) (k + 3) = X at hz0 hx0 ⊢
            have Hs3 := Lib.hid (show itm s.data.toList k = ⟨oSpan ((X[0]'hz0).toNat : Int) ((X[0]'hz0).toNat : Int), decide (s[k + 1].toNat = 46), k + 5, 0, 0⟩ from Hi2.out.trans (by rw [if_pos (by trivial), hx0]))
            clear hx0 hm3
            have We5 : IntKind.i64.wrap ((k : Int) + 3 + 2) = (k : Int) + 5 := by rw [IntWalk.i64_in _ (by omega)]; omega
            go_region_with (first | (go_at_call 21; refine (rspan_any _ _ _ (u8a _) (u8b _) (u8a _) (u8b _)).mono ?_; rintro e w1 ⟨rfl, b1⟩; replace hW := Below.trans (Below.drew hW) (b1.mono hW.size); replace hB := Blk.below (Blk.drew hB) b1 (Blk.lt hB); have f0 := hB.frozen 0; have f1 := hB.frozen 1; have f2 := hB.frozen 2; have f3 := hB.frozen 3; obtain ⟨d0, d1, d2, d3⟩ := zblk_cells hB; have hs := hB.lt))
            all_goals go_wp2_with fail
            all_goals (refine bodyPost_ret (v := itV ⟨oSpan ((X[0]'hz0).toNat : Int) ((X[0]'hz0).toNat : Int), false, k + 5, 0, 0⟩) (by simp [results, Tryd.results19, go_sem, d0, d1, d2, d3, itV, We5]) rfl ⟨ret_it (by rw [Hs3.out, Hk.out]), ?_⟩; repeat (first | exact hW | refine Below.setCell ?_ (by simp) _))
          · have hm3 : (((min e s.size - (k + 2) : Nat) : Int) != 1) = true := by simp; omega
            have Hk3 := Lib.hid he3
            clear he3
            go_wp2_with fail
            refine bodyPost_ret (v := itV ⟨oz, false, 0, 6, k⟩) (by simp [results, Tryd.results19, go_sem, d0, d1, d2, d3, itV, ow_zero]) rfl ⟨ret_it (by rw [Hi2.out, if_neg Hk3.out]), ?_⟩; repeat (first | exact hW | refine Below.setCell ?_ (by simp) _)
        · have q2 : ((s[e + 1].toNat : Int) != 93) = true := by simp; omega
          have Hn := Lib.hid (Hs.out fun h => hc h.2)
          clear hm hc
          go_wp2_with fail; refine ⟨⟨e + 1, by omega, by omega, by go_num, Hn.out, hW, hB, hN⟩, by simp [intOf]; omega⟩
      · have q1 : ((s[e].toNat : Int) != (s[k + 1].toNat : Int)) = true := by simp; omega
        have Hn := Lib.hid (Hs.out fun h => hm h.1)
        clear hm
        go_wp2_with fail; refine ⟨⟨e + 1, by omega, by omega, by go_num, Hn.out, hW, hB, hN⟩, by simp [intOf]; omega⟩
    · have Hx := Lib.hid (show fnd s.data.toList (s[k + 1].toNat) (k + 3) = none by rw [← Hf.out, Hu.out, if_neg he])
      go_wp2_with fail
      refine bodyPost_ret (v := itV ⟨oz, false, 0, 5, s.size⟩) (by simp [results, Tryd.results19, go_sem, d0, d1, d2, d3, itV, ow_zero]) rfl ⟨ret_it (by rw [Hi.out, Ho.out, if_pos rfl, Hb1.out, show from1 s.data.toList k = k + 3 by unfold from1; rw [Hb1.out, if_neg H58.out], Hx.out]; simp), ?_⟩; repeat (first | exact hW | refine Below.setCell ?_ (by simp) _)
set_option linter.unusedSimpArgs false in
set_option maxRecDepth 100000 in
set_option maxHeartbeats 4000000 in
theorem ritem46 (s : ByteArray) (k : Nat) (w : World) (hs : s.size ≤ 35184372088832) (hk : k ≤ 70368744177664) (hlt : k < s.size) (h1 : k + 1 < s.size) (h91 : s[k].toNat = 91) (h46 : s[k + 1].toNat = 46) :
    Calls Tryd.prog 19 #[.string s, .int .i64 (k : Int)] w fun e w' => e = .returned (itV (itm s.data.toList k)) ∧ Below w.heap.size w w' := by
  have hB := (Blk.new w #[.int .u64 0, .int .u64 0, .int .u64 0, .int .u64 0] 29 _ rfl).alloc (.cells #[.int .u64 0, .int .u64 0, .int .u64 0, .int .u64 0] 29); have hN := Blk.new (w.alloc (.cells #[.int .u64 0, .int .u64 0, .int .u64 0, .int .u64 0] 29)) #[.int .u64 0, .int .u64 0, .int .u64 0, .int .u64 0] 29 _ rfl; have hW := ((Below.refl w.heap.size w).alloc (Nat.le_refl _) (.cells #[.int .u64 0, .int .u64 0, .int .u64 0, .int .u64 0] 29)).alloc (by simp) (.cells #[.int .u64 0, .int .u64 0, .int .u64 0, .int .u64 0] 29)
  have Hi := Lib.hid (itm_at s k hlt)
  have hb0 := s[k].toNat_lt
  have W1 : IntKind.i64.wrap ((k : Int) + 1) = (k : Int) + 1 := IntWalk.i64_in _ (by omega)
  have h91' : ((s[k].toNat : Int) != 91) = false := by simp; omega
  have g1 : decide ((s.size : Int) ≤ (k : Int) + 1) = false := by simp; omega
  have hb1 := byt_at s (k + 1) h1
  have hc0 := s[k + 1].toNat_lt
  have hc1 : (s[k + 1].toNat : Int) ≤ 255 := by omega
  have Ho := Lib.hid (show opens s.data.toList k = true by
    unfold opens; rw [byt_at s k hlt, hb1, h91, decide_eq_true (show k + 1 < s.data.toList.length by rw [list_size]; exact h1), h46]; rfl)
  have Hb1 := Lib.hid hb1
  clear h91 hb1
  have h58 : ¬ s[k + 1].toNat = 58 := by omega
  have p1 : ((s[k + 1].toNat : Int) != 58) = true := by simp; omega
  have p4 : ((s[k + 1].toNat : Int) == 58) = false := by simp; omega
  have H58 := Lib.hid h58
  have p2 : ((s[k + 1].toNat : Int) != 61) = true := by simp; omega
  have p3 : ((s[k + 1].toNat : Int) != 46) = false := by simp; omega
  have p6 : ((s[k + 1].toNat : Int) == 46) = true := by simp; omega
  have Hk := Lib.hid (show decide (s[k + 1].toNat = 46) = true by simp; omega)
  clear h46 h58
  have W3 : IntKind.i64.wrap ((k : Int) + 3) = (k : Int) + 3 := IntWalk.i64_in _ (by omega)
  have W2 : IntKind.i64.wrap ((k : Int) + 2) = (k : Int) + 2 := IntWalk.i64_in _ (by omega)
  go_enter Tryd.func19, Tryd.ntmps19
  go_wp2_with fail
  go_loopw [12] (fun i wr => ∃ e : Nat, k + 3 ≤ e ∧ e ≤ s.size + 1 ∧ i = .int .i64 e ∧ fnd s.data.toList (s[k + 1].toNat) e = fnd s.data.toList (s[k + 1].toNat) (k + 3) ∧ Below w.heap.size w wr ∧ Blk wr w.heap.size #[.int .u64 0, .int .u64 0, .int .u64 0, .int .u64 0] 29 ∧ Blk wr (w.heap.size + 1) #[.int .u64 0, .int .u64 0, .int .u64 0, .int .u64 0] 29) (fun i _ => s.size + 2 - (intOf i).toNat)
  case atStart => exact ⟨k + 3, by omega, by omega, rfl, rfl, hW, hB, by simpa using hN⟩
  case round =>
    clear hW hB hN
    obtain ⟨e, he0, he1, rfl, hf, hW, hB, hN⟩ := hrel
    have Hf := Lib.hid hf
    have Hu := Lib.hid (fnd_unfold s (s[k + 1].toNat) e)
    clear hf
    have We := IntWalk.i64_in ((e : Int) + 1) (by omega)
    obtain ⟨n0, n1, n2, n3⟩ := zblk_cells hN
    obtain ⟨d0, d1, d2, d3⟩ := zblk_cells hB
    have f0 := hB.frozen 0
    have f1 := hB.frozen 1
    have f2 := hB.frozen 2
    have f3 := hB.frozen 3
    by_cases he : e + 1 < s.size
    · have be1 := Lib.hid (byt_at s e (by omega))
      have be2 := Lib.hid (byt_at s (e + 1) he)
      have Hs := Lib.hid (show ¬ (s[e].toNat = s[k + 1].toNat ∧ s[e + 1].toNat = 93) → fnd s.data.toList (s[k + 1].toNat) (e + 1) = fnd s.data.toList (s[k + 1].toNat) (k + 3) from fun hn => by
        rw [← Hf.out, Hu.out, if_pos he, be1.out, be2.out, if_neg hn])
      by_cases hm : s[e].toNat = s[k + 1].toNat
      · have q1 : ((s[e].toNat : Int) != (s[k + 1].toNat : Int)) = false := by simp; omega
        by_cases hc : s[e + 1].toNat = 93
        · have q2 : ((s[e + 1].toNat : Int) != 93) = false := by simp; omega
          have Hx := Lib.hid (show fnd s.data.toList (s[k + 1].toNat) (k + 3) = some e by rw [← Hf.out, Hu.out, if_pos he, be1.out, be2.out, if_pos ⟨hm, hc⟩])
          clear hm hc
          have We2 : IntKind.i64.wrap ((e : Int) + 2) = (e : Int) + 2 := IntWalk.i64_in _ (by omega)
          have Hi2 := Lib.hid (show itm s.data.toList k = if e = k + 3 then ⟨oSpan (byt s.data.toList (k + 2)) (byt s.data.toList (k + 2)), decide (s[k + 1].toNat = 46), e + 2, 0, 0⟩ else ⟨oz, false, 0, 6, k⟩ by
            rw [Hi.out, Ho.out, if_pos rfl, Hb1.out, show from1 s.data.toList k = k + 3 by unfold from1; rw [Hb1.out, if_neg H58.out], Hx.out]
            simp only
            unfold boxed
            rw [Hb1.out, if_neg H58.out])
          by_cases he3 : e = k + 3
          · subst he3
            have hm3 : (((min (k + 3) s.size - (k + 2) : Nat) : Int) != 1) = false := by simp; omega
            go_wp2_with fail
            have hz0 := ext_size s (k + 2) (k + 3) rfl (by omega)
            have hx0 : ((s.extract (k + 2) (k + 3))[0]'hz0).toNat = byt s.data.toList (k + 2) := ext_zero s (k + 2) (k + 3) rfl (by omega)
            generalize s.extract (k + 2) (k + 3) = X at hz0 hx0 ⊢
            have Hs3 := Lib.hid (show itm s.data.toList k = ⟨oSpan ((X[0]'hz0).toNat : Int) ((X[0]'hz0).toNat : Int), decide (s[k + 1].toNat = 46), k + 5, 0, 0⟩ from Hi2.out.trans (by rw [if_pos (by trivial), hx0]))
            clear hx0 hm3
            have We5 : IntKind.i64.wrap ((k : Int) + 3 + 2) = (k : Int) + 5 := by rw [IntWalk.i64_in _ (by omega)]; omega
            go_region_with (first | (go_at_call 21; refine (rspan_any _ _ _ (u8a _) (u8b _) (u8a _) (u8b _)).mono ?_; rintro e w1 ⟨rfl, b1⟩; replace hW := Below.trans (Below.drew hW) (b1.mono hW.size); replace hB := Blk.below (Blk.drew hB) b1 (Blk.lt hB); have f0 := hB.frozen 0; have f1 := hB.frozen 1; have f2 := hB.frozen 2; have f3 := hB.frozen 3; obtain ⟨d0, d1, d2, d3⟩ := zblk_cells hB; have hs := hB.lt))
            all_goals go_wp2_with fail
            all_goals (refine bodyPost_ret (v := itV ⟨oSpan ((X[0]'hz0).toNat : Int) ((X[0]'hz0).toNat : Int), true, k + 5, 0, 0⟩) (by simp [results, Tryd.results19, go_sem, d0, d1, d2, d3, itV, We5]) rfl ⟨ret_it (by rw [Hs3.out, Hk.out]), ?_⟩; repeat (first | exact hW | refine Below.setCell ?_ (by simp) _))
          · have hm3 : (((min e s.size - (k + 2) : Nat) : Int) != 1) = true := by simp; omega
            have Hk3 := Lib.hid he3
            clear he3
            go_wp2_with fail
            refine bodyPost_ret (v := itV ⟨oz, false, 0, 6, k⟩) (by simp [results, Tryd.results19, go_sem, d0, d1, d2, d3, itV, ow_zero]) rfl ⟨ret_it (by rw [Hi2.out, if_neg Hk3.out]), ?_⟩; repeat (first | exact hW | refine Below.setCell ?_ (by simp) _)
        · have q2 : ((s[e + 1].toNat : Int) != 93) = true := by simp; omega
          have Hn := Lib.hid (Hs.out fun h => hc h.2)
          clear hm hc
          go_wp2_with fail; refine ⟨⟨e + 1, by omega, by omega, by go_num, Hn.out, hW, hB, hN⟩, by simp [intOf]; omega⟩
      · have q1 : ((s[e].toNat : Int) != (s[k + 1].toNat : Int)) = true := by simp; omega
        have Hn := Lib.hid (Hs.out fun h => hm h.1)
        clear hm
        go_wp2_with fail; refine ⟨⟨e + 1, by omega, by omega, by go_num, Hn.out, hW, hB, hN⟩, by simp [intOf]; omega⟩
    · have Hx := Lib.hid (show fnd s.data.toList (s[k + 1].toNat) (k + 3) = none by rw [← Hf.out, Hu.out, if_neg he])
      go_wp2_with fail
      refine bodyPost_ret (v := itV ⟨oz, false, 0, 5, s.size⟩) (by simp [results, Tryd.results19, go_sem, d0, d1, d2, d3, itV, ow_zero]) rfl ⟨ret_it (by rw [Hi.out, Ho.out, if_pos rfl, Hb1.out, show from1 s.data.toList k = k + 3 by unfold from1; rw [Hb1.out, if_neg H58.out], Hx.out]; simp), ?_⟩; repeat (first | exact hW | refine Below.setCell ?_ (by simp) _)
set_option linter.unusedSimpArgs false in
set_option maxRecDepth 100000 in
set_option maxHeartbeats 4000000 in
theorem ritem_any (s : ByteArray) (k : Nat) (w : World) (hs : s.size ≤ 35184372088832) (hk : k ≤ 70368744177664) :
    Calls Tryd.prog 19 #[.string s, .int .i64 (k : Int)] w fun e w' => e = .returned (itV (itm s.data.toList k)) ∧ Below w.heap.size w w' := by
  have hB := (Blk.new w #[.int .u64 0, .int .u64 0, .int .u64 0, .int .u64 0] 29 _ rfl).alloc (.cells #[.int .u64 0, .int .u64 0, .int .u64 0, .int .u64 0] 29); have hN := Blk.new (w.alloc (.cells #[.int .u64 0, .int .u64 0, .int .u64 0, .int .u64 0] 29)) #[.int .u64 0, .int .u64 0, .int .u64 0, .int .u64 0] 29 _ rfl; have hW := ((Below.refl w.heap.size w).alloc (Nat.le_refl _) (.cells #[.int .u64 0, .int .u64 0, .int .u64 0, .int .u64 0] 29)).alloc (by simp) (.cells #[.int .u64 0, .int .u64 0, .int .u64 0, .int .u64 0] 29)
  by_cases hlt : k < s.size
  · have Hi := Lib.hid (itm_at s k hlt)
    have hb0 := s[k].toNat_lt
    have W1 : IntKind.i64.wrap ((k : Int) + 1) = (k : Int) + 1 := IntWalk.i64_in _ (by omega)
    have hn0 : (0 : Int) ≤ (s[k].toNat : Int) := by omega
    have hn1 : (s[k].toNat : Int) ≤ 255 := by omega
    have hb := Lib.hid (byt_at s k hlt)
    by_cases h91 : s[k].toNat = 91
    · have h91' : ((s[k].toNat : Int) != 91) = false := by simp; omega
      by_cases h1 : k + 1 < s.size
      · have g1 : decide ((s.size : Int) ≤ (k : Int) + 1) = false := by simp; omega
        have hb1 := byt_at s (k + 1) h1
        have hc0 := s[k + 1].toNat_lt
        by_cases ho : s[k + 1].toNat = 58 ∨ s[k + 1].toNat = 61 ∨ s[k + 1].toNat = 46
        · rcases ho with h58 | h61 | h46
          · exact ritem58 s k w hs hk hlt h1 h91 h58
          · exact ritem61 s k w hs hk hlt h1 h91 h61
          · exact ritem46 s k w hs hk hlt h1 h91 h46
        · have p1 : ((s[k + 1].toNat : Int) != 58) = true := by simp; omega
          have p2 : ((s[k + 1].toNat : Int) != 61) = true := by simp; omega
          have p3 : ((s[k + 1].toNat : Int) != 46) = true := by simp; omega
          have Ho := Lib.hid (show opens s.data.toList k = false by
            unfold opens; rw [hb1, decide_eq_false (show ¬ s[k + 1].toNat = 58 by omega), decide_eq_false (show ¬ s[k + 1].toNat = 61 by omega), decide_eq_false (show ¬ s[k + 1].toNat = 46 by omega)]; simp)
          clear ho hb1 h91
          go_enter Tryd.func19, Tryd.ntmps19; go_wp2_with fail; go_region_with (first | (go_at_call 21; refine (rspan_any _ _ _ hn0 hn1 hn0 hn1).mono ?_; rintro e w1 ⟨rfl, b1⟩; replace hW := Below.trans (Below.drew hW) (b1.mono hW.size); replace hB := Blk.below (Blk.drew hB) b1 (Blk.lt hB); have f0 := hB.frozen 0; have f1 := hB.frozen 1; have f2 := hB.frozen 2; have f3 := hB.frozen 3; obtain ⟨d0, d1, d2, d3⟩ := zblk_cells hB; have hs := hB.lt)); all_goals go_wp2_with fail; all_goals (refine bodyPost_ret (v := itV ⟨oSpan (s[k].toNat : Int) (s[k].toNat : Int), true, k + 1, 0, 0⟩) (by simp [results, Tryd.results19, go_sem, d0, d1, d2, d3, itV, ow_zero]) rfl ⟨ret_it (by rw [Hi.out, Ho.out, hb.out]; rfl), ?_⟩; repeat (first | exact hW | refine Below.setCell ?_ (by simp) _))
      · have g1 : decide ((s.size : Int) ≤ (k : Int) + 1) = true := by simp; omega
        have Ho := Lib.hid (show opens s.data.toList k = false by unfold opens; rw [decide_eq_false (show ¬ k + 1 < s.data.toList.length by rw [list_size]; exact h1)]; simp)
        clear h91
        go_enter Tryd.func19, Tryd.ntmps19; go_wp2_with fail; go_region_with (first | (go_at_call 21; refine (rspan_any _ _ _ hn0 hn1 hn0 hn1).mono ?_; rintro e w1 ⟨rfl, b1⟩; replace hW := Below.trans (Below.drew hW) (b1.mono hW.size); replace hB := Blk.below (Blk.drew hB) b1 (Blk.lt hB); have f0 := hB.frozen 0; have f1 := hB.frozen 1; have f2 := hB.frozen 2; have f3 := hB.frozen 3; obtain ⟨d0, d1, d2, d3⟩ := zblk_cells hB; have hs := hB.lt)); all_goals go_wp2_with fail; all_goals (refine bodyPost_ret (v := itV ⟨oSpan (s[k].toNat : Int) (s[k].toNat : Int), true, k + 1, 0, 0⟩) (by simp [results, Tryd.results19, go_sem, d0, d1, d2, d3, itV, ow_zero]) rfl ⟨ret_it (by rw [Hi.out, Ho.out, hb.out]; rfl), ?_⟩; repeat (first | exact hW | refine Below.setCell ?_ (by simp) _))
    · have h91' : ((s[k].toNat : Int) != 91) = true := by simp; omega
      have Ho := Lib.hid (show opens s.data.toList k = false by unfold opens; rw [byt_at s k hlt, decide_eq_false h91]; rfl)
      go_enter Tryd.func19, Tryd.ntmps19; go_wp2_with fail; go_region_with (first | (go_at_call 21; refine (rspan_any _ _ _ hn0 hn1 hn0 hn1).mono ?_; rintro e w1 ⟨rfl, b1⟩; replace hW := Below.trans (Below.drew hW) (b1.mono hW.size); replace hB := Blk.below (Blk.drew hB) b1 (Blk.lt hB); have f0 := hB.frozen 0; have f1 := hB.frozen 1; have f2 := hB.frozen 2; have f3 := hB.frozen 3; obtain ⟨d0, d1, d2, d3⟩ := zblk_cells hB; have hs := hB.lt)); all_goals go_wp2_with fail; all_goals (refine bodyPost_ret (v := itV ⟨oSpan (s[k].toNat : Int) (s[k].toNat : Int), true, k + 1, 0, 0⟩) (by simp [results, Tryd.results19, go_sem, d0, d1, d2, d3, itV, ow_zero]) rfl ⟨ret_it (by rw [Hi.out, Ho.out, hb.out]; rfl), ?_⟩; repeat (first | exact hW | refine Below.setCell ?_ (by simp) _))
  · have Hi := Lib.hid (show itm s.data.toList k = ⟨oz, false, 0, 5, s.size⟩ by unfold itm; rw [if_pos (by rw [list_size]; omega), list_size])
    go_enter Tryd.func19, Tryd.ntmps19
    go_wp2_with fail
    obtain ⟨d0, d1, d2, d3⟩ := zblk_cells hB
    refine bodyPost_ret (v := itV ⟨oz, false, 0, 5, s.size⟩) (by simp [results, Tryd.results19, go_sem, d0, d1, d2, d3, itV, ow_zero]) rfl ⟨ret_it (by rw [Hi.out]), ?_⟩; repeat (first | exact hW | refine Below.setCell ?_ (by simp) _)
end Go.Proofs.YtehikndlcepkgaaDoor
