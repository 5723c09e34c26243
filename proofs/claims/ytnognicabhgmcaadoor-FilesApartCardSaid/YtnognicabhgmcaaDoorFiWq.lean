/- FilesApart, walked. -/
import Derived.Test.YtnognicabhgmcaaDoorFiWp
namespace Go.Proofs.YtnognicabhgmcaaDoor
open Go Go.RowKit

theorem str_ne {x y : ByteArray} (h : x ≠ y) : ¬ x.toList = y.toList := fun e => h (by rw [ByteArray.toList_eq, ByteArray.toList_eq] at e; rw [← txt_of x, e, txt_of])
/-- The two boxes. -/
structure Boxes (W : World) (pa pb : Nat) (na ta nb tb : ByteArray) : Prop where
  a1 : W.cell? ⟨pa, 1, none⟩ = some (.string na)
  a2 : W.cell? ⟨pa, 2, none⟩ = some (.string ta)
  b1 : W.cell? ⟨pb, 1, none⟩ = some (.string nb)
  b2 : W.cell? ⟨pb, 2, none⟩ = some (.string tb)
theorem Boxes.below {W W' : World} {pa pb : Nat} {na ta nb tb : ByteArray} (h : Boxes W pa pb na ta nb tb) (hb : Below W.heap.size W W') : Boxes W' pa pb na ta nb tb := by
  have l1 := World.block_lt_of_cell? W _ h.a1
  have l2 := World.block_lt_of_cell? W _ h.b1
  exact ⟨(hb.cell (p := ⟨pa, 1, none⟩) l1).trans h.a1, (hb.cell (p := ⟨pa, 2, none⟩) l1).trans h.a2, (hb.cell (p := ⟨pb, 1, none⟩) l2).trans h.b1, (hb.cell (p := ⟨pb, 2, none⟩) l2).trans h.b2⟩
set_option linter.unusedVariables false in
set_option linter.unusedSimpArgs false in
set_option maxRecDepth 100000 in
set_option maxHeartbeats 4000000 in
theorem filesapart_any (ka kb : Int) (na ta nb tb : ByteArray) (fs : List Fl) (a : Option Addr) (c : Nat) (w : World) (hr : FsRd w a fs) (hm : fs.length ≤ maxLen) (h1 : na.size ≤ reachBytes) (h2 : ta.size ≤ reachBytes) (h3 : nb.size ≤ reachBytes) (h4 : tb.size ≤ reachBytes) (hG : GM w) :
    Calls Tryd.prog 5 #[.agg #[.int .u8 ka, .string na, .string ta], .agg #[.int .u8 kb, .string nb, .string tb], .slice a fs.length c] w fun e w' => e = .returned (.bool true) ∧ Below w.heap.size w w' := by
  have HG := Lib.hid hG
  have HR := Lib.hid hr
  have HM := Lib.hid hm
  obtain ⟨FB, hFB⟩ : ∃ FB, fewB fs = FB := ⟨_, rfl⟩
  have HFB := Lib.hid hFB
  have W1 : IntKind.i64.wrap ((na.size : Int) + (nb.size : Int)) = (na.size : Int) + (nb.size : Int) := IntWalk.i64_in _ (by unfold reachBytes at *; omega)
  have W2 : IntKind.i64.wrap ((ta.size : Int) + (tb.size : Int)) = (ta.size : Int) + (tb.size : Int) := IntWalk.i64_in _ (by unfold reachBytes at *; omega)
  obtain ⟨n, hn⟩ : ∃ n, fs.length = n := ⟨_, rfl⟩
  rw [hn]
  have HN := Lib.hid hn
  clear hG hr hFB hn h1 h2 h3 h4 hm
  go_enter Tryd.func5, Tryd.ntmps5
  go_upto_region 1 with fail
  generalize hV1 : w.alloc _ = V1
  generalize hV2 : V1.alloc _ = V2
  have e1 : V1.heap.size = w.heap.size + 1 := by rw [← hV1]; exact World.size_alloc _ _
  have b1 : Below w.heap.size w V1 := by rw [← hV1]; exact (Below.refl _ w).alloc (Nat.le_refl _) _
  have b2 : Below V1.heap.size V1 V2 := by rw [← hV2]; exact (Below.refl _ V1).alloc (Nat.le_refl _) _
  have q1 : Blk V1 w.heap.size #[.int .u8 ka, .string na, .string ta] 30 := by rw [← hV1]; exact (MapKept.heap_alloc w _).1
  have q2 : Blk V2 (w.heap.size + 1) #[.int .u8 kb, .string nb, .string tb] 30 := by rw [← hV2, ← e1]; exact (MapKept.heap_alloc V1 _).1
  obtain ⟨pa, hpa⟩ : ∃ pa, w.heap.size = pa := ⟨_, rfl⟩
  have HV := Lib.hid (show Below w.heap.size w V2 from b1.trans (b2.mono b1.size))
  have q3 : Blk V2 w.heap.size #[.int .u8 ka, .string na, .string ta] 30 := (b2.block _ q1.lt).trans q1
  have HX0 := Lib.hid (show Boxes V2 pa (pa + 1) na ta nb tb from by rw [← hpa]; exact ⟨(q3.cell 1).trans rfl, (q3.cell 2).trans rfl, (q2.cell 1).trans rfl, (q2.cell 2).trans rfl⟩)
  have HGV := Lib.hid (HG.out.up HV.out)
  have HRV := Lib.hid (HR.out.below HV.out)
  have HA := Lib.hid (fun W (h : Below V2.heap.size V2 W) => awake17_any W (HGV.out.up h))
  have hF := fun W (h : Below V2.heap.size V2 W) => few_any fs a c W (HRV.out.below h) HM.out
  rw [HFB.out, HN.out] at hF
  have HF := Lib.hid hF
  have HB := Lib.hid (Below.refl V2.heap.size V2)
  rw [hpa]
  clear e1 b1 b2 q1 q2 q3 hV1 hV2 hpa hF
  have HX := Lib.hid (HX0.out.below HB.out); have c1 := HX.out.a1; have c2 := HX.out.a2; have c3 := HX.out.b1; have c4 := HX.out.b2
  cases FB with
  | false => go_wp2_with (first | (go_at_call 6; with_reducible refine (HA.out _ HB.out).mono ?_; rintro e w1 ⟨rfl, b1⟩; have HB := Lib.hid (HB.out.trans (b1.mono HB.out.size)); clear b1; have HX := Lib.hid (HX0.out.below HB.out); have c1 := HX.out.a1; have c2 := HX.out.a2; have c3 := HX.out.b1; have c4 := HX.out.b2) | (go_at_call 7; with_reducible refine (HF.out _ HB.out).mono ?_; rintro e w1 ⟨rfl, b1⟩; have HB := Lib.hid (HB.out.trans (b1.mono HB.out.size)); clear b1; have HX := Lib.hid (HX0.out.below HB.out); have c1 := HX.out.a1; have c2 := HX.out.a2; have c3 := HX.out.b1; have c4 := HX.out.b2)); go_ret; exact ⟨by first | rfl | trivial, HV.out.trans (HB.out.mono HV.out.size)⟩
  | true =>
    by_cases g1 : 100 < na.size + nb.size
    · have p1 : decide ((100 : Int) < (na.size : Int) + (nb.size : Int)) = true := decide_eq_true (by omega)
      have p2 : (100 : Int) < (na.size : Int) + (nb.size : Int) := by omega
      clear g1
      go_wp2_with (first | (go_at_call 6; with_reducible refine (HA.out _ HB.out).mono ?_; rintro e w1 ⟨rfl, b1⟩; have HB := Lib.hid (HB.out.trans (b1.mono HB.out.size)); clear b1; have HX := Lib.hid (HX0.out.below HB.out); have c1 := HX.out.a1; have c2 := HX.out.a2; have c3 := HX.out.b1; have c4 := HX.out.b2) | (go_at_call 7; with_reducible refine (HF.out _ HB.out).mono ?_; rintro e w1 ⟨rfl, b1⟩; have HB := Lib.hid (HB.out.trans (b1.mono HB.out.size)); clear b1; have HX := Lib.hid (HX0.out.below HB.out); have c1 := HX.out.a1; have c2 := HX.out.a2; have c3 := HX.out.b1; have c4 := HX.out.b2)); go_ret; exact ⟨by first | rfl | trivial, HV.out.trans (HB.out.mono HV.out.size)⟩
    have p1 : decide ((100 : Int) < (na.size : Int) + (nb.size : Int)) = false := decide_eq_false (by omega)
    have p2 : ¬ (100 : Int) < (na.size : Int) + (nb.size : Int) := by omega
    by_cases g2 : 200 < ta.size + tb.size
    · have p3 : decide ((200 : Int) < (ta.size : Int) + (tb.size : Int)) = true := decide_eq_true (by omega)
      have p4 : (200 : Int) < (ta.size : Int) + (tb.size : Int) := by omega
      clear g1 g2
      go_wp2_with (first | (go_at_call 6; with_reducible refine (HA.out _ HB.out).mono ?_; rintro e w1 ⟨rfl, b1⟩; have HB := Lib.hid (HB.out.trans (b1.mono HB.out.size)); clear b1; have HX := Lib.hid (HX0.out.below HB.out); have c1 := HX.out.a1; have c2 := HX.out.a2; have c3 := HX.out.b1; have c4 := HX.out.b2) | (go_at_call 7; with_reducible refine (HF.out _ HB.out).mono ?_; rintro e w1 ⟨rfl, b1⟩; have HB := Lib.hid (HB.out.trans (b1.mono HB.out.size)); clear b1; have HX := Lib.hid (HX0.out.below HB.out); have c1 := HX.out.a1; have c2 := HX.out.a2; have c3 := HX.out.b1; have c4 := HX.out.b2)); go_ret; exact ⟨by first | rfl | trivial, HV.out.trans (HB.out.mono HV.out.size)⟩
    have p3 : decide ((200 : Int) < (ta.size : Int) + (tb.size : Int)) = false := decide_eq_false (by omega)
    have p4 : ¬ (200 : Int) < (ta.size : Int) + (tb.size : Int) := by omega
    by_cases g3 : na = nb
    · subst g3
      clear g1 g2
      go_wp2_with (first | (go_at_call 6; with_reducible refine (HA.out _ HB.out).mono ?_; rintro e w1 ⟨rfl, b1⟩; have HB := Lib.hid (HB.out.trans (b1.mono HB.out.size)); clear b1; have HX := Lib.hid (HX0.out.below HB.out); have c1 := HX.out.a1; have c2 := HX.out.a2; have c3 := HX.out.b1; have c4 := HX.out.b2) | (go_at_call 7; with_reducible refine (HF.out _ HB.out).mono ?_; rintro e w1 ⟨rfl, b1⟩; have HB := Lib.hid (HB.out.trans (b1.mono HB.out.size)); clear b1; have HX := Lib.hid (HX0.out.below HB.out); have c1 := HX.out.a1; have c2 := HX.out.a2; have c3 := HX.out.b1; have c4 := HX.out.b2)); go_ret; exact ⟨by first | rfl | trivial, HV.out.trans (HB.out.mono HV.out.size)⟩
    have hnl : (na.toList == nb.toList) = false := beq_eq_false_iff_ne.2 (str_ne g3)
    have hna : na.size ≤ 100 := by omega
    have hta : ta.size ≤ 200 := by omega
    have hnb : nb.size ≤ 100 := by omega
    have htb : tb.size ≤ 200 := by omega
    have HSZ := Lib.hid (And.intro (And.intro hna hta) (And.intro hnb htb))
    have HNE := Lib.hid g3
    clear g1 g2 hna hta hnb htb g3
    have tok1 : True := trivial
    have hff := fewB_iff HFB.out
    have hRe := fun W (h : Below V2.heap.size V2 W) => real_any fs a c W (HRV.out.below h) hff (HGV.out.up h)
    rw [HN.out] at hRe
    have HRE := Lib.hid hRe
    have HL0 := Lib.hid (new_few hff)
    have HS0 := Lib.hid (fNew_srt fs)
    obtain ⟨l, hl⟩ : ∃ l, fNew fs = l := ⟨_, rfl⟩
    rw [hl] at HRE HL0 HS0
    clear hRe hff hl
    go_upto_region 4 with (first
      | (go_at_call 6; with_reducible refine (HA.out _ HB.out).mono ?_; rintro e w1 ⟨rfl, b1⟩; have HB := Lib.hid (HB.out.trans (b1.mono HB.out.size)); clear b1; have HX := Lib.hid (HX0.out.below HB.out); have c1 := HX.out.a1; have c2 := HX.out.a2; have c3 := HX.out.b1; have c4 := HX.out.b2) | (go_at_call 7; with_reducible refine (HF.out _ HB.out).mono ?_; rintro e w1 ⟨rfl, b1⟩; have HB := Lib.hid (HB.out.trans (b1.mono HB.out.size)); clear b1; have HX := Lib.hid (HX0.out.below HB.out); have c1 := HX.out.a1; have c2 := HX.out.a2; have c3 := HX.out.b1; have c4 := HX.out.b2)
      | (go_at_call 8; have _t := tok1; clear tok1; with_reducible refine (HRE.out _ HB.out).mono ?_; rintro e w1 ⟨p1, rfl, h1, b1⟩; have HT1 := Lib.hid h1; have HBW := Lib.hid b1; have HBV := Lib.hid HB.out.size; clear h1; have HB := Lib.hid (HB.out.trans (b1.mono HB.out.size)); clear b1; have HX := Lib.hid (HX0.out.below HB.out); have c1 := HX.out.a1; have c2 := HX.out.a2; have c3 := HX.out.b1; have c4 := HX.out.b2)
      | (go_at_call 8; with_reducible refine (HRE.out _ HB.out).mono ?_; rintro e w2 ⟨p2, rfl, h2, b1⟩; have HT := Lib.hid (Two.made (B := V2.heap.size) HT1.out h2 HBV.out HBW.out.size b1); clear h2; have HB := Lib.hid (HB.out.trans (b1.mono HB.out.size)); clear b1; have HX := Lib.hid (HX0.out.below HB.out); have c1 := HX.out.a1; have c2 := HX.out.a2; have c3 := HX.out.b1; have c4 := HX.out.b2))
    obtain ⟨⟨hna, hta⟩, hnb, htb⟩ := HSZ.out
    have hAl : na.data.toList.length ≤ 1000 := Nat.le_trans hna (by decide)
    have hBl : nb.data.toList.length ≤ 1000 := Nat.le_trans hnb (by decide)
    have hAt : ta.data.toList.length ≤ 200 := hta
    have hBt : tb.data.toList.length ≤ 200 := htb
    have hAB : na.data.toList ≠ nb.data.toList := fun e => HNE.out (by rw [← txt_of na, e, txt_of])
    have hother := add_other HS0.out ta.data.toList hAB
    have hsame := add_add HS0.out ta.data.toList tb.data.toList hAB
    have HL1 := Lib.hid ((HL0.out.add HS0.out na.data.toList ta.data.toList).more (show 40000 + ta.data.toList.length + 1 ≤ 50000 by omega))
    have HL3 := Lib.hid ((HL0.out.add HS0.out nb.data.toList tb.data.toList).more (show 40000 + tb.data.toList.length + 1 ≤ 50000 by omega))
    have HL2 := Lib.hid ((HL1.out.add (fAdd_srt HS0.out _ _) nb.data.toList tb.data.toList).more (show 50000 + tb.data.toList.length + 1 ≤ 60000 by omega))
    have hL1 := HT.out.lines nb.data.toList hBl HL0.out (by decide)
    rw [txt_of] at hL1
    obtain ⟨k, hk⟩ : ∃ k, (gl l nb.data.toList).length = k := ⟨_, rfl⟩
    have HK := Lib.hid hk
    have HO := Lib.hid (show gl (fAdd l na.data.toList ta.data.toList) nb.data.toList = gl l nb.data.toList by unfold gl; rw [hother])
    have HSM := Lib.hid hsame
    clear hother hsame hk
    go_upto_region 7 with (go_at_call 20; refine hL1.mono ?_; clear hL1; rintro e w3 ⟨v3, rfl, h3⟩; obtain ⟨a3, c3', rfl, _⟩ := fi_row_cells h3.1; have b1 := h3.2; have HT := Lib.hid (HT.out.below b1); clear h3; have HB := Lib.hid (HB.out.trans (b1.mono HB.out.size)); clear b1; have HX := Lib.hid (HX0.out.below HB.out); have c1 := HX.out.a1; have c2 := HX.out.a2; have c3 := HX.out.b1; have c4 := HX.out.b2)
    rw [HK.out]
    have hA1 := HT.out.add na.data.toList ta hAl (Nat.le_trans hta (by decide)) (by decide) HL0.out (by decide) (HGV.out.up HB.out)
    rw [txt_of] at hA1
    go_upto_region 8 with (go_at_call 10; refine hA1.mono ?_; clear hA1; rintro e w4 ⟨rfl, h4, b4⟩; have HT := Lib.hid h4; have HB := Lib.hid (HB.out.trans b4); clear h4 b4; have HX := Lib.hid (HX0.out.below HB.out); have c1 := HX.out.a1; have c2 := HX.out.a2; have c3 := HX.out.b1; have c4 := HX.out.b2)
    have hL2 := HT.out.lines nb.data.toList hBl HL1.out (by decide)
    rw [txt_of, HO.out] at hL2
    go_upto_region 9 with (go_at_call 20; refine hL2.mono ?_; clear hL2; rintro e w5 ⟨v5, rfl, h5⟩; obtain ⟨a5, c5', rfl, _⟩ := fi_row_cells h5.1; have b1 := h5.2; have HT := Lib.hid (HT.out.below b1); clear h5; have HB := Lib.hid (HB.out.trans (b1.mono HB.out.size)); clear b1; have HX := Lib.hid (HX0.out.below HB.out); have c1 := HX.out.a1; have c2 := HX.out.a2; have c3 := HX.out.b1; have c4 := HX.out.b2)
    rw [HK.out]
    have n1 : ((k : Int) != (k : Int)) = false := by simp
    have hA2 := HT.out.add nb.data.toList tb hBl (Nat.le_trans htb (by decide)) (by decide) HL1.out (by decide) (HGV.out.up HB.out)
    rw [txt_of] at hA2
    go_upto_region 12 with (go_at_call 10; refine hA2.mono ?_; clear hA2; rintro e w6 ⟨rfl, h6, b6⟩; have HT := Lib.hid h6.swap; have HB := Lib.hid (HB.out.trans b6); clear h6 b6; have HX := Lib.hid (HX0.out.below HB.out); have c1 := HX.out.a1; have c2 := HX.out.a2; have c3 := HX.out.b1; have c4 := HX.out.b2)
    have hA3 := HT.out.add nb.data.toList tb hBl (Nat.le_trans htb (by decide)) (by decide) HL0.out (by decide) (HGV.out.up HB.out)
    rw [txt_of] at hA3
    go_upto_region 13 with (go_at_call 10; refine hA3.mono ?_; clear hA3; rintro e w7 ⟨rfl, h7, b7⟩; have HT := Lib.hid h7; have HB := Lib.hid (HB.out.trans b7); clear h7 b7; have HX := Lib.hid (HX0.out.below HB.out); have c1 := HX.out.a1; have c2 := HX.out.a2; have c3 := HX.out.b1; have c4 := HX.out.b2)
    have hA4 := HT.out.add na.data.toList ta hAl (Nat.le_trans hta (by decide)) (by decide) HL3.out (by decide) (HGV.out.up HB.out)
    rw [txt_of, ← HSM.out] at hA4
    obtain ⟨LF, hLF⟩ : ∃ LF, fAdd (fAdd l na.data.toList ta.data.toList) nb.data.toList tb.data.toList = LF := ⟨_, rfl⟩
    rw [hLF] at hA4 HT HL2
    go_upto_region 14 with (go_at_call 10; refine hA4.mono ?_; clear hA4; rintro e w8 ⟨rfl, h8, b8⟩; have HT := Lib.hid h8.swap; have HB := Lib.hid (HB.out.trans b8); clear h8 b8; have HX := Lib.hid (HX0.out.below HB.out); have c1 := HX.out.a1; have c2 := HX.out.a2; have c3 := HX.out.b1; have c4 := HX.out.b2)
    have hlen := HT.out.len
    have hlen2 : LF.length ≤ 1000 := by omega
    have HLE := Lib.hid hlen2
    have hLi := HT.out.list (by decide) HL2.out (by decide)
    have tok2 : True := trivial
    have tok3 : True := trivial
    clear hlen hlen2 hLF hAl hBl hAt hBt hAB hna hta hnb htb
    go_wp2_with (first
      | (go_at_call 19; have _t := tok2; clear tok2; refine hLi.mono ?_; clear hLi; rintro e w9 ⟨v9, rfl, h9, b1⟩; have hRf := ref_any LF v9 w9 h9 HLE.out; have HT := Lib.hid (HT.out.below b1); clear h9; have HB := Lib.hid (HB.out.trans (b1.mono HB.out.size)); clear b1; have HX := Lib.hid (HX0.out.below HB.out); have c1 := HX.out.a1; have c2 := HX.out.a2; have c3 := HX.out.b1; have c4 := HX.out.b2)
      | (go_at_call 18; have _t := tok3; clear tok3; refine hRf.mono ?_; clear hRf; rintro e w10 ⟨a10, c10, rfl, h10, b1⟩; have HT := Lib.hid (HT.out.below b1); have hLi2 := HT.out.swap.list (by decide) HL2.out (by decide); have HR1 := Lib.hid h10; clear h10; have HB := Lib.hid (HB.out.trans (b1.mono HB.out.size)); clear b1; have HX := Lib.hid (HX0.out.below HB.out); have c1 := HX.out.a1; have c2 := HX.out.a2; have c3 := HX.out.b1; have c4 := HX.out.b2)
      | (go_at_call 19; refine hLi2.mono ?_; clear hLi2; rintro e w11 ⟨v11, rfl, h11, b1⟩; have hRf2 := ref_any LF v11 w11 h11 HLE.out; have HR1 := Lib.hid (HR1.out.below b1); clear h11; have HB := Lib.hid (HB.out.trans (b1.mono HB.out.size)); clear b1; have HX := Lib.hid (HX0.out.below HB.out); have c1 := HX.out.a1; have c2 := HX.out.a2; have c3 := HX.out.b1; have c4 := HX.out.b2)
      | (go_at_call 18; refine hRf2.mono ?_; clear hRf2; rintro e w12 ⟨a12, c12, rfl, h12, b1⟩; have hSm := rfsame_any LF a10 a12 c10 c12 w12 (HR1.out.below b1).rd h12.rd HLE.out h12.few; clear h12; have HB := Lib.hid (HB.out.trans (b1.mono HB.out.size)); clear b1; have HX := Lib.hid (HX0.out.below HB.out); have c1 := HX.out.a1; have c2 := HX.out.a2; have c3 := HX.out.b1; have c4 := HX.out.b2)
      | (go_at_call 17; refine hSm.mono ?_; clear hSm; rintro e w13 ⟨rfl, b1⟩; have HB := Lib.hid (HB.out.trans (b1.mono HB.out.size)); clear b1; have HX := Lib.hid (HX0.out.below HB.out); have c1 := HX.out.a1; have c2 := HX.out.a2; have c3 := HX.out.b1; have c4 := HX.out.b2))
    go_ret
    exact ⟨by first | rfl | trivial, HV.out.trans (HB.out.mono HV.out.size)⟩
end Go.Proofs.YtnognicabhgmcaaDoor
