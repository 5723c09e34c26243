/- The document's files, walked: Add. -/
import Derived.Test.YtnognicabhgmcaaDoorFiPb
namespace Go.Proofs.YtnognicabhgmcaaDoor
open Go Go.RowKit

/-- A copy of lines. -/
structure AdCopy (w w1 w3 : World) (ls : List (List UInt8)) (v3 : Value) : Prop where
  b : Below w.heap.size w w3
  s : w.heap.size ≤ w1.heap.size
  z : w1.heap.size ≤ w3.heap.size
  r : w3.ownsRow w1.heap.size 9 1 v3 ls.length (lnC ls)
theorem ad_copy {w w1 w3 : World} {ls : List (List UInt8)} {k : Nat} {v3 : Value} (b1 : Below w.heap.size w w1) (hk : ls.length = k) (ho : w3.ownsRow w1.heap.size 9 1 v3 (0 + k) ([] ++ lnC ls)) (hg : (w1.alloc (.cells #[] 9)).grownBy w3 (Value.slice (some ⟨w1.heap.size, 0, none⟩) 0 0).ownBlock) : ∃ a3 c3, v3 = .slice a3 k c3 ∧ AdCopy w w1 w3 ls v3 := by
  rw [Nat.zero_add, List.nil_append] at ho
  obtain ⟨a3, c3, rfl, _⟩ := fi_row_cells ho
  have hb : Below w1.heap.size w1 w3 := ((Below.refl _ w1).alloc (Nat.le_refl _) _).grown hg (by simp) fun b e => by have e2 : some w1.heap.size = some b := e; injection e2 with e2; omega
  exact ⟨a3, c3, rfl, b1.trans (hb.mono b1.size), b1.size, hb.size, by rw [hk]; exact ho⟩
theorem ad_more {w w1 w3 w4 w5 : World} {ls ks : List (List UInt8)} {k m : Nat} {v3 v5 : Value} (h : AdCopy w w1 w3 ls v3) (hk : ls.length = k) (hm : ks.length = m) (b4 : Below w3.heap.size w3 w4) (ho : w5.ownsRow w1.heap.size 9 1 v5 (k + m) (lnC ls ++ lnC ks)) (hg : w4.grownBy w5 v3.ownBlock) : ∃ a5 c5, v5 = .slice a5 (k + m) c5 ∧ Below w.heap.size w w5 ∧ LnG (fun b => w.heap.size ≤ b) w5 v5 (ls ++ ks) := by
  obtain ⟨a5, c5, rfl, _⟩ := fi_row_cells ho
  have h4 := h.b.trans (b4.mono h.b.size)
  refine ⟨a5, c5, rfl, h4.grown hg h4.size fun b e => Nat.le_trans h.s (fi_row_lt h.r e).1, LnG.base (fi_row_mono ?_ h.s)⟩
  rw [List.length_append, hk, hm, lnC_append]
  exact ho
set_option linter.unusedVariables false in
set_option linter.unusedSimpArgs false in
set_option maxRecDepth 100000 in
set_option maxHeartbeats 8000000 in
theorem rfadd_any {G : Nat → Prop} {B : Nat} (fs : List Fl) (vl : Value) (xb tb : ByteArray) (w : World) (h : FsOwn 50 G w B vl fs) (hl : fs.length ≤ 500) (hg : (gl fs xb.data.toList).length ≤ 100000) (ht : tb.size ≤ 1000) :
    Calls Tryd.prog 11 #[vl, .string xb, .string tb] w fun e w' => ∃ a c, e = .returned (.slice a (fAdd fs xb.data.toList tb.data.toList).length c) ∧ FsOwn 50 (fun b => G b ∨ w.heap.size ≤ b) w' w.heap.size (.slice a (fAdd fs xb.data.toList tb.data.toList).length c) (fAdd fs xb.data.toList tb.data.toList) ∧ Below w.heap.size w w' := by
  obtain ⟨a, c, rfl⟩ := h.form
  obtain ⟨i0, hi, hz0, hz1, hz2⟩ := str_info
  have hLi := rflines_any fs a c xb w h.rd (by omega)
  have hcl := cut_len tb.data.toList
  rw [fi_size] at hcl
  have hRf := fun W => rfcut_any tb W ht
  obtain ⟨R, hR⟩ : ∃ R, fAdd fs xb.data.toList tb.data.toList = R := ⟨_, rfl⟩
  rw [hR]
  have HR := Lib.hid (show fPut fs xb.data.toList (gl fs xb.data.toList ++ fCut tb.data.toList) = R from hR)
  obtain ⟨ks, hks⟩ : ∃ ks, fCut tb.data.toList = ks := ⟨_, rfl⟩
  obtain ⟨ls, hls⟩ : ∃ ls, gl fs xb.data.toList = ls := ⟨_, rfl⟩
  rw [hks] at hRf hcl HR
  rw [hls] at hLi hg HR
  obtain ⟨k, hk⟩ : ∃ k, ls.length = k := ⟨_, rfl⟩
  obtain ⟨m, hm⟩ : ∃ m, ks.length = m := ⟨_, rfl⟩
  have HK := Lib.hid hk
  have HM := Lib.hid hm
  have HRF := Lib.hid hRf
  obtain ⟨n, hn⟩ : ∃ n, fs.length = n := ⟨_, rfl⟩
  have HN := Lib.hid hn
  rw [hn] at h hLi ⊢
  have HH2 := Lib.hid h
  have m1 : 0 + k ≤ maxLen := by unfold maxLen; omega
  have m2 : (0 + k) * 16 ≤ 140737488355328 := by omega
  have m3 : (lnC ls).length = k * 1 := by rw [lnC_len]; omega
  have m4 : k + m ≤ maxLen := by unfold maxLen; omega
  have m5 : (k + m) * 16 ≤ 140737488355328 := by omega
  have m6 : (lnC ks).length = m * 1 := by rw [lnC_len]; omega
  have HL := Lib.hid hl
  clear h hR hks hls hk hm hRf hn hl
  go_enter Tryd.func11, Tryd.ntmps11
  go_upto_region 2 with (go_at_call 15; refine hLi.mono ?_; clear hLi; rintro e w1 ⟨v1, rfl, h1, b1⟩; have H1 := Lib.hid (h1.below b1); obtain ⟨a1, c1, rfl, _⟩ := h1; have B1 := Lib.hid b1; clear b1)
  rw [HK.out] at H1 ⊢
  have tok1 : True := trivial
  go_wp2_with (first
    | (at_builtin; have _t := tok1; clear tok1; go_loud (refine wpList_append_any _ rfl _ _ 36 rfl w1.heap.size 9 i0 (.string ⟨#[]⟩) 1 16 Tryd.underlying36 hi hz0 hz1 hz2 rfl (by decide) (.slice (some ⟨w1.heap.size, 0, none⟩) 0 0) 0 [] rfl (World.ownsRow_lit w1 #[] 0 (Nat.le_refl _) (by decide) rfl) a1 k c1 (lnC ls) rfl m3 (lnrd_news (H1.out.below ((Below.refl _ _).alloc (Nat.le_refl _) _)) HK.out) (lnC_one ls) m1 m2 ((Below.refl _ w1).alloc (Nat.le_refl _) _).size ?_; intro v3 w3 hown3 hgr3 _; obtain ⟨a3, c3, rfl, h3⟩ := ad_copy B1.out HK.out hown3 hgr3; have H3 := Lib.hid h3; clear hown3 hgr3 h3))
    | (go_at_call 22; refine (HRF.out _).mono ?_; rintro e w4 ⟨v4, rfl, h4⟩; have H4 := Lib.hid h4; obtain ⟨a4, c4, rfl, hr4⟩ := ln_read h4; rw [HM.out] at hr4 ⊢; have R4 := Lib.hid hr4; clear h4 hr4)
    | (at_builtin; go_loud (refine wpList_append_any _ rfl _ _ 36 rfl w1.heap.size 9 i0 (.string ⟨#[]⟩) 1 16 Tryd.underlying36 hi hz0 hz1 hz2 rfl (by decide) (.slice a3 k c3) k (lnC ls) rfl (by rw [← HK.out]; rw [← HK.out] at H3; exact fi_row_below H3.out.r H4.out.2) a4 m c4 (lnC ks) rfl m6 R4.out (lnC_one ks) m4 m5 (Nat.le_trans H3.out.z H4.out.2.size) ?_; intro v5 w5 hown5 hgr5 _; obtain ⟨a5, c5, rfl, b5, h5⟩ := ad_more H3.out HK.out HM.out H4.out.2 hown5 hgr5; have H5 := Lib.hid (And.intro b5 h5); have hP := rfput_any (G := fun b => G b ∨ w.heap.size ≤ b) fs (.slice a n c) xb (.slice a5 (k + m) c5) (ls ++ ks) w5 ((HH2.out.below b5).mono (Nat.le_refl _) fun _ _ g => .inl g) (h5.wider fun _ _ g => .inr g) HL.out; rw [HR.out] at hP; clear hown5 hgr5 b5 h5))
    | (go_at_call 13; refine hP.mono ?_; clear hP; rintro e w6 ⟨a6, c6, rfl, h6, b6⟩))
  have HZ := Lib.hid (show FsOwn 50 (fun b => G b ∨ w.heap.size ≤ b) w6 w.heap.size (.slice a6 R.length c6) R ∧ Below w.heap.size w w6 from ⟨h6.mono H5.out.1.size fun _ _ h => h, H5.out.1.trans (b6.mono H5.out.1.size)⟩)
  clear h6 b6
  go_ret
  exact ⟨a6, c6, rfl, HZ.out⟩
end Go.Proofs.YtnognicabhgmcaaDoor
