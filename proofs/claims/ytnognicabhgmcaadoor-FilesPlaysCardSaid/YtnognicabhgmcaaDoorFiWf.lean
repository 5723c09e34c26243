/- Package files, walked: the law's fixed fact. -/
import Derived.Test.YtnognicabhgmcaaDoorFiWe
namespace Go.Proofs.YtnognicabhgmcaaDoor
open Go Go.RowKit

theorem fi_ex1 : fAdd [] [120] [97, 10, 98] = [([120], [[97], [98]])] := by decide
theorem fi_ex2 : fCut [] = [[]] := rfl
set_option linter.unusedVariables false in
set_option linter.unusedSimpArgs false in
set_option maxRecDepth 100000 in
set_option maxHeartbeats 4000000 in
theorem awake17_any (w : World) (hG : GM w) : Calls Tryd.prog 6 #[] w fun e w' => e = .returned (.bool true) ∧ Below w.heap.size w w' := by
  have hN := finew_any [] none 0 w (fun h => absurd h (by simp)) ⟨by simp, fun f hf => by cases hf⟩ hG
  rw [show fNew [] = [] from rfl] at hN
  have HG := Lib.hid hG
  clear hG
  go_enter Tryd.func6, Tryd.ntmps6
  go_upto_region 4 with (go_at_call 23; refine hN.mono ?_; clear hN; rintro e w1 ⟨p, rfl, h1, b1⟩)
  obtain ⟨mp, V, hA⟩ := h1
  have HB1 := Lib.hid b1
  have hAdd := fiadd_any [120] ⟨#[97, 10, 98]⟩ hA (by simp [maxLen]) (by simp [maxLen]) (by simp [gl, fLines]) (by simp [ByteArray.size]) (HG.out.up b1)
  rw [show (⟨#[97, 10, 98]⟩ : ByteArray).data.toList = [97, 10, 98] from rfl, fi_ex1] at hAdd
  have HP := Lib.hid hA.pF
  clear hA b1
  go_upto_region 5 with (go_at_call 10; refine hAdd.mono ?_; clear hAdd; rintro e w2 ⟨rfl, V2, hA2, ht2⟩)
  have HB2 := Lib.hid (show Below w.heap.size w w2 from HB1.out.trans (ht2.below HB1.out.size fun b hb => hb))
  have hL : ∀ W, Below w2.heap.size w2 W → Calls Tryd.prog 20 #[.pointer (some ⟨p, 0, none⟩), .string ⟨#[120]⟩] W fun e w' => ∃ g c, e = .returned (.slice (some ⟨g, 0, none⟩) 2 c) ∧ w'.cell? ⟨g, 1, none⟩ = some (.string ⟨#[98]⟩) ∧ Below W.heap.size W w' := fun W hW => by
    refine (filines_any [120] (hA2.below hW) (by simp [maxLen]) (by simp [gl, fLines])).mono ?_
    rintro e w3 ⟨v3, rfl, h3⟩
    rw [show gl [([120], [[97], [98]])] [120] = [[97], [98]] from rfl] at h3
    obtain ⟨a, c, rfl, _, _, hc⟩ := fi_row_cells h3.1
    obtain ⟨g, rfl, _, hg⟩ := hc (by decide)
    exact ⟨g, c, rfl, hg 1 _ rfl, h3.2⟩
  have hH1 : ∀ W, Below w2.heap.size w2 W → Calls Tryd.prog 16 #[.pointer (some ⟨p, 0, none⟩), .string ⟨#[120]⟩] W fun e w' => e = .returned (.bool true) ∧ w' = W := fun W hW => fihas_any [120] (hA2.below hW) (by simp [maxLen])
  have hH2 : ∀ W, Below w2.heap.size w2 W → Calls Tryd.prog 16 #[.pointer (some ⟨p, 0, none⟩), .string ⟨#[121]⟩] W fun e w' => e = .returned (.bool false) ∧ w' = W := fun W hW => fihas_any [121] (hA2.below hW) (by simp [maxLen])
  have hC : ∀ W, Below w2.heap.size w2 W → Calls Tryd.prog 21 #[.string ⟨#[]⟩] W fun e w' => ∃ a c, e = .returned (.slice a 1 c) ∧ Below W.heap.size W w' := fun W hW => by
    refine (ficut_any ⟨#[]⟩ W (by decide) (HG.out.up (HB2.out.trans (hW.mono HB2.out.size)))).mono ?_
    rintro e w3 ⟨v3, rfl, h3⟩
    obtain ⟨a, c, rfl, _⟩ := fi_row_cells h3.1
    exact ⟨a, c, rfl, h3.2⟩
  have HB := Lib.hid (Below.refl w2.heap.size w2)
  have HL := Lib.hid hL
  have HH1 := Lib.hid hH1
  have HH2 := Lib.hid hH2
  have HC := Lib.hid hC
  have HT2 := Lib.hid ht2
  clear ht2 hA2 hL hH1 hH2 hC
  have tok1 : True := trivial
  go_wp2_with (first
    | (go_at_call 20; with_reducible refine (HL.out _ HB.out).mono ?_; rintro e w3 ⟨g3, c3, rfl, k3, b3⟩; have HB := Lib.hid (HB.out.trans (b3.mono HB.out.size)); clear b3)
    | (go_at_call 16; have _t := tok1; clear tok1; with_reducible refine (HH1.out _ HB.out).mono ?_; rintro e w3 ⟨rfl, h3⟩; have h3' := h3.symm; subst h3')
    | (go_at_call 16; with_reducible refine (HH2.out _ HB.out).mono ?_; rintro e w3 ⟨rfl, h3⟩; have h3' := h3.symm; subst h3')
    | (go_at_call 21; with_reducible refine (HC.out _ HB.out).mono ?_; rintro e w3 ⟨a3, c3, rfl, b3⟩; have HB := Lib.hid (HB.out.trans (b3.mono HB.out.size)); clear b3))
  go_ret
  exact ⟨rfl, HB2.out.trans (HB.out.mono HB2.out.size)⟩
end Go.Proofs.YtnognicabhgmcaaDoor
