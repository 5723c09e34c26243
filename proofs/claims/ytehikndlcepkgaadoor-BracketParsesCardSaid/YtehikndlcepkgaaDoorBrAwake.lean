/- The statements' fixed fact about bracket expressions, walked. -/
import Derived.Test.YtehikndlcepkgaaDoorBrProgF
import Derived.Test.YtehikndlcepkgaaDoorBrFacts
namespace Go.Proofs.YtehikndlcepkgaaDoor
open Go.RowKit

def exS : OSet := ~~~(oz ||| oSpan 97 97 ||| oSpan 45 45)
theorem exS_len : olen exS = 254 := by decide +kernel
theorem exS_has : ohas exS 45 = false := by decide +kernel
theorem parse_ex1 (w : World) (hG : Gl w) :
    Calls Tryd.prog 9 #[.string ⟨#[94, 97, 45, 93]⟩, .int .i64 0] w fun e w' => e = .returned (prV (exS, 4, 0)) ∧ Below w.heap.size w w' := by
  have h := parse_any ⟨#[94, 97, 45, 93]⟩ 0 w (by decide) hG
  rw [show (⟨#[94, 97, 45, 93]⟩ : ByteArray).data.toList = [94, 97, 45, 93] from rfl, prs_ex1] at h
  exact h
theorem parse_ex2 (w : World) (hG : Gl w) :
    Calls Tryd.prog 9 #[.string ⟨#[91, 58, 100, 105, 103, 105, 116, 58, 93, 45, 122, 93]⟩, .int .i64 0] w fun e w' => e = .returned (prV (oz, 0, 1)) ∧ Below w.heap.size w w' := by
  have h := parse_any ⟨#[91, 58, 100, 105, 103, 105, 116, 58, 93, 45, 122, 93]⟩ 0 w (by decide) hG
  rw [show (⟨#[91, 58, 100, 105, 103, 105, 116, 58, 93, 45, 122, 93]⟩ : ByteArray).data.toList = [91, 58, 100, 105, 103, 105, 116, 58, 93, 45, 122, 93] from rfl, prs_ex2] at h
  exact h
set_option linter.unusedSimpArgs false in
set_option maxRecDepth 100000 in
set_option maxHeartbeats 2000000 in
theorem awake_any (w : World) (hG : Gl w) :
    Calls Tryd.prog 8 #[] w fun e w' => e = .returned (.bool true) ∧ Below w.heap.size w w' := by
  go_enter Tryd.func8, Tryd.ntmps8
  go_wp2_with fail
  refine (parse_ex1 _ hG).mono ?_
  rintro e w1 ⟨rfl, hW⟩
  unfold prV
  have hG1 := (hG.up hW).up ((Below.refl w1.heap.size w1).alloc (Nat.le_refl _) (.cells (oc exS) 25))
  go_wp2_with fail
  refine (parse_ex2 _ hG1).mono ?_
  clear hG1
  rintro e w2 ⟨rfl, b2⟩
  have hS := (Blk.new w1 (oc exS) 25 _ rfl).below b2 (by simp)
  replace hW := (hW.alloc hW.size (.cells (oc exS) 25)).trans (b2.mono (hW.alloc hW.size _).size)
  clear b2
  obtain ⟨c0, c1, c2, c3⟩ := oblk_cells hS
  have hl := exS_len
  have hh := exS_has
  generalize exS = X at *
  have hlS := hS.lt
  unfold prV
  go_wp2_with fail
  refine (len_any X _).mono ?_
  rintro e w3 ⟨he, b3⟩
  rw [hl] at he
  subst he
  replace hS := (hS.alloc (.cells #[.int .u64 0, .int .u64 0, .int .u64 0, .int .u64 0] 25)).below b3 (hS.alloc _).lt
  replace hW := (hW.alloc hW.size (.cells #[.int .u64 0, .int .u64 0, .int .u64 0, .int .u64 0] 25)).trans (b3.mono (hW.alloc hW.size _).size)
  clear b3 c0 c1 c2 c3 hl hlS
  obtain ⟨c0, c1, c2, c3⟩ := oblk_cells hS
  go_wp2_with fail
  refine (has_any X 45 (by decide) (by decide) _).mono ?_
  rintro e w4 ⟨he, b4⟩
  rw [show (45 : Int).toNat = 45 from rfl, hh] at he
  subst he
  replace hW := hW.trans (b4.mono hW.size)
  clear b4 c0 c1 c2 c3 hh hS
  go_wp2_with fail
  go_ret
  exact ⟨rfl, hW⟩
end Go.Proofs.YtehikndlcepkgaaDoor
