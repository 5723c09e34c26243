/- The document's own answer for bracket expressions, walked: the least byte; the whole. -/
import Derived.Test.YtehikndlcepkgaaDoorBrRef
import Derived.Test.YtehikndlcepkgaaDoorBrMathB
import Derived.Test.YtehikndlcepkgaaDoorSpRow
namespace Go.Proofs.YtehikndlcepkgaaDoor
open Go.RowKit

set_option maxHeartbeats 1000000 in
theorem rleast_any (b : Nat) (hb : b < 256) (w : World) :
    Calls Tryd.prog 20 #[.agg #[.int .u64 (ow (oSpan b b) 0), .int .u64 (ow (oSpan b b) 1), .int .u64 (ow (oSpan b b) 2), .int .u64 (ow (oSpan b b) 3)]] w fun e w' => e = .returned (.int .u8 (b : Int)) ∧ Below w.heap.size w w' := by
  obtain ⟨hne, hl⟩ := lst_one b hb
  have hW := (Below.refl w.heap.size w).alloc (Nat.le_refl _) (.cells (oc (oSpan b b)) 29)
  have hS := oblk_cells (Blk.new w (oc (oSpan b b)) 29 _ rfl)
  obtain ⟨c0, c1, c2, c3⟩ := hS
  obtain ⟨p, l, hs⟩ : ∃ p l, sps (oSpan b b) = p :: l := by
    cases h : sps (oSpan b b) with
    | nil => exact absurd h hne
    | cons p l => exact ⟨p, l, rfl⟩
  have hp : p.1 = b := by
    unfold lst at hl
    rw [hs] at hl
    exact hl
  have Hs := Lib.hid hs
  clear hs hl hne
  go_enter Tryd.func20, Tryd.ntmps20
  go_wp2_with (go_at_call 29; refine (rspans_any _ _).mono ?_)
  rintro e w1 ⟨v, rfl, hown, b1⟩
  rw [Hs.out] at hown
  obtain ⟨a, cap, g, rfl, ha, hc, hr⟩ := own_form hown
  obtain rfl := ha (by simp)
  have z := hr.c1 0 (by simp)
  simp only [Nat.zero_mul, List.getElem_cons_zero, hp] at z
  replace hW := hW.trans (b1.mono hW.size)
  clear hown hr ha b1 hp
  have hn : 0 < (p :: l).length := by simp
  generalize (p :: l).length = n at hc hn ⊢
  go_wp2_with fail
  go_ret
  exact ⟨rfl, hW⟩
end Go.Proofs.YtehikndlcepkgaaDoor
