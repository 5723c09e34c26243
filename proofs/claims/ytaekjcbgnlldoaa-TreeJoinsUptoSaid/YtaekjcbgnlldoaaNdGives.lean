/- What a tree that is gone through gives: the iterator's contract. -/
import Derived.Test.YtaekjcbgnlldoaaNdWalk
namespace Go.Proofs.Ytaekjcbgnlldoaa
open Go Go.RowKit

theorem walk_any (v : Value) (w : World) (hsh : (∃ T q, v = .iface T q) ∨ v = .nilIface) : Calls Try.prog 30 #[v] w fun e w' => e = .returned (.func (.func 38) #[] #[.pointer (some ⟨w.heap.size, 0, none⟩)]) ∧ w' = w.alloc (.cells #[v] 31) := by
  rcases hsh with ⟨T, q, rfl⟩ | rfl
  all_goals
    go_enter Try.func30, Try.ntmps30
    go_wp2_with fail
    go_ret
    exact ⟨rfl, rfl⟩
/-- What the function that it answers gives. -/
theorem walk_gives (root : Nd) (hsz : nsize root ≤ 4000000) (n₀ R : Nat) (v : Value) (w : World) (hn : n₀ ≤ w.heap.size) (hc : w.cell? ⟨R, 0, none⟩ = some v) (hv : NdX (fun k => k < n₀) w root v) :
    Gives Try.prog 38 #[.pointer (some ⟨R, 0, none⟩)] n₀ (NdOk n₀ root) (fun xs => xs = evs root) w := by
  intro l m J Jx W hb hJ hJx hR h0
  refine callsIn_wide.1 ((iter_any 0 l W.heap.size n₀ R root hsz J Jx hJ hJx (fun pre x args C X h1 h2 => yield_any_depth 0 (hR pre x args C X h1 h2)) W v rfl (Nat.le_trans hn hb.size) h0 (hv.below hb) ((hb.cell (p := ⟨R, 0, none⟩) (World.block_lt_of_cell? w _ hc)).trans hc)).mono ?_)
  rintro e Y ⟨h1, h2⟩
  refine ⟨h1, h2.elim (fun ⟨C, h⟩ => .inl ⟨_, C, rfl, h⟩) .inr⟩
theorem nd_ok_put {n₀ : Nat} {root : Nd} {pre : List (Nd × Bool)} {x : Nd × Bool} {args : Array Value} {C : Nat → Prop} {base k : Nat} {W : World} {o : Obj} (h : NdOk n₀ root pre x args C base W) (h1 : n₀ ≤ k) (h2 : k < base) : NdOk n₀ root pre x args C base (W.putObj k o) := by
  obtain ⟨v, ha, hs, hv⟩ := h
  refine ⟨v, ha, hs, hv.keep (by simp) (fun b hb _ => ⟨hb, fun p => World.cell?_of_block (w := W) (a := ⟨b, p, none⟩) (World.putObj_heap_other ?_)⟩)⟩
  show b ≠ k
  rcases hb with hb | hb
  · omega
  · omega
end Go.Proofs.Ytaekjcbgnlldoaa
