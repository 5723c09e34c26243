/- A block of cells, as a whole: it is read, written, and kept. No program is named here. -/
import Derived.WalkKit
import Derived.WalkSmall
namespace Go.Proofs.Ytaekjcbgnlldoaa
open Go.RowKit

/-- Block number a holds just these cells, of elements of type T; nothing of it is frozen. -/
def Blk (w : World) (a : Nat) (cs : Array Value) (T : TypeId) : Prop := w.heap[a]? = some (.cells cs T)

theorem Blk.lt {w : World} {a : Nat} {cs : Array Value} {T : TypeId} (h : Blk w a cs T) : a < w.heap.size := (Array.getElem?_eq_some_iff.1 h).1
theorem Blk.cell {w : World} {a : Nat} {cs : Array Value} {T : TypeId} (h : Blk w a cs T) (j : Nat) : w.cell? ⟨a, j, none⟩ = cs[j]? := by
  unfold Blk at h
  simp [World.cell?, h]
theorem Blk.frozen {w : World} {a : Nat} {cs : Array Value} {T : TypeId} (h : Blk w a cs T) (j : Nat) : w.frozen? ⟨a, j, none⟩ = false := by
  unfold Blk at h
  simp [World.frozen?, h]
theorem Blk.set {w : World} {a : Nat} {cs : Array Value} {T : TypeId} (h : Blk w a cs T) (j : Nat) (v : Value) : Blk (w.setCell ⟨a, j, none⟩ v) a (cs.setIfInBounds j v) T := by
  unfold Blk at h ⊢
  simp only [World.setCell, Array.getElem?_modify, if_true, h]
  rfl
theorem Blk.set_other {w : World} {a : Nat} {cs : Array Value} {T : TypeId} (h : Blk w a cs T) (p : Addr) (hp : p.block ≠ a) (v : Value) : Blk (w.setCell p v) a cs T := by
  unfold Blk at h ⊢
  rw [Below.heap_setCell _ _ _ _ (fun e => hp e.symm)]
  exact h
theorem Blk.new (w : World) (cs : Array Value) (T : TypeId) (a : Nat) (ha : a = w.heap.size) : Blk (w.alloc (.cells cs T)) a cs T := by
  subst ha
  show (w.heap.push _)[w.heap.size]? = _
  rw [Array.getElem?_push_size]
theorem Blk.alloc {w : World} {a : Nat} {cs : Array Value} {T : TypeId} (h : Blk w a cs T) (o : Obj) : Blk (w.alloc o) a cs T := by
  have := h.lt
  unfold Blk at h ⊢
  rw [Below.heap_alloc _ _ _ this]
  exact h
theorem Blk.drew {w : World} {a : Nat} {cs : Array Value} {T : TypeId} (h : Blk w a cs T) : Blk w.drew a cs T := h
theorem Blk.drewN {w : World} {a : Nat} {cs : Array Value} {T : TypeId} (h : Blk w a cs T) (n : Nat) : Blk (w.drewN n) a cs T := h
theorem Blk.below {w w' : World} {B a : Nat} {cs : Array Value} {T : TypeId} (h : Blk w a cs T) (hb : Below B w w') (ha : a < B) : Blk w' a cs T := by
  unfold Blk at h ⊢
  rw [hb.block a ha]
  exact h

/-- What a contract's 'Below' tells of the cells that were there. -/
theorem bcell {W w1 : World} (hb : Below W.heap.size W w1) : (∀ b o, b < W.heap.size → w1.cell? ⟨b, o, none⟩ = W.cell? ⟨b, o, none⟩) ∧ (∀ b o, b < W.heap.size → w1.frozen? ⟨b, o, none⟩ = W.frozen? ⟨b, o, none⟩) :=
  ⟨fun b o h => hb.cell (p := ⟨b, o, none⟩) h, fun b o h => hb.frozen (p := ⟨b, o, none⟩) h⟩

end Go.Proofs.Ytaekjcbgnlldoaa
