/- Two sets in two blocks, kept whatever the order. -/
import Derived.Test.YtehikndlcepkgaaDoorOctHeld
namespace Go.Proofs.YtehikndlcepkgaaDoor
open Go.RowKit

structure Hold2 (w0 : World) (a b : Nat) (s t : OSet) (T U : TypeId) (w' : World) : Prop where
  below : Below w0.heap.size w0 w'
  ba : Blk w' a (oc s) T
  bb : Blk w' b (oc t) U
theorem Hold2.step {w0 : World} {a b : Nat} {s t : OSet} {T U : TypeId} {W W' : World} (hb : Below W.heap.size W W') (h : Hold2 w0 a b s t T U W) : Hold2 w0 a b s t T U W' :=
  ⟨h.below.trans (hb.mono h.below.size), h.ba.below hb h.ba.lt, h.bb.below hb h.bb.lt⟩
theorem Hold2.drew {w0 : World} {a b : Nat} {s t : OSet} {T U : TypeId} {W : World} (h : Hold2 w0 a b s t T U W) : Hold2 w0 a b s t T U W.drew :=
  ⟨h.below.drew, h.ba, h.bb⟩
theorem Hold2.alloc {w0 : World} {a b : Nat} {s t : OSet} {T U : TypeId} {W : World} (h : Hold2 w0 a b s t T U W) (o : Obj) : Hold2 w0 a b s t T U (W.alloc o) :=
  ⟨h.below.alloc h.below.size o, h.ba.alloc o, h.bb.alloc o⟩
/-- What is read, cell by cell. -/
abbrev ReadH2 (w0 : World) (a b : Nat) (s t : OSet) (T U : TypeId) (w' : World) : Prop :=
    (w'.cell? ⟨a, 0, none⟩ = some (.int .u64 (ow s 0)) ∧ w'.cell? ⟨a, 1, none⟩ = some (.int .u64 (ow s 1)) ∧ w'.cell? ⟨a, 2, none⟩ = some (.int .u64 (ow s 2)) ∧ w'.cell? ⟨a, 3, none⟩ = some (.int .u64 (ow s 3))) ∧
    (w'.cell? ⟨b, 0, none⟩ = some (.int .u64 (ow t 0)) ∧ w'.cell? ⟨b, 1, none⟩ = some (.int .u64 (ow t 1)) ∧ w'.cell? ⟨b, 2, none⟩ = some (.int .u64 (ow t 2)) ∧ w'.cell? ⟨b, 3, none⟩ = some (.int .u64 (ow t 3))) ∧ Hold2 w0 a b s t T U w'
theorem Hold2.all {w0 : World} {a b : Nat} {s t : OSet} {T U : TypeId} {w' : World} (h : Hold2 w0 a b s t T U w') : ReadH2 w0 a b s t T U w' :=
  ⟨oblk_cells h.ba, oblk_cells h.bb, h⟩
theorem readH2_step {w0 : World} {a b : Nat} {s t : OSet} {T U : TypeId} {W W' : World} (hb : Below W.heap.size W W') (h : ReadH2 w0 a b s t T U W) : ReadH2 w0 a b s t T U W' := (Hold2.step hb h.2.2).all
theorem readH2_drew {w0 : World} {a b : Nat} {s t : OSet} {T U : TypeId} {W : World} (h : ReadH2 w0 a b s t T U W) : ReadH2 w0 a b s t T U W.drew := h.2.2.drew.all
end Go.Proofs.YtehikndlcepkgaaDoor
