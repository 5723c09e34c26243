/- TreeSets, walked. -/
import Derived.Test.YtaekjcbgnlldoaaTrAwake
import Derived.Test.YtaekjcbgnlldoaaTrCaught
import Derived.Test.YtaekjcbgnlldoaaTrReal
import Derived.Test.YtaekjcbgnlldoaaTrFew
import Derived.Deep.RegionHeld3
import Derived.Deep.RegionWith
namespace Go.Proofs.Ytaekjcbgnlldoaa
open Go Go.RowKit

theorem blk9c {w : World} {b : Nat} {t : Tr} {a : Option Addr} {cap : Nat} {T : TypeId} (h : Blk w b (tC t a cap) T) :
    w.cell? ⟨b, 0, none⟩ = some (.int .i64 t.kind) ∧ w.cell? ⟨b, 1, none⟩ = some (.int .u64 (ow t.set 0)) ∧ w.cell? ⟨b, 2, none⟩ = some (.int .u64 (ow t.set 1)) ∧ w.cell? ⟨b, 3, none⟩ = some (.int .u64 (ow t.set 2)) ∧ w.cell? ⟨b, 4, none⟩ = some (.int .u64 (ow t.set 3)) ∧
    w.cell? ⟨b, 5, none⟩ = some (.slice a t.parts.length cap) ∧ w.cell? ⟨b, 6, none⟩ = some (.int .i64 t.mn) ∧ w.cell? ⟨b, 7, none⟩ = some (.int .i64 t.mx) ∧ w.cell? ⟨b, 8, none⟩ = some (.int .i64 t.num) :=
  ⟨(h.cell 0).trans rfl, (h.cell 1).trans rfl, (h.cell 2).trans rfl, (h.cell 3).trans rfl, (h.cell 4).trans rfl, (h.cell 5).trans rfl, (h.cell 6).trans rfl, (h.cell 7).trans rfl, (h.cell 8).trans rfl⟩
theorem nd_one_is {F : Nat → Prop} {n : Nat} {w : World} {s : OSet} {T : TypeId} {v : Value} (h : NdAt F n w (.one s) (.iface T v)) : T = 49 ∧ v = .agg #[.int .u64 (ow s 0), .int .u64 (ow s 1), .int .u64 (ow s 2), .int .u64 (ow s 3)] := by
  cases n with
  | zero => exact h.elim
  | succ n => injection (show Value.iface T v = .iface 49 (.agg #[.int .u64 (ow s 0), .int .u64 (ow s 1), .int .u64 (ow s 2), .int .u64 (ow s 3)]) from h) with h1 h2; exact ⟨h1, h2⟩
/-- Whether there is little of a node, in any later world. -/
theorem few_all {n : Nat} {w : World} {t : Tr} {a : Option Addr} {cap : Nat} (h : TrAt n w t a cap) (hb : tall t ≤ 1048576) (most : Int) (k : Nat) (hk : (k : Int) = most) :
    ∃ f : Bool, ∀ w', Below w.heap.size w w' → Calls Try.prog 7 #[tV t a cap, .int .i64 most] w' fun e w2 => e = .returned (.bool f) ∧ Below w'.heap.size w' w2 := by
  subst hk
  exact ⟨_, fun w' hw => lfew_any n t a cap k w' (TrAt.below hw _ _ _ _ h) (by omega)⟩
theorem canon_one (t : Tr) (h : t.kind ≠ 1) : ∀ s, canon t ≠ .one s := by
  intro s
  obtain ⟨k, s', mn, mx, num, ps⟩ := t
  have h1 : k ≠ 1 := h
  unfold canon
  rw [if_neg h1]
  repeat (split; · simp)
  simp
theorem nholds_no {d : Nd} (h : ∀ s, d ≠ .one s) (s : OSet) : nholds d s = false := by
  cases d <;> first | rfl | exact (h _ rfl).elim
theorem tall_size (t : Tr) (h : tall t ≤ 1048576) : nsize (canon t) ≤ 4000000 := by
  have := nsize_tall t
  omega
theorem trd_of {n : Nat} {w : World} {t : Tr} {a : Option Addr} {cap : Nat} (h : TrAt n w t a cap) : ∃ N, TrD N w t a cap := ⟨2 * n + 1, n, h, by have := kb_le t; omega⟩
/-- A set's four cells. -/
abbrev oc4 (s : OSet) : Array Value := #[.int .u64 (ow s 0), .int .u64 (ow s 1), .int .u64 (ow s 2), .int .u64 (ow s 3)]
structure HoldS (w0 : World) (t u : Tr) (a : Option Addr) (ca : Nat) (b : Option Addr) (cb : Nat) (p : Nat) (w' : World) : Prop where
  below : Below w0.heap.size w0 w'
  bt : Blk w' w0.heap.size (tC t a ca) 27
  bu : Blk w' (w0.heap.size + 1) (tC u b cb) 27
  bp : Blk w' p (oc4 t.set) 46
abbrev ReadS (w0 : World) (t u : Tr) (a : Option Addr) (ca : Nat) (b : Option Addr) (cb : Nat) (p : Nat) (w' : World) : Prop :=
  (w'.cell? ⟨w0.heap.size, 1, none⟩ = some (.int .u64 (ow t.set 0)) ∧ w'.cell? ⟨w0.heap.size, 2, none⟩ = some (.int .u64 (ow t.set 1)) ∧ w'.cell? ⟨w0.heap.size, 3, none⟩ = some (.int .u64 (ow t.set 2)) ∧ w'.cell? ⟨w0.heap.size, 4, none⟩ = some (.int .u64 (ow t.set 3))) ∧
  (w'.cell? ⟨w0.heap.size + 1, 1, none⟩ = some (.int .u64 (ow u.set 0)) ∧ w'.cell? ⟨w0.heap.size + 1, 2, none⟩ = some (.int .u64 (ow u.set 1)) ∧ w'.cell? ⟨w0.heap.size + 1, 3, none⟩ = some (.int .u64 (ow u.set 2)) ∧ w'.cell? ⟨w0.heap.size + 1, 4, none⟩ = some (.int .u64 (ow u.set 3))) ∧
  (w'.cell? ⟨p, 0, none⟩ = some (.int .u64 (ow t.set 0)) ∧ w'.cell? ⟨p, 1, none⟩ = some (.int .u64 (ow t.set 1)) ∧ w'.cell? ⟨p, 2, none⟩ = some (.int .u64 (ow t.set 2)) ∧ w'.cell? ⟨p, 3, none⟩ = some (.int .u64 (ow t.set 3))) ∧ HoldS w0 t u a ca b cb p w'
theorem HoldS.all {w0 : World} {t u : Tr} {a : Option Addr} {ca : Nat} {b : Option Addr} {cb : Nat} {p : Nat} {w' : World} (h : HoldS w0 t u a ca b cb p w') : ReadS w0 t u a ca b cb p w' :=
  ⟨⟨(h.bt.cell 1).trans rfl, (h.bt.cell 2).trans rfl, (h.bt.cell 3).trans rfl, (h.bt.cell 4).trans rfl⟩, ⟨(h.bu.cell 1).trans rfl, (h.bu.cell 2).trans rfl, (h.bu.cell 3).trans rfl, (h.bu.cell 4).trans rfl⟩,
    ⟨(h.bp.cell 0).trans rfl, (h.bp.cell 1).trans rfl, (h.bp.cell 2).trans rfl, (h.bp.cell 3).trans rfl⟩, h⟩
theorem reads_drew {w0 : World} {t u : Tr} {a : Option Addr} {ca : Nat} {b : Option Addr} {cb : Nat} {p : Nat} {w' : World} (h : ReadS w0 t u a ca b cb p w') : ReadS w0 t u a ca b cb p w'.drew :=
  HoldS.all ⟨h.2.2.2.below.drew, h.2.2.2.bt, h.2.2.2.bu, h.2.2.2.bp⟩
theorem reads_step {w0 : World} {t u : Tr} {a : Option Addr} {ca : Nat} {b : Option Addr} {cb : Nat} {p : Nat} {W W' : World} (hb : Below W.heap.size W W') (h : ReadS w0 t u a ca b cb p W) : ReadS w0 t u a ca b cb p W' :=
  HoldS.all ⟨h.2.2.2.below.trans (hb.mono h.2.2.2.below.size), h.2.2.2.bt.below hb h.2.2.2.bt.lt, h.2.2.2.bu.below hb h.2.2.2.bu.lt, h.2.2.2.bp.below hb h.2.2.2.bp.lt⟩
end Go.Proofs.Ytaekjcbgnlldoaa
