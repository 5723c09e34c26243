/- A set that comes in as an argument: it is four words. -/
import Derived.Test.YtjjhkagpoicimaaRows
import Derived.Test.YtjjhkagpoicimaaMaA
import Derived.WalkKit
import Derived.ProofKit
import Derived.OpenShut
namespace Go.Proofs.Ytjjhkagpoicimaa
open Go.ChangeShapes Go.WideShapes Go.ChangeAt Go.RowKit

theorem array4_list (cs : Array Value) (h : cs.size = 4) : ∃ a b c d, cs = #[a, b, c, d] := by
  match cs, h with
  | ⟨[a, b, c, d]⟩, _ => exact ⟨a, b, c, d, rfl⟩

theorem open_set_at {H : Type} {enc : TypeId × Value → H} {P : Program} {w : World} {r : Reach} {b0 base : Nat} {spare : Nat → Bool} {held : Bool} {t e : TypeId} {v : Value} {d : DataW H} {p : List MemPlace}
    (ht : P.underlying t = some (.array 4 e)) (he : P.underlying e = some (.int .u64)) (hct : P.cellsOf t = 4) (hce : P.cellsOf e = 1)
    (hv : Value.okWide P w r b0 t v) (h : DataW.Trod enc P w base spare held t v d p) : ∃ s : OSet, v = .agg #[.int .u64 (ow s 0), .int .u64 (ow s 1), .int .u64 (ow s 2), .int .u64 (ow s 3)] := by
  simp only [Value.okWide, ht] at hv
  obtain ⟨cs, rfl, hsz, _⟩ := hv
  rw [hct] at hsz
  obtain ⟨a, b, c, d', rfl⟩ := array4_list cs hsz
  obtain ⟨fuel, hf⟩ := h
  obtain ⟨xs, m, _, _, _, hxl, hx⟩ := DataW.trod_array ht hf
  rw [hce] at hx
  have hat : ∀ i, i < 4 → ∃ n, (([a, b, c, d'] : List Value).drop (i * 1)).take 1 = [.int .u64 n] ∧ (Lit.int .u64 n).wf = true := by
    intro i hi
    have h1 := hx i hi
    rw [List.getElem?_eq_getElem (by omega)] at h1
    obtain ⟨n, e1, _, e2⟩ := DataW.trod_int he h1
    exact ⟨n, e1, e2⟩
  obtain ⟨n0, e0, w0⟩ := hat 0 (by decide)
  obtain ⟨n1, e1, w1⟩ := hat 1 (by decide)
  obtain ⟨n2, e2, w2⟩ := hat 2 (by decide)
  obtain ⟨n3, e3, w3⟩ := hat 3 (by decide)
  simp at e0 e1 e2 e3
  subst e0 e1 e2 e3
  have b0 := bounds_u64 w0
  have b1 := bounds_u64 w1
  have b2 := bounds_u64 w2
  have b3 := bounds_u64 w3
  obtain ⟨s, rfl, rfl, rfl, rfl⟩ := oset_of n0 n1 n2 n3 b0.1 (by omega) b1.1 (by omega) b2.1 (by omega) b3.1 (by omega)
  exact ⟨s, rfl⟩

set_option maxRecDepth 100000 in
theorem open_set {H : Type} {enc : TypeId × Value → H} {w : World} {r : Reach} {b0 base : Nat} {spare : Nat → Bool} {held : Bool} {v : Value} {d : DataW H} {p : List MemPlace}
    (hv : Value.okWide Try.prog w r b0 24 v) (h : DataW.Trod enc Try.prog w base spare held 24 v d p) : ∃ s : OSet, v = .agg #[.int .u64 (ow s 0), .int .u64 (ow s 1), .int .u64 (ow s 2), .int .u64 (ow s 3)] :=
  open_set_at Try.underlying24 Try.underlying22 (by kernel_rfl) (by kernel_rfl) hv h

theorem own : ownKnob Try.prog.godebug = none := by kernel_rfl
theorem laidOut : laidOutB Try.prog = true := by kernel_rfl

/-- What a slice of numbers that comes in is: nil; or a row of 'cap' cells, the numbers 'zs' (the first 'len' are its elements), each of its kind. -/
def IsRow (k : IntKind) (w : World) (a : Option Addr) (len cap : Nat) (zs : List Int) : Prop :=
  (a = none ∧ len = 0 ∧ cap = 0 ∧ zs = []) ∨
  ∃ x, a = some x ∧ len ≤ cap ∧ cap ≤ maxLen ∧ zs.length = cap ∧ (∀ i, i < zs.length → w.cell? (x.add i) = some (.int k (zs.getD i 0))) ∧ ∀ n ∈ zs, (Lit.int k n).wf = true

end Go.Proofs.Ytjjhkagpoicimaa
