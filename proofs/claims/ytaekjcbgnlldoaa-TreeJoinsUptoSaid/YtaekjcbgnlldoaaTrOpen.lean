/- A list of the document's nodes that comes in as an argument. -/
import Derived.Test.YtaekjcbgnlldoaaTrAt
namespace Go.Proofs.Ytaekjcbgnlldoaa
open Go.ChangeShapes Go.WideShapes Go.ChangeAt Go.RowKit

set_option maxRecDepth 100000 in
theorem open_trees {H : Type} {enc : TypeId × Value → H} {w : World} {r : Reach} {b0 base : Nat} {spare : Nat → Bool} {held : Bool} {v : Value} {d : DataW H} {p : List MemPlace}
    (hv : Value.okWide Try.prog w r b0 25 v) (h : DataW.Trod enc Try.prog w base spare held 25 v d p) : ∃ l a cap n, v = .slice a (List.length l) cap ∧ TrAt n w (.mk 0 oz 0 0 0 l) a cap ∧ 1 + talls l ≤ Rows.uptoBulk d := by
  have hsl : ∃ a len cap, v = .slice a len cap := by
    simp only [Value.okWide, Try.underlying25] at hv
    simp only [Cell.okWide, Try.underlying25] at hv
    simp only [Cell.ok, Try.underlying25] at hv
    cases v <;> first | exact ⟨_, _, _, rfl⟩ | exact hv.elim
  obtain ⟨a0, len0, cap0, rfl⟩ := hsl
  obtain ⟨fuel, hf⟩ := h
  rcases DataW.trod_slice Try.underlying25 hf with ⟨e2, hd⟩ | ⟨a, len, cap, elems, rest, m, hm, e2, hxs, _, hl, hcm, hel, hread, _, _⟩
  · simp [Value.cells] at e2
    obtain ⟨rfl, rfl, rfl⟩ := e2
    refine ⟨[], none, 0, 1, rfl, ⟨Nat.le_refl 0, Nat.zero_le _, fun h0 => absurd h0 (by simp [Tr.parts])⟩, ?_⟩
    injection hd with hd1 hd2
    rw [hd1]
    simp [talls, Rows.uptoBulk]
  · simp [Value.cells] at e2
    obtain ⟨rfl, rfl, rfl⟩ := e2
    rw [cellsT] at hread
    have hone : ∀ i, i < len0 → ∃ q : Tr × Option Addr × Nat × Nat, ∃ cs', w.cells? base (a.add (i * 9)) 9 = some cs' ∧ cs' = [.int .i64 q.1.kind, .int .u64 (ow q.1.set 0), .int .u64 (ow q.1.set 1), .int .u64 (ow q.1.set 2), .int .u64 (ow q.1.set 3), .slice q.2.1 q.1.parts.length q.2.2.1, .int .i64 q.1.mn, .int .i64 q.1.mx, .int .i64 q.1.num] ∧ TrAt q.2.2.2 w q.1 q.2.1 q.2.2.1 ∧ ∀ hie : i < elems.length, tall q.1 ≤ Rows.uptoBulk (elems[i]).1 := by
      intro i hi
      have h6 := hread i hi
      rw [List.getElem?_eq_getElem (show i < elems.length by omega)] at h6
      obtain ⟨cs', hc, ht⟩ := Option.bind_eq_some_iff.1 h6
      obtain ⟨t, a', cap', n', h7, h8, h9⟩ := open_tr m cs' _ ht
      exact ⟨(t, a', cap', n'), cs', hc, h7, h8, fun _ => h9⟩
    obtain ⟨Q, hQ⟩ := Go.Deep.choose_lt hone
    obtain ⟨N, hN⟩ : ∃ N, ∀ i, i < len0 → (Q i).2.2.2 ≤ N := Go.Deep.fuel_lt (q := fun i N => (Q i).2.2.2 ≤ N) (fun _ _ _ h h2 => Nat.le_trans h2 h) fun i _ => ⟨_, Nat.le_refl _⟩
    refine ⟨(List.range len0).map fun i => (Q i).1, some a, cap0, N + 1, by simp, ⟨?_, hcm, fun h0 => ?_⟩, ?_⟩
    · simpa [Tr.parts] using hl
    · have hl0 : 0 < len0 := by simpa [Tr.parts] using h0
      obtain ⟨cs0, g0, _, _, _⟩ := hQ 0 hl0
      obtain ⟨u0, hu0⟩ := cells_at g0 0 (by decide)
      obtain ⟨b, o, spot⟩ := a
      have hspot : spot = none := by
        rw [Go.Deep.add_add] at hu0
        simpa [Addr.add] using World.cell?_spot hu0.2
      subst hspot
      refine ⟨b, o, rfl, ?_, fun i hi => ?_⟩
      · have h9 := hu0.2
        rw [Go.Deep.add_add, Go.WideShapes.add_plain] at h9
        exact World.block_lt_of_cell? w _ h9
      · have hil : i < len0 := by simpa [Tr.parts] using hi
        obtain ⟨cs', g1, g2, g3, _⟩ := hQ i hil
        have hpart : (Tr.mk 0 oz 0 0 0 ((List.range len0).map fun i => (Q i).1)).parts[i] = (Q i).1 := by simp [Tr.parts]
        rw [hpart]
        refine ⟨(Q i).2.1, (Q i).2.2.1, ?_, TrAt.more _ _ _ _ _ (hN i hil) g3⟩
        have hj : ∀ j v, cs'[j]? = some v → w.cell? ⟨b, o + i * 9 + j, none⟩ = some v := fun j v hv => by
          have hj9 : j < 9 := by
            rcases Nat.lt_or_ge j 9 with h | h
            · exact h
            · rw [g2, List.getElem?_eq_none (by simpa using h)] at hv
              cases hv
          obtain ⟨u, hu1, hu2⟩ := cells_at g1 j hj9
          rw [Go.Deep.add_add, Go.WideShapes.add_plain, hv] at *
          rw [← Nat.add_assoc] at hu2
          rw [hu2, hu1]
        subst g2
        exact ⟨hj 0 _ rfl, hj 1 _ rfl, hj 2 _ rfl, hj 3 _ rfl, hj 4 _ rfl, hj 5 _ rfl, hj 6 _ rfl, hj 7 _ rfl, hj 8 _ rfl⟩
    · have hta := bulk_talls ((List.range len0).map fun i => (Q i).1) (elems.map (·.1)) (by simp [hel]) (fun i h1 h2 => by
        have hie : i < elems.length := by simpa using h2
        obtain ⟨_, _, _, _, g5⟩ := hQ i (by omega)
        simpa using g5 hie)
      have h2e : Rows.uptoBulk d = Rows.uptoBulkAll (elems.map (·.1)) + Rows.uptoBulkAll (rest.map (·.1)) + 1 := by
        have := congrArg Prod.fst hxs
        simp at this
        rw [this]
        rfl
      omega
end Go.Proofs.Ytaekjcbgnlldoaa
