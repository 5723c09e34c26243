/- The document's trees in memory: a node as a value, its parts in a row; an argument of that type is one. -/
import Derived.Test.YtaekjcbgnlldoaaTrMath
import Derived.Test.YtaekjcbgnlldoaaOctOpen
import Derived.Test.YtaekjcbgnlldoaaBlk
import Derived.WalkKit
import Derived.Deep.Slices
import Derived.Lib.LaidTab
namespace Go.Proofs.Ytaekjcbgnlldoaa
open Go.ChangeShapes Go.WideShapes Go.ChangeAt Go.RowKit

/-- A node as a value: its parts lie at a. -/
def tV (t : Tr) (a : Option Addr) (cap : Nat) : Value :=
  .agg #[.int .i64 t.kind, .int .u64 (ow t.set 0), .int .u64 (ow t.set 1), .int .u64 (ow t.set 2), .int .u64 (ow t.set 3), .slice a t.parts.length cap, .int .i64 t.mn, .int .i64 t.mx, .int .i64 t.num]
/-- A node's nine cells. -/
structure Cl9 (w : World) (b o : Nat) (t : Tr) (a : Option Addr) (cap : Nat) : Prop where
  k : w.cell? ⟨b, o, none⟩ = some (.int .i64 t.kind)
  s0 : w.cell? ⟨b, o + 1, none⟩ = some (.int .u64 (ow t.set 0))
  s1 : w.cell? ⟨b, o + 2, none⟩ = some (.int .u64 (ow t.set 1))
  s2 : w.cell? ⟨b, o + 3, none⟩ = some (.int .u64 (ow t.set 2))
  s3 : w.cell? ⟨b, o + 4, none⟩ = some (.int .u64 (ow t.set 3))
  p : w.cell? ⟨b, o + 5, none⟩ = some (.slice a t.parts.length cap)
  mn : w.cell? ⟨b, o + 6, none⟩ = some (.int .i64 t.mn)
  mx : w.cell? ⟨b, o + 7, none⟩ = some (.int .i64 t.mx)
  num : w.cell? ⟨b, o + 8, none⟩ = some (.int .i64 t.num)
/-- A node's parts lie in a row at a, each with its own. -/
def TrAt : Nat → World → Tr → Option Addr → Nat → Prop
  | 0, _, _, _, _ => False
  | n + 1, w, t, a, cap => t.parts.length ≤ cap ∧ cap ≤ maxLen ∧ (0 < t.parts.length → ∃ b o, a = some ⟨b, o, none⟩ ∧ b < w.heap.size ∧ ∀ i (h : i < t.parts.length), ∃ a' cap', Cl9 w b (o + i * 9) t.parts[i] a' cap' ∧ TrAt n w t.parts[i] a' cap')
theorem Cl9.below {w w' : World} {b o : Nat} {t : Tr} {a : Option Addr} {cap : Nat} {B : Nat} (h : Cl9 w b o t a cap) (hb : Below B w w') (hB : b < B) : Cl9 w' b o t a cap :=
  ⟨(hb.cell (p := ⟨b, _, none⟩) hB).trans h.k, (hb.cell (p := ⟨b, _, none⟩) hB).trans h.s0, (hb.cell (p := ⟨b, _, none⟩) hB).trans h.s1, (hb.cell (p := ⟨b, _, none⟩) hB).trans h.s2, (hb.cell (p := ⟨b, _, none⟩) hB).trans h.s3,
   (hb.cell (p := ⟨b, _, none⟩) hB).trans h.p, (hb.cell (p := ⟨b, _, none⟩) hB).trans h.mn, (hb.cell (p := ⟨b, _, none⟩) hB).trans h.mx, (hb.cell (p := ⟨b, _, none⟩) hB).trans h.num⟩
theorem TrAt.below {w w' : World} (hb : Below w.heap.size w w') : ∀ (n : Nat) (t : Tr) (a : Option Addr) (cap : Nat), TrAt n w t a cap → TrAt n w' t a cap := by
  intro n
  induction n with
  | zero => intro t a cap h; exact h
  | succ n ih =>
    intro t a cap h
    unfold TrAt at h ⊢
    refine ⟨h.1, h.2.1, fun h0 => ?_⟩
    obtain ⟨b, o, rfl, hlt, hk⟩ := h.2.2 h0
    refine ⟨b, o, rfl, Nat.lt_of_lt_of_le hlt hb.size, fun i hi => ?_⟩
    obtain ⟨a', cap', h9, hr⟩ := hk i hi
    exact ⟨a', cap', h9.below hb hlt, ih _ _ _ hr⟩
theorem TrAt.drew {w : World} : ∀ (n : Nat) (t : Tr) (a : Option Addr) (cap : Nat), TrAt n w t a cap → TrAt n w.drew t a cap := TrAt.below (Below.drew (Below.refl _ _))
theorem TrAt.len {n : Nat} {w : World} {t : Tr} {a : Option Addr} {cap : Nat} (h : TrAt n w t a cap) : t.parts.length ≤ cap ∧ cap ≤ maxLen := by
  cases n with
  | zero => exact h.elim
  | succ n => exact ⟨h.1, h.2.1⟩
/-- More depth than is needed. -/
theorem TrAt.more {w : World} : ∀ (n m : Nat) (t : Tr) (a : Option Addr) (cap : Nat), n ≤ m → TrAt n w t a cap → TrAt m w t a cap := by
  intro n
  induction n with
  | zero => intro m t a cap _ h; exact h.elim
  | succ n ih =>
    intro m t a cap hm h
    obtain ⟨m, rfl⟩ : ∃ m', m = m' + 1 := ⟨m - 1, by omega⟩
    unfold TrAt at h ⊢
    refine ⟨h.1, h.2.1, fun h0 => ?_⟩
    obtain ⟨b, o, rfl, hlt, hk⟩ := h.2.2 h0
    refine ⟨b, o, rfl, hlt, fun i hi => ?_⟩
    obtain ⟨a', cap', h9, hr⟩ := hk i hi
    exact ⟨a', cap', h9, ih _ _ _ _ (by omega) hr⟩

theorem open_words {H : Type} {enc : TypeId × Value → H} {P : Program} {w : World} {base : Nat} {spare : Nat → Bool} {held : Bool} {fuel : Nat} {t e : TypeId} {cs : List Value} {x : DataW H × List MemPlace}
    (ht : P.underlying t = some (.array 4 e)) (he : P.underlying e = some (.int .u64)) (hct : P.cellsOf t = 4) (hce : P.cellsOf e = 1)
    (h : DataW.trod enc P w base spare held fuel t cs = some x) : ∃ s : OSet, cs = [.int .u64 (ow s 0), .int .u64 (ow s 1), .int .u64 (ow s 2), .int .u64 (ow s 3)] := by
  obtain ⟨xs, m, _, _, hlen, hxl, hx⟩ := DataW.trod_array ht h
  rw [hct] at hlen
  obtain ⟨a, b, c, d', rfl⟩ : ∃ a b c d, cs = [a, b, c, d] := by
    match cs, hlen with
    | [a, b, c, d], _ => exact ⟨a, b, c, d, rfl⟩
  rw [hce] at hx
  have hat : ∀ i, i < 4 → ∃ n, (([a, b, c, d'] : List Value).drop (i * 1)).take 1 = [.int .u64 n] ∧ (Lit.int .u64 n).wf = true := by
    intro i hi
    have h1 := hx i hi
    rw [List.getElem?_eq_getElem (by omega)] at h1
    obtain ⟨n, e1, _, e2⟩ := DataW.trod_int he h1
    exact ⟨n, e1, e2⟩
  obtain ⟨n0, e0, w0⟩ := hat 0 (by decide)
  obtain ⟨n1, e1, w1⟩ := hat 1 (by decide)
  obtain ⟨n2, e2, w2⟩ := hat 2 (by decide)
  obtain ⟨n3, e3, w3⟩ := hat 3 (by decide)
  simp at e0 e1 e2 e3
  subst e0 e1 e2 e3
  have b0 := bounds_u64 w0
  have b1 := bounds_u64 w1
  have b2 := bounds_u64 w2
  have b3 := bounds_u64 w3
  obtain ⟨s, rfl, rfl, rfl, rfl⟩ := oset_of n0 n1 n2 n3 b0.1 (by omega) b1.1 (by omega) b2.1 (by omega) b3.1 (by omega)
  exact ⟨s, rfl⟩
theorem cells_at {w : World} {base n : Nat} {a : Addr} {cs : List Value} (h : w.cells? base a n = some cs) (j : Nat) (hj : j < n) : ∃ v, cs[j]? = some v ∧ w.cell? (a.add j) = some v := by
  unfold World.cells? at h
  split at h
  · exact Lib.mapM_at h j j (by simp [hj])
  · cases h
/-- How much there is in what is read, piece by piece. -/
theorem bulk_mem {H : Type} (ds : List (DataW H)) (i : Nat) (h : i < ds.length) : Rows.uptoBulk ds[i] ≤ Rows.uptoBulkAll ds := by
  induction ds generalizing i with
  | nil => simp at h
  | cons d ds ih =>
    rw [Rows.uptoBulkAll]
    cases i with
    | zero => simp
    | succ i => have := ih i (by simpa using h); simp; omega
theorem bulk_talls {H : Type} (ps : List Tr) (ds : List (DataW H)) (hl : ps.length = ds.length) (h : ∀ i (h1 : i < ps.length) (h2 : i < ds.length), tall ps[i] ≤ Rows.uptoBulk ds[i]) : talls ps ≤ Rows.uptoBulkAll ds := by
  induction ps generalizing ds with
  | nil => simp [talls]
  | cons t ts ih =>
    cases ds with
    | nil => simp at hl
    | cons d ds =>
      rw [talls, Rows.uptoBulkAll]
      have h0 := h 0 (by simp) (by simp)
      have h1 := ih ds (by simpa using hl) (fun i a b => h (i + 1) (by simpa using a) (by simpa using b))
      simp at h0
      omega
theorem cellsT : Try.prog.cellsOf 27 = 9 := by kernel_rfl
set_option maxRecDepth 100000 in
/-- Cells that read as a node are one. -/
theorem open_tr {H : Type} {enc : TypeId × Value → H} {w : World} {base : Nat} {spare : Nat → Bool} {held : Bool} : ∀ (fuel : Nat) (cs : List Value) (x : DataW H × List MemPlace),
    DataW.trod enc Try.prog w base spare held fuel 27 cs = some x → ∃ t a cap n, cs = [.int .i64 t.kind, .int .u64 (ow t.set 0), .int .u64 (ow t.set 1), .int .u64 (ow t.set 2), .int .u64 (ow t.set 3), .slice a t.parts.length cap, .int .i64 t.mn, .int .i64 t.mx, .int .i64 t.num] ∧ TrAt n w t a cap ∧ tall t ≤ Rows.uptoBulk x.1 := by
  intro fuel
  induction fuel using Nat.strongRecOn with
  | _ fuel ih =>
    intro cs x h
    obtain ⟨xs, n, hf, hxe, hlen, hxl, hx⟩ := DataW.trod_struct Try.underlying27 h
    rw [cellsT] at hlen
    obtain ⟨c0, c1, c2, c3, c4, c5, c6, c7, c8, rfl⟩ : ∃ c0 c1 c2 c3 c4 c5 c6 c7 c8, cs = [c0, c1, c2, c3, c4, c5, c6, c7, c8] := by
      match cs, hlen with
      | [c0, c1, c2, c3, c4, c5, c6, c7, c8], _ => exact ⟨c0, c1, c2, c3, c4, c5, c6, c7, c8, rfl⟩
    have ci : Try.prog.cellsOf 3 = 1 := by kernel_rfl
    have cs4 : Try.prog.cellsOf 24 = 4 := by kernel_rfl
    have cp : Try.prog.cellsOf 25 = 1 := by kernel_rfl
    have hxl6 : xs.length = 6 := hxl
    have h0 : DataW.trod enc Try.prog w base spare held n 3 (([c0, c1, c2, c3, c4, c5, c6, c7, c8].drop 0).take (Try.prog.cellsOf 3)) = xs[0]? := hx 0 _ rfl
    rw [ci, List.getElem?_eq_getElem (show 0 < xs.length by omega)] at h0
    replace h0 : DataW.trod enc Try.prog w base spare held n 3 [c0] = some (xs[0]'(by omega)) := h0
    have h1 : DataW.trod enc Try.prog w base spare held n 24 (([c0, c1, c2, c3, c4, c5, c6, c7, c8].drop 1).take (Try.prog.cellsOf 24)) = xs[1]? := hx 1 _ rfl
    rw [cs4, List.getElem?_eq_getElem (show 1 < xs.length by omega)] at h1
    replace h1 : DataW.trod enc Try.prog w base spare held n 24 [c1, c2, c3, c4] = some (xs[1]'(by omega)) := h1
    have h2 : DataW.trod enc Try.prog w base spare held n 25 (([c0, c1, c2, c3, c4, c5, c6, c7, c8].drop 5).take (Try.prog.cellsOf 25)) = xs[2]? := hx 2 _ rfl
    rw [cp, List.getElem?_eq_getElem (show 2 < xs.length by omega)] at h2
    replace h2 : DataW.trod enc Try.prog w base spare held n 25 [c5] = some (xs[2]'(by omega)) := h2
    have h3 : DataW.trod enc Try.prog w base spare held n 3 (([c0, c1, c2, c3, c4, c5, c6, c7, c8].drop 6).take (Try.prog.cellsOf 3)) = xs[3]? := hx 3 _ rfl
    rw [ci, List.getElem?_eq_getElem (show 3 < xs.length by omega)] at h3
    replace h3 : DataW.trod enc Try.prog w base spare held n 3 [c6] = some (xs[3]'(by omega)) := h3
    have h4 : DataW.trod enc Try.prog w base spare held n 3 (([c0, c1, c2, c3, c4, c5, c6, c7, c8].drop 7).take (Try.prog.cellsOf 3)) = xs[4]? := hx 4 _ rfl
    rw [ci, List.getElem?_eq_getElem (show 4 < xs.length by omega)] at h4
    replace h4 : DataW.trod enc Try.prog w base spare held n 3 [c7] = some (xs[4]'(by omega)) := h4
    have h5 : DataW.trod enc Try.prog w base spare held n 3 (([c0, c1, c2, c3, c4, c5, c6, c7, c8].drop 8).take (Try.prog.cellsOf 3)) = xs[5]? := hx 5 _ rfl
    rw [ci, List.getElem?_eq_getElem (show 5 < xs.length by omega)] at h5
    replace h5 : DataW.trod enc Try.prog w base spare held n 3 [c8] = some (xs[5]'(by omega)) := h5
    obtain ⟨z0, e0, _, _⟩ := DataW.trod_int Try.underlying3 h0
    obtain ⟨s, e1⟩ := open_words Try.underlying24 Try.underlying22 (by kernel_rfl) (by kernel_rfl) h1
    obtain ⟨z3, e3, _, _⟩ := DataW.trod_int Try.underlying3 h3
    obtain ⟨z4, e4, _, _⟩ := DataW.trod_int Try.underlying3 h4
    obtain ⟨z5, e5, _, _⟩ := DataW.trod_int Try.underlying3 h5
    simp only [List.cons.injEq, and_true] at e0 e1 e3 e4 e5
    obtain ⟨rfl, rfl, rfl, rfl⟩ := e1
    subst e0 e3 e4 e5
    have hbk := bulk_mem (xs.map (·.1)) 2 (by rw [List.length_map]; omega)
    rw [List.getElem_map] at hbk
    have hxb : Rows.uptoBulk x.1 = Rows.uptoBulkAll (xs.map (·.1)) + 1 := by rw [hxe]; rfl
    rcases DataW.trod_slice Try.underlying25 h2 with ⟨e2, _⟩ | ⟨a, len, cap, elems, rest, m, hm, e2, hxs, _, hl, hcm, hel, hread, _, _⟩
    · simp only [List.cons.injEq, and_true] at e2
      subst e2
      exact ⟨.mk z0 s z3 z4 z5 [], none, 0, 1, rfl, ⟨Nat.le_refl 0, Nat.zero_le _, fun h0 => absurd h0 (by simp [Tr.parts])⟩, by rw [hxb, tall, talls]; omega⟩
    · simp only [List.cons.injEq, and_true] at e2
      subst e2
      rw [cellsT] at hread
      have hone : ∀ i, i < len → ∃ q : Tr × Option Addr × Nat × Nat, ∃ cs', w.cells? base (a.add (i * 9)) 9 = some cs' ∧ cs' = [.int .i64 q.1.kind, .int .u64 (ow q.1.set 0), .int .u64 (ow q.1.set 1), .int .u64 (ow q.1.set 2), .int .u64 (ow q.1.set 3), .slice q.2.1 q.1.parts.length q.2.2.1, .int .i64 q.1.mn, .int .i64 q.1.mx, .int .i64 q.1.num] ∧ TrAt q.2.2.2 w q.1 q.2.1 q.2.2.1 ∧ ∀ hie : i < elems.length, tall q.1 ≤ Rows.uptoBulk (elems[i]).1 := by
        intro i hi
        have h6 := hread i hi
        rw [List.getElem?_eq_getElem (show i < elems.length by omega)] at h6
        obtain ⟨cs', hc, ht⟩ := Option.bind_eq_some_iff.1 h6
        obtain ⟨t, a', cap', n', h7, h8, h9⟩ := ih m (by omega) cs' _ ht
        exact ⟨(t, a', cap', n'), cs', hc, h7, h8, fun _ => h9⟩
      obtain ⟨Q, hQ⟩ := Go.Deep.choose_lt hone
      obtain ⟨N, hN⟩ : ∃ N, ∀ i, i < len → (Q i).2.2.2 ≤ N := Go.Deep.fuel_lt (q := fun i N => (Q i).2.2.2 ≤ N) (fun _ _ _ h h2 => Nat.le_trans h2 h) fun i _ => ⟨_, Nat.le_refl _⟩
      refine ⟨.mk z0 s z3 z4 z5 ((List.range len).map fun i => (Q i).1), some a, cap, N + 1, by simp [Tr.kind, Tr.set, Tr.parts, Tr.mn, Tr.mx, Tr.num], ⟨?_, hcm, fun h0 => ?_⟩, ?_⟩
      · simpa [Tr.parts] using hl
      · have hl0 : 0 < len := by simpa [Tr.parts] using h0
        obtain ⟨cs0, g0, _, _, _⟩ := hQ 0 hl0
        obtain ⟨u0, hu0⟩ := cells_at g0 0 (by decide)
        obtain ⟨b, o, spot⟩ := a
        have hspot : spot = none := by
          rw [Go.Deep.add_add] at hu0
          simpa [Addr.add] using World.cell?_spot hu0.2
        subst hspot
        refine ⟨b, o, rfl, ?_, fun i hi => ?_⟩
        · have h9 := hu0.2
          rw [Go.Deep.add_add, Go.WideShapes.add_plain] at h9
          exact World.block_lt_of_cell? w _ h9
        · have hil : i < len := by simpa [Tr.parts] using hi
          obtain ⟨cs', g1, g2, g3, _⟩ := hQ i hil
          have hpart : (Tr.mk z0 s z3 z4 z5 ((List.range len).map fun i => (Q i).1)).parts[i] = (Q i).1 := by simp [Tr.parts]
          rw [hpart]
          refine ⟨(Q i).2.1, (Q i).2.2.1, ?_, TrAt.more _ _ _ _ _ (hN i hil) g3⟩
          have hj : ∀ j v, cs'[j]? = some v → w.cell? ⟨b, o + i * 9 + j, none⟩ = some v := fun j v hv => by
            have hj9 : j < 9 := by
              rcases Nat.lt_or_ge j 9 with h | h
              · exact h
              · rw [g2, List.getElem?_eq_none (by simpa using h)] at hv
                cases hv
            obtain ⟨u, hu1, hu2⟩ := cells_at g1 j hj9
            rw [Go.Deep.add_add, Go.WideShapes.add_plain, hv] at *
            rw [← Nat.add_assoc] at hu2
            rw [hu2, hu1]
          subst g2
          exact ⟨hj 0 _ rfl, hj 1 _ rfl, hj 2 _ rfl, hj 3 _ rfl, hj 4 _ rfl, hj 5 _ rfl, hj 6 _ rfl, hj 7 _ rfl, hj 8 _ rfl⟩
      · have hta := bulk_talls ((List.range len).map fun i => (Q i).1) (elems.map (·.1)) (by simp [hel]) (fun i h1 h2 => by
          have hie : i < elems.length := by simpa using h2
          obtain ⟨_, _, _, _, g5⟩ := hQ i (by omega)
          simpa using g5 hie)
        have h2e : Rows.uptoBulk ((xs[2]'(by omega)).1) = Rows.uptoBulkAll (elems.map (·.1)) + Rows.uptoBulkAll (rest.map (·.1)) + 1 := by rw [hxs]; rfl
        rw [tall, hxb]
        omega
/-- An argument of that type is a node. -/
theorem open_tree {H : Type} {enc : TypeId × Value → H} {w : World} {r : Reach} {b0 base : Nat} {spare : Nat → Bool} {held : Bool} {v : Value} {d : DataW H} {p : List MemPlace}
    (hv : Value.okWide Try.prog w r b0 27 v) (h : DataW.Trod enc Try.prog w base spare held 27 v d p) : ∃ t a cap n, v = tV t a cap ∧ TrAt n w t a cap ∧ tall t ≤ Rows.uptoBulk d := by
  simp only [Value.okWide, Try.underlying27] at hv
  obtain ⟨cs, rfl, _, _⟩ := hv
  obtain ⟨fuel, hf⟩ := h
  obtain ⟨t, a, cap, n, h1, h2, h4⟩ := open_tr fuel _ _ hf
  refine ⟨t, a, cap, n, ?_, h2, h4⟩
  unfold tV
  have h3 : cs.toList = _ := h1
  rw [← h3]
end Go.Proofs.Ytaekjcbgnlldoaa
