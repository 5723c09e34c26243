/- TrAt: The document's trees in memory: a node as a value, its parts in a row; an argument of that type is one.
   TrWalkA: Walks over the document's trees: how much there is of a node; whether all kinds are known.
   TrWalkB: Walks over the document's trees: what a node is of; its parts; how many nodes.
   TrWalkC: Walks over the document's trees: Size, Deep, Groups, Backs.
   TrSame: Equality of the document's sets; a node's nine cells. -/
import Derived.Test.YtacpoandhocmhaaDoorMaA
import Derived.Test.YtacpoandhocmhaaDoorOctOpen
import Derived.Test.YtacpoandhocmhaaDoorMaB
import Derived.WalkKit
import Derived.Deep.Slices
import Derived.Lib.LaidTab
import Derived.Lib.Hide
import Derived.ChangeKeysEq
import Derived.Deep.RegionHeld3
import Derived.Deep.DeepCutAuto
import Derived.Deep.RegionWith
import Derived.Deep.QuietTactic
namespace Go.Proofs.YtacpoandhocmhaaDoor
open Go.ChangeShapes Go.WideShapes Go.ChangeAt Go.RowKit

/-- A node as a value: its parts lie at a. -/
def tV (t : Tr) (a : Option Addr) (cap : Nat) : Value :=
  .agg #[.int .i64 t.kind, .int .u64 (ow t.set 0), .int .u64 (ow t.set 1), .int .u64 (ow t.set 2), .int .u64 (ow t.set 3), .slice a t.parts.length cap, .int .i64 t.mn, .int .i64 t.mx, .int .i64 t.num]
/-- A node's nine cells. -/
structure Cl9 (w : World) (b o : Nat) (t : Tr) (a : Option Addr) (cap : Nat) : Prop where
  k : w.cell? ⟨b, o, none⟩ = some (.int .i64 t.kind)
  s0 : w.cell? ⟨b, o + 1, none⟩ = some (.int .u64 (ow t.set 0))
  s1 : w.cell? ⟨b, o + 2, none⟩ = some (.int .u64 (ow t.set 1))
  s2 : w.cell? ⟨b, o + 3, none⟩ = some (.int .u64 (ow t.set 2))
  s3 : w.cell? ⟨b, o + 4, none⟩ = some (.int .u64 (ow t.set 3))
  p : w.cell? ⟨b, o + 5, none⟩ = some (.slice a t.parts.length cap)
  mn : w.cell? ⟨b, o + 6, none⟩ = some (.int .i64 t.mn)
  mx : w.cell? ⟨b, o + 7, none⟩ = some (.int .i64 t.mx)
  num : w.cell? ⟨b, o + 8, none⟩ = some (.int .i64 t.num)
/-- A node's parts lie in a row at a, each with its own. -/
def TrAt : Nat → World → Tr → Option Addr → Nat → Prop
  | 0, _, _, _, _ => False
  | n + 1, w, t, a, cap => t.parts.length ≤ cap ∧ cap ≤ maxLen ∧ (0 < t.parts.length → ∃ b o, a = some ⟨b, o, none⟩ ∧ b < w.heap.size ∧ ∀ i (h : i < t.parts.length), ∃ a' cap', Cl9 w b (o + i * 9) t.parts[i] a' cap' ∧ TrAt n w t.parts[i] a' cap')
theorem Cl9.below {w w' : World} {b o : Nat} {t : Tr} {a : Option Addr} {cap : Nat} {B : Nat} (h : Cl9 w b o t a cap) (hb : Below B w w') (hB : b < B) : Cl9 w' b o t a cap :=
  ⟨(hb.cell (p := ⟨b, _, none⟩) hB).trans h.k, (hb.cell (p := ⟨b, _, none⟩) hB).trans h.s0, (hb.cell (p := ⟨b, _, none⟩) hB).trans h.s1, (hb.cell (p := ⟨b, _, none⟩) hB).trans h.s2, (hb.cell (p := ⟨b, _, none⟩) hB).trans h.s3,
   (hb.cell (p := ⟨b, _, none⟩) hB).trans h.p, (hb.cell (p := ⟨b, _, none⟩) hB).trans h.mn, (hb.cell (p := ⟨b, _, none⟩) hB).trans h.mx, (hb.cell (p := ⟨b, _, none⟩) hB).trans h.num⟩
theorem TrAt.below {w w' : World} (hb : Below w.heap.size w w') : ∀ (n : Nat) (t : Tr) (a : Option Addr) (cap : Nat), TrAt n w t a cap → TrAt n w' t a cap := by
  intro n
  induction n with
  | zero => intro t a cap h; exact h
  | succ n ih =>
    intro t a cap h
    unfold TrAt at h ⊢
    refine ⟨h.1, h.2.1, fun h0 => ?_⟩
    obtain ⟨b, o, rfl, hlt, hk⟩ := h.2.2 h0
    refine ⟨b, o, rfl, Nat.lt_of_lt_of_le hlt hb.size, fun i hi => ?_⟩
    obtain ⟨a', cap', h9, hr⟩ := hk i hi
    exact ⟨a', cap', h9.below hb hlt, ih _ _ _ hr⟩
theorem TrAt.drew {w : World} : ∀ (n : Nat) (t : Tr) (a : Option Addr) (cap : Nat), TrAt n w t a cap → TrAt n w.drew t a cap := TrAt.below (Below.drew (Below.refl _ _))
theorem TrAt.len {n : Nat} {w : World} {t : Tr} {a : Option Addr} {cap : Nat} (h : TrAt n w t a cap) : t.parts.length ≤ cap ∧ cap ≤ maxLen := by
  cases n with
  | zero => exact h.elim
  | succ n => exact ⟨h.1, h.2.1⟩
/-- More depth than is needed. -/
theorem TrAt.more {w : World} : ∀ (n m : Nat) (t : Tr) (a : Option Addr) (cap : Nat), n ≤ m → TrAt n w t a cap → TrAt m w t a cap := by
  intro n
  induction n with
  | zero => intro m t a cap _ h; exact h.elim
  | succ n ih =>
    intro m t a cap hm h
    obtain ⟨m, rfl⟩ : ∃ m', m = m' + 1 := ⟨m - 1, by omega⟩
    unfold TrAt at h ⊢
    refine ⟨h.1, h.2.1, fun h0 => ?_⟩
    obtain ⟨b, o, rfl, hlt, hk⟩ := h.2.2 h0
    refine ⟨b, o, rfl, hlt, fun i hi => ?_⟩
    obtain ⟨a', cap', h9, hr⟩ := hk i hi
    exact ⟨a', cap', h9, ih _ _ _ _ (by omega) hr⟩

theorem open_words {H : Type} {enc : TypeId × Value → H} {P : Program} {w : World} {base : Nat} {spare : Nat → Bool} {held : Bool} {fuel : Nat} {t e : TypeId} {cs : List Value} {x : DataW H × List MemPlace}
    (ht : P.underlying t = some (.array 4 e)) (he : P.underlying e = some (.int .u64)) (hct : P.cellsOf t = 4) (hce : P.cellsOf e = 1)
    (h : DataW.trod enc P w base spare held fuel t cs = some x) : ∃ s : OSet, cs = [.int .u64 (ow s 0), .int .u64 (ow s 1), .int .u64 (ow s 2), .int .u64 (ow s 3)] := by
  obtain ⟨xs, m, _, _, hlen, hxl, hx⟩ := DataW.trod_array ht h
  rw [hct] at hlen
  obtain ⟨a, b, c, d', rfl⟩ : ∃ a b c d, cs = [a, b, c, d] := by
    match cs, hlen with
    | [a, b, c, d], _ => exact ⟨a, b, c, d, rfl⟩
  rw [hce] at hx
  have hat : ∀ i, i < 4 → ∃ n, (([a, b, c, d'] : List Value).drop (i * 1)).take 1 = [.int .u64 n] ∧ (Lit.int .u64 n).wf = true := by
    intro i hi
    have h1 := hx i hi
    rw [List.getElem?_eq_getElem (by omega)] at h1
    obtain ⟨n, e1, _, e2⟩ := DataW.trod_int he h1
    exact ⟨n, e1, e2⟩
  obtain ⟨n0, e0, w0⟩ := hat 0 (by decide)
  obtain ⟨n1, e1, w1⟩ := hat 1 (by decide)
  obtain ⟨n2, e2, w2⟩ := hat 2 (by decide)
  obtain ⟨n3, e3, w3⟩ := hat 3 (by decide)
  simp at e0 e1 e2 e3
  subst e0 e1 e2 e3
  have b0 := bounds_u64 w0
  have b1 := bounds_u64 w1
  have b2 := bounds_u64 w2
  have b3 := bounds_u64 w3
  obtain ⟨s, rfl, rfl, rfl, rfl⟩ := oset_of n0 n1 n2 n3 b0.1 (by omega) b1.1 (by omega) b2.1 (by omega) b3.1 (by omega)
  exact ⟨s, rfl⟩
theorem cells_at {w : World} {base n : Nat} {a : Addr} {cs : List Value} (h : w.cells? base a n = some cs) (j : Nat) (hj : j < n) : ∃ v, cs[j]? = some v ∧ w.cell? (a.add j) = some v := by
  unfold World.cells? at h
  split at h
  · exact Lib.mapM_at h j j (by simp [hj])
  · cases h
/-- How much there is in what is read, piece by piece. -/
theorem bulk_mem {H : Type} (ds : List (DataW H)) (i : Nat) (h : i < ds.length) : Rows.uptoBulk ds[i] ≤ Rows.uptoBulkAll ds := by
  induction ds generalizing i with
  | nil => simp at h
  | cons d ds ih =>
    rw [Rows.uptoBulkAll]
    cases i with
    | zero => simp
    | succ i => have := ih i (by simpa using h); simp; omega
theorem bulk_talls {H : Type} (ps : List Tr) (ds : List (DataW H)) (hl : ps.length = ds.length) (h : ∀ i (h1 : i < ps.length) (h2 : i < ds.length), tall ps[i] ≤ Rows.uptoBulk ds[i]) : talls ps ≤ Rows.uptoBulkAll ds := by
  induction ps generalizing ds with
  | nil => simp [talls]
  | cons t ts ih =>
    cases ds with
    | nil => simp at hl
    | cons d ds =>
      rw [talls, Rows.uptoBulkAll]
      have h0 := h 0 (by simp) (by simp)
      have h1 := ih ds (by simpa using hl) (fun i a b => h (i + 1) (by simpa using a) (by simpa using b))
      simp at h0
      omega
end Go.Proofs.YtacpoandhocmhaaDoor

namespace Go.Proofs.YtacpoandhocmhaaDoor
open Go.RowKit

theorem tr_ret_int {k : IntKind} {a b : Int} (h : a = b) : Ending.returned (.int k a) = .returned (.int k b) := by rw [h]
theorem tr_ret_bool {a b : Bool} (h : a = b) : Ending.returned (.bool a) = .returned (.bool b) := by rw [h]
/-- A node's cells, in a block. -/
abbrev tC (t : Tr) (a : Option Addr) (cap : Nat) : Array Value := #[.int .i64 t.kind, .int .u64 (ow t.set 0), .int .u64 (ow t.set 1), .int .u64 (ow t.set 2), .int .u64 (ow t.set 3), .slice a t.parts.length cap, .int .i64 t.mn, .int .i64 t.mx, .int .i64 t.num]
end Go.Proofs.YtacpoandhocmhaaDoor
namespace Go.Proofs.YtacpoandhocmhaaDoor
open Go.RowKit

/-- The cells of a node that isn't there yet. -/
abbrev zC : Array Value := #[.int .i64 0, .int .u64 0, .int .u64 0, .int .u64 0, .int .u64 0, .slice none 0 0, .int .i64 0, .int .i64 0, .int .i64 0]
/-- A Rep, or a Group, without a part is of an empty node that isn't there. -/
def kb (t : Tr) : Nat := if (t.kind = 4 ∨ t.kind = 5) ∧ t.parts = [] then 1 else 0
/-- A node in memory, by how far its parts' parts go. -/
def TrD (N : Nat) (w : World) (t : Tr) (a : Option Addr) (cap : Nat) : Prop := ∃ n, TrAt n w t a cap ∧ 2 * n + kb t ≤ N
/-- A row of nodes. -/
def RowD (N : Nat) (w : World) (l : List Tr) (a : Option Addr) (cap : Nat) : Prop :=
  l.length ≤ cap ∧ cap ≤ maxLen ∧ (0 < l.length → ∃ b o, a = some ⟨b, o, none⟩ ∧ b < w.heap.size ∧ ∀ i (h : i < l.length), ∃ a' cap', Cl9 w b (o + i * 9) l[i] a' cap' ∧ TrD N w l[i] a' cap')
theorem TrD.below {N : Nat} {w w' : World} {t : Tr} {a : Option Addr} {cap : Nat} (h : TrD N w t a cap) (hb : Below w.heap.size w w') : TrD N w' t a cap := by
  obtain ⟨n, h1, h2⟩ := h
  exact ⟨n, TrAt.below hb _ _ _ _ h1, h2⟩
theorem RowD.below {N : Nat} {w w' : World} {l : List Tr} {a : Option Addr} {cap : Nat} (h : RowD N w l a cap) (hb : Below w.heap.size w w') : RowD N w' l a cap := by
  refine ⟨h.1, h.2.1, fun h0 => ?_⟩
  obtain ⟨b, o, rfl, hlt, hk⟩ := h.2.2 h0
  refine ⟨b, o, rfl, Nat.lt_of_lt_of_le hlt hb.size, fun i hi => ?_⟩
  obtain ⟨a', cap', h9, hr⟩ := hk i hi
  exact ⟨a', cap', h9.below hb hlt, hr.below hb⟩
theorem kb_le (t : Tr) : kb t ≤ 1 := by unfold kb; split <;> omega
theorem tz_at (w : World) : TrAt 1 w tz none 0 := ⟨Nat.le_refl 0, Nat.zero_le _, fun h => absurd h (by simp [tz, Tr.parts])⟩
/-- A node's parts in memory, a level further down. -/
theorem TrD.row {N : Nat} {w : World} {t : Tr} {a : Option Addr} {cap : Nat} (h : TrD (N + 1) w t a cap) : RowD N w t.parts a cap := by
  obtain ⟨n, h1, h2⟩ := h
  cases n with
  | zero => exact h1.elim
  | succ n =>
    refine ⟨h1.1, h1.2.1, fun h0 => ?_⟩
    obtain ⟨b, o, rfl, hlt, hk⟩ := h1.2.2 h0
    refine ⟨b, o, rfl, hlt, fun i hi => ?_⟩
    obtain ⟨a', cap', h9, hr⟩ := hk i hi
    have := kb_le t.parts[i]
    exact ⟨a', cap', h9, n, hr, by omega⟩
theorem TrD.tz {N : Nat} {w w' : World} {t : Tr} {a : Option Addr} {cap : Nat} (h : TrD (N + 1) w t a cap) (hk : t.kind = 4 ∨ t.kind = 5) (hp : t.parts = []) : TrD N w' Go.Proofs.YtacpoandhocmhaaDoor.tz none 0 := by
  obtain ⟨n, h1, h2⟩ := h
  cases n with
  | zero => exact h1.elim
  | succ n =>
    refine ⟨1, tz_at w', ?_⟩
    have h3 : kb t = 1 := by unfold kb; rw [if_pos ⟨hk, hp⟩]
    have h4 : kb Go.Proofs.YtacpoandhocmhaaDoor.tz = 0 := rfl
    omega
/-- A row of one node, just made. -/
theorem row_one {N : Nat} {w : World} {x : Tr} {a : Option Addr} {cap : Nat} {T : TypeId} (h : TrD N w x a cap) : RowD N (w.alloc (.cells (tC x a cap) T)) [x] (some ⟨w.heap.size, 0, none⟩) 1 := by
  have hb := Blk.new w (tC x a cap) T _ rfl
  refine ⟨Nat.le_refl _, by decide, fun _ => ⟨w.heap.size, 0, rfl, hb.lt, fun i hi => ?_⟩⟩
  obtain rfl : i = 0 := by simp at hi; exact hi
  exact ⟨a, cap, ⟨(hb.cell 0).trans rfl, (hb.cell 1).trans rfl, (hb.cell 2).trans rfl, (hb.cell 3).trans rfl, (hb.cell 4).trans rfl, (hb.cell 5).trans rfl, (hb.cell 6).trans rfl, (hb.cell 7).trans rfl, (hb.cell 8).trans rfl⟩,
    h.below ((Below.refl _ _).alloc (Nat.le_refl _) _)⟩
end Go.Proofs.YtacpoandhocmhaaDoor
namespace Go.Proofs.YtacpoandhocmhaaDoor
open Go.RowKit

theorem trd_zero {w : World} {t : Tr} {a : Option Addr} {cap : Nat} (h : TrD 0 w t a cap) : False := by
  obtain ⟨n, h1, h2⟩ := h
  cases n with
  | zero => exact h1
  | succ n => omega
end Go.Proofs.YtacpoandhocmhaaDoor
namespace Go.Proofs.YtacpoandhocmhaaDoor
open Go.RowKit

theorem rpart0 (a b c d : Int) (w : World) : (part 54 #[.int .u64 a, .int .u64 b, .int .u64 c, .int .u64 d] (0 * 1)).run Tryd.prog w = .ok (.int .u64 a) w := by kernel_rfl
theorem rpart1 (a b c d : Int) (w : World) : (part 54 #[.int .u64 a, .int .u64 b, .int .u64 c, .int .u64 d] 1).run Tryd.prog w = .ok (.int .u64 b) w := by kernel_rfl
theorem rpart2 (a b c d : Int) (w : World) : (part 54 #[.int .u64 a, .int .u64 b, .int .u64 c, .int .u64 d] 2).run Tryd.prog w = .ok (.int .u64 c) w := by kernel_rfl
theorem rpart3 (a b c d : Int) (w : World) : (part 54 #[.int .u64 a, .int .u64 b, .int .u64 c, .int .u64 d] 3).run Tryd.prog w = .ok (.int .u64 d) w := by kernel_rfl
set_option linter.unusedSimpArgs false in
theorem req_items (a b c d a' b' c' d' : Int) (w : World) : (Op.eqItems 9999 54 1 #[.int .u64 a, .int .u64 b, .int .u64 c, .int .u64 d] #[.int .u64 a', .int .u64 b', .int .u64 c', .int .u64 d'] [0, 1, 2, 3]).run Tryd.prog w = .ok (a == a' && (b == b' && (c == c' && d == d'))) w := by
  have h := fun (x y : Int) (w : World) => (run_equalIn_int (P := Tryd.prog) w 9998 54 .u64 .u64 x y Tryd.underlying54 : (Op.equalIn 9999 54 (.int .u64 x) (.int .u64 y)).run Tryd.prog w = _)
  simp only [Op.eqItems, Sem.run_bind, rpart0, h, Result.andThen_ok]
  cases ha : a == a' <;> cases hb : b == b' <;> cases hc : c == c' <;> cases hd : d == d' <;> simp [ha, hb, hc, hd, h, rpart1, rpart2, rpart3]
theorem rset_beq (s t : OSet) : (ow s 0 == ow t 0 && (ow s 1 == ow t 1 && (ow s 2 == ow t 2 && ow s 3 == ow t 3))) = decide (s = t) := by
  by_cases h : s = t
  · subst h; simp
  · have h2 := oset_ne h
    rw [decide_eq_false h]
    cases hx : (ow s 0 == ow t 0 && (ow s 1 == ow t 1 && (ow s 2 == ow t 2 && ow s 3 == ow t 3)))
    · rfl
    · exfalso
      simp only [Bool.and_eq_true, beq_iff_eq] at hx
      exact h2 hx
theorem rset_eql (s t : OSet) (w : World) : (Op.equalIn 10000 56 (.agg #[.int .u64 (ow s 0), .int .u64 (ow s 1), .int .u64 (ow s 2), .int .u64 (ow s 3)]) (.agg #[.int .u64 (ow t 0), .int .u64 (ow t 1), .int .u64 (ow t 2), .int .u64 (ow t 3)])).run Tryd.prog w = .ok (decide (s = t)) w := by
  have hc : Tryd.prog.cellsOf 54 = 1 := by kernel_rfl
  have hi0 : (Tryd.prog.info? 54).isSome = true := by kernel_rfl
  obtain ⟨i, hi⟩ := Option.isSome_iff_exists.1 hi0
  rw [run_equalIn_array w 9999 (e := 54) (n := 4) _ _ Tryd.underlying56 hi]
  rw [hc, show List.range 4 = [0, 1, 2, 3] from rfl, req_items, rset_beq]
theorem blk9 {w : World} {b : Nat} {t : Tr} {a : Option Addr} {cap : Nat} {T : TypeId} (h : Blk w b (tC t a cap) T) : Cl9 w b 0 t a cap :=
  ⟨(h.cell 0).trans rfl, (h.cell 1).trans rfl, (h.cell 2).trans rfl, (h.cell 3).trans rfl, (h.cell 4).trans rfl, (h.cell 5).trans rfl, (h.cell 6).trans rfl, (h.cell 7).trans rfl, (h.cell 8).trans rfl⟩
end Go.Proofs.YtacpoandhocmhaaDoor
