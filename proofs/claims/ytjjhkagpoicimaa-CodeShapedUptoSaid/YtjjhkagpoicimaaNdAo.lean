/- NdAt: The program's nodes in memory: interface values, their parts in rows; the blocks that they go through.
   NdOwn: A row of nodes in the making: what append leaves.
   AppStep: append onto a row of one's own of what may be nothing at all, as a step of a region that draws its order; a row of numbers that is owned. -/
import Derived.Test.YtjjhkagpoicimaaMaA
import Derived.Test.YtjjhkagpoicimaaRows
import Derived.Test.YtjjhkagpoicimaaMaB
import Derived.WalkKit
import Derived.Maps.AppendAt
import Derived.Deep.RegionLaw
import Derived.Laws.OwnMore
namespace Go.Proofs.Ytjjhkagpoicimaa
open Go.RowKit

/-- A node as an interface value; F: the blocks that it may go through. -/
def NdAt (F : Nat → Prop) : Nat → World → Nd → Value → Prop
  | 0, _, _, _ => False
  | n + 1, w, d, v => match d with
    | .empty => v = .iface 80 (.agg #[]) ∨ v = .nilIface
    | .one s => v = .iface 55 (.agg #[.int .u64 (ow s 0), .int .u64 (ow s 1), .int .u64 (ow s 2), .int .u64 (ow s 3)])
    | .cat l => ∃ a cap, v = .iface 71 (.agg #[.slice a l.length cap]) ∧ l.length ≤ cap ∧ cap ≤ maxLen ∧
        (0 < l.length → ∃ b o, a = some ⟨b, o, none⟩ ∧ F b ∧ b < w.heap.size ∧ ∀ i (h : i < l.length), ∃ u, w.cell? ⟨b, o + i, none⟩ = some u ∧ NdAt F n w l[i] u)
    | .alt l => ∃ a cap, v = .iface 72 (.agg #[.slice a l.length cap]) ∧ l.length ≤ cap ∧ cap ≤ maxLen ∧
        (0 < l.length → ∃ b o, a = some ⟨b, o, none⟩ ∧ F b ∧ b < w.heap.size ∧ ∀ i (h : i < l.length), ∃ u, w.cell? ⟨b, o + i, none⟩ = some u ∧ NdAt F n w l[i] u)
    | .rep d mn mx => ∃ u, v = .iface 57 (.agg #[u, .int .i64 mn, .int .i64 mx]) ∧ NdAt F n w d u
    | .group num d => ∃ u, v = .iface 74 (.agg #[.int .i64 num, u]) ∧ NdAt F n w d u
    | .back num => v = .iface 76 (.agg #[.int .i64 num])
    | .start => v = .iface 78 (.agg #[])
    | .fin => v = .iface 79 (.agg #[])
/-- A row of nodes. -/
def NdRow (F : Nat → Prop) (n : Nat) (w : World) (l : List Nd) (a : Option Addr) (cap : Nat) : Prop :=
  l.length ≤ cap ∧ cap ≤ maxLen ∧ (0 < l.length → ∃ b o, a = some ⟨b, o, none⟩ ∧ F b ∧ b < w.heap.size ∧ ∀ i (h : i < l.length), ∃ u, w.cell? ⟨b, o + i, none⟩ = some u ∧ NdAt F n w l[i] u)
/-- In a world that holds the same in the blocks that it goes through. -/
theorem NdAt.keep {F G : Nat → Prop} {w w' : World} (hs : w.heap.size ≤ w'.heap.size) (hF : ∀ b, F b → b < w.heap.size → G b ∧ ∀ o, w'.cell? ⟨b, o, none⟩ = w.cell? ⟨b, o, none⟩) :
    ∀ (n : Nat) (d : Nd) (v : Value), NdAt F n w d v → NdAt G n w' d v := by
  intro n
  induction n with
  | zero => intro d v h; exact h
  | succ n ih =>
    have hrow : ∀ (l : List Nd) (a : Option Addr), (0 < l.length → ∃ b o, a = some ⟨b, o, none⟩ ∧ F b ∧ b < w.heap.size ∧ ∀ i (h : i < l.length), ∃ u, w.cell? ⟨b, o + i, none⟩ = some u ∧ NdAt F n w l[i] u) →
        (0 < l.length → ∃ b o, a = some ⟨b, o, none⟩ ∧ G b ∧ b < w'.heap.size ∧ ∀ i (h : i < l.length), ∃ u, w'.cell? ⟨b, o + i, none⟩ = some u ∧ NdAt G n w' l[i] u) := by
      intro l a h h0
      obtain ⟨b, o, rfl, hf, hb, hx⟩ := h h0
      refine ⟨b, o, rfl, (hF b hf hb).1, Nat.lt_of_lt_of_le hb hs, fun i hi => ?_⟩
      obtain ⟨u, hu, hr⟩ := hx i hi
      exact ⟨u, ((hF b hf hb).2 _).trans hu, ih _ _ hr⟩
    intro d v h
    cases d with
    | empty => exact h
    | one s => exact h
    | cat l =>
      obtain ⟨a, cap, h1, h2, h3, h4⟩ := h
      exact ⟨a, cap, h1, h2, h3, hrow l a h4⟩
    | alt l =>
      obtain ⟨a, cap, h1, h2, h3, h4⟩ := h
      exact ⟨a, cap, h1, h2, h3, hrow l a h4⟩
    | rep d mn mx =>
      obtain ⟨u, h1, h2⟩ := h
      exact ⟨u, h1, ih _ _ h2⟩
    | group num d =>
      obtain ⟨u, h1, h2⟩ := h
      exact ⟨u, h1, ih _ _ h2⟩
    | back num => exact h
    | start => exact h
    | fin => exact h
theorem NdAt.below {F : Nat → Prop} {w w' : World} (hb : Below w.heap.size w w') (n : Nat) (d : Nd) (v : Value) (h : NdAt F n w d v) : NdAt F n w' d v :=
  h.keep hb.size (fun b hf hlt => ⟨hf, fun o => hb.cell (p := ⟨b, o, none⟩) hlt⟩)
theorem NdAt.wider {F G : Nat → Prop} {w : World} (hFG : ∀ b, F b → b < w.heap.size → G b) (n : Nat) (d : Nd) (v : Value) (h : NdAt F n w d v) : NdAt G n w d v :=
  h.keep (Nat.le_refl _) (fun b hf hlt => ⟨hFG b hf hlt, fun _ => rfl⟩)
/-- More depth than is needed. -/
theorem NdAt.more {F : Nat → Prop} {w : World} : ∀ (n m : Nat) (d : Nd) (v : Value), n ≤ m → NdAt F n w d v → NdAt F m w d v := by
  intro n
  induction n with
  | zero => intro m d v _ h; exact h.elim
  | succ n ih =>
    intro m d v hm h
    obtain ⟨m, rfl⟩ : ∃ m', m = m' + 1 := ⟨m - 1, by omega⟩
    have hrow : ∀ (l : List Nd) (a : Option Addr), (0 < l.length → ∃ b o, a = some ⟨b, o, none⟩ ∧ F b ∧ b < w.heap.size ∧ ∀ i (h : i < l.length), ∃ u, w.cell? ⟨b, o + i, none⟩ = some u ∧ NdAt F n w l[i] u) →
        (0 < l.length → ∃ b o, a = some ⟨b, o, none⟩ ∧ F b ∧ b < w.heap.size ∧ ∀ i (h : i < l.length), ∃ u, w.cell? ⟨b, o + i, none⟩ = some u ∧ NdAt F m w l[i] u) := by
      intro l a h h0
      obtain ⟨b, o, rfl, hf, hb, hx⟩ := h h0
      refine ⟨b, o, rfl, hf, hb, fun i hi => ?_⟩
      obtain ⟨u, hu, hr⟩ := hx i hi
      exact ⟨u, hu, ih _ _ _ (by omega) hr⟩
    cases d with
    | empty => exact h
    | one s => exact h
    | cat l =>
      obtain ⟨a, cap, h1, h2, h3, h4⟩ := h
      exact ⟨a, cap, h1, h2, h3, hrow l a h4⟩
    | alt l =>
      obtain ⟨a, cap, h1, h2, h3, h4⟩ := h
      exact ⟨a, cap, h1, h2, h3, hrow l a h4⟩
    | rep d mn mx =>
      obtain ⟨u, h1, h2⟩ := h
      exact ⟨u, h1, ih _ _ _ (by omega) h2⟩
    | group num d =>
      obtain ⟨u, h1, h2⟩ := h
      exact ⟨u, h1, ih _ _ _ (by omega) h2⟩
    | back num => exact h
    | start => exact h
    | fin => exact h
theorem NdRow.wider {F G : Nat → Prop} {w : World} (hFG : ∀ b, F b → b < w.heap.size → G b) {n : Nat} {l : List Nd} {a : Option Addr} {cap : Nat} (h : NdRow F n w l a cap) : NdRow G n w l a cap := by
  refine ⟨h.1, h.2.1, fun h0 => ?_⟩
  obtain ⟨b, o, rfl, hf, hb, hx⟩ := h.2.2 h0
  refine ⟨b, o, rfl, hFG b hf hb, hb, fun i hi => ?_⟩
  obtain ⟨u, hu, hr⟩ := hx i hi
  exact ⟨u, hu, NdAt.wider hFG _ _ _ hr⟩
/-- A node is an interface value, or none. -/
theorem nd_shape {F : Nat → Prop} {n : Nat} {w : World} {d : Nd} {v : Value} (h : NdAt F n w d v) : (∃ T p, v = .iface T p) ∨ v = .nilIface := by
  cases n with
  | zero => exact h.elim
  | succ n =>
    cases d with
    | empty => exact h.elim (fun h => .inl ⟨_, _, h⟩) .inr
    | one s => exact .inl ⟨_, _, h⟩
    | cat l => obtain ⟨a, cap, h1, _⟩ := h; exact .inl ⟨_, _, h1⟩
    | alt l => obtain ⟨a, cap, h1, _⟩ := h; exact .inl ⟨_, _, h1⟩
    | rep d mn mx => obtain ⟨u, h1, _⟩ := h; exact .inl ⟨_, _, h1⟩
    | group num d => obtain ⟨u, h1, _⟩ := h; exact .inl ⟨_, _, h1⟩
    | back num => exact .inl ⟨_, _, h⟩
    | start => exact .inl ⟨_, _, h⟩
    | fin => exact .inl ⟨_, _, h⟩
end Go.Proofs.Ytjjhkagpoicimaa
namespace Go.Proofs.Ytjjhkagpoicimaa
open Go.RowKit

theorem nd_own_below {w w' : World} {base : Nat} {e : TypeId} {size : Nat} {v : Value} {n : Nat} {xs : List Value} (h : w.ownsRow base e size v n xs) (hb : Below w.heap.size w w') : w'.ownsRow base e size v n xs := by
  obtain ⟨h1, h2⟩ := h
  refine ⟨h1, ?_⟩
  rcases h2 with h2 | ⟨g, cap, cur, a, b, c, d⟩
  · exact .inl h2
  · exact .inr ⟨g, cap, cur, a, b, by rw [hb.block g (Array.getElem?_eq_some_iff.1 c).1]; exact c, d⟩
/-- A row that the call makes itself, of nodes that lie beside it. -/
def NdOwn (B n : Nat) (w : World) (l : List Nd) (v : Value) (us : List Value) : Prop :=
  us.length = l.length ∧ w.ownsRow B 37 1 v us.length us ∧ ∀ i (h : i < l.length) (h2 : i < us.length), NdAt (fun b => B ≤ b ∧ v.ownBlock ≠ some b) n w l[i] us[i]
theorem NdOwn.nil (B n : Nat) (w : World) : NdOwn B n w [] (.slice none 0 0) [] :=
  ⟨rfl, World.ownsRow_nil _ _ _ _, fun i h => absurd h (by simp)⟩
theorem NdOwn.below {B n : Nat} {w w' : World} {l : List Nd} {v : Value} {us : List Value} (h : NdOwn B n w l v us) (hb : Below w.heap.size w w') : NdOwn B n w' l v us :=
  ⟨h.1, nd_own_below h.2.1 hb, fun i h1 h2 => NdAt.below hb _ _ _ (h.2.2 i h1 h2)⟩
theorem NdOwn.lt {B n : Nat} {w : World} {l : List Nd} {v : Value} {us : List Value} (h : NdOwn B n w l v us) (g : Nat) (hg : v.ownBlock = some g) : g < w.heap.size := by
  obtain ⟨_, ⟨_, h2⟩, _⟩ := h
  rcases h2 with ⟨rfl, _⟩ | ⟨g', cap, cur, rfl, _, hh, _⟩
  · simp [Value.ownBlock] at hg
  · simp [Value.ownBlock] at hg
    subst hg
    exact (Array.getElem?_eq_some_iff.1 hh).1
theorem own_of {w : World} {base : Nat} {e : TypeId} {size : Nat} {v : Value} {n : Nat} {xs : List Value} (h : w.ownsRow base e size v n xs) : ∀ k, v.ownBlock = some k → base ≤ k := by
  obtain ⟨_, h2⟩ := h
  intro k hk
  rcases h2 with ⟨rfl, _⟩ | ⟨g, cap, cur, rfl, hg, _⟩
  · simp [Value.ownBlock] at hk
  · simp [Value.ownBlock] at hk; omega
/-- One more. -/
theorem NdOwn.push {B n : Nat} {w w' : World} {l : List Nd} {v v' : Value} {us : List Value} {d : Nd} {u : Value} (h : NdOwn B n w l v us) (hu : NdAt (fun b => B ≤ b ∧ v.ownBlock ≠ some b) n w d u)
    (hown : w'.ownsRow B 37 1 v' (us.length + 1) (us ++ [u])) (hg : w.grownBy w' v.ownBlock) (hb : v'.ownBlock = v.ownBlock ∨ v'.ownBlock = some w.heap.size) : NdOwn B n w' (l ++ [d]) v' (us ++ [u]) := by
  have hk : ∀ d u, NdAt (fun b => B ≤ b ∧ v.ownBlock ≠ some b) n w d u → NdAt (fun b => B ≤ b ∧ v'.ownBlock ≠ some b) n w' d u := fun d u hd =>
    NdAt.keep hg.size (fun b hf hlt => ⟨⟨hf.1, by
      rcases hb with e | e
      · rw [e]; exact hf.2
      · rw [e]; intro he; injection he with he; omega⟩, fun o => World.cell?_of_block (w := w) (a := ⟨b, o, none⟩) (hg.block b hlt (fun e => hf.2 e.symm))⟩) n d u hd
  refine ⟨by simp [h.1], by rw [List.length_append]; exact hown, fun i h1 h2 => ?_⟩
  by_cases hi : i < l.length
  · rw [List.getElem_append_left hi, List.getElem_append_left (by rw [h.1]; exact hi)]
    exact hk _ _ (h.2.2 i hi (by rw [h.1]; exact hi))
  · have hie : i = l.length := by simp at h1; omega
    subst hie
    rw [List.getElem_append_right (Nat.le_refl _), List.getElem_append_right (by rw [h.1]; exact Nat.le_refl _)]
    simp [h.1]
    exact hk _ _ hu
/-- The row as a node's parts. -/
theorem NdOwn.row {B n : Nat} {w : World} {l : List Nd} {v : Value} {us : List Value} (h : NdOwn B n w l v us) : ∃ a cap, v = .slice a l.length cap ∧ NdRow (fun b => B ≤ b) n w l a cap := by
  obtain ⟨h1, ⟨h2a, h2⟩, h3⟩ := h
  rcases h2 with ⟨rfl, hz⟩ | ⟨g, cap, cur, rfl, hg, hh, hn, hcap, hcs, htk⟩
  · have h0 : l.length = 0 := by omega
    exact ⟨none, 0, by rw [h0], by omega, by omega, fun h => by omega⟩
  · refine ⟨some ⟨g, 0, none⟩, cap, by rw [h1], by omega, hcap, fun h0 => ⟨g, 0, rfl, hg, (Array.getElem?_eq_some_iff.1 hh).1, fun i hi => ?_⟩⟩
    have hiu : i < us.length := by omega
    refine ⟨us[i], ?_, NdAt.wider (fun b hb _ => hb.1) _ _ _ (h3 i hi hiu)⟩
    have h4 : w.cell? ⟨g, 0 + i, none⟩ = cur[i]? := by simp [World.cell?, hh]
    have h5 : (cur.toList.take (us.length * 1))[i]? = us[i]? := by rw [htk]
    rw [List.getElem?_take_of_lt (by omega)] at h5
    rw [h4, ← Array.getElem?_toList, h5, List.getElem?_eq_getElem hiu]
end Go.Proofs.Ytjjhkagpoicimaa
namespace Go.Proofs.Ytjjhkagpoicimaa
open Go

section
variable {P : Program} {w : World}
theorem step_append_any {ops : Array Oper} {o : Oper} {a : Act} {K : Act → World → Prop} {Q : Exit → Act → World → Prop} {E : Prop} (hgd : o.guard = none) (s x : Operand) (t : TypeId)
    (ho : o.op = .call { callee := .builtin .append, args := #[s, x], argTypes := #[t, t] })
    (base : Nat) (e : TypeId) (i : TypeInfo) (z : Value) (size bytes : Nat) (ht : P.underlying t = some (.slice e)) (hi : P.info? e = some i) (hz : i.zero = some z)
    (hsize : i.size = size) (hby : i.bytes = bytes) (hzs : z.cells.size = size) (hsz : 0 < size)
    (v : Value) (n : Nat) (xs : List Value) (hs : a.eval s = v) (hown : w.ownsRow base e size v n xs)
    (oa : Option Addr) (m c : Nat) (news : List Value) (hx : a.eval x = .slice oa m c) (hl : news.length = m * size) (hnews : 0 < m → ∃ a, oa = some a ∧ ∀ j u, news[j]? = some u → w.cell? (a.add j) = some u) (h1 : ∀ u ∈ news, u.oneCell' = true)
    (h63 : n + m ≤ maxLen) (hbytes : (n + m) * bytes ≤ 140737488355328) (hbase : base ≤ w.heap.size)
    (h : ∀ v' w', w'.ownsRow base e size v' (n + m) (xs ++ news) → w.grownBy w' v.ownBlock → (v'.ownBlock = v.ownBlock ∨ v'.ownBlock = some w.heap.size) → K (a.put o.dst v') w') :
    if Region.wanted o (yielded ops a.tmps) = true then Oper.wp P o a w K Q else E := by
  rw [if_pos (by simp [Region.wanted, hgd])]
  obtain ⟨v', w', hr, h2, h3, h4⟩ := run_append_own_any (P := P) w base t o.type e i z size bytes ht hi hz hsize hby hzs hsz v n xs hown oa m c news hl hnews h1 h63 hbytes hbase
  unfold Oper.wp execOp
  simp only [ho, resolve, invoke, builtin, Sem.run_bind, Sem.run_pure, Result.andThen_ok, List.map_toArray, List.map_cons, List.map_nil, hs, hx, hr]
  exact h v' w' h2 h3 h4
/-- A row that is owned, as it is read. -/
theorem own_row {base : Nat} {e : TypeId} {v : Value} {n : Nat} {xs : List Value} {w : World} (h : w.ownsRow base e 1 v n xs) (hx : xs.length = n) :
    ∃ a cap, v = .slice a n cap ∧ n ≤ cap ∧ cap ≤ maxLen ∧ (0 < n → ∃ g, a = some ⟨g, 0, none⟩ ∧ base ≤ g ∧ g < w.heap.size ∧ ∀ i (h : i < xs.length), w.cell? ⟨g, 0 + i, none⟩ = some xs[i]) := by
  obtain ⟨h1, h2⟩ := h
  rcases h2 with ⟨rfl, hz⟩ | ⟨g, cap, cur, rfl, hg, hh, hn, hcap, hcs, htk⟩
  · subst hz
    exact ⟨none, 0, rfl, Nat.le_refl _, Nat.zero_le _, fun h => absurd h (by omega)⟩
  · refine ⟨some ⟨g, 0, none⟩, cap, rfl, hn, hcap, fun h0 => ⟨g, rfl, hg, (Array.getElem?_eq_some_iff.1 hh).1, fun i hi => ?_⟩⟩
    have h4 : w.cell? ⟨g, 0 + i, none⟩ = cur[i]? := by simp [World.cell?, hh]
    have h5 : (cur.toList.take (n * 1))[i]? = xs[i]? := by rw [htk]
    rw [List.getElem?_take_of_lt (by omega)] at h5
    rw [h4, ← Array.getElem?_toList, h5, List.getElem?_eq_getElem hi]
/-- An empty row, just made. -/
theorem own_empty {base : Nat} (W : World) (e : TypeId) (size g : Nat) (hg : W.heap.size = g) (hb : base ≤ g) : (W.alloc (.cells #[] e)).ownsRow base e size (.slice (some ⟨g, 0, none⟩) 0 0) 0 [] := by
  subst hg
  exact World.ownsRow_lit W #[] 0 hb (Nat.zero_le _) (by simp)
end
end Go.Proofs.Ytjjhkagpoicimaa
