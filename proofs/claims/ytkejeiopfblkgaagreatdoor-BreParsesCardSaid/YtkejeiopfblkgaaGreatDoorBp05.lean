/- The proof's texts NdAo, NdTa, NdInner, Cmn: what the claim reaches of them. -/
import Derived.Test.YtkejeiopfblkgaaGreatDoorBp02
import Derived.Test.YtkejeiopfblkgaaGreatDoorRows
import Derived.Test.YtkejeiopfblkgaaGreatDoorBp01
import Derived.WalkKit
import Derived.Maps.AppendAt
import Derived.Deep.RegionLaw
import Derived.Laws.OwnMore
import Derived.Lib.Hide
import Derived.Test.YtkejeiopfblkgaaGreatDoorBp04
namespace Go.Proofs.YtkejeiopfblkgaaGreatDoor
open Go.RowKit
def NdAt (F : Nat → Prop) : Nat → World → Nd → Value → Prop
 | 0, _, _, _ => False
 | n + 1, w, d, v => match d with
  | .empty => v = .iface 113 (.agg #[]) ∨ v = .nilIface
  | .one s => v = .iface 100 (.agg #[.int .u64 (ow s 0), .int .u64 (ow s 1), .int .u64 (ow s 2), .int .u64 (ow s 3)])
  | .cat l => ∃ a cap, v = .iface 45 (.agg #[.slice a l.length cap]) ∧ l.length ≤ cap ∧ cap ≤ maxLen ∧
    (0 < l.length → ∃ b o, a = some ⟨b, o, none⟩ ∧ F b ∧ b < w.heap.size ∧ ∀ i (h : i < l.length), ∃ u, w.cell? ⟨b, o + i, none⟩ = some u ∧ NdAt F n w l[i] u)
  | .alt l => ∃ a cap, v = .iface 56 (.agg #[.slice a l.length cap]) ∧ l.length ≤ cap ∧ cap ≤ maxLen ∧
    (0 < l.length → ∃ b o, a = some ⟨b, o, none⟩ ∧ F b ∧ b < w.heap.size ∧ ∀ i (h : i < l.length), ∃ u, w.cell? ⟨b, o + i, none⟩ = some u ∧ NdAt F n w l[i] u)
  | .rep d mn mx => ∃ u, v = .iface 106 (.agg #[u, .int .i64 mn, .int .i64 mx]) ∧ NdAt F n w d u
  | .group num d => ∃ u, v = .iface 77 (.agg #[.int .i64 num, u]) ∧ NdAt F n w d u
  | .back num => v = .iface 81 (.agg #[.int .i64 num])
  | .start => v = .iface 95 (.agg #[])
  | .fin => v = .iface 96 (.agg #[])
def NdRow (F : Nat → Prop) (n : Nat) (w : World) (l : List Nd) (a : Option Addr) (cap : Nat) : Prop :=
 l.length ≤ cap ∧ cap ≤ maxLen ∧ (0 < l.length → ∃ b o, a = some ⟨b, o, none⟩ ∧ F b ∧ b < w.heap.size ∧ ∀ i (h : i < l.length), ∃ u, w.cell? ⟨b, o + i, none⟩ = some u ∧ NdAt F n w l[i] u)
theorem NdAt.keep {F G : Nat → Prop} {w w' : World} (hs : w.heap.size ≤ w'.heap.size) (hF : ∀ b, F b → b < w.heap.size → G b ∧ ∀ o, w'.cell? ⟨b, o, none⟩ = w.cell? ⟨b, o, none⟩) :
  ∀ (n : Nat) (d : Nd) (v : Value), NdAt F n w d v → NdAt G n w' d v := by
 intro n
 induction n with
 | zero => intro d v h; exact h
 | succ n ih =>
  have hrow : ∀ (l : List Nd) (a : Option Addr), (0 < l.length → ∃ b o, a = some ⟨b, o, none⟩ ∧ F b ∧ b < w.heap.size ∧ ∀ i (h : i < l.length), ∃ u, w.cell? ⟨b, o + i, none⟩ = some u ∧ NdAt F n w l[i] u) →
    (0 < l.length → ∃ b o, a = some ⟨b, o, none⟩ ∧ G b ∧ b < w'.heap.size ∧ ∀ i (h : i < l.length), ∃ u, w'.cell? ⟨b, o + i, none⟩ = some u ∧ NdAt G n w' l[i] u) := by
   intro l a h h0
   obtain ⟨b, o, rfl, hf, hb, hx⟩ := h h0
   refine ⟨b, o, rfl, (hF b hf hb).1, Nat.lt_of_lt_of_le hb hs, fun i hi => ?_⟩
   obtain ⟨u, hu, hr⟩ := hx i hi
   exact ⟨u, ((hF b hf hb).2 _).trans hu, ih _ _ hr⟩
  intro d v h
  cases d with
  | empty => exact h
  | one s => exact h
  | cat l =>
   obtain ⟨a, cap, h1, h2, h3, h4⟩ := h
   exact ⟨a, cap, h1, h2, h3, hrow l a h4⟩
  | alt l =>
   obtain ⟨a, cap, h1, h2, h3, h4⟩ := h
   exact ⟨a, cap, h1, h2, h3, hrow l a h4⟩
  | rep d mn mx =>
   obtain ⟨u, h1, h2⟩ := h
   exact ⟨u, h1, ih _ _ h2⟩
  | group num d =>
   obtain ⟨u, h1, h2⟩ := h
   exact ⟨u, h1, ih _ _ h2⟩
  | back num => exact h
  | start => exact h
  | fin => exact h
theorem NdAt.below {F : Nat → Prop} {w w' : World} (hb : Below w.heap.size w w') (n : Nat) (d : Nd) (v : Value) (h : NdAt F n w d v) : NdAt F n w' d v :=
 h.keep hb.size (fun b hf hlt => ⟨hf, fun o => hb.cell (p := ⟨b, o, none⟩) hlt⟩)
theorem NdAt.more {F : Nat → Prop} {w : World} : ∀ (n m : Nat) (d : Nd) (v : Value), n ≤ m → NdAt F n w d v → NdAt F m w d v := by
 intro n
 induction n with
 | zero => intro m d v _ h; exact h.elim
 | succ n ih =>
  intro m d v hm h
  obtain ⟨m, rfl⟩ : ∃ m', m = m' + 1 := ⟨m - 1, by omega⟩
  have hrow : ∀ (l : List Nd) (a : Option Addr), (0 < l.length → ∃ b o, a = some ⟨b, o, none⟩ ∧ F b ∧ b < w.heap.size ∧ ∀ i (h : i < l.length), ∃ u, w.cell? ⟨b, o + i, none⟩ = some u ∧ NdAt F n w l[i] u) →
    (0 < l.length → ∃ b o, a = some ⟨b, o, none⟩ ∧ F b ∧ b < w.heap.size ∧ ∀ i (h : i < l.length), ∃ u, w.cell? ⟨b, o + i, none⟩ = some u ∧ NdAt F m w l[i] u) := by
   intro l a h h0
   obtain ⟨b, o, rfl, hf, hb, hx⟩ := h h0
   refine ⟨b, o, rfl, hf, hb, fun i hi => ?_⟩
   obtain ⟨u, hu, hr⟩ := hx i hi
   exact ⟨u, hu, ih _ _ _ (by omega) hr⟩
  cases d with
  | empty => exact h
  | one s => exact h
  | cat l =>
   obtain ⟨a, cap, h1, h2, h3, h4⟩ := h
   exact ⟨a, cap, h1, h2, h3, hrow l a h4⟩
  | alt l =>
   obtain ⟨a, cap, h1, h2, h3, h4⟩ := h
   exact ⟨a, cap, h1, h2, h3, hrow l a h4⟩
  | rep d mn mx =>
   obtain ⟨u, h1, h2⟩ := h
   exact ⟨u, h1, ih _ _ _ (by omega) h2⟩
  | group num d =>
   obtain ⟨u, h1, h2⟩ := h
   exact ⟨u, h1, ih _ _ _ (by omega) h2⟩
  | back num => exact h
  | start => exact h
  | fin => exact h
theorem nd_shape {F : Nat → Prop} {n : Nat} {w : World} {d : Nd} {v : Value} (h : NdAt F n w d v) : (∃ T p, v = .iface T p) ∨ v = .nilIface := by
 cases n with
 | zero => exact h.elim
 | succ n =>
  cases d with
  | empty => exact h.elim (fun h => .inl ⟨_, _, h⟩) .inr
  | one s => exact .inl ⟨_, _, h⟩
  | cat l => obtain ⟨a, cap, h1, _⟩ := h; exact .inl ⟨_, _, h1⟩
  | alt l => obtain ⟨a, cap, h1, _⟩ := h; exact .inl ⟨_, _, h1⟩
  | rep d mn mx => obtain ⟨u, h1, _⟩ := h; exact .inl ⟨_, _, h1⟩
  | group num d => obtain ⟨u, h1, _⟩ := h; exact .inl ⟨_, _, h1⟩
  | back num => exact .inl ⟨_, _, h⟩
  | start => exact .inl ⟨_, _, h⟩
  | fin => exact .inl ⟨_, _, h⟩
end Go.Proofs.YtkejeiopfblkgaaGreatDoor
namespace Go.Proofs.YtkejeiopfblkgaaGreatDoor
open Go.RowKit
theorem nd_own_below {w w' : World} {base : Nat} {e : TypeId} {size : Nat} {v : Value} {n : Nat} {xs : List Value} (h : w.ownsRow base e size v n xs) (hb : Below w.heap.size w w') : w'.ownsRow base e size v n xs := by
 obtain ⟨h1, h2⟩ := h
 refine ⟨h1, ?_⟩
 rcases h2 with h2 | ⟨g, cap, cur, a, b, c, d⟩
 ·exact .inl h2
 ·exact .inr ⟨g, cap, cur, a, b, by rw [hb.block g (Array.getElem?_eq_some_iff.1 c).1]; exact c, d⟩
theorem own_of {w : World} {base : Nat} {e : TypeId} {size : Nat} {v : Value} {n : Nat} {xs : List Value} (h : w.ownsRow base e size v n xs) : ∀ k, v.ownBlock = some k → base ≤ k := by
 obtain ⟨_, h2⟩ := h
 intro k hk
 rcases h2 with ⟨rfl, _⟩ | ⟨g, cap, cur, rfl, hg, _⟩
 ·simp [Value.ownBlock] at hk
 ·simp [Value.ownBlock] at hk; omega
end Go.Proofs.YtkejeiopfblkgaaGreatDoor
namespace Go.Proofs.YtkejeiopfblkgaaGreatDoor
open Go
section
variable {P : Program} {w : World}
theorem step_append_any {ops : Array Oper} {o : Oper} {a : Act} {K : Act → World → Prop} {Q : Exit → Act → World → Prop} {E : Prop} (hgd : o.guard = none) (s x : Operand) (t : TypeId)
  (ho : o.op = .call { callee := .builtin .append, args := #[s, x], argTypes := #[t, t] })
  (base : Nat) (e : TypeId) (i : TypeInfo) (z : Value) (size bytes : Nat) (ht : P.underlying t = some (.slice e)) (hi : P.info? e = some i) (hz : i.zero = some z)
  (hsize : i.size = size) (hby : i.bytes = bytes) (hzs : z.cells.size = size) (hsz : 0 < size)
  (v : Value) (n : Nat) (xs : List Value) (hs : a.eval s = v) (hown : w.ownsRow base e size v n xs)
  (oa : Option Addr) (m c : Nat) (news : List Value) (hx : a.eval x = .slice oa m c) (hl : news.length = m * size) (hnews : 0 < m → ∃ a, oa = some a ∧ ∀ j u, news[j]? = some u → w.cell? (a.add j) = some u) (h1 : ∀ u ∈ news, u.oneCell' = true)
  (h63 : n + m ≤ maxLen) (hbytes : (n + m) * bytes ≤ 140737488355328) (hbase : base ≤ w.heap.size)
  (h : ∀ v' w', w'.ownsRow base e size v' (n + m) (xs ++ news) → w.grownBy w' v.ownBlock → (v'.ownBlock = v.ownBlock ∨ v'.ownBlock = some w.heap.size) → K (a.put o.dst v') w') :
  if Region.wanted o (yielded ops a.tmps) = true then Oper.wp P o a w K Q else E := by
 rw [if_pos (by simp [Region.wanted, hgd])]
 obtain ⟨v', w', hr, h2, h3, h4⟩ := run_append_own_any (P := P) w base t o.type e i z size bytes ht hi hz hsize hby hzs hsz v n xs hown oa m c news hl hnews h1 h63 hbytes hbase
 unfold Oper.wp execOp
 simp only [ho, resolve, invoke, builtin, Sem.run_bind, Sem.run_pure, Result.andThen_ok, List.map_toArray, List.map_cons, List.map_nil, hs, hx, hr]
 exact h v' w' h2 h3 h4
theorem own_row {base : Nat} {e : TypeId} {v : Value} {n : Nat} {xs : List Value} {w : World} (h : w.ownsRow base e 1 v n xs) (hx : xs.length = n) :
  ∃ a cap, v = .slice a n cap ∧ n ≤ cap ∧ cap ≤ maxLen ∧ (0 < n → ∃ g, a = some ⟨g, 0, none⟩ ∧ base ≤ g ∧ g < w.heap.size ∧ ∀ i (h : i < xs.length), w.cell? ⟨g, 0 + i, none⟩ = some xs[i]) := by
 obtain ⟨h1, h2⟩ := h
 rcases h2 with ⟨rfl, hz⟩ | ⟨g, cap, cur, rfl, hg, hh, hn, hcap, hcs, htk⟩
 ·subst hz
  exact ⟨none, 0, rfl, Nat.le_refl _, Nat.zero_le _, fun h => absurd h (by omega)⟩
 ·refine ⟨some ⟨g, 0, none⟩, cap, rfl, hn, hcap, fun h0 => ⟨g, rfl, hg, (Array.getElem?_eq_some_iff.1 hh).1, fun i hi => ?_⟩⟩
  have h4 : w.cell? ⟨g, 0 + i, none⟩ = cur[i]? := by simp [World.cell?, hh]
  have h5 : (cur.toList.take (n * 1))[i]? = xs[i]? := by rw [htk]
  rw [List.getElem?_take_of_lt (by omega)] at h5
  rw [h4, ← Array.getElem?_toList, h5, List.getElem?_eq_getElem hi]
theorem own_empty {base : Nat} (W : World) (e : TypeId) (size g : Nat) (hg : W.heap.size = g) (hb : base ≤ g) : (W.alloc (.cells #[] e)).ownsRow base e size (.slice (some ⟨g, 0, none⟩) 0 0) 0 [] := by
 subst hg
 exact World.ownsRow_lit W #[] 0 hb (Nat.zero_le _) (by simp)
end
end Go.Proofs.YtkejeiopfblkgaaGreatDoor
namespace Go.Proofs.YtkejeiopfblkgaaGreatDoor
open Go.RowKit
@[go_sem] theorem ta_Empty_Empty (p : Value) (w : World) : (Instr.typeAssert (.iface 113 p) 24 113 true).run Tryz.prog w = .ok (.tuple #[p, .bool true]) w := by kernel_rfl
@[go_sem] theorem ta_Empty_One (p : Value) (w : World) : (Instr.typeAssert (.iface 113 p) 24 100 true).run Tryz.prog w = .ok (.tuple #[.agg #[.int .u64 0, .int .u64 0, .int .u64 0, .int .u64 0], .bool false]) w := by kernel_rfl
@[go_sem] theorem ta_Empty_Cat (p : Value) (w : World) : (Instr.typeAssert (.iface 113 p) 24 45 true).run Tryz.prog w = .ok (.tuple #[.agg #[.slice none 0 0], .bool false]) w := by kernel_rfl
@[go_sem] theorem ta_Empty_Alt (p : Value) (w : World) : (Instr.typeAssert (.iface 113 p) 24 56 true).run Tryz.prog w = .ok (.tuple #[.agg #[.slice none 0 0], .bool false]) w := by kernel_rfl
@[go_sem] theorem ta_Empty_Rep (p : Value) (w : World) : (Instr.typeAssert (.iface 113 p) 24 106 true).run Tryz.prog w = .ok (.tuple #[.agg #[.nilIface, .int .i64 0, .int .i64 0], .bool false]) w := by kernel_rfl
@[go_sem] theorem ta_Empty_Group (p : Value) (w : World) : (Instr.typeAssert (.iface 113 p) 24 77 true).run Tryz.prog w = .ok (.tuple #[.agg #[.int .i64 0, .nilIface], .bool false]) w := by kernel_rfl
@[go_sem] theorem ta_Empty_Back (p : Value) (w : World) : (Instr.typeAssert (.iface 113 p) 24 81 true).run Tryz.prog w = .ok (.tuple #[.agg #[.int .i64 0], .bool false]) w := by kernel_rfl
@[go_sem] theorem ta_Empty_Start (p : Value) (w : World) : (Instr.typeAssert (.iface 113 p) 24 95 true).run Tryz.prog w = .ok (.tuple #[.agg #[], .bool false]) w := by kernel_rfl
@[go_sem] theorem ta_Empty_End (p : Value) (w : World) : (Instr.typeAssert (.iface 113 p) 24 96 true).run Tryz.prog w = .ok (.tuple #[.agg #[], .bool false]) w := by kernel_rfl
@[go_sem] theorem ta_One_Empty (p : Value) (w : World) : (Instr.typeAssert (.iface 100 p) 24 113 true).run Tryz.prog w = .ok (.tuple #[.agg #[], .bool false]) w := by kernel_rfl
@[go_sem] theorem ta_One_One (p : Value) (w : World) : (Instr.typeAssert (.iface 100 p) 24 100 true).run Tryz.prog w = .ok (.tuple #[p, .bool true]) w := by kernel_rfl
@[go_sem] theorem ta_One_Cat (p : Value) (w : World) : (Instr.typeAssert (.iface 100 p) 24 45 true).run Tryz.prog w = .ok (.tuple #[.agg #[.slice none 0 0], .bool false]) w := by kernel_rfl
@[go_sem] theorem ta_One_Alt (p : Value) (w : World) : (Instr.typeAssert (.iface 100 p) 24 56 true).run Tryz.prog w = .ok (.tuple #[.agg #[.slice none 0 0], .bool false]) w := by kernel_rfl
@[go_sem] theorem ta_One_Rep (p : Value) (w : World) : (Instr.typeAssert (.iface 100 p) 24 106 true).run Tryz.prog w = .ok (.tuple #[.agg #[.nilIface, .int .i64 0, .int .i64 0], .bool false]) w := by kernel_rfl
@[go_sem] theorem ta_One_Group (p : Value) (w : World) : (Instr.typeAssert (.iface 100 p) 24 77 true).run Tryz.prog w = .ok (.tuple #[.agg #[.int .i64 0, .nilIface], .bool false]) w := by kernel_rfl
@[go_sem] theorem ta_One_Back (p : Value) (w : World) : (Instr.typeAssert (.iface 100 p) 24 81 true).run Tryz.prog w = .ok (.tuple #[.agg #[.int .i64 0], .bool false]) w := by kernel_rfl
@[go_sem] theorem ta_One_Start (p : Value) (w : World) : (Instr.typeAssert (.iface 100 p) 24 95 true).run Tryz.prog w = .ok (.tuple #[.agg #[], .bool false]) w := by kernel_rfl
@[go_sem] theorem ta_One_End (p : Value) (w : World) : (Instr.typeAssert (.iface 100 p) 24 96 true).run Tryz.prog w = .ok (.tuple #[.agg #[], .bool false]) w := by kernel_rfl
@[go_sem] theorem ta_Cat_Empty (p : Value) (w : World) : (Instr.typeAssert (.iface 45 p) 24 113 true).run Tryz.prog w = .ok (.tuple #[.agg #[], .bool false]) w := by kernel_rfl
@[go_sem] theorem ta_Cat_One (p : Value) (w : World) : (Instr.typeAssert (.iface 45 p) 24 100 true).run Tryz.prog w = .ok (.tuple #[.agg #[.int .u64 0, .int .u64 0, .int .u64 0, .int .u64 0], .bool false]) w := by kernel_rfl
@[go_sem] theorem ta_Cat_Cat (p : Value) (w : World) : (Instr.typeAssert (.iface 45 p) 24 45 true).run Tryz.prog w = .ok (.tuple #[p, .bool true]) w := by kernel_rfl
@[go_sem] theorem ta_Cat_Alt (p : Value) (w : World) : (Instr.typeAssert (.iface 45 p) 24 56 true).run Tryz.prog w = .ok (.tuple #[.agg #[.slice none 0 0], .bool false]) w := by kernel_rfl
@[go_sem] theorem ta_Cat_Rep (p : Value) (w : World) : (Instr.typeAssert (.iface 45 p) 24 106 true).run Tryz.prog w = .ok (.tuple #[.agg #[.nilIface, .int .i64 0, .int .i64 0], .bool false]) w := by kernel_rfl
@[go_sem] theorem ta_Cat_Group (p : Value) (w : World) : (Instr.typeAssert (.iface 45 p) 24 77 true).run Tryz.prog w = .ok (.tuple #[.agg #[.int .i64 0, .nilIface], .bool false]) w := by kernel_rfl
@[go_sem] theorem ta_Cat_Back (p : Value) (w : World) : (Instr.typeAssert (.iface 45 p) 24 81 true).run Tryz.prog w = .ok (.tuple #[.agg #[.int .i64 0], .bool false]) w := by kernel_rfl
@[go_sem] theorem ta_Cat_Start (p : Value) (w : World) : (Instr.typeAssert (.iface 45 p) 24 95 true).run Tryz.prog w = .ok (.tuple #[.agg #[], .bool false]) w := by kernel_rfl
@[go_sem] theorem ta_Cat_End (p : Value) (w : World) : (Instr.typeAssert (.iface 45 p) 24 96 true).run Tryz.prog w = .ok (.tuple #[.agg #[], .bool false]) w := by kernel_rfl
@[go_sem] theorem ta_Alt_Empty (p : Value) (w : World) : (Instr.typeAssert (.iface 56 p) 24 113 true).run Tryz.prog w = .ok (.tuple #[.agg #[], .bool false]) w := by kernel_rfl
@[go_sem] theorem ta_Alt_One (p : Value) (w : World) : (Instr.typeAssert (.iface 56 p) 24 100 true).run Tryz.prog w = .ok (.tuple #[.agg #[.int .u64 0, .int .u64 0, .int .u64 0, .int .u64 0], .bool false]) w := by kernel_rfl
@[go_sem] theorem ta_Alt_Cat (p : Value) (w : World) : (Instr.typeAssert (.iface 56 p) 24 45 true).run Tryz.prog w = .ok (.tuple #[.agg #[.slice none 0 0], .bool false]) w := by kernel_rfl
@[go_sem] theorem ta_Alt_Alt (p : Value) (w : World) : (Instr.typeAssert (.iface 56 p) 24 56 true).run Tryz.prog w = .ok (.tuple #[p, .bool true]) w := by kernel_rfl
@[go_sem] theorem ta_Alt_Rep (p : Value) (w : World) : (Instr.typeAssert (.iface 56 p) 24 106 true).run Tryz.prog w = .ok (.tuple #[.agg #[.nilIface, .int .i64 0, .int .i64 0], .bool false]) w := by kernel_rfl
@[go_sem] theorem ta_Alt_Group (p : Value) (w : World) : (Instr.typeAssert (.iface 56 p) 24 77 true).run Tryz.prog w = .ok (.tuple #[.agg #[.int .i64 0, .nilIface], .bool false]) w := by kernel_rfl
@[go_sem] theorem ta_Alt_Back (p : Value) (w : World) : (Instr.typeAssert (.iface 56 p) 24 81 true).run Tryz.prog w = .ok (.tuple #[.agg #[.int .i64 0], .bool false]) w := by kernel_rfl
@[go_sem] theorem ta_Alt_Start (p : Value) (w : World) : (Instr.typeAssert (.iface 56 p) 24 95 true).run Tryz.prog w = .ok (.tuple #[.agg #[], .bool false]) w := by kernel_rfl
@[go_sem] theorem ta_Alt_End (p : Value) (w : World) : (Instr.typeAssert (.iface 56 p) 24 96 true).run Tryz.prog w = .ok (.tuple #[.agg #[], .bool false]) w := by kernel_rfl
@[go_sem] theorem ta_Rep_Empty (p : Value) (w : World) : (Instr.typeAssert (.iface 106 p) 24 113 true).run Tryz.prog w = .ok (.tuple #[.agg #[], .bool false]) w := by kernel_rfl
@[go_sem] theorem ta_Rep_One (p : Value) (w : World) : (Instr.typeAssert (.iface 106 p) 24 100 true).run Tryz.prog w = .ok (.tuple #[.agg #[.int .u64 0, .int .u64 0, .int .u64 0, .int .u64 0], .bool false]) w := by kernel_rfl
@[go_sem] theorem ta_Rep_Cat (p : Value) (w : World) : (Instr.typeAssert (.iface 106 p) 24 45 true).run Tryz.prog w = .ok (.tuple #[.agg #[.slice none 0 0], .bool false]) w := by kernel_rfl
@[go_sem] theorem ta_Rep_Alt (p : Value) (w : World) : (Instr.typeAssert (.iface 106 p) 24 56 true).run Tryz.prog w = .ok (.tuple #[.agg #[.slice none 0 0], .bool false]) w := by kernel_rfl
@[go_sem] theorem ta_Rep_Rep (p : Value) (w : World) : (Instr.typeAssert (.iface 106 p) 24 106 true).run Tryz.prog w = .ok (.tuple #[p, .bool true]) w := by kernel_rfl
@[go_sem] theorem ta_Rep_Group (p : Value) (w : World) : (Instr.typeAssert (.iface 106 p) 24 77 true).run Tryz.prog w = .ok (.tuple #[.agg #[.int .i64 0, .nilIface], .bool false]) w := by kernel_rfl
@[go_sem] theorem ta_Rep_Back (p : Value) (w : World) : (Instr.typeAssert (.iface 106 p) 24 81 true).run Tryz.prog w = .ok (.tuple #[.agg #[.int .i64 0], .bool false]) w := by kernel_rfl
@[go_sem] theorem ta_Rep_Start (p : Value) (w : World) : (Instr.typeAssert (.iface 106 p) 24 95 true).run Tryz.prog w = .ok (.tuple #[.agg #[], .bool false]) w := by kernel_rfl
@[go_sem] theorem ta_Rep_End (p : Value) (w : World) : (Instr.typeAssert (.iface 106 p) 24 96 true).run Tryz.prog w = .ok (.tuple #[.agg #[], .bool false]) w := by kernel_rfl
@[go_sem] theorem ta_Group_Empty (p : Value) (w : World) : (Instr.typeAssert (.iface 77 p) 24 113 true).run Tryz.prog w = .ok (.tuple #[.agg #[], .bool false]) w := by kernel_rfl
@[go_sem] theorem ta_Group_One (p : Value) (w : World) : (Instr.typeAssert (.iface 77 p) 24 100 true).run Tryz.prog w = .ok (.tuple #[.agg #[.int .u64 0, .int .u64 0, .int .u64 0, .int .u64 0], .bool false]) w := by kernel_rfl
@[go_sem] theorem ta_Group_Cat (p : Value) (w : World) : (Instr.typeAssert (.iface 77 p) 24 45 true).run Tryz.prog w = .ok (.tuple #[.agg #[.slice none 0 0], .bool false]) w := by kernel_rfl
@[go_sem] theorem ta_Group_Alt (p : Value) (w : World) : (Instr.typeAssert (.iface 77 p) 24 56 true).run Tryz.prog w = .ok (.tuple #[.agg #[.slice none 0 0], .bool false]) w := by kernel_rfl
@[go_sem] theorem ta_Group_Rep (p : Value) (w : World) : (Instr.typeAssert (.iface 77 p) 24 106 true).run Tryz.prog w = .ok (.tuple #[.agg #[.nilIface, .int .i64 0, .int .i64 0], .bool false]) w := by kernel_rfl
@[go_sem] theorem ta_Group_Group (p : Value) (w : World) : (Instr.typeAssert (.iface 77 p) 24 77 true).run Tryz.prog w = .ok (.tuple #[p, .bool true]) w := by kernel_rfl
@[go_sem] theorem ta_Group_Back (p : Value) (w : World) : (Instr.typeAssert (.iface 77 p) 24 81 true).run Tryz.prog w = .ok (.tuple #[.agg #[.int .i64 0], .bool false]) w := by kernel_rfl
@[go_sem] theorem ta_Group_Start (p : Value) (w : World) : (Instr.typeAssert (.iface 77 p) 24 95 true).run Tryz.prog w = .ok (.tuple #[.agg #[], .bool false]) w := by kernel_rfl
@[go_sem] theorem ta_Group_End (p : Value) (w : World) : (Instr.typeAssert (.iface 77 p) 24 96 true).run Tryz.prog w = .ok (.tuple #[.agg #[], .bool false]) w := by kernel_rfl
@[go_sem] theorem ta_Back_Empty (p : Value) (w : World) : (Instr.typeAssert (.iface 81 p) 24 113 true).run Tryz.prog w = .ok (.tuple #[.agg #[], .bool false]) w := by kernel_rfl
@[go_sem] theorem ta_Back_One (p : Value) (w : World) : (Instr.typeAssert (.iface 81 p) 24 100 true).run Tryz.prog w = .ok (.tuple #[.agg #[.int .u64 0, .int .u64 0, .int .u64 0, .int .u64 0], .bool false]) w := by kernel_rfl
@[go_sem] theorem ta_Back_Cat (p : Value) (w : World) : (Instr.typeAssert (.iface 81 p) 24 45 true).run Tryz.prog w = .ok (.tuple #[.agg #[.slice none 0 0], .bool false]) w := by kernel_rfl
@[go_sem] theorem ta_Back_Alt (p : Value) (w : World) : (Instr.typeAssert (.iface 81 p) 24 56 true).run Tryz.prog w = .ok (.tuple #[.agg #[.slice none 0 0], .bool false]) w := by kernel_rfl
@[go_sem] theorem ta_Back_Rep (p : Value) (w : World) : (Instr.typeAssert (.iface 81 p) 24 106 true).run Tryz.prog w = .ok (.tuple #[.agg #[.nilIface, .int .i64 0, .int .i64 0], .bool false]) w := by kernel_rfl
@[go_sem] theorem ta_Back_Group (p : Value) (w : World) : (Instr.typeAssert (.iface 81 p) 24 77 true).run Tryz.prog w = .ok (.tuple #[.agg #[.int .i64 0, .nilIface], .bool false]) w := by kernel_rfl
@[go_sem] theorem ta_Back_Back (p : Value) (w : World) : (Instr.typeAssert (.iface 81 p) 24 81 true).run Tryz.prog w = .ok (.tuple #[p, .bool true]) w := by kernel_rfl
@[go_sem] theorem ta_Back_Start (p : Value) (w : World) : (Instr.typeAssert (.iface 81 p) 24 95 true).run Tryz.prog w = .ok (.tuple #[.agg #[], .bool false]) w := by kernel_rfl
@[go_sem] theorem ta_Back_End (p : Value) (w : World) : (Instr.typeAssert (.iface 81 p) 24 96 true).run Tryz.prog w = .ok (.tuple #[.agg #[], .bool false]) w := by kernel_rfl
@[go_sem] theorem ta_Start_Empty (p : Value) (w : World) : (Instr.typeAssert (.iface 95 p) 24 113 true).run Tryz.prog w = .ok (.tuple #[.agg #[], .bool false]) w := by kernel_rfl
@[go_sem] theorem ta_Start_One (p : Value) (w : World) : (Instr.typeAssert (.iface 95 p) 24 100 true).run Tryz.prog w = .ok (.tuple #[.agg #[.int .u64 0, .int .u64 0, .int .u64 0, .int .u64 0], .bool false]) w := by kernel_rfl
@[go_sem] theorem ta_Start_Cat (p : Value) (w : World) : (Instr.typeAssert (.iface 95 p) 24 45 true).run Tryz.prog w = .ok (.tuple #[.agg #[.slice none 0 0], .bool false]) w := by kernel_rfl
@[go_sem] theorem ta_Start_Alt (p : Value) (w : World) : (Instr.typeAssert (.iface 95 p) 24 56 true).run Tryz.prog w = .ok (.tuple #[.agg #[.slice none 0 0], .bool false]) w := by kernel_rfl
@[go_sem] theorem ta_Start_Rep (p : Value) (w : World) : (Instr.typeAssert (.iface 95 p) 24 106 true).run Tryz.prog w = .ok (.tuple #[.agg #[.nilIface, .int .i64 0, .int .i64 0], .bool false]) w := by kernel_rfl
@[go_sem] theorem ta_Start_Group (p : Value) (w : World) : (Instr.typeAssert (.iface 95 p) 24 77 true).run Tryz.prog w = .ok (.tuple #[.agg #[.int .i64 0, .nilIface], .bool false]) w := by kernel_rfl
@[go_sem] theorem ta_Start_Back (p : Value) (w : World) : (Instr.typeAssert (.iface 95 p) 24 81 true).run Tryz.prog w = .ok (.tuple #[.agg #[.int .i64 0], .bool false]) w := by kernel_rfl
@[go_sem] theorem ta_Start_Start (p : Value) (w : World) : (Instr.typeAssert (.iface 95 p) 24 95 true).run Tryz.prog w = .ok (.tuple #[p, .bool true]) w := by kernel_rfl
@[go_sem] theorem ta_Start_End (p : Value) (w : World) : (Instr.typeAssert (.iface 95 p) 24 96 true).run Tryz.prog w = .ok (.tuple #[.agg #[], .bool false]) w := by kernel_rfl
@[go_sem] theorem ta_End_Empty (p : Value) (w : World) : (Instr.typeAssert (.iface 96 p) 24 113 true).run Tryz.prog w = .ok (.tuple #[.agg #[], .bool false]) w := by kernel_rfl
@[go_sem] theorem ta_End_One (p : Value) (w : World) : (Instr.typeAssert (.iface 96 p) 24 100 true).run Tryz.prog w = .ok (.tuple #[.agg #[.int .u64 0, .int .u64 0, .int .u64 0, .int .u64 0], .bool false]) w := by kernel_rfl
@[go_sem] theorem ta_End_Cat (p : Value) (w : World) : (Instr.typeAssert (.iface 96 p) 24 45 true).run Tryz.prog w = .ok (.tuple #[.agg #[.slice none 0 0], .bool false]) w := by kernel_rfl
@[go_sem] theorem ta_End_Alt (p : Value) (w : World) : (Instr.typeAssert (.iface 96 p) 24 56 true).run Tryz.prog w = .ok (.tuple #[.agg #[.slice none 0 0], .bool false]) w := by kernel_rfl
@[go_sem] theorem ta_End_Rep (p : Value) (w : World) : (Instr.typeAssert (.iface 96 p) 24 106 true).run Tryz.prog w = .ok (.tuple #[.agg #[.nilIface, .int .i64 0, .int .i64 0], .bool false]) w := by kernel_rfl
@[go_sem] theorem ta_End_Group (p : Value) (w : World) : (Instr.typeAssert (.iface 96 p) 24 77 true).run Tryz.prog w = .ok (.tuple #[.agg #[.int .i64 0, .nilIface], .bool false]) w := by kernel_rfl
@[go_sem] theorem ta_End_Back (p : Value) (w : World) : (Instr.typeAssert (.iface 96 p) 24 81 true).run Tryz.prog w = .ok (.tuple #[.agg #[.int .i64 0], .bool false]) w := by kernel_rfl
@[go_sem] theorem ta_End_Start (p : Value) (w : World) : (Instr.typeAssert (.iface 96 p) 24 95 true).run Tryz.prog w = .ok (.tuple #[.agg #[], .bool false]) w := by kernel_rfl
@[go_sem] theorem ta_End_End (p : Value) (w : World) : (Instr.typeAssert (.iface 96 p) 24 96 true).run Tryz.prog w = .ok (.tuple #[p, .bool true]) w := by kernel_rfl
@[go_sem] theorem ta_nil_Empty (w : World) : (Instr.typeAssert .nilIface 24 113 true).run Tryz.prog w = .ok (.tuple #[.agg #[], .bool false]) w := by kernel_rfl
@[go_sem] theorem ta_nil_One (w : World) : (Instr.typeAssert .nilIface 24 100 true).run Tryz.prog w = .ok (.tuple #[.agg #[.int .u64 0, .int .u64 0, .int .u64 0, .int .u64 0], .bool false]) w := by kernel_rfl
@[go_sem] theorem ta_nil_Cat (w : World) : (Instr.typeAssert .nilIface 24 45 true).run Tryz.prog w = .ok (.tuple #[.agg #[.slice none 0 0], .bool false]) w := by kernel_rfl
@[go_sem] theorem ta_nil_Alt (w : World) : (Instr.typeAssert .nilIface 24 56 true).run Tryz.prog w = .ok (.tuple #[.agg #[.slice none 0 0], .bool false]) w := by kernel_rfl
@[go_sem] theorem ta_nil_Rep (w : World) : (Instr.typeAssert .nilIface 24 106 true).run Tryz.prog w = .ok (.tuple #[.agg #[.nilIface, .int .i64 0, .int .i64 0], .bool false]) w := by kernel_rfl
@[go_sem] theorem ta_nil_Group (w : World) : (Instr.typeAssert .nilIface 24 77 true).run Tryz.prog w = .ok (.tuple #[.agg #[.int .i64 0, .nilIface], .bool false]) w := by kernel_rfl
@[go_sem] theorem ta_nil_Back (w : World) : (Instr.typeAssert .nilIface 24 81 true).run Tryz.prog w = .ok (.tuple #[.agg #[.int .i64 0], .bool false]) w := by kernel_rfl
@[go_sem] theorem ta_nil_Start (w : World) : (Instr.typeAssert .nilIface 24 95 true).run Tryz.prog w = .ok (.tuple #[.agg #[], .bool false]) w := by kernel_rfl
@[go_sem] theorem ta_nil_End (w : World) : (Instr.typeAssert .nilIface 24 96 true).run Tryz.prog w = .ok (.tuple #[.agg #[], .bool false]) w := by kernel_rfl
end Go.Proofs.YtkejeiopfblkgaaGreatDoor
namespace Go.Proofs.YtkejeiopfblkgaaGreatDoor
open Go.RowKit
def NdX (F : Nat → Prop) (w : World) (d : Nd) (v : Value) : Prop := ∃ n, NdAt F n w d v
def NdRw (F : Nat → Prop) (w : World) (l : List Nd) (a : Option Addr) (cap : Nat) : Prop :=
 l.length ≤ cap ∧ cap ≤ maxLen ∧ (0 < l.length → ∃ b o, a = some ⟨b, o, none⟩ ∧ F b ∧ b < w.heap.size ∧ ∀ i (h : i < l.length), ∃ u, w.cell? ⟨b, o + i, none⟩ = some u ∧ NdX F w l[i] u)
theorem NdX.keep {F G : Nat → Prop} {w w' : World} (hs : w.heap.size ≤ w'.heap.size) (hF : ∀ b, F b → b < w.heap.size → G b ∧ ∀ o, w'.cell? ⟨b, o, none⟩ = w.cell? ⟨b, o, none⟩) {d : Nd} {v : Value} (h : NdX F w d v) : NdX G w' d v := by
 obtain ⟨n, h⟩ := h
 exact ⟨n, NdAt.keep hs hF n d v h⟩
theorem NdRw.keep {F G : Nat → Prop} {w w' : World} (hs : w.heap.size ≤ w'.heap.size) (hF : ∀ b, F b → b < w.heap.size → G b ∧ ∀ o, w'.cell? ⟨b, o, none⟩ = w.cell? ⟨b, o, none⟩) {l : List Nd} {a : Option Addr} {cap : Nat} (h : NdRw F w l a cap) : NdRw G w' l a cap := by
 refine ⟨h.1, h.2.1, fun h0 => ?_⟩
 obtain ⟨b, o, rfl, hf, hb, hx⟩ := h.2.2 h0
 refine ⟨b, o, rfl, (hF b hf hb).1, Nat.lt_of_lt_of_le hb hs, fun i hi => ?_⟩
 obtain ⟨u, hu, hr⟩ := hx i hi
 exact ⟨u, ((hF b hf hb).2 _).trans hu, hr.keep hs hF⟩
theorem NdX.below {F : Nat → Prop} {w w' : World} (hb : Below w.heap.size w w') {d : Nd} {v : Value} (h : NdX F w d v) : NdX F w' d v :=
 h.keep hb.size (fun b hf hlt => ⟨hf, fun o => hb.cell (p := ⟨b, o, none⟩) hlt⟩)
theorem NdRw.below {F : Nat → Prop} {w w' : World} (hb : Below w.heap.size w w') {l : List Nd} {a : Option Addr} {cap : Nat} (h : NdRw F w l a cap) : NdRw F w' l a cap :=
 h.keep hb.size (fun b hf hlt => ⟨hf, fun o => hb.cell (p := ⟨b, o, none⟩) hlt⟩)
theorem NdX.drew {F : Nat → Prop} {w : World} {d : Nd} {v : Value} (h : NdX F w d v) : NdX F w.drew d v := h.below (Below.drew (Below.refl _ _))
theorem NdRw.drew {F : Nat → Prop} {w : World} {l : List Nd} {a : Option Addr} {cap : Nat} (h : NdRw F w l a cap) : NdRw F w.drew l a cap := h.below (Below.drew (Below.refl _ _))
theorem NdRw.nil (F : Nat → Prop) (w : World) (a : Option Addr) (cap : Nat) (h : cap ≤ maxLen) : NdRw F w [] a cap := ⟨Nat.zero_le _, h, fun h => absurd h (by simp)⟩
theorem NdRw.of {F : Nat → Prop} {n : Nat} {w : World} {l : List Nd} {a : Option Addr} {cap : Nat} (h : NdRow F n w l a cap) : NdRw F w l a cap := by
 refine ⟨h.1, h.2.1, fun h0 => ?_⟩
 obtain ⟨b, o, rfl, hf, hb, hx⟩ := h.2.2 h0
 refine ⟨b, o, rfl, hf, hb, fun i hi => ?_⟩
 obtain ⟨u, hu, hr⟩ := hx i hi
 exact ⟨u, hu, n, hr⟩
theorem NdRw.tail {F : Nat → Prop} {w : World} {d : Nd} {l : List Nd} {a : Option Addr} {cap : Nat} (h : NdRw F w (d :: l) a cap) :
  ∃ b o u, a = some ⟨b, o, none⟩ ∧ F b ∧ b < w.heap.size ∧ 1 ≤ cap ∧ w.cell? ⟨b, o, none⟩ = some u ∧ NdX F w d u ∧ NdRw F w l (some ⟨b, o + 1, none⟩) (cap - 1) := by
 obtain ⟨b, o, rfl, hf, hb, hx⟩ := h.2.2 (by simp)
 obtain ⟨u, hu, hr⟩ := hx 0 (by simp)
 have h1 := h.1
 have h2 := h.2.1
 simp at h1
 refine ⟨b, o, u, rfl, hf, hb, by omega, hu, hr, by omega, by omega, fun _ => ⟨b, o + 1, rfl, hf, hb, fun i hi => ?_⟩⟩
 obtain ⟨u', hu', hr'⟩ := hx (i + 1) (by simpa using hi)
 exact ⟨u', by rw [← hu', Nat.add_assoc, Nat.add_comm 1 i], by simpa using hr'⟩
theorem ndrw_one {F G : Nat → Prop} {w : World} {d : Nd} {u : Value} {T : TypeId} {k : Nat} (hk : w.heap.size = k) (h : NdX F w d u) (hG : ∀ b, F b → b < w.heap.size → G b) (hn : G w.heap.size) : NdRw G (w.alloc (.cells #[u] T)) [d] (some ⟨k, 0, none⟩) 1 := by
 subst hk
 have hb := Blk.new w #[u] T _ rfl
 refine ⟨Nat.le_refl _, by decide, fun _ => ⟨w.heap.size, 0, rfl, hn, hb.lt, fun i hi => ?_⟩⟩
 obtain rfl : i = 0 := by simp at hi; exact hi
 have hB := (Below.refl w.heap.size w).alloc (Nat.le_refl _) (.cells #[u] T)
 exact ⟨u, (hb.cell 0).trans rfl, h.keep hB.size (fun b hf hlt => ⟨hG b hf hlt, fun o => hB.cell (p := ⟨b, o, none⟩) hlt⟩)⟩
set_option linter.unusedSimpArgs false in
set_option maxRecDepth 100000 in
set_option maxHeartbeats 2000000 in
theorem inner_any {F : Nat → Prop} (d : Nd) (v : Value) (w : World) (h : NdX F w d v) :
  Calls Tryz.prog 45 #[v] w fun e w' => ∃ a cap, e = .returned (.slice a (nkids d).length cap) ∧ NdRw (fun b => F b ∨ w.heap.size ≤ b) w' (nkids d) a cap ∧ Below w.heap.size w w' := by
 obtain ⟨n, h⟩ := h
 cases n with
 | zero => exact h.elim
 | succ n =>
  cases d with
  | empty =>
   rcases h with rfl | rfl
   ·go_enter Tryz.func45, Tryz.ntmps45
    go_wp2_with fail
    go_ret
    exact ⟨none, 0, rfl, NdRw.nil _ _ _ _ (by decide), Below.refl _ _⟩
   ·go_enter Tryz.func45, Tryz.ntmps45
    go_wp2_with fail
    go_ret
    exact ⟨none, 0, rfl, NdRw.nil _ _ _ _ (by decide), Below.refl _ _⟩
  | one s =>
   obtain rfl := h
   go_enter Tryz.func45, Tryz.ntmps45
   go_wp2_with fail
   go_ret
   exact ⟨none, 0, rfl, NdRw.nil _ _ _ _ (by decide), Below.refl _ _⟩
  | back num =>
   obtain rfl := h
   go_enter Tryz.func45, Tryz.ntmps45
   go_wp2_with fail
   go_ret
   exact ⟨none, 0, rfl, NdRw.nil _ _ _ _ (by decide), Below.refl _ _⟩
  | start =>
   obtain rfl := h
   go_enter Tryz.func45, Tryz.ntmps45
   go_wp2_with fail
   go_ret
   exact ⟨none, 0, rfl, NdRw.nil _ _ _ _ (by decide), Below.refl _ _⟩
  | fin =>
   obtain rfl := h
   go_enter Tryz.func45, Tryz.ntmps45
   go_wp2_with fail
   go_ret
   exact ⟨none, 0, rfl, NdRw.nil _ _ _ _ (by decide), Below.refl _ _⟩
  | cat l =>
   obtain ⟨a, cap, rfl, hx⟩ := h
   have hR : NdRw F w l a cap := NdRw.of (n := n) hx
   clear hx
   go_enter Tryz.func45, Tryz.ntmps45
   go_wp2_with fail
   go_ret
   have hB := (Below.refl w.heap.size w).alloc (Nat.le_refl _) (.cells #[.slice a l.length cap] 45)
   exact ⟨a, cap, rfl, hR.keep hB.size (fun b hf hlt => ⟨.inl hf, fun o => hB.cell (p := ⟨b, o, none⟩) hlt⟩), hB⟩
  | alt l =>
   obtain ⟨a, cap, rfl, hx⟩ := h
   have hR : NdRw F w l a cap := NdRw.of (n := n) hx
   clear hx
   go_enter Tryz.func45, Tryz.ntmps45
   go_wp2_with fail
   go_ret
   have hB := (Below.refl w.heap.size w).alloc (Nat.le_refl _) (.cells #[.slice a l.length cap] 56)
   exact ⟨a, cap, rfl, hR.keep hB.size (fun b hf hlt => ⟨.inl hf, fun o => hB.cell (p := ⟨b, o, none⟩) hlt⟩), hB⟩
  | rep d mn mx =>
   obtain ⟨u, rfl, hu⟩ := h
   have hX : NdX F w d u := ⟨n, hu⟩
   rcases nd_shape hu with ⟨T, q, rfl⟩ | rfl
   ·clear hu
    go_enter Tryz.func45, Tryz.ntmps45
    go_wp2_with fail
    go_ret
    have hB := (Below.refl w.heap.size w).alloc (Nat.le_refl _) (.cells #[.iface T q, .int .i64 mn, .int .i64 mx] 106)
    refine ⟨_, _, rfl, ndrw_one (G := fun b => F b ∨ w.heap.size ≤ b) (by simp) (hX.below hB) (fun b hf _ => .inl hf) (.inr hB.size), hB.alloc hB.size _⟩
   ·clear hu
    go_enter Tryz.func45, Tryz.ntmps45
    go_wp2_with fail
    go_ret
    have hB := (Below.refl w.heap.size w).alloc (Nat.le_refl _) (.cells #[.nilIface, .int .i64 mn, .int .i64 mx] 106)
    refine ⟨_, _, rfl, ndrw_one (G := fun b => F b ∨ w.heap.size ≤ b) (by simp) (hX.below hB) (fun b hf _ => .inl hf) (.inr hB.size), hB.alloc hB.size _⟩
  | group num d =>
   obtain ⟨u, rfl, hu⟩ := h
   have hX : NdX F w d u := ⟨n, hu⟩
   rcases nd_shape hu with ⟨T, q, rfl⟩ | rfl
   ·clear hu
    go_enter Tryz.func45, Tryz.ntmps45
    go_wp2_with fail
    go_ret
    have hB := (Below.refl w.heap.size w).alloc (Nat.le_refl _) (.cells #[.int .i64 num, .iface T q] 77)
    refine ⟨_, _, rfl, ndrw_one (G := fun b => F b ∨ w.heap.size ≤ b) (by simp) (hX.below hB) (fun b hf _ => .inl hf) (.inr hB.size), hB.alloc hB.size _⟩
   ·clear hu
    go_enter Tryz.func45, Tryz.ntmps45
    go_wp2_with fail
    go_ret
    have hB := (Below.refl w.heap.size w).alloc (Nat.le_refl _) (.cells #[.int .i64 num, .nilIface] 77)
    refine ⟨_, _, rfl, ndrw_one (G := fun b => F b ∨ w.heap.size ≤ b) (by simp) (hX.below hB) (fun b hf _ => .inl hf) (.inr hB.size), hB.alloc hB.size _⟩
end Go.Proofs.YtkejeiopfblkgaaGreatDoor
namespace Go.Proofs.YtkejeiopfblkgaaGreatDoor
open Go Go.RowKit
def markC (m : Nat × Nat) : List Value := [.int .i64 (m.1 : Int), .string ⟨#[92, UInt8.ofNat m.2]⟩]
def marksC (l : List (Nat × Nat)) : List Value := l.flatMap markC
theorem marksC_snoc (l : List (Nat × Nat)) (m : Nat × Nat) : marksC (l ++ [m]) = marksC l ++ markC m := by unfold marksC; rw [List.flatMap_append]; simp
theorem mark_info : ∃ i, Tryz.prog.info? 69 = some i ∧ i.zero = some (.agg #[.int .i64 0, .string ⟨#[]⟩]) ∧ i.size = 2 ∧ i.bytes = 24 := by
 have h : (Tryz.prog.info? 69).map (fun i => (i.zero, i.size, i.bytes)) = some (some (.agg #[.int .i64 0, .string ⟨#[]⟩]), 2, 24) := by kernel_rfl
 obtain ⟨i, hi, he⟩ := Option.map_eq_some_iff.1 h
 injection he with h1 h2
 injection h2 with h2 h3
 exact ⟨i, hi, h1, h2, h3⟩
theorem own_lt' {B : Nat} {w : World} {e : TypeId} {size n : Nat} {v : Value} {us : List Value} (h : w.ownsRow B e size v n us) (g : Nat) (hg : v.ownBlock = some g) : g < w.heap.size := by
 rcases h.2 with ⟨rfl, _⟩ | ⟨g', cap, cur, rfl, _, hh, _⟩
 ·simp [Value.ownBlock] at hg
 ·simp [Value.ownBlock] at hg
  subst hg
  exact (Array.getElem?_eq_some_iff.1 hh).1
structure AtSet (w0 : World) (a : Nat) (t : OSet) (wx : World) : Prop where
 b : Below w0.heap.size w0 wx
 s : Blk wx a #[.int .u64 (ow t 0), .int .u64 (ow t 1), .int .u64 (ow t 2), .int .u64 (ow t 3)] 97
 lo : w0.heap.size ≤ a
theorem blk_four {w : World} {a : Nat} {x y z u : Value} {T : TypeId} (h : Blk w a #[x, y, z, u] T) : w.cell? ⟨a, 0, none⟩ = some x ∧ w.cell? ⟨a, 1, none⟩ = some y ∧ w.cell? ⟨a, 2, none⟩ = some z ∧ w.cell? ⟨a, 3, none⟩ = some u ∧
  w.frozen? ⟨a, 0, none⟩ = false ∧ w.frozen? ⟨a, 1, none⟩ = false ∧ w.frozen? ⟨a, 2, none⟩ = false ∧ w.frozen? ⟨a, 3, none⟩ = false ∧ a < w.heap.size :=
 ⟨(h.cell 0).trans rfl, (h.cell 1).trans rfl, (h.cell 2).trans rfl, (h.cell 3).trans rfl, h.frozen 0, h.frozen 1, h.frozen 2, h.frozen 3, h.lt⟩
theorem xi_len (cl L : List UInt8) (q : Int × Int × Nat) (h0 : cl ≠ []) (h : ivl cl L = some q) : q.2.2 ≤ L.length := by
 unfold ivl at h
 split at h
 ·rename_i hc
  injection h with h
  subst h
  rw [Bool.and_eq_true] at hc
  exact word_len _ _ _ hc.2 h0
 ·cases h
theorem own_form' {w : World} {B : Nat} {e : TypeId} {size n : Nat} {v : Value} {us : List Value} (h : w.ownsRow B e size v n us) : ∃ a c, v = .slice a n c := by
 rcases h.2 with ⟨rfl, h0⟩ | ⟨g, cap, cur, rfl, _⟩
 ·exact ⟨none, 0, by rw [h0]⟩
 ·exact ⟨_, _, rfl⟩
theorem ndx_cat_form {F : Nat → Prop} {w : World} {l : List Nd} {v : Value} (h : NdX F w (.cat l) v) : ∃ a cap, v = .iface 45 (.agg #[.slice a l.length cap]) := by
 obtain ⟨n, h⟩ := h
 cases n with
 | zero => exact h.elim
 | succ n => obtain ⟨a, cap, h1, _⟩ := h; exact ⟨a, cap, h1⟩
def PAns (r : ReRes (ReSt × Nd)) (w : World) (e : Ending) (w' : World) : Prop := Below w.heap.size w w' ∧ match r with
 | .error q => e = .returned (.tuple #[.nilIface, .slice none 0 0, .int .i64 (q.2 : Int), .int .i64 (q.1 : Int)])
 | .ok q => ∃ v mv, e = .returned (.tuple #[v, mv, .int .i64 0, .int .i64 0]) ∧ NdX (fun b => w.heap.size ≤ b) w' q.2 v ∧ w'.ownsRow w.heap.size 69 2 mv q.1.marks.length (marksC q.1.marks)
theorem rep_none {s : List UInt8} {k : Nat} (h0 : chAt s k 42 = false) (h1 : esAt s k 43 = false) (h2 : esAt s k 63 = false) (h : esAt s k 123 = false) : repAt false s k = .none := by unfold repAt; simp [h0, h1, h2, opAt, h]
theorem rep_star {s : List UInt8} {k : Nat} (h : chAt s k 42 = true) : repAt false s k = .some 0 (-1) 0 (k + 1) := by unfold repAt; rw [if_pos h]
theorem rep_plus {s : List UInt8} {k : Nat} (h0 : chAt s k 42 = false) (h : esAt s k 43 = true) : repAt false s k = .some 1 (-1) 43 (k + 2) := by unfold repAt; simp [h0, opAt, opLen, h]
theorem rep_ask {s : List UInt8} {k : Nat} (h0 : chAt s k 42 = false) (h1 : esAt s k 43 = false) (h : esAt s k 63 = true) : repAt false s k = .some 0 1 63 (k + 2) := by unfold repAt; simp [h0, h1, opAt, opLen, h]
theorem rep_intv {s : List UInt8} {k : Nat} {m n : Int} {j : Nat} (h0 : chAt s k 42 = false) (h1 : esAt s k 43 = false) (h2 : esAt s k 63 = false) (h : esAt s k 123 = true) (hi : intv false s (k + 2) = some (m, n, j)) : repAt false s k = .some m n 0 j := by unfold repAt; simp [h0, h1, h2, opAt, opLen, h, hi]
theorem rep_bad {s : List UInt8} {k : Nat} (h0 : chAt s k 42 = false) (h1 : esAt s k 43 = false) (h2 : esAt s k 63 = false) (h : esAt s k 123 = true) (hi : intv false s (k + 2) = none) : repAt false s k = .bad := by unfold repAt; simp [h0, h1, h2, opAt, opLen, h, hi]
theorem not_oz : (~~~oz : OSet) = oSpan 0 255 := by decide +kernel
end Go.Proofs.YtkejeiopfblkgaaGreatDoor
