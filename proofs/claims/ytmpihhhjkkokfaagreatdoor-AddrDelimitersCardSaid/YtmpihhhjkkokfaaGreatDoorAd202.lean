/- The proof's texts MaB: what the claim reaches of them. -/
import Derived.WalkKit
import Derived.WalkSmall
import Derived.Maps.AppendAt
import Derived.Tactics
import Derived.Deep.RegionLaw
import Derived.Deep.AppendLies
import Derived.RangeFuncIn
import Derived.RangeFuncRecord
import Derived.RangeFuncLeaves
import Derived.RangeFuncSeq
import Derived.Below
namespace Go.Proofs.YtmpihhhjkkokfaaGreatDoor
open Go.RowKit
def Blk (w : World) (a : Nat) (cs : Array Value) (T : TypeId) : Prop := w.heap[a]? = some (.cells cs T)
theorem Blk.lt {w : World} {a : Nat} {cs : Array Value} {T : TypeId} (h : Blk w a cs T) : a < w.heap.size := (Array.getElem?_eq_some_iff.1 h).1
theorem Blk.cell {w : World} {a : Nat} {cs : Array Value} {T : TypeId} (h : Blk w a cs T) (j : Nat) : w.cell? ⟨a, j, none⟩ = cs[j]? := by
 unfold Blk at h
 simp [World.cell?, h]
theorem Blk.frozen {w : World} {a : Nat} {cs : Array Value} {T : TypeId} (h : Blk w a cs T) (j : Nat) : w.frozen? ⟨a, j, none⟩ = false := by
 unfold Blk at h
 simp [World.frozen?, h]
theorem Blk.set {w : World} {a : Nat} {cs : Array Value} {T : TypeId} (h : Blk w a cs T) (j : Nat) (v : Value) : Blk (w.setCell ⟨a, j, none⟩ v) a (cs.setIfInBounds j v) T := by
 unfold Blk at h ⊢
 simp only [World.setCell, Array.getElem?_modify, if_true, h]
 rfl
theorem Blk.set_other {w : World} {a : Nat} {cs : Array Value} {T : TypeId} (h : Blk w a cs T) (p : Addr) (hp : p.block ≠ a) (v : Value) : Blk (w.setCell p v) a cs T := by
 unfold Blk at h ⊢
 rw [Below.heap_setCell _ _ _ _ (fun e => hp e.symm)]
 exact h
theorem Blk.new (w : World) (cs : Array Value) (T : TypeId) (a : Nat) (ha : a = w.heap.size) : Blk (w.alloc (.cells cs T)) a cs T := by
 subst ha
 show (w.heap.push _)[w.heap.size]? = _
 rw [Array.getElem?_push_size]
theorem Blk.alloc {w : World} {a : Nat} {cs : Array Value} {T : TypeId} (h : Blk w a cs T) (o : Obj) : Blk (w.alloc o) a cs T := by
 have := h.lt
 unfold Blk at h ⊢
 rw [Below.heap_alloc _ _ _ this]
 exact h
theorem Blk.drew {w : World} {a : Nat} {cs : Array Value} {T : TypeId} (h : Blk w a cs T) : Blk w.drew a cs T := h
theorem Blk.drewN {w : World} {a : Nat} {cs : Array Value} {T : TypeId} (h : Blk w a cs T) (n : Nat) : Blk (w.drewN n) a cs T := h
theorem Blk.below {w w' : World} {B a : Nat} {cs : Array Value} {T : TypeId} (h : Blk w a cs T) (hb : Below B w w') (ha : a < B) : Blk w' a cs T := by
 unfold Blk at h ⊢
 rw [hb.block a ha]
 exact h
end Go.Proofs.YtmpihhhjkkokfaaGreatDoor
namespace Go.Proofs.YtmpihhhjkkokfaaGreatDoor
open Go
variable {P : Program} (w : World)
theorem run_append_zero (base : Nat) (t ty e : TypeId) (i : TypeInfo) (ht : P.underlying t = some (.slice e)) (hi : P.info? e = some i) (size : Nat) (v : Value) (n : Nat) (xs : List Value) (hown : w.ownsRow base e size v n xs) (a : Option Addr) (c : Nat) :
  (Builtin.append_ #[t, t] ty #[v, .slice a 0 c]).run P w = .ok v w := by
 rcases hown.2 with ⟨rfl, rfl⟩ | ⟨g, cap, cur, rfl, _, _, hn, _⟩
 ·cases a <;> simp [Builtin.append_, run_underlying ht, sizeOf, typeInfo, hi, Builtin.lenOf, Builtin.firstCells, loadCells, loadCellsFrom]
 ·cases a <;> simp [Builtin.append_, run_underlying ht, sizeOf, typeInfo, hi, Builtin.lenOf, Builtin.firstCells, loadCells, loadCellsFrom, hn, storeCells]
theorem run_append_own_any (base : Nat) (t ty e : TypeId) (i : TypeInfo) (z : Value) (size bytes : Nat) (ht : P.underlying t = some (.slice e)) (hi : P.info? e = some i) (hz : i.zero = some z)
  (hsize : i.size = size) (hby : i.bytes = bytes) (hzs : z.cells.size = size) (hsz : 0 < size)
  (v : Value) (n : Nat) (xs : List Value) (hown : w.ownsRow base e size v n xs)
  (oa : Option Addr) (m c : Nat) (news : List Value) (hl : news.length = m * size) (hnews : 0 < m → ∃ a, oa = some a ∧ ∀ j u, news[j]? = some u → w.cell? (a.add j) = some u) (h1 : ∀ u ∈ news, u.oneCell' = true)
  (h63 : n + m ≤ maxLen) (hbytes : (n + m) * bytes ≤ 140737488355328) (hbase : base ≤ w.heap.size) :
  ∃ v' w', (Builtin.append_ #[t, t] ty #[v, .slice oa m c]).run P w = .ok v' w' ∧ w'.ownsRow base e size v' (n + m) (xs ++ news) ∧ w.grownBy w' v.ownBlock ∧
   (v'.ownBlock = v.ownBlock ∨ v'.ownBlock = some w.heap.size) := by
 by_cases hm : m = 0
 ·subst hm
  have hn : news = [] := List.eq_nil_of_length_eq_zero (by simpa using hl)
  subst hn
  refine ⟨v, w, run_append_zero w base t ty e i ht hi size v n xs hown oa c, ?_, ⟨rfl, rfl, rfl, Nat.le_refl _, fun _ _ _ => rfl⟩, .inl rfl⟩
  rw [List.append_nil]
  exact hown
 ·obtain ⟨a, rfl, hc⟩ := hnews (by omega)
  obtain ⟨v', w', h2, h3, h4, _, h5⟩ := run_append_own_at (P := P) w base t ty e i z size bytes ht hi hz hsize hby hzs hsz v n xs hown a m c news hl hc h1 h63 hbytes hbase
  exact ⟨v', w', h2, h3, h4, h5⟩
theorem wpList_append_any {ops : Array Oper} {rest : List Oper} {o : Oper} {a : Act} {Q : Exit → Act → World → Prop} (hgd : o.guard = none) (s x : Operand) (t : TypeId)
  (ho : o.op = .call { callee := .builtin .append, args := #[s, x], argTypes := #[t, t] })
  (base : Nat) (e : TypeId) (i : TypeInfo) (z : Value) (size bytes : Nat) (ht : P.underlying t = some (.slice e)) (hi : P.info? e = some i) (hz : i.zero = some z)
  (hsize : i.size = size) (hby : i.bytes = bytes) (hzs : z.cells.size = size) (hsz : 0 < size)
  (v : Value) (n : Nat) (xs : List Value) (hs : a.eval s = v) (hown : w.ownsRow base e size v n xs)
  (oa : Option Addr) (m c : Nat) (news : List Value) (hx : a.eval x = .slice oa m c) (hl : news.length = m * size) (hnews : 0 < m → ∃ a, oa = some a ∧ ∀ j u, news[j]? = some u → w.cell? (a.add j) = some u) (h1 : ∀ u ∈ news, u.oneCell' = true)
  (h63 : n + m ≤ maxLen) (hbytes : (n + m) * bytes ≤ 140737488355328) (hbase : base ≤ w.heap.size)
  (h : ∀ v' w', w'.ownsRow base e size v' (n + m) (xs ++ news) → w.grownBy w' v.ownBlock → (v'.ownBlock = v.ownBlock ∨ v'.ownBlock = some w.heap.size) → wpList P ops Q rest (a.put o.dst v') w') :
  wpList P ops Q (o :: rest) a w := by
 refine wpList_plain hgd fun K hK => ?_
 obtain ⟨v', w', hr, h2, h3, h4⟩ := run_append_own_any (P := P) w base t o.type e i z size bytes ht hi hz hsize hby hzs hsz v n xs hown oa m c news hl hnews h1 h63 hbytes hbase
 unfold Oper.wp execOp
 simp only [ho, resolve, invoke, builtin, Sem.run_bind, Sem.run_pure, Result.andThen_ok, List.map_toArray, List.map_cons, List.map_nil, hs, hx, hr]
 exact hK _ _ (h v' w' h2 h3 h4)
end Go.Proofs.YtmpihhhjkkokfaaGreatDoor
namespace Go.Proofs.YtmpihhhjkkokfaaGreatDoor
open Go
variable {P : Program}
theorem step_call {ops : Array Oper} {o : Oper} {a : Act} {w : World} {K : Act → World → Prop} {Q : Exit → Act → World → Prop} {E : Prop} (hgd : o.guard = none) (g : Operand) (xs : List Operand) (ts : Array TypeId)
  (ho : o.op = .call { callee := .value g, args := xs.toArray, argTypes := ts }) (f : Nat) (vs : List Value) (hg : a.eval g = .func (.func f) #[] #[]) (hv : xs.map a.eval = vs) (eg : ∀ args w, (callFunc f args).run P w = .ok (.enter f args) w)
  {R : Ending → World → Prop} (hC : Calls P f vs.toArray w R) (h : ∀ e w', R e w' → ∃ v, e = .returned v ∧ K (a.put o.dst v) w') : if Region.wanted o (yielded ops a.tmps) = true then Oper.wp P o a w K Q else E := by
 rw [if_pos (by simp [Region.wanted, hgd])]
 have hE : (execOp a.eval o).run P w = .ok (.enter f vs.toArray) w := by
  unfold execOp
  simp only [ho, resolve, hg, List.map_toArray, hv]
  simp [go_sem, invoke, eg]
 unfold Oper.wp
 rw [hE, Oper.upon_enter]
 refine hC.mono ?_
 intro e w' hr
 obtain ⟨v, rfl, hk⟩ := h e w' hr
 exact hk
end Go.Proofs.YtmpihhhjkkokfaaGreatDoor
namespace Go.Proofs.YtmpihhhjkkokfaaGreatDoor
open Go Go.RowKit
variable {P : Program} {n : Nat}
end Go.Proofs.YtmpihhhjkkokfaaGreatDoor
