/- The proof's texts OctOpen, MaB, TrWk: what the claim reaches of them. -/
import Derived.Test.YtjbnogjkgmkagaaGreatDoorRows
import Derived.Test.YtjbnogjkgmkagaaGreatDoorAs01
import Derived.WalkKit
import Derived.ProofKit
import Derived.OpenShut
import Derived.WalkSmall
import Derived.Maps.AppendAt
import Derived.Tactics
import Derived.Deep.RegionLaw
import Derived.Deep.AppendLies
import Derived.RangeFuncIn
import Derived.RangeFuncRecord
import Derived.RangeFuncLeaves
import Derived.RangeFuncSeq
import Derived.Below
import Derived.Deep.Slices
import Derived.Lib.LaidTab
import Derived.Lib.Hide
import Derived.ChangeKeysEq
import Derived.Deep.RegionHeld3
import Derived.Deep.DeepCutAuto
import Derived.Deep.RegionWith
import Derived.Deep.QuietTactic
namespace Go.Proofs.YtjbnogjkgmkagaaGreatDoor
open Go.ChangeShapes Go.WideShapes Go.ChangeAt Go.RowKit
theorem own : ownKnob Tryz.prog.godebug = none := by kernel_rfl
theorem laidOut : laidOutB Tryz.prog = true := by kernel_rfl
end Go.Proofs.YtjbnogjkgmkagaaGreatDoor
namespace Go.Proofs.YtjbnogjkgmkagaaGreatDoor
open Go.RowKit
def Blk (w : World) (a : Nat) (cs : Array Value) (T : TypeId) : Prop := w.heap[a]? = some (.cells cs T)
theorem Blk.lt {w : World} {a : Nat} {cs : Array Value} {T : TypeId} (h : Blk w a cs T) : a < w.heap.size := (Array.getElem?_eq_some_iff.1 h).1
theorem Blk.cell {w : World} {a : Nat} {cs : Array Value} {T : TypeId} (h : Blk w a cs T) (j : Nat) : w.cell? ⟨a, j, none⟩ = cs[j]? := by
 unfold Blk at h
 simp [World.cell?, h]
theorem Blk.frozen {w : World} {a : Nat} {cs : Array Value} {T : TypeId} (h : Blk w a cs T) (j : Nat) : w.frozen? ⟨a, j, none⟩ = false := by
 unfold Blk at h
 simp [World.frozen?, h]
theorem Blk.set {w : World} {a : Nat} {cs : Array Value} {T : TypeId} (h : Blk w a cs T) (j : Nat) (v : Value) : Blk (w.setCell ⟨a, j, none⟩ v) a (cs.setIfInBounds j v) T := by
 unfold Blk at h ⊢
 simp only [World.setCell, Array.getElem?_modify, if_true, h]
 rfl
theorem Blk.set_other {w : World} {a : Nat} {cs : Array Value} {T : TypeId} (h : Blk w a cs T) (p : Addr) (hp : p.block ≠ a) (v : Value) : Blk (w.setCell p v) a cs T := by
 unfold Blk at h ⊢
 rw [Below.heap_setCell _ _ _ _ (fun e => hp e.symm)]
 exact h
theorem Blk.new (w : World) (cs : Array Value) (T : TypeId) (a : Nat) (ha : a = w.heap.size) : Blk (w.alloc (.cells cs T)) a cs T := by
 subst ha
 show (w.heap.push _)[w.heap.size]? = _
 rw [Array.getElem?_push_size]
theorem Blk.alloc {w : World} {a : Nat} {cs : Array Value} {T : TypeId} (h : Blk w a cs T) (o : Obj) : Blk (w.alloc o) a cs T := by
 have := h.lt
 unfold Blk at h ⊢
 rw [Below.heap_alloc _ _ _ this]
 exact h
theorem Blk.drew {w : World} {a : Nat} {cs : Array Value} {T : TypeId} (h : Blk w a cs T) : Blk w.drew a cs T := h
theorem Blk.drewN {w : World} {a : Nat} {cs : Array Value} {T : TypeId} (h : Blk w a cs T) (n : Nat) : Blk (w.drewN n) a cs T := h
theorem Blk.below {w w' : World} {B a : Nat} {cs : Array Value} {T : TypeId} (h : Blk w a cs T) (hb : Below B w w') (ha : a < B) : Blk w' a cs T := by
 unfold Blk at h ⊢
 rw [hb.block a ha]
 exact h
end Go.Proofs.YtjbnogjkgmkagaaGreatDoor
namespace Go.Proofs.YtjbnogjkgmkagaaGreatDoor
open Go
variable {P : Program} (w : World)
theorem run_append_zero (base : Nat) (t ty e : TypeId) (i : TypeInfo) (ht : P.underlying t = some (.slice e)) (hi : P.info? e = some i) (size : Nat) (v : Value) (n : Nat) (xs : List Value) (hown : w.ownsRow base e size v n xs) (a : Option Addr) (c : Nat) :
  (Builtin.append_ #[t, t] ty #[v, .slice a 0 c]).run P w = .ok v w := by
 rcases hown.2 with ⟨rfl, rfl⟩ | ⟨g, cap, cur, rfl, _, _, hn, _⟩
 ·cases a <;> simp [Builtin.append_, run_underlying ht, sizeOf, typeInfo, hi, Builtin.lenOf, Builtin.firstCells, loadCells, loadCellsFrom]
 ·cases a <;> simp [Builtin.append_, run_underlying ht, sizeOf, typeInfo, hi, Builtin.lenOf, Builtin.firstCells, loadCells, loadCellsFrom, hn, storeCells]
theorem run_append_own_any (base : Nat) (t ty e : TypeId) (i : TypeInfo) (z : Value) (size bytes : Nat) (ht : P.underlying t = some (.slice e)) (hi : P.info? e = some i) (hz : i.zero = some z)
  (hsize : i.size = size) (hby : i.bytes = bytes) (hzs : z.cells.size = size) (hsz : 0 < size)
  (v : Value) (n : Nat) (xs : List Value) (hown : w.ownsRow base e size v n xs)
  (oa : Option Addr) (m c : Nat) (news : List Value) (hl : news.length = m * size) (hnews : 0 < m → ∃ a, oa = some a ∧ ∀ j u, news[j]? = some u → w.cell? (a.add j) = some u) (h1 : ∀ u ∈ news, u.oneCell' = true)
  (h63 : n + m ≤ maxLen) (hbytes : (n + m) * bytes ≤ 140737488355328) (hbase : base ≤ w.heap.size) :
  ∃ v' w', (Builtin.append_ #[t, t] ty #[v, .slice oa m c]).run P w = .ok v' w' ∧ w'.ownsRow base e size v' (n + m) (xs ++ news) ∧ w.grownBy w' v.ownBlock ∧
   (v'.ownBlock = v.ownBlock ∨ v'.ownBlock = some w.heap.size) := by
 by_cases hm : m = 0
 ·subst hm
  have hn : news = [] := List.eq_nil_of_length_eq_zero (by simpa using hl)
  subst hn
  refine ⟨v, w, run_append_zero w base t ty e i ht hi size v n xs hown oa c, ?_, ⟨rfl, rfl, rfl, Nat.le_refl _, fun _ _ _ => rfl⟩, .inl rfl⟩
  rw [List.append_nil]
  exact hown
 ·obtain ⟨a, rfl, hc⟩ := hnews (by omega)
  obtain ⟨v', w', h2, h3, h4, _, h5⟩ := run_append_own_at (P := P) w base t ty e i z size bytes ht hi hz hsize hby hzs hsz v n xs hown a m c news hl hc h1 h63 hbytes hbase
  exact ⟨v', w', h2, h3, h4, h5⟩
theorem wpList_append_any {ops : Array Oper} {rest : List Oper} {o : Oper} {a : Act} {Q : Exit → Act → World → Prop} (hgd : o.guard = none) (s x : Operand) (t : TypeId)
  (ho : o.op = .call { callee := .builtin .append, args := #[s, x], argTypes := #[t, t] })
  (base : Nat) (e : TypeId) (i : TypeInfo) (z : Value) (size bytes : Nat) (ht : P.underlying t = some (.slice e)) (hi : P.info? e = some i) (hz : i.zero = some z)
  (hsize : i.size = size) (hby : i.bytes = bytes) (hzs : z.cells.size = size) (hsz : 0 < size)
  (v : Value) (n : Nat) (xs : List Value) (hs : a.eval s = v) (hown : w.ownsRow base e size v n xs)
  (oa : Option Addr) (m c : Nat) (news : List Value) (hx : a.eval x = .slice oa m c) (hl : news.length = m * size) (hnews : 0 < m → ∃ a, oa = some a ∧ ∀ j u, news[j]? = some u → w.cell? (a.add j) = some u) (h1 : ∀ u ∈ news, u.oneCell' = true)
  (h63 : n + m ≤ maxLen) (hbytes : (n + m) * bytes ≤ 140737488355328) (hbase : base ≤ w.heap.size)
  (h : ∀ v' w', w'.ownsRow base e size v' (n + m) (xs ++ news) → w.grownBy w' v.ownBlock → (v'.ownBlock = v.ownBlock ∨ v'.ownBlock = some w.heap.size) → wpList P ops Q rest (a.put o.dst v') w') :
  wpList P ops Q (o :: rest) a w := by
 refine wpList_plain hgd fun K hK => ?_
 obtain ⟨v', w', hr, h2, h3, h4⟩ := run_append_own_any (P := P) w base t o.type e i z size bytes ht hi hz hsize hby hzs hsz v n xs hown oa m c news hl hnews h1 h63 hbytes hbase
 unfold Oper.wp execOp
 simp only [ho, resolve, invoke, builtin, Sem.run_bind, Sem.run_pure, Result.andThen_ok, List.map_toArray, List.map_cons, List.map_nil, hs, hx, hr]
 exact hK _ _ (h v' w' h2 h3 h4)
end Go.Proofs.YtjbnogjkgmkagaaGreatDoor
namespace Go.Proofs.YtjbnogjkgmkagaaGreatDoor
open Go
variable {P : Program}
theorem step_call {ops : Array Oper} {o : Oper} {a : Act} {w : World} {K : Act → World → Prop} {Q : Exit → Act → World → Prop} {E : Prop} (hgd : o.guard = none) (g : Operand) (xs : List Operand) (ts : Array TypeId)
  (ho : o.op = .call { callee := .value g, args := xs.toArray, argTypes := ts }) (f : Nat) (vs : List Value) (hg : a.eval g = .func (.func f) #[] #[]) (hv : xs.map a.eval = vs) (eg : ∀ args w, (callFunc f args).run P w = .ok (.enter f args) w)
  {R : Ending → World → Prop} (hC : Calls P f vs.toArray w R) (h : ∀ e w', R e w' → ∃ v, e = .returned v ∧ K (a.put o.dst v) w') : if Region.wanted o (yielded ops a.tmps) = true then Oper.wp P o a w K Q else E := by
 rw [if_pos (by simp [Region.wanted, hgd])]
 have hE : (execOp a.eval o).run P w = .ok (.enter f vs.toArray) w := by
  unfold execOp
  simp only [ho, resolve, hg, List.map_toArray, hv]
  simp [go_sem, invoke, eg]
 unfold Oper.wp
 rw [hE, Oper.upon_enter]
 refine hC.mono ?_
 intro e w' hr
 obtain ⟨v, rfl, hk⟩ := h e w' hr
 exact hk
end Go.Proofs.YtjbnogjkgmkagaaGreatDoor
namespace Go.Proofs.YtjbnogjkgmkagaaGreatDoor
open Go Go.RowKit
variable {P : Program} {n : Nat}
end Go.Proofs.YtjbnogjkgmkagaaGreatDoor
namespace Go.Proofs.YtjbnogjkgmkagaaGreatDoor
open Go.ChangeShapes Go.WideShapes Go.ChangeAt Go.RowKit
def tV (t : Tr) (a : Option Addr) (cap : Nat) : Value :=
 .agg #[.int .i64 t.kind, .int .u64 (ow t.set 0), .int .u64 (ow t.set 1), .int .u64 (ow t.set 2), .int .u64 (ow t.set 3), .slice a t.parts.length cap, .int .i64 t.mn, .int .i64 t.mx, .int .i64 t.num]
structure Cl9 (w : World) (b o : Nat) (t : Tr) (a : Option Addr) (cap : Nat) : Prop where
 k : w.cell? ⟨b, o, none⟩ = some (.int .i64 t.kind)
 s0 : w.cell? ⟨b, o + 1, none⟩ = some (.int .u64 (ow t.set 0))
 s1 : w.cell? ⟨b, o + 2, none⟩ = some (.int .u64 (ow t.set 1))
 s2 : w.cell? ⟨b, o + 3, none⟩ = some (.int .u64 (ow t.set 2))
 s3 : w.cell? ⟨b, o + 4, none⟩ = some (.int .u64 (ow t.set 3))
 p : w.cell? ⟨b, o + 5, none⟩ = some (.slice a t.parts.length cap)
 mn : w.cell? ⟨b, o + 6, none⟩ = some (.int .i64 t.mn)
 mx : w.cell? ⟨b, o + 7, none⟩ = some (.int .i64 t.mx)
 num : w.cell? ⟨b, o + 8, none⟩ = some (.int .i64 t.num)
def TrAt : Nat → World → Tr → Option Addr → Nat → Prop
 | 0, _, _, _, _ => False
 | n + 1, w, t, a, cap => t.parts.length ≤ cap ∧ cap ≤ maxLen ∧ (0 < t.parts.length → ∃ b o, a = some ⟨b, o, none⟩ ∧ b < w.heap.size ∧ ∀ i (h : i < t.parts.length), ∃ a' cap', Cl9 w b (o + i * 9) t.parts[i] a' cap' ∧ TrAt n w t.parts[i] a' cap')
theorem Cl9.below {w w' : World} {b o : Nat} {t : Tr} {a : Option Addr} {cap : Nat} {B : Nat} (h : Cl9 w b o t a cap) (hb : Below B w w') (hB : b < B) : Cl9 w' b o t a cap :=
 ⟨(hb.cell (p := ⟨b, _, none⟩) hB).trans h.k, (hb.cell (p := ⟨b, _, none⟩) hB).trans h.s0, (hb.cell (p := ⟨b, _, none⟩) hB).trans h.s1, (hb.cell (p := ⟨b, _, none⟩) hB).trans h.s2, (hb.cell (p := ⟨b, _, none⟩) hB).trans h.s3,
  (hb.cell (p := ⟨b, _, none⟩) hB).trans h.p, (hb.cell (p := ⟨b, _, none⟩) hB).trans h.mn, (hb.cell (p := ⟨b, _, none⟩) hB).trans h.mx, (hb.cell (p := ⟨b, _, none⟩) hB).trans h.num⟩
theorem TrAt.below {w w' : World} (hb : Below w.heap.size w w') : ∀ (n : Nat) (t : Tr) (a : Option Addr) (cap : Nat), TrAt n w t a cap → TrAt n w' t a cap := by
 intro n
 induction n with
 | zero => intro t a cap h; exact h
 | succ n ih =>
  intro t a cap h
  unfold TrAt at h ⊢
  refine ⟨h.1, h.2.1, fun h0 => ?_⟩
  obtain ⟨b, o, rfl, hlt, hk⟩ := h.2.2 h0
  refine ⟨b, o, rfl, Nat.lt_of_lt_of_le hlt hb.size, fun i hi => ?_⟩
  obtain ⟨a', cap', h9, hr⟩ := hk i hi
  exact ⟨a', cap', h9.below hb hlt, ih _ _ _ hr⟩
theorem TrAt.drew {w : World} : ∀ (n : Nat) (t : Tr) (a : Option Addr) (cap : Nat), TrAt n w t a cap → TrAt n w.drew t a cap := TrAt.below (Below.drew (Below.refl _ _))
theorem TrAt.len {n : Nat} {w : World} {t : Tr} {a : Option Addr} {cap : Nat} (h : TrAt n w t a cap) : t.parts.length ≤ cap ∧ cap ≤ maxLen := by
 cases n with
 | zero => exact h.elim
 | succ n => exact ⟨h.1, h.2.1⟩
theorem TrAt.more {w : World} : ∀ (n m : Nat) (t : Tr) (a : Option Addr) (cap : Nat), n ≤ m → TrAt n w t a cap → TrAt m w t a cap := by
 intro n
 induction n with
 | zero => intro m t a cap _ h; exact h.elim
 | succ n ih =>
  intro m t a cap hm h
  obtain ⟨m, rfl⟩ : ∃ m', m = m' + 1 := ⟨m - 1, by omega⟩
  unfold TrAt at h ⊢
  refine ⟨h.1, h.2.1, fun h0 => ?_⟩
  obtain ⟨b, o, rfl, hlt, hk⟩ := h.2.2 h0
  refine ⟨b, o, rfl, hlt, fun i hi => ?_⟩
  obtain ⟨a', cap', h9, hr⟩ := hk i hi
  exact ⟨a', cap', h9, ih _ _ _ _ (by omega) hr⟩
theorem open_words {H : Type} {enc : TypeId × Value → H} {P : Program} {w : World} {base : Nat} {spare : Nat → Bool} {held : Bool} {fuel : Nat} {t e : TypeId} {cs : List Value} {x : DataW H × List MemPlace}
  (ht : P.underlying t = some (.array 4 e)) (he : P.underlying e = some (.int .u64)) (hct : P.cellsOf t = 4) (hce : P.cellsOf e = 1)
  (h : DataW.trod enc P w base spare held fuel t cs = some x) : ∃ s : OSet, cs = [.int .u64 (ow s 0), .int .u64 (ow s 1), .int .u64 (ow s 2), .int .u64 (ow s 3)] := by
 obtain ⟨xs, m, _, _, hlen, hxl, hx⟩ := DataW.trod_array ht h
 rw [hct] at hlen
 obtain ⟨a, b, c, d', rfl⟩ : ∃ a b c d, cs = [a, b, c, d] := by
  match cs, hlen with
  | [a, b, c, d], _ => exact ⟨a, b, c, d, rfl⟩
 rw [hce] at hx
 have hat : ∀ i, i < 4 → ∃ n, (([a, b, c, d'] : List Value).drop (i * 1)).take 1 = [.int .u64 n] ∧ (Lit.int .u64 n).wf = true := by
  intro i hi
  have h1 := hx i hi
  rw [List.getElem?_eq_getElem (by omega)] at h1
  obtain ⟨n, e1, _, e2⟩ := DataW.trod_int he h1
  exact ⟨n, e1, e2⟩
 obtain ⟨n0, e0, w0⟩ := hat 0 (by decide)
 obtain ⟨n1, e1, w1⟩ := hat 1 (by decide)
 obtain ⟨n2, e2, w2⟩ := hat 2 (by decide)
 obtain ⟨n3, e3, w3⟩ := hat 3 (by decide)
 simp at e0 e1 e2 e3
 subst e0 e1 e2 e3
 have b0 := bounds_u64 w0
 have b1 := bounds_u64 w1
 have b2 := bounds_u64 w2
 have b3 := bounds_u64 w3
 obtain ⟨s, rfl, rfl, rfl, rfl⟩ := oset_of n0 n1 n2 n3 b0.1 (by omega) b1.1 (by omega) b2.1 (by omega) b3.1 (by omega)
 exact ⟨s, rfl⟩
theorem cells_at {w : World} {base n : Nat} {a : Addr} {cs : List Value} (h : w.cells? base a n = some cs) (j : Nat) (hj : j < n) : ∃ v, cs[j]? = some v ∧ w.cell? (a.add j) = some v := by
 unfold World.cells? at h
 split at h
 ·exact Lib.mapM_at h j j (by simp [hj])
 ·cases h
theorem bulk_mem {H : Type} (ds : List (DataW H)) (i : Nat) (h : i < ds.length) : Rows.uptoBulk ds[i] ≤ Rows.uptoBulkAll ds := by
 induction ds generalizing i with
 | nil => simp at h
 | cons d ds ih =>
  rw [Rows.uptoBulkAll]
  cases i with
  | zero => simp
  | succ i => have := ih i (by simpa using h); simp; omega
theorem bulk_talls {H : Type} (ps : List Tr) (ds : List (DataW H)) (hl : ps.length = ds.length) (h : ∀ i (h1 : i < ps.length) (h2 : i < ds.length), tall ps[i] ≤ Rows.uptoBulk ds[i]) : talls ps ≤ Rows.uptoBulkAll ds := by
 induction ps generalizing ds with
 | nil => simp [talls]
 | cons t ts ih =>
  cases ds with
  | nil => simp at hl
  | cons d ds =>
   rw [talls, Rows.uptoBulkAll]
   have h0 := h 0 (by simp) (by simp)
   have h1 := ih ds (by simpa using hl) (fun i a b => h (i + 1) (by simpa using a) (by simpa using b))
   simp at h0
   omega
theorem cellsT : Tryz.prog.cellsOf 27 = 9 := by kernel_rfl
set_option maxRecDepth 100000 in
/-- Cells that read as a node are one. -/
theorem open_tr {H : Type} {enc : TypeId × Value → H} {w : World} {base : Nat} {spare : Nat → Bool} {held : Bool} : ∀ (fuel : Nat) (cs : List Value) (x : DataW H × List MemPlace),
  DataW.trod enc Tryz.prog w base spare held fuel 27 cs = some x → ∃ t a cap n, cs = [.int .i64 t.kind, .int .u64 (ow t.set 0), .int .u64 (ow t.set 1), .int .u64 (ow t.set 2), .int .u64 (ow t.set 3), .slice a t.parts.length cap, .int .i64 t.mn, .int .i64 t.mx, .int .i64 t.num] ∧ TrAt n w t a cap ∧ tall t ≤ Rows.uptoBulk x.1 := by
 intro fuel
 induction fuel using Nat.strongRecOn with
 | _ fuel ih =>
  intro cs x h
  obtain ⟨xs, n, hf, hxe, hlen, hxl, hx⟩ := DataW.trod_struct Tryz.underlying27 h
  rw [cellsT] at hlen
  obtain ⟨c0, c1, c2, c3, c4, c5, c6, c7, c8, rfl⟩ : ∃ c0 c1 c2 c3 c4 c5 c6 c7 c8, cs = [c0, c1, c2, c3, c4, c5, c6, c7, c8] := by
   match cs, hlen with
   | [c0, c1, c2, c3, c4, c5, c6, c7, c8], _ => exact ⟨c0, c1, c2, c3, c4, c5, c6, c7, c8, rfl⟩
  have ci : Tryz.prog.cellsOf 3 = 1 := by kernel_rfl
  have cs4 : Tryz.prog.cellsOf 24 = 4 := by kernel_rfl
  have cp : Tryz.prog.cellsOf 25 = 1 := by kernel_rfl
  have hxl6 : xs.length = 6 := hxl
  have h0 : DataW.trod enc Tryz.prog w base spare held n 3 (([c0, c1, c2, c3, c4, c5, c6, c7, c8].drop 0).take (Tryz.prog.cellsOf 3)) = xs[0]? := hx 0 _ rfl
  rw [ci, List.getElem?_eq_getElem (show 0 < xs.length by omega)] at h0
  replace h0 : DataW.trod enc Tryz.prog w base spare held n 3 [c0] = some (xs[0]'(by omega)) := h0
  have h1 : DataW.trod enc Tryz.prog w base spare held n 24 (([c0, c1, c2, c3, c4, c5, c6, c7, c8].drop 1).take (Tryz.prog.cellsOf 24)) = xs[1]? := hx 1 _ rfl
  rw [cs4, List.getElem?_eq_getElem (show 1 < xs.length by omega)] at h1
  replace h1 : DataW.trod enc Tryz.prog w base spare held n 24 [c1, c2, c3, c4] = some (xs[1]'(by omega)) := h1
  have h2 : DataW.trod enc Tryz.prog w base spare held n 25 (([c0, c1, c2, c3, c4, c5, c6, c7, c8].drop 5).take (Tryz.prog.cellsOf 25)) = xs[2]? := hx 2 _ rfl
  rw [cp, List.getElem?_eq_getElem (show 2 < xs.length by omega)] at h2
  replace h2 : DataW.trod enc Tryz.prog w base spare held n 25 [c5] = some (xs[2]'(by omega)) := h2
  have h3 : DataW.trod enc Tryz.prog w base spare held n 3 (([c0, c1, c2, c3, c4, c5, c6, c7, c8].drop 6).take (Tryz.prog.cellsOf 3)) = xs[3]? := hx 3 _ rfl
  rw [ci, List.getElem?_eq_getElem (show 3 < xs.length by omega)] at h3
  replace h3 : DataW.trod enc Tryz.prog w base spare held n 3 [c6] = some (xs[3]'(by omega)) := h3
  have h4 : DataW.trod enc Tryz.prog w base spare held n 3 (([c0, c1, c2, c3, c4, c5, c6, c7, c8].drop 7).take (Tryz.prog.cellsOf 3)) = xs[4]? := hx 4 _ rfl
  rw [ci, List.getElem?_eq_getElem (show 4 < xs.length by omega)] at h4
  replace h4 : DataW.trod enc Tryz.prog w base spare held n 3 [c7] = some (xs[4]'(by omega)) := h4
  have h5 : DataW.trod enc Tryz.prog w base spare held n 3 (([c0, c1, c2, c3, c4, c5, c6, c7, c8].drop 8).take (Tryz.prog.cellsOf 3)) = xs[5]? := hx 5 _ rfl
  rw [ci, List.getElem?_eq_getElem (show 5 < xs.length by omega)] at h5
  replace h5 : DataW.trod enc Tryz.prog w base spare held n 3 [c8] = some (xs[5]'(by omega)) := h5
  obtain ⟨z0, e0, _, _⟩ := DataW.trod_int Tryz.underlying3 h0
  obtain ⟨s, e1⟩ := open_words Tryz.underlying24 Tryz.underlying22 (by kernel_rfl) (by kernel_rfl) h1
  obtain ⟨z3, e3, _, _⟩ := DataW.trod_int Tryz.underlying3 h3
  obtain ⟨z4, e4, _, _⟩ := DataW.trod_int Tryz.underlying3 h4
  obtain ⟨z5, e5, _, _⟩ := DataW.trod_int Tryz.underlying3 h5
  simp only [List.cons.injEq, and_true] at e0 e1 e3 e4 e5
  obtain ⟨rfl, rfl, rfl, rfl⟩ := e1
  subst e0 e3 e4 e5
  have hbk := bulk_mem (xs.map (·.1)) 2 (by rw [List.length_map]; omega)
  rw [List.getElem_map] at hbk
  have hxb : Rows.uptoBulk x.1 = Rows.uptoBulkAll (xs.map (·.1)) + 1 := by rw [hxe]; rfl
  rcases DataW.trod_slice Tryz.underlying25 h2 with ⟨e2, _⟩ | ⟨a, len, cap, elems, rest, m, hm, e2, hxs, _, hl, hcm, hel, hread, _, _⟩
  ·simp only [List.cons.injEq, and_true] at e2
   subst e2
   exact ⟨.mk z0 s z3 z4 z5 [], none, 0, 1, rfl, ⟨Nat.le_refl 0, Nat.zero_le _, fun h0 => absurd h0 (by simp [Tr.parts])⟩, by rw [hxb, tall, talls]; omega⟩
  ·simp only [List.cons.injEq, and_true] at e2
   subst e2
   rw [cellsT] at hread
   have hone : ∀ i, i < len → ∃ q : Tr × Option Addr × Nat × Nat, ∃ cs', w.cells? base (a.add (i * 9)) 9 = some cs' ∧ cs' = [.int .i64 q.1.kind, .int .u64 (ow q.1.set 0), .int .u64 (ow q.1.set 1), .int .u64 (ow q.1.set 2), .int .u64 (ow q.1.set 3), .slice q.2.1 q.1.parts.length q.2.2.1, .int .i64 q.1.mn, .int .i64 q.1.mx, .int .i64 q.1.num] ∧ TrAt q.2.2.2 w q.1 q.2.1 q.2.2.1 ∧ ∀ hie : i < elems.length, tall q.1 ≤ Rows.uptoBulk (elems[i]).1 := by
    intro i hi
    have h6 := hread i hi
    rw [List.getElem?_eq_getElem (show i < elems.length by omega)] at h6
    obtain ⟨cs', hc, ht⟩ := Option.bind_eq_some_iff.1 h6
    obtain ⟨t, a', cap', n', h7, h8, h9⟩ := ih m (by omega) cs' _ ht
    exact ⟨(t, a', cap', n'), cs', hc, h7, h8, fun _ => h9⟩
   obtain ⟨Q, hQ⟩ := Go.Deep.choose_lt hone
   obtain ⟨N, hN⟩ : ∃ N, ∀ i, i < len → (Q i).2.2.2 ≤ N := Go.Deep.fuel_lt (q := fun i N => (Q i).2.2.2 ≤ N) (fun _ _ _ h h2 => Nat.le_trans h2 h) fun i _ => ⟨_, Nat.le_refl _⟩
   refine ⟨.mk z0 s z3 z4 z5 ((List.range len).map fun i => (Q i).1), some a, cap, N + 1, by simp [Tr.kind, Tr.set, Tr.parts, Tr.mn, Tr.mx, Tr.num], ⟨?_, hcm, fun h0 => ?_⟩, ?_⟩
   ·simpa [Tr.parts] using hl
   ·have hl0 : 0 < len := by simpa [Tr.parts] using h0
    obtain ⟨cs0, g0, _, _, _⟩ := hQ 0 hl0
    obtain ⟨u0, hu0⟩ := cells_at g0 0 (by decide)
    obtain ⟨b, o, spot⟩ := a
    have hspot : spot = none := by
     rw [Go.Deep.add_add] at hu0
     simpa [Addr.add] using World.cell?_spot hu0.2
    subst hspot
    refine ⟨b, o, rfl, ?_, fun i hi => ?_⟩
    ·have h9 := hu0.2
     rw [Go.Deep.add_add, Go.WideShapes.add_plain] at h9
     exact World.block_lt_of_cell? w _ h9
    ·have hil : i < len := by simpa [Tr.parts] using hi
     obtain ⟨cs', g1, g2, g3, _⟩ := hQ i hil
     have hpart : (Tr.mk z0 s z3 z4 z5 ((List.range len).map fun i => (Q i).1)).parts[i] = (Q i).1 := by simp [Tr.parts]
     rw [hpart]
     refine ⟨(Q i).2.1, (Q i).2.2.1, ?_, TrAt.more _ _ _ _ _ (hN i hil) g3⟩
     have hj : ∀ j v, cs'[j]? = some v → w.cell? ⟨b, o + i * 9 + j, none⟩ = some v := fun j v hv => by
      have hj9 : j < 9 := by
       rcases Nat.lt_or_ge j 9 with h | h
       ·exact h
       ·rw [g2, List.getElem?_eq_none (by simpa using h)] at hv
        cases hv
      obtain ⟨u, hu1, hu2⟩ := cells_at g1 j hj9
      rw [Go.Deep.add_add, Go.WideShapes.add_plain, hv] at *
      rw [← Nat.add_assoc] at hu2
      rw [hu2, hu1]
     subst g2
     exact ⟨hj 0 _ rfl, hj 1 _ rfl, hj 2 _ rfl, hj 3 _ rfl, hj 4 _ rfl, hj 5 _ rfl, hj 6 _ rfl, hj 7 _ rfl, hj 8 _ rfl⟩
   ·have hta := bulk_talls ((List.range len).map fun i => (Q i).1) (elems.map (·.1)) (by simp [hel]) (fun i h1 h2 => by
     have hie : i < elems.length := by simpa using h2
     obtain ⟨_, _, _, _, g5⟩ := hQ i (by omega)
     simpa using g5 hie)
    have h2e : Rows.uptoBulk ((xs[2]'(by omega)).1) = Rows.uptoBulkAll (elems.map (·.1)) + Rows.uptoBulkAll (rest.map (·.1)) + 1 := by rw [hxs]; rfl
    rw [tall, hxb]
    omega
end Go.Proofs.YtjbnogjkgmkagaaGreatDoor
namespace Go.Proofs.YtjbnogjkgmkagaaGreatDoor
open Go.RowKit
theorem tr_ret_int {k : IntKind} {a b : Int} (h : a = b) : Ending.returned (.int k a) = .returned (.int k b) := by rw [h]
theorem tr_ret_bool {a b : Bool} (h : a = b) : Ending.returned (.bool a) = .returned (.bool b) := by rw [h]
abbrev tC (t : Tr) (a : Option Addr) (cap : Nat) : Array Value := #[.int .i64 t.kind, .int .u64 (ow t.set 0), .int .u64 (ow t.set 1), .int .u64 (ow t.set 2), .int .u64 (ow t.set 3), .slice a t.parts.length cap, .int .i64 t.mn, .int .i64 t.mx, .int .i64 t.num]
set_option linter.unusedSimpArgs false in
set_option maxRecDepth 100000 in
set_option maxHeartbeats 2000000 in
theorem lsize_any : ∀ (n : Nat) (t : Tr) (a : Option Addr) (cap : Nat) (w : World), TrAt n w t a cap → tall t ≤ 4000000 →
  Calls Tryz.prog 39 #[tV t a cap] w fun e w' => e = .returned (.int .i64 (tall t : Int)) ∧ Below w.heap.size w w' := by
 intro n
 induction n with
 | zero => intro t a cap w h; exact h.elim
 | succ n ih =>
  intro t a cap w h hb
  have hlen := h.len
  unfold maxLen at hlen
  unfold TrAt at h
  have Hh := Lib.hid h.2.2
  have Ht := Lib.hid (show tall t = 1 + talls t.parts by cases t; rfl)
  have Hall := Lib.hid (show talls t.parts ≤ 4000000 by have := Ht.out; omega)
  clear h hb
  have hW := (Below.refl w.heap.size w).alloc (Nat.le_refl _) (.cells (tC t a cap) 27)
  unfold tV
  go_enter Tryz.func39, Tryz.ntmps39
  go_wp2_with fail
  go_loopw [3, 9] (fun s i wr => ∃ k : Nat, k ≤ t.parts.length ∧ i = .int .i64 k ∧ s = .int .i64 (1 + (talls (t.parts.take k) : Int)) ∧ Below w.heap.size w wr) (fun _ i _ => t.parts.length - (intOf i).toNat)
  case atStart => exact ⟨0, by omega, rfl, rfl, hW⟩
  case round =>
   clear hW
   obtain ⟨k, hk, rfl, rfl, hW⟩ := hrel
   by_cases hlt : k < t.parts.length
   ·obtain ⟨b, o, rfl, hbl, hx⟩ := Hh.out (by omega)
    obtain ⟨a', cap', h9, hr⟩ := hx k hlt
    replace h9 := h9.below hW hbl
    replace hr := TrAt.below hW _ _ _ _ hr
    have Hs := Lib.hid (talls_take t.parts k hlt)
    have hm := tall_mem t.parts k hlt
    have hle := talls_le t.parts (k + 1)
    have hA := Hall.out
    obtain ⟨c0, c1, c2, c3, c4, c5, c6, c7, c8⟩ := h9
    generalize t.parts[k] = x at *
    have hsum := Hs.out
    have Wn : IntKind.i64.wrap (1 + (talls (t.parts.take k) : Int) + (tall x : Int)) = 1 + (talls (t.parts.take (k + 1)) : Int) := by
     rw [IntWalk.i64_in _ (by omega)]
     omega
    have hx2 : tall x ≤ 4000000 := by omega
    clear hsum hle hA hm hx
    go_wp2_with fail
    refine (ih x a' cap' _ (TrAt.below ((Below.refl wr.heap.size wr).alloc (Nat.le_refl _) _) _ _ _ _ hr) hx2).mono ?_
    rintro e w2 ⟨rfl, b2⟩
    replace hW := (hW.alloc hW.size (.cells (tC x a' cap') 27)).trans (b2.mono (hW.alloc hW.size _).size)
    clear b2 hr c0 c1 c2 c3 c4 c5 c6 c7 c8
    go_wp2_with fail
    go_roundw
    case rel => exact ⟨k + 1, by omega, by go_num, by go_num, hW⟩
    case measure => simp [intOf]; omega
   ·obtain rfl : k = t.parts.length := by omega
    rw [List.take_length]
    go_wp2_with fail
    go_ret
    exact ⟨tr_ret_int (by rw [Ht.out]; omega), hW⟩
set_option linter.unusedSimpArgs false in
set_option maxRecDepth 100000 in
set_option maxHeartbeats 2000000 in
theorem lknown_any : ∀ (n : Nat) (t : Tr) (a : Option Addr) (cap : Nat) (w : World), TrAt n w t a cap →
  Calls Tryz.prog 40 #[tV t a cap] w fun e w' => e = .returned (.bool (tknown t)) ∧ Below w.heap.size w w' := by
 intro n
 induction n with
 | zero => intro t a cap w h; exact h.elim
 | succ n ih =>
  intro t a cap w h
  have hlen := h.len
  unfold maxLen at hlen
  unfold TrAt at h
  have Hh := Lib.hid h.2.2
  have Ht := Lib.hid (show tknown t = (decide (0 ≤ t.kind) && decide (t.kind ≤ 8) && tknowns t.parts) by cases t; rfl)
  clear h
  have hW := (Below.refl w.heap.size w).alloc (Nat.le_refl _) (.cells (tC t a cap) 27)
  unfold tV
  by_cases k0 : t.kind < 0
  ·have e0 : decide (t.kind < 0) = true := decide_eq_true k0
   have Hr := Lib.hid (show tknown t = false by rw [Ht.out, decide_eq_false (by omega)]; rfl)
   go_enter Tryz.func40, Tryz.ntmps40
   go_wp2_with fail
   go_ret
   exact ⟨tr_ret_bool (by rw [Hr.out]), hW⟩
  ·have e0 : decide (t.kind < 0) = false := decide_eq_false k0
   by_cases k8 : 8 < t.kind
   ·have e1 : decide ((8 : Int) < t.kind) = true := decide_eq_true k8
    have Hr := Lib.hid (show tknown t = false by rw [Ht.out, decide_eq_false (show ¬ t.kind ≤ 8 by omega), Bool.and_false]; rfl)
    go_enter Tryz.func40, Tryz.ntmps40
    go_wp2_with fail
    go_ret
    exact ⟨tr_ret_bool (by rw [Hr.out]), hW⟩
   ·have e1 : decide ((8 : Int) < t.kind) = false := decide_eq_false k8
    have Hk := Lib.hid (show tknown t = tknowns t.parts by rw [Ht.out, decide_eq_true (show 0 ≤ t.kind by omega), decide_eq_true (show t.kind ≤ 8 by omega)]; rfl)
    clear k0 k8
    go_enter Tryz.func40, Tryz.ntmps40
    go_wp2_with fail
    go_loopw [16] (fun i wr => ∃ k : Nat, k ≤ t.parts.length ∧ i = .int .i64 k ∧ tknowns (t.parts.take k) = true ∧ Below w.heap.size w wr) (fun i _ => t.parts.length - (intOf i).toNat)
    case atStart => exact ⟨0, by omega, rfl, rfl, hW⟩
    case round =>
     clear hW
     obtain ⟨k, hk, rfl, hks, hW⟩ := hrel
     have Hks := Lib.hid hks
     clear hks
     by_cases hlt : k < t.parts.length
     ·obtain ⟨b, o, rfl, hbl, hx⟩ := Hh.out (by omega)
      obtain ⟨a', cap', h9, hr⟩ := hx k hlt
      replace h9 := h9.below hW hbl
      replace hr := TrAt.below hW _ _ _ _ hr
      have Hs := Lib.hid (tknowns_take t.parts k hlt)
      have Hn := Lib.hid (tknowns_all t.parts k hlt)
      obtain ⟨c0, c1, c2, c3, c4, c5, c6, c7, c8⟩ := h9
      clear hx
      generalize t.parts[k] = x at *
      go_wp2_with fail
      refine (ih x a' cap' _ (TrAt.below ((Below.refl wr.heap.size wr).alloc (Nat.le_refl _) _) _ _ _ _ hr)).mono ?_
      rintro e w2 ⟨he, b2⟩
      replace hW := (hW.alloc hW.size (.cells (tC x a' cap') 27)).trans (b2.mono (hW.alloc hW.size _).size)
      clear b2 hr c0 c1 c2 c3 c4 c5 c6 c7 c8
      cases hkx : tknown x
      ·rw [hkx] at he
       subst he
       have Hr := Lib.hid (show tknown t = false by rw [Hk.out]; exact Hn.out hkx)
       clear hkx
       go_wp2_with fail
       go_ret
       exact ⟨tr_ret_bool (by rw [Hr.out]), hW⟩
      ·rw [hkx] at he
       subst he
       have Hr := Lib.hid (show tknowns (t.parts.take (k + 1)) = true by rw [Hs.out, Hks.out, hkx]; rfl)
       clear hkx
       go_wp2_with fail
       go_roundw
       case rel => exact ⟨k + 1, by omega, by go_num, Hr.out, hW⟩
       case measure => simp [intOf]; omega
     ·obtain rfl : k = t.parts.length := by omega
      have Hr := Lib.hid (show tknown t = true by rw [Hk.out, ← Hks.out, List.take_length])
      go_wp2_with fail
      go_ret
      exact ⟨tr_ret_bool (by rw [Hr.out]), hW⟩
end Go.Proofs.YtjbnogjkgmkagaaGreatDoor
namespace Go.Proofs.YtjbnogjkgmkagaaGreatDoor
open Go.RowKit
def kb (t : Tr) : Nat := if (t.kind = 4 ∨ t.kind = 5) ∧ t.parts = [] then 1 else 0
def TrD (N : Nat) (w : World) (t : Tr) (a : Option Addr) (cap : Nat) : Prop := ∃ n, TrAt n w t a cap ∧ 2 * n + kb t ≤ N
def RowD (N : Nat) (w : World) (l : List Tr) (a : Option Addr) (cap : Nat) : Prop :=
 l.length ≤ cap ∧ cap ≤ maxLen ∧ (0 < l.length → ∃ b o, a = some ⟨b, o, none⟩ ∧ b < w.heap.size ∧ ∀ i (h : i < l.length), ∃ a' cap', Cl9 w b (o + i * 9) l[i] a' cap' ∧ TrD N w l[i] a' cap')
theorem TrD.below {N : Nat} {w w' : World} {t : Tr} {a : Option Addr} {cap : Nat} (h : TrD N w t a cap) (hb : Below w.heap.size w w') : TrD N w' t a cap := by
 obtain ⟨n, h1, h2⟩ := h
 exact ⟨n, TrAt.below hb _ _ _ _ h1, h2⟩
theorem RowD.below {N : Nat} {w w' : World} {l : List Tr} {a : Option Addr} {cap : Nat} (h : RowD N w l a cap) (hb : Below w.heap.size w w') : RowD N w' l a cap := by
 refine ⟨h.1, h.2.1, fun h0 => ?_⟩
 obtain ⟨b, o, rfl, hlt, hk⟩ := h.2.2 h0
 refine ⟨b, o, rfl, Nat.lt_of_lt_of_le hlt hb.size, fun i hi => ?_⟩
 obtain ⟨a', cap', h9, hr⟩ := hk i hi
 exact ⟨a', cap', h9.below hb hlt, hr.below hb⟩
theorem kb_le (t : Tr) : kb t ≤ 1 := by unfold kb; split <;> omega
theorem tz_at (w : World) : TrAt 1 w tz none 0 := ⟨Nat.le_refl 0, Nat.zero_le _, fun h => absurd h (by simp [tz, Tr.parts])⟩
theorem TrD.row {N : Nat} {w : World} {t : Tr} {a : Option Addr} {cap : Nat} (h : TrD (N + 1) w t a cap) : RowD N w t.parts a cap := by
 obtain ⟨n, h1, h2⟩ := h
 cases n with
 | zero => exact h1.elim
 | succ n =>
  refine ⟨h1.1, h1.2.1, fun h0 => ?_⟩
  obtain ⟨b, o, rfl, hlt, hk⟩ := h1.2.2 h0
  refine ⟨b, o, rfl, hlt, fun i hi => ?_⟩
  obtain ⟨a', cap', h9, hr⟩ := hk i hi
  have := kb_le t.parts[i]
  exact ⟨a', cap', h9, n, hr, by omega⟩
theorem TrD.tz {N : Nat} {w w' : World} {t : Tr} {a : Option Addr} {cap : Nat} (h : TrD (N + 1) w t a cap) (hk : t.kind = 4 ∨ t.kind = 5) (hp : t.parts = []) : TrD N w' Go.Proofs.YtjbnogjkgmkagaaGreatDoor.tz none 0 := by
 obtain ⟨n, h1, h2⟩ := h
 cases n with
 | zero => exact h1.elim
 | succ n =>
  refine ⟨1, tz_at w', ?_⟩
  have h3 : kb t = 1 := by unfold kb; rw [if_pos ⟨hk, hp⟩]
  have h4 : kb Go.Proofs.YtjbnogjkgmkagaaGreatDoor.tz = 0 := rfl
  omega
theorem row_one {N : Nat} {w : World} {x : Tr} {a : Option Addr} {cap : Nat} {T : TypeId} (h : TrD N w x a cap) : RowD N (w.alloc (.cells (tC x a cap) T)) [x] (some ⟨w.heap.size, 0, none⟩) 1 := by
 have hb := Blk.new w (tC x a cap) T _ rfl
 refine ⟨Nat.le_refl _, by decide, fun _ => ⟨w.heap.size, 0, rfl, hb.lt, fun i hi => ?_⟩⟩
 obtain rfl : i = 0 := by simp at hi; exact hi
 exact ⟨a, cap, ⟨(hb.cell 0).trans rfl, (hb.cell 1).trans rfl, (hb.cell 2).trans rfl, (hb.cell 3).trans rfl, (hb.cell 4).trans rfl, (hb.cell 5).trans rfl, (hb.cell 6).trans rfl, (hb.cell 7).trans rfl, (hb.cell 8).trans rfl⟩,
  h.below ((Below.refl _ _).alloc (Nat.le_refl _) _)⟩
set_option linter.unusedSimpArgs false in
set_option maxRecDepth 100000 in
set_option maxHeartbeats 1000000 in
theorem tof_any (N : Nat) (t : Tr) (a : Option Addr) (cap : Nat) (w : World) (h : TrD (N + 1) w t a cap) (hk : t.kind = 4 ∨ t.kind = 5) :
  Calls Tryz.prog 67 #[tV t a cap] w fun e w' => ∃ a' cap', e = .returned (tV (tof t) a' cap') ∧ TrD N w' (tof t) a' cap' ∧ Below w.heap.size w w' := by
 have hW := (Below.refl w.heap.size w).alloc (Nat.le_refl _) (.cells (tC t a cap) 27)
 have hR := h.row
 by_cases h0 : 0 < t.parts.length
 ·obtain ⟨b, o, rfl, hlt, hx⟩ := hR.2.2 h0
  obtain ⟨a', cap', h9, hr⟩ := hx 0 h0
  have hto : tof t = t.parts[0] := by
   unfold tof
   rw [List.headD_eq_head?_getD, List.head?_eq_getElem?, List.getElem?_eq_getElem h0]
   rfl
  rw [hto]
  have hl := hR.1
  have hl2 := hR.2.1
  unfold maxLen at hl2
  replace h9 := h9.below hW hlt
  replace hr := hr.below hW
  have e0 : ((t.parts.length : Int) == 0) = false := by rw [beq_eq_false_iff_ne]; omega
  obtain ⟨c0, c1, c2, c3, c4, c5, c6, c7, c8⟩ := h9
  simp only [Nat.zero_mul, Nat.add_zero] at c0 c1 c2 c3 c4 c5 c6 c7 c8
  clear hx hR h
  generalize t.parts[0] = x at *
  unfold tV
  go_enter Tryz.func67, Tryz.ntmps67
  go_wp2_with fail
  refine bodyPost_ret (v := tV x a' cap') (by simp [results, Tryz.results67, go_sem, tV]) rfl ⟨a', cap', rfl, hr.below ((Below.refl _ _).alloc (Nat.le_refl _) _), hW.alloc hW.size _⟩
 ·have hp : t.parts = [] := List.eq_nil_of_length_eq_zero (by omega)
  have hto : tof t = tz := by unfold tof; rw [hp]; rfl
  have hz := fun w' => h.tz (w' := w') hk hp
  rw [hto]
  have hpl : t.parts.length = 0 := by rw [hp]; rfl
  clear hR h
  unfold tV
  rw [hpl]
  go_enter Tryz.func67, Tryz.ntmps67
  go_wp2_with fail
  refine bodyPost_ret (v := tV tz none 0) (by simp [results, Tryz.results67, go_sem, tV, tz, Tr.kind, Tr.set, Tr.parts, Tr.mn, Tr.mx, Tr.num, ow_zero]) rfl ⟨none, 0, rfl, hz _, ?_⟩
  repeat (first | (with_reducible exact hW) | (with_reducible exact Below.refl _ _) | refine Below.setCell ?_ (by first | omega | (simp; omega) | simp) _ | refine Below.alloc ?_ (by first | omega | (simp; omega) | simp) _)
set_option linter.unusedSimpArgs false in
set_option maxRecDepth 100000 in
set_option maxHeartbeats 2000000 in
theorem kids_any (N : Nat) (t : Tr) (a : Option Addr) (cap : Nat) (w : World) (h : TrD (N + 1) w t a cap) :
  Calls Tryz.prog 44 #[tV t a cap] w fun e w' => ∃ a' cap', e = .returned (.slice a' (tkids t).length cap') ∧ RowD N w' (tkids t) a' cap' ∧ Below w.heap.size w w' := by
 have hW := (Below.refl w.heap.size w).alloc (Nat.le_refl _) (.cells (tC t a cap) 27)
 by_cases h23 : t.kind = 2 ∨ t.kind = 3
 ·have hk : tkids t = t.parts := by unfold tkids; rw [if_pos h23]
  have hR := h.row.below hW
  rw [hk]
  clear h hk
  rcases h23 with h2 | h3
  ·have e2 : (t.kind == 2) = true := by simp [h2]
   clear h2
   unfold tV
   go_enter Tryz.func44, Tryz.ntmps44
   go_wp2_with fail
   go_ret
   exact ⟨a, cap, rfl, hR, hW⟩
  ·have e2 : (t.kind == 2) = false := by simp [h3]
   have e3 : (t.kind == 3) = true := by simp [h3]
   clear h3
   unfold tV
   go_enter Tryz.func44, Tryz.ntmps44
   go_wp2_with fail
   go_ret
   exact ⟨a, cap, rfl, hR, hW⟩
 ·have e2 : (t.kind == 2) = false := by simp; omega
  have e3 : (t.kind == 3) = false := by simp; omega
  by_cases h45 : t.kind = 4 ∨ t.kind = 5
  ·have hk : tkids t = [tof t] := by unfold tkids; rw [if_neg h23, if_pos h45]
   rw [hk]
   have hO := tof_any N t a cap _ (h.below hW) h45
   unfold tV at hO ⊢
   clear h hk h23
   generalize tof t = x at hO ⊢
   rcases h45 with h4 | h5
   ·have e4 : (t.kind == 4) = true := by simp [h4]
    clear h4
    go_enter Tryz.func44, Tryz.ntmps44
    go_wp2_with fail
    refine hO.mono ?_
    clear hO
    rintro e w1 ⟨a', cap', rfl, hr, b1⟩
    replace hW := hW.trans (b1.mono hW.size)
    clear b1
    go_wp2_with fail
    go_ret
    exact ⟨some ⟨w1.heap.size, 0, none⟩, 1, rfl, row_one hr, hW.alloc hW.size _⟩
   ·have e4 : (t.kind == 4) = false := by simp [h5]
    have e5 : (t.kind == 5) = true := by simp [h5]
    clear h5
    go_enter Tryz.func44, Tryz.ntmps44
    go_wp2_with fail
    refine hO.mono ?_
    clear hO
    rintro e w1 ⟨a', cap', rfl, hr, b1⟩
    replace hW := hW.trans (b1.mono hW.size)
    clear b1
    go_wp2_with fail
    go_ret
    exact ⟨some ⟨w1.heap.size, 0, none⟩, 1, rfl, row_one hr, hW.alloc hW.size _⟩
  ·have hk : tkids t = [] := by unfold tkids; rw [if_neg h23, if_neg h45]
   have e4 : (t.kind == 4) = false := by simp; omega
   have e5 : (t.kind == 5) = false := by simp; omega
   rw [hk]
   clear h hk h23 h45
   unfold tV
   go_enter Tryz.func44, Tryz.ntmps44
   go_wp2_with fail
   go_ret
   exact ⟨none, 0, rfl, ⟨Nat.le_refl 0, Nat.zero_le _, fun h => absurd h (by simp)⟩, hW⟩
end Go.Proofs.YtjbnogjkgmkagaaGreatDoor
namespace Go.Proofs.YtjbnogjkgmkagaaGreatDoor
open Go.RowKit
theorem trd_zero {w : World} {t : Tr} {a : Option Addr} {cap : Nat} (h : TrD 0 w t a cap) : False := by
 obtain ⟨n, h1, h2⟩ := h
 cases n with
 | zero => exact h1
 | succ n => omega
end Go.Proofs.YtjbnogjkgmkagaaGreatDoor
namespace Go.Proofs.YtjbnogjkgmkagaaGreatDoor
open Go.RowKit
theorem rpart0 (a b c d : Int) (w : World) : (part 22 #[.int .u64 a, .int .u64 b, .int .u64 c, .int .u64 d] (0 * 1)).run Tryz.prog w = .ok (.int .u64 a) w := by kernel_rfl
theorem rpart1 (a b c d : Int) (w : World) : (part 22 #[.int .u64 a, .int .u64 b, .int .u64 c, .int .u64 d] 1).run Tryz.prog w = .ok (.int .u64 b) w := by kernel_rfl
theorem rpart2 (a b c d : Int) (w : World) : (part 22 #[.int .u64 a, .int .u64 b, .int .u64 c, .int .u64 d] 2).run Tryz.prog w = .ok (.int .u64 c) w := by kernel_rfl
theorem rpart3 (a b c d : Int) (w : World) : (part 22 #[.int .u64 a, .int .u64 b, .int .u64 c, .int .u64 d] 3).run Tryz.prog w = .ok (.int .u64 d) w := by kernel_rfl
set_option linter.unusedSimpArgs false in
theorem req_items (a b c d a' b' c' d' : Int) (w : World) : (Op.eqItems 9999 22 1 #[.int .u64 a, .int .u64 b, .int .u64 c, .int .u64 d] #[.int .u64 a', .int .u64 b', .int .u64 c', .int .u64 d'] [0, 1, 2, 3]).run Tryz.prog w = .ok (a == a' && (b == b' && (c == c' && d == d'))) w := by
 have h := fun (x y : Int) (w : World) => (run_equalIn_int (P := Tryz.prog) w 9998 22 .u64 .u64 x y Tryz.underlying22 : (Op.equalIn 9999 22 (.int .u64 x) (.int .u64 y)).run Tryz.prog w = _)
 simp only [Op.eqItems, Sem.run_bind, rpart0, h, Result.andThen_ok]
 cases ha : a == a' <;> cases hb : b == b' <;> cases hc : c == c' <;> cases hd : d == d' <;> simp [ha, hb, hc, hd, h, rpart1, rpart2, rpart3]
theorem rset_beq (s t : OSet) : (ow s 0 == ow t 0 && (ow s 1 == ow t 1 && (ow s 2 == ow t 2 && ow s 3 == ow t 3))) = decide (s = t) := by
 by_cases h : s = t
 ·subst h; simp
 ·have h2 := oset_ne h
  rw [decide_eq_false h]
  cases hx : (ow s 0 == ow t 0 && (ow s 1 == ow t 1 && (ow s 2 == ow t 2 && ow s 3 == ow t 3)))
  ·rfl
  ·exfalso
   simp only [Bool.and_eq_true, beq_iff_eq] at hx
   exact h2 hx
theorem rset_eql (s t : OSet) (w : World) : (Op.equalIn 10000 24 (.agg #[.int .u64 (ow s 0), .int .u64 (ow s 1), .int .u64 (ow s 2), .int .u64 (ow s 3)]) (.agg #[.int .u64 (ow t 0), .int .u64 (ow t 1), .int .u64 (ow t 2), .int .u64 (ow t 3)])).run Tryz.prog w = .ok (decide (s = t)) w := by
 have hc : Tryz.prog.cellsOf 22 = 1 := by kernel_rfl
 have hi0 : (Tryz.prog.info? 22).isSome = true := by kernel_rfl
 obtain ⟨i, hi⟩ := Option.isSome_iff_exists.1 hi0
 rw [run_equalIn_array w 9999 (e := 22) (n := 4) _ _ Tryz.underlying24 hi]
 rw [hc, show List.range 4 = [0, 1, 2, 3] from rfl, req_items, rset_beq]
theorem blk9 {w : World} {b : Nat} {t : Tr} {a : Option Addr} {cap : Nat} {T : TypeId} (h : Blk w b (tC t a cap) T) : Cl9 w b 0 t a cap :=
 ⟨(h.cell 0).trans rfl, (h.cell 1).trans rfl, (h.cell 2).trans rfl, (h.cell 3).trans rfl, (h.cell 4).trans rfl, (h.cell 5).trans rfl, (h.cell 6).trans rfl, (h.cell 7).trans rfl, (h.cell 8).trans rfl⟩
end Go.Proofs.YtjbnogjkgmkagaaGreatDoor
