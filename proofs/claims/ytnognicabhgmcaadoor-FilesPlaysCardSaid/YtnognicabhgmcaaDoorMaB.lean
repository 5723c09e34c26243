/- Blk: A block of cells, as a whole: it is read, written, and kept. No program is named here.
   AppAny: append onto a row of one's own of what may be nothing at all. Any program.
   StepCall: A call of a function by its contract, as one step of a region that draws its order. Any program.
   RfLaw: A range over a function whose iterator keeps its state in cells of its own: what its steps and the rounds leave of each other, and the law for the statement. Any program. -/
import Derived.WalkKit
import Derived.WalkSmall
import Derived.Maps.AppendAt
import Derived.Tactics
import Derived.Deep.RegionLaw
import Derived.Deep.AppendLies
import Derived.RangeFuncIn
import Derived.RangeFuncRecord
import Derived.RangeFuncLeaves
import Derived.RangeFuncSeq
import Derived.Below
namespace Go.Proofs.YtnognicabhgmcaaDoor
open Go.RowKit

/-- Block number a holds just these cells, of elements of type T; nothing of it is frozen. -/
def Blk (w : World) (a : Nat) (cs : Array Value) (T : TypeId) : Prop := w.heap[a]? = some (.cells cs T)

theorem Blk.lt {w : World} {a : Nat} {cs : Array Value} {T : TypeId} (h : Blk w a cs T) : a < w.heap.size := (Array.getElem?_eq_some_iff.1 h).1
theorem Blk.cell {w : World} {a : Nat} {cs : Array Value} {T : TypeId} (h : Blk w a cs T) (j : Nat) : w.cell? ⟨a, j, none⟩ = cs[j]? := by
  unfold Blk at h
  simp [World.cell?, h]
theorem Blk.frozen {w : World} {a : Nat} {cs : Array Value} {T : TypeId} (h : Blk w a cs T) (j : Nat) : w.frozen? ⟨a, j, none⟩ = false := by
  unfold Blk at h
  simp [World.frozen?, h]
theorem Blk.set {w : World} {a : Nat} {cs : Array Value} {T : TypeId} (h : Blk w a cs T) (j : Nat) (v : Value) : Blk (w.setCell ⟨a, j, none⟩ v) a (cs.setIfInBounds j v) T := by
  unfold Blk at h ⊢
  simp only [World.setCell, Array.getElem?_modify, if_true, h]
  rfl
theorem Blk.set_other {w : World} {a : Nat} {cs : Array Value} {T : TypeId} (h : Blk w a cs T) (p : Addr) (hp : p.block ≠ a) (v : Value) : Blk (w.setCell p v) a cs T := by
  unfold Blk at h ⊢
  rw [Below.heap_setCell _ _ _ _ (fun e => hp e.symm)]
  exact h
theorem Blk.new (w : World) (cs : Array Value) (T : TypeId) (a : Nat) (ha : a = w.heap.size) : Blk (w.alloc (.cells cs T)) a cs T := by
  subst ha
  show (w.heap.push _)[w.heap.size]? = _
  rw [Array.getElem?_push_size]
theorem Blk.alloc {w : World} {a : Nat} {cs : Array Value} {T : TypeId} (h : Blk w a cs T) (o : Obj) : Blk (w.alloc o) a cs T := by
  have := h.lt
  unfold Blk at h ⊢
  rw [Below.heap_alloc _ _ _ this]
  exact h
theorem Blk.drew {w : World} {a : Nat} {cs : Array Value} {T : TypeId} (h : Blk w a cs T) : Blk w.drew a cs T := h
theorem Blk.drewN {w : World} {a : Nat} {cs : Array Value} {T : TypeId} (h : Blk w a cs T) (n : Nat) : Blk (w.drewN n) a cs T := h
theorem Blk.below {w w' : World} {B a : Nat} {cs : Array Value} {T : TypeId} (h : Blk w a cs T) (hb : Below B w w') (ha : a < B) : Blk w' a cs T := by
  unfold Blk at h ⊢
  rw [hb.block a ha]
  exact h

/-- What a contract's 'Below' tells of the cells that were there. -/
theorem bcell {W w1 : World} (hb : Below W.heap.size W w1) : (∀ b o, b < W.heap.size → w1.cell? ⟨b, o, none⟩ = W.cell? ⟨b, o, none⟩) ∧ (∀ b o, b < W.heap.size → w1.frozen? ⟨b, o, none⟩ = W.frozen? ⟨b, o, none⟩) :=
  ⟨fun b o h => hb.cell (p := ⟨b, o, none⟩) h, fun b o h => hb.frozen (p := ⟨b, o, none⟩) h⟩

end Go.Proofs.YtnognicabhgmcaaDoor
namespace Go.Proofs.YtnognicabhgmcaaDoor
open Go

variable {P : Program} (w : World)
theorem run_append_zero (base : Nat) (t ty e : TypeId) (i : TypeInfo) (ht : P.underlying t = some (.slice e)) (hi : P.info? e = some i) (size : Nat) (v : Value) (n : Nat) (xs : List Value) (hown : w.ownsRow base e size v n xs) (a : Option Addr) (c : Nat) :
    (Builtin.append_ #[t, t] ty #[v, .slice a 0 c]).run P w = .ok v w := by
  rcases hown.2 with ⟨rfl, rfl⟩ | ⟨g, cap, cur, rfl, _, _, hn, _⟩
  · cases a <;> simp [Builtin.append_, run_underlying ht, sizeOf, typeInfo, hi, Builtin.lenOf, Builtin.firstCells, loadCells, loadCellsFrom]
  · cases a <;> simp [Builtin.append_, run_underlying ht, sizeOf, typeInfo, hi, Builtin.lenOf, Builtin.firstCells, loadCells, loadCellsFrom, hn, storeCells]
theorem run_append_own_any (base : Nat) (t ty e : TypeId) (i : TypeInfo) (z : Value) (size bytes : Nat) (ht : P.underlying t = some (.slice e)) (hi : P.info? e = some i) (hz : i.zero = some z)
    (hsize : i.size = size) (hby : i.bytes = bytes) (hzs : z.cells.size = size) (hsz : 0 < size)
    (v : Value) (n : Nat) (xs : List Value) (hown : w.ownsRow base e size v n xs)
    (oa : Option Addr) (m c : Nat) (news : List Value) (hl : news.length = m * size) (hnews : 0 < m → ∃ a, oa = some a ∧ ∀ j u, news[j]? = some u → w.cell? (a.add j) = some u) (h1 : ∀ u ∈ news, u.oneCell' = true)
    (h63 : n + m ≤ maxLen) (hbytes : (n + m) * bytes ≤ 140737488355328) (hbase : base ≤ w.heap.size) :
    ∃ v' w', (Builtin.append_ #[t, t] ty #[v, .slice oa m c]).run P w = .ok v' w' ∧ w'.ownsRow base e size v' (n + m) (xs ++ news) ∧ w.grownBy w' v.ownBlock ∧
      (v'.ownBlock = v.ownBlock ∨ v'.ownBlock = some w.heap.size) := by
  by_cases hm : m = 0
  · subst hm
    have hn : news = [] := List.eq_nil_of_length_eq_zero (by simpa using hl)
    subst hn
    refine ⟨v, w, run_append_zero w base t ty e i ht hi size v n xs hown oa c, ?_, ⟨rfl, rfl, rfl, Nat.le_refl _, fun _ _ _ => rfl⟩, .inl rfl⟩
    rw [List.append_nil]
    exact hown
  · obtain ⟨a, rfl, hc⟩ := hnews (by omega)
    obtain ⟨v', w', h2, h3, h4, _, h5⟩ := run_append_own_at (P := P) w base t ty e i z size bytes ht hi hz hsize hby hzs hsz v n xs hown a m c news hl hc h1 h63 hbytes hbase
    exact ⟨v', w', h2, h3, h4, h5⟩
theorem wpList_append_any {ops : Array Oper} {rest : List Oper} {o : Oper} {a : Act} {Q : Exit → Act → World → Prop} (hgd : o.guard = none) (s x : Operand) (t : TypeId)
    (ho : o.op = .call { callee := .builtin .append, args := #[s, x], argTypes := #[t, t] })
    (base : Nat) (e : TypeId) (i : TypeInfo) (z : Value) (size bytes : Nat) (ht : P.underlying t = some (.slice e)) (hi : P.info? e = some i) (hz : i.zero = some z)
    (hsize : i.size = size) (hby : i.bytes = bytes) (hzs : z.cells.size = size) (hsz : 0 < size)
    (v : Value) (n : Nat) (xs : List Value) (hs : a.eval s = v) (hown : w.ownsRow base e size v n xs)
    (oa : Option Addr) (m c : Nat) (news : List Value) (hx : a.eval x = .slice oa m c) (hl : news.length = m * size) (hnews : 0 < m → ∃ a, oa = some a ∧ ∀ j u, news[j]? = some u → w.cell? (a.add j) = some u) (h1 : ∀ u ∈ news, u.oneCell' = true)
    (h63 : n + m ≤ maxLen) (hbytes : (n + m) * bytes ≤ 140737488355328) (hbase : base ≤ w.heap.size)
    (h : ∀ v' w', w'.ownsRow base e size v' (n + m) (xs ++ news) → w.grownBy w' v.ownBlock → (v'.ownBlock = v.ownBlock ∨ v'.ownBlock = some w.heap.size) → wpList P ops Q rest (a.put o.dst v') w') :
    wpList P ops Q (o :: rest) a w := by
  refine wpList_plain hgd fun K hK => ?_
  obtain ⟨v', w', hr, h2, h3, h4⟩ := run_append_own_any (P := P) w base t o.type e i z size bytes ht hi hz hsize hby hzs hsz v n xs hown oa m c news hl hnews h1 h63 hbytes hbase
  unfold Oper.wp execOp
  simp only [ho, resolve, invoke, builtin, Sem.run_bind, Sem.run_pure, Result.andThen_ok, List.map_toArray, List.map_cons, List.map_nil, hs, hx, hr]
  exact hK _ _ (h v' w' h2 h3 h4)
end Go.Proofs.YtnognicabhgmcaaDoor
namespace Go.Proofs.YtnognicabhgmcaaDoor
open Go

variable {P : Program}
theorem step_call {ops : Array Oper} {o : Oper} {a : Act} {w : World} {K : Act → World → Prop} {Q : Exit → Act → World → Prop} {E : Prop} (hgd : o.guard = none) (g : Operand) (xs : List Operand) (ts : Array TypeId)
    (ho : o.op = .call { callee := .value g, args := xs.toArray, argTypes := ts }) (f : Nat) (vs : List Value) (hg : a.eval g = .func (.func f) #[] #[]) (hv : xs.map a.eval = vs) (eg : ∀ args w, (callFunc f args).run P w = .ok (.enter f args) w)
    {R : Ending → World → Prop} (hC : Calls P f vs.toArray w R) (h : ∀ e w', R e w' → ∃ v, e = .returned v ∧ K (a.put o.dst v) w') : if Region.wanted o (yielded ops a.tmps) = true then Oper.wp P o a w K Q else E := by
  rw [if_pos (by simp [Region.wanted, hgd])]
  have hE : (execOp a.eval o).run P w = .ok (.enter f vs.toArray) w := by
    unfold execOp
    simp only [ho, resolve, hg, List.map_toArray, hv]
    simp [go_sem, invoke, eg]
  unfold Oper.wp
  rw [hE, Oper.upon_enter]
  refine hC.mono ?_
  intro e w' hr
  obtain ⟨v, rfl, hk⟩ := h e w' hr
  exact hk
end Go.Proofs.YtnognicabhgmcaaDoor
namespace Go.Proofs.YtnognicabhgmcaaDoor
open Go Go.RowKit

/-- A step of the iterator: what lay below B, and the blocks C, lie as they lay. -/
structure Other (B : Nat) (C : Nat → Prop) (W W' : World) : Prop where
  os : W'.os = W.os
  tape : W'.tape = W.tape
  output : W'.output = W.output
  size : W.heap.size ≤ W'.heap.size
  block : ∀ k, k < W.heap.size → (k < B ∨ C k) → W'.heap[k]? = W.heap[k]?
/-- A round: what lay below n₀, and from B on but the blocks C, lies as it lay; C may grow by new blocks. -/
structure Rdn (n₀ B : Nat) (C C' : Nat → Prop) (W W' : World) : Prop where
  size : W.heap.size ≤ W'.heap.size
  block : ∀ k, k < W.heap.size → (k < n₀ ∨ (B ≤ k ∧ ¬ C k)) → W'.heap[k]? = W.heap[k]?
  new : ∀ k, C' k → C k ∨ (W.heap.size ≤ k ∧ k < W'.heap.size)
theorem Other.refl (B : Nat) (C : Nat → Prop) (W : World) : Other B C W W := ⟨rfl, rfl, rfl, Nat.le_refl _, fun _ _ _ => rfl⟩
theorem Other.trans {B : Nat} {C : Nat → Prop} {X Y Z : World} (h : Other B C X Y) (k : Other B C Y Z) : Other B C X Z :=
  ⟨k.os.trans h.os, k.tape.trans h.tape, k.output.trans h.output, Nat.le_trans h.size k.size, fun i hi hc => (k.block i (Nat.lt_of_lt_of_le hi h.size) hc).trans (h.block i hi hc)⟩
theorem Other.drew {B : Nat} {C : Nat → Prop} {X Y : World} (h : Other B C X Y) : Other B C X Y.drew := ⟨h.os, h.tape, h.output, h.size, h.block⟩
theorem Other.alloc {B : Nat} {C : Nat → Prop} {X Y : World} (h : Other B C X Y) (o : Obj) : Other B C X (Y.alloc o) :=
  h.trans ⟨rfl, rfl, rfl, by simp, fun k hk _ => Below.heap_alloc _ _ _ hk⟩
theorem Other.setCell {B : Nat} {C : Nat → Prop} {X Y : World} (h : Other B C X Y) {p : Addr} (hp : B ≤ p.block) (hc : ¬ C p.block) (u : Value) : Other B C X (Y.setCell p u) :=
  h.trans ⟨rfl, rfl, rfl, by simp [World.setCell], fun k _ hk => Below.heap_setCell _ _ _ _ (fun e => by subst e; rcases hk with hk | hk <;> first | omega | exact hc hk)⟩
theorem Other.grown {B : Nat} {C : Nat → Prop} {X Y Z : World} {row : Option Nat} (h : Other B C X Y) (hg : Y.grownBy Z row) (hr : ∀ k, row = some k → B ≤ k ∧ ¬ C k) : Other B C X Z :=
  h.trans ⟨hg.os, hg.tape, hg.output, hg.size, fun k hk hc => hg.block k hk (fun e => by have := hr k e.symm; rcases hc with hc | hc <;> first | omega | exact this.2 hc)⟩
theorem Other.mono {B B' : Nat} {C : Nat → Prop} {X Y : World} (h : Other B C X Y) (hB : B' ≤ B) : Other B' C X Y :=
  ⟨h.os, h.tape, h.output, h.size, fun k hk hc => h.block k hk (hc.elim (fun h => .inl (Nat.lt_of_lt_of_le h hB)) .inr)⟩
theorem Other.none {B : Nat} {C : Nat → Prop} {X Y : World} (h : Other B C X Y) : Other B (fun _ => False) X Y :=
  ⟨h.os, h.tape, h.output, h.size, fun k hk hc => h.block k hk (.inl (hc.elim id False.elim))⟩
theorem Other.below {B : Nat} {C : Nat → Prop} {X Y : World} (h : Other B C X Y) (hB : B ≤ X.heap.size) : Below B X Y :=
  ⟨h.os, h.tape, h.output, h.size, fun k hk => h.block k (by omega) (.inl hk)⟩
theorem Other.of_below {B : Nat} {C : Nat → Prop} {X Y : World} (h : Below X.heap.size X Y) : Other B C X Y :=
  ⟨h.os, h.tape, h.output, h.size, fun k hk _ => h.block k hk⟩
theorem Other.putObj {B : Nat} {C : Nat → Prop} (W : World) {k : Nat} (hk : B ≤ k) (hc : ¬ C k) (o : Obj) : Other B C W (W.putObj k o) :=
  ⟨rfl, rfl, rfl, by simp, fun i _ hi => World.putObj_heap_other (fun e => by subst e; rcases hi with h | h <;> first | omega | exact hc h)⟩

/-- What a round is handed, and what it must leave; what the iterator answers. -/
def Gives {α : Type} (P : Program) (g : Nat) (lb : Array Value) (n₀ : Nat) (Ok : List α → α → Array Value → (Nat → Prop) → Nat → World → Prop) (All : List α → Prop) (w : World) : Prop :=
  ∀ (l m : Nat) (J : List α → (Nat → Prop) → World → Prop) (Jx : World → Prop) (W : World), Below w.heap.size w W →
    (∀ pre C X Y, J pre C X → Other W.heap.size C X Y → J pre C Y) →
    (∀ X Y, Jx X → Other W.heap.size (fun _ => False) X Y → Jx Y) →
    (∀ pre x args C X, J pre C X → Ok pre x args C W.heap.size X → YieldAt Fence.wide m P l args X fun e Y =>
      (e = .returned (.bool true) ∧ ∃ C', J (pre ++ [x]) C' Y ∧ Rdn n₀ W.heap.size C C' X Y) ∨ (e = .returned (.bool false) ∧ Jx Y ∧ Rdn n₀ W.heap.size C C X Y)) →
    J [] (fun _ => False) W →
    Calls P g (#[.func (.yield l) #[] #[]] ++ lb) W fun e Y => (∃ v, e = .returned v) ∧ ((∃ xs C, All xs ∧ J xs C Y) ∨ Jx Y)

/-- How a round's body may be left. -/
def rdPost {α : Type} (n₀ B : Nat) (C : Nat → Prop) (I : List α → (Nat → Prop) → World → Prop) (Ix : Code → World → Prop) (xs : List α) (W : World) : Exit → Act → World → Prop
  | .normal, _, W' => ∃ C', Rdn n₀ B C C' W W' ∧ I xs C' W'
  | .ret, _, W' => Rdn n₀ B C C W W' ∧ Ix .ret W'
  | .exit id, _, W' => Rdn n₀ B C C W W' ∧ Ix (.exit id) W'
  | .goto t, _, W' => Rdn n₀ B C C W W' ∧ Ix (.goto t) W'
  | .panic _, _, _ => False
  | .outgrown, _, _ => False

variable {P : Program} {n : Nat}
theorem wpIn_rangeFunc_cells {α : Type} {g : Operand} {ps : Array Tmp} {assign body : Code} {Q : Exit → Act → World → Prop} {a : Act} {w w0 : World} {gf n₀ : Nat} {lb : Array Value}
    {Ok : List α → α → Array Value → (Nat → Prop) → Nat → World → Prop} {All : List α → Prop}
    (hg : a.eval g = .func (.func gf) #[] lb) (eg : ∀ args w, (callFunc gf args).run P w = .ok (.enter gf args) w)
    (hseq : Gives P gf lb n₀ Ok All w0) (hb0 : Below w0.heap.size w0 w) (hn₀ : n₀ ≤ w.heap.size)
    (hps : ∀ pre x args C b W, Ok pre x args C b W → args.size = ps.size)
    (hOk : ∀ pre x args C b W k o, Ok pre x args C b W → n₀ ≤ k → k < b → Ok pre x args C b (W.putObj k o))
    (I : List α → (Nat → Prop) → World → Prop) (Ix : Code → World → Prop)
    (hI : ∀ pre C X Y, I pre C X → Other w.heap.size C X Y → I pre C Y)
    (hIx : ∀ c X Y, Ix c X → Other w.heap.size (fun _ => False) X Y → Ix c Y)
    (h0 : I [] (fun _ => False) w)
    (hround : ∀ (l : Nat) (pre : List α) (x : α) (args : Array Value) (C : Nat → Prop) (W : World), I pre C W → Ok pre x args C (w.heap.size + 2) W →
      (∀ k, C k → w.heap.size + 2 ≤ k) → w.heap.size + 2 ≤ W.heap.size →
      assign.wpIn (Fence.wide.inRound l) n P (Exit.then (fun a₁ W₁ => W₁ = W ∧ ∀ W, I pre C W → Ok pre x args C (w.heap.size + 2) W → w.heap.size + 2 ≤ W.heap.size → body.wpIn (Fence.wide.inRound l) n P (rdPost n₀ w.heap.size C I Ix (pre ++ [x]) W) a₁ W) (fun _ _ _ => False))
        { tmps := (ps.zip args).foldl (fun t (p, v) => t.setIfInBounds p v) a.tmps, defers := [] } W)
    (hdone : ∀ (xs : List α) (C : Nat → Prop) (W : World), All xs → I xs C W → W.heap[w.heap.size]? = some (.deferred (some [])) → Q .normal { a with defers := { target := .collected w.heap.size, args := #[] } :: a.defers } W)
    (hstop : ∀ (c : Code) (W : World), Ix c W → W.heap[w.heap.size]? = some (.deferred (some [])) → c.wpIn Fence.wide n P Q { a with defers := { target := .collected w.heap.size, args := #[] } :: a.defers } W) :
    (Code.rangeFunc g ps assign body).wpIn Fence.wide n P Q a w := by
  refine wpIn_rangeFunc fun fn hfn => ?_
  generalize hD : w.heap.size = D at *
  -- the record, in its states
  obtain ⟨rec, hrec⟩ : ∃ rec : LoopState → Option Code → Loop, rec = fun st pe => { state := st, pending := pe, fn, tmps := a.tmps, params := ps, assign, body, defers := D } := ⟨_, rfl⟩
  obtain ⟨V, hV⟩ : ∃ V, (w.alloc (.deferred (some []))).alloc (.loop (rec .ready none)) = V := ⟨_, rfl⟩
  have hVs : V.heap.size = D + 2 := by rw [← hV]; simp [hD]
  have hVl : V.heap[D + 1]? = some (.loop (rec .ready none)) := by
    have h := World.alloc_heap_new (w.alloc (.deferred (some []))) (.loop (rec .ready none))
    rw [World.size_alloc, hD, hV] at h
    exact h
  have hVd : V.heap[D]? = some (.deferred (some [])) := by
    have h := World.alloc_heap_new w (.deferred (some []))
    rw [hD] at h
    rw [← hV, Below.heap_alloc _ _ _ (by simp [hD])]
    exact h
  have hVb : Below w.heap.size w V := by
    rw [← hV]
    exact ((Below.refl _ w).alloc (Nat.le_refl _) _).alloc (by simp) _
  have hVo : Other D (fun _ => False) w V := Other.of_below hVb
  refine ⟨D + 1, [{ target := .collected D, args := #[] }], V, { target := .fn (.func gf) lb, args := #[.func (.yield (D + 1)) #[] #[]] }, V, gf, #[.func (.yield (D + 1)) #[] #[]] ++ lb, V, ?_, ?_, fun _ _ => trivial, ?_, fun h => by simp [Fence.wide] at h, ?_⟩
  · have h := run_enterLoop_outer (P := P) (w := w) fn a.tmps ps assign body
    rw [hD] at h
    rw [← hV, hrec]
    exact h
  · simp only [resolve, hg]
    simp [go_sem]
  · simp [invoke, go_sem, eg]
  refine callsIn_wide.2 ((hseq (D + 1) n
    (fun pre C W => I pre C W ∧ (∀ k, C k → D + 2 ≤ k) ∧ D + 2 ≤ W.heap.size ∧ W.heap[D + 1]? = some (.loop (rec .ready none)) ∧ W.heap[D]? = some (.deferred (some [])))
    (fun W => ∃ c, Ix c W ∧ D + 2 ≤ W.heap.size ∧ W.heap[D + 1]? = some (.loop (rec .done (some c))) ∧ W.heap[D]? = some (.deferred (some [])))
    V (hb0.trans (hVb.mono hb0.size)) ?_ ?_ ?_ ⟨hI _ _ _ _ h0 hVo, fun k h => h.elim, by omega, hVl, hVd⟩).mono ?_)
  · rintro pre C X Y ⟨h1, h2, h3, h4, h5⟩ ho
    exact ⟨hI _ _ _ _ h1 (ho.mono (by omega)), h2, Nat.le_trans h3 ho.size, (ho.block _ (by omega) (.inl (by omega))).trans h4, (ho.block _ (by omega) (.inl (by omega))).trans h5⟩
  · rintro X Y ⟨c, h1, h3, h4, h5⟩ ho
    exact ⟨c, hIx _ _ _ h1 (ho.mono (by omega)), Nat.le_trans h3 ho.size, (ho.block _ (by omega) (.inl (by omega))).trans h4, (ho.block _ (by omega) (.inl (by omega))).trans h5⟩
  · -- one round
    rintro pre x args C X ⟨h1, h2, h3, h4, h5⟩ hok
    rw [hVs] at hok ⊢
    have hy := run_yield (P := P) (args := args) h4 (by rw [hrec]; exact hps _ _ _ _ _ _ hok)
    rw [hrec] at hy
    refine ⟨fn, _, assign, body, hy, roundIn_of_wpIn hfn (wpIn_mono (hround (D + 1) pre x args C X h1 hok h2 h3) ?_)⟩
    intro e a₁ W₁ hq
    cases e with
    | normal =>
      obtain ⟨rfl, hb⟩ := hq
      have hc1 : ¬ C (D + 1) := fun h => by have := h2 _ h; omega
      have hc0 : ¬ C D := fun h => by have := h2 _ h; omega
      refine ⟨_, run_beginRound h4 (by rw [hrec]), ?_⟩
      have hbusy : (W₁.putObj (D + 1) (.loop { rec .ready none with state := .busy })).heap[D + 1]? = some (.loop { rec .ready none with state := .busy }) := World.putObj_heap_same (by omega)
      have hdef : (W₁.putObj (D + 1) (.loop { rec .ready none with state := .busy })).heap[D]? = some (.deferred (some [])) := (World.putObj_heap_other (by omega)).trans h5
      refine wpIn_mono (hb (W₁.putObj (D + 1) (.loop { rec .ready none with state := .busy })) (hI _ _ _ _ h1 (Other.putObj _ (by omega) hc1 _)) (hOk _ _ _ _ _ _ _ _ hok (by omega) (by omega)) (by simpa using h3)) ?_
      have fin : ∀ (jump : Option Code) (C' : Nat → Prop) (W3 : World), Rdn n₀ D C C' (W₁.putObj (D + 1) (.loop { rec .ready none with state := .busy })) W3 →
          ∃ W4, W4 = W3.putObj (D + 1) (.loop (rec (if jump.isNone then .ready else .done) jump)) ∧ (Instr.endRound (D + 1) jump).run P W3 = .ok (.bool jump.isNone) W4 ∧
          (∀ C, (¬ C (D + 1)) → Other D C W3 W4) ∧ W4.heap[D + 1]? = some (.loop (rec (if jump.isNone then .ready else .done) jump)) ∧ W4.heap[D]? = some (.deferred (some [])) ∧ D + 2 ≤ W4.heap.size ∧ Rdn n₀ (D + 2) C C' W₁ W4 := by
        intro jump C' W3 hr
        have hl3 : W3.heap[D + 1]? = some (.loop { rec .ready none with state := .busy }) := (hr.block _ (by simp; omega) (.inr ⟨by omega, hc1⟩)).trans hbusy
        have hd3 : W3.heap[D]? = some (.deferred (some [])) := (hr.block _ (by simp; omega) (.inr ⟨by omega, hc0⟩)).trans hdef
        have hs := hr.size
        rw [World.putObj_size] at hs
        have hrun := run_endRound (P := P) jump hl3
        rw [hrec] at hrun ⊢
        refine ⟨_, rfl, hrun, fun C hC => Other.putObj _ (by omega) hC _, World.putObj_heap_same (by omega), (World.putObj_heap_other (by omega)).trans hd3, by simp; omega, ⟨by simp; omega, fun k hk hkc => ?_, fun k hk => (hr.new k hk).elim .inl (fun h => .inr (by simpa using h))⟩⟩
        have hne : k ≠ D + 1 := by
          rcases hkc with h | h <;> omega
        rw [World.putObj_heap_other hne, hr.block k (by simpa using hk) (hkc.elim .inl (fun h => .inr ⟨by omega, h.2⟩)), World.putObj_heap_other hne]
      rintro e a3 W3 hp
      cases e with
      | normal =>
        obtain ⟨C', hr, hi⟩ := hp
        obtain ⟨W4, _, hrun, ho, hl, hd, hs, hr4⟩ := fin none C' W3 hr
        have hC' : ∀ k, C' k → D + 2 ≤ k := fun k hk => (hr.new k hk).elim (h2 k) (fun h => by have := h.1; simp at this; omega)
        exact ⟨_, _, hrun, .inl ⟨rfl, C', ⟨hI _ _ _ _ hi (ho C' (fun h => by have := hC' _ h; omega)), hC', hs, hl, hd⟩, hr4⟩⟩
      | ret =>
        obtain ⟨hr, hi⟩ := hp
        obtain ⟨W4, _, hrun, ho, hl, hd, hs, hr4⟩ := fin (some .ret) C W3 hr
        exact ⟨_, _, hrun, .inr ⟨rfl, ⟨.ret, hIx _ _ _ hi (ho _ (fun h => h)), hs, hl, hd⟩, hr4⟩⟩
      | exit id =>
        obtain ⟨hr, hi⟩ := hp
        obtain ⟨W4, _, hrun, ho, hl, hd, hs, hr4⟩ := fin (some (.exit id)) C W3 hr
        exact ⟨_, _, hrun, .inr ⟨rfl, ⟨.exit id, hIx _ _ _ hi (ho _ (fun h => h)), hs, hl, hd⟩, hr4⟩⟩
      | goto t =>
        obtain ⟨hr, hi⟩ := hp
        obtain ⟨W4, _, hrun, ho, hl, hd, hs, hr4⟩ := fin (some (.goto t)) C W3 hr
        exact ⟨_, _, hrun, .inr ⟨rfl, ⟨.goto t, hIx _ _ _ hi (ho _ (fun h => h)), hs, hl, hd⟩, hr4⟩⟩
      | panic ch => exact hp.elim
      | outgrown => exact hp.elim
    | exit id => exact hq.elim
    | goto t => exact hq.elim
    | ret => exact hq.elim
    | panic ch => exact hq.elim
    | outgrown => exact hq.elim
  · -- behind the iterator
    rintro e Y ⟨⟨v, rfl⟩, ⟨xs, C, hA, h1, h2, h3, h4, h5⟩ | ⟨c, h1, h3, h4, h5⟩⟩
    · have hrun := run_endLoop (P := P) h4 (by rw [hrec]; simp)
      rw [hrec] at hrun
      exact ⟨none, _, hrun, hdone xs C _ hA (hI _ _ _ _ h1 (Other.putObj _ (by omega) (fun h => by have := h2 _ h; omega) _)) ((World.putObj_heap_other (by omega)).trans h5)⟩
    · have hrun := run_endLoop (P := P) h4 (by rw [hrec]; simp)
      rw [hrec] at hrun
      exact ⟨some c, _, hrun, hstop c _ (hIx _ _ _ h1 (Other.putObj _ (by omega) (fun h => h) _)) ((World.putObj_heap_other (by omega)).trans h5)⟩
end Go.Proofs.YtnognicabhgmcaaDoor
