/- The proof's texts MaB, OctW, MaC, ShMa, CoMe: what the claim reaches of them. -/
import Derived.WalkKit
import Derived.WalkSmall
import Derived.Maps.AppendAt
import Derived.Tactics
import Derived.Deep.RegionLaw
import Derived.Deep.AppendLies
import Derived.RangeFuncIn
import Derived.RangeFuncRecord
import Derived.RangeFuncLeaves
import Derived.RangeFuncSeq
import Derived.Below
import Derived.Test.YtihfenkphhnbcaaCp01
import Derived.Laws.Bits128
import Derived.Test.YtihfenkphhnbcaaRows
import Derived.WalkSpells
import Derived.WalkLawsBesides
import Derived.BigRegion
import Derived.Lib.Hide
import Derived.Lib.IndexMore
import Derived.Lib.Strings
import Derived.KernelRfl
import Derived.Test.YtihfenkphhnbcaaCp02
namespace Go.Proofs.Ytihfenkphhnbcaa
open Go.RowKit
def Blk (w : World) (a : Nat) (cs : Array Value) (T : TypeId) : Prop := w.heap[a]? = some (.cells cs T)
theorem Blk.lt {w : World} {a : Nat} {cs : Array Value} {T : TypeId} (h : Blk w a cs T) : a < w.heap.size := (Array.getElem?_eq_some_iff.1 h).1
theorem Blk.cell {w : World} {a : Nat} {cs : Array Value} {T : TypeId} (h : Blk w a cs T) (j : Nat) : w.cell? ⟨a, j, none⟩ = cs[j]? := by
  unfold Blk at h
  simp [World.cell?, h]
theorem Blk.frozen {w : World} {a : Nat} {cs : Array Value} {T : TypeId} (h : Blk w a cs T) (j : Nat) : w.frozen? ⟨a, j, none⟩ = false := by
  unfold Blk at h
  simp [World.frozen?, h]
theorem Blk.set {w : World} {a : Nat} {cs : Array Value} {T : TypeId} (h : Blk w a cs T) (j : Nat) (v : Value) : Blk (w.setCell ⟨a, j, none⟩ v) a (cs.setIfInBounds j v) T := by
  unfold Blk at h ⊢
  simp only [World.setCell, Array.getElem?_modify, if_true, h]
  rfl
theorem Blk.new (w : World) (cs : Array Value) (T : TypeId) (a : Nat) (ha : a = w.heap.size) : Blk (w.alloc (.cells cs T)) a cs T := by
  subst ha
  show (w.heap.push _)[w.heap.size]? = _
  rw [Array.getElem?_push_size]
theorem Blk.alloc {w : World} {a : Nat} {cs : Array Value} {T : TypeId} (h : Blk w a cs T) (o : Obj) : Blk (w.alloc o) a cs T := by
  have := h.lt
  unfold Blk at h ⊢
  rw [Below.heap_alloc _ _ _ this]
  exact h
theorem Blk.drew {w : World} {a : Nat} {cs : Array Value} {T : TypeId} (h : Blk w a cs T) : Blk w.drew a cs T := h
theorem Blk.drewN {w : World} {a : Nat} {cs : Array Value} {T : TypeId} (h : Blk w a cs T) (n : Nat) : Blk (w.drewN n) a cs T := h
theorem Blk.below {w w' : World} {B a : Nat} {cs : Array Value} {T : TypeId} (h : Blk w a cs T) (hb : Below B w w') (ha : a < B) : Blk w' a cs T := by
  unfold Blk at h ⊢
  rw [hb.block a ha]
  exact h
end Go.Proofs.Ytihfenkphhnbcaa
namespace Go.Proofs.Ytihfenkphhnbcaa
open Go
variable {P : Program} (w : World)
theorem run_append_zero (base : Nat) (t ty e : TypeId) (i : TypeInfo) (ht : P.underlying t = some (.slice e)) (hi : P.info? e = some i) (size : Nat) (v : Value) (n : Nat) (xs : List Value) (hown : w.ownsRow base e size v n xs) (a : Option Addr) (c : Nat) :
    (Builtin.append_ #[t, t] ty #[v, .slice a 0 c]).run P w = .ok v w := by
  rcases hown.2 with ⟨rfl, rfl⟩ | ⟨g, cap, cur, rfl, _, _, hn, _⟩
  · cases a <;> simp [Builtin.append_, run_underlying ht, sizeOf, typeInfo, hi, Builtin.lenOf, Builtin.firstCells, loadCells, loadCellsFrom]
  · cases a <;> simp [Builtin.append_, run_underlying ht, sizeOf, typeInfo, hi, Builtin.lenOf, Builtin.firstCells, loadCells, loadCellsFrom, hn, storeCells]
theorem run_append_own_any (base : Nat) (t ty e : TypeId) (i : TypeInfo) (z : Value) (size bytes : Nat) (ht : P.underlying t = some (.slice e)) (hi : P.info? e = some i) (hz : i.zero = some z)
    (hsize : i.size = size) (hby : i.bytes = bytes) (hzs : z.cells.size = size) (hsz : 0 < size)
    (v : Value) (n : Nat) (xs : List Value) (hown : w.ownsRow base e size v n xs)
    (oa : Option Addr) (m c : Nat) (news : List Value) (hl : news.length = m * size) (hnews : 0 < m → ∃ a, oa = some a ∧ ∀ j u, news[j]? = some u → w.cell? (a.add j) = some u) (h1 : ∀ u ∈ news, u.oneCell' = true)
    (h63 : n + m ≤ maxLen) (hbytes : (n + m) * bytes ≤ 140737488355328) (hbase : base ≤ w.heap.size) :
    ∃ v' w', (Builtin.append_ #[t, t] ty #[v, .slice oa m c]).run P w = .ok v' w' ∧ w'.ownsRow base e size v' (n + m) (xs ++ news) ∧ w.grownBy w' v.ownBlock ∧
      (v'.ownBlock = v.ownBlock ∨ v'.ownBlock = some w.heap.size) := by
  by_cases hm : m = 0
  · subst hm
    have hn : news = [] := List.eq_nil_of_length_eq_zero (by simpa using hl)
    subst hn
    refine ⟨v, w, run_append_zero w base t ty e i ht hi size v n xs hown oa c, ?_, ⟨rfl, rfl, rfl, Nat.le_refl _, fun _ _ _ => rfl⟩, .inl rfl⟩
    rw [List.append_nil]
    exact hown
  · obtain ⟨a, rfl, hc⟩ := hnews (by omega)
    obtain ⟨v', w', h2, h3, h4, _, h5⟩ := run_append_own_at (P := P) w base t ty e i z size bytes ht hi hz hsize hby hzs hsz v n xs hown a m c news hl hc h1 h63 hbytes hbase
    exact ⟨v', w', h2, h3, h4, h5⟩
end Go.Proofs.Ytihfenkphhnbcaa
namespace Go.Proofs.Ytihfenkphhnbcaa
open Go
variable {P : Program}
theorem step_call {ops : Array Oper} {o : Oper} {a : Act} {w : World} {K : Act → World → Prop} {Q : Exit → Act → World → Prop} {E : Prop} (hgd : o.guard = none) (g : Operand) (xs : List Operand) (ts : Array TypeId)
    (ho : o.op = .call { callee := .value g, args := xs.toArray, argTypes := ts }) (f : Nat) (vs : List Value) (hg : a.eval g = .func (.func f) #[] #[]) (hv : xs.map a.eval = vs) (eg : ∀ args w, (callFunc f args).run P w = .ok (.enter f args) w)
    {R : Ending → World → Prop} (hC : Calls P f vs.toArray w R) (h : ∀ e w', R e w' → ∃ v, e = .returned v ∧ K (a.put o.dst v) w') : if Region.wanted o (yielded ops a.tmps) = true then Oper.wp P o a w K Q else E := by
  rw [if_pos (by simp [Region.wanted, hgd])]
  have hE : (execOp a.eval o).run P w = .ok (.enter f vs.toArray) w := by
    unfold execOp
    simp only [ho, resolve, hg, List.map_toArray, hv]
    simp [go_sem, invoke, eg]
  unfold Oper.wp
  rw [hE, Oper.upon_enter]
  refine hC.mono ?_
  intro e w' hr
  obtain ⟨v, rfl, hk⟩ := h e w' hr
  exact hk
end Go.Proofs.Ytihfenkphhnbcaa
namespace Go.Proofs.Ytihfenkphhnbcaa
open Go Go.RowKit
structure Other (B : Nat) (C : Nat → Prop) (W W' : World) : Prop where
  os : W'.os = W.os
  tape : W'.tape = W.tape
  output : W'.output = W.output
  size : W.heap.size ≤ W'.heap.size
  block : ∀ k, k < W.heap.size → (k < B ∨ C k) → W'.heap[k]? = W.heap[k]?
structure Rdn (n₀ B : Nat) (C C' : Nat → Prop) (W W' : World) : Prop where
  size : W.heap.size ≤ W'.heap.size
  block : ∀ k, k < W.heap.size → (k < n₀ ∨ (B ≤ k ∧ ¬ C k)) → W'.heap[k]? = W.heap[k]?
  new : ∀ k, C' k → C k ∨ (W.heap.size ≤ k ∧ k < W'.heap.size)
theorem Other.refl (B : Nat) (C : Nat → Prop) (W : World) : Other B C W W := ⟨rfl, rfl, rfl, Nat.le_refl _, fun _ _ _ => rfl⟩
theorem Other.trans {B : Nat} {C : Nat → Prop} {X Y Z : World} (h : Other B C X Y) (k : Other B C Y Z) : Other B C X Z :=
  ⟨k.os.trans h.os, k.tape.trans h.tape, k.output.trans h.output, Nat.le_trans h.size k.size, fun i hi hc => (k.block i (Nat.lt_of_lt_of_le hi h.size) hc).trans (h.block i hi hc)⟩
theorem Other.drew {B : Nat} {C : Nat → Prop} {X Y : World} (h : Other B C X Y) : Other B C X Y.drew := ⟨h.os, h.tape, h.output, h.size, h.block⟩
theorem Other.alloc {B : Nat} {C : Nat → Prop} {X Y : World} (h : Other B C X Y) (o : Obj) : Other B C X (Y.alloc o) :=
  h.trans ⟨rfl, rfl, rfl, by simp, fun k hk _ => Below.heap_alloc _ _ _ hk⟩
theorem Other.setCell {B : Nat} {C : Nat → Prop} {X Y : World} (h : Other B C X Y) {p : Addr} (hp : B ≤ p.block) (hc : ¬ C p.block) (u : Value) : Other B C X (Y.setCell p u) :=
  h.trans ⟨rfl, rfl, rfl, by simp [World.setCell], fun k _ hk => Below.heap_setCell _ _ _ _ (fun e => by subst e; rcases hk with hk | hk <;> first | omega | exact hc hk)⟩
theorem Other.grown {B : Nat} {C : Nat → Prop} {X Y Z : World} {row : Option Nat} (h : Other B C X Y) (hg : Y.grownBy Z row) (hr : ∀ k, row = some k → B ≤ k ∧ ¬ C k) : Other B C X Z :=
  h.trans ⟨hg.os, hg.tape, hg.output, hg.size, fun k hk hc => hg.block k hk (fun e => by have := hr k e.symm; rcases hc with hc | hc <;> first | omega | exact this.2 hc)⟩
theorem Other.mono {B B' : Nat} {C : Nat → Prop} {X Y : World} (h : Other B C X Y) (hB : B' ≤ B) : Other B' C X Y :=
  ⟨h.os, h.tape, h.output, h.size, fun k hk hc => h.block k hk (hc.elim (fun h => .inl (Nat.lt_of_lt_of_le h hB)) .inr)⟩
theorem Other.none {B : Nat} {C : Nat → Prop} {X Y : World} (h : Other B C X Y) : Other B (fun _ => False) X Y :=
  ⟨h.os, h.tape, h.output, h.size, fun k hk hc => h.block k hk (.inl (hc.elim id False.elim))⟩
theorem Other.below {B : Nat} {C : Nat → Prop} {X Y : World} (h : Other B C X Y) (hB : B ≤ X.heap.size) : Below B X Y :=
  ⟨h.os, h.tape, h.output, h.size, fun k hk => h.block k (by omega) (.inl hk)⟩
theorem Other.of_below {B : Nat} {C : Nat → Prop} {X Y : World} (h : Below X.heap.size X Y) : Other B C X Y :=
  ⟨h.os, h.tape, h.output, h.size, fun k hk _ => h.block k hk⟩
theorem Other.putObj {B : Nat} {C : Nat → Prop} (W : World) {k : Nat} (hk : B ≤ k) (hc : ¬ C k) (o : Obj) : Other B C W (W.putObj k o) :=
  ⟨rfl, rfl, rfl, by simp, fun i _ hi => World.putObj_heap_other (fun e => by subst e; rcases hi with h | h <;> first | omega | exact hc h)⟩
def Gives {α : Type} (P : Program) (g : Nat) (lb : Array Value) (n₀ : Nat) (Ok : List α → α → Array Value → (Nat → Prop) → Nat → World → Prop) (All : List α → Prop) (w : World) : Prop :=
  ∀ (l m : Nat) (J : List α → (Nat → Prop) → World → Prop) (Jx : World → Prop) (W : World), Below w.heap.size w W →
    (∀ pre C X Y, J pre C X → Other W.heap.size C X Y → J pre C Y) →
    (∀ X Y, Jx X → Other W.heap.size (fun _ => False) X Y → Jx Y) →
    (∀ pre x args C X, J pre C X → Ok pre x args C W.heap.size X → YieldAt Fence.wide m P l args X fun e Y =>
      (e = .returned (.bool true) ∧ ∃ C', J (pre ++ [x]) C' Y ∧ Rdn n₀ W.heap.size C C' X Y) ∨ (e = .returned (.bool false) ∧ Jx Y ∧ Rdn n₀ W.heap.size C C X Y)) →
    J [] (fun _ => False) W →
    Calls P g (#[.func (.yield l) #[] #[]] ++ lb) W fun e Y => (∃ v, e = .returned v) ∧ ((∃ xs C, All xs ∧ J xs C Y) ∨ Jx Y)
def rdPost {α : Type} (n₀ B : Nat) (C : Nat → Prop) (I : List α → (Nat → Prop) → World → Prop) (Ix : Code → World → Prop) (xs : List α) (W : World) : Exit → Act → World → Prop
  | .normal, _, W' => ∃ C', Rdn n₀ B C C' W W' ∧ I xs C' W'
  | .ret, _, W' => Rdn n₀ B C C W W' ∧ Ix .ret W'
  | .exit id, _, W' => Rdn n₀ B C C W W' ∧ Ix (.exit id) W'
  | .goto t, _, W' => Rdn n₀ B C C W W' ∧ Ix (.goto t) W'
  | .panic _, _, _ => False
  | .outgrown, _, _ => False
variable {P : Program} {n : Nat}
theorem wpIn_rangeFunc_cells {α : Type} {g : Operand} {ps : Array Tmp} {assign body : Code} {Q : Exit → Act → World → Prop} {a : Act} {w w0 : World} {gf n₀ : Nat} {lb : Array Value}
    {Ok : List α → α → Array Value → (Nat → Prop) → Nat → World → Prop} {All : List α → Prop}
    (hg : a.eval g = .func (.func gf) #[] lb) (eg : ∀ args w, (callFunc gf args).run P w = .ok (.enter gf args) w)
    (hseq : Gives P gf lb n₀ Ok All w0) (hb0 : Below w0.heap.size w0 w) (hn₀ : n₀ ≤ w.heap.size)
    (hps : ∀ pre x args C b W, Ok pre x args C b W → args.size = ps.size)
    (hOk : ∀ pre x args C b W k o, Ok pre x args C b W → n₀ ≤ k → k < b → Ok pre x args C b (W.putObj k o))
    (I : List α → (Nat → Prop) → World → Prop) (Ix : Code → World → Prop)
    (hI : ∀ pre C X Y, I pre C X → Other w.heap.size C X Y → I pre C Y)
    (hIx : ∀ c X Y, Ix c X → Other w.heap.size (fun _ => False) X Y → Ix c Y)
    (h0 : I [] (fun _ => False) w)
    (hround : ∀ (l : Nat) (pre : List α) (x : α) (args : Array Value) (C : Nat → Prop) (W : World), I pre C W → Ok pre x args C (w.heap.size + 2) W →
      (∀ k, C k → w.heap.size + 2 ≤ k) → w.heap.size + 2 ≤ W.heap.size →
      assign.wpIn (Fence.wide.inRound l) n P (Exit.then (fun a₁ W₁ => W₁ = W ∧ ∀ W, I pre C W → Ok pre x args C (w.heap.size + 2) W → w.heap.size + 2 ≤ W.heap.size → body.wpIn (Fence.wide.inRound l) n P (rdPost n₀ w.heap.size C I Ix (pre ++ [x]) W) a₁ W) (fun _ _ _ => False))
        { tmps := (ps.zip args).foldl (fun t (p, v) => t.setIfInBounds p v) a.tmps, defers := [] } W)
    (hdone : ∀ (xs : List α) (C : Nat → Prop) (W : World), All xs → I xs C W → W.heap[w.heap.size]? = some (.deferred (some [])) → Q .normal { a with defers := { target := .collected w.heap.size, args := #[] } :: a.defers } W)
    (hstop : ∀ (c : Code) (W : World), Ix c W → W.heap[w.heap.size]? = some (.deferred (some [])) → c.wpIn Fence.wide n P Q { a with defers := { target := .collected w.heap.size, args := #[] } :: a.defers } W) :
    (Code.rangeFunc g ps assign body).wpIn Fence.wide n P Q a w := by
  refine wpIn_rangeFunc fun fn hfn => ?_
  generalize hD : w.heap.size = D at *
  -- the record, in its states
  obtain ⟨rec, hrec⟩ : ∃ rec : LoopState → Option Code → Loop, rec = fun st pe => { state := st, pending := pe, fn, tmps := a.tmps, params := ps, assign, body, defers := D } := ⟨_, rfl⟩
  obtain ⟨V, hV⟩ : ∃ V, (w.alloc (.deferred (some []))).alloc (.loop (rec .ready none)) = V := ⟨_, rfl⟩
  have hVs : V.heap.size = D + 2 := by rw [← hV]; simp [hD]
  have hVl : V.heap[D + 1]? = some (.loop (rec .ready none)) := by
    have h := World.alloc_heap_new (w.alloc (.deferred (some []))) (.loop (rec .ready none))
    rw [World.size_alloc, hD, hV] at h
    exact h
  have hVd : V.heap[D]? = some (.deferred (some [])) := by
    have h := World.alloc_heap_new w (.deferred (some []))
    rw [hD] at h
    rw [← hV, Below.heap_alloc _ _ _ (by simp [hD])]
    exact h
  have hVb : Below w.heap.size w V := by
    rw [← hV]
    exact ((Below.refl _ w).alloc (Nat.le_refl _) _).alloc (by simp) _
  have hVo : Other D (fun _ => False) w V := Other.of_below hVb
  refine ⟨D + 1, [{ target := .collected D, args := #[] }], V, { target := .fn (.func gf) lb, args := #[.func (.yield (D + 1)) #[] #[]] }, V, gf, #[.func (.yield (D + 1)) #[] #[]] ++ lb, V, ?_, ?_, fun _ _ => trivial, ?_, fun h => by simp [Fence.wide] at h, ?_⟩
  · have h := run_enterLoop_outer (P := P) (w := w) fn a.tmps ps assign body
    rw [hD] at h
    rw [← hV, hrec]
    exact h
  · simp only [resolve, hg]
    simp [go_sem]
  · simp [invoke, go_sem, eg]
  refine callsIn_wide.2 ((hseq (D + 1) n
    (fun pre C W => I pre C W ∧ (∀ k, C k → D + 2 ≤ k) ∧ D + 2 ≤ W.heap.size ∧ W.heap[D + 1]? = some (.loop (rec .ready none)) ∧ W.heap[D]? = some (.deferred (some [])))
    (fun W => ∃ c, Ix c W ∧ D + 2 ≤ W.heap.size ∧ W.heap[D + 1]? = some (.loop (rec .done (some c))) ∧ W.heap[D]? = some (.deferred (some [])))
    V (hb0.trans (hVb.mono hb0.size)) ?_ ?_ ?_ ⟨hI _ _ _ _ h0 hVo, fun k h => h.elim, by omega, hVl, hVd⟩).mono ?_)
  · rintro pre C X Y ⟨h1, h2, h3, h4, h5⟩ ho
    exact ⟨hI _ _ _ _ h1 (ho.mono (by omega)), h2, Nat.le_trans h3 ho.size, (ho.block _ (by omega) (.inl (by omega))).trans h4, (ho.block _ (by omega) (.inl (by omega))).trans h5⟩
  · rintro X Y ⟨c, h1, h3, h4, h5⟩ ho
    exact ⟨c, hIx _ _ _ h1 (ho.mono (by omega)), Nat.le_trans h3 ho.size, (ho.block _ (by omega) (.inl (by omega))).trans h4, (ho.block _ (by omega) (.inl (by omega))).trans h5⟩
  · -- one round
    rintro pre x args C X ⟨h1, h2, h3, h4, h5⟩ hok
    rw [hVs] at hok ⊢
    have hy := run_yield (P := P) (args := args) h4 (by rw [hrec]; exact hps _ _ _ _ _ _ hok)
    rw [hrec] at hy
    refine ⟨fn, _, assign, body, hy, roundIn_of_wpIn hfn (wpIn_mono (hround (D + 1) pre x args C X h1 hok h2 h3) ?_)⟩
    intro e a₁ W₁ hq
    cases e with
    | normal =>
      obtain ⟨rfl, hb⟩ := hq
      have hc1 : ¬ C (D + 1) := fun h => by have := h2 _ h; omega
      have hc0 : ¬ C D := fun h => by have := h2 _ h; omega
      refine ⟨_, run_beginRound h4 (by rw [hrec]), ?_⟩
      have hbusy : (W₁.putObj (D + 1) (.loop { rec .ready none with state := .busy })).heap[D + 1]? = some (.loop { rec .ready none with state := .busy }) := World.putObj_heap_same (by omega)
      have hdef : (W₁.putObj (D + 1) (.loop { rec .ready none with state := .busy })).heap[D]? = some (.deferred (some [])) := (World.putObj_heap_other (by omega)).trans h5
      refine wpIn_mono (hb (W₁.putObj (D + 1) (.loop { rec .ready none with state := .busy })) (hI _ _ _ _ h1 (Other.putObj _ (by omega) hc1 _)) (hOk _ _ _ _ _ _ _ _ hok (by omega) (by omega)) (by simpa using h3)) ?_
      have fin : ∀ (jump : Option Code) (C' : Nat → Prop) (W3 : World), Rdn n₀ D C C' (W₁.putObj (D + 1) (.loop { rec .ready none with state := .busy })) W3 →
          ∃ W4, W4 = W3.putObj (D + 1) (.loop (rec (if jump.isNone then .ready else .done) jump)) ∧ (Instr.endRound (D + 1) jump).run P W3 = .ok (.bool jump.isNone) W4 ∧
          (∀ C, (¬ C (D + 1)) → Other D C W3 W4) ∧ W4.heap[D + 1]? = some (.loop (rec (if jump.isNone then .ready else .done) jump)) ∧ W4.heap[D]? = some (.deferred (some [])) ∧ D + 2 ≤ W4.heap.size ∧ Rdn n₀ (D + 2) C C' W₁ W4 := by
        intro jump C' W3 hr
        have hl3 : W3.heap[D + 1]? = some (.loop { rec .ready none with state := .busy }) := (hr.block _ (by simp; omega) (.inr ⟨by omega, hc1⟩)).trans hbusy
        have hd3 : W3.heap[D]? = some (.deferred (some [])) := (hr.block _ (by simp; omega) (.inr ⟨by omega, hc0⟩)).trans hdef
        have hs := hr.size
        rw [World.putObj_size] at hs
        have hrun := run_endRound (P := P) jump hl3
        rw [hrec] at hrun ⊢
        refine ⟨_, rfl, hrun, fun C hC => Other.putObj _ (by omega) hC _, World.putObj_heap_same (by omega), (World.putObj_heap_other (by omega)).trans hd3, by simp; omega, ⟨by simp; omega, fun k hk hkc => ?_, fun k hk => (hr.new k hk).elim .inl (fun h => .inr (by simpa using h))⟩⟩
        have hne : k ≠ D + 1 := by
          rcases hkc with h | h <;> omega
        rw [World.putObj_heap_other hne, hr.block k (by simpa using hk) (hkc.elim .inl (fun h => .inr ⟨by omega, h.2⟩)), World.putObj_heap_other hne]
      rintro e a3 W3 hp
      cases e with
      | normal =>
        obtain ⟨C', hr, hi⟩ := hp
        obtain ⟨W4, _, hrun, ho, hl, hd, hs, hr4⟩ := fin none C' W3 hr
        have hC' : ∀ k, C' k → D + 2 ≤ k := fun k hk => (hr.new k hk).elim (h2 k) (fun h => by have := h.1; simp at this; omega)
        exact ⟨_, _, hrun, .inl ⟨rfl, C', ⟨hI _ _ _ _ hi (ho C' (fun h => by have := hC' _ h; omega)), hC', hs, hl, hd⟩, hr4⟩⟩
      | ret =>
        obtain ⟨hr, hi⟩ := hp
        obtain ⟨W4, _, hrun, ho, hl, hd, hs, hr4⟩ := fin (some .ret) C W3 hr
        exact ⟨_, _, hrun, .inr ⟨rfl, ⟨.ret, hIx _ _ _ hi (ho _ (fun h => h)), hs, hl, hd⟩, hr4⟩⟩
      | exit id =>
        obtain ⟨hr, hi⟩ := hp
        obtain ⟨W4, _, hrun, ho, hl, hd, hs, hr4⟩ := fin (some (.exit id)) C W3 hr
        exact ⟨_, _, hrun, .inr ⟨rfl, ⟨.exit id, hIx _ _ _ hi (ho _ (fun h => h)), hs, hl, hd⟩, hr4⟩⟩
      | goto t =>
        obtain ⟨hr, hi⟩ := hp
        obtain ⟨W4, _, hrun, ho, hl, hd, hs, hr4⟩ := fin (some (.goto t)) C W3 hr
        exact ⟨_, _, hrun, .inr ⟨rfl, ⟨.goto t, hIx _ _ _ hi (ho _ (fun h => h)), hs, hl, hd⟩, hr4⟩⟩
      | panic ch => exact hp.elim
      | outgrown => exact hp.elim
    | exit id => exact hq.elim
    | goto t => exact hq.elim
    | ret => exact hq.elim
    | panic ch => exact hq.elim
    | outgrown => exact hq.elim
  · -- behind the iterator
    rintro e Y ⟨⟨v, rfl⟩, ⟨xs, C, hA, h1, h2, h3, h4, h5⟩ | ⟨c, h1, h3, h4, h5⟩⟩
    · have hrun := run_endLoop (P := P) h4 (by rw [hrec]; simp)
      rw [hrec] at hrun
      exact ⟨none, _, hrun, hdone xs C _ hA (hI _ _ _ _ h1 (Other.putObj _ (by omega) (fun h => by have := h2 _ h; omega) _)) ((World.putObj_heap_other (by omega)).trans h5)⟩
    · have hrun := run_endLoop (P := P) h4 (by rw [hrec]; simp)
      rw [hrec] at hrun
      exact ⟨some c, _, hrun, hstop c _ (hIx _ _ _ h1 (Other.putObj _ (by omega) (fun h => h) _)) ((World.putObj_heap_other (by omega)).trans h5)⟩
end Go.Proofs.Ytihfenkphhnbcaa
namespace Go.Proofs.Ytihfenkphhnbcaa
def rep (c : Nat) : Nat → Nat
  | 0 => 0
  | k + 1 => c + 256 * rep c k
def f1 (b : Nat) : Nat := (b / 2 &&& 85) + (b &&& 85)
def f2 (b : Nat) : Nat := (b / 4 &&& 51) + (b &&& 51)
def f3 (b : Nat) : Nat := b / 16 + b % 16
def ocnt (s : OSet) : Nat → Nat
  | 0 => 0
  | k + 1 => ocnt s k + (ohas s k).toNat
def olen (s : OSet) : Nat := ocnt s 256
end Go.Proofs.Ytihfenkphhnbcaa
namespace Go.Proofs.Ytihfenkphhnbcaa
open Go.RowKit
theorem setCell_drewN (w : World) (n : Nat) (a : Addr) (u : Value) : (w.drewN n).setCell a u = (w.setCell a u).drewN n := rfl
theorem wrap_pow (x : Int) (_h0 : 0 ≤ x) : IntKind.u64.wrap (2 ^ (x % 64).toNat) = 2 ^ (x % 64).toNat := by
  have h1 : (x % 64).toNat < 64 := by omega
  have h2 : (2 : Int) ^ (x % 64).toNat < 2 ^ 64 := Int.pow_lt_pow_of_lt (by decide) h1
  have h3 : (0 : Int) ≤ 2 ^ (x % 64).toNat := Int.le_of_lt (Int.pow_pos (by decide))
  rw [IntKind.wrap_u64]
  exact Int.emod_eq_of_lt h3 h2
theorem bits_add_wrap (s : OSet) (i : Nat) (x : Int) (h0 : 0 ≤ x) (h1 : x ≤ 255) (hi : x / 64 = i) : bits .or .u64 (ow s i) (IntKind.u64.wrap (2 ^ (x % 64).toNat)) = ow (s ||| obit x.toNat) i := by
  rw [wrap_pow x h0]
  exact bits_add_ow s i x h0 h1 hi
set_option maxHeartbeats 400000 in
theorem add_any (s : OSet) (x : Int) (h0 : 0 ≤ x) (h1 : x ≤ 255) (n p : Nat) (v : World) (hp : p = v.heap.size) :
    Calls Try.prog 31 #[.pointer (some ⟨p, 0, none⟩), .int .u8 x] ((v.alloc (.cells #[.int .u64 (ow s 0), .int .u64 (ow s 1), .int .u64 (ow s 2), .int .u64 (ow s 3)] 47)).drewN n) fun e w' => e = .returned (.tuple #[]) ∧
      (v.alloc (.cells #[.int .u64 (ow (s ||| obit x.toNat) 0), .int .u64 (ow (s ||| obit x.toNat) 1), .int .u64 (ow (s ||| obit x.toNat) 2), .int .u64 (ow (s ||| obit x.toNat) 3)] 47)).drewN (n + 1) = w' := by
  subst hp
  have hq : x / 64 = 0 ∨ x / 64 = 1 ∨ x / 64 = 2 ∨ x / 64 = 3 := by omega
  rcases hq with hq | hq | hq | hq
  all_goals
    have k := bits_add_wrap s _ x h0 h1 hq
    have p0 := Lib.hid (ow_other s 0 x h0 h1)
    have p1 := Lib.hid (ow_other s 1 x h0 h1)
    have p2 := Lib.hid (ow_other s 2 x h0 h1)
    have p3 := Lib.hid (ow_other s 3 x h0 h1)
    go_enter Try.func31, Try.ntmps31
    go_wp2
    go_region
    go_wp2
    go_end0
    refine ⟨rfl, ?_⟩
    rw [setCell_drewN, World.setCell_alloc_at _ _ _ _ _ rfl]
    first | rw [p0.out (by omega)] | skip
    first | rw [p1.out (by omega)] | skip
    first | rw [p2.out (by omega)] | skip
    first | rw [p3.out (by omega)] | skip
    rfl
end Go.Proofs.Ytihfenkphhnbcaa
namespace Go.Proofs.Ytihfenkphhnbcaa
open Go.RowKit
set_option maxHeartbeats 1000000 in
theorem of_any (zs : List Int) (b o cap : Nat) (w : World) (hb : b < w.heap.size) (hm : zs.length ≤ maxLen)
    (hc : ∀ i, i < zs.length → w.cell? ⟨b, o + i, none⟩ = some (.int .u8 (zs.getD i 0))) (hr : ∀ i, 0 ≤ zs.getD i 0 ∧ zs.getD i 0 ≤ 255) :
    Calls Try.prog 15 #[.slice (some ⟨b, o, none⟩) zs.length cap] w fun e w' => e = .returned (.agg #[.int .u64 (ow (ofl zs) 0), .int .u64 (ow (ofl zs) 1), .int .u64 (ow (ofl zs) 2), .int .u64 (ow (ofl zs) 3)]) ∧ Below w.heap.size w w' := by
  unfold maxLen at hm
  have Hc := Lib.hid hc
  clear hc
  have Hr := Lib.hid hr
  clear hr
  go_enter Try.func15, Try.ntmps15
  go_wp2
  go_loopw [8] (fun i wr => ∃ k n : Nat, k ≤ zs.length ∧ i = .int .i64 k ∧ wr = ((w.alloc (.cells #[.int .u64 0, .int .u64 0, .int .u64 0, .int .u64 0] 47)).alloc (.cells #[.int .u64 (ow (ofl (zs.take k)) 0), .int .u64 (ow (ofl (zs.take k)) 1), .int .u64 (ow (ofl (zs.take k)) 2), .int .u64 (ow (ofl (zs.take k)) 3)] 47)).drewN n) (fun i _ => zs.length - (intOf i).toNat)
  case atStart => exact ⟨0, 0, Nat.zero_le _, rfl, by rw [World.drewN_zero, List.take_zero, ofl_nil, ow_zero, ow_zero, ow_zero, ow_zero]⟩
  case round =>
    obtain ⟨k, n, hk, rfl, rfl⟩ := hrel
    by_cases hlt : k < zs.length
    · have hcell := Hc.out k hlt
      have hrk := Hr.out k
      have hsn0 := ofl_snoc zs k hlt
      generalize zs.getD k 0 = z at hcell hrk hsn0
      have hsn := Lib.hid hsn0
      clear hsn0
      go_wp2_with (go_at_call 31; refine (add_any _ _ hrk.1 hrk.2 _ _ _ (by simp)).mono ?_; rintro e w' ⟨rfl, rfl⟩)
      go_roundw
      case rel => exact ⟨k + 1, n + 1, by omega, by go_num, by rw [hsn.out]⟩
      case measure => simp [intOf]; omega
    · go_wp2
      have hkz := Lib.hid (show zs.take k = zs from List.take_of_length_le (by omega))
      refine bodyPost_ret (v := .agg #[.int .u64 (ow (ofl (zs.take k)) 0), .int .u64 (ow (ofl (zs.take k)) 1), .int .u64 (ow (ofl (zs.take k)) 2), .int .u64 (ow (ofl (zs.take k)) 3)]) (by simp [results, Try.results15, go_sem]) rfl ⟨by rw [hkz.out], ?_⟩
      repeat (first | exact Below.refl _ _ | refine Below.drew ?_ | refine below_drewN ?_ _ | refine Below.setCell ?_ (by simp <;> omega) _ | refine Below.alloc ?_ (by simp <;> omega) _)
end Go.Proofs.Ytihfenkphhnbcaa
namespace Go.Proofs.Ytihfenkphhnbcaa
open Go.RowKit
def cLower : OSet := oSpan 97 122
def cUpper : OSet := oSpan 65 90
def cDigit : OSet := oSpan 48 57
def cGraph : OSet := oSpan 33 126
def cAlpha : OSet := cLower ||| cUpper
def cAlnum : OSet := cAlpha ||| cDigit
def cBlank : OSet := ofl [32, 9]
def cXdigit : OSet := cDigit ||| oSpan 65 70 ||| oSpan 97 102
def cSpace : OSet := cBlank ||| oSpan 10 13
def cCntrl : OSet := oSpan 0 31 ||| ofl [127]
def cPrint : OSet := oSpan 32 126
def cPunct : OSet := cGraph &&& ~~~cAlnum
def clsSet (l : List UInt8) : OSet :=
  bif l == [108, 111, 119, 101, 114] then cLower else bif l == [117, 112, 112, 101, 114] then cUpper else bif l == [97, 108, 112, 104, 97] then cAlpha
  else bif l == [100, 105, 103, 105, 116] then cDigit else bif l == [97, 108, 110, 117, 109] then cAlnum else bif l == [120, 100, 105, 103, 105, 116] then cXdigit
  else bif l == [98, 108, 97, 110, 107] then cBlank else bif l == [115, 112, 97, 99, 101] then cSpace else bif l == [99, 110, 116, 114, 108] then cCntrl
  else bif l == [112, 114, 105, 110, 116] then cPrint else bif l == [103, 114, 97, 112, 104] then cGraph else bif l == [112, 117, 110, 99, 116] then cPunct else oz
end Go.Proofs.Ytihfenkphhnbcaa
namespace Go.Proofs.Ytihfenkphhnbcaa
def lst (s : OSet) : Nat := match sps s with
  | [] => 0
  | p :: _ => p.1
end Go.Proofs.Ytihfenkphhnbcaa
namespace Go.Proofs.Ytihfenkphhnbcaa
end Go.Proofs.Ytihfenkphhnbcaa
namespace Go.Proofs.Ytihfenkphhnbcaa
end Go.Proofs.Ytihfenkphhnbcaa
namespace Go.Proofs.Ytihfenkphhnbcaa
end Go.Proofs.Ytihfenkphhnbcaa
namespace Go.Proofs.Ytihfenkphhnbcaa
end Go.Proofs.Ytihfenkphhnbcaa
namespace Go.Proofs.Ytihfenkphhnbcaa
end Go.Proofs.Ytihfenkphhnbcaa
namespace Go.Proofs.Ytihfenkphhnbcaa
def punctSet : OSet := clsSet [112, 117, 110, 99, 116]
end Go.Proofs.Ytihfenkphhnbcaa
namespace Go.Proofs.Ytihfenkphhnbcaa
end Go.Proofs.Ytihfenkphhnbcaa
namespace Go.Proofs.Ytihfenkphhnbcaa
end Go.Proofs.Ytihfenkphhnbcaa
namespace Go.Proofs.Ytihfenkphhnbcaa
end Go.Proofs.Ytihfenkphhnbcaa
namespace Go.Proofs.Ytihfenkphhnbcaa
end Go.Proofs.Ytihfenkphhnbcaa
namespace Go.Proofs.Ytihfenkphhnbcaa
end Go.Proofs.Ytihfenkphhnbcaa
namespace Go.Proofs.Ytihfenkphhnbcaa
end Go.Proofs.Ytihfenkphhnbcaa
namespace Go.Proofs.Ytihfenkphhnbcaa
def dec (n : Nat) : List UInt8 := if n < 10 then [UInt8.ofNat (48 + n)] else dec (n / 10) ++ dec (n % 10)
end Go.Proofs.Ytihfenkphhnbcaa
namespace Go.Proofs.Ytihfenkphhnbcaa
end Go.Proofs.Ytihfenkphhnbcaa
namespace Go.Proofs.Ytihfenkphhnbcaa
def endT (c : Nat) : List UInt8 := if ohas punctSet c then [91, 46, UInt8.ofNat c, 46, 93] else [UInt8.ofNat c]
def spT (p : Nat × Nat) : List UInt8 := endT p.1 ++ if p.1 < p.2 then 45 :: endT p.2 else []
def byT (c : Nat) : List UInt8 := if c = 10 then [92, 110] else if ohas punctSet c then [92, UInt8.ofNat c] else [UInt8.ofNat c]
def lineB (s : OSet) : Bool := ohas s 10 && !(ohas s 9 && ohas s 11)
def othT (s : OSet) : Bool := if 1 ≤ olen s ∧ olen s ≤ 128 then lineB s else !lineB (~~~s)
def brT (neg : Bool) (s : OSet) : List UInt8 := 91 :: ((if neg then [94] else []) ++ (sps s).flatMap spT ++ [93])
def setT (s : OSet) : List UInt8 := if olen s = 256 then [46] else if olen s = 1 then byT (lst s) else if othT s then brT true (~~~s) else brT false s
end Go.Proofs.Ytihfenkphhnbcaa
namespace Go.Proofs.Ytihfenkphhnbcaa
def timesT (mn mx : Int) : List UInt8 :=
  if mn = 0 ∧ mx = -1 then [42] else if mn = 1 ∧ mx = -1 then [43] else if mn = 0 ∧ mx = 1 then [63]
  else 123 :: (dec mn.toNat ++ ((if mn = mx then [] else if mx = -1 then [44] else 44 :: dec mx.toNat) ++ [125]))
end Go.Proofs.Ytihfenkphhnbcaa
namespace Go.Proofs.Ytihfenkphhnbcaa
end Go.Proofs.Ytihfenkphhnbcaa
namespace Go.Proofs.Ytihfenkphhnbcaa
end Go.Proofs.Ytihfenkphhnbcaa
namespace Go.Proofs.Ytihfenkphhnbcaa
abbrev Pend := List UInt8 × Option Nd
def inTurn (b : List UInt8) : List Nd → List Pend
  | [] => []
  | d :: ds => (ds.map fun e => (b, some e)).reverse ++ [([], some d)]
def more : Nd → List UInt8 × List Pend
  | .empty => ([], [])
  | .one s => (setT s, [])
  | .cat l => ([], inTurn [] l)
  | .alt l => ([], inTurn [124] l)
  | .rep d mn mx => ([], [(timesT mn mx, none), ([], some d)])
  | .group _ d => ([], [([41], none), ([40], some d)])
  | .back n => (92 :: dec n.toNat, [])
  | .start => ([94], [])
  | .fin => ([36], [])
end Go.Proofs.Ytihfenkphhnbcaa
namespace Go.Proofs.Ytihfenkphhnbcaa
mutual
/-- The numbers in a tree are small. -/
def numOk : Nd → Bool
  | .back n => decide (1 ≤ n) && decide (n ≤ 1000000)
  | .rep d mn mx => okRep mn mx && numOk d
  | .group _ d => numOk d
  | .cat l => numOks l
  | .alt l => numOks l
  | .empty => true
  | .one _ => true
  | .start => true
  | .fin => true
def numOks : List Nd → Bool
  | [] => true
  | d :: ds => numOk d && numOks ds
end
mutual
theorem right_num (d : Nd) (o : Int) (c : List Int) (x : Int × List Int) (h : nright d o c = some x) (ho : 0 ≤ o) (hc : ∀ n ∈ c, 1 ≤ n ∧ n ≤ o) (hs : o + nsize d ≤ 1000000) : numOk d = true ∧ o ≤ x.1 ∧ x.1 ≤ o + nsize d ∧ ∀ n ∈ x.2, 1 ≤ n ∧ n ≤ x.1 := by
  cases d with
  | empty => unfold nright at h; injection h with h; subst h; exact ⟨rfl, Int.le_refl _, by simp; omega, hc⟩
  | one t => unfold nright at h; injection h with h; subst h; exact ⟨rfl, Int.le_refl _, by simp; omega, hc⟩
  | start => unfold nright at h; injection h with h; subst h; exact ⟨rfl, Int.le_refl _, by simp; omega, hc⟩
  | fin => unfold nright at h; injection h with h; subst h; exact ⟨rfl, Int.le_refl _, by simp; omega, hc⟩
  | back n =>
    unfold nright at h
    split at h
    · rename_i hn
      injection h with h
      subst h
      have := hc n (by simpa using hn)
      refine ⟨?_, Int.le_refl _, by simp; omega, hc⟩
      unfold numOk
      rw [decide_eq_true this.1, decide_eq_true (by omega)]
      rfl
    · cases h
  | cat l =>
    unfold nright at h
    rw [nsize] at hs ⊢
    split at h
    · obtain ⟨h1, h2, h3, h4⟩ := right_nums l o c x h ho hc (by push_cast at hs; omega)
      exact ⟨by rw [numOk]; exact h1, h2, by push_cast; omega, h4⟩
    · cases h
  | alt l =>
    unfold nright at h
    rw [nsize] at hs ⊢
    split at h
    · obtain ⟨h1, h2, h3, h4⟩ := right_nums l o c x h ho hc (by push_cast at hs; omega)
      exact ⟨by rw [numOk]; exact h1, h2, by push_cast; omega, h4⟩
    · cases h
  | rep d mn mx =>
    unfold nright at h
    rw [nsize] at hs ⊢
    split at h
    · rename_i hk
      rw [Bool.and_eq_true] at hk
      obtain ⟨h1, h2, h3, h4⟩ := right_num d o c x h ho hc (by push_cast at hs; omega)
      exact ⟨by rw [numOk, hk.1, h1]; rfl, h2, by push_cast; omega, h4⟩
    · cases h
  | group n d =>
    unfold nright at h
    rw [nsize] at hs ⊢
    split at h
    · rename_i hn
      obtain ⟨r, hr, hx⟩ := Option.map_eq_some_iff.1 h
      subst hx
      obtain ⟨h1, h2, h3, h4⟩ := right_num d (o + 1) c r hr (by omega) (fun m hm => by have := hc m hm; omega) (by push_cast at hs; omega)
      refine ⟨by rw [numOk]; exact h1, by simp only; omega, by simp only; push_cast; omega, ?_⟩
      intro m hm
      rcases List.mem_append.1 hm with hm | hm
      · exact h4 m hm
      · obtain rfl : m = n := by simpa using hm
        simp only
        omega
    · cases h
theorem right_nums (l : List Nd) (o : Int) (c : List Int) (x : Int × List Int) (h : nrights l o c = some x) (ho : 0 ≤ o) (hc : ∀ n ∈ c, 1 ≤ n ∧ n ≤ o) (hs : o + nsizes l ≤ 1000000) : numOks l = true ∧ o ≤ x.1 ∧ x.1 ≤ o + nsizes l ∧ ∀ n ∈ x.2, 1 ≤ n ∧ n ≤ x.1 := by
  cases l with
  | nil => unfold nrights at h; injection h with h; subst h; exact ⟨rfl, Int.le_refl _, by simp; omega, hc⟩
  | cons d ds =>
    unfold nrights at h
    rw [nsizes] at hs ⊢
    split at h
    · cases h
    · rename_i y hy
      obtain ⟨h1, h2, h3, h4⟩ := right_num d o c y hy ho hc (by push_cast at hs; omega)
      obtain ⟨k1, k2, k3, k4⟩ := right_nums ds y.1 y.2 x h (by omega) h4 (by push_cast at hs; omega)
      exact ⟨by rw [numOks, h1, k1]; rfl, by omega, by push_cast; omega, k4⟩
end
end Go.Proofs.Ytihfenkphhnbcaa
namespace Go.Proofs.Ytihfenkphhnbcaa
set_option linter.unusedVariables false
mutual
/-- A node that may be laid: its Reps, its Alts, its numbers are as a right tree's. -/
def cok : Nd → Bool
  | .alt l => decide (2 ≤ l.length) && coks l
  | .cat l => coks l
  | .rep d mn mx => okRep mn mx && (inRep d && cok d)
  | .group n d => decide (1 ≤ n) && decide (n ≤ 1000000) && cok d
  | .back n => decide (1 ≤ n) && decide (n ≤ 1000000)
  | .empty => true
  | .one _ => true
  | .start => true
  | .fin => true
def coks : List Nd → Bool
  | [] => true
  | d :: ds => cok d && coks ds
end
mutual
theorem right_cok (d : Nd) (o : Int) (c : List Int) (x : Int × List Int) (h : nright d o c = some x) (ho : 0 ≤ o) (hc : ∀ n ∈ c, 1 ≤ n ∧ n ≤ o) (hs : o + nsize d ≤ 1000000) : cok d = true := by
  cases d with
  | empty => rfl
  | one t => rfl
  | start => rfl
  | fin => rfl
  | back n =>
    have := (right_num (.back n) o c x h ho hc hs).1
    rw [cok]; rwa [numOk] at this
  | cat l =>
    unfold nright at h
    rw [nsize] at hs
    split at h
    · rw [cok]; exact right_coks l o c x h ho hc (by push_cast at hs; omega)
    · cases h
  | alt l =>
    unfold nright at h
    rw [nsize] at hs
    split at h
    · rename_i hk
      rw [Bool.and_eq_true] at hk
      rw [cok, hk.1, right_coks l o c x h ho hc (by push_cast at hs; omega)]; rfl
    · cases h
  | rep d mn mx =>
    unfold nright at h
    rw [nsize] at hs
    split at h
    · rename_i hk
      rw [Bool.and_eq_true] at hk
      rw [cok, hk.1, hk.2, right_cok d o c x h ho hc (by push_cast at hs; omega)]; rfl
    · cases h
  | group n d =>
    unfold nright at h
    rw [nsize] at hs
    split at h
    · rename_i hn
      obtain ⟨r, hr, hx⟩ := Option.map_eq_some_iff.1 h
      push_cast at hs
      rw [cok, right_cok d (o + 1) c r hr (by omega) (fun m hm => by have := hc m hm; omega) (by omega), decide_eq_true (by omega : 1 ≤ n), decide_eq_true (by omega : n ≤ 1000000)]; rfl
    · cases h
theorem right_coks (l : List Nd) (o : Int) (c : List Int) (x : Int × List Int) (h : nrights l o c = some x) (ho : 0 ≤ o) (hc : ∀ n ∈ c, 1 ≤ n ∧ n ≤ o) (hs : o + nsizes l ≤ 1000000) : coks l = true := by
  cases l with
  | nil => rfl
  | cons d ds =>
    unfold nrights at h
    rw [nsizes] at hs
    split at h
    · cases h
    · rename_i y hy
      have h1 := right_cok d o c y hy ho hc (by push_cast at hs; omega)
      obtain ⟨_, h2, h3, h4⟩ := right_num d o c y hy ho hc (by push_cast at hs; omega)
      have k1 := right_coks ds y.1 y.2 x h (by omega) h4 (by push_cast at hs; omega)
      rw [coks, h1, k1]; rfl
end
theorem brs_le : ∀ (ds : List Nd) (js : List Nat) (l : List Inn) (k : Nat), l.length ≤ (brs ds js l k).1.length
  | [], js, l, k => Nat.le_refl _
  | d :: ds, js, l, k => by
    rw [brs]
    split
    · simp [patch_len]
    · refine Nat.le_trans ?_ (brs_le ds _ _ _)
      simp [upd_len]
theorem rept_le (mn mx : Int) (P z k q : Nat) (l : List Inn) (k1 : Nat) : l.length ≤ (repT mn mx P z k q l k1).1.length := by
  unfold repT
  by_cases h : mn = 0
  · rw [if_pos h]
    simp only [List.length_append]
    refine Nat.le_trans ?_ (Nat.le_add_right _ _)
    refine Nat.le_trans ?_ (agroundsT_le ..)
    simp [upd_len]
  · rw [if_neg h]
    simp only [List.length_append]
    refine Nat.le_trans ?_ (Nat.le_add_right _ _)
    exact Nat.le_trans (againsT_le ..) (agroundsT_le ..)
theorem den_le (t : CTk) (s : List Inn × Nat) : s.1.length ≤ (den t s).1.length := by
  obtain ⟨l, k⟩ := s
  cases t with
  | lay d => simp [den]
  | save n => simp [den]
  | turn ds => simp [den]
  | branch s ds js => rw [den]; exact Nat.le_trans (by simp [upd_len]) (brs_le ..)
  | jumps js => simp [den, patch_len]
  | rep mn mx P q => rw [den]; exact rept_le ..
theorem dens_le : ∀ (ts : List CTk) (s : List Inn × Nat), s.1.length ≤ (dens ts s).1.length
  | [], s => Nat.le_refl _
  | t :: ts, s => Nat.le_trans (den_le t s) (dens_le ts _)
theorem dens_eqv (ts : List CTk) {a b : List Inn × Nat} (h : Eqv a b) : Eqv (dens ts a) (dens ts b) := by
  rcases h with rfl | ⟨h, h'⟩
  · exact .refl _
  · exact .inr ⟨Nat.lt_of_lt_of_le h (dens_le ..), Nat.lt_of_lt_of_le h' (dens_le ..)⟩
theorem run_step (t : CTk) (todo : List CTk) (l : List Inn) (k : Nat) (T : List Inn × Nat) (h : Eqv (dens (t :: todo) (l, k)) T) (hr : ∀ d mn mx, t = .lay (.rep d mn mx) → repOk mn mx) (ha : ∀ ds, t = .lay (.alt ds) → ds ≠ []) :
    Eqv (dens ((stp t l k).2 ++ todo) (stp t l k).1) T := by
  rw [dens_app]
  exact (dens_eqv todo (stp_den t l k hr ha)).trans h
theorem run_end (todo : List CTk) (s : List Inn × Nat) (T : List Inn × Nat) (h : Eqv (dens todo s) T) (he : todo = [] ∨ 3000 < s.1.length) : Eqv s T := by
  rcases he with rfl | he
  · exact h
  · rcases h with rfl | ⟨_, h⟩
    · exact .inr ⟨he, Nat.lt_of_lt_of_le he (dens_le ..)⟩
    · exact .inr ⟨he, h⟩
def tkw : CTk → Nat
  | .lay d => 3 * nsize d - 1
  | .save _ => 1
  | .turn ds => 3 * nsizes ds + 1
  | .branch _ ds _ => 3 * nsizes ds + 1
  | .jumps _ => 1
  | .rep _ _ _ _ => 1
def tkws : List CTk → Nat
  | [] => 0
  | t :: ts => tkw t + tkws ts
theorem tkws_app : ∀ a b : List CTk, tkws (a ++ b) = tkws a + tkws b
  | [], b => by simp [tkws]
  | t :: a, b => by rw [List.cons_append, tkws, tkws, tkws_app a b]; omega
theorem nsize_one : ∀ d : Nd, 1 ≤ nsize d := fun d => by cases d <;> simp [nsize]
theorem inturn_w (ds : List Nd) : tkws (coTurn ds) ≤ 3 * nsizes ds := by
  cases ds with
  | nil => simp [coTurn, tkws]
  | cons d ds => have := nsize_one d; simp only [coTurn, tkws, tkw, nsizes]; omega
theorem brst_w (ds : List Nd) (js : List Nat) (l : List Inn) : tkws (brSt ds js l).2 ≤ 3 * nsizes ds := by
  cases ds with
  | nil => simp [brSt, tkws]
  | cons d ds =>
    have := nsize_one d
    rw [brSt]
    split <;> simp only [tkws, tkw, nsizes] <;> omega
theorem stp_w (t : CTk) (l : List Inn) (k : Nat) : tkws (stp t l k).2 < tkw t := by
  cases t with
  | save n => simp [stp, tkws, tkw]
  | turn ds => have := inturn_w ds; rw [stp, tkw]; simp only; omega
  | branch s ds js => have := brst_w ds (js ++ [l.length]) (upd (l ++ [ins 2 0 0]) s fun i => { i with y := (l.length + 1 : Nat) }); rw [stp, tkw]; simp only; omega
  | jumps js => simp [stp, tkws, tkw]
  | rep mn mx P q => simp [stp, tkws, tkw]
  | lay d =>
    cases d with
    | cat ds => have := inturn_w ds; rw [stp, tkw, nsize]; simp only; omega
    | alt ds => have := brst_w ds [] l; rw [stp, tkw, nsize]; simp only; omega
    | group n d => have := nsize_one d; rw [stp, tkw, nsize]; simp only [tkws, tkw]; omega
    | rep d mn mx =>
      have := nsize_one d
      rw [stp, tkw, nsize]
      split
      · simp only [tkws]; omega
      · split <;> simp only [tkws, tkw] <;> omega
    | _ => simp [stp, tkws, tkw, nsize]
end Go.Proofs.Ytihfenkphhnbcaa
