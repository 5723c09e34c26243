/- RfB: A range over a function, where what the round leaves as it was is told block by block.
   ShBk: slices.Backward of a row of nodes: what its iterator gives.
   ShTn: Package show, walked: what is pending, in memory; inTurn. -/
import Derived.Test.YtjjhkagpoicimaaNdWg
import Derived.Test.YtjjhkagpoicimaaShMa
import Derived.Test.YtjjhkagpoicimaaNdRight
namespace Go.Proofs.Ytjjhkagpoicimaa
open Go Go.RowKit

/-- A round: the blocks N, and what lies from B on but the blocks C, lie as they lay; C may grow by new blocks. -/
structure RdN (N : Nat → Prop) (B : Nat) (C C' : Nat → Prop) (W W' : World) : Prop where
  size : W.heap.size ≤ W'.heap.size
  block : ∀ k, k < W.heap.size → (N k ∨ (B ≤ k ∧ ¬ C k)) → W'.heap[k]? = W.heap[k]?
  new : ∀ k, C' k → C k ∨ (W.heap.size ≤ k ∧ k < W'.heap.size)
/-- What a round is handed, and what it must leave; what the iterator answers. -/
def GivesN {α : Type} (P : Program) (g : Nat) (lb : Array Value) (N : Nat → Prop) (Ok : List α → α → Array Value → (Nat → Prop) → Nat → World → Prop) (All : List α → Prop) (w : World) : Prop :=
  ∀ (l m : Nat) (J : List α → (Nat → Prop) → World → Prop) (Jx : World → Prop) (W : World), Below w.heap.size w W →
    (∀ pre C X Y, J pre C X → Other W.heap.size C X Y → J pre C Y) →
    (∀ X Y, Jx X → Other W.heap.size (fun _ => False) X Y → Jx Y) →
    (∀ pre x args C X, J pre C X → Ok pre x args C W.heap.size X → YieldAt Fence.wide m P l args X fun e Y =>
      (e = .returned (.bool true) ∧ ∃ C', J (pre ++ [x]) C' Y ∧ RdN N W.heap.size C C' X Y) ∨ (e = .returned (.bool false) ∧ Jx Y ∧ RdN N W.heap.size C C X Y)) →
    J [] (fun _ => False) W →
    Calls P g (#[.func (.yield l) #[] #[]] ++ lb) W fun e Y => (∃ v, e = .returned v) ∧ ((∃ xs C, All xs ∧ J xs C Y) ∨ Jx Y)

/-- How a round's body may be left. -/
def rdPostN {α : Type} (N : Nat → Prop) (B : Nat) (C : Nat → Prop) (I : List α → (Nat → Prop) → World → Prop) (Ix : Code → World → Prop) (xs : List α) (W : World) : Exit → Act → World → Prop
  | .normal, _, W' => ∃ C', RdN N B C C' W W' ∧ I xs C' W'
  | .ret, _, W' => RdN N B C C W W' ∧ Ix .ret W'
  | .exit id, _, W' => RdN N B C C W W' ∧ Ix (.exit id) W'
  | .goto t, _, W' => RdN N B C C W W' ∧ Ix (.goto t) W'
  | .panic _, _, _ => False
  | .outgrown, _, _ => False

variable {P : Program} {n : Nat}
theorem wpIn_rangeFunc_N {α : Type} {g : Operand} {ps : Array Tmp} {assign body : Code} {Q : Exit → Act → World → Prop} {a : Act} {w w0 : World} {gf : Nat} {N : Nat → Prop} {lb : Array Value}
    {Ok : List α → α → Array Value → (Nat → Prop) → Nat → World → Prop} {All : List α → Prop}
    (hg : a.eval g = .func (.func gf) #[] lb) (eg : ∀ args w, (callFunc gf args).run P w = .ok (.enter gf args) w)
    (hseq : GivesN P gf lb N Ok All w0) (hb0 : Below w0.heap.size w0 w) (hn₀ : ∀ k, N k → k < w.heap.size)
    (hps : ∀ pre x args C b W, Ok pre x args C b W → args.size = ps.size)
    (hOk : ∀ pre x args C b W k o, Ok pre x args C b W → ¬ N k → k < b → Ok pre x args C b (W.putObj k o))
    (I : List α → (Nat → Prop) → World → Prop) (Ix : Code → World → Prop)
    (hI : ∀ pre C X Y, I pre C X → Other w.heap.size C X Y → I pre C Y)
    (hIx : ∀ c X Y, Ix c X → Other w.heap.size (fun _ => False) X Y → Ix c Y)
    (h0 : I [] (fun _ => False) w)
    (hround : ∀ (l : Nat) (pre : List α) (x : α) (args : Array Value) (C : Nat → Prop) (W : World), I pre C W → Ok pre x args C (w.heap.size + 2) W →
      (∀ k, C k → w.heap.size + 2 ≤ k) → w.heap.size + 2 ≤ W.heap.size →
      assign.wpIn (Fence.wide.inRound l) n P (Exit.then (fun a₁ W₁ => W₁ = W ∧ ∀ W, I pre C W → Ok pre x args C (w.heap.size + 2) W → w.heap.size + 2 ≤ W.heap.size → body.wpIn (Fence.wide.inRound l) n P (rdPostN N w.heap.size C I Ix (pre ++ [x]) W) a₁ W) (fun _ _ _ => False))
        { tmps := (ps.zip args).foldl (fun t (p, v) => t.setIfInBounds p v) a.tmps, defers := [] } W)
    (hdone : ∀ (xs : List α) (C : Nat → Prop) (W : World), All xs → I xs C W → W.heap[w.heap.size]? = some (.deferred (some [])) → Q .normal { a with defers := { target := .collected w.heap.size, args := #[] } :: a.defers } W)
    (hstop : ∀ (c : Code) (W : World), Ix c W → W.heap[w.heap.size]? = some (.deferred (some [])) → c.wpIn Fence.wide n P Q { a with defers := { target := .collected w.heap.size, args := #[] } :: a.defers } W) :
    (Code.rangeFunc g ps assign body).wpIn Fence.wide n P Q a w := by
  refine wpIn_rangeFunc fun fn hfn => ?_
  generalize hD : w.heap.size = D at *
  -- the record, in its states
  obtain ⟨rec, hrec⟩ : ∃ rec : LoopState → Option Code → Loop, rec = fun st pe => { state := st, pending := pe, fn, tmps := a.tmps, params := ps, assign, body, defers := D } := ⟨_, rfl⟩
  obtain ⟨V, hV⟩ : ∃ V, (w.alloc (.deferred (some []))).alloc (.loop (rec .ready none)) = V := ⟨_, rfl⟩
  have hVs : V.heap.size = D + 2 := by rw [← hV]; simp [hD]
  have hVl : V.heap[D + 1]? = some (.loop (rec .ready none)) := by
    have h := World.alloc_heap_new (w.alloc (.deferred (some []))) (.loop (rec .ready none))
    rw [World.size_alloc, hD, hV] at h
    exact h
  have hVd : V.heap[D]? = some (.deferred (some [])) := by
    have h := World.alloc_heap_new w (.deferred (some []))
    rw [hD] at h
    rw [← hV, Below.heap_alloc _ _ _ (by simp [hD])]
    exact h
  have hVb : Below w.heap.size w V := by
    rw [← hV]
    exact ((Below.refl _ w).alloc (Nat.le_refl _) _).alloc (by simp) _
  have hVo : Other D (fun _ => False) w V := Other.of_below hVb
  refine ⟨D + 1, [{ target := .collected D, args := #[] }], V, { target := .fn (.func gf) lb, args := #[.func (.yield (D + 1)) #[] #[]] }, V, gf, #[.func (.yield (D + 1)) #[] #[]] ++ lb, V, ?_, ?_, fun _ _ => trivial, ?_, fun h => by simp [Fence.wide] at h, ?_⟩
  · have h := run_enterLoop_outer (P := P) (w := w) fn a.tmps ps assign body
    rw [hD] at h
    rw [← hV, hrec]
    exact h
  · simp only [resolve, hg]
    simp [go_sem]
  · simp [invoke, go_sem, eg]
  refine callsIn_wide.2 ((hseq (D + 1) n
    (fun pre C W => I pre C W ∧ (∀ k, C k → D + 2 ≤ k) ∧ D + 2 ≤ W.heap.size ∧ W.heap[D + 1]? = some (.loop (rec .ready none)) ∧ W.heap[D]? = some (.deferred (some [])))
    (fun W => ∃ c, Ix c W ∧ D + 2 ≤ W.heap.size ∧ W.heap[D + 1]? = some (.loop (rec .done (some c))) ∧ W.heap[D]? = some (.deferred (some [])))
    V (hb0.trans (hVb.mono hb0.size)) ?_ ?_ ?_ ⟨hI _ _ _ _ h0 hVo, fun k h => h.elim, by omega, hVl, hVd⟩).mono ?_)
  · rintro pre C X Y ⟨h1, h2, h3, h4, h5⟩ ho
    exact ⟨hI _ _ _ _ h1 (ho.mono (by omega)), h2, Nat.le_trans h3 ho.size, (ho.block _ (by omega) (.inl (by omega))).trans h4, (ho.block _ (by omega) (.inl (by omega))).trans h5⟩
  · rintro X Y ⟨c, h1, h3, h4, h5⟩ ho
    exact ⟨c, hIx _ _ _ h1 (ho.mono (by omega)), Nat.le_trans h3 ho.size, (ho.block _ (by omega) (.inl (by omega))).trans h4, (ho.block _ (by omega) (.inl (by omega))).trans h5⟩
  · -- one round
    rintro pre x args C X ⟨h1, h2, h3, h4, h5⟩ hok
    rw [hVs] at hok ⊢
    have hy := run_yield (P := P) (args := args) h4 (by rw [hrec]; exact hps _ _ _ _ _ _ hok)
    rw [hrec] at hy
    refine ⟨fn, _, assign, body, hy, roundIn_of_wpIn hfn (wpIn_mono (hround (D + 1) pre x args C X h1 hok h2 h3) ?_)⟩
    intro e a₁ W₁ hq
    cases e with
    | normal =>
      obtain ⟨rfl, hb⟩ := hq
      have hc1 : ¬ C (D + 1) := fun h => by have := h2 _ h; omega
      have hc0 : ¬ C D := fun h => by have := h2 _ h; omega
      refine ⟨_, run_beginRound h4 (by rw [hrec]), ?_⟩
      have hbusy : (W₁.putObj (D + 1) (.loop { rec .ready none with state := .busy })).heap[D + 1]? = some (.loop { rec .ready none with state := .busy }) := World.putObj_heap_same (by omega)
      have hdef : (W₁.putObj (D + 1) (.loop { rec .ready none with state := .busy })).heap[D]? = some (.deferred (some [])) := (World.putObj_heap_other (by omega)).trans h5
      refine wpIn_mono (hb (W₁.putObj (D + 1) (.loop { rec .ready none with state := .busy })) (hI _ _ _ _ h1 (Other.putObj _ (by omega) hc1 _)) (hOk _ _ _ _ _ _ _ _ hok (fun h => by have := hn₀ _ h; omega) (by omega)) (by simpa using h3)) ?_
      have fin : ∀ (jump : Option Code) (C' : Nat → Prop) (W3 : World), RdN N D C C' (W₁.putObj (D + 1) (.loop { rec .ready none with state := .busy })) W3 →
          ∃ W4, W4 = W3.putObj (D + 1) (.loop (rec (if jump.isNone then .ready else .done) jump)) ∧ (Instr.endRound (D + 1) jump).run P W3 = .ok (.bool jump.isNone) W4 ∧
          (∀ C, (¬ C (D + 1)) → Other D C W3 W4) ∧ W4.heap[D + 1]? = some (.loop (rec (if jump.isNone then .ready else .done) jump)) ∧ W4.heap[D]? = some (.deferred (some [])) ∧ D + 2 ≤ W4.heap.size ∧ RdN N (D + 2) C C' W₁ W4 := by
        intro jump C' W3 hr
        have hl3 : W3.heap[D + 1]? = some (.loop { rec .ready none with state := .busy }) := (hr.block _ (by simp; omega) (.inr ⟨by omega, hc1⟩)).trans hbusy
        have hd3 : W3.heap[D]? = some (.deferred (some [])) := (hr.block _ (by simp; omega) (.inr ⟨by omega, hc0⟩)).trans hdef
        have hs := hr.size
        rw [World.putObj_size] at hs
        have hrun := run_endRound (P := P) jump hl3
        rw [hrec] at hrun ⊢
        refine ⟨_, rfl, hrun, fun C hC => Other.putObj _ (by omega) hC _, World.putObj_heap_same (by omega), (World.putObj_heap_other (by omega)).trans hd3, by simp; omega, ⟨by simp; omega, fun k hk hkc => ?_, fun k hk => (hr.new k hk).elim .inl (fun h => .inr (by simpa using h))⟩⟩
        have hne : k ≠ D + 1 := by
          rcases hkc with h | h
          · have := hn₀ k h
            omega
          · omega
        rw [World.putObj_heap_other hne, hr.block k (by simpa using hk) (hkc.elim .inl (fun h => .inr ⟨by omega, h.2⟩)), World.putObj_heap_other hne]
      rintro e a3 W3 hp
      cases e with
      | normal =>
        obtain ⟨C', hr, hi⟩ := hp
        obtain ⟨W4, _, hrun, ho, hl, hd, hs, hr4⟩ := fin none C' W3 hr
        have hC' : ∀ k, C' k → D + 2 ≤ k := fun k hk => (hr.new k hk).elim (h2 k) (fun h => by have := h.1; simp at this; omega)
        exact ⟨_, _, hrun, .inl ⟨rfl, C', ⟨hI _ _ _ _ hi (ho C' (fun h => by have := hC' _ h; omega)), hC', hs, hl, hd⟩, hr4⟩⟩
      | ret =>
        obtain ⟨hr, hi⟩ := hp
        obtain ⟨W4, _, hrun, ho, hl, hd, hs, hr4⟩ := fin (some .ret) C W3 hr
        exact ⟨_, _, hrun, .inr ⟨rfl, ⟨.ret, hIx _ _ _ hi (ho _ (fun h => h)), hs, hl, hd⟩, hr4⟩⟩
      | exit id =>
        obtain ⟨hr, hi⟩ := hp
        obtain ⟨W4, _, hrun, ho, hl, hd, hs, hr4⟩ := fin (some (.exit id)) C W3 hr
        exact ⟨_, _, hrun, .inr ⟨rfl, ⟨.exit id, hIx _ _ _ hi (ho _ (fun h => h)), hs, hl, hd⟩, hr4⟩⟩
      | goto t =>
        obtain ⟨hr, hi⟩ := hp
        obtain ⟨W4, _, hrun, ho, hl, hd, hs, hr4⟩ := fin (some (.goto t)) C W3 hr
        exact ⟨_, _, hrun, .inr ⟨rfl, ⟨.goto t, hIx _ _ _ hi (ho _ (fun h => h)), hs, hl, hd⟩, hr4⟩⟩
      | panic ch => exact hp.elim
      | outgrown => exact hp.elim
    | exit id => exact hq.elim
    | goto t => exact hq.elim
    | ret => exact hq.elim
    | panic ch => exact hq.elim
    | outgrown => exact hq.elim
  · -- behind the iterator
    rintro e Y ⟨⟨v, rfl⟩, ⟨xs, C, hA, h1, h2, h3, h4, h5⟩ | ⟨c, h1, h3, h4, h5⟩⟩
    · have hrun := run_endLoop (P := P) h4 (by rw [hrec]; simp)
      rw [hrec] at hrun
      exact ⟨none, _, hrun, hdone xs C _ hA (hI _ _ _ _ h1 (Other.putObj _ (by omega) (fun h => by have := h2 _ h; omega) _)) ((World.putObj_heap_other (by omega)).trans h5)⟩
    · have hrun := run_endLoop (P := P) h4 (by rw [hrec]; simp)
      rw [hrec] at hrun
      exact ⟨some c, _, hrun, hstop c _ (hIx _ _ _ h1 (Other.putObj _ (by omega) (fun h => h) _)) ((World.putObj_heap_other (by omega)).trans h5)⟩
end Go.Proofs.Ytjjhkagpoicimaa
namespace Go.Proofs.Ytjjhkagpoicimaa
open Go Go.RowKit

attribute [local go_sem] Oper.semAt_some
end Go.Proofs.Ytjjhkagpoicimaa
namespace Go.Proofs.Ytjjhkagpoicimaa
open Go Go.RowKit

attribute [local go_sem] Oper.semAt_some
/-- A node that may be missing. -/
def NdO (F : Nat → Prop) (w : World) : Option Nd → Value → Prop
  | none, v => v = .nilIface
  | some d, v => NdX F w d v
/-- The cells of what is pending. -/
def PdRow (F : Nat → Prop) (w : World) : List Pend → List Value → Prop
  | [], us => us = []
  | p :: l, us => ∃ (S : ByteArray) (v : Value) (us' : List Value), us = .string S :: v :: us' ∧ S.data.toList = p.1 ∧ NdO F w p.2 v ∧ PdRow F w l us'
theorem NdO.keep {F G : Nat → Prop} {w w' : World} (hs : w.heap.size ≤ w'.heap.size) (hF : ∀ b, F b → b < w.heap.size → G b ∧ ∀ o, w'.cell? ⟨b, o, none⟩ = w.cell? ⟨b, o, none⟩) {d : Option Nd} {v : Value} (h : NdO F w d v) : NdO G w' d v := by
  cases d with
  | none => exact h
  | some d => exact NdX.keep hs hF h
theorem PdRow.keep {F G : Nat → Prop} {w w' : World} (hs : w.heap.size ≤ w'.heap.size) (hF : ∀ b, F b → b < w.heap.size → G b ∧ ∀ o, w'.cell? ⟨b, o, none⟩ = w.cell? ⟨b, o, none⟩) : ∀ {l : List Pend} {us : List Value}, PdRow F w l us → PdRow G w' l us
  | [], _, h => h
  | _ :: _, _, ⟨S, v, us', h1, h2, h3, h4⟩ => ⟨S, v, us', h1, h2, h3.keep hs hF, PdRow.keep hs hF h4⟩
theorem PdRow.low {B : Nat} {F : Nat → Prop} (hF : ∀ k, F k → k < B) {w w' : World} (hb : Below B w w') {l : List Pend} {us : List Value} (h : PdRow F w l us) : PdRow F w' l us :=
  h.keep hb.size (fun b hf _ => ⟨hf, fun o => hb.cell (p := ⟨b, o, none⟩) (hF b hf)⟩)
theorem PdRow.app {F : Nat → Prop} {w : World} : ∀ {l m : List Pend} {us vs : List Value}, PdRow F w l us → PdRow F w m vs → PdRow F w (l ++ m) (us ++ vs)
  | [], _, _, _, h, h2 => by obtain rfl : _ = [] := h; exact h2
  | _ :: _, _, _, _, ⟨S, v, us', h1, h2, h3, h4⟩, k => by subst h1; exact ⟨S, v, us' ++ _, rfl, h2, h3, PdRow.app h4 k⟩
theorem PdRow.len {F : Nat → Prop} {w : World} : ∀ {l : List Pend} {us : List Value}, PdRow F w l us → us.length = l.length * 2
  | [], _, h => by obtain rfl : _ = [] := h; rfl
  | _ :: l, _, ⟨S, v, us', h1, h2, h3, h4⟩ => by subst h1; rw [List.length_cons, List.length_cons, List.length_cons, PdRow.len h4]; omega
theorem PdRow.one {F : Nat → Prop} {w : World} {p : Pend} {S : ByteArray} {v : Value} (h1 : S.data.toList = p.1) (h2 : NdO F w p.2 v) : PdRow F w [p] [.string S, v] := ⟨S, v, [], rfl, h1, h2, rfl⟩
/-- What inTurn makes of a place. -/
def trP (bt : List UInt8) (ds : List Nd) (i : Nat) : Pend := (if i = 0 then [] else bt, ds[i]?)
theorem inTurn_map (bt : List UInt8) (ds : List Nd) : (List.range ds.length).reverse.map (trP bt ds) = inTurn bt ds := by
  cases ds with
  | nil => rfl
  | cons d l =>
    rw [List.length_cons, List.range_succ_eq_map, List.reverse_cons, List.map_append]
    unfold inTurn
    congr 1
    rw [← List.map_reverse, List.map_map, ← List.map_reverse]
    apply List.ext_getElem
    · simp
    · intro i h1 h2
      simp at h1 h2 ⊢
      unfold trP
      simp
end Go.Proofs.Ytjjhkagpoicimaa
