/- RfB: A range over a function, where what the round leaves as it was is told block by block.
   ShBk: slices.Backward of a row of nodes: what its iterator gives.
   ShTn: Package show, walked: what is pending, in memory; inTurn. -/
import Derived.Test.YtpmeicclngckeaaGreatDoorNdWg
import Derived.Test.YtpmeicclngckeaaGreatDoorShMa
import Derived.Test.YtpmeicclngckeaaGreatDoorNdRight
namespace Go.Proofs.YtpmeicclngckeaaGreatDoor
open Go Go.RowKit

/-- A round: the blocks N, and what lies from B on but the blocks C, lie as they lay; C may grow by new blocks. -/
structure RdN (N : Nat → Prop) (B : Nat) (C C' : Nat → Prop) (W W' : World) : Prop where
  size : W.heap.size ≤ W'.heap.size
  block : ∀ k, k < W.heap.size → (N k ∨ (B ≤ k ∧ ¬ C k)) → W'.heap[k]? = W.heap[k]?
  new : ∀ k, C' k → C k ∨ (W.heap.size ≤ k ∧ k < W'.heap.size)
/-- What a round is handed, and what it must leave; what the iterator answers. -/
def GivesN {α : Type} (P : Program) (g : Nat) (lb : Array Value) (N : Nat → Prop) (Ok : List α → α → Array Value → (Nat → Prop) → Nat → World → Prop) (All : List α → Prop) (w : World) : Prop :=
  ∀ (l m : Nat) (J : List α → (Nat → Prop) → World → Prop) (Jx : World → Prop) (W : World), Below w.heap.size w W →
    (∀ pre C X Y, J pre C X → Other W.heap.size C X Y → J pre C Y) →
    (∀ X Y, Jx X → Other W.heap.size (fun _ => False) X Y → Jx Y) →
    (∀ pre x args C X, J pre C X → Ok pre x args C W.heap.size X → YieldAt Fence.wide m P l args X fun e Y =>
      (e = .returned (.bool true) ∧ ∃ C', J (pre ++ [x]) C' Y ∧ RdN N W.heap.size C C' X Y) ∨ (e = .returned (.bool false) ∧ Jx Y ∧ RdN N W.heap.size C C X Y)) →
    J [] (fun _ => False) W →
    Calls P g (#[.func (.yield l) #[] #[]] ++ lb) W fun e Y => (∃ v, e = .returned v) ∧ ((∃ xs C, All xs ∧ J xs C Y) ∨ Jx Y)

/-- How a round's body may be left. -/
def rdPostN {α : Type} (N : Nat → Prop) (B : Nat) (C : Nat → Prop) (I : List α → (Nat → Prop) → World → Prop) (Ix : Code → World → Prop) (xs : List α) (W : World) : Exit → Act → World → Prop
  | .normal, _, W' => ∃ C', RdN N B C C' W W' ∧ I xs C' W'
  | .ret, _, W' => RdN N B C C W W' ∧ Ix .ret W'
  | .exit id, _, W' => RdN N B C C W W' ∧ Ix (.exit id) W'
  | .goto t, _, W' => RdN N B C C W W' ∧ Ix (.goto t) W'
  | .panic _, _, _ => False
  | .outgrown, _, _ => False

variable {P : Program} {n : Nat}
theorem wpIn_rangeFunc_N {α : Type} {g : Operand} {ps : Array Tmp} {assign body : Code} {Q : Exit → Act → World → Prop} {a : Act} {w w0 : World} {gf : Nat} {N : Nat → Prop} {lb : Array Value}
    {Ok : List α → α → Array Value → (Nat → Prop) → Nat → World → Prop} {All : List α → Prop}
    (hg : a.eval g = .func (.func gf) #[] lb) (eg : ∀ args w, (callFunc gf args).run P w = .ok (.enter gf args) w)
    (hseq : GivesN P gf lb N Ok All w0) (hb0 : Below w0.heap.size w0 w) (hn₀ : ∀ k, N k → k < w.heap.size)
    (hps : ∀ pre x args C b W, Ok pre x args C b W → args.size = ps.size)
    (hOk : ∀ pre x args C b W k o, Ok pre x args C b W → ¬ N k → k < b → Ok pre x args C b (W.putObj k o))
    (I : List α → (Nat → Prop) → World → Prop) (Ix : Code → World → Prop)
    (hI : ∀ pre C X Y, I pre C X → Other w.heap.size C X Y → I pre C Y)
    (hIx : ∀ c X Y, Ix c X → Other w.heap.size (fun _ => False) X Y → Ix c Y)
    (h0 : I [] (fun _ => False) w)
    (hround : ∀ (l : Nat) (pre : List α) (x : α) (args : Array Value) (C : Nat → Prop) (W : World), I pre C W → Ok pre x args C (w.heap.size + 2) W →
      (∀ k, C k → w.heap.size + 2 ≤ k) → w.heap.size + 2 ≤ W.heap.size →
      assign.wpIn (Fence.wide.inRound l) n P (Exit.then (fun a₁ W₁ => W₁ = W ∧ ∀ W, I pre C W → Ok pre x args C (w.heap.size + 2) W → w.heap.size + 2 ≤ W.heap.size → body.wpIn (Fence.wide.inRound l) n P (rdPostN N w.heap.size C I Ix (pre ++ [x]) W) a₁ W) (fun _ _ _ => False))
        { tmps := (ps.zip args).foldl (fun t (p, v) => t.setIfInBounds p v) a.tmps, defers := [] } W)
    (hdone : ∀ (xs : List α) (C : Nat → Prop) (W : World), All xs → I xs C W → W.heap[w.heap.size]? = some (.deferred (some [])) → Q .normal { a with defers := { target := .collected w.heap.size, args := #[] } :: a.defers } W)
    (hstop : ∀ (c : Code) (W : World), Ix c W → W.heap[w.heap.size]? = some (.deferred (some [])) → c.wpIn Fence.wide n P Q { a with defers := { target := .collected w.heap.size, args := #[] } :: a.defers } W) :
    (Code.rangeFunc g ps assign body).wpIn Fence.wide n P Q a w := by
  refine wpIn_rangeFunc fun fn hfn => ?_
  generalize hD : w.heap.size = D at *
  -- the record, in its states
  obtain ⟨rec, hrec⟩ : ∃ rec : LoopState → Option Code → Loop, rec = fun st pe => { state := st, pending := pe, fn, tmps := a.tmps, params := ps, assign, body, defers := D } := ⟨_, rfl⟩
  obtain ⟨V, hV⟩ : ∃ V, (w.alloc (.deferred (some []))).alloc (.loop (rec .ready none)) = V := ⟨_, rfl⟩
  have hVs : V.heap.size = D + 2 := by rw [← hV]; simp [hD]
  have hVl : V.heap[D + 1]? = some (.loop (rec .ready none)) := by
    have h := World.alloc_heap_new (w.alloc (.deferred (some []))) (.loop (rec .ready none))
    rw [World.size_alloc, hD, hV] at h
    exact h
  have hVd : V.heap[D]? = some (.deferred (some [])) := by
    have h := World.alloc_heap_new w (.deferred (some []))
    rw [hD] at h
    rw [← hV, Below.heap_alloc _ _ _ (by simp [hD])]
    exact h
  have hVb : Below w.heap.size w V := by
    rw [← hV]
    exact ((Below.refl _ w).alloc (Nat.le_refl _) _).alloc (by simp) _
  have hVo : Other D (fun _ => False) w V := Other.of_below hVb
  refine ⟨D + 1, [{ target := .collected D, args := #[] }], V, { target := .fn (.func gf) lb, args := #[.func (.yield (D + 1)) #[] #[]] }, V, gf, #[.func (.yield (D + 1)) #[] #[]] ++ lb, V, ?_, ?_, fun _ _ => trivial, ?_, fun h => by simp [Fence.wide] at h, ?_⟩
  · have h := run_enterLoop_outer (P := P) (w := w) fn a.tmps ps assign body
    rw [hD] at h
    rw [← hV, hrec]
    exact h
  · simp only [resolve, hg]
    simp [go_sem]
  · simp [invoke, go_sem, eg]
  refine callsIn_wide.2 ((hseq (D + 1) n
    (fun pre C W => I pre C W ∧ (∀ k, C k → D + 2 ≤ k) ∧ D + 2 ≤ W.heap.size ∧ W.heap[D + 1]? = some (.loop (rec .ready none)) ∧ W.heap[D]? = some (.deferred (some [])))
    (fun W => ∃ c, Ix c W ∧ D + 2 ≤ W.heap.size ∧ W.heap[D + 1]? = some (.loop (rec .done (some c))) ∧ W.heap[D]? = some (.deferred (some [])))
    V (hb0.trans (hVb.mono hb0.size)) ?_ ?_ ?_ ⟨hI _ _ _ _ h0 hVo, fun k h => h.elim, by omega, hVl, hVd⟩).mono ?_)
  · rintro pre C X Y ⟨h1, h2, h3, h4, h5⟩ ho
    exact ⟨hI _ _ _ _ h1 (ho.mono (by omega)), h2, Nat.le_trans h3 ho.size, (ho.block _ (by omega) (.inl (by omega))).trans h4, (ho.block _ (by omega) (.inl (by omega))).trans h5⟩
  · rintro X Y ⟨c, h1, h3, h4, h5⟩ ho
    exact ⟨c, hIx _ _ _ h1 (ho.mono (by omega)), Nat.le_trans h3 ho.size, (ho.block _ (by omega) (.inl (by omega))).trans h4, (ho.block _ (by omega) (.inl (by omega))).trans h5⟩
  · -- one round
    rintro pre x args C X ⟨h1, h2, h3, h4, h5⟩ hok
    rw [hVs] at hok ⊢
    have hy := run_yield (P := P) (args := args) h4 (by rw [hrec]; exact hps _ _ _ _ _ _ hok)
    rw [hrec] at hy
    refine ⟨fn, _, assign, body, hy, roundIn_of_wpIn hfn (wpIn_mono (hround (D + 1) pre x args C X h1 hok h2 h3) ?_)⟩
    intro e a₁ W₁ hq
    cases e with
    | normal =>
      obtain ⟨rfl, hb⟩ := hq
      have hc1 : ¬ C (D + 1) := fun h => by have := h2 _ h; omega
      have hc0 : ¬ C D := fun h => by have := h2 _ h; omega
      refine ⟨_, run_beginRound h4 (by rw [hrec]), ?_⟩
      have hbusy : (W₁.putObj (D + 1) (.loop { rec .ready none with state := .busy })).heap[D + 1]? = some (.loop { rec .ready none with state := .busy }) := World.putObj_heap_same (by omega)
      have hdef : (W₁.putObj (D + 1) (.loop { rec .ready none with state := .busy })).heap[D]? = some (.deferred (some [])) := (World.putObj_heap_other (by omega)).trans h5
      refine wpIn_mono (hb (W₁.putObj (D + 1) (.loop { rec .ready none with state := .busy })) (hI _ _ _ _ h1 (Other.putObj _ (by omega) hc1 _)) (hOk _ _ _ _ _ _ _ _ hok (fun h => by have := hn₀ _ h; omega) (by omega)) (by simpa using h3)) ?_
      have fin : ∀ (jump : Option Code) (C' : Nat → Prop) (W3 : World), RdN N D C C' (W₁.putObj (D + 1) (.loop { rec .ready none with state := .busy })) W3 →
          ∃ W4, W4 = W3.putObj (D + 1) (.loop (rec (if jump.isNone then .ready else .done) jump)) ∧ (Instr.endRound (D + 1) jump).run P W3 = .ok (.bool jump.isNone) W4 ∧
          (∀ C, (¬ C (D + 1)) → Other D C W3 W4) ∧ W4.heap[D + 1]? = some (.loop (rec (if jump.isNone then .ready else .done) jump)) ∧ W4.heap[D]? = some (.deferred (some [])) ∧ D + 2 ≤ W4.heap.size ∧ RdN N (D + 2) C C' W₁ W4 := by
        intro jump C' W3 hr
        have hl3 : W3.heap[D + 1]? = some (.loop { rec .ready none with state := .busy }) := (hr.block _ (by simp; omega) (.inr ⟨by omega, hc1⟩)).trans hbusy
        have hd3 : W3.heap[D]? = some (.deferred (some [])) := (hr.block _ (by simp; omega) (.inr ⟨by omega, hc0⟩)).trans hdef
        have hs := hr.size
        rw [World.putObj_size] at hs
        have hrun := run_endRound (P := P) jump hl3
        rw [hrec] at hrun ⊢
        refine ⟨_, rfl, hrun, fun C hC => Other.putObj _ (by omega) hC _, World.putObj_heap_same (by omega), (World.putObj_heap_other (by omega)).trans hd3, by simp; omega, ⟨by simp; omega, fun k hk hkc => ?_, fun k hk => (hr.new k hk).elim .inl (fun h => .inr (by simpa using h))⟩⟩
        have hne : k ≠ D + 1 := by
          rcases hkc with h | h
          · have := hn₀ k h
            omega
          · omega
        rw [World.putObj_heap_other hne, hr.block k (by simpa using hk) (hkc.elim .inl (fun h => .inr ⟨by omega, h.2⟩)), World.putObj_heap_other hne]
      rintro e a3 W3 hp
      cases e with
      | normal =>
        obtain ⟨C', hr, hi⟩ := hp
        obtain ⟨W4, _, hrun, ho, hl, hd, hs, hr4⟩ := fin none C' W3 hr
        have hC' : ∀ k, C' k → D + 2 ≤ k := fun k hk => (hr.new k hk).elim (h2 k) (fun h => by have := h.1; simp at this; omega)
        exact ⟨_, _, hrun, .inl ⟨rfl, C', ⟨hI _ _ _ _ hi (ho C' (fun h => by have := hC' _ h; omega)), hC', hs, hl, hd⟩, hr4⟩⟩
      | ret =>
        obtain ⟨hr, hi⟩ := hp
        obtain ⟨W4, _, hrun, ho, hl, hd, hs, hr4⟩ := fin (some .ret) C W3 hr
        exact ⟨_, _, hrun, .inr ⟨rfl, ⟨.ret, hIx _ _ _ hi (ho _ (fun h => h)), hs, hl, hd⟩, hr4⟩⟩
      | exit id =>
        obtain ⟨hr, hi⟩ := hp
        obtain ⟨W4, _, hrun, ho, hl, hd, hs, hr4⟩ := fin (some (.exit id)) C W3 hr
        exact ⟨_, _, hrun, .inr ⟨rfl, ⟨.exit id, hIx _ _ _ hi (ho _ (fun h => h)), hs, hl, hd⟩, hr4⟩⟩
      | goto t =>
        obtain ⟨hr, hi⟩ := hp
        obtain ⟨W4, _, hrun, ho, hl, hd, hs, hr4⟩ := fin (some (.goto t)) C W3 hr
        exact ⟨_, _, hrun, .inr ⟨rfl, ⟨.goto t, hIx _ _ _ hi (ho _ (fun h => h)), hs, hl, hd⟩, hr4⟩⟩
      | panic ch => exact hp.elim
      | outgrown => exact hp.elim
    | exit id => exact hq.elim
    | goto t => exact hq.elim
    | ret => exact hq.elim
    | panic ch => exact hq.elim
    | outgrown => exact hq.elim
  · -- behind the iterator
    rintro e Y ⟨⟨v, rfl⟩, ⟨xs, C, hA, h1, h2, h3, h4, h5⟩ | ⟨c, h1, h3, h4, h5⟩⟩
    · have hrun := run_endLoop (P := P) h4 (by rw [hrec]; simp)
      rw [hrec] at hrun
      exact ⟨none, _, hrun, hdone xs C _ hA (hI _ _ _ _ h1 (Other.putObj _ (by omega) (fun h => by have := h2 _ h; omega) _)) ((World.putObj_heap_other (by omega)).trans h5)⟩
    · have hrun := run_endLoop (P := P) h4 (by rw [hrec]; simp)
      rw [hrec] at hrun
      exact ⟨some c, _, hrun, hstop c _ (hIx _ _ _ h1 (Other.putObj _ (by omega) (fun h => h) _)) ((World.putObj_heap_other (by omega)).trans h5)⟩
end Go.Proofs.YtpmeicclngckeaaGreatDoor
namespace Go.Proofs.YtpmeicclngckeaaGreatDoor
open Go Go.RowKit

attribute [local go_sem] Oper.semAt_some
theorem back_any (a : Option Addr) (n cap : Nat) (w : World) : Calls Tryz.prog 102 #[.slice a n cap] w fun e w' => e = .returned (.func (.func 120) #[] #[.pointer (some ⟨w.heap.size, 0, none⟩)]) ∧ w' = w.alloc (.cells #[.slice a n cap] 70) := by
  have hmf : ∀ (fn : Fn) (first cap : Array Value) (w : World), (Instr.makeFunc fn first cap).run Tryz.prog w = .ok (.func fn first cap) w := fun _ _ _ _ => rfl
  go_enter Tryz.func102, Tryz.ntmps102
  go_wp2_with fail
  go_ret
  exact ⟨rfl, rfl⟩
/-- The places that were given, when so many are left. -/
def bk (n k : Nat) : List Nat := (List.range n).reverse.take (n - k)
theorem bk_all (n : Nat) : bk n 0 = (List.range n).reverse := by unfold bk; rw [List.take_of_length_le (by simp)]
theorem bk_none (n : Nat) : bk n n = [] := by unfold bk; rw [Nat.sub_self, List.take_zero]
theorem bk_len (n k : Nat) (h : k ≤ n) : (bk n k).length = n - k := by unfold bk; rw [List.length_take, List.length_reverse, List.length_range]; omega
theorem bk_step (n k : Nat) (h : k < n) : bk n (k + 1) ++ [k] = bk n k := by
  unfold bk
  rw [show n - k = (n - (k + 1)) + 1 by omega, List.take_succ_eq_append_getElem (by simp; omega)]
  congr 1
  rw [List.getElem_reverse, List.getElem_range, List.length_range]
  congr 1
  omega
/-- What a round is handed: the next place, and the node there. -/
def BkOk (N : Nat → Prop) (ds : List Nd) (pre : List Nat) (x : Nat) (args : Array Value) (_ : Nat → Prop) (_ : Nat) (W : World) : Prop :=
  ∃ v, ∃ hx : x < ds.length, args = #[.int .i64 (x : Int), v] ∧ pre = bk ds.length (x + 1) ∧ NdX N W ds[x] v
set_option linter.unusedSimpArgs false in
set_option maxRecDepth 100000 in
set_option maxHeartbeats 2000000 in
theorem biter_any (n l base R : Nat) (N F : Nat → Prop) (hFN : ∀ k, F k → N k) (ds : List Nd) (a : Option Addr) (cap : Nat) (hl : ds.length ≤ 4000000) (J : List Nat → (Nat → Prop) → World → Prop) (Jx : World → Prop)
    (hR : ∀ pre x args C X, J pre C X → BkOk F ds pre x args C base X → YieldAt Fence.wide 0 Tryz.prog l args X fun e Y =>
      (e = .returned (.bool true) ∧ ∃ C', J (pre ++ [x]) C' Y ∧ RdN N base C C' X Y) ∨ (e = .returned (.bool false) ∧ Jx Y ∧ RdN N base C C X Y))
    (W : World) (hN : ∀ k, N k → k < W.heap.size) (h0 : J [] (fun _ => False) W) (hv : NdRw F W ds a cap) (hNR : N R) (hc : W.cell? ⟨R, 0, none⟩ = some (.slice a ds.length cap)) :
    CallsIn Fence.wide n Tryz.prog 120 #[.func (.yield l) #[] #[], .pointer (some ⟨R, 0, none⟩)] W fun e Z => (∃ v, e = .returned v) ∧ ((∃ C, J (List.range ds.length).reverse C Z) ∨ Jx Z) := by
  have hdep : ∀ k : Nat, (Fence.wide.depth.isSome = true → 1 ≤ k) := fun k h => by simp [Fence.wide] at h
  have hkeep : ∀ Y, (∀ k, N k → Y.heap[k]? = W.heap[k]?) → W.heap.size ≤ Y.heap.size → NdRw F Y ds a cap ∧ Y.cell? ⟨R, 0, none⟩ = some (.slice a ds.length cap) := fun Y h hs =>
    ⟨hv.keep hs (fun b hb _ => ⟨hb, fun o => World.cell?_of_block (w := W) (a := ⟨b, o, none⟩) (h b (hFN b hb))⟩), (World.cell?_of_block (w := W) (a := ⟨R, 0, none⟩) (h R hNR)).trans hc⟩
  have W0 : IntKind.i64.wrap ((ds.length : Int) - 1) = (ds.length : Int) - 1 := IntWalk.i64_in _ (by omega)
  refine callsIn_of_wp Tryz.func120 rfl trivial ?_ rfl
  simp only [Tryz.ntmps120, List.size_toArray, List.length_cons, List.length_nil, Nat.reduceAdd, Nat.reduceSub, Array.replicate_succ, Array.replicate_zero, List.push_toArray, List.append_toArray, List.nil_append, List.cons_append]
  have hB0 : ∀ k, k < ds.length → IntKind.i64.wrap ((k : Int) - 1) = (k : Int) - 1 := fun k hk => IntWalk.i64_in _ (by omega)
  gi_upto_region 1 with fail
  gi_loopg [3] (ds.length) (fun k i wr => k ≤ ds.length ∧ i = .int .i64 ((k : Int) - 1) ∧ ∃ C, J (bk ds.length k) C wr ∧ (∀ j, N j → wr.heap[j]? = W.heap[j]?) ∧ W.heap.size ≤ wr.heap.size)
  case atStart => exact ⟨Nat.le_refl _, rfl, _, by rw [bk_none]; exact h0, fun _ _ => rfl, Nat.le_refl _⟩
  case round =>
    obtain ⟨hk, rfl, C, hJ, hsame, hsz⟩ := hrel
    cases gk with
    | zero =>
      rw [bk_all] at hJ
      have e1 : decide ((0 : Int) ≤ ((0 : Nat) : Int) - 1) = false := by decide
      gi_wp2
      go_end0
      exact ⟨⟨_, rfl⟩, .inl ⟨C, hJ⟩⟩
    | succ k =>
      have hi : ((k + 1 : Nat) : Int) - 1 = (k : Int) := by omega
      rw [hi]
      obtain ⟨hrw, hcR⟩ := hkeep wr hsame hsz
      obtain ⟨b, o, rfl, hNb, hbl, hx⟩ := hrw.2.2 (by omega)
      obtain ⟨u, hu, hnd⟩ := hx k (by omega)
      have hcap := hrw.1
      have Wk := hB0 k (by omega)
      have hkl : k < ds.length := by omega
      obtain ⟨fn, tmps, assign, body, hy, hR2⟩ := yield_any_depth (n - 1) (hR (bk ds.length (k + 1)) k #[.int .i64 (k : Int), u] C wr hJ ⟨u, hkl, rfl, rfl, hnd⟩)
      have hcC : ∀ C' Y, RdN N base C C' wr Y → (∀ j, N j → Y.heap[j]? = W.heap[j]?) ∧ W.heap.size ≤ Y.heap.size := fun C' Y h => ⟨fun j hj => (h.block j (Nat.lt_of_lt_of_le (hN j hj) hsz) (.inl hj)).trans (hsame j hj), Nat.le_trans hsz h.size⟩
      clear hx hrw hkeep hnd hR hB0
      gi_wp2
      refine ⟨hdep _, hR2.mono ?_⟩
      rintro e Z (⟨rfl, C', hJ2, hr⟩ | ⟨rfl, hx, _⟩)
      · rw [bk_step _ _ hkl] at hJ2
        gi_wp2
        gi_roundg k
        case measure => omega
        case rel => exact ⟨by omega, rfl, C', hJ2, (hcC C' Z hr).1, (hcC C' Z hr).2⟩
      · gi_wp2
        (try simp only [Exit.inBlock, Exit.then])
        refine bodyPost_ret (results_none rfl _ _ _) rfl ?_
        exact ⟨⟨_, rfl⟩, .inr hx⟩
/-- What the function that Backward answers gives. -/
theorem back_gives (N F : Nat → Prop) (hFN : ∀ k, F k → N k) (ds : List Nd) (a : Option Addr) (cap : Nat) (hl : ds.length ≤ 4000000) (R : Nat) (w : World) (hN : ∀ k, N k → k < w.heap.size) (hNR : N R) (hv : NdRw F w ds a cap) (hc : w.cell? ⟨R, 0, none⟩ = some (.slice a ds.length cap)) :
    GivesN Tryz.prog 120 #[.pointer (some ⟨R, 0, none⟩)] N (BkOk F ds) (fun xs => xs = (List.range ds.length).reverse) w := by
  intro l m J Jx W hb hJ hJx hR h0
  refine callsIn_wide.1 ((biter_any 0 l W.heap.size R N F hFN ds a cap hl J Jx (fun pre x args C X h1 h2 => yield_any_depth 0 (hR pre x args C X h1 h2)) W (fun k hk => Nat.lt_of_lt_of_le (hN k hk) hb.size) h0 (hv.below hb) hNR ((hb.cell (p := ⟨R, 0, none⟩) (World.block_lt_of_cell? w _ hc)).trans hc)).mono ?_)
  rintro e Y ⟨h1, h2⟩
  exact ⟨h1, h2.elim (fun ⟨C, h⟩ => .inl ⟨_, C, rfl, h⟩) .inr⟩
theorem bk_ok_put {N : Nat → Prop} {ds : List Nd} {pre : List Nat} {x : Nat} {args : Array Value} {C : Nat → Prop} {base k : Nat} {W : World} {o : Obj} (h : BkOk N ds pre x args C base W) (h1 : ¬ N k) (_ : k < base) : BkOk N ds pre x args C base (W.putObj k o) := by
  obtain ⟨v, hx, ha, hs, hv⟩ := h
  exact ⟨v, hx, ha, hs, hv.keep (by simp) (fun b hb _ => ⟨hb, fun p => World.cell?_of_block (w := W) (a := ⟨b, p, none⟩) (World.putObj_heap_other (fun e => h1 (by have e2 : b = k := e; rw [← e2]; exact hb)))⟩)⟩
end Go.Proofs.YtpmeicclngckeaaGreatDoor
namespace Go.Proofs.YtpmeicclngckeaaGreatDoor
open Go Go.RowKit

attribute [local go_sem] Oper.semAt_some
/-- A node that may be missing. -/
def NdO (F : Nat → Prop) (w : World) : Option Nd → Value → Prop
  | none, v => v = .nilIface
  | some d, v => NdX F w d v
/-- The cells of what is pending. -/
def PdRow (F : Nat → Prop) (w : World) : List Pend → List Value → Prop
  | [], us => us = []
  | p :: l, us => ∃ (S : ByteArray) (v : Value) (us' : List Value), us = .string S :: v :: us' ∧ S.data.toList = p.1 ∧ NdO F w p.2 v ∧ PdRow F w l us'
theorem NdO.keep {F G : Nat → Prop} {w w' : World} (hs : w.heap.size ≤ w'.heap.size) (hF : ∀ b, F b → b < w.heap.size → G b ∧ ∀ o, w'.cell? ⟨b, o, none⟩ = w.cell? ⟨b, o, none⟩) {d : Option Nd} {v : Value} (h : NdO F w d v) : NdO G w' d v := by
  cases d with
  | none => exact h
  | some d => exact NdX.keep hs hF h
theorem PdRow.keep {F G : Nat → Prop} {w w' : World} (hs : w.heap.size ≤ w'.heap.size) (hF : ∀ b, F b → b < w.heap.size → G b ∧ ∀ o, w'.cell? ⟨b, o, none⟩ = w.cell? ⟨b, o, none⟩) : ∀ {l : List Pend} {us : List Value}, PdRow F w l us → PdRow G w' l us
  | [], _, h => h
  | _ :: _, _, ⟨S, v, us', h1, h2, h3, h4⟩ => ⟨S, v, us', h1, h2, h3.keep hs hF, PdRow.keep hs hF h4⟩
theorem PdRow.low {B : Nat} {F : Nat → Prop} (hF : ∀ k, F k → k < B) {w w' : World} (hb : Below B w w') {l : List Pend} {us : List Value} (h : PdRow F w l us) : PdRow F w' l us :=
  h.keep hb.size (fun b hf _ => ⟨hf, fun o => hb.cell (p := ⟨b, o, none⟩) (hF b hf)⟩)
theorem PdRow.app {F : Nat → Prop} {w : World} : ∀ {l m : List Pend} {us vs : List Value}, PdRow F w l us → PdRow F w m vs → PdRow F w (l ++ m) (us ++ vs)
  | [], _, _, _, h, h2 => by obtain rfl : _ = [] := h; exact h2
  | _ :: _, _, _, _, ⟨S, v, us', h1, h2, h3, h4⟩, k => by subst h1; exact ⟨S, v, us' ++ _, rfl, h2, h3, PdRow.app h4 k⟩
theorem PdRow.len {F : Nat → Prop} {w : World} : ∀ {l : List Pend} {us : List Value}, PdRow F w l us → us.length = l.length * 2
  | [], _, h => by obtain rfl : _ = [] := h; rfl
  | _ :: l, _, ⟨S, v, us', h1, h2, h3, h4⟩ => by subst h1; rw [List.length_cons, List.length_cons, List.length_cons, PdRow.len h4]; omega
theorem PdRow.one {F : Nat → Prop} {w : World} {p : Pend} {S : ByteArray} {v : Value} (h1 : S.data.toList = p.1) (h2 : NdO F w p.2 v) : PdRow F w [p] [.string S, v] := ⟨S, v, [], rfl, h1, h2, rfl⟩
/-- What inTurn makes of a place. -/
def trP (bt : List UInt8) (ds : List Nd) (i : Nat) : Pend := (if i = 0 then [] else bt, ds[i]?)
theorem inTurn_map (bt : List UInt8) (ds : List Nd) : (List.range ds.length).reverse.map (trP bt ds) = inTurn bt ds := by
  cases ds with
  | nil => rfl
  | cons d l =>
    rw [List.length_cons, List.range_succ_eq_map, List.reverse_cons, List.map_append]
    unfold inTurn
    congr 1
    rw [← List.map_reverse, List.map_map, ← List.map_reverse]
    apply List.ext_getElem
    · simp
    · intro i h1 h2
      simp at h1 h2 ⊢
      unfold trP
      simp
theorem pend_info : ∃ i, Tryz.prog.info? 83 = some i ∧ i.zero = some (.agg #[.string ⟨#[]⟩, .nilIface]) ∧ i.size = 2 ∧ i.bytes = 32 := by
  have h : (Tryz.prog.info? 83).map (fun i => (i.zero, i.size, i.bytes)) = some (some (.agg #[.string ⟨#[]⟩, .nilIface]), 2, 32) := by kernel_rfl
  obtain ⟨i, hi, he⟩ := Option.map_eq_some_iff.1 h
  injection he with h1 h2
  injection h2 with h2 h3
  exact ⟨i, hi, h1, h2, h3⟩
/-- Between two rounds. -/
structure TnI (F : Nat → Prop) (w0 : World) (bt : ByteArray) (ds : List Nd) (pre : List Nat) (C : Nat → Prop) (W : World) (us : List Value) (ev x : Value) : Prop where
  res : Boxed W w0.heap.size 9 x
  bet : pre.length < ds.length → x = .string bt
  var : Boxed W (w0.heap.size + 1) 84 ev
  row : W.ownsRow w0.heap.size 83 2 ev pre.length us
  pds : PdRow F W (pre.map (trP bt.data.toList ds)) us
  own : ∀ k, C k ↔ ev.ownBlock = some k
  below : Below w0.heap.size w0 W
  far : ∀ k, C k → w0.heap.size + 3 ≤ k
theorem TnI.other {F : Nat → Prop} {w0 : World} (hF : ∀ k, F k → k < w0.heap.size) {bt : ByteArray} {ds : List Nd} {pre : List Nat} {C : Nat → Prop} {X Y : World} {us : List Value} {ev x : Value} (h : TnI F w0 bt ds pre C X us ev x) (ho : Other (w0.heap.size + 3) C X Y) : TnI F w0 bt ds pre C Y us ev x :=
  have hb : Below w0.heap.size X Y := ⟨ho.os, ho.tape, ho.output, ho.size, fun k hk => ho.block k (Nat.lt_of_lt_of_le hk h.below.size) (.inl (by omega))⟩
  ⟨Boxed.same h.res (ho.block _ h.res.lt (.inl (by omega))), h.bet, Boxed.same h.var (ho.block _ h.var.lt (.inl (by omega))), own_row_same h.row (fun g hg => ho.block _ (h.row.lt g hg).2 (.inr ((h.own g).2 hg))), h.pds.low hF hb, h.own, h.below.trans hb, h.far⟩
theorem TnI.mem {F : Nat → Prop} {w0 : World} (hF : ∀ k, F k → k < w0.heap.size) {bt : ByteArray} {ds : List Nd} {pre : List Nat} {C : Nat → Prop} {X Y : World} {us : List Value} {ev x : Value} (h : TnI F w0 bt ds pre C X us ev x) (hb : Below X.heap.size X Y) : TnI F w0 bt ds pre C Y us ev x :=
  ⟨Boxed.same h.res (hb.block _ h.res.lt), h.bet, Boxed.same h.var (hb.block _ h.var.lt), own_row_same h.row (fun g hg => hb.block _ (h.row.lt g hg).2), h.pds.low hF (hb.mono h.below.size), h.own, h.below.trans (hb.mono h.below.size), h.far⟩
/-- What a round leaves as it was. -/
abbrev TnN (w0 : World) (k : Nat) : Prop := k < w0.heap.size ∨ k = w0.heap.size + 2
/-- The bytes between are none from here on. -/
theorem TnI.first {F : Nat → Prop} {w0 : World} {bt : ByteArray} {ds : List Nd} {pre : List Nat} {C : Nat → Prop} {W : World} {us : List Value} {ev x : Value} (h : TnI F w0 bt ds pre C W us ev x) :
    Boxed (W.setCell ⟨w0.heap.size, 0, none⟩ (.string ⟨#[]⟩)) w0.heap.size 9 (.string ⟨#[]⟩) ∧ Boxed (W.setCell ⟨w0.heap.size, 0, none⟩ (.string ⟨#[]⟩)) (w0.heap.size + 1) 84 ev ∧
    (W.setCell ⟨w0.heap.size, 0, none⟩ (.string ⟨#[]⟩)).ownsRow w0.heap.size 83 2 ev pre.length us ∧ Below w0.heap.size W (W.setCell ⟨w0.heap.size, 0, none⟩ (.string ⟨#[]⟩)) ∧ RdN (TnN w0) (w0.heap.size + 3) C C W (W.setCell ⟨w0.heap.size, 0, none⟩ (.string ⟨#[]⟩)) :=
  ⟨Boxed.set _ h.res, Boxed.same h.var (Below.heap_setCell _ _ _ _ (by simp)), own_row_same h.row (fun g hg => Below.heap_setCell _ _ _ _ (by have := h.far g ((h.own g).2 hg); simp; omega)), (Below.refl _ W).setCell (p := ⟨w0.heap.size, 0, none⟩) (Nat.le_refl _) _,
    ⟨by simp [World.setCell], fun k _ hk => Below.heap_setCell _ _ _ _ (by rcases hk with (hk | hk) | hk <;> (simp; omega)), fun _ hk => .inl hk⟩⟩
/-- One more is pending. -/
theorem TnI.push {F : Nat → Prop} {w0 : World} {bt : ByteArray} {ds : List Nd} {pre : List Nat} {C : Nat → Prop} {W W1 w3 : World} {us : List Value} {ev x x' v v' : Value} {k : Nat} {S : ByteArray} {tmp : Obj} (hF : ∀ k, F k → k < w0.heap.size) (h : TnI F w0 bt ds pre C W us ev x) (hlt : w0.heap.size + 3 ≤ W1.heap.size)
    (h1 : Boxed W1 w0.heap.size 9 x') (h2 : Boxed W1 (w0.heap.size + 1) 84 ev) (hb : Below w0.heap.size W W1) (hr : RdN (TnN w0) (w0.heap.size + 3) C C W W1) (hS : S.data.toList = (trP bt.data.toList ds k).1) (hv : NdO F W (trP bt.data.toList ds k).2 v) (hx : pre.length + 1 < ds.length → x' = .string bt)
    (hown : w3.ownsRow w0.heap.size 83 2 v' (pre.length + 1) (us ++ [.string S, v])) (hg : (W1.alloc tmp).grownBy w3 ev.ownBlock) (hat : v'.ownBlock = ev.ownBlock ∨ v'.ownBlock = some (W1.alloc tmp).heap.size) :
    Boxed w3 (w0.heap.size + 1) 84 ev ∧ TnI F w0 bt ds (pre ++ [k]) (fun k => v'.ownBlock = some k) (w3.setCell ⟨w0.heap.size + 1, 0, none⟩ v') (us ++ [.string S, v]) v' x' ∧ RdN (TnN w0) (w0.heap.size + 3) C (fun k => v'.ownBlock = some k) W (w3.setCell ⟨w0.heap.size + 1, 0, none⟩ v') := by
  have hsz := hr.size
  have hne : ∀ k, k < w0.heap.size + 3 → some k ≠ ev.ownBlock := fun k hk e => by have := h.far k ((h.own k).2 e.symm); omega
  have hfar : ∀ k, v'.ownBlock = some k → w0.heap.size + 3 ≤ k := fun k hk => by
    rcases hat with e | e
    · exact h.far k ((h.own k).2 (by rw [← e]; exact hk))
    · rw [e] at hk; injection hk with hk; simp at hk; omega
  have hv3 : Boxed w3 (w0.heap.size + 1) 84 ev := (h2.alloc tmp).kept hg (hne _ (by omega))
  have hblk : ∀ k, k < (W1.alloc tmp).heap.size → some k ≠ ev.ownBlock → k ≠ w0.heap.size + 1 → (w3.setCell ⟨w0.heap.size + 1, 0, none⟩ v').heap[k]? = (W1.alloc tmp).heap[k]? := fun k hk h1 h3 =>
    (Below.heap_setCell _ _ _ _ h3).trans (hg.block k hk h1)
  have hBl : Below w0.heap.size W (w3.setCell ⟨w0.heap.size + 1, 0, none⟩ v') := by
    refine (((hb.alloc (Nat.le_trans h.below.size hb.size) tmp)).grown hg (by have := h.below.size; simp; omega) (fun k hk => ?_)).setCell (p := ⟨w0.heap.size + 1, 0, none⟩) (by simp) _
    have := h.far k ((h.own k).2 hk)
    omega
  refine ⟨hv3, ⟨?_, fun hl => hx (by simpa using hl), hv3.set v', ?_, ?_, fun k => Iff.rfl, h.below.trans hBl, hfar⟩, ⟨?_, ?_, ?_⟩⟩
  · exact Boxed.same (h1.alloc tmp) (hblk _ (h1.alloc tmp).lt (hne _ (by omega)) (by omega))
  · rw [List.length_append]
    exact own_row_same hown (fun g hg' => Below.heap_setCell _ _ _ _ (by have := hfar g hg'; simp; omega))
  · rw [List.map_append]
    exact (h.pds.app (PdRow.one hS hv)).low hF hBl
  · have h8 : W1.heap.size ≤ (W1.alloc tmp).heap.size := by simp
    have h9 : w3.heap.size ≤ (w3.setCell ⟨w0.heap.size + 1, 0, none⟩ v').heap.size := by simp [World.setCell]
    have := hg.size
    omega
  · intro k hk hkc
    have hkW : k < W1.heap.size := Nat.lt_of_lt_of_le hk hsz
    have hk1 : k ≠ w0.heap.size + 1 := by rcases hkc with (hk0 | hk0) | hk0 <;> omega
    have hk2 : some k ≠ ev.ownBlock := by
      rcases hkc with (hk0 | hk0) | ⟨hk0, hkc⟩
      · exact hne k (by omega)
      · exact hne k (by omega)
      · exact fun e => hkc ((h.own k).2 e.symm)
    rw [hblk k (by simp; omega) hk2 hk1, Below.heap_alloc _ _ _ hkW, hr.block k hk hkc]
  · intro k hk
    have h5 := (hown.lt k hk).2
    have h6 : w3.heap.size ≤ (w3.setCell ⟨w0.heap.size + 1, 0, none⟩ v').heap.size := by simp [World.setCell]
    rcases hat with e | e
    · exact .inl ((h.own k).2 (by rw [← e]; exact hk))
    · right
      rw [e] at hk; injection hk with hk; simp at hk
      omega
theorem cells_two_new (W : World) (x y : Value) (T : TypeId) : ∀ j u, [x, y][j]? = some u → (W.alloc (.cells #[x, y] T)).cell? ((⟨W.heap.size, 0, none⟩ : Addr).add j) = some u := by
  intro j u hu
  have hb := Blk.new W #[x, y] T W.heap.size rfl
  match j, hu with
  | 0, hu =>
    obtain rfl : x = u := by simpa using hu
    rw [Go.WideShapes.add_plain]
    exact (hb.cell 0).trans rfl
  | 1, hu =>
    obtain rfl : y = u := by simpa using hu
    rw [Go.WideShapes.add_plain]
    exact (hb.cell 1).trans rfl
set_option linter.unusedSimpArgs false in
set_option maxRecDepth 100000 in
set_option maxHeartbeats 4000000 in
theorem shturn_any (F : Nat → Prop) (ds : List Nd) (bt : ByteArray) (a : Option Addr) (cap : Nat) (w : World) (hF : ∀ k, F k → k < w.heap.size) (hl : ds.length ≤ 4000000) (hv : NdRw F w ds a cap) :
    Calls Tryz.prog 67 #[.slice a ds.length cap, .string bt] w fun e w' => ∃ v us, e = .returned v ∧ w'.ownsRow w.heap.size 83 2 v ds.length us ∧ PdRow F w' (inTurn bt.data.toList ds) us ∧ Below w.heap.size w w' := by
  obtain ⟨i0, hi, hz0, hz1, hz2⟩ := pend_info
  refine (callsIn_wide (n := 3)).1 ?_
  refine callsIn_of_wp_marks Tryz.func67 rfl trivial ?_ rfl
  simp only [Tryz.ntmps67, List.size_toArray, List.length_cons, List.length_nil, Nat.reduceAdd, Nat.reduceSub, Array.replicate_succ, Array.replicate_zero, List.push_toArray, List.append_toArray, List.nil_append, List.cons_append]
  gi_wp2_with (refine ⟨trivial, ?_⟩; gi_at_call 102; refine (callsIn_wide.2 (back_any _ _ _ _)).mono ?_; rintro e w' ⟨rfl, rfl⟩)
  obtain ⟨V, hV⟩ : ∃ V, ((w.alloc (.cells #[.string bt] 9)).alloc (.cells #[.slice none 0 0] 84)).alloc (.cells #[.slice a ds.length cap] 70) = V := ⟨_, rfl⟩
  have hB : Below w.heap.size w V := by rw [← hV]; exact (((Below.refl _ w).alloc (Nat.le_refl _) _).alloc (by simp) _).alloc (by simp; omega) _
  have hVs : V.heap.size = w.heap.size + 3 := by rw [← hV]; simp
  have hc : V.cell? ⟨w.heap.size + 1 + 1, 0, none⟩ = some (.slice a ds.length cap) := by
    have h1 := (Boxed.new ((w.alloc (.cells #[.string bt] 9)).alloc (.cells #[.slice none 0 0] 84)) 70 (.slice a ds.length cap)).cell
    rw [World.size_alloc, World.size_alloc, hV] at h1
    exact h1
  have hb0 : Boxed V w.heap.size 9 (.string bt) := by
    have h1 := ((Boxed.new w 9 (.string bt)).alloc (.cells #[.slice none 0 0] 84)).alloc (.cells #[.slice a ds.length cap] 70)
    rw [hV] at h1
    exact h1
  have hb1 : Boxed V (w.heap.size + 1) 84 (.slice none 0 0) := by
    have h1 := (Boxed.new (w.alloc (.cells #[.string bt] 9)) 84 (.slice none 0 0)).alloc (.cells #[.slice a ds.length cap] 70)
    rw [World.size_alloc, hV] at h1
    exact h1
  rw [hV]
  refine wpIn_rangeFunc_N (N := TnN w) (gf := 120) (lb := #[.pointer (some ⟨w.heap.size + 1 + 1, 0, none⟩)]) rfl (enters_of Tryz.func120 (by kernel_rfl) rfl)
    (back_gives (TnN w) F (fun k hk => .inl (hF k hk)) ds a cap hl (w.heap.size + 1 + 1) V (fun k hk => by rcases hk with hk | hk <;> omega) (.inr rfl) (hv.below hB) hc) (Below.refl _ _) (fun k hk => by rcases hk with hk | hk <;> omega)
    (fun pre x args C b W hk => by obtain ⟨_, _, rfl, _⟩ := hk; rfl)
    (fun pre x args C b W k o hk h1 h2 => bk_ok_put hk (fun h => h1 (.inl (hF _ h))) h2)
    (fun pre C W => ∃ us ev x, TnI F w bt ds pre C W us ev x) (fun _ _ => False)
    (fun pre C X Y hk ho => by obtain ⟨us, ev, x, hk⟩ := hk; rw [hVs] at ho; exact ⟨us, ev, x, hk.other hF ho⟩)
    (fun _ _ _ hk _ => hk)
    ⟨[], .slice none 0 0, .string bt, hb0, fun _ => rfl, hb1, World.ownsRow_nil _ _ _ _, rfl, fun k => ⟨fun h => h.elim, fun h => by simp [Value.ownBlock] at h⟩, hB, fun k h => h.elim⟩ ?round ?done ?stop
  case round =>
    rintro l pre k args C W hI hOk hC hlt
    obtain ⟨v', hx, rfl, hpre, hv'⟩ := hOk
    gi_wp2
    clear hI hlt hv'
    refine ⟨trivial, ?_⟩
    intro W hI hOk hlt
    obtain ⟨us, ev, x, hI⟩ := hI
    obtain ⟨v2, hx2, ha, hp2, hv⟩ := hOk
    clear hp2
    obtain rfl : v' = v2 := by simpa using ha
    clear ha
    rw [hVs] at hlt
    have hpl : pre.length + k + 1 = ds.length := by rw [hpre, bk_len _ _ (by omega)]; omega
    clear hpre
    have hbx := hI.bet (by omega)
    subst hbx
    have hm1 : pre.length + 1 ≤ maxLen := by unfold maxLen; omega
    have hm2 : (pre.length + 1) * 32 ≤ 140737488355328 := by omega
    have hsh : (∃ T q, v' = .iface T q) ∨ v' = .nilIface := hv.elim fun _ h => nd_shape h
    have hone : ∀ S : ByteArray, ∀ u ∈ [Value.string S, v'], u.oneCell' = true := by
      intro S u hu
      simp at hu
      rcases hu with rfl | rfl
      · rfl
      · rcases hsh with ⟨_, _, rfl⟩ | rfl <;> rfl
    have htr : trP bt.data.toList ds k = (if k = 0 then [] else bt.data.toList, some ds[k]) := by unfold trP; rw [List.getElem?_eq_getElem hx]
    cases k with
    | zero =>
      obtain ⟨g1, g2, g3, g4, g5⟩ := hI.first
      obtain ⟨W1, hW1⟩ : ∃ W1, W.setCell ⟨w.heap.size, 0, none⟩ (.string ⟨#[]⟩) = W1 := ⟨_, rfl⟩
      rw [hW1] at g1 g2 g3 g4 g5
      have hPush := fun (w3 : World) (v3 : Value) => TnI.push hF hI (w3 := w3) (k := 0) (S := ⟨#[]⟩) (v := v') (v' := v3) (tmp := .cells #[.string ⟨#[]⟩, v'] 83) (by have := g5.size; omega) g1 g2 g4 g5 (by rw [htr]; rfl) (by rw [htr]; exact hv) (fun h => by omega)
      have hc0 := hI.res.cell
      have hf0 := hI.res.frozen
      have hc1 := g2.cell
      have hc2 := g1.cell
      have hbs := g4.size
      have hI2 := Lib.hid hI
      clear hI hv g1 g4 g5 hb0 hb1 hc hpl htr
      rcases hsh with ⟨T, q, rfl⟩ | rfl
      all_goals
        gi_wp2_with (gi_at_builtin; refine wpListIn_append_own_at _ rfl _ _ 84 rfl w.heap.size 83 i0 (.agg #[.string ⟨#[]⟩, .nilIface]) 2 32 Tryz.underlying84 hi hz0 hz1 hz2 rfl (by decide) _ _ _ rfl (g3.alloc _) ⟨W1.heap.size, 0, none⟩ 1 1 [.string ⟨#[]⟩, _] rfl rfl (cells_two_new _ _ _ _) (hone _) hm1 hm2 (by simp; omega) ?_; intro v3 w3 hown' hgrow _ hat; obtain ⟨hv3, hI3, hR3⟩ := hPush w3 v3 hown' hgrow hat; have hc3 := hv3.cell; have hf3 := hv3.frozen; obtain ⟨g', cap', rfl⟩ := ownsRow_succ hown')
        exact ⟨_, by first | exact hR3 | (rw [hVs]; exact hR3), _, _, _, hI3⟩
    | succ k =>
      have hR1 : RdN (TnN w) (w.heap.size + 3) C C W W := ⟨Nat.le_refl _, fun _ _ _ => rfl, fun _ h => .inl h⟩
      have hPush := fun (w3 : World) (v3 : Value) => TnI.push hF hI (W1 := W) (w3 := w3) (k := k + 1) (S := bt) (v := v') (v' := v3) (tmp := .cells #[.string bt, v'] 83) (by omega) hI.res hI.var (Below.refl _ _) hR1 (by rw [htr]; rfl) (by rw [htr]; exact hv) (fun _ => rfl)
      have hc0 := hI.res.cell
      have hc1 := hI.var.cell
      have g3 := hI.row
      have hbs := hI.below.size
      have hk1 : ¬ (((k + 1 : Nat) : Int) = 0) := by omega
      have hk2 : (((k + 1 : Nat) : Int) == 0) = false := by simp; omega
      have hI2 := Lib.hid hI
      clear hI hv hb0 hb1 hc hpl htr
      rcases hsh with ⟨T, q, rfl⟩ | rfl
      all_goals
        gi_wp2_with (gi_at_builtin; refine wpListIn_append_own_at _ rfl _ _ 84 rfl w.heap.size 83 i0 (.agg #[.string ⟨#[]⟩, .nilIface]) 2 32 Tryz.underlying84 hi hz0 hz1 hz2 rfl (by decide) _ _ _ rfl (g3.alloc _) ⟨W.heap.size, 0, none⟩ 1 1 [.string bt, _] rfl rfl (cells_two_new _ _ _ _) (hone _) hm1 hm2 (by simp; omega) ?_; intro v3 w3 hown' hgrow _ hat; obtain ⟨hv3, hI3, hR3⟩ := hPush w3 v3 hown' hgrow hat; have hc3 := hv3.cell; have hf3 := hv3.frozen; obtain ⟨g', cap', rfl⟩ := ownsRow_succ hown')
        exact ⟨_, by first | exact hR3 | (rw [hVs]; exact hR3), _, _, _, hI3⟩
  case done =>
    rintro xs C W rfl ⟨us, ev, x, hI⟩ hK
    have hc := hI.var.cell
    have Hp := Lib.hid hI.pds
    rw [inTurn_map] at Hp
    have Hr := Lib.hid hI.row
    rw [List.length_reverse, List.length_range] at Hr
    have Hb := Lib.hid hI.below
    have hBp : Below w.heap.size W (W.putObj V.heap.size (.deferred none)) := below_put (by omega)
    have hRp : (W.putObj V.heap.size (.deferred none)).ownsRow w.heap.size 83 2 ev ds.length us := by
      refine own_row_same Hr.out (fun g hg => World.putObj_heap_other (fun e => ?_))
      rcases Hr.out.2 with ⟨h, _⟩ | ⟨g', c', cu, h, _, hh, _⟩
      · rw [h] at hg; simp [Value.ownBlock] at hg
      · rw [h] at hg
        have hgg : g' = g := by simpa [Value.ownBlock] using hg
        rw [hgg, e, hK] at hh
        cases hh
    clear hI
    gi_wp2
    refine ⟨by simp, .inl ⟨_, _, rfl, run_takeDeferred hK, ?_⟩⟩
    exact ⟨_, results_tmp rfl _ _ _, ev, us, rfl, hRp, Hp.out.low hF hBp, Hb.out.trans hBp⟩
  case stop =>
    intro c W hk _
    exact hk.elim
end Go.Proofs.YtpmeicclngckeaaGreatDoor
