/- slices.Backward of a row of tasks: what its iterator gives. -/
import Derived.Test.YtjjhkagpoicimaaShTT
import Derived.Test.YtjjhkagpoicimaaCbE
namespace Go.Proofs.Ytjjhkagpoicimaa
open Go Go.RowKit

attribute [local go_sem] Oper.semAt_some
theorem cback_any (a : Option Addr) (n cap : Nat) (w : World) : Calls Try.prog 45 #[.slice a n cap] w fun e w' => e = .returned (.func (.func 49) #[] #[.pointer (some ⟨w.heap.size, 0, none⟩)]) ∧ w' = w.alloc (.cells #[.slice a n cap] 63) := by
  have hmf : ∀ (fn : Fn) (first cap : Array Value) (w : World), (Instr.makeFunc fn first cap).run Try.prog w = .ok (.func fn first cap) w := fun _ _ _ _ => rfl
  go_enter Try.func45, Try.ntmps45
  go_wp2_with fail
  go_ret
  exact ⟨rfl, rfl⟩
/-- The places that were given, when so many are left. -/
def cbk (n k : Nat) : List Nat := (List.range n).reverse.take (n - k)
theorem cbk_all (n : Nat) : cbk n 0 = (List.range n).reverse := by unfold cbk; rw [List.take_of_length_le (by simp)]
theorem cbk_none (n : Nat) : cbk n n = [] := by unfold cbk; rw [Nat.sub_self, List.take_zero]
theorem cbk_len (n k : Nat) (h : k ≤ n) : (cbk n k).length = n - k := by unfold cbk; rw [List.length_take, List.length_reverse, List.length_range]; omega
theorem cbk_step (n k : Nat) (h : k < n) : cbk n (k + 1) ++ [k] = cbk n k := by
  unfold cbk
  rw [show n - k = (n - (k + 1)) + 1 by omega, List.take_succ_eq_append_getElem (by simp; omega)]
  congr 1
  rw [List.getElem_reverse, List.getElem_range, List.length_range]
  congr 1
  omega
/-- What a round is handed: the next place, and the task there. -/
def CbkOk (us : List Value) (pre : List Nat) (x : Nat) (args : Array Value) (_ : Nat → Prop) (_ : Nat) (_ : World) : Prop :=
  ∃ hx : x < us.length, args = #[.int .i64 (x : Int), us[x]] ∧ pre = cbk us.length (x + 1)
set_option linter.unusedSimpArgs false in
set_option maxRecDepth 100000 in
set_option maxHeartbeats 2000000 in
theorem cbiter_any (n l base R q : Nat) (N : Nat → Prop) (us : List Value) (cap : Nat) (hl : us.length ≤ 4000000) (J : List Nat → (Nat → Prop) → World → Prop) (Jx : World → Prop)
    (hR : ∀ pre x args C X, J pre C X → CbkOk us pre x args C base X → YieldAt Fence.wide 0 Try.prog l args X fun e Y =>
      (e = .returned (.bool true) ∧ ∃ C', J (pre ++ [x]) C' Y ∧ RdN N base C C' X Y) ∨ (e = .returned (.bool false) ∧ Jx Y ∧ RdN N base C C X Y))
    (W : World) (hN : ∀ k, N k → k < W.heap.size) (h0 : J [] (fun _ => False) W) (hv : ∀ j (hj : j < us.length), W.cell? ⟨q, j, none⟩ = some us[j]) (hNq : N q) (hNR : N R) (hc : W.cell? ⟨R, 0, none⟩ = some (.slice (some ⟨q, 0, none⟩) us.length cap)) :
    CallsIn Fence.wide n Try.prog 49 #[.func (.yield l) #[] #[], .pointer (some ⟨R, 0, none⟩)] W fun e Z => (∃ v, e = .returned v) ∧ ((∃ C, J (List.range us.length).reverse C Z) ∨ Jx Z) := by
  have hdep : ∀ k : Nat, (Fence.wide.depth.isSome = true → 1 ≤ k) := fun k h => by simp [Fence.wide] at h
  have hkeep : ∀ Y : World, (∀ k, N k → Y.heap[k]? = W.heap[k]?) → (∀ j (hj : j < us.length), Y.cell? ⟨q, j, none⟩ = some us[j]) ∧ Y.cell? ⟨R, 0, none⟩ = some (.slice (some ⟨q, 0, none⟩) us.length cap) := fun Y h =>
    ⟨fun j hj => (World.cell?_of_block (w := W) (a := ⟨q, j, none⟩) (h q hNq)).trans (hv j hj), (World.cell?_of_block (w := W) (a := ⟨R, 0, none⟩) (h R hNR)).trans hc⟩
  have W0 : IntKind.i64.wrap ((us.length : Int) - 1) = (us.length : Int) - 1 := IntWalk.i64_in _ (by omega)
  refine callsIn_of_wp Try.func49 rfl trivial ?_ rfl
  simp only [Try.ntmps49, List.size_toArray, List.length_cons, List.length_nil, Nat.reduceAdd, Nat.reduceSub, Array.replicate_succ, Array.replicate_zero, List.push_toArray, List.append_toArray, List.nil_append, List.cons_append]
  have hB0 : ∀ k, k < us.length → IntKind.i64.wrap ((k : Int) - 1) = (k : Int) - 1 := fun k hk => IntWalk.i64_in _ (by omega)
  gi_upto_region 1 with fail
  gi_loopg [3] (us.length) (fun k i wr => k ≤ us.length ∧ i = .int .i64 ((k : Int) - 1) ∧ ∃ C, J (cbk us.length k) C wr ∧ (∀ j, N j → wr.heap[j]? = W.heap[j]?) ∧ W.heap.size ≤ wr.heap.size)
  case atStart => exact ⟨Nat.le_refl _, rfl, _, by rw [cbk_none]; exact h0, fun _ _ => rfl, Nat.le_refl _⟩
  case round =>
    obtain ⟨hk, rfl, C, hJ, hsame, hsz⟩ := hrel
    cases gk with
    | zero =>
      rw [cbk_all] at hJ
      have e1 : decide ((0 : Int) ≤ ((0 : Nat) : Int) - 1) = false := by decide
      gi_wp2
      go_end0
      exact ⟨⟨_, rfl⟩, .inl ⟨C, hJ⟩⟩
    | succ k =>
      have hi : ((k + 1 : Nat) : Int) - 1 = (k : Int) := by omega
      rw [hi]
      obtain ⟨hrw, hcR⟩ := hkeep wr hsame
      have hu := hrw k (by omega)
      have Wk := hB0 k (by omega)
      have hkl : k < us.length := by omega
      obtain ⟨fn, tmps, assign, body, hy, hR2⟩ := yield_any_depth (n - 1) (hR (cbk us.length (k + 1)) k #[.int .i64 (k : Int), us[k]] C wr hJ ⟨hkl, rfl, rfl⟩)
      have hcC : ∀ C' Y, RdN N base C C' wr Y → (∀ j, N j → Y.heap[j]? = W.heap[j]?) ∧ W.heap.size ≤ Y.heap.size := fun C' Y h => ⟨fun j hj => (h.block j (Nat.lt_of_lt_of_le (hN j hj) hsz) (.inl hj)).trans (hsame j hj), Nat.le_trans hsz h.size⟩
      obtain ⟨uk, huk⟩ : ∃ uk, us[k] = uk := ⟨_, rfl⟩
      rw [huk] at hu hy
      clear hrw hkeep hR hB0
      gi_wp2
      refine ⟨hdep _, hR2.mono ?_⟩
      rintro e Z (⟨rfl, C', hJ2, hr⟩ | ⟨rfl, hx, _⟩)
      · rw [cbk_step _ _ hkl] at hJ2
        gi_wp2
        gi_roundg k
        case measure => omega
        case rel => exact ⟨by omega, rfl, C', hJ2, (hcC C' Z hr).1, (hcC C' Z hr).2⟩
      · gi_wp2
        (try simp only [Exit.inBlock, Exit.then])
        refine bodyPost_ret (results_none rfl _ _ _) rfl ?_
        exact ⟨⟨_, rfl⟩, .inr hx⟩
/-- What the function that Backward answers gives. -/
theorem cback_gives (q : Nat) (N : Nat → Prop) (us : List Value) (cap : Nat) (hl : us.length ≤ 4000000) (R : Nat) (w : World) (hN : ∀ k, N k → k < w.heap.size) (hNR : N R) (hNq : N q) (hv : ∀ j (hj : j < us.length), w.cell? ⟨q, j, none⟩ = some us[j]) (hc : w.cell? ⟨R, 0, none⟩ = some (.slice (some ⟨q, 0, none⟩) us.length cap)) :
    GivesN Try.prog 49 #[.pointer (some ⟨R, 0, none⟩)] N (CbkOk us) (fun xs => xs = (List.range us.length).reverse) w := by
  intro l m J Jx W hb hJ hJx hR h0
  refine callsIn_wide.1 ((cbiter_any 0 l W.heap.size R q N us cap hl J Jx (fun pre x args C X h1 h2 => yield_any_depth 0 (hR pre x args C X h1 h2)) W (fun k hk => Nat.lt_of_lt_of_le (hN k hk) hb.size) h0 (fun j hj => (hb.cell (p := ⟨q, j, none⟩) (hN q hNq)).trans (hv j hj)) hNq hNR ((hb.cell (p := ⟨R, 0, none⟩) (World.block_lt_of_cell? w _ hc)).trans hc)).mono ?_)
  rintro e Y ⟨h1, h2⟩
  exact ⟨h1, h2.elim (fun ⟨C, h⟩ => .inl ⟨_, C, rfl, h⟩) .inr⟩
end Go.Proofs.Ytjjhkagpoicimaa
