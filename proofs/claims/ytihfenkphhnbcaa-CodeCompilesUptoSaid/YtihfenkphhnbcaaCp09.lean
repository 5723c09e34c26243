/- The proof's texts NdWg, NdAb: what the claim reaches of them. -/
import Derived.Test.YtihfenkphhnbcaaCp08
import Derived.Test.YtihfenkphhnbcaaCp03
import Derived.RangeFuncBound
import Derived.RangeFuncCalls
import Derived.Shelf.Abstract
import Derived.Shelf.RegionOpen
import Derived.WalkKit
import Derived.OwnWalkIn
import Derived.TacticsInMore
import Derived.LoopNIn
import Derived.LoopIn
import Derived.Sort.LoopGhostIn
import Derived.Sort.CutIn
import Derived.Maps.OwnIn
namespace Go.Proofs.Ytihfenkphhnbcaa
open Go Go.RowKit
attribute [local go_sem] Oper.semAt_some
theorem round_any_depth {m m' : Nat} {P : Program} {l : Nat} {f : FuncId} {tmps : Array Value} {assign body : Code} {w : World} {R : Ending → World → Prop}
    (h : RoundIn Fence.wide m P l f tmps assign body w R) : RoundIn Fence.wide m' P l f tmps assign body w R := ⟨h.1, fun c cs _ => h.2 c cs (room_wide _)⟩
theorem yield_any_depth {m : Nat} (m' : Nat) {P : Program} {l : Nat} {args : Array Value} {W : World} {R : Ending → World → Prop} (h : YieldAt Fence.wide m P l args W R) : YieldAt Fence.wide m' P l args W R := by
  obtain ⟨fn, tmps, assign, body, hy, hR⟩ := h
  exact ⟨fn, tmps, assign, body, hy, round_any_depth hR⟩
theorem open_info : ∃ i, Try.prog.info? 106 = some i ∧ i.zero = some (.agg #[.nilIface, .slice none 0 0]) ∧ i.size = 2 ∧ i.bytes = 40 := by
  have h : (Try.prog.info? 106).map (fun i => (i.zero, i.size, i.bytes)) = some (some (.agg #[.nilIface, .slice none 0 0]), 2, 40) := by kernel_rfl
  obtain ⟨i, hi, he⟩ := Option.map_eq_some_iff.1 h
  injection he with h1 h2
  injection h2 with h2 h3
  exact ⟨i, hi, h1, h2, h3⟩
def NdOk (n₀ : Nat) (root : Nd) (pre : List (Nd × Bool)) (x : Nd × Bool) (args : Array Value) (C : Nat → Prop) (base : Nat) (W : World) : Prop :=
  ∃ v, args = #[v, .bool x.2] ∧ (∃ suf, pre ++ x :: suf = evs root) ∧ NdX (fun k => k < n₀ ∨ (base ≤ k ∧ ¬ C k)) W x.1 v
set_option linter.unusedSimpArgs false in
set_option maxRecDepth 100000 in
set_option maxHeartbeats 4000000 in
theorem begin_any (n l base n₀ S Y : Nat) (root : Nd) (hsz : nsize root ≤ 4000000) (J : List (Nd × Bool) → (Nat → Prop) → World → Prop) (Jx : World → Prop)
    (hJ : ∀ pre C X Y, J pre C X → Other base C X Y → J pre C Y)
    (hR : ∀ pre x args C X, J pre C X → NdOk n₀ root pre x args C base X → YieldAt Fence.wide 0 Try.prog l args X fun e Y =>
      (e = .returned (.bool true) ∧ ∃ C', J (pre ++ [x]) C' Y ∧ Rdn n₀ base C C' X Y) ∨ (e = .returned (.bool false) ∧ Jx Y ∧ Rdn n₀ base C C X Y))
    (pre : List (Nd × Bool)) (C : Nat → Prop) (W : World) (s : List (Nd × List Nd)) (sv : Value) (us : List Value) (d : Nd) (v : Value)
    (hS : Stk n₀ base S Y l C W s sv us) (h0 : J pre C W) (hd : NdX (Lies n₀ base C S sv) W d v) (hp : pre ++ (evs d ++ rem s) = evs root) (hC : ∀ k, C k → k < W.heap.size) :
    CallsIn Fence.wide n Try.prog 38 #[v, .pointer (some ⟨S, 0, none⟩), .pointer (some ⟨Y, 0, none⟩)] W fun e Z =>
      ∃ b, e = .returned (.bool b) ∧ (b = true → ∃ C' sv' us', J (pre ++ [(d, true)]) C' Z ∧ Stk n₀ base S Y l C' Z (s ++ [(d, nkids d)]) sv' us' ∧ ∀ k, C' k → k < Z.heap.size) ∧ (b = false → Jx Z) := by
  obtain ⟨i0, hi, hz0, hz1, hz2⟩ := open_info
  have hlen : s.length + 2 ≤ 8000000 := by
    have h1 := evs_len root
    have h2 := rem_len s
    have h3 := congrArg List.length hp
    have h4 : 2 ≤ (evs d).length := by rw [evs_kids]; simp
    simp at h3
    omega
  have hI := fun (w' : World) (hb : Below W.heap.size W w') => inner_any (F := Lies n₀ base C S sv) d v w' (hd.below hb)
  have hdep : ∀ k : Nat, (Fence.wide.depth.isSome = true → 1 ≤ k) := fun k h => by simp [Fence.wide] at h
  have hbs : base ≤ W.heap.size := by have := hS.bS; have := hS.lS; omega
  have hsh : (∃ T q, v = .iface T q) ∨ v = .nilIface := hd.elim fun _ h => nd_shape h
  have hv1 : v.oneCell' = true := by rcases hsh with ⟨_, _, rfl⟩ | rfl <;> rfl
  have hm1 : s.length + 1 ≤ maxLen := by unfold maxLen; omega
  have hm2 : (s.length + 1) * 40 ≤ 140737488355328 := by omega
  have hone : ∀ (a2 : Option Addr) (k cap2 : Nat), ∀ y ∈ [v, .slice a2 k cap2], y.oneCell' = true := by
    intro a2 k cap2 y hy
    simp at hy
    rcases hy with rfl | rfl
    · exact hv1
    · rfl
  have hPush : ∀ (w2 w3 : World) (a2 : Option Addr) (cap2 : Nat) (v' : Value), Below W.heap.size W w2 → NdRw (fun b => Lies n₀ base C S sv b ∨ W.heap.size ≤ b) w2 (nkids d) a2 cap2 →
      w3.ownsRow base 106 2 v' (s.length + 1) (us ++ [v, .slice a2 (nkids d).length cap2]) → (w2.alloc (.cells #[v, .slice a2 (nkids d).length cap2] 106)).grownBy w3 sv.ownBlock → (v'.ownBlock = sv.ownBlock ∨ v'.ownBlock = some (w2.alloc (.cells #[v, .slice a2 (nkids d).length cap2] 106)).heap.size) →
      Boxed w3 S 103 sv ∧ Stk n₀ base S Y l C (w3.setCell ⟨S, 0, none⟩ v') (s ++ [(d, nkids d)]) v' (us ++ [v, .slice a2 (nkids d).length cap2]) ∧ Other base C W (w3.setCell ⟨S, 0, none⟩ v') ∧ NdX (Lies n₀ base C S v') (w3.setCell ⟨S, 0, none⟩ v') d v := by
    intro w2 w3 a2 cap2 v' hb2 hr2 hown' hgrow hat
    exact hS.push (hb2.trans ((Below.refl _ w2).alloc hb2.size (.cells #[v, .slice a2 (nkids d).length cap2] 106))) hd (hr2.below ((Below.refl _ w2).alloc (Nat.le_refl _) _)) hC hown' hgrow hat
  have hc := hS.box.cell
  have hf := hS.box.frozen
  have hmix : Try.prog.follows .mixedOrders = true := by kernel_rfl
  rcases hsh with ⟨T, q, rfl⟩ | rfl
  all_goals
    refine callsIn_of_wp Try.func38 rfl trivial ?_ rfl
    simp only [Try.ntmps38, List.size_toArray, List.length_cons, List.length_nil, Nat.reduceAdd, Nat.reduceSub, Array.replicate_succ, Array.replicate_zero, List.push_toArray, List.append_toArray, List.nil_append, List.cons_append]
    gi_upto_region 1 with fail
    gi_cut [] from 5 (fun wx => ∃ sv' us', J pre C wx ∧ Stk n₀ base S Y l C wx (s ++ [(d, nkids d)]) sv' us' ∧ Other base C W wx ∧ NdX (Lies n₀ base C S sv') wx d _)
    case first =>
      refine wpIn_wide.2 ?_
      go_region_law (first
        | (refine step_call rfl _ _ _ rfl 39 _ rfl (by rfl) (enters_of Try.func39 (by kernel_rfl) rfl) (hI _ (by first | exact Below.refl _ _ | exact Below.drew (Below.refl _ _))) ?_; rintro e w2 ⟨a2, cap2, rfl, hr2, hb2'⟩; refine ⟨_, rfl, ?_⟩; have hb2 : Below W.heap.size W w2 := (by first | exact hb2' | exact (Below.drew (Below.refl _ _)).trans hb2'); clear hb2'; have hS2 := hS.below hb2; have hc2 := hS2.box.cell; have hcA := fun o => (hS2.box.alloc o).cell; have hf2 := hS2.box.frozen)
        | (refine step_append_lies _ rfl _ _ 103 rfl base 106 i0 (.agg #[.nilIface, .slice none 0 0]) 2 40 Try.underlying103 hi hz0 hz1 hz2 rfl (by decide) sv s.length us rfl (hS2.row.alloc _) ⟨w2.heap.size, 0, none⟩ 1 1 [_, .slice a2 (nkids d).length cap2] rfl rfl (cell_two_new _ _ _ _) (hone _ _ _) (by decide) hm1 hm2 (by simp; have := hb2.size; omega) _ rfl ?_; intro g' cap' w3 hown' hgrow hat _; obtain ⟨hS3, hS4, hO4, hd4⟩ := hPush w2 w3 a2 cap2 _ hb2 hr2 hown' hgrow (hat.elim (fun h => .inl h.symm) (fun h => .inr (by rw [h]; rfl))); have hc3 := hS3.cell; have hf3 := hS3.frozen))
      all_goals go_wp2_with fail
      all_goals gi_meet
      all_goals exact ⟨_, _, hJ _ _ _ _ h0 hO4, hS4, hO4, hd4⟩
    case rest =>
      obtain ⟨sv', us', hJ1, hS1, hO1, hd1⟩ := hcut
      have hC1 : ∀ k, C k → k < wc.heap.size := fun k hk => Nat.lt_of_lt_of_le (hC k hk) hO1.size
      have hcC := hS1.cC
      have hy1 := hS1.yld.cell
      have hf1 := hS1.yld.frozen
      obtain ⟨fn, tmps, assign, body, hy, hR⟩ := yield_any_depth (n - 1) (hR pre (d, true) #[_, .bool true] C wc hJ1 ⟨_, rfl, ⟨evss (nkids d) ++ ((d, false) :: rem s), by rw [← hp, evs_kids]; simp⟩, ndx_lies hd1⟩)
      gi_wp2
      refine ⟨hdep _, hR.mono ?_⟩
      rintro e Z (⟨rfl, C', hJ2, hr⟩ | ⟨rfl, hx, _⟩)
      · gi_wp2
        go_ret
        have hcC' : ∀ k, C' k → base ≤ k := fun k hk => (hr.new k hk).elim (hcC k) (fun h => by have := hO1.size; omega)
        exact ⟨true, rfl, fun _ => ⟨C', sv', us', hJ2, hS1.round hr hcC', fun k hk => (hr.new k hk).elim (fun h => Nat.lt_of_lt_of_le (hC1 k h) hr.size) (fun h => h.2)⟩, fun h => absurd h (by decide)⟩
      · gi_wp2
        go_ret
        exact ⟨false, rfl, fun h => absurd h (by decide), fun _ => hx⟩
set_option linter.unusedSimpArgs false in
set_option maxRecDepth 100000 in
set_option maxHeartbeats 4000000 in
theorem iter_any (n l base n₀ R : Nat) (root : Nd) (hsz : nsize root ≤ 4000000) (J : List (Nd × Bool) → (Nat → Prop) → World → Prop) (Jx : World → Prop)
    (hJ : ∀ pre C X Y, J pre C X → Other base C X Y → J pre C Y) (hJx : ∀ X Y, Jx X → Other base (fun _ => False) X Y → Jx Y)
    (hR : ∀ pre x args C X, J pre C X → NdOk n₀ root pre x args C base X → YieldAt Fence.wide 0 Try.prog l args X fun e Y =>
      (e = .returned (.bool true) ∧ ∃ C', J (pre ++ [x]) C' Y ∧ Rdn n₀ base C C' X Y) ∨ (e = .returned (.bool false) ∧ Jx Y ∧ Rdn n₀ base C C X Y))
    (W : World) (v : Value) (hb : base = W.heap.size) (hn : n₀ ≤ base) (h0 : J [] (fun _ => False) W) (hv : NdX (fun k => k < n₀) W root v) (hc : W.cell? ⟨R, 0, none⟩ = some v) :
    CallsIn Fence.wide n Try.prog 37 #[.func (.yield l) #[] #[], .pointer (some ⟨R, 0, none⟩)] W fun e Z => (∃ v, e = .returned v) ∧ ((∃ C, J (evs root) C Z) ∨ Jx Z) := by
  have hdep : ∀ k : Nat, (Fence.wide.depth.isSome = true → 1 ≤ k) := fun k h => by simp [Fence.wide] at h
  refine callsIn_of_wp Try.func37 rfl trivial ?_ rfl
  simp only [Try.ntmps37, List.size_toArray, List.length_cons, List.length_nil, Nat.reduceAdd, Nat.reduceSub, Array.replicate_succ, Array.replicate_zero, List.push_toArray, List.append_toArray, List.nil_append, List.cons_append]
  obtain ⟨W0, hW0⟩ : ∃ W0, (W.alloc (.cells #[.func (.yield l) #[] #[]] 102)).alloc (.cells #[.slice none 0 0] 103) = W0 := ⟨_, rfl⟩
  have hB0 : Below W.heap.size W W0 := by rw [← hW0]; exact ((Below.refl _ W).alloc (Nat.le_refl _) _).alloc (by simp) _
  have hRlt : R < W.heap.size := World.block_lt_of_cell? W _ hc
  have hcR : W0.cell? ⟨R, 0, none⟩ = some v := (hB0.cell (p := ⟨R, 0, none⟩) hRlt).trans hc
  have hS0 : Stk n₀ base (W.heap.size + 1) W.heap.size l (fun _ => False) W0 [] (.slice none 0 0) [] := by
    have hY := Boxed.new W 102 (.func (.yield l) #[] #[])
    have hS := Boxed.new (W.alloc (.cells #[.func (.yield l) #[] #[]] 102)) 103 (.slice none 0 0)
    rw [World.size_alloc, hW0] at hS
    have hY2 := hY.alloc (.cells #[.slice none 0 0] 103)
    rw [hW0] at hY2
    exact ⟨hS, hY2, by omega, by omega, hn, fun h => h, fun h => h, fun k h => h.elim, World.ownsRow_nil _ _ _ _, fun g h => by simp [Value.ownBlock] at h, rfl⟩
  have hJ0 : J [] (fun _ => False) W0 := hJ _ _ _ _ h0 (Other.of_below hB0)
  have hbeg := begin_any (n - 1) l base n₀ (W.heap.size + 1) W.heap.size root hsz J Jx hJ hR [] (fun _ => False) W0 [] (.slice none 0 0) [] root v hS0 hJ0
    ((hv.below hB0).keep (Nat.le_refl _) (fun b hb _ => ⟨.inl hb, fun _ => rfl⟩)) (by simp [rem]) (fun k h => h.elim)
  gi_wp2_with (refine ⟨trivial, hdep _, ?_⟩; gi_at_call 38; refine hbeg.mono ?_; clear hbeg; rintro e Z1 ⟨b1, rfl, hg1⟩)
  clear hS0 hJ0 hcR hB0 hc hv h0
  gi_loopg [5] (2 * nsize root) (fun k go wr => ∃ b, go = .bool b ∧ (b = true → ∃ pre C s sv us, J pre C wr ∧ Stk n₀ base (W.heap.size + 1) W.heap.size l C wr s sv us ∧ pre ++ rem s = evs root ∧ (∀ k, C k → k < wr.heap.size) ∧ (rem s).length + 1 ≤ k) ∧ (b = false → Jx wr))
  case atStart =>
    refine ⟨b1, rfl, fun h => ?_, hg1.2⟩
    obtain ⟨C1, sv1, us1, hJ1, hS1, hC1⟩ := hg1.1 h
    have hr : evs root = (root, true) :: rem [(root, nkids root)] := by rw [evs_kids]; simp [rem]
    refine ⟨_, C1, _, sv1, us1, hJ1, hS1, by rw [hr]; rfl, hC1, ?_⟩
    have := evs_len root
    rw [hr] at this
    simp at this
    simp
    omega
  case round =>
    obtain ⟨b, rfl, ht, hf⟩ := hrel
    cases b with
    | false =>
      have hx := hf rfl
      clear ht hf
      gi_wp2
      go_end0
      exact ⟨⟨_, rfl⟩, .inr hx⟩
    | true =>
      obtain ⟨pre, C, s, sv, us, hJ1, hS1, hp, hC, hk⟩ := ht rfl
      clear ht hf hg1
      rcases List.eq_nil_or_concat s with rfl | ⟨s, ⟨d, r⟩, rfl⟩
      · obtain ⟨a, c, rfl⟩ : ∃ a c, sv = .slice a 0 c := by
          rcases hS1.row.2 with ⟨e, _⟩ | ⟨g, cap, cur, e, _⟩
          · exact ⟨_, _, e⟩
          · exact ⟨_, _, e⟩
        have hc1 := hS1.box.cell
        gi_wp2
        go_end0
        exact ⟨⟨_, rfl⟩, .inl ⟨C, by rw [← hp]; simpa [rem] using hJ1⟩⟩
      · rw [List.concat_eq_append] at hS1 hp hk
        have hlen : s.length + 1 ≤ 8000000 := by
          have h1 := evs_len root
          have h2 := rem_len (s ++ [(d, r)])
          have h3 := congrArg List.length hp
          simp at h2 h3
          omega
        obtain ⟨g, cap, us', v2, a2, cap2, rfl, _, hul, q0, q1, qf, hd2, hr2⟩ := hS1.top
        have hc1 := hS1.box.cell
        have hf1 := hS1.box.frozen
        have hbw : base ≤ wr.heap.size := by have := hS1.bS; have := hS1.lS; omega
        have Wn : IntKind.i64.wrap ((s.length : Int) + 1 - 1) = (s.length : Int) := by rw [IntWalk.i64_in _ (by omega)]; omega
        cases r with
        | nil =>
          have hp2 : (pre ++ [(d, false)]) ++ rem s = evs root := by rw [← hp, rem_snoc]; simp [evss]
          have hk2 : (rem s).length + 1 < gk := by rw [rem_snoc] at hk; simp [evss] at hk; omega
          obtain ⟨fn, tmps, assign, body, hy, hR2⟩ := yield_any_depth (n - 1) (hR pre (d, false) #[v2, .bool false] C wr.drew (hJ _ _ _ _ hJ1 (Other.drew (Other.refl _ _ _))) ⟨_, rfl, ⟨rem s, by rw [← hp2]; simp⟩, (ndx_lies hd2).drew⟩)
          have hyd := hS1.yld.cell
          have hR3 := hR2.mono (R' := fun e Z => ∃ b, e = .returned (.bool b) ∧ ∃ C', (b = true → J (pre ++ [(d, false)]) C' Z) ∧ (b = false → Jx Z ∧ C' = C) ∧ Rdn n₀ base C C' wr.drew Z) (fun e Z h => h.elim (fun ⟨he, C', h1, h2⟩ => ⟨true, he, C', fun _ => h1, fun h => absurd h (by decide), h2⟩) (fun ⟨he, h1, h2⟩ => ⟨false, he, C, fun h => absurd h (by decide), fun _ => ⟨h1, rfl⟩, h2⟩))
          clear hR2 hd2 hr2
          have hcC := hS1.cC
          have hmix : Try.prog.follows .mixedOrders = true := by kernel_rfl
          gi_upto_region 10 with fail
          gi_cut [5] from 12 (fun x wx => ∃ b, x = .bool b ∧ ∃ C', (b = true → J (pre ++ [(d, false)]) C' wx) ∧ (b = false → Jx wx) ∧ Stk n₀ base (W.heap.size + 1) W.heap.size l C' wx (s ++ [(d, [])]) (.slice (some ⟨g, 0, none⟩) (s.length + 1) cap) us ∧ ∀ k, C' k → k < wx.heap.size)
          case first =>
            gi_region_with_o (refine ⟨hdep _, hR3.mono ?_⟩; rintro e Z ⟨b, rfl, C', h1, h2, hr⟩)
            all_goals gi_wp2
            all_goals gi_meet
            all_goals exact ⟨b, rfl, C', h1, fun h => (h2 h).1, (hS1.below (Below.drew (Below.refl _ _))).round hr (fun k hk => Or.elim (hr.new k hk) (hcC k) (fun h => Nat.le_trans hbw h.1)), fun k hk => Or.elim (hr.new k hk) (fun h => Nat.lt_of_lt_of_le (hC k h) hr.size) (fun h => h.2)⟩
          case rest =>
            obtain ⟨b, rfl, C', h1, h2, hS3, hC3⟩ := hcut
            obtain ⟨us3, hS4, hO4⟩ := hS3.pop
            have hc3 := hS3.box.cell
            have hf3 := hS3.box.frozen
            have hcp : s.length + 1 ≤ cap := by
              exact row_cap hS3.row
            have hcp2 : (s.length : Int) ≤ (cap : Int) := by omega
            have hcp3 : ¬ cap = 0 := by omega
            gi_wp2
            gi_roundg ((rem s).length + 1)
            case measure => exact hk2
            case rel => exact ⟨b, rfl, fun h => ⟨_, C', s, _, us3, hJ _ _ _ _ (h1 h) hO4, hS4, hp2, fun k hk => Nat.lt_of_lt_of_le (hC3 k hk) hO4.size, Nat.le_refl _⟩, fun h => hJx _ _ (h2 h) hO4.none⟩
        | cons c r' =>
          obtain ⟨b2, o2, u, rfl, hfb, hlt, hcap, hu, hdu, htl⟩ := hr2.tail
          obtain ⟨a4, cap4, htl4, hcase⟩ : ∃ a4 cap4, NdRw (Lies n₀ base C (W.heap.size + 1) (.slice (some ⟨g, 0, none⟩) (s.length + 1) cap)) wr r' a4 cap4 ∧ ((cap2 = 1 ∧ a4 = some ⟨b2, o2, none⟩ ∧ cap4 = 0 ∧ r' = []) ∨ (1 < cap2 ∧ a4 = some ⟨b2, o2 + 1, none⟩ ∧ cap4 = cap2 - 1)) := by
            rcases Nat.eq_or_lt_of_le hcap with h1 | h1
            · have h2 := hr2.1
              simp at h2
              have h3 : r' = [] := List.eq_nil_of_length_eq_zero (by omega)
              subst h3
              exact ⟨_, _, NdRw.nil _ _ _ _ (by decide), .inl ⟨h1.symm, rfl, rfl, rfl⟩⟩
            · exact ⟨_, _, htl, .inr ⟨h1, rfl, rfl⟩⟩
          have hr2c := hr2.1
          simp at hr2c
          clear htl hr2
          obtain ⟨us2, hS2, hO2⟩ := hS1.shift htl4
          have hp2 : pre ++ (evs c ++ rem (s ++ [(d, r')])) = evs root := by rw [← hp, rem_snoc, rem_snoc]; simp [evss]
          have hk2 : (rem (s ++ [(d, r')])).length + (evs c).length < gk := by
            have h1 := congrArg List.length (evs_kids c)
            rw [rem_snoc] at hk
            rw [rem_snoc]
            simp [evss] at hk h1 ⊢
            omega
          have hl2 := congrArg List.length (evs_kids c)
          simp at hl2
          obtain ⟨mz, hmz⟩ : ∃ mz, mz = (rem (s ++ [(d, r')])).length + (evs c).length := ⟨_, rfl⟩
          rw [← hmz] at hk2
          have hrem : (rem ((s ++ [(d, r')]) ++ [(c, nkids c)])).length + 1 ≤ mz := by rw [rem_snoc]; simp; omega
          clear hmz hl2
          have hbeg := begin_any (n - 1) l base n₀ (W.heap.size + 1) W.heap.size root hsz J Jx hJ hR pre C _ _ _ us2 c u hS2 (hJ _ _ _ _ hJ1 hO2)
            (hdu.keep hO2.size (fun k hk hlt => ⟨hk, fun o => World.cell?_of_block (w := wr) (a := ⟨k, o, none⟩) (Below.heap_setCell _ _ _ _ (stk_apart hS1 hk))⟩)) hp2 (fun k hk => Nat.lt_of_lt_of_le (hC k hk) hO2.size)
          clear hS1 hS2 hdu htl4 hd2
          rcases hcase with ⟨rfl, rfl, rfl, rfl⟩ | ⟨hc1, rfl, rfl⟩
          all_goals
            gi_wp2_with (refine ⟨trivial, hdep _, ?_⟩; gi_at_call 38; refine hbeg.mono ?_; clear hbeg; rintro e Z ⟨b, rfl, h1, h2⟩)
            gi_roundg mz
            case measure => exact hk2
            case rel =>
              refine ⟨b, rfl, fun h => ?_, h2⟩
              obtain ⟨C', sv', us', g1, g2, g3⟩ := h1 h
              exact ⟨_, C', _, sv', us', g1, g2, by rw [← hp2, evs_kids, rem_snoc, rem_snoc]; simp, g3, hrem⟩
end Go.Proofs.Ytihfenkphhnbcaa
namespace Go.Proofs.Ytihfenkphhnbcaa
open Go Go.RowKit
theorem walk_any (v : Value) (w : World) (hsh : (∃ T q, v = .iface T q) ∨ v = .nilIface) : Calls Try.prog 30 #[v] w fun e w' => e = .returned (.func (.func 37) #[] #[.pointer (some ⟨w.heap.size, 0, none⟩)]) ∧ w' = w.alloc (.cells #[v] 37) := by
  rcases hsh with ⟨T, q, rfl⟩ | rfl
  all_goals
    go_enter Try.func30, Try.ntmps30
    go_wp2_with fail
    go_ret
    exact ⟨rfl, rfl⟩
theorem walk_gives (root : Nd) (hsz : nsize root ≤ 4000000) (n₀ R : Nat) (v : Value) (w : World) (hn : n₀ ≤ w.heap.size) (hc : w.cell? ⟨R, 0, none⟩ = some v) (hv : NdX (fun k => k < n₀) w root v) :
    Gives Try.prog 37 #[.pointer (some ⟨R, 0, none⟩)] n₀ (NdOk n₀ root) (fun xs => xs = evs root) w := by
  intro l m J Jx W hb hJ hJx hR h0
  refine callsIn_wide.1 ((iter_any 0 l W.heap.size n₀ R root hsz J Jx hJ hJx (fun pre x args C X h1 h2 => yield_any_depth 0 (hR pre x args C X h1 h2)) W v rfl (Nat.le_trans hn hb.size) h0 (hv.below hb) ((hb.cell (p := ⟨R, 0, none⟩) (World.block_lt_of_cell? w _ hc)).trans hc)).mono ?_)
  rintro e Y ⟨h1, h2⟩
  refine ⟨h1, h2.elim (fun ⟨C, h⟩ => .inl ⟨_, C, rfl, h⟩) .inr⟩
theorem nd_ok_put {n₀ : Nat} {root : Nd} {pre : List (Nd × Bool)} {x : Nd × Bool} {args : Array Value} {C : Nat → Prop} {base k : Nat} {W : World} {o : Obj} (h : NdOk n₀ root pre x args C base W) (h1 : n₀ ≤ k) (h2 : k < base) : NdOk n₀ root pre x args C base (W.putObj k o) := by
  obtain ⟨v, ha, hs, hv⟩ := h
  refine ⟨v, ha, hs, hv.keep (by simp) (fun b hb _ => ⟨hb, fun p => World.cell?_of_block (w := W) (a := ⟨b, p, none⟩) (World.putObj_heap_other ?_)⟩)⟩
  show b ≠ k
  rcases hb with hb | hb
  · omega
  · omega
end Go.Proofs.Ytihfenkphhnbcaa
namespace Go.Proofs.Ytihfenkphhnbcaa
open Go Go.RowKit
attribute [local go_sem] Oper.semAt_some
def cnt (p : Nd × Bool → Bool) (l : List (Nd × Bool)) : Nat := (l.filter p).length
theorem cnt_snoc (p : Nd × Bool → Bool) (l : List (Nd × Bool)) (x : Nd × Bool) : cnt p (l ++ [x]) = cnt p l + (if p x then 1 else 0) := by
  unfold cnt
  rw [List.filter_append, List.length_append]
  cases h : p x <;> simp [h]
theorem cnt_append (p : Nd × Bool → Bool) (l m : List (Nd × Bool)) : cnt p (l ++ m) = cnt p l + cnt p m := by
  unfold cnt
  rw [List.filter_append, List.length_append]
theorem cnt_cons (p : Nd × Bool → Bool) (x : Nd × Bool) (l : List (Nd × Bool)) : cnt p (x :: l) = (if p x then 1 else 0) + cnt p l := by
  rw [show x :: l = [x] ++ l from rfl, cnt_append]
  unfold cnt
  cases h : p x <;> simp [h]
theorem cnt_nil (p : Nd × Bool → Bool) : cnt p [] = 0 := rfl
theorem cnt_le (p : Nd × Bool → Bool) (l : List (Nd × Bool)) : cnt p l ≤ l.length := List.length_filter_le _ _
def ngb (x : Nd × Bool) : Bool := ngrp x.1 && x.2
theorem ngb_cat (l : List Nd) (b : Bool) : ngb (.cat l, b) = false := rfl
theorem ngb_alt (l : List Nd) (b : Bool) : ngb (.alt l, b) = false := rfl
theorem ngb_rep (d : Nd) (m n : Int) (b : Bool) : ngb (.rep d m n, b) = false := rfl
theorem ngb_group (d : Nd) (n : Int) (b : Bool) : ngb (.group n d, b) = b := Bool.true_and b
mutual
theorem evs_groups : ∀ d : Nd, cnt ngb (evs d) = ngroups d
  | .cat l => by have := evss_groups l; simp [evs, ngroups, cnt_cons, cnt_append, cnt_nil, ngb_cat, this]
  | .alt l => by have := evss_groups l; simp [evs, ngroups, cnt_cons, cnt_append, cnt_nil, ngb_alt, this]
  | .rep d _ _ => by have := evs_groups d; simp [evs, ngroups, cnt_cons, cnt_append, cnt_nil, ngb_rep, this]
  | .group _ d => by have := evs_groups d; simp [evs, ngroups, cnt_cons, cnt_append, cnt_nil, ngb_group, this]; omega
  | .empty => rfl
  | .one _ => rfl
  | .back _ => rfl
  | .start => rfl
  | .fin => rfl
theorem evss_groups : ∀ l : List Nd, cnt ngb (evss l) = ngroupss l
  | [] => rfl
  | d :: ds => by have := evs_groups d; have := evss_groups ds; simp [evss, ngroupss, cnt_append, *]
end
structure Ctr (w0 : World) (B t : Nat) (d : Nd) (val : List (Nd × Bool) → Value) (pre : List (Nd × Bool)) (C : Nat → Prop) (W : World) : Prop where
  nonc : ∀ k, ¬ C k
  box : Boxed W B t (val pre)
  below : Below w0.heap.size w0 W
  size : w0.heap.size ≤ B
theorem Ctr.other {w0 : World} {B t D : Nat} {d : Nd} {val : List (Nd × Bool) → Value} {pre : List (Nd × Bool)} {C : Nat → Prop} {X Y : World} (h : Ctr w0 B t d val pre C X) (ho : Other D C X Y) (hB : B < D) (hD : w0.heap.size ≤ D) : Ctr w0 B t d val pre C Y :=
  ⟨h.nonc, Boxed.same h.box (ho.block _ h.box.lt (.inl hB)), h.below.trans ⟨ho.os, ho.tape, ho.output, ho.size, fun k hk => ho.block k (Nat.lt_of_lt_of_le hk h.below.size) (.inl (Nat.lt_of_lt_of_le hk hD))⟩, h.size⟩
theorem Ctr.skip {w0 : World} {B t : Nat} {d : Nd} {val : List (Nd × Bool) → Value} {pre : List (Nd × Bool)} {x : Nd × Bool} {C : Nat → Prop} {X : World} (h : Ctr w0 B t d val pre C X) (hv : val (pre ++ [x]) = val pre) : Ctr w0 B t d val (pre ++ [x]) C X :=
  ⟨h.nonc, by rw [hv]; exact h.box, h.below, h.size⟩
theorem Ctr.step {w0 : World} {B t : Nat} {d : Nd} {val : List (Nd × Bool) → Value} {pre : List (Nd × Bool)} {x : Nd × Bool} {C : Nat → Prop} {X : World} {u : Value} (h : Ctr w0 B t d val pre C X) (hv : val (pre ++ [x]) = u) : Ctr w0 B t d val (pre ++ [x]) C (X.setCell ⟨B, 0, none⟩ u) :=
  ⟨h.nonc, by rw [hv]; exact Boxed.set u h.box, h.below.setCell (p := ⟨B, 0, none⟩) h.size u, h.size⟩
theorem Ctr.far {w0 : World} {B t : Nat} {d : Nd} {val : List (Nd × Bool) → Value} {pre : List (Nd × Bool)} {C : Nat → Prop} {X : World} {p : Addr} {u : Value} (h : Ctr w0 B t d val pre C X) (hp : w0.heap.size ≤ p.block) (hne : B ≠ p.block) : Ctr w0 B t d val pre C (X.setCell p u) :=
  ⟨h.nonc, Boxed.same h.box (Below.heap_setCell _ _ _ _ hne), h.below.setCell hp u, h.size⟩
theorem Ctr.mem {w0 : World} {B t : Nat} {d : Nd} {val : List (Nd × Bool) → Value} {pre : List (Nd × Bool)} {C : Nat → Prop} {X Y : World} (h : Ctr w0 B t d val pre C X) (hb : Below X.heap.size X Y) : Ctr w0 B t d val pre C Y :=
  ⟨h.nonc, Boxed.same h.box (hb.block _ h.box.lt), h.below.trans (hb.mono h.below.size), h.size⟩
theorem Rdn.refl (n₀ B : Nat) (C : Nat → Prop) (W : World) : Rdn n₀ B C C W W := ⟨Nat.le_refl _, fun _ _ _ => rfl, fun _ h => .inl h⟩
theorem Rdn.setCell (n₀ B : Nat) (C : Nat → Prop) (W : World) {p : Addr} {u : Value} (h1 : n₀ ≤ p.block) (h2 : p.block < B) : Rdn n₀ B C C W (W.setCell p u) :=
  ⟨by simp [World.setCell], fun k _ hk => Below.heap_setCell _ _ _ _ (fun e => by subst e; rcases hk with h | h <;> omega), fun _ h => .inl h⟩
theorem Rdn.below {n₀ B : Nat} {C : Nat → Prop} {W W' : World} (h : Below W.heap.size W W') : Rdn n₀ B C C W W' := ⟨h.size, fun k hk _ => h.block k hk, fun _ h => .inl h⟩
theorem Rdn.trans {n₀ B : Nat} {C : Nat → Prop} {X Y Z : World} (h : Rdn n₀ B C C X Y) (k : Rdn n₀ B C C Y Z) : Rdn n₀ B C C X Z :=
  ⟨Nat.le_trans h.size k.size, fun i hi hc => (k.block i (Nat.lt_of_lt_of_le hi h.size) hc).trans (h.block i hi hc), fun _ h => .inl h⟩
theorem below_put {w0 W : World} {D : Nat} {o' : Obj} (hD : w0.heap.size ≤ D) : Below w0.heap.size W (W.putObj D o') :=
  ⟨rfl, rfl, rfl, by simp, fun k hk => World.putObj_heap_other (by omega)⟩
theorem pre_len {pre : List (Nd × Bool)} {x : Nd × Bool} {d : Nd} (h : ∃ suf, pre ++ x :: suf = evs d) : pre.length + 1 ≤ 2 * nsize d := by
  obtain ⟨suf, h⟩ := h
  have := congrArg List.length h
  rw [evs_len] at this
  simp at this
  omega
theorem assert_group {F : Nat → Prop} {w0 : World} {d : Nd} {v : Value} (h : NdX F w0 d v) : ∃ (num : Int) (u : Value), ((∃ T q, u = .iface T q) ∨ u = .nilIface) ∧
    (∀ w, (Instr.typeAssert v 37 74 true).run Try.prog w = .ok (.tuple #[.agg #[.int .i64 num, u], .bool (ngrp d)]) w) ∧ ∀ n d', d = .group n d' → num = n := by
  obtain ⟨n, h⟩ := h
  cases n with
  | zero => exact h.elim
  | succ n =>
    cases d with
    | empty =>
      rcases h with rfl | rfl
      · exact ⟨0, .nilIface, .inr rfl, ta_Empty_Group _, fun _ _ h => by cases h⟩
      · exact ⟨0, .nilIface, .inr rfl, ta_nil_Group, fun _ _ h => by cases h⟩
    | one s => obtain rfl := h; exact ⟨0, .nilIface, .inr rfl, ta_One_Group _, fun _ _ h => by cases h⟩
    | cat l => obtain ⟨a, cap, rfl, _⟩ := h; exact ⟨0, .nilIface, .inr rfl, ta_Cat_Group _, fun _ _ h => by cases h⟩
    | alt l => obtain ⟨a, cap, rfl, _⟩ := h; exact ⟨0, .nilIface, .inr rfl, ta_Alt_Group _, fun _ _ h => by cases h⟩
    | rep d mn mx => obtain ⟨u, rfl, _⟩ := h; exact ⟨0, .nilIface, .inr rfl, ta_Rep_Group _, fun _ _ h => by cases h⟩
    | group num d => obtain ⟨u, rfl, hu⟩ := h; exact ⟨num, u, nd_shape hu, ta_Group_Group _, fun _ _ h => by cases h; rfl⟩
    | back num => obtain rfl := h; exact ⟨0, .nilIface, .inr rfl, ta_Back_Group _, fun _ _ h => by cases h⟩
    | start => obtain rfl := h; exact ⟨0, .nilIface, .inr rfl, ta_Start_Group _, fun _ _ h => by cases h⟩
    | fin => obtain rfl := h; exact ⟨0, .nilIface, .inr rfl, ta_End_Group _, fun _ _ h => by cases h⟩
set_option linter.unusedSimpArgs false in
set_option maxRecDepth 100000 in
set_option maxHeartbeats 4000000 in
theorem pgroups_any (d : Nd) (v : Value) (w : World) (h : NdX (fun k => k < w.heap.size) w d v) (hsz : nsize d ≤ 4000000) :
    Calls Try.prog 14 #[v] w fun e w' => e = .returned (.int .i64 (ngroups d : Int)) ∧ Below w.heap.size w w' := by
  have hsh : (∃ T q, v = .iface T q) ∨ v = .nilIface := h.elim fun _ h => nd_shape h
  refine (callsIn_wide (n := 3)).1 ?_
  refine callsIn_of_wp_marks Try.func14 rfl trivial ?_ rfl
  simp only [Try.ntmps14, List.size_toArray, List.length_cons, List.length_nil, Nat.reduceAdd, Nat.reduceSub, Array.replicate_succ, Array.replicate_zero, List.push_toArray, List.append_toArray, List.nil_append, List.cons_append]
  gi_wp2_with (refine ⟨trivial, ?_⟩; gi_at_call 30; refine (callsIn_wide.2 (walk_any _ _ hsh)).mono ?_; rintro e w' ⟨rfl, rfl⟩)
  obtain ⟨V, hV⟩ : ∃ V, (w.alloc (.cells #[.int .i64 0] 3)).alloc (.cells #[v] 37) = V := ⟨_, rfl⟩
  have hB : Below w.heap.size w V := by rw [← hV]; exact ((Below.refl _ w).alloc (Nat.le_refl _) _).alloc (by simp) _
  have hVs : V.heap.size = w.heap.size + 2 := by rw [← hV]; simp
  have hc : V.cell? ⟨w.heap.size + 1, 0, none⟩ = some v := by
    have h1 := (Boxed.new (w.alloc (.cells #[.int .i64 0] 3)) 37 v).cell
    rw [World.size_alloc, hV] at h1
    exact h1
  have hb0 : Boxed V w.heap.size 3 (.int .i64 ((cnt ngb [] : Nat) : Int)) := by
    have h1 := (Boxed.new w 3 (.int .i64 0)).alloc (.cells #[v] 37)
    rw [hV] at h1
    exact h1
  rw [hV]
  refine wpIn_rangeFunc_cells (gf := 37) (lb := #[.pointer (some ⟨w.heap.size + 1, 0, none⟩)]) rfl (enters_of Try.func37 (by kernel_rfl) rfl)
    (walk_gives d hsz w.heap.size (w.heap.size + 1) v V (by omega) hc (h.below hB)) (Below.refl _ _) (by omega)
    (fun pre x args C b W hk => by obtain ⟨_, rfl, _⟩ := hk; rfl)
    (fun pre x args C b W k o hk h1 h2 => nd_ok_put hk h1 h2)
    (fun pre C W => Ctr w w.heap.size 3 d (fun pre => .int .i64 ((cnt ngb pre : Nat) : Int)) pre C W) (fun _ _ => False)
    (fun pre C X Y hk ho => hk.other ho (by omega) (by omega)) (fun _ _ _ hk _ => hk) ⟨fun _ h => h, hb0, hB, Nat.le_refl _⟩ ?round ?done ?stop
  case round =>
    rintro l pre ⟨d', b⟩ args C W hI hOk hC hlt
    obtain ⟨v', rfl, hsuf, hv'⟩ := hOk
    obtain ⟨num, u, hu, hTA, _⟩ := assert_group hv'
    gi_wp2
    clear hI hlt hv'
    intro W hI hOk hlt
    clear hOk
    have hc := hI.box.cell
    have hf := hI.box.frozen
    have hcA := fun o => (hI.mem ((Below.refl _ W).alloc (Nat.le_refl _) o)).box.cell
    have hfA := fun o => (hI.mem ((Below.refl _ W).alloc (Nat.le_refl _) o)).box.frozen
    have hIA := fun o => hI.mem ((Below.refl _ W).alloc (Nat.le_refl _) o)
    have hRA := fun o => Rdn.below (n₀ := w.heap.size) (B := w.heap.size + 2) (C := C) ((Below.refl _ W).alloc (Nat.le_refl _) o)
    have Wn : ngb (d', b) = true → IntKind.i64.wrap (((cnt ngb pre : Nat) : Int) + 1) = ((cnt ngb (pre ++ [(d', b)]) : Nat) : Int) := by
      intro hn
      have h1 := cnt_le ngb pre
      have h2 := pre_len hsuf
      rw [cnt_snoc, IntWalk.i64_in _ (by omega), hn]
      rfl
    have hno : ngb (d', b) = false → cnt ngb (pre ++ [(d', b)]) = cnt ngb pre := fun hn => by rw [cnt_snoc, hn]; rfl
    have hgb : ngb (d', b) = (ngrp d' && b) := rfl
    rw [hgb] at Wn hno
    cases hG : ngrp d'
    · rw [hG] at hTA hno
      have Hno := Lib.hid (hno rfl)
      clear hno hgb Wn hG
      rcases hu with ⟨T, q, rfl⟩ | rfl
      all_goals
        gi_wp2
        exact ⟨C, hRA _, (hIA _).skip (by rw [Hno.out])⟩
    · rw [hG] at hTA hno Wn
      cases b with
      | false =>
        have Hno := Lib.hid (hno rfl)
        clear hno hgb Wn hG
        rcases hu with ⟨T, q, rfl⟩ | rfl
        all_goals
          gi_wp2
          exact ⟨C, hRA _, (hIA _).skip (by rw [Hno.out])⟩
      | true =>
        replace Wn := Wn rfl
        clear hno hgb hG
        rcases hu with ⟨T, q, rfl⟩ | rfl
        all_goals
          gi_wp2
          exact ⟨C, (hRA _).trans (Rdn.setCell _ _ _ _ (Nat.le_refl _) (by simp)), (hIA _).step rfl⟩
  case done =>
    rintro xs C W rfl hI hK
    have hc := hI.box.cell
    rw [evs_groups] at hc
    gi_wp2
    refine ⟨by simp, .inl ⟨_, _, rfl, run_takeDeferred hK, ?_⟩⟩
    exact ⟨_, results_tmp rfl _ _ _, rfl, hI.below.trans (below_put (by omega))⟩
  case stop =>
    intro c W hk _
    exact hk.elim
end Go.Proofs.Ytihfenkphhnbcaa
namespace Go.Proofs.Ytihfenkphhnbcaa
open Go Go.RowKit
attribute [local go_sem] Oper.semAt_some
theorem assert_back {F : Nat → Prop} {w0 : World} {d : Nd} {v : Value} (h : NdX F w0 d v) : ∃ (num : Int),
    (∀ w, (Instr.typeAssert v 37 76 true).run Try.prog w = .ok (.tuple #[.agg #[.int .i64 num], .bool (nbck d)]) w) := by
  obtain ⟨n, h⟩ := h
  cases n with
  | zero => exact h.elim
  | succ n =>
    cases d with
    | empty =>
      rcases h with rfl | rfl
      · exact ⟨0, ta_Empty_Back _⟩
      · exact ⟨0, ta_nil_Back⟩
    | one s => obtain rfl := h; exact ⟨0, ta_One_Back _⟩
    | cat l => obtain ⟨a, cap, rfl, _⟩ := h; exact ⟨0, ta_Cat_Back _⟩
    | alt l => obtain ⟨a, cap, rfl, _⟩ := h; exact ⟨0, ta_Alt_Back _⟩
    | rep d mn mx => obtain ⟨u, rfl, _⟩ := h; exact ⟨0, ta_Rep_Back _⟩
    | group num d => obtain ⟨u, rfl, hu⟩ := h; exact ⟨0, ta_Group_Back _⟩
    | back num => obtain rfl := h; exact ⟨num, ta_Back_Back _⟩
    | start => obtain rfl := h; exact ⟨0, ta_Start_Back _⟩
    | fin => obtain rfl := h; exact ⟨0, ta_End_Back _⟩
def anyb (l : List (Nd × Bool)) : Bool := l.any (fun x => nbck x.1)
theorem anyb_append (l m : List (Nd × Bool)) : anyb (l ++ m) = (anyb l || anyb m) := by unfold anyb; rw [List.any_append]
theorem anyb_cons (x : Nd × Bool) (l : List (Nd × Bool)) : anyb (x :: l) = (nbck x.1 || anyb l) := rfl
theorem anyb_nil : anyb [] = false := rfl
mutual
theorem evs_backs : ∀ d : Nd, anyb (evs d) = nbacks d
  | .cat l => by have := evss_backs l; simp [evs, nbacks, anyb_cons, anyb_append, anyb_nil, nbck, this]
  | .alt l => by have := evss_backs l; simp [evs, nbacks, anyb_cons, anyb_append, anyb_nil, nbck, this]
  | .rep d _ _ => by have := evs_backs d; simp [evs, nbacks, anyb_cons, anyb_append, anyb_nil, nbck, this]
  | .group _ d => by have := evs_backs d; simp [evs, nbacks, anyb_cons, anyb_append, anyb_nil, nbck, this]
  | .empty => rfl
  | .one _ => rfl
  | .back _ => rfl
  | .start => rfl
  | .fin => rfl
theorem evss_backs : ∀ l : List Nd, anyb (evss l) = nbackss l
  | [] => rfl
  | d :: ds => by have := evs_backs d; have := evss_backs ds; simp [evss, nbackss, anyb_append, *]
end
set_option linter.unusedSimpArgs false in
set_option maxRecDepth 100000 in
set_option maxHeartbeats 4000000 in
theorem pbacks_any (d : Nd) (v : Value) (w : World) (h : NdX (fun k => k < w.heap.size) w d v) (hsz : nsize d ≤ 4000000) :
    Calls Try.prog 21 #[v] w fun e w' => e = .returned (.bool (nbacks d)) ∧ Below w.heap.size w w' := by
  have hsh : (∃ T q, v = .iface T q) ∨ v = .nilIface := h.elim fun _ h => nd_shape h
  refine (callsIn_wide (n := 3)).1 ?_
  refine callsIn_of_wp_marks Try.func21 rfl trivial ?_ rfl
  simp only [Try.ntmps21, List.size_toArray, List.length_cons, List.length_nil, Nat.reduceAdd, Nat.reduceSub, Array.replicate_succ, Array.replicate_zero, List.push_toArray, List.append_toArray, List.nil_append, List.cons_append]
  gi_wp2_with (refine ⟨trivial, ?_⟩; gi_at_call 30; refine (callsIn_wide.2 (walk_any _ _ hsh)).mono ?_; rintro e w' ⟨rfl, rfl⟩)
  obtain ⟨V, hV⟩ : ∃ V, (w.alloc (.cells #[.bool false] 4)).alloc (.cells #[v] 37) = V := ⟨_, rfl⟩
  have hB : Below w.heap.size w V := by rw [← hV]; exact ((Below.refl _ w).alloc (Nat.le_refl _) _).alloc (by simp) _
  have hVs : V.heap.size = w.heap.size + 2 := by rw [← hV]; simp
  have hc : V.cell? ⟨w.heap.size + 1, 0, none⟩ = some v := by
    have h1 := (Boxed.new (w.alloc (.cells #[.bool false] 4)) 37 v).cell
    rw [World.size_alloc, hV] at h1
    exact h1
  have hb0 : Boxed V w.heap.size 4 (.bool false) := by
    have h1 := (Boxed.new w 4 (.bool false)).alloc (.cells #[v] 37)
    rw [hV] at h1
    exact h1
  rw [hV]
  refine wpIn_rangeFunc_cells (gf := 37) (lb := #[.pointer (some ⟨w.heap.size + 1, 0, none⟩)]) rfl (enters_of Try.func37 (by kernel_rfl) rfl)
    (walk_gives d hsz w.heap.size (w.heap.size + 1) v V (by omega) hc (h.below hB)) (Below.refl _ _) (by omega)
    (fun pre x args C b W hk => by obtain ⟨_, rfl, _⟩ := hk; rfl)
    (fun pre x args C b W k o hk h1 h2 => nd_ok_put hk h1 h2)
    (fun pre C W => Ctr w w.heap.size 4 d (fun _ => .bool false) pre C W ∧ anyb pre = false) (fun c W => c = .ret ∧ nbacks d = true ∧ Ctr w w.heap.size 4 d (fun _ => .bool true) [] (fun _ => False) W)
    (fun pre C X Y hk ho => ⟨hk.1.other ho (by omega) (by omega), hk.2⟩) (fun c X Y hk ho => ⟨hk.1, hk.2.1, hk.2.2.other ho (by omega) (by omega)⟩) ⟨⟨fun _ h => h, hb0, hB, Nat.le_refl _⟩, rfl⟩ ?round ?done ?stop
  case round =>
    rintro l pre ⟨d', b⟩ args C W hI hOk hC hlt
    obtain ⟨v', rfl, hsuf, hv'⟩ := hOk
    obtain ⟨num, hTA⟩ := assert_back hv'
    gi_wp2
    have hI2 := hI.2
    clear hI hlt hv'
    intro W hI hOk hlt
    clear hOk
    have hIA := fun o => hI.mem ((Below.refl _ W).alloc (Nat.le_refl _) o)
    have hRA := fun o => Rdn.below (n₀ := w.heap.size) (B := w.heap.size + 2) (C := C) ((Below.refl _ W).alloc (Nat.le_refl _) o)
    have hcA := fun o => (hIA o).box.cell
    have hfA := fun o => (hIA o).box.frozen
    have Hn := Lib.hid (show anyb (pre ++ [(d', b)]) = nbck d' by rw [anyb_append, hI2, anyb_cons, anyb_nil]; simp)
    have Hy := Lib.hid (show nbck d' = true → nbacks d = true by
      intro hn
      obtain ⟨suf, hs⟩ := hsuf
      rw [← evs_backs, ← hs, anyb_append, anyb_cons, hn]
      simp)
    clear hI2
    cases hG : nbck d'
    · rw [hG] at hTA
      replace Hn := Lib.hid (Hn.out.trans hG)
      clear hG
      gi_wp2
      exact ⟨C, hRA _, (hIA _).skip rfl, Hn.out⟩
    · rw [hG] at hTA
      replace Hy := Lib.hid (Hy.out hG)
      clear hG
      gi_wp2
      exact ⟨(hRA _).trans (Rdn.setCell _ _ _ _ (Nat.le_refl _) (by simp)), rfl, Hy.out, fun _ h => h, Boxed.set _ (hIA _).box, (hIA _).below.setCell (p := ⟨w.heap.size, 0, none⟩) (Nat.le_refl _) _, Nat.le_refl _⟩
  case done =>
    rintro xs C W rfl ⟨hI, hn⟩ hK
    have hc := hI.box.cell
    have hf := hI.box.frozen
    rw [evs_backs] at hn
    have Hn := Lib.hid hn
    clear hn
    gi_wp2
    have hK' : (W.setCell ⟨w.heap.size, 0, none⟩ (.bool false)).heap[V.heap.size]? = some (.deferred (some [])) := (Below.heap_setCell _ _ _ _ (by simp; omega)).trans hK
    refine ⟨by simp, .inl ⟨_, _, rfl, run_takeDeferred hK', ?_⟩⟩
    have hc5 : ((W.setCell ⟨w.heap.size, 0, none⟩ (.bool false)).putObj V.heap.size (.deferred none)).cell? ⟨w.heap.size, 0, none⟩ = some (.bool false) :=
      (Boxed.same (Boxed.set (.bool false) hI.box) (World.putObj_heap_other (by omega))).cell
    refine ⟨.bool false, ?_, by rw [Hn.out], (hI.below.setCell (p := ⟨w.heap.size, 0, none⟩) (Nat.le_refl _) _).trans (below_put (by omega))⟩
    simp [results, Try.f21, go_sem, hc5]
  case stop =>
    rintro c W ⟨rfl, hn, hI⟩ hK
    have Hn := Lib.hid hn
    clear hn
    gi_wp2
    refine ⟨by simp, .inl ⟨_, _, rfl, run_takeDeferred hK, ?_⟩⟩
    have hc5 : (W.putObj V.heap.size (.deferred none)).cell? ⟨w.heap.size, 0, none⟩ = some (.bool true) := (Boxed.same hI.box (World.putObj_heap_other (by omega))).cell
    refine ⟨.bool true, ?_, by rw [Hn.out], hI.below.trans (below_put (by omega))⟩
    simp [results, Try.f21, go_sem, hc5]
end Go.Proofs.Ytihfenkphhnbcaa
