/- NdAsk: Size, Groups, Deep, Backs of the program.
   NdBacks: Backs of the program. -/
import Derived.Test.YtjjhkagpoicimaaNdWg
namespace Go.Proofs.Ytjjhkagpoicimaa
open Go Go.RowKit

attribute [local go_sem] Oper.semAt_some
/-- How many begin. -/
def cnt (p : Nd × Bool → Bool) (l : List (Nd × Bool)) : Nat := (l.filter p).length
theorem cnt_snoc (p : Nd × Bool → Bool) (l : List (Nd × Bool)) (x : Nd × Bool) : cnt p (l ++ [x]) = cnt p l + (if p x then 1 else 0) := by
  unfold cnt
  rw [List.filter_append, List.length_append]
  cases h : p x <;> simp [h]
theorem cnt_append (p : Nd × Bool → Bool) (l m : List (Nd × Bool)) : cnt p (l ++ m) = cnt p l + cnt p m := by
  unfold cnt
  rw [List.filter_append, List.length_append]
theorem cnt_cons (p : Nd × Bool → Bool) (x : Nd × Bool) (l : List (Nd × Bool)) : cnt p (x :: l) = (if p x then 1 else 0) + cnt p l := by
  rw [show x :: l = [x] ++ l from rfl, cnt_append]
  unfold cnt
  cases h : p x <;> simp [h]
theorem cnt_nil (p : Nd × Bool → Bool) : cnt p [] = 0 := rfl
theorem cnt_le (p : Nd × Bool → Bool) (l : List (Nd × Bool)) : cnt p l ≤ l.length := List.length_filter_le _ _
mutual
theorem evs_size : ∀ d : Nd, cnt (fun x => x.2) (evs d) = nsize d
  | .cat l => by have := evss_size l; simp [evs, nsize, cnt_cons, cnt_append, cnt_nil, this]
  | .alt l => by have := evss_size l; simp [evs, nsize, cnt_cons, cnt_append, cnt_nil, this]
  | .rep d _ _ => by have := evs_size d; simp [evs, nsize, cnt_cons, cnt_append, cnt_nil, this]
  | .group _ d => by have := evs_size d; simp [evs, nsize, cnt_cons, cnt_append, cnt_nil, this]
  | .empty => rfl
  | .one _ => rfl
  | .back _ => rfl
  | .start => rfl
  | .fin => rfl
theorem evss_size : ∀ l : List Nd, cnt (fun x => x.2) (evss l) = nsizes l
  | [] => rfl
  | d :: ds => by have := evs_size d; have := evss_size ds; simp [evss, nsizes, cnt_append, *]
end
/-- A group that begins. -/
def ngb (x : Nd × Bool) : Bool := ngrp x.1 && x.2
theorem ngb_no (d : Nd) (b : Bool) (h : ngrp d = false) : ngb (d, b) = false := by unfold ngb; rw [h]; rfl
theorem ngb_cat (l : List Nd) (b : Bool) : ngb (.cat l, b) = false := rfl
theorem ngb_alt (l : List Nd) (b : Bool) : ngb (.alt l, b) = false := rfl
theorem ngb_rep (d : Nd) (m n : Int) (b : Bool) : ngb (.rep d m n, b) = false := rfl
theorem ngb_group (d : Nd) (n : Int) (b : Bool) : ngb (.group n d, b) = b := Bool.true_and b
mutual
theorem evs_groups : ∀ d : Nd, cnt ngb (evs d) = ngroups d
  | .cat l => by have := evss_groups l; simp [evs, ngroups, cnt_cons, cnt_append, cnt_nil, ngb_cat, this]
  | .alt l => by have := evss_groups l; simp [evs, ngroups, cnt_cons, cnt_append, cnt_nil, ngb_alt, this]
  | .rep d _ _ => by have := evs_groups d; simp [evs, ngroups, cnt_cons, cnt_append, cnt_nil, ngb_rep, this]
  | .group _ d => by have := evs_groups d; simp [evs, ngroups, cnt_cons, cnt_append, cnt_nil, ngb_group, this]; omega
  | .empty => rfl
  | .one _ => rfl
  | .back _ => rfl
  | .start => rfl
  | .fin => rfl
theorem evss_groups : ∀ l : List Nd, cnt ngb (evss l) = ngroupss l
  | [] => rfl
  | d :: ds => by have := evs_groups d; have := evss_groups ds; simp [evss, ngroupss, cnt_append, *]
end
/-- A variable of the caller's that a loop counts in. -/
structure Ctr (w0 : World) (B t : Nat) (d : Nd) (val : List (Nd × Bool) → Value) (pre : List (Nd × Bool)) (C : Nat → Prop) (W : World) : Prop where
  nonc : ∀ k, ¬ C k
  box : Boxed W B t (val pre)
  below : Below w0.heap.size w0 W
  size : w0.heap.size ≤ B
theorem Ctr.other {w0 : World} {B t D : Nat} {d : Nd} {val : List (Nd × Bool) → Value} {pre : List (Nd × Bool)} {C : Nat → Prop} {X Y : World} (h : Ctr w0 B t d val pre C X) (ho : Other D C X Y) (hB : B < D) (hD : w0.heap.size ≤ D) : Ctr w0 B t d val pre C Y :=
  ⟨h.nonc, Boxed.same h.box (ho.block _ h.box.lt (.inl hB)), h.below.trans ⟨ho.os, ho.tape, ho.output, ho.size, fun k hk => ho.block k (Nat.lt_of_lt_of_le hk h.below.size) (.inl (Nat.lt_of_lt_of_le hk hD))⟩, h.size⟩
theorem Ctr.skip {w0 : World} {B t : Nat} {d : Nd} {val : List (Nd × Bool) → Value} {pre : List (Nd × Bool)} {x : Nd × Bool} {C : Nat → Prop} {X : World} (h : Ctr w0 B t d val pre C X) (hv : val (pre ++ [x]) = val pre) : Ctr w0 B t d val (pre ++ [x]) C X :=
  ⟨h.nonc, by rw [hv]; exact h.box, h.below, h.size⟩
theorem Ctr.step {w0 : World} {B t : Nat} {d : Nd} {val : List (Nd × Bool) → Value} {pre : List (Nd × Bool)} {x : Nd × Bool} {C : Nat → Prop} {X : World} {u : Value} (h : Ctr w0 B t d val pre C X) (hv : val (pre ++ [x]) = u) : Ctr w0 B t d val (pre ++ [x]) C (X.setCell ⟨B, 0, none⟩ u) :=
  ⟨h.nonc, by rw [hv]; exact Boxed.set u h.box, h.below.setCell (p := ⟨B, 0, none⟩) h.size u, h.size⟩
theorem Ctr.far {w0 : World} {B t : Nat} {d : Nd} {val : List (Nd × Bool) → Value} {pre : List (Nd × Bool)} {C : Nat → Prop} {X : World} {p : Addr} {u : Value} (h : Ctr w0 B t d val pre C X) (hp : w0.heap.size ≤ p.block) (hne : B ≠ p.block) : Ctr w0 B t d val pre C (X.setCell p u) :=
  ⟨h.nonc, Boxed.same h.box (Below.heap_setCell _ _ _ _ hne), h.below.setCell hp u, h.size⟩
theorem Ctr.mem {w0 : World} {B t : Nat} {d : Nd} {val : List (Nd × Bool) → Value} {pre : List (Nd × Bool)} {C : Nat → Prop} {X Y : World} (h : Ctr w0 B t d val pre C X) (hb : Below X.heap.size X Y) : Ctr w0 B t d val pre C Y :=
  ⟨h.nonc, Boxed.same h.box (hb.block _ h.box.lt), h.below.trans (hb.mono h.below.size), h.size⟩
theorem Rdn.refl (n₀ B : Nat) (C : Nat → Prop) (W : World) : Rdn n₀ B C C W W := ⟨Nat.le_refl _, fun _ _ _ => rfl, fun _ h => .inl h⟩
theorem Rdn.setCell (n₀ B : Nat) (C : Nat → Prop) (W : World) {p : Addr} {u : Value} (h1 : n₀ ≤ p.block) (h2 : p.block < B) : Rdn n₀ B C C W (W.setCell p u) :=
  ⟨by simp [World.setCell], fun k _ hk => Below.heap_setCell _ _ _ _ (fun e => by subst e; rcases hk with h | h <;> omega), fun _ h => .inl h⟩
theorem Rdn.below {n₀ B : Nat} {C : Nat → Prop} {W W' : World} (h : Below W.heap.size W W') : Rdn n₀ B C C W W' := ⟨h.size, fun k hk _ => h.block k hk, fun _ h => .inl h⟩
theorem Rdn.trans {n₀ B : Nat} {C : Nat → Prop} {X Y Z : World} (h : Rdn n₀ B C C X Y) (k : Rdn n₀ B C C Y Z) : Rdn n₀ B C C X Z :=
  ⟨Nat.le_trans h.size k.size, fun i hi hc => (k.block i (Nat.lt_of_lt_of_le hi h.size) hc).trans (h.block i hi hc), fun _ h => .inl h⟩
theorem below_put {w0 W : World} {D : Nat} {o' : Obj} (hD : w0.heap.size ≤ D) : Below w0.heap.size W (W.putObj D o') :=
  ⟨rfl, rfl, rfl, by simp, fun k hk => World.putObj_heap_other (by omega)⟩
theorem pre_len {pre : List (Nd × Bool)} {x : Nd × Bool} {d : Nd} (h : ∃ suf, pre ++ x :: suf = evs d) : pre.length + 1 ≤ 2 * nsize d := by
  obtain ⟨suf, h⟩ := h
  have := congrArg List.length h
  rw [evs_len] at this
  simp at this
  omega
/-- Is a node a group, and which number has it? -/
theorem assert_group {F : Nat → Prop} {w0 : World} {d : Nd} {v : Value} (h : NdX F w0 d v) : ∃ (num : Int) (u : Value), ((∃ T q, u = .iface T q) ∨ u = .nilIface) ∧
    (∀ w, (Instr.typeAssert v 37 74 true).run Try.prog w = .ok (.tuple #[.agg #[.int .i64 num, u], .bool (ngrp d)]) w) ∧ ∀ n d', d = .group n d' → num = n := by
  obtain ⟨n, h⟩ := h
  cases n with
  | zero => exact h.elim
  | succ n =>
    cases d with
    | empty =>
      rcases h with rfl | rfl
      · exact ⟨0, .nilIface, .inr rfl, ta_Empty_Group _, fun _ _ h => by cases h⟩
      · exact ⟨0, .nilIface, .inr rfl, ta_nil_Group, fun _ _ h => by cases h⟩
    | one s => obtain rfl := h; exact ⟨0, .nilIface, .inr rfl, ta_One_Group _, fun _ _ h => by cases h⟩
    | cat l => obtain ⟨a, cap, rfl, _⟩ := h; exact ⟨0, .nilIface, .inr rfl, ta_Cat_Group _, fun _ _ h => by cases h⟩
    | alt l => obtain ⟨a, cap, rfl, _⟩ := h; exact ⟨0, .nilIface, .inr rfl, ta_Alt_Group _, fun _ _ h => by cases h⟩
    | rep d mn mx => obtain ⟨u, rfl, _⟩ := h; exact ⟨0, .nilIface, .inr rfl, ta_Rep_Group _, fun _ _ h => by cases h⟩
    | group num d => obtain ⟨u, rfl, hu⟩ := h; exact ⟨num, u, nd_shape hu, ta_Group_Group _, fun _ _ h => by cases h; rfl⟩
    | back num => obtain rfl := h; exact ⟨0, .nilIface, .inr rfl, ta_Back_Group _, fun _ _ h => by cases h⟩
    | start => obtain rfl := h; exact ⟨0, .nilIface, .inr rfl, ta_Start_Group _, fun _ _ h => by cases h⟩
    | fin => obtain rfl := h; exact ⟨0, .nilIface, .inr rfl, ta_End_Group _, fun _ _ h => by cases h⟩
set_option linter.unusedSimpArgs false in
set_option maxRecDepth 100000 in
set_option maxHeartbeats 4000000 in
theorem pgroups_any (d : Nd) (v : Value) (w : World) (h : NdX (fun k => k < w.heap.size) w d v) (hsz : nsize d ≤ 4000000) :
    Calls Try.prog 14 #[v] w fun e w' => e = .returned (.int .i64 (ngroups d : Int)) ∧ Below w.heap.size w w' := by
  have hsh : (∃ T q, v = .iface T q) ∨ v = .nilIface := h.elim fun _ h => nd_shape h
  refine (callsIn_wide (n := 3)).1 ?_
  refine callsIn_of_wp_marks Try.func14 rfl trivial ?_ rfl
  simp only [Try.ntmps14, List.size_toArray, List.length_cons, List.length_nil, Nat.reduceAdd, Nat.reduceSub, Array.replicate_succ, Array.replicate_zero, List.push_toArray, List.append_toArray, List.nil_append, List.cons_append]
  gi_wp2_with (refine ⟨trivial, ?_⟩; gi_at_call 30; refine (callsIn_wide.2 (walk_any _ _ hsh)).mono ?_; rintro e w' ⟨rfl, rfl⟩)
  obtain ⟨V, hV⟩ : ∃ V, (w.alloc (.cells #[.int .i64 0] 3)).alloc (.cells #[v] 37) = V := ⟨_, rfl⟩
  have hB : Below w.heap.size w V := by rw [← hV]; exact ((Below.refl _ w).alloc (Nat.le_refl _) _).alloc (by simp) _
  have hVs : V.heap.size = w.heap.size + 2 := by rw [← hV]; simp
  have hc : V.cell? ⟨w.heap.size + 1, 0, none⟩ = some v := by
    have h1 := (Boxed.new (w.alloc (.cells #[.int .i64 0] 3)) 37 v).cell
    rw [World.size_alloc, hV] at h1
    exact h1
  have hb0 : Boxed V w.heap.size 3 (.int .i64 ((cnt ngb [] : Nat) : Int)) := by
    have h1 := (Boxed.new w 3 (.int .i64 0)).alloc (.cells #[v] 37)
    rw [hV] at h1
    exact h1
  rw [hV]
  refine wpIn_rangeFunc_cells (gf := 37) (lb := #[.pointer (some ⟨w.heap.size + 1, 0, none⟩)]) rfl (enters_of Try.func37 (by kernel_rfl) rfl)
    (walk_gives d hsz w.heap.size (w.heap.size + 1) v V (by omega) hc (h.below hB)) (Below.refl _ _) (by omega)
    (fun pre x args C b W hk => by obtain ⟨_, rfl, _⟩ := hk; rfl)
    (fun pre x args C b W k o hk h1 h2 => nd_ok_put hk h1 h2)
    (fun pre C W => Ctr w w.heap.size 3 d (fun pre => .int .i64 ((cnt ngb pre : Nat) : Int)) pre C W) (fun _ _ => False)
    (fun pre C X Y hk ho => hk.other ho (by omega) (by omega)) (fun _ _ _ hk _ => hk) ⟨fun _ h => h, hb0, hB, Nat.le_refl _⟩ ?round ?done ?stop
  case round =>
    rintro l pre ⟨d', b⟩ args C W hI hOk hC hlt
    obtain ⟨v', rfl, hsuf, hv'⟩ := hOk
    obtain ⟨num, u, hu, hTA, _⟩ := assert_group hv'
    gi_wp2
    clear hI hlt hv'
    intro W hI hOk hlt
    clear hOk
    have hc := hI.box.cell
    have hf := hI.box.frozen
    have hcA := fun o => (hI.mem ((Below.refl _ W).alloc (Nat.le_refl _) o)).box.cell
    have hfA := fun o => (hI.mem ((Below.refl _ W).alloc (Nat.le_refl _) o)).box.frozen
    have hIA := fun o => hI.mem ((Below.refl _ W).alloc (Nat.le_refl _) o)
    have hRA := fun o => Rdn.below (n₀ := w.heap.size) (B := w.heap.size + 2) (C := C) ((Below.refl _ W).alloc (Nat.le_refl _) o)
    have Wn : ngb (d', b) = true → IntKind.i64.wrap (((cnt ngb pre : Nat) : Int) + 1) = ((cnt ngb (pre ++ [(d', b)]) : Nat) : Int) := by
      intro hn
      have h1 := cnt_le ngb pre
      have h2 := pre_len hsuf
      rw [cnt_snoc, IntWalk.i64_in _ (by omega), hn]
      rfl
    have hno : ngb (d', b) = false → cnt ngb (pre ++ [(d', b)]) = cnt ngb pre := fun hn => by rw [cnt_snoc, hn]; rfl
    have hgb : ngb (d', b) = (ngrp d' && b) := rfl
    rw [hgb] at Wn hno
    cases hG : ngrp d'
    · rw [hG] at hTA hno
      have Hno := Lib.hid (hno rfl)
      clear hno hgb Wn hG
      rcases hu with ⟨T, q, rfl⟩ | rfl
      all_goals
        gi_wp2
        exact ⟨C, hRA _, (hIA _).skip (by rw [Hno.out])⟩
    · rw [hG] at hTA hno Wn
      cases b with
      | false =>
        have Hno := Lib.hid (hno rfl)
        clear hno hgb Wn hG
        rcases hu with ⟨T, q, rfl⟩ | rfl
        all_goals
          gi_wp2
          exact ⟨C, hRA _, (hIA _).skip (by rw [Hno.out])⟩
      | true =>
        replace Wn := Wn rfl
        clear hno hgb hG
        rcases hu with ⟨T, q, rfl⟩ | rfl
        all_goals
          gi_wp2
          exact ⟨C, (hRA _).trans (Rdn.setCell _ _ _ _ (Nat.le_refl _) (by simp)), (hIA _).step rfl⟩
  case done =>
    rintro xs C W rfl hI hK
    have hc := hI.box.cell
    rw [evs_groups] at hc
    gi_wp2
    refine ⟨by simp, .inl ⟨_, _, rfl, run_takeDeferred hK, ?_⟩⟩
    exact ⟨_, results_tmp rfl _ _ _, rfl, hI.below.trans (below_put (by omega))⟩
  case stop =>
    intro c W hk _
    exact hk.elim
/-- How deep one stands, and how deep one stood at most. -/
def dstep (p : Int × Int) (x : Nd × Bool) : Int × Int := if ngrp x.1 then (if x.2 then (p.1 + 1, max p.2 (p.1 + 1)) else (p.1 - 1, p.2)) else p
def dfold (p : Int × Int) (l : List (Nd × Bool)) : Int × Int := l.foldl dstep p
theorem dfold_cons (p : Int × Int) (x : Nd × Bool) (l : List (Nd × Bool)) : dfold p (x :: l) = dfold (dstep p x) l := rfl
theorem dfold_append (p : Int × Int) (l m : List (Nd × Bool)) : dfold p (l ++ m) = dfold (dfold p l) m := by unfold dfold; rw [List.foldl_append]
theorem dfold_nil (p : Int × Int) : dfold p [] = p := rfl
theorem dfold_snoc (p : Int × Int) (l : List (Nd × Bool)) (x : Nd × Bool) : dfold p (l ++ [x]) = dstep (dfold p l) x := by rw [dfold_append]; rfl
theorem dstep_no (p : Int × Int) (d : Nd) (b : Bool) (h : ngrp d = false) : dstep p (d, b) = p := by unfold dstep; rw [h]; rfl
theorem dstep_in (p : Int × Int) (d : Nd) (h : ngrp d = true) : dstep p (d, true) = (p.1 + 1, max p.2 (p.1 + 1)) := by unfold dstep; rw [h]; rfl
theorem dstep_out (p : Int × Int) (d : Nd) (h : ngrp d = true) : dstep p (d, false) = (p.1 - 1, p.2) := by unfold dstep; rw [h]; rfl
mutual
theorem evs_deep : ∀ (d : Nd) (a m : Int), a ≤ m → dfold (a, m) (evs d) = (a, max m (a + (ndeep d : Int)))
  | .cat l, a, m, h => by rw [evs, dfold_cons, dstep_no _ _ _ rfl, dfold_append, evss_deep l a m h, dfold_cons, dstep_no _ _ _ rfl]; rfl
  | .alt l, a, m, h => by rw [evs, dfold_cons, dstep_no _ _ _ rfl, dfold_append, evss_deep l a m h, dfold_cons, dstep_no _ _ _ rfl]; rfl
  | .rep d x y, a, m, h => by rw [evs, dfold_cons, dstep_no _ _ _ rfl, dfold_append, evs_deep d a m h, dfold_cons, dstep_no _ _ _ rfl]; rfl
  | .group n d, a, m, h => by
    rw [evs, dfold_cons, dstep_in _ _ rfl, dfold_append, evs_deep d (a + 1) (max m (a + 1)) (by omega), dfold_cons, dstep_out _ _ rfl, dfold_nil, ndeep]
    exact Prod.ext (by show a + 1 - 1 = a; omega) (by show max (max m (a + 1)) (a + 1 + (ndeep d : Int)) = max m (a + ((ndeep d + 1 : Nat) : Int)); omega)
  | .empty, a, m, h => Prod.ext rfl (by show m = max m (a + 0); omega)
  | .one _, a, m, h => Prod.ext rfl (by show m = max m (a + 0); omega)
  | .back _, a, m, h => Prod.ext rfl (by show m = max m (a + 0); omega)
  | .start, a, m, h => Prod.ext rfl (by show m = max m (a + 0); omega)
  | .fin, a, m, h => Prod.ext rfl (by show m = max m (a + 0); omega)
theorem evss_deep : ∀ (l : List Nd) (a m : Int), a ≤ m → dfold (a, m) (evss l) = (a, max m (a + (ndeeps l : Int)))
  | [], a, m, h => Prod.ext rfl (by show m = max m (a + 0); omega)
  | d :: ds, a, m, h => by
    rw [evss, dfold_append, evs_deep d a m h, evss_deep ds a _ (by omega), ndeeps]
    exact Prod.ext rfl (by show max (max m (a + (ndeep d : Int))) (a + (ndeeps ds : Int)) = max m (a + ((max (ndeep d) (ndeeps ds) : Nat) : Int)); omega)
end
theorem dfold_range (l : List (Nd × Bool)) : ∀ (a m : Int), a - l.length ≤ (dfold (a, m) l).1 ∧ (dfold (a, m) l).1 ≤ a + l.length ∧ m ≤ (dfold (a, m) l).2 ∧ (dfold (a, m) l).2 ≤ max m (a + l.length) := by
  induction l with
  | nil => intro a m; simp only [dfold, List.foldl_nil, List.length_nil]; omega
  | cons x l ih =>
    intro a m
    rw [dfold_cons]
    unfold dstep
    simp only [List.length_cons]
    split
    · split
      · have := ih (a + 1) (max m (a + 1)); omega
      · have := ih (a - 1) m; omega
    · have := ih a m; omega
theorem dfold_bound (l : List (Nd × Bool)) : -(l.length : Int) ≤ (dfold (0, 0) l).1 ∧ (dfold (0, 0) l).1 ≤ l.length ∧ 0 ≤ (dfold (0, 0) l).2 ∧ (dfold (0, 0) l).2 ≤ l.length := by
  have := dfold_range l 0 0
  omega
theorem nd_ret_int {k : IntKind} {a b : Int} (h : a = b) : Ending.returned (.int k a) = .returned (.int k b) := by rw [h]
end Go.Proofs.Ytjjhkagpoicimaa
namespace Go.Proofs.Ytjjhkagpoicimaa
open Go Go.RowKit

attribute [local go_sem] Oper.semAt_some
/-- Is a node a Back? -/
theorem assert_back {F : Nat → Prop} {w0 : World} {d : Nd} {v : Value} (h : NdX F w0 d v) : ∃ (num : Int),
    (∀ w, (Instr.typeAssert v 37 76 true).run Try.prog w = .ok (.tuple #[.agg #[.int .i64 num], .bool (nbck d)]) w) := by
  obtain ⟨n, h⟩ := h
  cases n with
  | zero => exact h.elim
  | succ n =>
    cases d with
    | empty =>
      rcases h with rfl | rfl
      · exact ⟨0, ta_Empty_Back _⟩
      · exact ⟨0, ta_nil_Back⟩
    | one s => obtain rfl := h; exact ⟨0, ta_One_Back _⟩
    | cat l => obtain ⟨a, cap, rfl, _⟩ := h; exact ⟨0, ta_Cat_Back _⟩
    | alt l => obtain ⟨a, cap, rfl, _⟩ := h; exact ⟨0, ta_Alt_Back _⟩
    | rep d mn mx => obtain ⟨u, rfl, _⟩ := h; exact ⟨0, ta_Rep_Back _⟩
    | group num d => obtain ⟨u, rfl, hu⟩ := h; exact ⟨0, ta_Group_Back _⟩
    | back num => obtain rfl := h; exact ⟨num, ta_Back_Back _⟩
    | start => obtain rfl := h; exact ⟨0, ta_Start_Back _⟩
    | fin => obtain rfl := h; exact ⟨0, ta_End_Back _⟩
/-- Is one of them a Back? -/
def anyb (l : List (Nd × Bool)) : Bool := l.any (fun x => nbck x.1)
theorem anyb_append (l m : List (Nd × Bool)) : anyb (l ++ m) = (anyb l || anyb m) := by unfold anyb; rw [List.any_append]
theorem anyb_cons (x : Nd × Bool) (l : List (Nd × Bool)) : anyb (x :: l) = (nbck x.1 || anyb l) := rfl
theorem anyb_nil : anyb [] = false := rfl
mutual
theorem evs_backs : ∀ d : Nd, anyb (evs d) = nbacks d
  | .cat l => by have := evss_backs l; simp [evs, nbacks, anyb_cons, anyb_append, anyb_nil, nbck, this]
  | .alt l => by have := evss_backs l; simp [evs, nbacks, anyb_cons, anyb_append, anyb_nil, nbck, this]
  | .rep d _ _ => by have := evs_backs d; simp [evs, nbacks, anyb_cons, anyb_append, anyb_nil, nbck, this]
  | .group _ d => by have := evs_backs d; simp [evs, nbacks, anyb_cons, anyb_append, anyb_nil, nbck, this]
  | .empty => rfl
  | .one _ => rfl
  | .back _ => rfl
  | .start => rfl
  | .fin => rfl
theorem evss_backs : ∀ l : List Nd, anyb (evss l) = nbackss l
  | [] => rfl
  | d :: ds => by have := evs_backs d; have := evss_backs ds; simp [evss, nbackss, anyb_append, *]
end
set_option linter.unusedSimpArgs false in
set_option maxRecDepth 100000 in
set_option maxHeartbeats 4000000 in
theorem pbacks_any (d : Nd) (v : Value) (w : World) (h : NdX (fun k => k < w.heap.size) w d v) (hsz : nsize d ≤ 4000000) :
    Calls Try.prog 21 #[v] w fun e w' => e = .returned (.bool (nbacks d)) ∧ Below w.heap.size w w' := by
  have hsh : (∃ T q, v = .iface T q) ∨ v = .nilIface := h.elim fun _ h => nd_shape h
  refine (callsIn_wide (n := 3)).1 ?_
  refine callsIn_of_wp_marks Try.func21 rfl trivial ?_ rfl
  simp only [Try.ntmps21, List.size_toArray, List.length_cons, List.length_nil, Nat.reduceAdd, Nat.reduceSub, Array.replicate_succ, Array.replicate_zero, List.push_toArray, List.append_toArray, List.nil_append, List.cons_append]
  gi_wp2_with (refine ⟨trivial, ?_⟩; gi_at_call 30; refine (callsIn_wide.2 (walk_any _ _ hsh)).mono ?_; rintro e w' ⟨rfl, rfl⟩)
  obtain ⟨V, hV⟩ : ∃ V, (w.alloc (.cells #[.bool false] 4)).alloc (.cells #[v] 37) = V := ⟨_, rfl⟩
  have hB : Below w.heap.size w V := by rw [← hV]; exact ((Below.refl _ w).alloc (Nat.le_refl _) _).alloc (by simp) _
  have hVs : V.heap.size = w.heap.size + 2 := by rw [← hV]; simp
  have hc : V.cell? ⟨w.heap.size + 1, 0, none⟩ = some v := by
    have h1 := (Boxed.new (w.alloc (.cells #[.bool false] 4)) 37 v).cell
    rw [World.size_alloc, hV] at h1
    exact h1
  have hb0 : Boxed V w.heap.size 4 (.bool false) := by
    have h1 := (Boxed.new w 4 (.bool false)).alloc (.cells #[v] 37)
    rw [hV] at h1
    exact h1
  rw [hV]
  refine wpIn_rangeFunc_cells (gf := 37) (lb := #[.pointer (some ⟨w.heap.size + 1, 0, none⟩)]) rfl (enters_of Try.func37 (by kernel_rfl) rfl)
    (walk_gives d hsz w.heap.size (w.heap.size + 1) v V (by omega) hc (h.below hB)) (Below.refl _ _) (by omega)
    (fun pre x args C b W hk => by obtain ⟨_, rfl, _⟩ := hk; rfl)
    (fun pre x args C b W k o hk h1 h2 => nd_ok_put hk h1 h2)
    (fun pre C W => Ctr w w.heap.size 4 d (fun _ => .bool false) pre C W ∧ anyb pre = false) (fun c W => c = .ret ∧ nbacks d = true ∧ Ctr w w.heap.size 4 d (fun _ => .bool true) [] (fun _ => False) W)
    (fun pre C X Y hk ho => ⟨hk.1.other ho (by omega) (by omega), hk.2⟩) (fun c X Y hk ho => ⟨hk.1, hk.2.1, hk.2.2.other ho (by omega) (by omega)⟩) ⟨⟨fun _ h => h, hb0, hB, Nat.le_refl _⟩, rfl⟩ ?round ?done ?stop
  case round =>
    rintro l pre ⟨d', b⟩ args C W hI hOk hC hlt
    obtain ⟨v', rfl, hsuf, hv'⟩ := hOk
    obtain ⟨num, hTA⟩ := assert_back hv'
    gi_wp2
    have hI2 := hI.2
    clear hI hlt hv'
    intro W hI hOk hlt
    clear hOk
    have hIA := fun o => hI.mem ((Below.refl _ W).alloc (Nat.le_refl _) o)
    have hRA := fun o => Rdn.below (n₀ := w.heap.size) (B := w.heap.size + 2) (C := C) ((Below.refl _ W).alloc (Nat.le_refl _) o)
    have hcA := fun o => (hIA o).box.cell
    have hfA := fun o => (hIA o).box.frozen
    have Hn := Lib.hid (show anyb (pre ++ [(d', b)]) = nbck d' by rw [anyb_append, hI2, anyb_cons, anyb_nil]; simp)
    have Hy := Lib.hid (show nbck d' = true → nbacks d = true by
      intro hn
      obtain ⟨suf, hs⟩ := hsuf
      rw [← evs_backs, ← hs, anyb_append, anyb_cons, hn]
      simp)
    clear hI2
    cases hG : nbck d'
    · rw [hG] at hTA
      replace Hn := Lib.hid (Hn.out.trans hG)
      clear hG
      gi_wp2
      exact ⟨C, hRA _, (hIA _).skip rfl, Hn.out⟩
    · rw [hG] at hTA
      replace Hy := Lib.hid (Hy.out hG)
      clear hG
      gi_wp2
      exact ⟨(hRA _).trans (Rdn.setCell _ _ _ _ (Nat.le_refl _) (by simp)), rfl, Hy.out, fun _ h => h, Boxed.set _ (hIA _).box, (hIA _).below.setCell (p := ⟨w.heap.size, 0, none⟩) (Nat.le_refl _) _, Nat.le_refl _⟩
  case done =>
    rintro xs C W rfl ⟨hI, hn⟩ hK
    have hc := hI.box.cell
    have hf := hI.box.frozen
    rw [evs_backs] at hn
    have Hn := Lib.hid hn
    clear hn
    gi_wp2
    have hK' : (W.setCell ⟨w.heap.size, 0, none⟩ (.bool false)).heap[V.heap.size]? = some (.deferred (some [])) := (Below.heap_setCell _ _ _ _ (by simp; omega)).trans hK
    refine ⟨by simp, .inl ⟨_, _, rfl, run_takeDeferred hK', ?_⟩⟩
    have hc5 : ((W.setCell ⟨w.heap.size, 0, none⟩ (.bool false)).putObj V.heap.size (.deferred none)).cell? ⟨w.heap.size, 0, none⟩ = some (.bool false) :=
      (Boxed.same (Boxed.set (.bool false) hI.box) (World.putObj_heap_other (by omega))).cell
    refine ⟨.bool false, ?_, by rw [Hn.out], (hI.below.setCell (p := ⟨w.heap.size, 0, none⟩) (Nat.le_refl _) _).trans (below_put (by omega))⟩
    simp [results, Try.f21, go_sem, hc5]
  case stop =>
    rintro c W ⟨rfl, hn, hI⟩ hK
    have Hn := Lib.hid hn
    clear hn
    gi_wp2
    refine ⟨by simp, .inl ⟨_, _, rfl, run_takeDeferred hK, ?_⟩⟩
    have hc5 : (W.putObj V.heap.size (.deferred none)).cell? ⟨w.heap.size, 0, none⟩ = some (.bool true) := (Boxed.same hI.box (World.putObj_heap_other (by omega))).cell
    refine ⟨.bool true, ?_, by rw [Hn.out], hI.below.trans (below_put (by omega))⟩
    simp [results, Try.f21, go_sem, hc5]
end Go.Proofs.Ytjjhkagpoicimaa
