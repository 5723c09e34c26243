/- The proof's texts NdAb, CmWh, CmGa, CmGb, OctOpen, AdWl, CmWj, CmBg: what the claim reaches of them. -/
import Derived.Test.YtbgfankoojjejaaGreatDoorTb33
import Derived.Test.YtbgfankoojjejaaGreatDoorTb32
import Derived.Test.YtbgfankoojjejaaGreatDoorTb26
import Derived.Test.YtbgfankoojjejaaGreatDoorTb29
import Derived.Test.YtbgfankoojjejaaGreatDoorRows
import Derived.Test.YtbgfankoojjejaaGreatDoorTb01
import Derived.WalkKit
import Derived.ProofKit
import Derived.OpenShut
import Derived.Test.YtbgfankoojjejaaGreatDoorTb12
import Derived.Test.YtbgfankoojjejaaGreatDoorTb02
import Derived.Deep.Slices
import Derived.Lib.LaidTab
import Derived.Lib.Hide
import Derived.ChangeKeysEq
import Derived.Deep.RegionHeld3
import Derived.Deep.DeepCutAuto
import Derived.Deep.RegionWith
import Derived.Deep.QuietTactic
import Derived.Defers
import Derived.Recover
import Derived.Tactics2
import Derived.Test.YtbgfankoojjejaaGreatDoorTb15
import Derived.Test.YtbgfankoojjejaaGreatDoorTb06
import Derived.Deep.LoopGhost
import Derived.Test.YtbgfankoojjejaaGreatDoorTb05
import Derived.Test.YtbgfankoojjejaaGreatDoorTb30
import Derived.Test.YtbgfankoojjejaaGreatDoorTb31
namespace Go.Proofs.YtbgfankoojjejaaGreatDoor
open Go Go.RowKit
attribute [local go_sem] Oper.semAt_some
def cnt (p : Nd × Bool → Bool) (l : List (Nd × Bool)) : Nat := (l.filter p).length
theorem cnt_snoc (p : Nd × Bool → Bool) (l : List (Nd × Bool)) (x : Nd × Bool) : cnt p (l ++ [x]) = cnt p l + (if p x then 1 else 0) := by
 unfold cnt
 rw [List.filter_append, List.length_append]
 cases h : p x <;> simp [h]
theorem cnt_append (p : Nd × Bool → Bool) (l m : List (Nd × Bool)) : cnt p (l ++ m) = cnt p l + cnt p m := by
 unfold cnt
 rw [List.filter_append, List.length_append]
theorem cnt_cons (p : Nd × Bool → Bool) (x : Nd × Bool) (l : List (Nd × Bool)) : cnt p (x :: l) = (if p x then 1 else 0) + cnt p l := by
 rw [show x :: l = [x] ++ l from rfl, cnt_append]
 unfold cnt
 cases h : p x <;> simp [h]
theorem cnt_nil (p : Nd × Bool → Bool) : cnt p [] = 0 := rfl
theorem cnt_le (p : Nd × Bool → Bool) (l : List (Nd × Bool)) : cnt p l ≤ l.length := List.length_filter_le _ _
def ngb (x : Nd × Bool) : Bool := ngrp x.1 && x.2
theorem ngb_cat (l : List Nd) (b : Bool) : ngb (.cat l, b) = false := rfl
theorem ngb_alt (l : List Nd) (b : Bool) : ngb (.alt l, b) = false := rfl
theorem ngb_rep (d : Nd) (m n : Int) (b : Bool) : ngb (.rep d m n, b) = false := rfl
theorem ngb_group (d : Nd) (n : Int) (b : Bool) : ngb (.group n d, b) = b := Bool.true_and b
mutual
theorem evs_groups : ∀ d : Nd, cnt ngb (evs d) = ngroups d
 | .cat l => by have := evss_groups l; simp [evs, ngroups, cnt_cons, cnt_append, cnt_nil, ngb_cat, this]
 | .alt l => by have := evss_groups l; simp [evs, ngroups, cnt_cons, cnt_append, cnt_nil, ngb_alt, this]
 | .rep d _ _ => by have := evs_groups d; simp [evs, ngroups, cnt_cons, cnt_append, cnt_nil, ngb_rep, this]
 | .group _ d => by have := evs_groups d; simp [evs, ngroups, cnt_cons, cnt_append, cnt_nil, ngb_group, this]; omega
 | .empty => rfl
 | .one _ => rfl
 | .back _ => rfl
 | .start => rfl
 | .fin => rfl
theorem evss_groups : ∀ l : List Nd, cnt ngb (evss l) = ngroupss l
 | [] => rfl
 | d :: ds => by have := evs_groups d; have := evss_groups ds; simp [evss, ngroupss, cnt_append, *]
end
structure Ctr (w0 : World) (B t : Nat) (d : Nd) (val : List (Nd × Bool) → Value) (pre : List (Nd × Bool)) (C : Nat → Prop) (W : World) : Prop where
 nonc : ∀ k, ¬ C k
 box : Boxed W B t (val pre)
 below : Below w0.heap.size w0 W
 size : w0.heap.size ≤ B
theorem Ctr.other {w0 : World} {B t D : Nat} {d : Nd} {val : List (Nd × Bool) → Value} {pre : List (Nd × Bool)} {C : Nat → Prop} {X Y : World} (h : Ctr w0 B t d val pre C X) (ho : Other D C X Y) (hB : B < D) (hD : w0.heap.size ≤ D) : Ctr w0 B t d val pre C Y :=
 ⟨h.nonc, Boxed.same h.box (ho.block _ h.box.lt (.inl hB)), h.below.trans ⟨ho.os, ho.tape, ho.output, ho.size, fun k hk => ho.block k (Nat.lt_of_lt_of_le hk h.below.size) (.inl (Nat.lt_of_lt_of_le hk hD))⟩, h.size⟩
theorem Ctr.skip {w0 : World} {B t : Nat} {d : Nd} {val : List (Nd × Bool) → Value} {pre : List (Nd × Bool)} {x : Nd × Bool} {C : Nat → Prop} {X : World} (h : Ctr w0 B t d val pre C X) (hv : val (pre ++ [x]) = val pre) : Ctr w0 B t d val (pre ++ [x]) C X :=
 ⟨h.nonc, by rw [hv]; exact h.box, h.below, h.size⟩
theorem Ctr.step {w0 : World} {B t : Nat} {d : Nd} {val : List (Nd × Bool) → Value} {pre : List (Nd × Bool)} {x : Nd × Bool} {C : Nat → Prop} {X : World} {u : Value} (h : Ctr w0 B t d val pre C X) (hv : val (pre ++ [x]) = u) : Ctr w0 B t d val (pre ++ [x]) C (X.setCell ⟨B, 0, none⟩ u) :=
 ⟨h.nonc, by rw [hv]; exact Boxed.set u h.box, h.below.setCell (p := ⟨B, 0, none⟩) h.size u, h.size⟩
theorem Ctr.mem {w0 : World} {B t : Nat} {d : Nd} {val : List (Nd × Bool) → Value} {pre : List (Nd × Bool)} {C : Nat → Prop} {X Y : World} (h : Ctr w0 B t d val pre C X) (hb : Below X.heap.size X Y) : Ctr w0 B t d val pre C Y :=
 ⟨h.nonc, Boxed.same h.box (hb.block _ h.box.lt), h.below.trans (hb.mono h.below.size), h.size⟩
theorem Rdn.refl (n₀ B : Nat) (C : Nat → Prop) (W : World) : Rdn n₀ B C C W W := ⟨Nat.le_refl _, fun _ _ _ => rfl, fun _ h => .inl h⟩
theorem Rdn.setCell (n₀ B : Nat) (C : Nat → Prop) (W : World) {p : Addr} {u : Value} (h1 : n₀ ≤ p.block) (h2 : p.block < B) : Rdn n₀ B C C W (W.setCell p u) :=
 ⟨by simp [World.setCell], fun k _ hk => Below.heap_setCell _ _ _ _ (fun e => by subst e; rcases hk with h | h <;> omega), fun _ h => .inl h⟩
theorem Rdn.below {n₀ B : Nat} {C : Nat → Prop} {W W' : World} (h : Below W.heap.size W W') : Rdn n₀ B C C W W' := ⟨h.size, fun k hk _ => h.block k hk, fun _ h => .inl h⟩
theorem Rdn.trans {n₀ B : Nat} {C : Nat → Prop} {X Y Z : World} (h : Rdn n₀ B C C X Y) (k : Rdn n₀ B C C Y Z) : Rdn n₀ B C C X Z :=
 ⟨Nat.le_trans h.size k.size, fun i hi hc => (k.block i (Nat.lt_of_lt_of_le hi h.size) hc).trans (h.block i hi hc), fun _ h => .inl h⟩
theorem below_put {w0 W : World} {D : Nat} {o' : Obj} (hD : w0.heap.size ≤ D) : Below w0.heap.size W (W.putObj D o') :=
 ⟨rfl, rfl, rfl, by simp, fun k hk => World.putObj_heap_other (by omega)⟩
theorem pre_len {pre : List (Nd × Bool)} {x : Nd × Bool} {d : Nd} (h : ∃ suf, pre ++ x :: suf = evs d) : pre.length + 1 ≤ 2 * nsize d := by
 obtain ⟨suf, h⟩ := h
 have := congrArg List.length h
 rw [evs_len] at this
 simp at this
 omega
theorem assert_group {F : Nat → Prop} {w0 : World} {d : Nd} {v : Value} (h : NdX F w0 d v) : ∃ (num : Int) (u : Value), ((∃ T q, u = .iface T q) ∨ u = .nilIface) ∧
  (∀ w, (Instr.typeAssert v 26 126 true).run Tryz.prog w = .ok (.tuple #[.agg #[.int .i64 num, u], .bool (ngrp d)]) w) ∧ ∀ n d', d = .group n d' → num = n := by
 obtain ⟨n, h⟩ := h
 cases n with
 | zero => exact h.elim
 | succ n =>
  cases d with
  | empty =>
   rcases h with rfl | rfl
   ·exact ⟨0, .nilIface, .inr rfl, ta_Empty_Group _, fun _ _ h => by cases h⟩
   ·exact ⟨0, .nilIface, .inr rfl, ta_nil_Group, fun _ _ h => by cases h⟩
  | one s => obtain rfl := h; exact ⟨0, .nilIface, .inr rfl, ta_One_Group _, fun _ _ h => by cases h⟩
  | cat l => obtain ⟨a, cap, rfl, _⟩ := h; exact ⟨0, .nilIface, .inr rfl, ta_Cat_Group _, fun _ _ h => by cases h⟩
  | alt l => obtain ⟨a, cap, rfl, _⟩ := h; exact ⟨0, .nilIface, .inr rfl, ta_Alt_Group _, fun _ _ h => by cases h⟩
  | rep d mn mx => obtain ⟨u, rfl, _⟩ := h; exact ⟨0, .nilIface, .inr rfl, ta_Rep_Group _, fun _ _ h => by cases h⟩
  | group num d => obtain ⟨u, rfl, hu⟩ := h; exact ⟨num, u, nd_shape hu, ta_Group_Group _, fun _ _ h => by cases h; rfl⟩
  | back num => obtain rfl := h; exact ⟨0, .nilIface, .inr rfl, ta_Back_Group _, fun _ _ h => by cases h⟩
  | start => obtain rfl := h; exact ⟨0, .nilIface, .inr rfl, ta_Start_Group _, fun _ _ h => by cases h⟩
  | fin => obtain rfl := h; exact ⟨0, .nilIface, .inr rfl, ta_End_Group _, fun _ _ h => by cases h⟩
set_option linter.unusedSimpArgs false in
set_option maxRecDepth 100000 in
set_option maxHeartbeats 4000000 in
theorem pgroups_any (d : Nd) (v : Value) (w : World) (h : NdX (fun k => k < w.heap.size) w d v) (hsz : nsize d ≤ 4000000) :
  Calls Tryz.prog 57 #[v] w fun e w' => e = .returned (.int .i64 (ngroups d : Int)) ∧ Below w.heap.size w w' := by
 have hsh : (∃ T q, v = .iface T q) ∨ v = .nilIface := h.elim fun _ h => nd_shape h
 refine (callsIn_wide (n := 3)).1 ?_
 refine callsIn_of_wp_marks Tryz.func57 rfl trivial ?_ rfl
 simp only [Tryz.ntmps57, List.size_toArray, List.length_cons, List.length_nil, Nat.reduceAdd, Nat.reduceSub, Array.replicate_succ, Array.replicate_zero, List.push_toArray, List.append_toArray, List.nil_append, List.cons_append]
 gi_wp2_with (refine ⟨trivial, ?_⟩; gi_at_call 82; refine (callsIn_wide.2 (walk_any _ _ hsh)).mono ?_; rintro e w' ⟨rfl, rfl⟩)
 obtain ⟨V, hV⟩ : ∃ V, (w.alloc (.cells #[.int .i64 0] 3)).alloc (.cells #[v] 26) = V := ⟨_, rfl⟩
 have hB : Below w.heap.size w V := by rw [← hV]; exact ((Below.refl _ w).alloc (Nat.le_refl _) _).alloc (by simp) _
 have hVs : V.heap.size = w.heap.size + 2 := by rw [← hV]; simp
 have hc : V.cell? ⟨w.heap.size + 1, 0, none⟩ = some v := by
  have h1 := (Boxed.new (w.alloc (.cells #[.int .i64 0] 3)) 26 v).cell
  rw [World.size_alloc, hV] at h1
  exact h1
 have hb0 : Boxed V w.heap.size 3 (.int .i64 ((cnt ngb [] : Nat) : Int)) := by
  have h1 := (Boxed.new w 3 (.int .i64 0)).alloc (.cells #[v] 26)
  rw [hV] at h1
  exact h1
 rw [hV]
 refine wpIn_rangeFunc_cells (gf := 100) (lb := #[.pointer (some ⟨w.heap.size + 1, 0, none⟩)]) rfl (enters_of Tryz.func100 (by kernel_rfl) rfl)
  (walk_gives d hsz w.heap.size (w.heap.size + 1) v V (by omega) hc (h.below hB)) (Below.refl _ _) (by omega)
  (fun pre x args C b W hk => by obtain ⟨_, rfl, _⟩ := hk; rfl)
  (fun pre x args C b W k o hk h1 h2 => nd_ok_put hk h1 h2)
  (fun pre C W => Ctr w w.heap.size 3 d (fun pre => .int .i64 ((cnt ngb pre : Nat) : Int)) pre C W) (fun _ _ => False)
  (fun pre C X Y hk ho => hk.other ho (by omega) (by omega)) (fun _ _ _ hk _ => hk) ⟨fun _ h => h, hb0, hB, Nat.le_refl _⟩ ?round ?done ?stop
 case round =>
  rintro l pre ⟨d', b⟩ args C W hI hOk hC hlt
  obtain ⟨v', rfl, hsuf, hv'⟩ := hOk
  obtain ⟨num, u, hu, hTA, _⟩ := assert_group hv'
  gi_wp2
  clear hI hlt hv'
  intro W hI hOk hlt
  clear hOk
  have hc := hI.box.cell
  have hf := hI.box.frozen
  have hcA := fun o => (hI.mem ((Below.refl _ W).alloc (Nat.le_refl _) o)).box.cell
  have hfA := fun o => (hI.mem ((Below.refl _ W).alloc (Nat.le_refl _) o)).box.frozen
  have hIA := fun o => hI.mem ((Below.refl _ W).alloc (Nat.le_refl _) o)
  have hRA := fun o => Rdn.below (n₀ := w.heap.size) (B := w.heap.size + 2) (C := C) ((Below.refl _ W).alloc (Nat.le_refl _) o)
  have Wn : ngb (d', b) = true → IntKind.i64.wrap (((cnt ngb pre : Nat) : Int) + 1) = ((cnt ngb (pre ++ [(d', b)]) : Nat) : Int) := by
   intro hn
   have h1 := cnt_le ngb pre
   have h2 := pre_len hsuf
   rw [cnt_snoc, IntWalk.i64_in _ (by omega), hn]
   rfl
  have hno : ngb (d', b) = false → cnt ngb (pre ++ [(d', b)]) = cnt ngb pre := fun hn => by rw [cnt_snoc, hn]; rfl
  have hgb : ngb (d', b) = (ngrp d' && b) := rfl
  rw [hgb] at Wn hno
  cases hG : ngrp d'
  ·rw [hG] at hTA hno
   have Hno := Lib.hid (hno rfl)
   clear hno hgb Wn hG
   rcases hu with ⟨T, q, rfl⟩ | rfl
   all_goals
    gi_wp2
    exact ⟨C, hRA _, (hIA _).skip (by rw [Hno.out])⟩
  ·rw [hG] at hTA hno Wn
   cases b with
   | false =>
    have Hno := Lib.hid (hno rfl)
    clear hno hgb Wn hG
    rcases hu with ⟨T, q, rfl⟩ | rfl
    all_goals
     gi_wp2
     exact ⟨C, hRA _, (hIA _).skip (by rw [Hno.out])⟩
   | true =>
    replace Wn := Wn rfl
    clear hno hgb hG
    rcases hu with ⟨T, q, rfl⟩ | rfl
    all_goals
     gi_wp2
     exact ⟨C, (hRA _).trans (Rdn.setCell _ _ _ _ (Nat.le_refl _) (by simp)), (hIA _).step rfl⟩
 case done =>
  rintro xs C W rfl hI hK
  have hc := hI.box.cell
  rw [evs_groups] at hc
  gi_wp2
  refine ⟨by simp, .inl ⟨_, _, rfl, run_takeDeferred hK, ?_⟩⟩
  exact ⟨_, results_tmp rfl _ _ _, rfl, hI.below.trans (below_put (by omega))⟩
 case stop =>
  intro c W hk _
  exact hk.elim
end Go.Proofs.YtbgfankoojjejaaGreatDoor
namespace Go.Proofs.YtbgfankoojjejaaGreatDoor
open Go Go.RowKit
attribute [local go_sem] Oper.semAt_some
end Go.Proofs.YtbgfankoojjejaaGreatDoor
namespace Go.Proofs.YtbgfankoojjejaaGreatDoor
open Go Go.RowKit
theorem btw_len (d : UInt8) (rx : Bool) (L : List UInt8) : ∀ (n p : Nat) (acc : List UInt8), p ≤ L.length → (pcBtw d rx L n p acc).1.length ≤ acc.length + (L.length - p)
 | 0, p, acc, h => Nat.zero_le _
 | n + 1, p, acc, h => by
  cases hd : L.drop p with
  | nil => rw [pcBtw_nil hd]; exact Nat.zero_le _
  | cons c t =>
   have hl : t.length + 1 = L.length - p := by rw [← List.length_drop, hd]; rfl
   by_cases hc : c = d
   ·subst hc; rw [pcBtw_del hd]; simp only; omega
   ·obtain ⟨x, k, e, he⟩ : ∃ x k e, pcPart d rx c t p = (x, k, e) := ⟨_, _, _, rfl⟩
    by_cases h0 : e = 0
    ·subst h0
     rw [pcBtw_part hd hc he]
     obtain ⟨h1, h2, h3⟩ := pcPart_ok he
     have ih := btw_len d rx L n k (acc ++ x) (by omega)
     rw [List.length_append] at ih
     omega
    ·rw [pcBtw_err hd hc h0 he]
     obtain ⟨h1, _, _⟩ := pcPart_err he h0
     rw [h1]
     exact Nat.zero_le _
theorem CmSt.partsR {w : World} {p : Nat} {s : ByteArray} {ext : Bool} {st : CS} {ta tb ts : Value} {pa : Option Addr} {pc : Nat} {ma : Option Addr} {mc : Nat} {W : World} (h : CmSt w p s ext st ta tb ts pa pc ma mc W) {ps : List Cp} {a : Option Addr} {c B : Nat} (hB : w.heap.size ≤ B) (hr : W.ownsRow B 43 2 (.slice a ps.length c) ps.length (cpC ps)) (hn : ∀ g, (Value.slice a ps.length c).ownBlock = some g → g ≠ p ∧ (Value.slice ma st.ms.length mc).ownBlock ≠ some g) (k : Nat) :
  CmSt w p s ext (st.parts ps k) ta tb ts a c ma mc ((W.setCell ⟨p, 17, none⟩ (.slice a ps.length c)).setCell ⟨p, 2, none⟩ (.int .i64 (k : Int))) := by
 refine CmSt.go (st := { st with c := { st.c with sub := { st.c.sub with parts := ps } } }) ?_ k
 have o1 : ∀ b, b ≠ p → (W.setCell ⟨p, 17, none⟩ (.slice a ps.length c)).heap[b]? = W.heap[b]? := fun b hb => Below.heap_setCell _ _ _ _ (fun e => hb e)
 have hsz : (W.setCell ⟨p, 17, none⟩ (.slice a ps.length c)).heap.size = W.heap.size := by simp [World.setCell]
 have hk : ∀ {t x}, TrO (fun b => w.heap.size ≤ b ∧ b ≠ p ∧ (Value.slice ma st.ms.length mc).ownBlock ≠ some b) W t x → TrO (fun b => w.heap.size ≤ b ∧ b ≠ p ∧ (Value.slice ma st.ms.length mc).ownBlock ≠ some b) (W.setCell ⟨p, 17, none⟩ (.slice a ps.length c)) t x := fun hk => TrO.keep (by omega) (fun b hb _ => ⟨hb, fun o => World.cell?_of_block (w := W) (a := ⟨b, o, none⟩) (o1 b hb.2.1)⟩) hk
 exact ⟨h.b0.setCell (p := ⟨p, 17, none⟩) h.pg _, h.q.set 17 _, h.pg, hk h.ha, hk h.hb, hk h.hs, own_row_same h.r fun b hb => o1 b fun e => h.rg (by rw [hb, e]), h.rg, own_less hB (own_row_same hr fun b hb => o1 b (hn b hb).1), hn⟩
set_option linter.unusedVariables false in
set_option linter.unusedSimpArgs false in
set_option maxRecDepth 100000 in
set_option maxHeartbeats 8000000 in
theorem krep_any (w : World) (p : Nat) (s : ByteArray) (ext : Bool) (st : CS) (d : UInt8) (D : Nd) (W : World) (h : CmR w p s ext st W) (hD : st.c.sub.tree = some D) (hsz : nsize D ≤ 4000000) (hs : s.size ≤ 4000) (hk : st.k ≤ s.size) (hP : GP w) :
  Calls Tryz.prog 41 #[.pointer (some ⟨p, 0, none⟩), .int .u8 (d.toNat : Int)] W fun e W' => e = .returned (.int .i64 ((cmRep s.data.toList d st).1 : Int)) ∧ CmR w p s ext (cmRep s.data.toList d st).2 W' := by
 obtain ⟨ta, tb, ts, pa, pc, ma, mc, h⟩ := h
 have hs4 : s.size ≤ 4000000 := by omega
 have hN := fun w1 (hb : Below W.heap.size W w1) => pbetween_at s st.k d false w1 hs4 hk ((hP.up h.b0).up hb)
 unfold cmRep pcBetween
 rw [pcAt_at _ _ _ _ (by rw [← size_list]; exact hk), ← size_list, hD, show cmTreeGroups (some D) = ngroups D from rfl]
 have hln := btw_len d false s.data.toList (s.size + 1) st.k [] (by rw [← size_list]; exact hk)
 obtain ⟨⟨t, q, e0⟩, hR⟩ : ∃ R, pcBtw d false s.data.toList (s.size + 1) st.k [] = R := ⟨_, rfl⟩
 rw [hR] at hN hln ⊢
 rw [← size_list] at hln
 simp only [List.length_nil] at hln
 have hN : ∀ w1, Below W.heap.size W w1 → Calls Tryz.prog 43 #[.string s, .int .i64 (st.k : Int), .int .u8 d.toNat, .bool false] w1 fun e w' => e = .returned (.tuple #[.string (txt t), .int .i64 (q : Int), .int .i64 (e0 : Int)]) ∧ Below w1.heap.size w1 w' := hN
 obtain ⟨T, hT⟩ : ∃ T, txt t = T := ⟨_, rfl⟩
 have hTl : T.data.toList = t := by rw [← hT, txt_list]
 have hTs : T.size ≤ 4000 := by rw [← hT, txt_size]; omega
 rw [hT] at hN
 have hQ := fun w2 => kparts_any T (ngroups D) w2 hTs
 rw [hTl] at hQ
 obtain ⟨⟨ps, e1⟩, hR2⟩ : ∃ R, cpRun (ngroups D) t false [] [] = R := ⟨_, rfl⟩
 simp only [hR2] at hQ ⊢
 have HH := Lib.hid h
 have k0 : W.cell? ⟨p, 0, none⟩ = some (.string s) := (h.q.cell 0).trans rfl
 have k2 : W.cell? ⟨p, 2, none⟩ = some (.int .i64 (st.k : Int)) := (h.q.cell 2).trans rfl
 have hsh := h.hs.shape
 clear h hR hR2 hT hTl hln hP
 unfold cmRepOf
 simp only
 by_cases he : e0 = 0
 ·rw [if_pos he]
  have ce : ((e0 : Int) != 0) = false := by simp [he]
  clear he
  obtain ⟨Z, hZ⟩ : ∃ Z, (if e1 = 0 then ((0, st.parts ps q) : CO) else (e1, st)) = Z := ⟨_, rfl⟩
  rw [hZ]
  have HZ := Lib.hid hZ
  clear hZ
  rcases hsh with ⟨T8, q8, rfl⟩ | rfl
  all_goals
   go_enter Tryz.func41, Tryz.ntmps41
   go_upto_region 1 with fail
   go_region_held3 (fun w' => w'.cell? ⟨p, 0, none⟩ = some (.string s) ∧ w'.cell? ⟨p, 2, none⟩ = some (.int .i64 (st.k : Int))) (first | exact ⟨k0, k2⟩ | (refine ⟨?_, ?_⟩ <;> assumption)) (first | (go_at_call 43; refine (hN _ (by first | exact Below.refl _ _ | exact (Below.refl _ _).drew)).mono ?_; rintro e w1 ⟨rfl, b1⟩; have H1 := Lib.hid (by first | exact HH.out.step b1 | exact HH.out.drew.step b1 : CmSt w p s ext st ta tb _ pa pc ma mc w1); have m0 : (w1).cell? ⟨p, 0, none⟩ = some (.string s) := (H1.out.q.cell 0).trans rfl; have m2 : (w1).cell? ⟨p, 2, none⟩ = some (.int .i64 (st.k : Int)) := (H1.out.q.cell 2).trans rfl; clear b1))
   have hgr := pgroups_any D _ w1 (by have h9 := H1.out.hs; rw [hD] at h9; exact NdX.keep (Nat.le_refl _) (fun b _ hl => ⟨hl, fun _ => rfl⟩) h9) hsz
   have k16 : w1.cell? ⟨p, 16, none⟩ = some _ := (H1.out.q.cell 16).trans rfl
   clear k0 k2 m0 m2
   go_upto_region 6 with (first
    | (go_at_call 57; refine hgr.mono ?_; clear hgr; rintro e w2 ⟨rfl, b2⟩; have H2 := Lib.hid (H1.out.step b2); clear b2)
    | (go_at_call 56; refine (hQ _).mono ?_; rintro e w3 ⟨b3, a3, c3, rfl, r3⟩; have H3 := Lib.hid (H2.out.step b3); have R3 := Lib.hid r3; have HL := Lib.hid (And.intro H2.out.b0.size H2.out.q.lt); have HM := Lib.hid (fun g hg => own_lt' H2.out.r g hg); clear b3 r3))
   by_cases h1 : e1 = 0
   ·subst h1
    obtain rfl : (0, st.parts ps q) = Z := by rw [← HZ.out, if_pos rfl]
    have k2 : w3.cell? ⟨p, 2, none⟩ = some (.int .i64 (st.k : Int)) := (H3.out.q.cell 2).trans rfl
    have k17 : w3.cell? ⟨p, 17, none⟩ = some (.slice pa st.c.sub.parts.length pc) := (H3.out.q.cell 17).trans rfl
    have f2 := H3.out.q.frozen 2
    have f17 := H3.out.q.frozen 17
    have H4 := Lib.hid (H3.out.partsR HL.out.1 R3.out (fun g hg => by
     have hge := own_of R3.out g hg
     have hlp := HL.out.2
     refine ⟨by omega, fun e => ?_⟩
     have := HM.out g e
     omega) q)
    go_wp2_with fail
    go_ret
    exact ⟨rfl, H4.out.R⟩
   ·obtain rfl : (e1, st) = Z := by rw [← HZ.out, if_neg h1]
    have c1 : ((e1 : Int) != 0) = true := by simpa using h1
    clear h1
    go_wp2_with fail
    go_ret
    exact ⟨rfl, H3.out.R⟩
 ·rw [if_neg he]
  have ce : ((e0 : Int) != 0) = true := by simpa using he
  clear he
  go_enter Tryz.func41, Tryz.ntmps41
  go_upto_region 1 with fail
  go_region_held3 (fun w' => w'.cell? ⟨p, 0, none⟩ = some (.string s) ∧ w'.cell? ⟨p, 2, none⟩ = some (.int .i64 (st.k : Int))) (first | exact ⟨k0, k2⟩ | (refine ⟨?_, ?_⟩ <;> assumption)) (first | (go_at_call 43; refine (hN _ (by first | exact Below.refl _ _ | exact (Below.refl _ _).drew)).mono ?_; rintro e w1 ⟨rfl, b1⟩; have H1 := Lib.hid (by first | exact HH.out.step b1 | exact HH.out.drew.step b1 : CmSt w p s ext st ta tb _ pa pc ma mc w1); have m0 : (w1).cell? ⟨p, 0, none⟩ = some (.string s) := (H1.out.q.cell 0).trans rfl; have m2 : (w1).cell? ⟨p, 2, none⟩ = some (.int .i64 (st.k : Int)) := (H1.out.q.cell 2).trans rfl; clear b1))
  have f2 := H1.out.q.frozen 2
  have H2 := Lib.hid (H1.out.go q)
  go_wp2_with fail
  go_ret
  exact ⟨rfl, H2.out.R⟩
end Go.Proofs.YtbgfankoojjejaaGreatDoor
namespace Go.Proofs.YtbgfankoojjejaaGreatDoor
set_option linter.unusedVariables false
theorem drop_ltk {L t : List UInt8} {k : Nat} {c : UInt8} (h : L.drop k = c :: t) : k < L.length := by
 by_cases e : k < L.length
 ·exact e
 ·rw [List.drop_eq_nil_of_le (by omega)] at h; cases h
theorem btwk_le {d : UInt8} {rx : Bool} {L : List UInt8} {k : Nat} (hk : k ≤ L.length) : (pcBetween L (k : Int) d rx).2.1 ≤ L.length := by
 unfold pcBetween
 rw [pcAt_at _ _ _ _ hk]
 exact pcBtw_le d rx L _ k [] hk
theorem del_le {L : List UInt8} {st : CS} (hk : st.k ≤ L.length) : (cmDel L st).2.2.k ≤ L.length := by
 unfold cmDel
 cases hd : L.drop st.k with
 | nil => exact hk
 | cons c t =>
  have := drop_ltk hd
  simp only
  split
  ·exact hk
  ·show st.k + 1 ≤ _; omega
theorem cmDel_ms (L : List UInt8) (st : CS) : (cmDel L st).2.2.ms = st.ms := by
 unfold cmDel
 split
 ·rfl
 ·split <;> rfl
theorem repk_le {L : List UInt8} {d : UInt8} {st : CS} (hk : st.k ≤ L.length) : (cmRep L d st).2.k ≤ L.length := by
 unfold cmRep cmRepOf
 split
 ·split
  ·exact btwk_le hk
  ·exact hk
 ·exact btwk_le hk
end Go.Proofs.YtbgfankoojjejaaGreatDoor
namespace Go.Proofs.YtbgfankoojjejaaGreatDoor
set_option linter.unusedVariables false
def cmPlain (b : UInt8) : Bool := !(pcDigits.contains b) && !(b == 36) && !(b == 47) && !(b == 92) && !(b == 32) && !(b == 9) && !(b == 44) && !(b == 33) && !(b == 43)
theorem blk_plain {b : UInt8} (h : cmPlain b = true) {L t : List UInt8} {k : Nat} (hd : L.drop k = b :: t) : pcBlk L k = k := by
 unfold cmPlain at h
 simp only [Bool.and_eq_true, Bool.not_eq_true', beq_eq_false_iff_ne] at h
 unfold pcBlk pcIs
 rw [hd, pcLen_no (by simp [h])]
 rfl
theorem not_plain {b : UInt8} (h : cmPlain b = true) {L t : List UInt8} {k : Nat} (hd : L.drop k = b :: t) : adNot L k = .ok (false, k) := by
 unfold adNot
 rw [blk_plain h hd, hd]
 unfold cmPlain at h
 simp only [Bool.and_eq_true, Bool.not_eq_true', beq_eq_false_iff_ne] at h
 rw [if_neg (by simp [h])]
theorem ad_plain {b : UInt8} (h : cmPlain b = true) (ext : Bool) {L t : List UInt8} {k : Nat} (hd : L.drop k = b :: t) : adM ext false L k = .ok (adNone, [], k) := by
 unfold adM
 rw [hd]
 unfold cmPlain at h
 simp only [Bool.and_eq_true, Bool.not_eq_true', beq_eq_false_iff_ne] at h
 simp only
 have hd2 := h.1.1.1.1.1.1.1.1
 rw [pcDigits_iff] at hd2
 rw [if_neg (by intro hc; simp [hc] at hd2), if_neg h.1.1.1.1.1.1.1.2, if_neg h.1.1.1.1.1.1.2, if_neg h.1.1.1.1.1.2, if_neg (by simp)]
def gdNone : Grd := ⟨adNone, adNone, false⟩
theorem gd_plain {b : UInt8} (h : cmPlain b = true) (ext : Bool) {L t : List UInt8} {k : Nat} (hd : L.drop k = b :: t) : gdM ext L k = .ok (gdNone, [], k) := by
 unfold gdM
 rw [ad_plain h ext hd]
 show gdEnd adNone adNone [] (adNot L k) = _
 rw [not_plain h hd]
 rfl
end Go.Proofs.YtbgfankoojjejaaGreatDoor
namespace Go.Proofs.YtbgfankoojjejaaGreatDoor
open Go.ChangeShapes Go.WideShapes Go.ChangeAt Go.RowKit
theorem own : ownKnob Tryz.prog.godebug = none := by kernel_rfl
theorem laidOut : laidOutB Tryz.prog = true := by kernel_rfl
def IsRow (k : IntKind) (w : World) (a : Option Addr) (len cap : Nat) (zs : List Int) : Prop :=
 (a = none ∧ len = 0 ∧ cap = 0 ∧ zs = []) ∨
 ∃ x, a = some x ∧ len ≤ cap ∧ cap ≤ maxLen ∧ zs.length = cap ∧ (∀ i, i < zs.length → w.cell? (x.add i) = some (.int k (zs.getD i 0))) ∧ ∀ n ∈ zs, (Lit.int k n).wf = true
end Go.Proofs.YtbgfankoojjejaaGreatDoor
namespace Go.Proofs.YtbgfankoojjejaaGreatDoor
open Go Go.RowKit
theorem delim_fine {ext : Bool} {L : List UInt8} {b : Nat} {d : UInt8} {q : (List UInt8 × Nd) × List Wm × Nat} (h : delimM ext L b d = .ok q) : nsize q.1.2 ≤ 4000000 := by
 unfold delimM at h
 simp only at h
 split at h
 ·split at h
  ·cases h
  ·split at h
   ·cases h
   ·rename_i q' hp
    injection h with h
    subst h
    have := whole_size (st := q'.1) (d := q'.2) hp
    show nsize q'.2 ≤ _
    omega
 ·cases h
theorem gdM_err {ext : Bool} {L : List UInt8} {k : Nat} {q : Nat × Nat} (h : gdM ext L k = .error q) : q.1 ≠ 0 := by
 unfold gdM at h
 cases h1 : adM ext false L k with
 | error q2 =>
  rw [h1] at h
  have e := adM_err h1
  unfold adTwo gdOf at h
  injection h with h
  rw [← h]
  exact e
 | ok r =>
  rw [h1] at h
  unfold adTwo at h
  simp only at h
  split at h
  ·unfold gdOf gdEnd at h
   simp only at h
   split at h
   ·rename_i h2
    injection h with h
    rw [← h]
    exact adNot_err h2
   ·cases h
  ·cases h2 : adSec ext L r.2.2 with
   | error q2 =>
    rw [h2] at h
    have e := adSec_err h2
    unfold adJoin gdOf at h
    injection h with h
    rw [← h]
    exact e
   | ok r2 =>
    rw [h2] at h
    unfold adJoin gdOf gdEnd at h
    simp only at h
    split at h
    ·rename_i h3
     injection h with h
     rw [← h]
     exact adNot_err h3
    ·cases h
end Go.Proofs.YtbgfankoojjejaaGreatDoor
namespace Go.Proofs.YtbgfankoojjejaaGreatDoor
open Go Go.RowKit
theorem rep_ms (L : List UInt8) (d : UInt8) (st : CS) : (cmRep L d st).2.ms = st.ms := by
 unfold cmRep cmRepOf
 split
 ·split <;> rfl
 ·rfl
theorem rx_ok {ext : Bool} {L : List UInt8} {d : UInt8} {st : CS} (hk : st.k ≤ L.length) (h0 : (cmRx ext L d st).1 = 0) : (cmRx ext L d st).2.k ≤ L.length ∧ (cmRx ext L d st).2.ms.length ≤ st.ms.length + 250 ∧ ∃ D, (cmRx ext L d st).2.c.sub.tree = some D ∧ nsize D ≤ 4000000 := by
 unfold cmRx at h0 ⊢
 cases hR : delimM ext L st.k d with
 | error q => rw [hR] at h0; exact absurd h0 (delim_err hR)
 | ok q =>
  obtain ⟨h1, h2⟩ := delim_le hk hR
  refine ⟨h1, ?_, _, rfl, delim_fine hR⟩
  show (st.ms ++ q.2.1).length ≤ _
  rw [List.length_append]
  omega
set_option linter.unusedVariables false in
set_option linter.unusedSimpArgs false in
set_option maxRecDepth 100000 in
set_option maxHeartbeats 4000000 in
theorem ksub_any (w : World) (p : Nat) (s : ByteArray) (ext : Bool) (st : CS) (W : World) (h : CmR w p s ext st W) (hs : s.size ≤ 4000) (hk : st.k ≤ s.size) (hl : st.ms.length ≤ 90000) (hG : Gl w) (hP : GP w) :
  Calls Tryz.prog 22 #[.pointer (some ⟨p, 0, none⟩)] W fun e W' => e = .returned (.int .i64 ((cmSub ext s.data.toList st).1 : Int)) ∧ CmR w p s ext (cmSub ext s.data.toList st).2 W' := by
 have hs4 : s.size ≤ 4000000 := by omega
 have hA := kdel_any w p s ext st W h hs4 hk
 have hk1 := del_le (L := s.data.toList) (st := st) (by rw [← size_list]; exact hk)
 have hm1 := cmDel_ms s.data.toList st
 rw [← size_list] at hk1
 obtain ⟨Z, hZ⟩ : ∃ Z, cmSub ext s.data.toList st = Z := ⟨_, rfl⟩
 rw [hZ]
 unfold cmSub at hZ
 obtain ⟨⟨d, e1, s1⟩, hR1⟩ : ∃ R, cmDel s.data.toList st = R := ⟨_, rfl⟩
 rw [hR1] at hA hk1 hm1 hZ
 simp only at hA hk1 hm1 hZ
 unfold CO.then at hZ
 simp only at hZ
 clear hR1 h
 by_cases h1 : e1 = 0
 ·subst h1
  rw [if_pos rfl] at hZ
  have hB := fun W1 (h1 : CmR w p s ext s1 W1) => krx_any w p s ext s1 d W1 h1 hs4 hk1 (by rw [hm1]; exact hl) hG hP
  have hok2 := rx_ok (ext := ext) (d := d) (st := s1) (L := s.data.toList) (by rw [← size_list]; exact hk1)
  obtain ⟨⟨e2, s2⟩, hR2⟩ : ∃ R, cmRx ext s.data.toList d s1 = R := ⟨_, rfl⟩
  rw [hR2] at hB hok2 hZ
  simp only at hB hok2 hZ
  clear hR2
  by_cases h2 : e2 = 0
  ·subst h2
   rw [if_pos rfl] at hZ
   obtain ⟨hk2, hm2, D, hD, hDz⟩ := hok2 rfl
   rw [← size_list] at hk2
   have hC := fun W1 (h1 : CmR w p s ext s2 W1) => krep_any w p s ext s2 d D W1 h1 hD hDz hs hk2 hP
   have hk3 := repk_le (L := s.data.toList) (d := d) (st := s2) (by rw [← size_list]; exact hk2)
   have hm3 := rep_ms s.data.toList d s2
   rw [← size_list] at hk3
   obtain ⟨⟨e3, s3⟩, hR3⟩ : ∃ R, cmRep s.data.toList d s2 = R := ⟨_, rfl⟩
   rw [hR3] at hC hk3 hm3 hZ
   simp only at hC hk3 hm3 hZ
   by_cases h3 : e3 = 0
   ·subst h3
    rw [if_pos rfl, ← size_list] at hZ
    have hE := fun W1 (h1 : CmR w p s ext s3 W1) => kflags_any w p s ext s3 W1 h1 hs4 hk3 (by rw [hm3]; rw [hm1] at hm2; omega)
    rw [hZ] at hE
    clear hR3 hZ hok2 hD hDz hk3 hm3 hm2 hk2 hm1 hk1 hG hP hl hk
    go_enter Tryz.func22, Tryz.ntmps22
    go_wp2_with (first
     | (go_at_call 39; refine hA.mono ?_; clear hA; rintro e w1 ⟨rfl, h1⟩)
     | (go_at_call 40; refine (hB _ h1).mono ?_; clear hB; rintro e w2 ⟨rfl, h2⟩)
     | (go_at_call 41; refine (hC _ h2).mono ?_; clear hC; rintro e w3 ⟨rfl, h3⟩)
     | (go_at_call 42; refine (hE _ h3).mono ?_; clear hE; rintro e w4 ⟨rfl, h4⟩))
    go_ret
    exact ⟨rfl, h4⟩
   ·rw [if_neg h3] at hZ
    subst hZ
    have ce : ((e3 : Int) != 0) = true := by simpa using h3
    clear hR3 hok2 hD hDz hk3 hm3 hm2 hk2 hm1 hk1 hG hP hl hk h3
    go_enter Tryz.func22, Tryz.ntmps22
    go_wp2_with (first
     | (go_at_call 39; refine hA.mono ?_; clear hA; rintro e w1 ⟨rfl, h1⟩)
     | (go_at_call 40; refine (hB _ h1).mono ?_; clear hB; rintro e w2 ⟨rfl, h2⟩)
     | (go_at_call 41; refine (hC _ h2).mono ?_; clear hC; rintro e w3 ⟨rfl, h3⟩))
    go_ret
    exact ⟨rfl, h3⟩
  ·rw [if_neg h2] at hZ
   subst hZ
   have ce : ((e2 : Int) != 0) = true := by simpa using h2
   clear hok2 hm1 hk1 hG hP hl hk h2
   go_enter Tryz.func22, Tryz.ntmps22
   go_wp2_with (first
    | (go_at_call 39; refine hA.mono ?_; clear hA; rintro e w1 ⟨rfl, h1⟩)
    | (go_at_call 40; refine (hB _ h1).mono ?_; clear hB; rintro e w2 ⟨rfl, h2⟩))
   go_ret
   exact ⟨rfl, h2⟩
 ·rw [if_neg h1] at hZ
  subst hZ
  have ce : ((e1 : Int) != 0) = true := by simpa using h1
  clear hm1 hk1 hG hP hl hk h1
  go_enter Tryz.func22, Tryz.ntmps22
  go_wp2_with (go_at_call 39; refine hA.mono ?_; clear hA; rintro e w1 ⟨rfl, h1⟩)
  go_ret
  exact ⟨rfl, h1⟩
end Go.Proofs.YtbgfankoojjejaaGreatDoor
namespace Go.Proofs.YtbgfankoojjejaaGreatDoor
open Go Go.RowKit
def LsA (W : World) (R : Option (List UInt8)) (e : Ending) (W' : World) : Prop := Below W.heap.size W W' ∧ match R with
 | none => ∃ a n c, e = .returned (.tuple #[.slice a n c, .bool false])
 | some l => ∃ a c, e = .returned (.tuple #[.slice a l.length c, .bool true]) ∧ W'.ownsRow W.heap.size 5 1 (.slice a l.length c) l.length (Lib.byteCells l)
set_option linter.unusedVariables false in
set_option linter.unusedSimpArgs false in
set_option maxRecDepth 100000 in
set_option maxHeartbeats 8000000 in
theorem klist_any (s : ByteArray) (W : World) (hs : s.size ≤ 4000000) : Calls Tryz.prog 63 #[.string s] W (LsA W (cmList s.data.toList false [])) := by
 obtain ⟨R, hR⟩ : ∃ R, cmList s.data.toList false [] = R := ⟨_, rfl⟩
 rw [hR]
 have HR := Lib.hid hR
 obtain ⟨i0, hi, hz0, hz1, hz2⟩ := cu8_info
 clear hR
 go_enter Tryz.func63, Tryz.ntmps63
 go_wp2_with fail
 go_loopw [4, 5, 10] (fun l e i wr => ∃ (j : Nat) (esc : Bool) (acc : List UInt8) (a : Option Addr) (c : Nat), j ≤ s.size ∧ l = .slice a acc.length c ∧ e = .bool esc ∧ i = .int .i64 j ∧ wr.ownsRow W.heap.size 5 1 (.slice a acc.length c) acc.length (Lib.byteCells acc) ∧ Below W.heap.size W wr ∧ cmList (s.data.toList.drop j) esc acc = R ∧ acc.length ≤ j) (fun _ _ i _ => s.size - (intOf i).toNat)
 case atStart => exact ⟨0, false, [], none, 0, by omega, rfl, rfl, rfl, World.ownsRow_nil _ _ _ _, Below.refl _ _, HR.out, by simp⟩
 case round =>
  obtain ⟨j, esc, acc, a, c, hj, rfl, rfl, rfl, hrow, hbw, hc, hal⟩ := hrel
  have HRw := Lib.hid hrow
  have HB := Lib.hid hbw
  have hBs : W.heap.size ≤ wr.heap.size := hbw.size
  have hm1 : acc.length + 1 ≤ maxLen := by unfold maxLen; omega
  have hm2 : (acc.length + 1) * 1 ≤ 140737488355328 := by omega
  clear hrow hbw
  by_cases hlt : j < s.size
  ·have hji : (j : Int) < (s.size : Int) := by omega
   have hy0 : (0 : Int) ≤ (j : Int) := by omega
   rw [drop_at s j hlt] at hc
   obtain ⟨b, hb⟩ : ∃ b, s[j] = b := ⟨_, rfl⟩
   have hsx : s[j]'hlt = b := hb
   rw [hb] at hc
   clear hb
   have Wj : IntKind.i64.wrap ((j : Int) + 1) = (j : Int) + 1 := IntWalk.i64_in _ (by omega)
   cases esc with
   | false =>
    by_cases h92 : b = 92
    ·have q92 : ((b.toNat : Int) == 92) = true := by rw [h92]; rfl
     have HC := Lib.hid (show cmList (s.data.toList.drop (j + 1)) true acc = R by rw [← hc, h92]; simp [cmList])
     clear h92 hc
     go_wp2_with fail
     go_roundw
     case rel => exact ⟨j + 1, true, acc, a, c, by omega, rfl, rfl, by go_num, HRw.out, HB.out, HC.out, by omega⟩
     case measure => simp [intOf]; omega
    ·have q92 : ((b.toNat : Int) == 92) = false := cmu_ne (c := 92) h92
     have HC := Lib.hid (show cmList (s.data.toList.drop (j + 1)) false (acc ++ [b]) = R by rw [← hc]; simp [cmList, h92])
     clear h92 hc
     have hbl := (Below.refl wr.heap.size wr).alloc (Nat.le_refl _) (.cells #[.int .u8 (b.toNat : Int)] 5); have hbs2 : W.heap.size ≤ (wr.alloc (.cells #[.int .u8 (b.toNat : Int)] 5)).heap.size := Nat.le_trans hBs hbl.size; have HBL := Lib.hid hbl; clear hbl; go_wp2_with (at_builtin; refine wpList_append_own_at _ rfl _ _ 22 rfl W.heap.size 5 i0 (.int .u8 0) 1 1 Tryz.underlying22 hi hz0 hz1 hz2 rfl (by decide) (.slice a acc.length c) acc.length (Lib.byteCells acc) rfl (nd_own_below HRw.out HBL.out) ⟨wr.heap.size, 0, none⟩ 1 1 [.int .u8 (b.toNat : Int)] rfl rfl (one_new _ _ _) (by intro u hu; simp at hu; subst hu; rfl) hm1 hm2 hbs2 ?_; intro v6 w6 hown6 hgr6 _ hat6; obtain ⟨a6, c6, rfl⟩ := own_form' hown6; have HO := Lib.hid hown6; have HB6 := Lib.hid ((HB.out.trans (HBL.out.mono hBs)).grown hgr6 hbs2 (fun k hk => own_of HRw.out k hk)); clear hown6 hgr6 hat6); go_roundw; (case rel => exact ⟨j + 1, false, acc ++ [b], a6, c6, by omega, by simp, rfl, by go_num, (by have h9 := HO.out; rw [byteCells_snoc, List.length_append]; exact h9), HB6.out, HC.out, by simp; omega⟩); (case measure => simp [intOf]; omega)
   | true =>
    by_cases h110 : b = 110
    ·have q110 : ((b.toNat : Int) == 110) = true := by rw [h110]; rfl
     have HC := Lib.hid (show cmList (s.data.toList.drop (j + 1)) false (acc ++ [10]) = R by rw [← hc, h110]; simp [cmList])
     clear h110 hc
     have hbl := (Below.refl wr.heap.size wr).alloc (Nat.le_refl _) (.cells #[.int .u8 10] 5); have hbs2 : W.heap.size ≤ (wr.alloc (.cells #[.int .u8 10] 5)).heap.size := Nat.le_trans hBs hbl.size; have HBL := Lib.hid hbl; clear hbl; go_wp2_with (at_builtin; refine wpList_append_own_at _ rfl _ _ 22 rfl W.heap.size 5 i0 (.int .u8 0) 1 1 Tryz.underlying22 hi hz0 hz1 hz2 rfl (by decide) (.slice a acc.length c) acc.length (Lib.byteCells acc) rfl (nd_own_below HRw.out HBL.out) ⟨wr.heap.size, 0, none⟩ 1 1 [.int .u8 10] rfl rfl (one_new _ _ _) (by intro u hu; simp at hu; subst hu; rfl) hm1 hm2 hbs2 ?_; intro v6 w6 hown6 hgr6 _ hat6; obtain ⟨a6, c6, rfl⟩ := own_form' hown6; have HO := Lib.hid hown6; have HB6 := Lib.hid ((HB.out.trans (HBL.out.mono hBs)).grown hgr6 hbs2 (fun k hk => own_of HRw.out k hk)); clear hown6 hgr6 hat6); go_roundw; (case rel => exact ⟨j + 1, false, acc ++ [10], a6, c6, by omega, by simp, rfl, by go_num, (by have h9 := HO.out; rw [byteCells_snoc, List.length_append]; exact h9), HB6.out, HC.out, by simp; omega⟩); (case measure => simp [intOf]; omega)
    ·have q110 : ((b.toNat : Int) == 110) = false := cmu_ne (c := 110) h110
     by_cases h92 : b = 92
     ·have q92 : ((b.toNat : Int) != 92) = false := by rw [h92]; rfl
      have HC := Lib.hid (show cmList (s.data.toList.drop (j + 1)) false (acc ++ [b]) = R by rw [← hc, h92]; simp [cmList])
      clear h110 h92 hc
      have hbl := (Below.refl wr.heap.size wr).alloc (Nat.le_refl _) (.cells #[.int .u8 (b.toNat : Int)] 5); have hbs2 : W.heap.size ≤ (wr.alloc (.cells #[.int .u8 (b.toNat : Int)] 5)).heap.size := Nat.le_trans hBs hbl.size; have HBL := Lib.hid hbl; clear hbl; go_wp2_with (at_builtin; refine wpList_append_own_at _ rfl _ _ 22 rfl W.heap.size 5 i0 (.int .u8 0) 1 1 Tryz.underlying22 hi hz0 hz1 hz2 rfl (by decide) (.slice a acc.length c) acc.length (Lib.byteCells acc) rfl (nd_own_below HRw.out HBL.out) ⟨wr.heap.size, 0, none⟩ 1 1 [.int .u8 (b.toNat : Int)] rfl rfl (one_new _ _ _) (by intro u hu; simp at hu; subst hu; rfl) hm1 hm2 hbs2 ?_; intro v6 w6 hown6 hgr6 _ hat6; obtain ⟨a6, c6, rfl⟩ := own_form' hown6; have HO := Lib.hid hown6; have HB6 := Lib.hid ((HB.out.trans (HBL.out.mono hBs)).grown hgr6 hbs2 (fun k hk => own_of HRw.out k hk)); clear hown6 hgr6 hat6); go_roundw; (case rel => exact ⟨j + 1, false, acc ++ [b], a6, c6, by omega, by simp, rfl, by go_num, (by have h9 := HO.out; rw [byteCells_snoc, List.length_append]; exact h9), HB6.out, HC.out, by simp; omega⟩); (case measure => simp [intOf]; omega)
     ·have q92 : ((b.toNat : Int) != 92) = true := by have e := cmu_ne (c := 92) h92; rw [bne, show ((b.toNat : Int) == 92) = false from e]; rfl
      have HC := Lib.hid (show R = none by rw [← hc]; simp [cmList, h110, h92])
      clear h110 h92 hc
      go_wp2_with fail
      go_ret2
      rw [HC.out]
      exact ⟨HB.out, none, 0, 0, rfl⟩
  ·obtain rfl : j = s.size := by omega
   rw [drop_end s s.size (Nat.le_refl _)] at hc
   cases esc with
   | true =>
    have HC := Lib.hid (show R = none by rw [← hc]; rfl)
    clear hc
    go_wp2_with fail
    go_ret2
    rw [HC.out]
    exact ⟨HB.out, _, _, _, rfl⟩
   | false =>
    have HC := Lib.hid (show R = some acc by rw [← hc]; rfl)
    clear hc
    go_wp2_with fail
    go_ret2
    rw [HC.out]
    exact ⟨HB.out, a, c, rfl, HRw.out⟩
end Go.Proofs.YtbgfankoojjejaaGreatDoor
