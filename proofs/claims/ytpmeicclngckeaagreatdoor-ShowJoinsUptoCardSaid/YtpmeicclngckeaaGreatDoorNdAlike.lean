/- Whether two nodes are alike but for their parts: the program's isEmpty, alike. -/
import Derived.Test.YtpmeicclngckeaaGreatDoorTrCaught
import Derived.Test.YtpmeicclngckeaaGreatDoorNdAb
namespace Go.Proofs.YtpmeicclngckeaaGreatDoor
open Go Go.RowKit

def nemp : Nd → Bool
  | .empty => true
  | _ => false
def ncat : Nd → Bool
  | .cat _ => true
  | _ => false
def nrep : Nd → Bool
  | .rep _ _ _ => true
  | _ => false
def nsta : Nd → Bool
  | .start => true
  | _ => false
def nend : Nd → Bool
  | .fin => true
  | _ => false
set_option linter.unusedSimpArgs false in
set_option maxRecDepth 100000 in
set_option maxHeartbeats 1000000 in
theorem isempty_any {F : Nat → Prop} (d : Nd) (v : Value) (w : World) (h : NdX F w d v) : Calls Tryz.prog 107 #[v] w fun e w' => e = .returned (.bool (nemp d)) ∧ Below w.heap.size w w' := by
  rcases nd_kinds h with ⟨rfl, rfl | rfl⟩ | ⟨s, rfl, rfl⟩ | ⟨l, a, cap, rfl, rfl, hr⟩ | ⟨l, a, cap, rfl, rfl, hr⟩ | ⟨d', mn, mx, u, rfl, rfl, hu⟩ | ⟨num, d', u, rfl, rfl, hu⟩ | ⟨num, rfl, rfl⟩ | ⟨rfl, rfl⟩ | ⟨rfl, rfl⟩
  all_goals
    go_enter Tryz.func107, Tryz.ntmps107
    go_wp2_with fail
    go_ret
    exact ⟨rfl, Below.refl _ _⟩
theorem assert_cat {F : Nat → Prop} {w0 : World} {d : Nd} {v : Value} (h : NdX F w0 d v) : ∃ a n c, ∀ w, (Instr.typeAssert v 31 92 true).run Tryz.prog w = .ok (.tuple #[.agg #[.slice a n c], .bool (ncat d)]) w := by
  rcases nd_kinds h with ⟨rfl, rfl | rfl⟩ | ⟨s, rfl, rfl⟩ | ⟨l, a, cap, rfl, rfl, hr⟩ | ⟨l, a, cap, rfl, rfl, hr⟩ | ⟨d', mn, mx, u, rfl, rfl, hu⟩ | ⟨num, d', u, rfl, rfl, hu⟩ | ⟨num, rfl, rfl⟩ | ⟨rfl, rfl⟩ | ⟨rfl, rfl⟩
  · exact ⟨none, 0, 0, ta_Empty_Cat _⟩
  · exact ⟨none, 0, 0, ta_nil_Cat⟩
  · exact ⟨none, 0, 0, ta_One_Cat _⟩
  · exact ⟨_, _, _, ta_Cat_Cat _⟩
  · exact ⟨none, 0, 0, ta_Alt_Cat _⟩
  · exact ⟨none, 0, 0, ta_Rep_Cat _⟩
  · exact ⟨none, 0, 0, ta_Group_Cat _⟩
  · exact ⟨none, 0, 0, ta_Back_Cat _⟩
  · exact ⟨none, 0, 0, ta_Start_Cat _⟩
  · exact ⟨none, 0, 0, ta_End_Cat _⟩
theorem assert_rep {F : Nat → Prop} {w0 : World} {d : Nd} {v : Value} (h : NdX F w0 d v) : ∃ u mn mx, ((∃ T q, u = .iface T q) ∨ u = .nilIface) ∧ (∀ w, (Instr.typeAssert v 31 95 true).run Tryz.prog w = .ok (.tuple #[.agg #[u, .int .i64 mn, .int .i64 mx], .bool (nrep d)]) w) ∧ ∀ d' a b, d = .rep d' a b → mn = a ∧ mx = b := by
  rcases nd_kinds h with ⟨rfl, rfl | rfl⟩ | ⟨s, rfl, rfl⟩ | ⟨l, a, cap, rfl, rfl, hr⟩ | ⟨l, a, cap, rfl, rfl, hr⟩ | ⟨d', mn, mx, u, rfl, rfl, hu⟩ | ⟨num, d', u, rfl, rfl, hu⟩ | ⟨num, rfl, rfl⟩ | ⟨rfl, rfl⟩ | ⟨rfl, rfl⟩
  · exact ⟨.nilIface, 0, 0, .inr rfl, ta_Empty_Rep _, fun _ _ _ h => by cases h⟩
  · exact ⟨.nilIface, 0, 0, .inr rfl, ta_nil_Rep, fun _ _ _ h => by cases h⟩
  · exact ⟨.nilIface, 0, 0, .inr rfl, ta_One_Rep _, fun _ _ _ h => by cases h⟩
  · exact ⟨.nilIface, 0, 0, .inr rfl, ta_Cat_Rep _, fun _ _ _ h => by cases h⟩
  · exact ⟨.nilIface, 0, 0, .inr rfl, ta_Alt_Rep _, fun _ _ _ h => by cases h⟩
  · exact ⟨u, mn, mx, hu.elim fun _ h => nd_shape h, ta_Rep_Rep _, fun _ _ _ h => by cases h; exact ⟨rfl, rfl⟩⟩
  · exact ⟨.nilIface, 0, 0, .inr rfl, ta_Group_Rep _, fun _ _ _ h => by cases h⟩
  · exact ⟨.nilIface, 0, 0, .inr rfl, ta_Back_Rep _, fun _ _ _ h => by cases h⟩
  · exact ⟨.nilIface, 0, 0, .inr rfl, ta_Start_Rep _, fun _ _ _ h => by cases h⟩
  · exact ⟨.nilIface, 0, 0, .inr rfl, ta_End_Rep _, fun _ _ _ h => by cases h⟩
theorem assert_backn {F : Nat → Prop} {w0 : World} {d : Nd} {v : Value} (h : NdX F w0 d v) : ∃ num : Int, (∀ w, (Instr.typeAssert v 31 99 true).run Tryz.prog w = .ok (.tuple #[.agg #[.int .i64 num], .bool (nbck d)]) w) ∧ ∀ n, d = .back n → num = n := by
  rcases nd_kinds h with ⟨rfl, rfl | rfl⟩ | ⟨s, rfl, rfl⟩ | ⟨l, a, cap, rfl, rfl, hr⟩ | ⟨l, a, cap, rfl, rfl, hr⟩ | ⟨d', mn, mx, u, rfl, rfl, hu⟩ | ⟨num, d', u, rfl, rfl, hu⟩ | ⟨num, rfl, rfl⟩ | ⟨rfl, rfl⟩ | ⟨rfl, rfl⟩
  · exact ⟨0, ta_Empty_Back _, fun _ h => by cases h⟩
  · exact ⟨0, ta_nil_Back, fun _ h => by cases h⟩
  · exact ⟨0, ta_One_Back _, fun _ h => by cases h⟩
  · exact ⟨0, ta_Cat_Back _, fun _ h => by cases h⟩
  · exact ⟨0, ta_Alt_Back _, fun _ h => by cases h⟩
  · exact ⟨0, ta_Rep_Back _, fun _ h => by cases h⟩
  · exact ⟨0, ta_Group_Back _, fun _ h => by cases h⟩
  · exact ⟨num, ta_Back_Back _, fun _ h => by cases h; rfl⟩
  · exact ⟨0, ta_Start_Back _, fun _ h => by cases h⟩
  · exact ⟨0, ta_End_Back _, fun _ h => by cases h⟩
theorem assert_start {F : Nat → Prop} {w0 : World} {d : Nd} {v : Value} (h : NdX F w0 d v) : ∀ w, (Instr.typeAssert v 31 101 true).run Tryz.prog w = .ok (.tuple #[.agg #[], .bool (nsta d)]) w := by
  rcases nd_kinds h with ⟨rfl, rfl | rfl⟩ | ⟨s, rfl, rfl⟩ | ⟨l, a, cap, rfl, rfl, hr⟩ | ⟨l, a, cap, rfl, rfl, hr⟩ | ⟨d', mn, mx, u, rfl, rfl, hu⟩ | ⟨num, d', u, rfl, rfl, hu⟩ | ⟨num, rfl, rfl⟩ | ⟨rfl, rfl⟩ | ⟨rfl, rfl⟩
  · exact ta_Empty_Start _
  · exact ta_nil_Start
  · exact ta_One_Start _
  · exact ta_Cat_Start _
  · exact ta_Alt_Start _
  · exact ta_Rep_Start _
  · exact ta_Group_Start _
  · exact ta_Back_Start _
  · exact ta_Start_Start _
  · exact ta_End_Start _
theorem assert_end {F : Nat → Prop} {w0 : World} {d : Nd} {v : Value} (h : NdX F w0 d v) : ∀ w, (Instr.typeAssert v 31 102 true).run Tryz.prog w = .ok (.tuple #[.agg #[], .bool (nend d)]) w := by
  rcases nd_kinds h with ⟨rfl, rfl | rfl⟩ | ⟨s, rfl, rfl⟩ | ⟨l, a, cap, rfl, rfl, hr⟩ | ⟨l, a, cap, rfl, rfl, hr⟩ | ⟨d', mn, mx, u, rfl, rfl, hu⟩ | ⟨num, d', u, rfl, rfl, hu⟩ | ⟨num, rfl, rfl⟩ | ⟨rfl, rfl⟩ | ⟨rfl, rfl⟩
  · exact ta_Empty_End _
  · exact ta_nil_End
  · exact ta_One_End _
  · exact ta_Cat_End _
  · exact ta_Alt_End _
  · exact ta_Rep_End _
  · exact ta_Group_End _
  · exact ta_Back_End _
  · exact ta_Start_End _
  · exact ta_End_End _
/-- Alike, as the program asks it. -/
theorem head_empty (e : Nd) : nhead .empty e = nemp e := by cases e <;> rfl
theorem head_one (s : OSet) (e : Nd) : nhead (.one s) e = nholds e s := by cases e <;> first | rfl | exact decide_eq_decide.2 ⟨Eq.symm, Eq.symm⟩
theorem head_cat (l : List Nd) (e : Nd) : nhead (.cat l) e = ncat e := by cases e <;> rfl
theorem head_alt (l : List Nd) (e : Nd) : nhead (.alt l) e = !inAlt e := by cases e <;> rfl
theorem head_start (e : Nd) : nhead .start e = nsta e := by cases e <;> rfl
theorem head_end (e : Nd) : nhead .fin e = nend e := by cases e <;> rfl
theorem head_rep (d : Nd) (mn mx : Int) (e : Nd) (p q : Int) (h : ∀ d' a b, e = .rep d' a b → p = a ∧ q = b) : nhead (.rep d mn mx) e = (nrep e && (mn == p) && (mx == q)) := by
  cases e with
  | rep e a b => obtain ⟨rfl, rfl⟩ := h _ _ _ rfl; rfl
  | _ => rfl
theorem head_group (d : Nd) (n : Int) (e : Nd) (p : Int) (h : ∀ k d', e = .group k d' → p = k) : nhead (.group n d) e = (ngrp e && (n == p)) := by
  cases e with
  | group k e => obtain rfl := h _ _ rfl; rfl
  | _ => rfl
theorem head_back (n : Int) (e : Nd) (p : Int) (h : ∀ k, e = .back k → p = k) : nhead (.back n) e = (nbck e && (n == p)) := by
  cases e with
  | back k => obtain rfl := h _ rfl; rfl
  | _ => rfl
set_option linter.unusedSimpArgs false in
set_option maxRecDepth 100000 in
set_option maxHeartbeats 4000000 in
theorem alike_any {F : Nat → Prop} (d e : Nd) (v y : Value) (w : World) (h : NdX F w d v) (k : NdX F w e y) : Calls Tryz.prog 76 #[v, y] w fun r w' => r = .returned (.bool (nhead d e)) ∧ Below w.heap.size w w' := by
  rcases nd_kinds h with ⟨rfl, rfl | rfl⟩ | ⟨s, rfl, rfl⟩ | ⟨l, a, cap, rfl, rfl, hr⟩ | ⟨l, a, cap, rfl, rfl, hr⟩ | ⟨d', mn, mx, u, rfl, rfl, hu⟩ | ⟨num, d', u, rfl, rfl, hu⟩ | ⟨num, rfl, rfl⟩ | ⟨rfl, rfl⟩ | ⟨rfl, rfl⟩
  · rw [head_empty]
    have hC := isempty_any e y w k
    generalize nemp e = R at hC ⊢
    go_enter Tryz.func76, Tryz.ntmps76
    go_wp2_with (go_at_call 107; refine hC.mono ?_; rintro r w2 ⟨rfl, b2⟩)
    go_ret
    exact ⟨rfl, b2⟩
  · rw [head_empty]
    have hC := isempty_any e y w k
    generalize nemp e = R at hC ⊢
    go_enter Tryz.func76, Tryz.ntmps76
    go_wp2_with (go_at_call 107; refine hC.mono ?_; rintro r w2 ⟨rfl, b2⟩)
    go_ret
    exact ⟨rfl, b2⟩
  · rw [head_one]
    have hB := (Below.refl w.heap.size w).alloc (Nat.le_refl _) (.cells #[.int .u64 (ow s 0), .int .u64 (ow s 1), .int .u64 (ow s 2), .int .u64 (ow s 3)] 80)
    have hC := holds_any e y s _ (k.below hB)
    generalize nholds e s = R at hC ⊢
    go_enter Tryz.func76, Tryz.ntmps76
    go_wp2_with (go_at_call 12; refine hC.mono ?_; rintro r w2 ⟨rfl, b2⟩)
    go_ret
    exact ⟨rfl, hB.trans (b2.mono hB.size)⟩
  · rw [head_cat]
    obtain ⟨a2, n2, c2, hTA⟩ := assert_cat k
    generalize ncat e = R at hTA ⊢
    go_enter Tryz.func76, Tryz.ntmps76
    go_wp2_with fail
    go_ret
    refine ⟨rfl, ?_⟩
    repeat (first | (with_reducible exact hW) | (with_reducible exact Below.refl _ _) | refine Below.drew ?_ | refine Below.setCell ?_ (by first | omega | (simp; omega) | simp) _ | refine Below.alloc ?_ (by first | omega | (simp; omega) | simp) _)
  · rw [head_alt]
    have hB := (Below.refl w.heap.size w).alloc (Nat.le_refl _) (.cells #[.slice a l.length cap] 93)
    have hC := isalt_any e y _ (k.below hB)
    generalize (!inAlt e) = R at hC ⊢
    go_enter Tryz.func76, Tryz.ntmps76
    go_wp2_with (go_at_call 98; refine hC.mono ?_; rintro r w2 ⟨rfl, b2⟩)
    go_ret
    exact ⟨rfl, hB.trans (b2.mono hB.size)⟩
  · obtain ⟨u2, p, q, hu2, hTA, hpq⟩ := assert_rep k
    rw [head_rep d' mn mx e p q hpq]
    have hu1 : (∃ T q, u = .iface T q) ∨ u = .nilIface := hu.elim fun _ h => nd_shape h
    generalize nrep e = R at hTA ⊢
    clear hpq k h hu
    rcases hu1 with ⟨T, q1, rfl⟩ | rfl
    all_goals
      rcases hu2 with ⟨T2, q2, rfl⟩ | rfl
      all_goals
        cases R
        · go_enter Tryz.func76, Tryz.ntmps76
          go_wp2_with fail
          go_ret
          refine ⟨rfl, ?_⟩
          repeat (first | (with_reducible exact hW) | (with_reducible exact Below.refl _ _) | refine Below.drew ?_ | refine Below.setCell ?_ (by first | omega | (simp; omega) | simp) _ | refine Below.alloc ?_ (by first | omega | (simp; omega) | simp) _)
        · cases hE : mn == p
          · go_enter Tryz.func76, Tryz.ntmps76
            go_wp2_with fail
            go_ret
            refine ⟨rfl, ?_⟩
            repeat (first | (with_reducible exact hW) | (with_reducible exact Below.refl _ _) | refine Below.drew ?_ | refine Below.setCell ?_ (by first | omega | (simp; omega) | simp) _ | refine Below.alloc ?_ (by first | omega | (simp; omega) | simp) _)
          · go_enter Tryz.func76, Tryz.ntmps76
            go_wp2_with fail
            go_ret
            refine ⟨rfl, ?_⟩
            repeat (first | (with_reducible exact hW) | (with_reducible exact Below.refl _ _) | refine Below.drew ?_ | refine Below.setCell ?_ (by first | omega | (simp; omega) | simp) _ | refine Below.alloc ?_ (by first | omega | (simp; omega) | simp) _)
  · obtain ⟨p, u2, hu2, hTA, hpq⟩ := assert_group k
    rw [head_group d' num e p hpq]
    have hu1 : (∃ T q, u = .iface T q) ∨ u = .nilIface := hu.elim fun _ h => nd_shape h
    generalize ngrp e = R at hTA ⊢
    clear hpq k h hu
    rcases hu1 with ⟨T, q1, rfl⟩ | rfl
    all_goals
      rcases hu2 with ⟨T2, q2, rfl⟩ | rfl
      all_goals
        cases R
        all_goals
          go_enter Tryz.func76, Tryz.ntmps76
          go_wp2_with fail
          go_ret
          refine ⟨rfl, ?_⟩
          repeat (first | (with_reducible exact hW) | (with_reducible exact Below.refl _ _) | refine Below.drew ?_ | refine Below.setCell ?_ (by first | omega | (simp; omega) | simp) _ | refine Below.alloc ?_ (by first | omega | (simp; omega) | simp) _)
  · obtain ⟨p, hTA, hpq⟩ := assert_backn k
    rw [head_back num e p hpq]
    generalize nbck e = R at hTA ⊢
    clear hpq k h
    cases R
    all_goals
      go_enter Tryz.func76, Tryz.ntmps76
      go_wp2_with fail
      go_ret
      refine ⟨rfl, ?_⟩
      repeat (first | (with_reducible exact hW) | (with_reducible exact Below.refl _ _) | refine Below.drew ?_ | refine Below.setCell ?_ (by first | omega | (simp; omega) | simp) _ | refine Below.alloc ?_ (by first | omega | (simp; omega) | simp) _)
  · have hTA := assert_start k
    rw [head_start]
    generalize nsta e = R at hTA ⊢
    go_enter Tryz.func76, Tryz.ntmps76
    go_wp2_with fail
    go_ret
    refine ⟨rfl, ?_⟩
    repeat (first | (with_reducible exact hW) | (with_reducible exact Below.refl _ _) | refine Below.drew ?_ | refine Below.setCell ?_ (by first | omega | (simp; omega) | simp) _ | refine Below.alloc ?_ (by first | omega | (simp; omega) | simp) _)
  · have hTA := assert_end k
    rw [head_end]
    generalize nend e = R at hTA ⊢
    go_enter Tryz.func76, Tryz.ntmps76
    go_wp2_with fail
    go_ret
    refine ⟨rfl, ?_⟩
    repeat (first | (with_reducible exact hW) | (with_reducible exact Below.refl _ _) | refine Below.drew ?_ | refine Below.setCell ?_ (by first | omega | (simp; omega) | simp) _ | refine Below.alloc ?_ (by first | omega | (simp; omega) | simp) _)
end Go.Proofs.YtpmeicclngckeaaGreatDoor
