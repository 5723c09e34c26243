/- SetOf, Holds, and what a call that may panic answers. -/
import Derived.Test.YtmojfifpmbgpiaaNdFits
import Derived.Test.YtmojfifpmbgpiaaTrSame
import Derived.Defers
import Derived.Recover
import Derived.Tactics2
namespace Go.Proofs.Ytmojfifpmbgpiaa
open Go Go.RowKit

theorem elem_tae : ∃ E, ∀ w : World, (elemOf 15).run Try.prog w = .ok E w := by
  have h : (Try.prog.underlying 15).isSome = true := by kernel_rfl
  cases hu : Try.prog.underlying 15 with
  | none => rw [hu] at h; cases h
  | some d =>
    cases d with
    | pointer E => exact ⟨E, fun w => by simp [elemOf, run_underlying hu]⟩
    | _ => 
      exfalso
      have h2 : (match Try.prog.underlying 15 with | some (.pointer _) => true | _ => false) = true := by kernel_rfl
      rw [hu] at h2
      cases h2
/-- Where a node is no One. -/
theorem assert_one_no {F : Nat → Prop} {w0 : World} {d : Nd} {v : Value} (h : NdX F w0 d v) (hd : ∀ s, d ≠ .one s) (w : World) : ∃ pv o, (Instr.typeAssert v 31 53 false).run Try.prog w = .halt (.panic (.iface 15 pv)) (w.alloc o) := by
  obtain ⟨E, hE⟩ := elem_tae
  rcases nd_kinds h with ⟨rfl, rfl | rfl⟩ | ⟨s, rfl, rfl⟩ | ⟨l, a, cap, rfl, rfl, hr⟩ | ⟨l, a, cap, rfl, rfl, hr⟩ | ⟨d', mn, mx, u, rfl, rfl, hu⟩ | ⟨num, d', u, rfl, rfl, hu⟩ | ⟨num, rfl, rfl⟩ | ⟨rfl, rfl⟩ | ⟨rfl, rfl⟩
  · exact ⟨_, _, by simp [Instr.typeAssert, go_sem, hE, Result.andThen]; exact ⟨rfl, rfl⟩⟩
  · exact ⟨_, _, by simp [Instr.typeAssert, go_sem, hE, Result.andThen]; exact ⟨rfl, rfl⟩⟩
  · exact (hd s rfl).elim
  all_goals exact ⟨_, _, by simp [Instr.typeAssert, go_sem, hE, Result.andThen]; exact ⟨rfl, rfl⟩⟩
set_option linter.unusedSimpArgs false in
set_option maxRecDepth 100000 in
set_option maxHeartbeats 1000000 in
theorem setof_one (s : OSet) (w : World) : Calls Try.prog 41 #[.iface 53 (.agg #[.int .u64 (ow s 0), .int .u64 (ow s 1), .int .u64 (ow s 2), .int .u64 (ow s 3)])] w fun e w' => e = .returned (.agg #[.int .u64 (ow s 0), .int .u64 (ow s 1), .int .u64 (ow s 2), .int .u64 (ow s 3)]) ∧ Below w.heap.size w w' := by
  have hT : ∀ w, (Instr.typeAssert (.iface 53 (.agg #[.int .u64 (ow s 0), .int .u64 (ow s 1), .int .u64 (ow s 2), .int .u64 (ow s 3)])) 31 53 false).run Try.prog w = .ok (.agg #[.int .u64 (ow s 0), .int .u64 (ow s 1), .int .u64 (ow s 2), .int .u64 (ow s 3)]) w := fun w => by kernel_rfl
  have hF : ∀ w, (Instr.field 53 (.agg #[.int .u64 (ow s 0), .int .u64 (ow s 1), .int .u64 (ow s 2), .int .u64 (ow s 3)]) 0).run Try.prog w = .ok (.agg #[.int .u64 (ow s 0), .int .u64 (ow s 1), .int .u64 (ow s 2), .int .u64 (ow s 3)]) w := fun w => by kernel_rfl
  go_enter Try.func41, Try.ntmps41
  go_wp2_with fail
  refine bodyPost_ret (v := .agg #[.int .u64 (ow s 0), .int .u64 (ow s 1), .int .u64 (ow s 2), .int .u64 (ow s 3)]) (by simp [results, Try.results41, go_sem]) rfl ⟨rfl, ?_⟩
  repeat (first | (with_reducible exact Below.refl _ _) | refine Below.drew ?_ | refine Below.setCell ?_ (by first | omega | (simp; omega) | simp) _ | refine Below.alloc ?_ (by first | omega | (simp; omega) | simp) _)
set_option linter.unusedSimpArgs false in
set_option maxRecDepth 100000 in
set_option maxHeartbeats 1000000 in
theorem setof_no {F : Nat → Prop} {d : Nd} {v : Value} (w : World) (h : NdX F w d v) (hd : ∀ s, d ≠ .one s) : Calls Try.prog 41 #[v] w fun e w' => ∃ pv, e = .panicked [{ v := .iface 15 pv, recovered := false }] ∧ Below w.heap.size w w' := by
  obtain ⟨pv, o, hT⟩ := assert_one_no h hd (w.alloc (.cells #[.int .u64 0, .int .u64 0, .int .u64 0, .int .u64 0] 46))
  go_enter Try.func41, Try.ntmps41
  go_wp2_with fail
  exact ⟨rfl, pv, rfl, ((Below.refl _ w).alloc (Nat.le_refl _) _).alloc (by simp) _⟩
theorem catch_panicking (p : Addr) (x : Bool) (u : TypeId) (pv : Value) (older : List PanicEntry) (w : World) (hc : w.cell? p = some (.bool x)) (hz : w.frozen? p = false) :
    CallsD Try.prog 40 #[.pointer (some p)] (.panicking ({ v := .iface u pv, recovered := false } :: older)) w fun e u' w' =>
      e = .returned (.tuple #[]) ∧ u' = .panicking ({ v := .iface u pv, recovered := true } :: older) ∧ w' = w.setCell p (.bool true) := by
  refine callsD_of_wpS Try.func40 rfl fun c₀ cs hu => ?_
  apply wpS_region
  simp [wpOpsS, go_sem, recoverD, hu, Try.ntmps40, hc, hz, bodyPostS, results, Try.results40]
theorem catch_idle (p : Addr) (x : Bool) (w : World) (hc : w.cell? p = some (.bool x)) (hz : w.frozen? p = false) :
    CallsD Try.prog 40 #[.pointer (some p)] .returning w fun e u' w' => e = .returned (.tuple #[]) ∧ u' = .returning ∧ w' = w.setCell p (.bool false) := by
  refine callsD_of_wpS Try.func40 rfl fun c₀ cs hu => ?_
  apply wpS_region
  simp [wpOpsS, go_sem, recoverD, hu, Try.ntmps40, hc, hz, bodyPostS, results, Try.results40]
  cases c₀
  simp_all
set_option linter.unusedSimpArgs false in
set_option maxRecDepth 100000 in
set_option maxHeartbeats 1000000 in
theorem caught_one (s : OSet) (w : World) : Calls Try.prog 28 #[.iface 53 (.agg #[.int .u64 (ow s 0), .int .u64 (ow s 1), .int .u64 (ow s 2), .int .u64 (ow s 3)])] w fun e w' => e = .returned (.tuple #[.agg #[.int .u64 (ow s 0), .int .u64 (ow s 1), .int .u64 (ow s 2), .int .u64 (ow s 3)], .bool false]) ∧ Below w.heap.size w w' := by
  have hmf : ∀ (fn : Fn) (first cap : Array Value) (w : World), (Instr.makeFunc fn first cap).run Try.prog w = .ok (.func fn first cap) w := fun _ _ _ _ => rfl
  have hB := ((Below.refl w.heap.size w).alloc (Nat.le_refl _) (.cells #[.int .u64 0, .int .u64 0, .int .u64 0, .int .u64 0] 46)).alloc (by simp) (.cells #[.bool false] 4)
  have h4 := (Blk.new w #[.int .u64 0, .int .u64 0, .int .u64 0, .int .u64 0] 46 _ rfl).alloc (.cells #[.bool false] 4)
  have h1 := Blk.new (w.alloc (.cells #[.int .u64 0, .int .u64 0, .int .u64 0, .int .u64 0] 46)) #[.bool false] 4 (w.heap.size + 1) (by simp)
  go_enter_defers Try.func28, Try.ntmps28
  go_wp2_with (go_at_call 41; refine (setof_one s _).mono ?_; rintro e w1 ⟨rfl, b1⟩; replace h4 := h4.below b1 h4.lt; replace h1 := h1.below b1 h1.lt; have k0 := (h4.cell 0).trans rfl; have k1 := (h4.cell 1).trans rfl; have k2 := (h4.cell 2).trans rfl; have k3 := (h4.cell 3).trans rfl; have z0 := h4.frozen 0; have z1 := h4.frozen 1; have z2 := h4.frozen 2; have z3 := h4.frozen 3; have k4 := (h1.cell 0).trans rfl; have z4 := h1.frozen 0)
  clear k0 k1 k2 k3 k4 z0 z1 z2 z3 z4
  have g4 := ((((h4.set 0 (.int .u64 (ow s 0))).set 1 (.int .u64 (ow s 1))).set 2 (.int .u64 (ow s 2))).set 3 (.int .u64 (ow s 3))).set_other ⟨w.heap.size + 1, 0, none⟩ (by simp) (.bool false)
  have g1 := ((((h1.set_other ⟨w.heap.size, 0, none⟩ (by simp) (.int .u64 (ow s 0))).set_other ⟨w.heap.size, 1, none⟩ (by simp) (.int .u64 (ow s 1))).set_other ⟨w.heap.size, 2, none⟩ (by simp) (.int .u64 (ow s 2))).set_other ⟨w.heap.size, 3, none⟩ (by simp) (.int .u64 (ow s 3))).set 0 (.bool false)
  have hBn := (((((hB.trans (b1.mono hB.size)).setCell (p := ⟨w.heap.size, 0, none⟩) (Nat.le_refl _) (.int .u64 (ow s 0))).setCell (p := ⟨w.heap.size, 1, none⟩) (Nat.le_refl _) (.int .u64 (ow s 1))).setCell (p := ⟨w.heap.size, 2, none⟩) (Nat.le_refl _) (.int .u64 (ow s 2))).setCell (p := ⟨w.heap.size, 3, none⟩) (Nat.le_refl _) (.int .u64 (ow s 3))).setCell (p := ⟨w.heap.size + 1, 0, none⟩) (by simp) (.bool false)
  refine leaves_cons (f := 40) (args := #[.pointer (some ⟨w.heap.size + 1, 0, none⟩)]) (by simp) (by simp [go_sem]) ?_
  generalize ((((w1.setCell _ _).setCell _ _).setCell _ _).setCell _ _).setCell _ _ = w2 at g4 g1 hBn ⊢
  refine (catch_idle ⟨w.heap.size + 1, 0, none⟩ false _ ((g1.cell 0).trans rfl) (g1.frozen 0)).mono ?_
  rintro e u' w'' ⟨rfl, rfl, rfl⟩
  replace g4 := g4.set_other ⟨w.heap.size + 1, 0, none⟩ (by simp) (.bool false)
  have k0 := (g4.cell 0).trans rfl
  have k1 := (g4.cell 1).trans rfl
  have k2 := (g4.cell 2).trans rfl
  have k3 := (g4.cell 3).trans rfl
  have k4 := ((g1.set 0 (.bool false)).cell 0).trans rfl
  simp [Leaves, settle, results, Try.results28, go_sem, k0, k1, k2, k3, k4]
  exact hBn.setCell (p := ⟨w.heap.size + 1, 0, none⟩) (by simp) _
set_option linter.unusedSimpArgs false in
set_option maxRecDepth 100000 in
set_option maxHeartbeats 1000000 in
theorem caught_no {F : Nat → Prop} {d : Nd} {v : Value} (w : World) (h : NdX F w d v) (hd : ∀ s, d ≠ .one s) : Calls Try.prog 28 #[v] w fun e w' => e = .returned (.tuple #[.agg #[.int .u64 0, .int .u64 0, .int .u64 0, .int .u64 0], .bool true]) ∧ Below w.heap.size w w' := by
  have hmf : ∀ (fn : Fn) (first cap : Array Value) (w : World), (Instr.makeFunc fn first cap).run Try.prog w = .ok (.func fn first cap) w := fun _ _ _ _ => rfl
  have hB := ((Below.refl w.heap.size w).alloc (Nat.le_refl _) (.cells #[.int .u64 0, .int .u64 0, .int .u64 0, .int .u64 0] 46)).alloc (by simp) (.cells #[.bool false] 4)
  go_enter_defers Try.func28, Try.ntmps28
  have h4 := (Blk.new w #[.int .u64 0, .int .u64 0, .int .u64 0, .int .u64 0] 46 _ rfl).alloc (.cells #[.bool false] 4)
  have h1 := Blk.new (w.alloc (.cells #[.int .u64 0, .int .u64 0, .int .u64 0, .int .u64 0] 46)) #[.bool false] 4 (w.heap.size + 1) (by simp)
  go_wp2_with (go_at_call 41; refine (setof_no _ (h.below hB) hd).mono ?_; rintro e w1 ⟨pv, rfl, b1⟩)
  replace h4 := h4.below b1 h4.lt
  replace h1 := h1.below b1 h1.lt
  refine leaves_cons (f := 40) (args := #[.pointer (some ⟨w.heap.size + 1, 0, none⟩)]) (by simp) (by simp [go_sem]) ?_
  refine (catch_panicking ⟨w.heap.size + 1, 0, none⟩ false _ _ [] _ ((h1.cell 0).trans rfl) (h1.frozen 0)).mono ?_
  rintro e u' w'' ⟨rfl, rfl, rfl⟩
  replace h4 := h4.set_other ⟨w.heap.size + 1, 0, none⟩ (by simp) (.bool true)
  have k0 := (h4.cell 0).trans rfl
  have k1 := (h4.cell 1).trans rfl
  have k2 := (h4.cell 2).trans rfl
  have k3 := (h4.cell 3).trans rfl
  have k4 := ((h1.set 0 (.bool true)).cell 0).trans rfl
  simp [Leaves, settle, results, Try.results28, go_sem, k0, k1, k2, k3, k4]
  exact (hB.trans (b1.mono hB.size)).setCell (p := ⟨w.heap.size + 1, 0, none⟩) (by simp) _
/-- Is a node a One of a set? -/
def nholds (d : Nd) (s : OSet) : Bool := match d with
  | .one t => decide (t = s)
  | _ => false
theorem hset_eql (s t : OSet) (w : World) : (Op.equalIn 10000 46 (.agg #[.int .u64 (ow s 0), .int .u64 (ow s 1), .int .u64 (ow s 2), .int .u64 (ow s 3)]) (.agg #[.int .u64 (ow t 0), .int .u64 (ow t 1), .int .u64 (ow t 2), .int .u64 (ow t 3)])).run Try.prog w = .ok (decide (s = t)) w := by
  have hc : Try.prog.cellsOf 22 = 1 := by kernel_rfl
  have hi0 : (Try.prog.info? 22).isSome = true := by kernel_rfl
  obtain ⟨i, hi⟩ := Option.isSome_iff_exists.1 hi0
  rw [run_equalIn_array w 9999 (e := 22) (n := 4) _ _ Try.underlying46 hi]
  rw [hc, show List.range 4 = [0, 1, 2, 3] from rfl, req_items, rset_beq]
set_option linter.unusedSimpArgs false in
set_option maxRecDepth 100000 in
set_option maxHeartbeats 2000000 in
theorem holds_any {F : Nat → Prop} (d : Nd) (v : Value) (t : OSet) (w : World) (h : NdX F w d v) : Calls Try.prog 29 #[v, .agg #[.int .u64 (ow t 0), .int .u64 (ow t 1), .int .u64 (ow t 2), .int .u64 (ow t 3)]] w fun e w' => e = .returned (.bool (nholds d t)) ∧ Below w.heap.size w w' := by
  have hq := hset_eql
  rcases nd_kinds h with ⟨rfl, rfl | rfl⟩ | ⟨s, rfl, rfl⟩ | ⟨l, a, cap, rfl, rfl, hr⟩ | ⟨l, a, cap, rfl, rfl, hr⟩ | ⟨d', mn, mx, u, rfl, rfl, hu⟩ | ⟨num, d', u, rfl, rfl, hu⟩ | ⟨num, rfl, rfl⟩ | ⟨rfl, rfl⟩ | ⟨rfl, rfl⟩
  all_goals
    go_enter Try.func29, Try.ntmps29
    go_wp2_with fail
    go_ret
    refine ⟨rfl, ?_⟩
    repeat (first | (with_reducible exact Below.refl _ _) | refine Below.drew ?_ | refine Below.setCell ?_ (by first | omega | (simp; omega) | simp) _ | refine Below.alloc ?_ (by first | omega | (simp; omega) | simp) _)
end Go.Proofs.Ytmojfifpmbgpiaa
