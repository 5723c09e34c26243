/- Contracts of the small calls on sets: Has, And, Or, Not (of octet and of the document's own answers), With, add. -/
import Derived.Test.YtbbcjclkklmoaaaDoorRows
import Derived.Test.YtbbcjclkklmoaaaDoorMaA
import Derived.WalkKit
import Derived.WalkSpells
import Derived.WalkLawsBesides
import Derived.BigRegion
import Derived.Lib.Hide
namespace Go.Proofs.YtbbcjclkklmoaaaDoor
open Go.RowKit

theorem ret_bool {a b : Bool} (h : a = b) : Ending.returned (.bool a) = .returned (.bool b) := by rw [h]
theorem ret_int {k : IntKind} {a b : Int} (h : a = b) : Ending.returned (.int k a) = .returned (.int k b) := by rw [h]
theorem u64max : IntKind.u64.max = 18446744073709551615 := by decide

set_option maxHeartbeats 400000 in
theorem has_any (s : OSet) (x : Int) (h0 : 0 ≤ x) (h1 : x ≤ 255) (w : World) :
    Calls Tryd.prog 25 #[.agg #[.int .u64 (ow s 0), .int .u64 (ow s 1), .int .u64 (ow s 2), .int .u64 (ow s 3)], .int .u8 x] w fun e w' => e = .returned (.bool (ohas s x.toNat)) ∧ Below w.heap.size w w' := by
  have hq : x / 64 = 0 ∨ x / 64 = 1 ∨ x / 64 = 2 ∨ x / 64 = 3 := by omega
  rcases hq with hq | hq | hq | hq
  all_goals
    have H := has_and s _ x h0 h1 hq
    have K := Lib.hid H
    clear H
    go_enter Tryd.func25, Tryd.ntmps25
    go_wp2
    go_ret
    exact ⟨ret_bool K.out, (Below.refl _ _).alloc (Nat.le_refl _) _⟩

set_option maxHeartbeats 400000 in
theorem rhas_any (s : OSet) (x : Int) (h0 : 0 ≤ x) (h1 : x ≤ 255) (w : World) :
    Calls Tryd.prog 31 #[.agg #[.int .u64 (ow s 0), .int .u64 (ow s 1), .int .u64 (ow s 2), .int .u64 (ow s 3)], .int .u8 x] w fun e w' => e = .returned (.bool (ohas s x.toNat)) ∧ Below w.heap.size w w' := by
  have hq : x / 64 = 0 ∨ x / 64 = 1 ∨ x / 64 = 2 ∨ x / 64 = 3 := by omega
  rcases hq with hq | hq | hq | hq
  all_goals
    have H := has_mod s _ x h0 h1 hq
    have K := Lib.hid H
    clear H
    go_enter Tryd.func31, Tryd.ntmps31
    go_wp2
    go_ret
    exact ⟨ret_bool K.out, (Below.refl _ _).alloc (Nat.le_refl _) _⟩

set_option maxHeartbeats 1000000 in
theorem not_any (s : OSet) (w : World) :
    Calls Tryd.prog 48 #[.agg #[.int .u64 (ow s 0), .int .u64 (ow s 1), .int .u64 (ow s 2), .int .u64 (ow s 3)]] w fun e w' => e = .returned (.agg #[.int .u64 (ow (~~~s) 0), .int .u64 (ow (~~~s) 1), .int .u64 (ow (~~~s) 2), .int .u64 (ow (~~~s) 3)]) ∧ Below w.heap.size w w' := by
  have k0 := bits_not_ow s 0 (by decide)
  have k1 := bits_not_ow s 1 (by decide)
  have k2 := bits_not_ow s 2 (by decide)
  have k3 := bits_not_ow s 3 (by decide)
  rw [← u64max] at k0 k1 k2 k3
  go_enter Tryd.func48, Tryd.ntmps48
  go_wp2
  refine wp_loop_rounds 5 ?_
  iterate 5 (rw [rounds_succ]; go_wp2)
  refine bodyPost_ret (v := .agg #[.int .u64 (ow (~~~s) 0), .int .u64 (ow (~~~s) 1), .int .u64 (ow (~~~s) 2), .int .u64 (ow (~~~s) 3)]) (by simp [results, Tryd.results48, go_sem]) rfl ⟨rfl, ?_⟩
  exact ((Below.refl _ _).alloc (Nat.le_refl _) _).alloc (by simp) _

set_option maxHeartbeats 1000000 in
theorem and_any (s t : OSet) (w : World) :
    Calls Tryd.prog 47 #[.agg #[.int .u64 (ow s 0), .int .u64 (ow s 1), .int .u64 (ow s 2), .int .u64 (ow s 3)], .agg #[.int .u64 (ow t 0), .int .u64 (ow t 1), .int .u64 (ow t 2), .int .u64 (ow t 3)]] w fun e w' => e = .returned (.agg #[.int .u64 (ow (s &&& t) 0), .int .u64 (ow (s &&& t) 1), .int .u64 (ow (s &&& t) 2), .int .u64 (ow (s &&& t) 3)]) ∧ Below w.heap.size w w' := by
  have k0 := bits_and_ow s t 0
  have k1 := bits_and_ow s t 1
  have k2 := bits_and_ow s t 2
  have k3 := bits_and_ow s t 3
  go_enter Tryd.func47, Tryd.ntmps47
  go_wp2
  refine wp_loop_rounds 5 ?_
  iterate 4 (rw [rounds_succ]; go_wp2; go_region; go_wp2)
  rw [rounds_succ]
  go_wp2
  refine bodyPost_ret (v := .agg #[.int .u64 (ow (s &&& t) 0), .int .u64 (ow (s &&& t) 1), .int .u64 (ow (s &&& t) 2), .int .u64 (ow (s &&& t) 3)]) (by simp [results, Tryd.results47, go_sem]) rfl ⟨rfl, ?_⟩
  repeat (first | exact Below.refl _ _ | refine Below.drew ?_ | refine Below.alloc ?_ (by simp <;> omega) _)

set_option maxHeartbeats 1000000 in
theorem or_any (s t : OSet) (w : World) :
    Calls Tryd.prog 43 #[.agg #[.int .u64 (ow s 0), .int .u64 (ow s 1), .int .u64 (ow s 2), .int .u64 (ow s 3)], .agg #[.int .u64 (ow t 0), .int .u64 (ow t 1), .int .u64 (ow t 2), .int .u64 (ow t 3)]] w fun e w' => e = .returned (.agg #[.int .u64 (ow (s ||| t) 0), .int .u64 (ow (s ||| t) 1), .int .u64 (ow (s ||| t) 2), .int .u64 (ow (s ||| t) 3)]) ∧ Below w.heap.size w w' := by
  have k0 := bits_or_ow s t 0
  have k1 := bits_or_ow s t 1
  have k2 := bits_or_ow s t 2
  have k3 := bits_or_ow s t 3
  go_enter Tryd.func43, Tryd.ntmps43
  go_wp2
  refine wp_loop_rounds 5 ?_
  iterate 4 (rw [rounds_succ]; go_wp2; go_region; go_wp2)
  rw [rounds_succ]
  go_wp2
  refine bodyPost_ret (v := .agg #[.int .u64 (ow (s ||| t) 0), .int .u64 (ow (s ||| t) 1), .int .u64 (ow (s ||| t) 2), .int .u64 (ow (s ||| t) 3)]) (by simp [results, Tryd.results43, go_sem]) rfl ⟨rfl, ?_⟩
  repeat (first | exact Below.refl _ _ | refine Below.drew ?_ | refine Below.alloc ?_ (by simp <;> omega) _)

set_option maxHeartbeats 1000000 in
theorem rand_any (s t : OSet) (w : World) :
    Calls Tryd.prog 57 #[.agg #[.int .u64 (ow s 0), .int .u64 (ow s 1), .int .u64 (ow s 2), .int .u64 (ow s 3)], .agg #[.int .u64 (ow t 0), .int .u64 (ow t 1), .int .u64 (ow t 2), .int .u64 (ow t 3)]] w fun e w' => e = .returned (.agg #[.int .u64 (ow (s &&& t) 0), .int .u64 (ow (s &&& t) 1), .int .u64 (ow (s &&& t) 2), .int .u64 (ow (s &&& t) 3)]) ∧ Below w.heap.size w w' := by
  have k0 := bits_and_ow s t 0
  have k1 := bits_and_ow s t 1
  have k2 := bits_and_ow s t 2
  have k3 := bits_and_ow s t 3
  go_enter Tryd.func57, Tryd.ntmps57
  go_wp2
  refine bodyPost_ret (v := .agg #[.int .u64 (ow (s &&& t) 0), .int .u64 (ow (s &&& t) 1), .int .u64 (ow (s &&& t) 2), .int .u64 (ow (s &&& t) 3)]) (by simp [results, Tryd.results57, go_sem]) rfl ⟨rfl, ?_⟩
  repeat (first | exact Below.refl _ _ | refine Below.drew ?_ | refine Below.alloc ?_ (by simp <;> omega) _)

set_option maxHeartbeats 1000000 in
theorem ror_any (s t : OSet) (w : World) :
    Calls Tryd.prog 56 #[.agg #[.int .u64 (ow s 0), .int .u64 (ow s 1), .int .u64 (ow s 2), .int .u64 (ow s 3)], .agg #[.int .u64 (ow t 0), .int .u64 (ow t 1), .int .u64 (ow t 2), .int .u64 (ow t 3)]] w fun e w' => e = .returned (.agg #[.int .u64 (ow (s ||| t) 0), .int .u64 (ow (s ||| t) 1), .int .u64 (ow (s ||| t) 2), .int .u64 (ow (s ||| t) 3)]) ∧ Below w.heap.size w w' := by
  have k0 := bits_or_ow s t 0
  have k1 := bits_or_ow s t 1
  have k2 := bits_or_ow s t 2
  have k3 := bits_or_ow s t 3
  go_enter Tryd.func56, Tryd.ntmps56
  go_wp2
  refine bodyPost_ret (v := .agg #[.int .u64 (ow (s ||| t) 0), .int .u64 (ow (s ||| t) 1), .int .u64 (ow (s ||| t) 2), .int .u64 (ow (s ||| t) 3)]) (by simp [results, Tryd.results56, go_sem]) rfl ⟨rfl, ?_⟩
  repeat (first | exact Below.refl _ _ | refine Below.drew ?_ | refine Below.alloc ?_ (by simp <;> omega) _)

set_option maxHeartbeats 1000000 in
theorem rnot_any (s : OSet) (w : World) :
    Calls Tryd.prog 58 #[.agg #[.int .u64 (ow s 0), .int .u64 (ow s 1), .int .u64 (ow s 2), .int .u64 (ow s 3)]] w fun e w' => e = .returned (.agg #[.int .u64 (ow (~~~s) 0), .int .u64 (ow (~~~s) 1), .int .u64 (ow (~~~s) 2), .int .u64 (ow (~~~s) 3)]) ∧ Below w.heap.size w w' := by
  have k0 := bits_not_ow s 0 (by decide)
  have k1 := bits_not_ow s 1 (by decide)
  have k2 := bits_not_ow s 2 (by decide)
  have k3 := bits_not_ow s 3 (by decide)
  rw [← u64max] at k0 k1 k2 k3
  go_enter Tryd.func58, Tryd.ntmps58
  go_wp2
  refine bodyPost_ret (v := .agg #[.int .u64 (ow (~~~s) 0), .int .u64 (ow (~~~s) 1), .int .u64 (ow (~~~s) 2), .int .u64 (ow (~~~s) 3)]) (by simp [results, Tryd.results58, go_sem]) rfl ⟨rfl, ?_⟩
  repeat (first | exact Below.refl _ _ | refine Below.drew ?_ | refine Below.alloc ?_ (by simp <;> omega) _)

theorem setCell_drewN (w : World) (n : Nat) (a : Addr) (u : Value) : (w.drewN n).setCell a u = (w.setCell a u).drewN n := rfl

theorem wrap_pow (x : Int) (_h0 : 0 ≤ x) : IntKind.u64.wrap (2 ^ (x % 64).toNat) = 2 ^ (x % 64).toNat := by
  have h1 : (x % 64).toNat < 64 := by omega
  have h2 : (2 : Int) ^ (x % 64).toNat < 2 ^ 64 := Int.pow_lt_pow_of_lt (by decide) h1
  have h3 : (0 : Int) ≤ 2 ^ (x % 64).toNat := Int.le_of_lt (Int.pow_pos (by decide))
  rw [IntKind.wrap_u64]
  exact Int.emod_eq_of_lt h3 h2

theorem bits_add_wrap (s : OSet) (i : Nat) (x : Int) (h0 : 0 ≤ x) (h1 : x ≤ 255) (hi : x / 64 = i) : bits .or .u64 (ow s i) (IntKind.u64.wrap (2 ^ (x % 64).toNat)) = ow (s ||| obit x.toNat) i := by
  rw [wrap_pow x h0]
  exact bits_add_ow s i x h0 h1 hi

set_option maxHeartbeats 400000 in
theorem add_any (s : OSet) (x : Int) (h0 : 0 ≤ x) (h1 : x ≤ 255) (n p : Nat) (v : World) (hp : p = v.heap.size) :
    Calls Tryd.prog 37 #[.pointer (some ⟨p, 0, none⟩), .int .u8 x] ((v.alloc (.cells #[.int .u64 (ow s 0), .int .u64 (ow s 1), .int .u64 (ow s 2), .int .u64 (ow s 3)] 57)).drewN n) fun e w' => e = .returned (.tuple #[]) ∧
      (v.alloc (.cells #[.int .u64 (ow (s ||| obit x.toNat) 0), .int .u64 (ow (s ||| obit x.toNat) 1), .int .u64 (ow (s ||| obit x.toNat) 2), .int .u64 (ow (s ||| obit x.toNat) 3)] 57)).drewN (n + 1) = w' := by
  subst hp
  have hq : x / 64 = 0 ∨ x / 64 = 1 ∨ x / 64 = 2 ∨ x / 64 = 3 := by omega
  rcases hq with hq | hq | hq | hq
  all_goals
    have k := bits_add_wrap s _ x h0 h1 hq
    have p0 := Lib.hid (ow_other s 0 x h0 h1)
    have p1 := Lib.hid (ow_other s 1 x h0 h1)
    have p2 := Lib.hid (ow_other s 2 x h0 h1)
    have p3 := Lib.hid (ow_other s 3 x h0 h1)
    go_enter Tryd.func37, Tryd.ntmps37
    go_wp2
    go_region
    go_wp2
    go_end0
    refine ⟨rfl, ?_⟩
    rw [setCell_drewN, World.setCell_alloc_at _ _ _ _ _ rfl]
    first | rw [p0.out (by omega)] | skip
    first | rw [p1.out (by omega)] | skip
    first | rw [p2.out (by omega)] | skip
    first | rw [p3.out (by omega)] | skip
    rfl

set_option maxHeartbeats 1000000 in
theorem with_any (s : OSet) (x : Int) (h0 : 0 ≤ x) (h1 : x ≤ 255) (w : World) :
    Calls Tryd.prog 75 #[.agg #[.int .u64 (ow s 0), .int .u64 (ow s 1), .int .u64 (ow s 2), .int .u64 (ow s 3)], .int .u8 x] w fun e w' => e = .returned (.agg #[.int .u64 (ow (s ||| obit x.toNat) 0), .int .u64 (ow (s ||| obit x.toNat) 1), .int .u64 (ow (s ||| obit x.toNat) 2), .int .u64 (ow (s ||| obit x.toNat) 3)]) ∧ Below w.heap.size w w' := by
  have hq : x / 64 = 0 ∨ x / 64 = 1 ∨ x / 64 = 2 ∨ x / 64 = 3 := by omega
  rcases hq with hq | hq | hq | hq
  all_goals
    have k := bits_add_wrap s _ x h0 h1 hq
    have p0 := Lib.hid (ow_other s 0 x h0 h1)
    have p1 := Lib.hid (ow_other s 1 x h0 h1)
    have p2 := Lib.hid (ow_other s 2 x h0 h1)
    have p3 := Lib.hid (ow_other s 3 x h0 h1)
    go_enter Tryd.func75, Tryd.ntmps75
    go_wp2
    refine bodyPost_ret (by simp [results, Tryd.results75, go_sem]; rfl) rfl ⟨?_, ?_⟩
    · first | rw [p0.out (by omega)] | skip
      first | rw [p1.out (by omega)] | skip
      first | rw [p2.out (by omega)] | skip
      first | rw [p3.out (by omega)] | skip
    repeat (first | exact Below.refl _ _ | refine Below.drew ?_ | refine Below.alloc ?_ (by simp <;> omega) _)

end Go.Proofs.YtbbcjclkklmoaaaDoor
