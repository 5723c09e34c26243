/- Contracts of the small calls on sets: Has, And, Or, Not (of octet and of the document's own answers), With, add. -/
import Derived.Test.YtaekjcbgnlldoaaRows
import Derived.Test.YtaekjcbgnlldoaaOctMath
import Derived.WalkKit
import Derived.WalkSpells
import Derived.WalkLawsBesides
import Derived.BigRegion
import Derived.Lib.Hide
namespace Go.Proofs.Ytaekjcbgnlldoaa
open Go.RowKit

theorem ret_bool {a b : Bool} (h : a = b) : Ending.returned (.bool a) = .returned (.bool b) := by rw [h]
theorem ret_int {k : IntKind} {a b : Int} (h : a = b) : Ending.returned (.int k a) = .returned (.int k b) := by rw [h]
theorem u64max : IntKind.u64.max = 18446744073709551615 := by decide









theorem setCell_drewN (w : World) (n : Nat) (a : Addr) (u : Value) : (w.drewN n).setCell a u = (w.setCell a u).drewN n := rfl

theorem wrap_pow (x : Int) (_h0 : 0 ≤ x) : IntKind.u64.wrap (2 ^ (x % 64).toNat) = 2 ^ (x % 64).toNat := by
  have h1 : (x % 64).toNat < 64 := by omega
  have h2 : (2 : Int) ^ (x % 64).toNat < 2 ^ 64 := Int.pow_lt_pow_of_lt (by decide) h1
  have h3 : (0 : Int) ≤ 2 ^ (x % 64).toNat := Int.le_of_lt (Int.pow_pos (by decide))
  rw [IntKind.wrap_u64]
  exact Int.emod_eq_of_lt h3 h2

theorem bits_add_wrap (s : OSet) (i : Nat) (x : Int) (h0 : 0 ≤ x) (h1 : x ≤ 255) (hi : x / 64 = i) : bits .or .u64 (ow s i) (IntKind.u64.wrap (2 ^ (x % 64).toNat)) = ow (s ||| obit x.toNat) i := by
  rw [wrap_pow x h0]
  exact bits_add_ow s i x h0 h1 hi

set_option maxHeartbeats 400000 in
theorem add_any (s : OSet) (x : Int) (h0 : 0 ≤ x) (h1 : x ≤ 255) (n p : Nat) (v : World) (hp : p = v.heap.size) :
    Calls Try.prog 36 #[.pointer (some ⟨p, 0, none⟩), .int .u8 x] ((v.alloc (.cells #[.int .u64 (ow s 0), .int .u64 (ow s 1), .int .u64 (ow s 2), .int .u64 (ow s 3)] 46)).drewN n) fun e w' => e = .returned (.tuple #[]) ∧
      (v.alloc (.cells #[.int .u64 (ow (s ||| obit x.toNat) 0), .int .u64 (ow (s ||| obit x.toNat) 1), .int .u64 (ow (s ||| obit x.toNat) 2), .int .u64 (ow (s ||| obit x.toNat) 3)] 46)).drewN (n + 1) = w' := by
  subst hp
  have hq : x / 64 = 0 ∨ x / 64 = 1 ∨ x / 64 = 2 ∨ x / 64 = 3 := by omega
  rcases hq with hq | hq | hq | hq
  all_goals
    have k := bits_add_wrap s _ x h0 h1 hq
    have p0 := Lib.hid (ow_other s 0 x h0 h1)
    have p1 := Lib.hid (ow_other s 1 x h0 h1)
    have p2 := Lib.hid (ow_other s 2 x h0 h1)
    have p3 := Lib.hid (ow_other s 3 x h0 h1)
    go_enter Try.func36, Try.ntmps36
    go_wp2
    go_region
    go_wp2
    go_end0
    refine ⟨rfl, ?_⟩
    rw [setCell_drewN, World.setCell_alloc_at _ _ _ _ _ rfl]
    first | rw [p0.out (by omega)] | skip
    first | rw [p1.out (by omega)] | skip
    first | rw [p2.out (by omega)] | skip
    first | rw [p3.out (by omega)] | skip
    rfl


end Go.Proofs.Ytaekjcbgnlldoaa
