/- The least byte of a set: math/bits.TrailingZeros64 by its contract, laid by hand; Least. -/
import Derived.Test.YtacpoandhocmhaaGreatDoorOctW
import Derived.Test.YtacpoandhocmhaaGreatDoorMaA
import Derived.Shelf.Spec.TrailingZeros
namespace Go.Proofs.YtacpoandhocmhaaGreatDoor
open Go.RowKit Go.Shelf

def zren : Go.Shelf.Ren := ⟨fun | 29 => 120 | n => n, fun | 0 => 0 | 3 => 3 | 4 => 4 | 5 => 5 | 22 => 31 | 25 => 215 | 54 => 216 | n => n, fun | 1 => 0 | n => n⟩
theorem zlays : Go.Proofs.Lays7.n29 Tryz.prog zren := {
  mixed := by kernel_rfl
  f29 := Tryz.func120.trans (congrArg some (by kernel_rfl))
  t0 := Tryz.underlying0
  a0 := Tryz.isAgg0
  z0 := Tryz.sizeOf0
  v0 := Tryz.zeroValue0
  i0 := by kernel_rfl
  t3 := Tryz.underlying3
  a3 := Tryz.isAgg3
  z3 := Tryz.sizeOf3
  v3 := Tryz.zeroValue3
  i3 := by kernel_rfl
  t4 := Tryz.underlying4
  a4 := Tryz.isAgg4
  z4 := Tryz.sizeOf4
  v4 := Tryz.zeroValue4
  i4 := by kernel_rfl
  t5 := Tryz.underlying5
  a5 := Tryz.isAgg5
  z5 := Tryz.sizeOf5
  v5 := Tryz.zeroValue5
  i5 := by kernel_rfl
  t22 := Tryz.underlying31
  a22 := Tryz.isAgg31
  z22 := Tryz.sizeOf31
  v22 := Tryz.zeroValue31
  i22 := by kernel_rfl
  t25 := Tryz.underlying215
  a25 := Tryz.isAgg215
  z25 := Tryz.sizeOf215
  v25 := Tryz.zeroValue215
  i25 := by kernel_rfl
  t54 := Tryz.underlying216
  a54 := Tryz.isAgg216
  z54 := Tryz.sizeOf216
  g1 := by kernel_rfl }
/-- The table that TrailingZeros64 reads lies in the world. -/
def TabIn (w : World) : Prop := TabAt 0 Lib.deBruijn64tab w
theorem tabIn_below {w w' : World} {B : Nat} (h : TabIn w) (hb : Below B w w') (hB : 0 < B) : TabIn w' := fun j hj => (hb.cell (p := ⟨0, j, none⟩) hB).trans (h j hj)
theorem zeros_any (s : OSet) (i : Nat) (w : World) (hT : TabIn w) :
    Calls Tryz.prog 120 #[.int .u64 (ow s i)] w fun e w' => e = .returned (.int .i64 (Lib.ctz 64 (owN s i) : Int)) ∧ w = w' :=
  (Any7.bits_TrailingZeros64 zlays (owN s i) (owN_lt s i) w (fun _ => hT)).mono fun _ _ ⟨h1, h2⟩ => ⟨h1, h2.symm⟩

/-- Where the least 1 of a word stands. -/
theorem ctz_of (x c : Nat) (hx : x < 18446744073709551616) (h1 : x.testBit c = true) (h2 : ∀ j, j < c → x.testBit j = false) : Lib.ctz 64 x = c := by
  have hx0 : x ≠ 0 := by
    rintro rfl
    simp at h1
  obtain ⟨m, hm, hlt⟩ := Lib.ctzFrom_spec 64 x (by omega) hx
  unfold Lib.ctz
  rw [if_neg hx0]
  generalize Lib.ctzFrom 64 x = d at hm hlt
  have hd : x.testBit d = true := by
    rw [hm, Nat.testBit_two_pow_mul]
    simp
  have hd2 : ∀ j, j < d → x.testBit j = false := fun j hj => by
    rw [hm, Nat.testBit_two_pow_mul]
    simp; omega
  rcases Nat.lt_trichotomy c d with h | h | h
  · rw [hd2 c h] at h1; cases h1
  · exact h.symm
  · rw [h2 d h] at hd; cases hd

theorem word_zero (s : OSet) (i k : Nat) (h : ∀ b, b < k → ohas s b = false) (hk : 64 * i + 64 ≤ k) : ow s i = 0 := by
  have : owN s i = 0 := by
    refine (owN_eq s i 0 (by decide) fun j hj => ?_).symm
    have := h (64 * i + j) (by omega)
    unfold ohas at this
    simp [this]
  unfold ow
  rw [this]
  rfl
theorem word_least (s : OSet) (k : Nat) (h1 : ohas s k = true) (h : ∀ b, b < k → ohas s b = false) : (ow s (k / 64) != 0) = true ∧ Lib.ctz 64 (owN s (k / 64)) = k % 64 := by
  have hb : (owN s (k / 64)).testBit (k % 64) = true := by
    rw [owN_testBit, show 64 * (k / 64) + k % 64 = k by omega]
    unfold ohas at h1
    simp [h1]
    omega
  refine ⟨?_, ctz_of _ _ (owN_lt _ _) hb fun j hj => ?_⟩
  · rw [bne_iff_ne]
    intro h0
    have : owN s (k / 64) = 0 := by unfold ow at h0; omega
    rw [this] at hb
    simp at hb
  · rw [owN_testBit]
    have := h (64 * (k / 64) + j) (by omega)
    unfold ohas at this
    simp [this]

theorem least_index0 (a b c d : Int) (w : World) : (Instr.index 47 (.agg #[.int .u64 a, .int .u64 b, .int .u64 c, .int .u64 d]) (.int .i64 0)).run Tryz.prog w = .ok (.int .u64 a) w := by kernel_rfl
theorem least_index1 (a b c d : Int) (w : World) : (Instr.index 47 (.agg #[.int .u64 a, .int .u64 b, .int .u64 c, .int .u64 d]) (.int .i64 1)).run Tryz.prog w = .ok (.int .u64 b) w := by kernel_rfl
theorem least_index2 (a b c d : Int) (w : World) : (Instr.index 47 (.agg #[.int .u64 a, .int .u64 b, .int .u64 c, .int .u64 d]) (.int .i64 2)).run Tryz.prog w = .ok (.int .u64 c) w := by kernel_rfl
theorem least_index3 (a b c d : Int) (w : World) : (Instr.index 47 (.agg #[.int .u64 a, .int .u64 b, .int .u64 c, .int .u64 d]) (.int .i64 3)).run Tryz.prog w = .ok (.int .u64 d) w := by kernel_rfl

set_option maxHeartbeats 2000000 in
theorem least_some (s : OSet) (k : Nat) (hk : k < 256) (h1 : ohas s k = true) (h : ∀ b, b < k → ohas s b = false) (w : World) (hT : TabIn w) (hg : 0 < w.heap.size) :
    Calls Tryz.prog 91 #[.agg #[.int .u64 (ow s 0), .int .u64 (ow s 1), .int .u64 (ow s 2), .int .u64 (ow s 3)]] w fun e w' => e = .returned (.tuple #[.int .u8 (k : Int), .bool true]) ∧ Below w.heap.size w w' := by
  have i0 := least_index0 (ow s 0) (ow s 1) (ow s 2) (ow s 3)
  have i1 := least_index1 (ow s 0) (ow s 1) (ow s 2) (ow s 3)
  have i2 := least_index2 (ow s 0) (ow s 1) (ow s 2) (ow s 3)
  have i3 := least_index3 (ow s 0) (ow s 1) (ow s 2) (ow s 3)
  obtain ⟨w1, w2⟩ := word_least s k h1 h
  have hT1 : TabIn (w.alloc (.cells #[.int .u64 (ow s 0), .int .u64 (ow s 1), .int .u64 (ow s 2), .int .u64 (ow s 3)] 47)) := tabIn_below hT ((Below.refl w.heap.size w).alloc (Nat.le_refl _) _) hg
  have Hz := Lib.hid (fun i (hi : 64 * i + 64 ≤ k) => show (ow s i != 0) = false by rw [word_zero s i k h hi]; rfl)
  clear h1 h hT
  have hc : k % 64 < 64 := by omega
  generalize hcc : k % 64 = c at w2 hc
  have Hc := Lib.hid hcc
  clear hcc
  have hq : k / 64 = 0 ∨ k / 64 = 1 ∨ k / 64 = 2 ∨ k / 64 = 3 := by omega
  rcases hq with hq | hq | hq | hq
  · rw [hq] at w1 w2
    have Hq := Lib.hid hq
    clear hq
    have He := Lib.hid (show ((64 * 0 + c : Nat) : Int) = (k : Int) by have := Hq.out; have := Hc.out; omega)
    go_enter Tryz.func91, Tryz.ntmps91
    go_wp2
    refine wp_loop_rounds 1 ?_
    rw [rounds_succ]
    go_wp2_with (go_at_call 120; refine (zeros_any s _ _ hT1).mono ?_; rintro e w' ⟨rfl, rfl⟩)
    go_ret2
    refine ⟨by rw [← He.out]; simp, (Below.refl _ _).alloc (Nat.le_refl _) _⟩
  · rw [hq] at w1 w2
    have Hq := Lib.hid hq
    clear hq
    have z0 := Hz.out 0 (by have := Hq.out; omega)
    have He := Lib.hid (show ((64 * 1 + c : Nat) : Int) = (k : Int) by have := Hq.out; have := Hc.out; omega)
    go_enter Tryz.func91, Tryz.ntmps91
    go_wp2
    refine wp_loop_rounds 2 ?_
    rw [rounds_succ]
    go_wp2
    rw [rounds_succ]
    go_wp2_with (go_at_call 120; refine (zeros_any s _ _ hT1).mono ?_; rintro e w' ⟨rfl, rfl⟩)
    go_ret2
    refine ⟨by rw [← He.out]; simp, (Below.refl _ _).alloc (Nat.le_refl _) _⟩
  · rw [hq] at w1 w2
    have Hq := Lib.hid hq
    clear hq
    have z0 := Hz.out 0 (by have := Hq.out; omega)
    have z1 := Hz.out 1 (by have := Hq.out; omega)
    have He := Lib.hid (show ((64 * 2 + c : Nat) : Int) = (k : Int) by have := Hq.out; have := Hc.out; omega)
    go_enter Tryz.func91, Tryz.ntmps91
    go_wp2
    refine wp_loop_rounds 3 ?_
    rw [rounds_succ]
    go_wp2
    rw [rounds_succ]
    go_wp2
    rw [rounds_succ]
    go_wp2_with (go_at_call 120; refine (zeros_any s _ _ hT1).mono ?_; rintro e w' ⟨rfl, rfl⟩)
    go_ret2
    refine ⟨by rw [← He.out]; simp, (Below.refl _ _).alloc (Nat.le_refl _) _⟩
  · rw [hq] at w1 w2
    have Hq := Lib.hid hq
    clear hq
    have z0 := Hz.out 0 (by have := Hq.out; omega)
    have z1 := Hz.out 1 (by have := Hq.out; omega)
    have z2 := Hz.out 2 (by have := Hq.out; omega)
    have He := Lib.hid (show ((64 * 3 + c : Nat) : Int) = (k : Int) by have := Hq.out; have := Hc.out; omega)
    go_enter Tryz.func91, Tryz.ntmps91
    go_wp2
    refine wp_loop_rounds 4 ?_
    rw [rounds_succ]
    go_wp2
    rw [rounds_succ]
    go_wp2
    rw [rounds_succ]
    go_wp2
    rw [rounds_succ]
    go_wp2_with (go_at_call 120; refine (zeros_any s _ _ hT1).mono ?_; rintro e w' ⟨rfl, rfl⟩)
    go_ret2
    refine ⟨by rw [← He.out]; simp, (Below.refl _ _).alloc (Nat.le_refl _) _⟩

set_option maxHeartbeats 2000000 in
theorem least_none (s : OSet) (hs : s = oz) (w : World) :
    Calls Tryz.prog 91 #[.agg #[.int .u64 (ow s 0), .int .u64 (ow s 1), .int .u64 (ow s 2), .int .u64 (ow s 3)]] w fun e w' => e = .returned (.tuple #[.int .u8 0, .bool false]) ∧ Below w.heap.size w w' := by
  have i0 := least_index0 (ow s 0) (ow s 1) (ow s 2) (ow s 3)
  have i1 := least_index1 (ow s 0) (ow s 1) (ow s 2) (ow s 3)
  have i2 := least_index2 (ow s 0) (ow s 1) (ow s 2) (ow s 3)
  have i3 := least_index3 (ow s 0) (ow s 1) (ow s 2) (ow s 3)
  have z0 : (ow s 0 != 0) = false := by rw [hs, ow_zero]; rfl
  have z1 : (ow s 1 != 0) = false := by rw [hs, ow_zero]; rfl
  have z2 : (ow s 2 != 0) = false := by rw [hs, ow_zero]; rfl
  have z3 : (ow s 3 != 0) = false := by rw [hs, ow_zero]; rfl
  clear hs
  go_enter Tryz.func91, Tryz.ntmps91
  go_wp2
  refine wp_loop_rounds 5 ?_
  iterate 5 (rw [rounds_succ]; go_wp2)
  go_ret2
  exact ⟨rfl, (Below.refl _ _).alloc (Nat.le_refl _) _⟩

end Go.Proofs.YtacpoandhocmhaaGreatDoor
