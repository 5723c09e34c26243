/- The proof's texts Sp, BrProgA, BrProgBC: what the claim reaches of them. -/
import Derived.Test.YtjbnogjkgmkagaaGreatDoorAs05
import Derived.Test.YtjbnogjkgmkagaaGreatDoorAs01
import Derived.Shelf.Spec.TrailingZeros
import Derived.Test.YtjbnogjkgmkagaaGreatDoorAs06
import Derived.BigQuiet
import Derived.Deep.QuietTactic
import Derived.Deep.DeepCutAuto
import Derived.Outline
import Derived.Test.YtjbnogjkgmkagaaGreatDoorAs08
namespace Go.Proofs.YtjbnogjkgmkagaaGreatDoor
open Go.RowKit
end Go.Proofs.YtjbnogjkgmkagaaGreatDoor
namespace Go.Proofs.YtjbnogjkgmkagaaGreatDoor
open Go.RowKit
end Go.Proofs.YtjbnogjkgmkagaaGreatDoor
namespace Go.Proofs.YtjbnogjkgmkagaaGreatDoor
open Go.RowKit Go.Shelf
def zren : Go.Shelf.Ren := ⟨fun | 29 => 206 | n => n, fun | 0 => 0 | 3 => 3 | 4 => 4 | 5 => 5 | 22 => 22 | 25 => 239 | 54 => 298 | n => n, fun | 1 => 5 | n => n⟩
theorem zlays : Go.Proofs.Lays7.n29 Tryz.prog zren := {
 mixed := by kernel_rfl
 f29 := Tryz.func206.trans (congrArg some (by kernel_rfl))
 t0 := Tryz.underlying0
 a0 := Tryz.isAgg0
 z0 := Tryz.sizeOf0
 v0 := Tryz.zeroValue0
 i0 := by kernel_rfl
 t3 := Tryz.underlying3
 a3 := Tryz.isAgg3
 z3 := Tryz.sizeOf3
 v3 := Tryz.zeroValue3
 i3 := by kernel_rfl
 t4 := Tryz.underlying4
 a4 := Tryz.isAgg4
 z4 := Tryz.sizeOf4
 v4 := Tryz.zeroValue4
 i4 := by kernel_rfl
 t5 := Tryz.underlying5
 a5 := Tryz.isAgg5
 z5 := Tryz.sizeOf5
 v5 := Tryz.zeroValue5
 i5 := by kernel_rfl
 t22 := Tryz.underlying22
 a22 := Tryz.isAgg22
 z22 := Tryz.sizeOf22
 v22 := Tryz.zeroValue22
 i22 := by kernel_rfl
 t25 := Tryz.underlying239
 a25 := Tryz.isAgg239
 z25 := Tryz.sizeOf239
 v25 := Tryz.zeroValue239
 i25 := by kernel_rfl
 t54 := Tryz.underlying298
 a54 := Tryz.isAgg298
 z54 := Tryz.sizeOf298
 g1 := by kernel_rfl }
def TabIn (w : World) : Prop := TabAt 5 Lib.deBruijn64tab w
theorem tabIn_below {w w' : World} {B : Nat} (h : TabIn w) (hb : Below B w w') (hB : 5 < B) : TabIn w' := fun j hj => (hb.cell (p := ⟨5, j, none⟩) hB).trans (h j hj)
theorem zeros_any (s : OSet) (i : Nat) (w : World) (hT : TabIn w) :
  Calls Tryz.prog 206 #[.int .u64 (ow s i)] w fun e w' => e = .returned (.int .i64 (Lib.ctz 64 (owN s i) : Int)) ∧ w = w' :=
 (Any7.bits_TrailingZeros64 zlays (owN s i) (owN_lt s i) w (fun _ => hT)).mono fun _ _ ⟨h1, h2⟩ => ⟨h1, h2.symm⟩
theorem ctz_of (x c : Nat) (hx : x < 18446744073709551616) (h1 : x.testBit c = true) (h2 : ∀ j, j < c → x.testBit j = false) : Lib.ctz 64 x = c := by
 have hx0 : x ≠ 0 := by
  rintro rfl
  simp at h1
 obtain ⟨m, hm, hlt⟩ := Lib.ctzFrom_spec 64 x (by omega) hx
 unfold Lib.ctz
 rw [if_neg hx0]
 generalize Lib.ctzFrom 64 x = d at hm hlt
 have hd : x.testBit d = true := by
  rw [hm, Nat.testBit_two_pow_mul]
  simp
 have hd2 : ∀ j, j < d → x.testBit j = false := fun j hj => by
  rw [hm, Nat.testBit_two_pow_mul]
  simp; omega
 rcases Nat.lt_trichotomy c d with h | h | h
 ·rw [hd2 c h] at h1; cases h1
 ·exact h.symm
 ·rw [h2 d h] at hd; cases hd
theorem word_zero (s : OSet) (i k : Nat) (h : ∀ b, b < k → ohas s b = false) (hk : 64 * i + 64 ≤ k) : ow s i = 0 := by
 have : owN s i = 0 := by
  refine (owN_eq s i 0 (by decide) fun j hj => ?_).symm
  have := h (64 * i + j) (by omega)
  unfold ohas at this
  simp [this]
 unfold ow
 rw [this]
 rfl
theorem word_least (s : OSet) (k : Nat) (h1 : ohas s k = true) (h : ∀ b, b < k → ohas s b = false) : (ow s (k / 64) != 0) = true ∧ Lib.ctz 64 (owN s (k / 64)) = k % 64 := by
 have hb : (owN s (k / 64)).testBit (k % 64) = true := by
  rw [owN_testBit, show 64 * (k / 64) + k % 64 = k by omega]
  unfold ohas at h1
  simp [h1]
  omega
 refine ⟨?_, ctz_of _ _ (owN_lt _ _) hb fun j hj => ?_⟩
 ·rw [bne_iff_ne]
  intro h0
  have : owN s (k / 64) = 0 := by unfold ow at h0; omega
  rw [this] at hb
  simp at hb
 ·rw [owN_testBit]
  have := h (64 * (k / 64) + j) (by omega)
  unfold ohas at this
  simp [this]
theorem least_index0 (a b c d : Int) (w : World) : (Instr.index 118 (.agg #[.int .u64 a, .int .u64 b, .int .u64 c, .int .u64 d]) (.int .i64 0)).run Tryz.prog w = .ok (.int .u64 a) w := by kernel_rfl
theorem least_index1 (a b c d : Int) (w : World) : (Instr.index 118 (.agg #[.int .u64 a, .int .u64 b, .int .u64 c, .int .u64 d]) (.int .i64 1)).run Tryz.prog w = .ok (.int .u64 b) w := by kernel_rfl
theorem least_index2 (a b c d : Int) (w : World) : (Instr.index 118 (.agg #[.int .u64 a, .int .u64 b, .int .u64 c, .int .u64 d]) (.int .i64 2)).run Tryz.prog w = .ok (.int .u64 c) w := by kernel_rfl
theorem least_index3 (a b c d : Int) (w : World) : (Instr.index 118 (.agg #[.int .u64 a, .int .u64 b, .int .u64 c, .int .u64 d]) (.int .i64 3)).run Tryz.prog w = .ok (.int .u64 d) w := by kernel_rfl
set_option maxHeartbeats 2000000 in
theorem least_some (s : OSet) (k : Nat) (hk : k < 256) (h1 : ohas s k = true) (h : ∀ b, b < k → ohas s b = false) (w : World) (hT : TabIn w) (hg : 5 < w.heap.size) :
  Calls Tryz.prog 203 #[.agg #[.int .u64 (ow s 0), .int .u64 (ow s 1), .int .u64 (ow s 2), .int .u64 (ow s 3)]] w fun e w' => e = .returned (.tuple #[.int .u8 (k : Int), .bool true]) ∧ Below w.heap.size w w' := by
 have i0 := least_index0 (ow s 0) (ow s 1) (ow s 2) (ow s 3)
 have i1 := least_index1 (ow s 0) (ow s 1) (ow s 2) (ow s 3)
 have i2 := least_index2 (ow s 0) (ow s 1) (ow s 2) (ow s 3)
 have i3 := least_index3 (ow s 0) (ow s 1) (ow s 2) (ow s 3)
 obtain ⟨w1, w2⟩ := word_least s k h1 h
 have hT1 : TabIn (w.alloc (.cells #[.int .u64 (ow s 0), .int .u64 (ow s 1), .int .u64 (ow s 2), .int .u64 (ow s 3)] 118)) := tabIn_below hT ((Below.refl w.heap.size w).alloc (Nat.le_refl _) _) hg
 have Hz := Lib.hid (fun i (hi : 64 * i + 64 ≤ k) => show (ow s i != 0) = false by rw [word_zero s i k h hi]; rfl)
 clear h1 h hT
 have hc : k % 64 < 64 := by omega
 generalize hcc : k % 64 = c at w2 hc
 have Hc := Lib.hid hcc
 clear hcc
 have hq : k / 64 = 0 ∨ k / 64 = 1 ∨ k / 64 = 2 ∨ k / 64 = 3 := by omega
 rcases hq with hq | hq | hq | hq
 ·rw [hq] at w1 w2
  have Hq := Lib.hid hq
  clear hq
  have He := Lib.hid (show ((64 * 0 + c : Nat) : Int) = (k : Int) by have := Hq.out; have := Hc.out; omega)
  go_enter Tryz.func203, Tryz.ntmps203
  go_wp2
  refine wp_loop_rounds 1 ?_
  rw [rounds_succ]
  go_wp2_with (go_at_call 206; refine (zeros_any s _ _ hT1).mono ?_; rintro e w' ⟨rfl, rfl⟩)
  go_ret2
  refine ⟨by rw [← He.out]; simp, (Below.refl _ _).alloc (Nat.le_refl _) _⟩
 ·rw [hq] at w1 w2
  have Hq := Lib.hid hq
  clear hq
  have z0 := Hz.out 0 (by have := Hq.out; omega)
  have He := Lib.hid (show ((64 * 1 + c : Nat) : Int) = (k : Int) by have := Hq.out; have := Hc.out; omega)
  go_enter Tryz.func203, Tryz.ntmps203
  go_wp2
  refine wp_loop_rounds 2 ?_
  rw [rounds_succ]
  go_wp2
  rw [rounds_succ]
  go_wp2_with (go_at_call 206; refine (zeros_any s _ _ hT1).mono ?_; rintro e w' ⟨rfl, rfl⟩)
  go_ret2
  refine ⟨by rw [← He.out]; simp, (Below.refl _ _).alloc (Nat.le_refl _) _⟩
 ·rw [hq] at w1 w2
  have Hq := Lib.hid hq
  clear hq
  have z0 := Hz.out 0 (by have := Hq.out; omega)
  have z1 := Hz.out 1 (by have := Hq.out; omega)
  have He := Lib.hid (show ((64 * 2 + c : Nat) : Int) = (k : Int) by have := Hq.out; have := Hc.out; omega)
  go_enter Tryz.func203, Tryz.ntmps203
  go_wp2
  refine wp_loop_rounds 3 ?_
  rw [rounds_succ]
  go_wp2
  rw [rounds_succ]
  go_wp2
  rw [rounds_succ]
  go_wp2_with (go_at_call 206; refine (zeros_any s _ _ hT1).mono ?_; rintro e w' ⟨rfl, rfl⟩)
  go_ret2
  refine ⟨by rw [← He.out]; simp, (Below.refl _ _).alloc (Nat.le_refl _) _⟩
 ·rw [hq] at w1 w2
  have Hq := Lib.hid hq
  clear hq
  have z0 := Hz.out 0 (by have := Hq.out; omega)
  have z1 := Hz.out 1 (by have := Hq.out; omega)
  have z2 := Hz.out 2 (by have := Hq.out; omega)
  have He := Lib.hid (show ((64 * 3 + c : Nat) : Int) = (k : Int) by have := Hq.out; have := Hc.out; omega)
  go_enter Tryz.func203, Tryz.ntmps203
  go_wp2
  refine wp_loop_rounds 4 ?_
  rw [rounds_succ]
  go_wp2
  rw [rounds_succ]
  go_wp2
  rw [rounds_succ]
  go_wp2
  rw [rounds_succ]
  go_wp2_with (go_at_call 206; refine (zeros_any s _ _ hT1).mono ?_; rintro e w' ⟨rfl, rfl⟩)
  go_ret2
  refine ⟨by rw [← He.out]; simp, (Below.refl _ _).alloc (Nat.le_refl _) _⟩
end Go.Proofs.YtjbnogjkgmkagaaGreatDoor
namespace Go.Proofs.YtjbnogjkgmkagaaGreatDoor
open Go.RowKit
theorem pbyt_at (s : ByteArray) (k : Nat) (h : k < s.size) : byt s.data.toList k = s[k].toNat := by
 unfold byt
 rw [List.getD_eq_getElem?_getD, List.getElem?_eq_getElem (by simpa using h)]
 rfl
theorem plist_size (s : ByteArray) : s.data.toList.length = s.size := by simp
theorem pu8a (b : UInt8) : (0 : Int) ≤ (b.toNat : Int) := Int.natCast_nonneg _
theorem pu8b (b : UInt8) : (b.toNat : Int) ≤ 255 := by have := b.toNat_lt; omega
def dsh (s : List UInt8) (k : Nat) : Bool := decide (k + 1 < s.length) && decide (byt s k = 45) && !decide (byt s (k + 1) = 93)
set_option linter.unusedSimpArgs false in
set_option maxRecDepth 100000 in
set_option maxHeartbeats 1000000 in
theorem dash_any (s : ByteArray) (k : Nat) (w : World) (hs : s.size ≤ 35184372088832) (hk : k ≤ s.size) :
  Calls Tryz.prog 191 #[.string s, .int .i64 (k : Int)] w fun e w' => e = .returned (.bool (dsh s.data.toList k)) ∧ Below w.heap.size w w' := by
 have Wn : IntKind.i64.wrap ((k : Int) + 1) = (k : Int) + 1 := IntWalk.i64_in _ (by omega)
 by_cases q1 : k + 1 < s.size
 ·have Hd := Lib.hid (show dsh s.data.toList k = (decide (s[k].toNat = 45) && !decide (s[k + 1].toNat = 93)) by
   unfold dsh; rw [plist_size, pbyt_at s k (by omega), pbyt_at s (k + 1) q1, decide_eq_true q1, Bool.true_and])
  have r1 : decide ((k : Int) + 1 < (s.size : Int)) = true := by simp; omega
  by_cases q2 : s[k].toNat = 45
  ·have r2 : ((s[k].toNat : Int) == 45) = true := by simp; omega
   have Q2 := Lib.hid q2
   clear q2
   by_cases q3 : s[k + 1].toNat = 93
   ·have r3 : ((s[k + 1].toNat : Int) != 93) = false := by simp; omega
    have Q3 := Lib.hid q3
    clear q3
    go_enter Tryz.func191, Tryz.ntmps191
    go_wp2_with fail
    go_ret
    exact ⟨ret_bool (by rw [Hd.out, Q2.out, Q3.out]; rfl), Below.refl _ _⟩
   ·have r3 : ((s[k + 1].toNat : Int) != 93) = true := by simp; omega
    have Q3 := Lib.hid q3
    clear q3
    go_enter Tryz.func191, Tryz.ntmps191
    go_wp2_with fail
    go_ret
    exact ⟨ret_bool (by rw [Hd.out, Q2.out, decide_eq_false Q3.out]; rfl), Below.refl _ _⟩
  ·have r2 : ((s[k].toNat : Int) == 45) = false := by simp; omega
   have Q2 := Lib.hid q2
   clear q2
   go_enter Tryz.func191, Tryz.ntmps191
   go_wp2_with fail
   go_ret
   exact ⟨ret_bool (by rw [Hd.out, decide_eq_false Q2.out]; rfl), Below.refl _ _⟩
 ·have r1 : decide ((k : Int) + 1 < (s.size : Int)) = false := by simp; omega
  have Hd := Lib.hid (show dsh s.data.toList k = false by
   unfold dsh; rw [plist_size, decide_eq_false q1]; rfl)
  go_enter Tryz.func191, Tryz.ntmps191
  go_wp2_with fail
  go_ret
  exact ⟨ret_bool (by rw [Hd.out]), Below.refl _ _⟩
theorem iblk_cells {w : World} {a : Nat} {s : OSet} {m : Bool} {T : TypeId} (h : Blk w a #[.int .u64 (ow s 0), .int .u64 (ow s 1), .int .u64 (ow s 2), .int .u64 (ow s 3), .bool m] T) :
  w.cell? ⟨a, 0, none⟩ = some (.int .u64 (ow s 0)) ∧ w.cell? ⟨a, 1, none⟩ = some (.int .u64 (ow s 1)) ∧ w.cell? ⟨a, 2, none⟩ = some (.int .u64 (ow s 2)) ∧ w.cell? ⟨a, 3, none⟩ = some (.int .u64 (ow s 3)) ∧ w.cell? ⟨a, 4, none⟩ = some (.bool m) :=
 ⟨(h.cell 0).trans rfl, (h.cell 1).trans rfl, (h.cell 2).trans rfl, (h.cell 3).trans rfl, (h.cell 4).trans rfl⟩
theorem oz_val : (.agg #[.int .u64 (ow oz 0), .int .u64 (ow oz 1), .int .u64 (ow oz 2), .int .u64 (ow oz 3)] : Value) = .agg #[.int .u64 0, .int .u64 0, .int .u64 0, .int .u64 0] := by rw [ow_zero, ow_zero, ow_zero, ow_zero]
theorem least_one (b : Nat) (hb : b < 256) (w : World) (hT : TabIn w) (hg : 5 < w.heap.size) :
  Calls Tryz.prog 203 #[.agg #[.int .u64 (ow (oSpan b b) 0), .int .u64 (ow (oSpan b b) 1), .int .u64 (ow (oSpan b b) 2), .int .u64 (ow (oSpan b b) 3)]] w fun e w' => e = .returned (.tuple #[.int .u8 (b : Int), .bool true]) ∧ Below w.heap.size w w' :=
 least_some (oSpan b b) b hb (by rw [one_has b b hb]; simp) (fun c hc => by rw [one_has b c hb]; simp; omega) w hT hg
def spn (A B : OSet) (ma mb : Bool) : OSet := if ma && mb then oSpan (lst A) (lst B) else oz
set_option linter.unusedSimpArgs false in
set_option maxRecDepth 100000 in
set_option maxHeartbeats 2000000 in
theorem pspan_any (A B : OSet) (ma mb : Bool) (hA : ma = true → ∃ b : Nat, b < 256 ∧ A = oSpan b b) (hB : mb = true → ∃ b : Nat, b < 256 ∧ B = oSpan b b) (w : World) (hT : TabIn w) (hg : 5 < w.heap.size) :
  Calls Tryz.prog 192 #[.agg #[.int .u64 (ow A 0), .int .u64 (ow A 1), .int .u64 (ow A 2), .int .u64 (ow A 3), .bool ma], .agg #[.int .u64 (ow B 0), .int .u64 (ow B 1), .int .u64 (ow B 2), .int .u64 (ow B 3), .bool mb]] w fun e w' => e = .returned (.agg #[.int .u64 (ow (spn A B ma mb) 0), .int .u64 (ow (spn A B ma mb) 1), .int .u64 (ow (spn A B ma mb) 2), .int .u64 (ow (spn A B ma mb) 3)]) ∧ Below w.heap.size w w' := by
 have hW := (((Below.refl w.heap.size w).alloc (Nat.le_refl _) (.cells #[.int .u64 (ow A 0), .int .u64 (ow A 1), .int .u64 (ow A 2), .int .u64 (ow A 3), .bool ma] 285)).alloc (by simp) (.cells #[.int .u64 (ow B 0), .int .u64 (ow B 1), .int .u64 (ow B 2), .int .u64 (ow B 3), .bool mb] 285)).alloc (by simp; omega) (.cells #[.int .u64 0, .int .u64 0, .int .u64 0, .int .u64 0] 118)
 cases ma
 ·go_enter Tryz.func192, Tryz.ntmps192
  go_wp2_with fail
  refine bodyPost_ret (v := .agg #[.int .u64 0, .int .u64 0, .int .u64 0, .int .u64 0]) (by simp [results, Tryz.results192, go_sem]) rfl ⟨by rw [show spn A B false mb = oz from rfl, oz_val], hW⟩
 ·cases mb
  ·go_enter Tryz.func192, Tryz.ntmps192
   go_wp2_with fail
   refine bodyPost_ret (v := .agg #[.int .u64 0, .int .u64 0, .int .u64 0, .int .u64 0]) (by simp [results, Tryz.results192, go_sem]) rfl ⟨by rw [show spn A B true false = oz from rfl, oz_val], hW⟩
  ·obtain ⟨a, ha, rfl⟩ := hA rfl
   obtain ⟨b, hb, rfl⟩ := hB rfl
   have hs : spn (oSpan a a) (oSpan b b) true true = oSpan a b := by
    unfold spn
    rw [(lst_one a ha).2, (lst_one b hb).2]
    rfl
   rw [hs]
   have hb2 := (((Blk.new w #[.int .u64 (ow (oSpan a a) 0), .int .u64 (ow (oSpan a a) 1), .int .u64 (ow (oSpan a a) 2), .int .u64 (ow (oSpan a a) 3), .bool true] 285 _ rfl).alloc (.cells #[.int .u64 (ow (oSpan b b) 0), .int .u64 (ow (oSpan b b) 1), .int .u64 (ow (oSpan b b) 2), .int .u64 (ow (oSpan b b) 3), .bool true] 285)).alloc (.cells #[.int .u64 0, .int .u64 0, .int .u64 0, .int .u64 0] 118))
   have hb3 := ((Blk.new (w.alloc (.cells #[.int .u64 (ow (oSpan a a) 0), .int .u64 (ow (oSpan a a) 1), .int .u64 (ow (oSpan a a) 2), .int .u64 (ow (oSpan a a) 3), .bool true] 285)) #[.int .u64 (ow (oSpan b b) 0), .int .u64 (ow (oSpan b b) 1), .int .u64 (ow (oSpan b b) 2), .int .u64 (ow (oSpan b b) 3), .bool true] 285 _ rfl).alloc (.cells #[.int .u64 0, .int .u64 0, .int .u64 0, .int .u64 0] 118))
   have hb4 := Blk.new ((w.alloc (.cells #[.int .u64 (ow (oSpan a a) 0), .int .u64 (ow (oSpan a a) 1), .int .u64 (ow (oSpan a a) 2), .int .u64 (ow (oSpan a a) 3), .bool true] 285)).alloc (.cells #[.int .u64 (ow (oSpan b b) 0), .int .u64 (ow (oSpan b b) 1), .int .u64 (ow (oSpan b b) 2), .int .u64 (ow (oSpan b b) 3), .bool true] 285)) #[.int .u64 0, .int .u64 0, .int .u64 0, .int .u64 0] 118 _ rfl
   simp only [World.size_alloc] at hb3 hb4
   have hT2 := tabIn_below hT hW hg
   go_enter Tryz.func192, Tryz.ntmps192
   go_wp2_with fail
   refine (least_one a ha _ hT2 (Nat.lt_of_lt_of_le hg hW.size)).mono ?_
   rintro e w1 ⟨rfl, b1⟩
   replace hW := hW.trans (b1.mono hW.size)
   replace hb3 := hb3.below b1 hb3.lt
   replace hb4 := hb4.below b1 hb4.lt
   clear hT2 hb2 b1
   have hT3 := tabIn_below hT hW hg
   obtain ⟨c0, c1, c2, c3, c4⟩ := iblk_cells hb3
   go_wp2_with fail
   refine (least_one b hb _ hT3 (Nat.lt_of_lt_of_le hg hW.size)).mono ?_
   rintro e w2 ⟨rfl, b2⟩
   replace hW := hW.trans (b2.mono hW.size)
   replace hb4 := hb4.below b2 hb4.lt
   clear c0 c1 c2 c3 c4 hb3 b2 hT3
   go_wp2_with fail
   refine (span_any a b _ (by omega) (by omega) (by omega) (by omega)).mono ?_
   rintro e w3 ⟨rfl, b3⟩
   replace hW := hW.trans (b3.mono hW.size)
   replace hb4 := hb4.below b3 hb4.lt
   clear b3
   obtain ⟨d0, d1, d2, d3⟩ := zblk_cells hb4
   have f0 := hb4.frozen 0
   have f1 := hb4.frozen 1
   have f2 := hb4.frozen 2
   have f3 := hb4.frozen 3
   have hlB := hb4.lt
   go_wp2_with fail
   refine bodyPost_ret (v := .agg #[.int .u64 (ow (oSpan a b) 0), .int .u64 (ow (oSpan a b) 1), .int .u64 (ow (oSpan a b) 2), .int .u64 (ow (oSpan a b) 3)]) (by simp [results, Tryz.results192, go_sem, d0, d1, d2, d3, hlB]) rfl ⟨rfl, ?_⟩
   repeat (first | exact hW | refine Below.setCell ?_ (by first | omega | (simp; omega) | simp) _)
end Go.Proofs.YtjbnogjkgmkagaaGreatDoor
namespace Go.Proofs.YtjbnogjkgmkagaaGreatDoor
open Go.RowKit
theorem ofl_one (b : Nat) : ofl [(b : Int)] = oSpan b b := by
 unfold oSpan ofl
 rw [show ((b : Int) - (b : Int) + 1).toNat = 1 by omega, Int.toNat_natCast]
 simp [ospan]
theorem ziblk_cells {w : World} {a : Nat} {T : TypeId} (h : Blk w a #[.int .u64 0, .int .u64 0, .int .u64 0, .int .u64 0, .bool false] T) :
  w.cell? ⟨a, 0, none⟩ = some (.int .u64 0) ∧ w.cell? ⟨a, 1, none⟩ = some (.int .u64 0) ∧ w.cell? ⟨a, 2, none⟩ = some (.int .u64 0) ∧ w.cell? ⟨a, 3, none⟩ = some (.int .u64 0) ∧ w.cell? ⟨a, 4, none⟩ = some (.bool false) :=
 ⟨(h.cell 0).trans rfl, (h.cell 1).trans rfl, (h.cell 2).trans rfl, (h.cell 3).trans rfl, (h.cell 4).trans rfl⟩
def nmV (s : OSet) (m ok : Bool) : Value := .tuple #[.agg #[.int .u64 (ow s 0), .int .u64 (ow s 1), .int .u64 (ow s 2), .int .u64 (ow s 3), .bool m], .bool ok]
set_option linter.unusedSimpArgs false in
set_option maxRecDepth 100000 in
set_option maxHeartbeats 2000000 in
theorem named58 (t : ByteArray) (w : World) :
  Calls Tryz.prog 205 #[.string t, .int .u8 58] w fun e w' => e = .returned (nmV (clsSet t.toList) false (clsOk t.toList)) ∧ Below w.heap.size w w' := by
 have hB := Blk.new w #[.int .u64 0, .int .u64 0, .int .u64 0, .int .u64 0, .bool false] 285 _ rfl; have hW := (Below.refl w.heap.size w).alloc (Nat.le_refl _) (.cells #[.int .u64 0, .int .u64 0, .int .u64 0, .int .u64 0, .bool false] 285)
 generalize hcs : clsSet t.toList = cs
 generalize hok : clsOk t.toList = ok
 go_enter Tryz.func205, Tryz.ntmps205
 go_wp2_with fail
 refine (class_any _ _).mono ?_
 rintro e w1 ⟨he, b1⟩
 rw [hcs, hok] at he
 subst he
 replace hW := hW.trans (b1.mono hW.size)
 replace hB := hB.below b1 hB.lt
 clear b1
 obtain ⟨d0, d1, d2, d3, d4⟩ := ziblk_cells hB; have f0 := hB.frozen 0; have f1 := hB.frozen 1; have f2 := hB.frozen 2; have f3 := hB.frozen 3; have f4 := hB.frozen 4; have hlB := hB.lt
 go_wp2_with fail
 refine bodyPost_ret (v := nmV cs false ok) (by simp [results, Tryz.results205, go_sem, d0, d1, d2, d3, d4, nmV, hlB]) rfl ⟨rfl, ?_⟩
 repeat (first | (with_reducible exact hW) | refine Below.setCell ?_ (by first | omega | (simp; omega) | simp) _ | refine Below.alloc ?_ (by first | omega | (simp; omega) | simp) _)
set_option linter.unusedSimpArgs false in
set_option maxRecDepth 100000 in
set_option maxHeartbeats 2000000 in
theorem named_one (t : ByteArray) (o : Int) (w : World) (ho : o ≠ 58) (ht : t.size = 1) :
  Calls Tryz.prog 205 #[.string t, .int .u8 o] w fun e w' => e = .returned (nmV (oSpan (byt t.data.toList 0) (byt t.data.toList 0)) (o == 46) true) ∧ Below w.heap.size w w' := by
 have r1 : (o == 58) = false := by simp [ho]
 have r2 : ((t.size : Int) != 1) = false := by simp [ht]
 have hb := Lib.hid (pbyt_at t 0 (by omega))
 have lt0 : 0 < t.size := by omega
 rw [hb.out]
 have hB := Blk.new w #[.int .u64 0, .int .u64 0, .int .u64 0, .int .u64 0, .bool false] 285 _ rfl; have hW := (Below.refl w.heap.size w).alloc (Nat.le_refl _) (.cells #[.int .u64 0, .int .u64 0, .int .u64 0, .int .u64 0, .bool false] 285)
 go_enter Tryz.func205, Tryz.ntmps205
 go_wp2_with fail
 refine (of_one (t[0].toNat : Int) (pu8a _) (pu8b _) _ _ (by simp)).mono ?_
 rintro e w1 ⟨rfl, b1⟩
 rw [ofl_one]
 replace hW := hW.trans (b1.mono hW.size)
 replace hB := hB.below b1 hB.lt
 clear b1
 obtain ⟨d0, d1, d2, d3, d4⟩ := ziblk_cells hB; have f0 := hB.frozen 0; have f1 := hB.frozen 1; have f2 := hB.frozen 2; have f3 := hB.frozen 3; have f4 := hB.frozen 4; have hlB := hB.lt
 go_wp2_with fail
 refine bodyPost_ret (v := nmV (oSpan (t[0].toNat : Int) (t[0].toNat : Int)) (o == 46) true) (by simp [results, Tryz.results205, go_sem, d0, d1, d2, d3, d4, nmV, hlB]) rfl ⟨rfl, ?_⟩
 repeat (first | (with_reducible exact hW) | refine Below.setCell ?_ (by first | omega | (simp; omega) | simp) _ | refine Below.alloc ?_ (by first | omega | (simp; omega) | simp) _)
set_option linter.unusedSimpArgs false in
set_option maxRecDepth 100000 in
set_option maxHeartbeats 2000000 in
theorem named_none (t : ByteArray) (o : Int) (w : World) (ho : o ≠ 58) (ht : t.size ≠ 1) :
  Calls Tryz.prog 205 #[.string t, .int .u8 o] w fun e w' => e = .returned (nmV oz false false) ∧ Below w.heap.size w w' := by
 have r1 : (o == 58) = false := by simp [ho]
 have r2 : ((t.size : Int) != 1) = true := by simp; omega
 have hB := Blk.new w #[.int .u64 0, .int .u64 0, .int .u64 0, .int .u64 0, .bool false] 285 _ rfl; have hW := (Below.refl w.heap.size w).alloc (Nat.le_refl _) (.cells #[.int .u64 0, .int .u64 0, .int .u64 0, .int .u64 0, .bool false] 285)
 go_enter Tryz.func205, Tryz.ntmps205
 go_wp2_with fail
 refine bodyPost_ret (v := nmV oz false false) (by simp [results, Tryz.results205, go_sem, nmV, ow_zero]) rfl ⟨rfl, ?_⟩
 repeat (first | (with_reducible exact hW) | refine Below.setCell ?_ (by first | omega | (simp; omega) | simp) _ | refine Below.alloc ?_ (by first | omega | (simp; omega) | simp) _)
def clo (s : List UInt8) (o : Nat) (e : Nat) : Int := match fnd s o e with
 | some x => (x : Int)
 | none => -1
def cdx (s : List UInt8) (o : Nat) (e : Nat) : Int := match fnd s o e with
 | some x => (x : Int) - (e : Int)
 | none => -1
theorem clo_yes (s : List UInt8) (o e : Nat) (h : ¬ cdx s o e < 0) : clo s o e = (e : Int) + cdx s o e ∧ 0 ≤ cdx s o e ∧ (e : Int) + cdx s o e < s.length := by
 unfold clo cdx at *
 cases hf : fnd s o e with
 | none => rw [hf] at h; simp at h
 | some x =>
  have := fnd_ge _ _ _ _ hf
  simp only
  omega
theorem clo_no (s : List UInt8) (o e : Nat) (h : cdx s o e < 0) : clo s o e = -1 := by
 unfold clo cdx at *
 cases hf : fnd s o e with
 | none => rfl
 | some x =>
  have := fnd_ge _ _ _ _ hf
  rw [hf] at h
  simp only at h
  omega
theorem clo_past (s : List UInt8) (o e : Nat) (h : s.length ≤ e) : clo s o e = -1 := by
 unfold clo
 rw [fnd, if_neg (by omega)]
theorem cidx (s : ByteArray) (k o : Nat) (w : World) (m : Int) (hs : s.size ≤ 1000000) (hk : k ≤ s.size) (ho : o < 256) (hm : w.cell? ⟨1, 0, none⟩ = some (.int .i64 m)) :
  Calls Tryz.prog 207 #[.string (s.extract k s.size), .string (strOfNums [(o : Int), 93])] w fun e w' => e = .returned (.int .i64 (cdx s.data.toList o k)) ∧ w = w' := by
 have h := index_any (s.extract k s.size) (strOfNums [(o : Int), ((93 : Nat) : Int)]) m w (by simp; omega) hm
 rw [ext_list, nums_two, show UInt8.ofNat 93 = 93 from rfl, idx_fnd _ _ _ (by rw [plist_size]; exact hk), show (UInt8.ofNat o).toNat = o by simp; omega] at h
 exact h
set_option linter.unusedSimpArgs false in
set_option maxRecDepth 100000 in
set_option maxHeartbeats 2000000 in
theorem closer58 (s : ByteArray) (k o : Nat) (w : World) (m : Int) (hs : s.size ≤ 1000000) (hk : k ≤ s.size) (ho : o < 256) (h58 : o = 58) (hm : w.cell? ⟨1, 0, none⟩ = some (.int .i64 m)) (hg : 1 < w.heap.size) :
  Calls Tryz.prog 204 #[.string s, .int .i64 (k : Int), .int .u8 (o : Int)] w fun e w' => e = .returned (.int .i64 (clo s.data.toList o k)) ∧ Below w.heap.size w w' := by
 have kc := pconv2d w o 93; have hm2 : ∀ x, (w.alloc x).cell? ⟨1, 0, none⟩ = some (.int .i64 m) := fun x => (((Below.refl w.heap.size w).alloc (Nat.le_refl _) x).cell (p := ⟨1, 0, none⟩) hg).trans hm; have hm3 : ∀ x, (w.alloc x).drew.cell? ⟨1, 0, none⟩ = some (.int .i64 m) := hm2
 have r1 : ((o : Int) != 58) = false := by simp [h58]
 have r2 : decide ((s.size : Int) < (k : Int)) = false := by simp; omega
 have r3 : decide (s.size < k) = false := decide_eq_false (by omega)
 clear h58
 by_cases hc : cdx s.data.toList o k < 0
 ·have Hc := Lib.hid (clo_no _ _ _ hc)
  have r4 : decide (cdx s.data.toList o k < 0) = true := decide_eq_true hc
  clear hc
  (go_enter Tryz.func204, Tryz.ntmps204; go_wp2_with fail; go_region_with (go_at_call 207; refine (cidx s k o _ m hs (by omega) ho (hm3 _)).mono ?_; rintro e w1 ⟨rfl, rfl⟩); go_wp2_with fail)
  go_ret
  exact ⟨ret_int (by rw [Hc.out]), Below.drew ((Below.refl w.heap.size w).alloc (Nat.le_refl _) _)⟩
 ·have hy := clo_yes _ _ _ hc
  rw [plist_size] at hy
  obtain ⟨hy1, hy2, hy3⟩ := hy
  have Hc := Lib.hid hy1
  clear hy1
  have r4 : decide (cdx s.data.toList o k < 0) = false := decide_eq_false hc
  have r5 : IntKind.i64.wrap ((k : Int) + cdx s.data.toList o k) = (k : Int) + cdx s.data.toList o k := IntWalk.i64_in _ (by omega)
  clear hc
  (go_enter Tryz.func204, Tryz.ntmps204; go_wp2_with fail; go_region_with (go_at_call 207; refine (cidx s k o _ m hs (by omega) ho (hm3 _)).mono ?_; rintro e w1 ⟨rfl, rfl⟩); go_wp2_with fail)
  go_ret
  exact ⟨ret_int (by rw [Hc.out]), Below.drew ((Below.refl w.heap.size w).alloc (Nat.le_refl _) _)⟩
set_option linter.unusedSimpArgs false in
set_option maxRecDepth 100000 in
set_option maxHeartbeats 2000000 in
theorem closer_one (s : ByteArray) (k o : Nat) (w : World) (m : Int) (hs : s.size ≤ 1000000) (hk : k ≤ s.size) (ho : o < 256) (h58 : o ≠ 58) (hm : w.cell? ⟨1, 0, none⟩ = some (.int .i64 m)) (hg : 1 < w.heap.size) :
  Calls Tryz.prog 204 #[.string s, .int .i64 (k : Int), .int .u8 (o : Int)] w fun e w' => e = .returned (.int .i64 (clo s.data.toList o (k + 1))) ∧ Below w.heap.size w w' := by
 have kc := pconv2d w o 93; have hm2 : ∀ x, (w.alloc x).cell? ⟨1, 0, none⟩ = some (.int .i64 m) := fun x => (((Below.refl w.heap.size w).alloc (Nat.le_refl _) x).cell (p := ⟨1, 0, none⟩) hg).trans hm; have hm3 : ∀ x, (w.alloc x).drew.cell? ⟨1, 0, none⟩ = some (.int .i64 m) := hm2
 have Wn : IntKind.i64.wrap ((k : Int) + 1) = ((k + 1 : Nat) : Int) := by rw [IntWalk.i64_in _ (by omega)]; omega
 have r1 : ((o : Int) != 58) = true := by simp; omega
 clear h58
 by_cases hlt : k + 1 ≤ s.size
 ·generalize hk1 : k + 1 = k1 at *
  have r2 : decide ((s.size : Int) < (k1 : Int)) = false := by simp; omega
  have r3 : decide (s.size < k1) = false := decide_eq_false (by omega)
  by_cases hc : cdx s.data.toList o k1 < 0
  ·have Hc := Lib.hid (clo_no _ _ _ hc)
   have r4 : decide (cdx s.data.toList o k1 < 0) = true := decide_eq_true hc
   clear hc
   (go_enter Tryz.func204, Tryz.ntmps204; go_wp2_with fail; go_region_with (go_at_call 207; refine (cidx s k1 o _ m hs (by omega) ho (hm3 _)).mono ?_; rintro e w1 ⟨rfl, rfl⟩); go_wp2_with fail)
   go_ret
   exact ⟨ret_int (by rw [Hc.out]), Below.drew ((Below.refl w.heap.size w).alloc (Nat.le_refl _) _)⟩
  ·have hy := clo_yes _ _ _ hc
   rw [plist_size] at hy
   obtain ⟨hy1, hy2, hy3⟩ := hy
   have Hc := Lib.hid hy1
   clear hy1
   have r4 : decide (cdx s.data.toList o k1 < 0) = false := decide_eq_false hc
   have r5 : IntKind.i64.wrap ((k1 : Int) + cdx s.data.toList o k1) = (k1 : Int) + cdx s.data.toList o k1 := IntWalk.i64_in _ (by omega)
   clear hc
   (go_enter Tryz.func204, Tryz.ntmps204; go_wp2_with fail; go_region_with (go_at_call 207; refine (cidx s k1 o _ m hs (by omega) ho (hm3 _)).mono ?_; rintro e w1 ⟨rfl, rfl⟩); go_wp2_with fail)
   go_ret
   exact ⟨ret_int (by rw [Hc.out]), Below.drew ((Below.refl w.heap.size w).alloc (Nat.le_refl _) _)⟩
 ·have r2 : decide ((s.size : Int) < ((k + 1 : Nat) : Int)) = true := by simp; omega
  have Hp := Lib.hid (clo_past s.data.toList o (k + 1) (by rw [plist_size]; omega))
  generalize hk1 : k + 1 = k1 at *
  have r3 : decide (s.size < k1) = true := decide_eq_true (by omega)
  go_enter Tryz.func204, Tryz.ntmps204
  go_wp2_with fail
  go_ret
  exact ⟨ret_int (by rw [Hp.out]), Below.refl _ _⟩
end Go.Proofs.YtjbnogjkgmkagaaGreatDoor
namespace Go.Proofs.YtjbnogjkgmkagaaGreatDoor
open Go.RowKit
def glN : Nat := Nat.max (Nat.max 5 4) 1 + 1
structure Gl (w : World) : Prop where
 tab : TabIn w
 op0 : w.cell? ⟨4, 0, none⟩ = some (.int .u8 58)
 op1 : w.cell? ⟨4, 1, none⟩ = some (.int .u8 61)
 op2 : w.cell? ⟨4, 2, none⟩ = some (.int .u8 46)
 ml : ∃ m, w.cell? ⟨1, 0, none⟩ = some (.int .i64 m)
 lt : glN ≤ w.heap.size
theorem Gl.below {w w' : World} {B : Nat} (h : Gl w) (hb : Below B w w') (hB : glN ≤ B) : Gl w' :=
 ⟨tabIn_below h.tab hb (Nat.lt_of_lt_of_le (by decide) hB),
  (hb.cell (p := ⟨4, 0, none⟩) (Nat.lt_of_lt_of_le (by decide) hB)).trans h.op0,
  (hb.cell (p := ⟨4, 1, none⟩) (Nat.lt_of_lt_of_le (by decide) hB)).trans h.op1,
  (hb.cell (p := ⟨4, 2, none⟩) (Nat.lt_of_lt_of_le (by decide) hB)).trans h.op2,
  h.ml.imp fun _ hm => (hb.cell (p := ⟨1, 0, none⟩) (Nat.lt_of_lt_of_le (by decide) hB)).trans hm,
  Nat.le_trans h.lt hb.size⟩
theorem Gl.up {w w' : World} (h : Gl w) (hb : Below w.heap.size w w') : Gl w' := h.below hb h.lt
def pgV (s : OSet) (m : Bool) (at' : Nat) (er : Nat) : Value := .tuple #[.agg #[.int .u64 (ow s 0), .int .u64 (ow s 1), .int .u64 (ow s 2), .int .u64 (ow s 3), .bool m], .int .i64 (at' : Int), .int .i64 (er : Int)]
set_option linter.unusedSimpArgs false in
set_option maxRecDepth 100000 in
set_option maxHeartbeats 2000000 in
theorem opened_none (s : ByteArray) (k o : Nat) (w : World) (hs : s.size ≤ 1000000) (hk : k + 2 ≤ s.size) (hG : Gl w)
  (hcl : ∀ w, Gl w → Calls Tryz.prog 204 #[.string s, .int .i64 ((k : Int) + 2), .int .u8 (o : Int)] w fun e w' => e = .returned (.int .i64 (-1)) ∧ Below w.heap.size w w') :
  Calls Tryz.prog 202 #[.string s, .int .i64 (k : Int), .int .u8 (o : Int)] w fun e w' => e = .returned (pgV oz false s.size 5) ∧ Below w.heap.size w w' := by
 have hB := Blk.new w #[.int .u64 0, .int .u64 0, .int .u64 0, .int .u64 0, .bool false] 285 _ rfl; have hW := (Below.refl w.heap.size w).alloc (Nat.le_refl _) (.cells #[.int .u64 0, .int .u64 0, .int .u64 0, .int .u64 0, .bool false] 285)
 have Wn : IntKind.i64.wrap ((k : Int) + 2) = (k : Int) + 2 := IntWalk.i64_in _ (by omega)
 have hG1 := hG.up hW
 go_enter Tryz.func202, Tryz.ntmps202
 go_wp2_with fail
 refine (hcl _ hG1).mono ?_
 rintro e w1 ⟨rfl, b1⟩
 replace hW := hW.trans (b1.mono hW.size); replace hB := hB.below b1 hB.lt; clear b1
 obtain ⟨d0, d1, d2, d3, d4⟩ := ziblk_cells hB; have f0 := hB.frozen 0; have f1 := hB.frozen 1; have f2 := hB.frozen 2; have f3 := hB.frozen 3; have f4 := hB.frozen 4; have hlB := hB.lt
 go_wp2_with fail
 refine bodyPost_ret (v := pgV oz false s.size 5) (by simp [results, Tryz.results202, go_sem, d0, d1, d2, d3, d4, pgV, hlB, ow_zero]) rfl ⟨rfl, ?_⟩
 repeat (first | (with_reducible exact hW) | refine Below.setCell ?_ (by first | omega | (simp; omega) | simp) _ | refine Below.alloc ?_ (by first | omega | (simp; omega) | simp) _)
set_option linter.unusedSimpArgs false in
set_option maxRecDepth 100000 in
set_option maxHeartbeats 2000000 in
theorem opened_some (s : ByteArray) (k o x : Nat) (cs : OSet) (m ok : Bool) (w : World) (hs : s.size ≤ 1000000) (hk : k + 2 ≤ s.size) (hG : Gl w) (hx0 : k + 2 ≤ x) (hx1 : x + 1 < s.size)
  (hcl : ∀ w, Gl w → Calls Tryz.prog 204 #[.string s, .int .i64 ((k : Int) + 2), .int .u8 (o : Int)] w fun e w' => e = .returned (.int .i64 (x : Int)) ∧ Below w.heap.size w w')
  (hnm : ∀ w, Calls Tryz.prog 205 #[.string (s.extract (k + 2) x), .int .u8 (o : Int)] w fun e w' => e = .returned (nmV cs m ok) ∧ Below w.heap.size w w') :
  Calls Tryz.prog 202 #[.string s, .int .i64 (k : Int), .int .u8 (o : Int)] w fun e w' => e = .returned (if ok then pgV cs m (x + 2) 0 else pgV oz false k 6) ∧ Below w.heap.size w w' := by
 have hB := Blk.new w #[.int .u64 0, .int .u64 0, .int .u64 0, .int .u64 0, .bool false] 285 _ rfl; have hW := (Below.refl w.heap.size w).alloc (Nat.le_refl _) (.cells #[.int .u64 0, .int .u64 0, .int .u64 0, .int .u64 0, .bool false] 285)
 have Wn : IntKind.i64.wrap ((k : Int) + 2) = (k : Int) + 2 := IntWalk.i64_in _ (by omega)
 have Wx : IntKind.i64.wrap ((x : Int) + 2) = (x : Int) + 2 := IntWalk.i64_in _ (by omega)
 have hG1 := hG.up hW
 go_enter Tryz.func202, Tryz.ntmps202
 go_wp2_with fail
 refine (hcl _ hG1).mono ?_
 rintro e w1 ⟨rfl, b1⟩
 replace hW := hW.trans (b1.mono hW.size); replace hB := hB.below b1 hB.lt; clear b1
 go_wp2_with fail
 refine (hnm _).mono ?_
 rintro e w2 ⟨rfl, b1⟩
 replace hW := hW.trans (b1.mono hW.size); replace hB := hB.below b1 hB.lt; clear b1
 obtain ⟨d0, d1, d2, d3, d4⟩ := ziblk_cells hB; have f0 := hB.frozen 0; have f1 := hB.frozen 1; have f2 := hB.frozen 2; have f3 := hB.frozen 3; have f4 := hB.frozen 4; have hlB := hB.lt
 unfold nmV
 cases ok
 ·go_wp2_with fail
  refine bodyPost_ret (v := pgV oz false k 6) (by simp [results, Tryz.results202, go_sem, d0, d1, d2, d3, d4, pgV, hlB, ow_zero]) rfl ⟨rfl, ?_⟩
  repeat (first | (with_reducible exact hW) | refine Below.setCell ?_ (by first | omega | (simp; omega) | simp) _ | refine Below.alloc ?_ (by first | omega | (simp; omega) | simp) _)
 ·go_wp2_with fail
  refine bodyPost_ret (v := pgV cs m (x + 2) 0) (by simp [results, Tryz.results202, go_sem, d0, d1, d2, d3, d4, pgV, hlB, ow_zero]) rfl ⟨rfl, ?_⟩
  repeat (first | (with_reducible exact hW) | refine Below.setCell ?_ (by first | omega | (simp; omega) | simp) _ | refine Below.alloc ?_ (by first | omega | (simp; omega) | simp) _)
end Go.Proofs.YtjbnogjkgmkagaaGreatDoor
