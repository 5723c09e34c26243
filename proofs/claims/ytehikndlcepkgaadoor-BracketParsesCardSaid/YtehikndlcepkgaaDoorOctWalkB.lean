/- Contracts of the calls on sets that go in rounds: Of, Span, OnesCount64, Len, and the document's own Span and Len. -/
import Derived.Test.YtehikndlcepkgaaDoorOctWalkA
import Derived.Test.YtehikndlcepkgaaDoorOctPop
import Derived.Test.YtehikndlcepkgaaDoorBlk
namespace Go.Proofs.YtehikndlcepkgaaDoor
open Go.RowKit

set_option maxHeartbeats 1000000 in
theorem of_any (zs : List Int) (b o cap : Nat) (w : World) (hb : b < w.heap.size) (hm : zs.length ≤ maxLen)
    (hc : ∀ i, i < zs.length → w.cell? ⟨b, o + i, none⟩ = some (.int .u8 (zs.getD i 0))) (hr : ∀ i, 0 ≤ zs.getD i 0 ∧ zs.getD i 0 ≤ 255) :
    Calls Tryd.prog 36 #[.slice (some ⟨b, o, none⟩) zs.length cap] w fun e w' => e = .returned (.agg #[.int .u64 (ow (ofl zs) 0), .int .u64 (ow (ofl zs) 1), .int .u64 (ow (ofl zs) 2), .int .u64 (ow (ofl zs) 3)]) ∧ Below w.heap.size w w' := by
  unfold maxLen at hm
  have Hc := Lib.hid hc
  clear hc
  have Hr := Lib.hid hr
  clear hr
  go_enter Tryd.func36, Tryd.ntmps36
  go_wp2
  go_loopw [8] (fun i wr => ∃ k n : Nat, k ≤ zs.length ∧ i = .int .i64 k ∧ wr = ((w.alloc (.cells #[.int .u64 0, .int .u64 0, .int .u64 0, .int .u64 0] 25)).alloc (.cells #[.int .u64 (ow (ofl (zs.take k)) 0), .int .u64 (ow (ofl (zs.take k)) 1), .int .u64 (ow (ofl (zs.take k)) 2), .int .u64 (ow (ofl (zs.take k)) 3)] 25)).drewN n) (fun i _ => zs.length - (intOf i).toNat)
  case atStart => exact ⟨0, 0, Nat.zero_le _, rfl, by rw [World.drewN_zero, List.take_zero, ofl_nil, ow_zero, ow_zero, ow_zero, ow_zero]⟩
  case round =>
    obtain ⟨k, n, hk, rfl, rfl⟩ := hrel
    by_cases hlt : k < zs.length
    · have hcell := Hc.out k hlt
      have hrk := Hr.out k
      have hsn0 := ofl_snoc zs k hlt
      generalize zs.getD k 0 = z at hcell hrk hsn0
      have hsn := Lib.hid hsn0
      clear hsn0
      go_wp2_with (go_at_call 23; refine (add_any _ _ hrk.1 hrk.2 _ _ _ (by simp)).mono ?_; rintro e w' ⟨rfl, rfl⟩)
      go_roundw
      case rel => exact ⟨k + 1, n + 1, by omega, by go_num, by rw [hsn.out]⟩
      case measure => simp [intOf]; omega
    · go_wp2
      have hkz := Lib.hid (show zs.take k = zs from List.take_of_length_le (by omega))
      refine bodyPost_ret (v := .agg #[.int .u64 (ow (ofl (zs.take k)) 0), .int .u64 (ow (ofl (zs.take k)) 1), .int .u64 (ow (ofl (zs.take k)) 2), .int .u64 (ow (ofl (zs.take k)) 3)]) (by simp [results, Tryd.results36, go_sem]) rfl ⟨by rw [hkz.out], ?_⟩
      repeat (first | exact Below.refl _ _ | refine Below.drew ?_ | refine below_drewN ?_ _ | refine Below.setCell ?_ (by simp <;> omega) _ | refine Below.alloc ?_ (by simp <;> omega) _)

set_option maxHeartbeats 1000000 in
theorem of_nil (w : World) :
    Calls Tryd.prog 36 #[.slice none 0 0] w fun e w' => e = .returned (.agg #[.int .u64 (ow oz 0), .int .u64 (ow oz 1), .int .u64 (ow oz 2), .int .u64 (ow oz 3)]) ∧ Below w.heap.size w w' := by
  go_enter Tryd.func36, Tryd.ntmps36
  go_wp2
  refine wp_loop_rounds 1 ?_
  rw [rounds_succ]
  go_wp2
  refine bodyPost_ret (by simp [results, Tryd.results36, go_sem]; rfl) rfl ⟨by rw [ow_zero, ow_zero, ow_zero, ow_zero], ?_⟩
  repeat (first | exact Below.refl _ _ | refine Below.drew ?_ | refine below_drewN ?_ _ | refine Below.setCell ?_ (by simp <;> omega) _ | refine Below.alloc ?_ (by simp <;> omega) _)

set_option maxHeartbeats 1000000 in
theorem span_any (lo hi : Int) (w : World) (h0 : 0 ≤ lo) (h1 : lo ≤ 255) (h2 : 0 ≤ hi) (h3 : hi ≤ 255) :
    Calls Tryd.prog 14 #[.int .u8 lo, .int .u8 hi] w fun e w' => e = .returned (.agg #[.int .u64 (ow (oSpan lo hi) 0), .int .u64 (ow (oSpan lo hi) 1), .int .u64 (ow (oSpan lo hi) 2), .int .u64 (ow (oSpan lo hi) 3)]) ∧ Below w.heap.size w w' := by
  go_enter Tryd.func14, Tryd.ntmps14
  go_wp2
  go_loopw [13] (fun i wr => ∃ k n : Nat, k ≤ (hi - lo + 1).toNat ∧ i = .int .i64 k ∧ wr = ((w.alloc (.cells #[.int .u64 0, .int .u64 0, .int .u64 0, .int .u64 0] 25)).alloc (.cells #[.int .u64 (ow (ospan lo.toNat k) 0), .int .u64 (ow (ospan lo.toNat k) 1), .int .u64 (ow (ospan lo.toNat k) 2), .int .u64 (ow (ospan lo.toNat k) 3)] 25)).drewN n) (fun i _ => 256 - (intOf i).toNat)
  case atStart => exact ⟨0, 0, Nat.zero_le _, rfl, by rw [World.drewN_zero, ospan, ow_zero, ow_zero, ow_zero, ow_zero]⟩
  case round =>
    obtain ⟨k, n, hk, rfl, rfl⟩ := hrel
    by_cases hlt : (k : Int) < hi - lo + 1
    · go_wp2_with (go_at_call 23; refine (add_any _ _ (by omega) (by omega) _ _ _ (by simp)).mono ?_; rintro e w' ⟨rfl, rfl⟩)
      have hsn : ospan lo.toNat (k + 1) = ospan lo.toNat k ||| obit (lo + k).toNat := by
        rw [ospan, show lo.toNat + k = (lo + k).toNat by omega]
      go_roundw
      case rel => exact ⟨k + 1, n + 1, by omega, by go_num, by rw [hsn]⟩
      case measure => simp [intOf]; omega
    · have hkz := Lib.hid (show oSpan lo hi = ospan lo.toNat k from by unfold oSpan; rw [show (hi - lo + 1).toNat = k by omega])
      go_wp2
      refine bodyPost_ret (v := .agg #[.int .u64 (ow (ospan lo.toNat k) 0), .int .u64 (ow (ospan lo.toNat k) 1), .int .u64 (ow (ospan lo.toNat k) 2), .int .u64 (ow (ospan lo.toNat k) 3)]) (by simp [results, Tryd.results14, go_sem]) rfl ⟨by rw [hkz.out], ?_⟩
      repeat (first | exact Below.refl _ _ | refine Below.drew ?_ | refine below_drewN ?_ _ | refine Below.setCell ?_ (by simp <;> omega) _ | refine Below.alloc ?_ (by simp <;> omega) _)

/-- The four cells of a set. -/
def oc (s : OSet) : Array Value := #[.int .u64 (ow s 0), .int .u64 (ow s 1), .int .u64 (ow s 2), .int .u64 (ow s 3)]
theorem oblk_cells {w : World} {a : Nat} {s : OSet} {T : TypeId} (h : Blk w a (oc s) T) :
    w.cell? ⟨a, 0, none⟩ = some (.int .u64 (ow s 0)) ∧ w.cell? ⟨a, 1, none⟩ = some (.int .u64 (ow s 1)) ∧ w.cell? ⟨a, 2, none⟩ = some (.int .u64 (ow s 2)) ∧ w.cell? ⟨a, 3, none⟩ = some (.int .u64 (ow s 3)) :=
  ⟨by rw [h.cell]; rfl, by rw [h.cell]; rfl, by rw [h.cell]; rfl, by rw [h.cell]; rfl⟩
theorem oblk_store {w : World} {a : Nat} {s : OSet} {T : TypeId} (h : Blk w a (oc s) T) (t : OSet) :
    Blk ((((w.setCell ⟨a, 0, none⟩ (.int .u64 (ow t 0))).setCell ⟨a, 1, none⟩ (.int .u64 (ow t 1))).setCell ⟨a, 2, none⟩ (.int .u64 (ow t 2))).setCell ⟨a, 3, none⟩ (.int .u64 (ow t 3))) a (oc t) T := by
  have := (((h.set 0 (.int .u64 (ow t 0))).set 1 (.int .u64 (ow t 1))).set 2 (.int .u64 (ow t 2))).set 3 (.int .u64 (ow t 3))
  exact this

set_option maxHeartbeats 1000000 in
theorem rspan_any (lo hi : Int) (w : World) (h0 : 0 ≤ lo) (h1 : lo ≤ 255) (h2 : 0 ≤ hi) (h3 : hi ≤ 255) :
    Calls Tryd.prog 21 #[.int .u8 lo, .int .u8 hi] w fun e w' => e = .returned (.agg #[.int .u64 (ow (oSpan lo hi) 0), .int .u64 (ow (oSpan lo hi) 1), .int .u64 (ow (oSpan lo hi) 2), .int .u64 (ow (oSpan lo hi) 3)]) ∧ Below w.heap.size w w' := by
  go_enter Tryd.func21, Tryd.ntmps21
  go_wp2
  go_loopw [6] (fun i wr => ∃ k : Nat, (k = 0 ∨ (k : Int) ≤ hi - lo + 1) ∧ i = .int .i64 (lo + k) ∧ Below w.heap.size w wr ∧ Blk wr (w.heap.size + 1) (oc (ospan lo.toNat k)) 29 ∧ Blk wr w.heap.size (oc oz) 29) (fun i _ => (256 - intOf i).toNat)
  case atStart =>
    have hz : oc oz = #[.int .u64 0, .int .u64 0, .int .u64 0, .int .u64 0] := by unfold oc; rw [ow_zero, ow_zero, ow_zero, ow_zero]
    refine ⟨0, Or.inl rfl, by simp, ?_, ?_, ?_⟩
    · repeat (first | exact Below.refl _ _ | refine Below.alloc ?_ (by simp <;> omega) _)
    · rw [ospan, hz]
      exact Blk.new _ _ _ _ (by simp)
    · rw [hz]
      exact (Blk.new _ _ _ _ rfl).alloc _
  case round =>
    obtain ⟨k, hk, rfl, hbw, hblk, hres⟩ := hrel
    have hsz := hblk.lt
    obtain ⟨c0, c1, c2, c3⟩ := oblk_cells hblk
    by_cases hlt : lo + k ≤ hi
    · have hsn : ospan lo.toNat (k + 1) = ospan lo.toNat k ||| obit (lo + k).toNat := by
        rw [ospan, show lo.toNat + k = (lo + k).toNat by omega]
      have Hsn := Lib.hid hsn
      clear hsn
      go_wp2_with fail
      refine (with_any _ _ (by omega) (by omega) _).mono ?_
      rintro e w1 ⟨rfl, hb1⟩
      have hblk1 := hblk.below hb1 (by omega)
      have f0 := hblk1.frozen 0
      have f1 := hblk1.frozen 1
      have f2 := hblk1.frozen 2
      have f3 := hblk1.frozen 3
      obtain ⟨d0, d1, d2, d3⟩ := oblk_cells hblk1
      have hsz1 := hblk1.lt
      go_wp2
      go_roundw
      case rel =>
        refine ⟨k + 1, Or.inr (by omega), by go_num, ?_, ?_, ?_⟩
        · repeat (first | exact hbw.trans (hb1.mono (by omega)) | refine Below.setCell ?_ (by simp <;> omega) _)
        · rw [Hsn.out]; exact oblk_store hblk1 _
        · repeat (first | exact hres.below hb1 (by omega) | refine Blk.set_other ?_ _ (by simp) _)
      case measure => simp [intOf]; omega
    · have hkz : oSpan lo hi = ospan lo.toNat k := by
        unfold oSpan
        rcases hk with rfl | hk
        · rw [show (hi - lo + 1).toNat = 0 by omega]
        · rw [show (hi - lo + 1).toNat = k by omega]
      have Hkz := Lib.hid hkz
      clear hkz
      have f0 := hres.frozen 0
      have f1 := hres.frozen 1
      have f2 := hres.frozen 2
      have f3 := hres.frozen 3
      obtain ⟨d0, d1, d2, d3⟩ := oblk_cells hres
      go_wp2
      refine bodyPost_ret (by simp [results, Tryd.results21, go_sem, d0, d1, d2, d3]; rfl) rfl ⟨by rw [Hkz.out], ?_⟩
      repeat (first | exact hbw | refine Below.setCell ?_ (by simp <;> omega) _)

set_option maxHeartbeats 1000000 in
theorem ones_any (n : Nat) (h : n < 18446744073709551616) (w : World) :
    Calls Tryd.prog 24 #[.int .u64 (n : Int)] w fun e w' => e = .returned (.int .i64 (popc 64 n : Int)) ∧ w = w' := by
  have k1 := popY_step n h
  have k2 := popZ_step n
  have k3 := popT_step n
  have k4 := popU_step n
  have k5 := popV_step n
  have k6 := popW_step n
  have hW := popW_lt n
  have K7 := Lib.hid (popW_eq n)
  clear h
  go_enter Tryd.func24, Tryd.ntmps24
  go_wp2
  go_ret
  refine ⟨ret_int ?_, rfl⟩
  rw [i64_and127, ← K7.out]
  omega
theorem ones_ow (s : OSet) (i : Nat) (w : World) :
    Calls Tryd.prog 24 #[.int .u64 (ow s i)] w fun e w' => e = .returned (.int .i64 (popc 64 (owN s i) : Int)) ∧ w = w' := ones_any _ (owN_lt s i) w

theorem len_index0 (a b c d : Int) (w : World) : (Instr.index 25 (.agg #[.int .u64 a, .int .u64 b, .int .u64 c, .int .u64 d]) (.int .i64 0)).run Tryd.prog w = .ok (.int .u64 a) w := by kernel_rfl
theorem len_index1 (a b c d : Int) (w : World) : (Instr.index 25 (.agg #[.int .u64 a, .int .u64 b, .int .u64 c, .int .u64 d]) (.int .i64 1)).run Tryd.prog w = .ok (.int .u64 b) w := by kernel_rfl
theorem len_index2 (a b c d : Int) (w : World) : (Instr.index 25 (.agg #[.int .u64 a, .int .u64 b, .int .u64 c, .int .u64 d]) (.int .i64 2)).run Tryd.prog w = .ok (.int .u64 c) w := by kernel_rfl
theorem len_index3 (a b c d : Int) (w : World) : (Instr.index 25 (.agg #[.int .u64 a, .int .u64 b, .int .u64 c, .int .u64 d]) (.int .i64 3)).run Tryd.prog w = .ok (.int .u64 d) w := by kernel_rfl
set_option maxHeartbeats 1000000 in
theorem len_any (s : OSet) (w : World) :
    Calls Tryd.prog 15 #[.agg #[.int .u64 (ow s 0), .int .u64 (ow s 1), .int .u64 (ow s 2), .int .u64 (ow s 3)]] w fun e w' => e = .returned (.int .i64 (olen s : Int)) ∧ Below w.heap.size w w' := by
  have i0 := len_index0 (ow s 0) (ow s 1) (ow s 2) (ow s 3)
  have i1 := len_index1 (ow s 0) (ow s 1) (ow s 2) (ow s 3)
  have i2 := len_index2 (ow s 0) (ow s 1) (ow s 2) (ow s 3)
  have i3 := len_index3 (ow s 0) (ow s 1) (ow s 2) (ow s 3)
  have p0 := popc_le 64 (owN s 0)
  have p1 := popc_le 64 (owN s 1)
  have p2 := popc_le 64 (owN s 2)
  have p3 := popc_le 64 (owN s 3)
  have K := Lib.hid (olen_words s)
  go_enter Tryd.func15, Tryd.ntmps15
  go_wp2
  refine wp_loop_rounds 5 ?_
  iterate 4 (rw [rounds_succ]; go_wp2_with (go_at_call 24; refine (ones_ow _ _ _).mono ?_; rintro e w' ⟨rfl, rfl⟩))
  rw [rounds_succ]
  go_wp2
  go_ret
  refine ⟨ret_int (by rw [K.out]; omega), ?_⟩
  repeat (first | exact Below.refl _ _ | refine Below.drew ?_ | refine Below.alloc ?_ (by simp <;> omega) _)


end Go.Proofs.YtehikndlcepkgaaDoor
