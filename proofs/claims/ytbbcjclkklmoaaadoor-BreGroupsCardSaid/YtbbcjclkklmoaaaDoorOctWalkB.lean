/- Contracts of the calls on sets that go in rounds: Of, Span, OnesCount64, Len, and the document's own Span and Len. -/
import Derived.Test.YtbbcjclkklmoaaaDoorOctWalkA
import Derived.Test.YtbbcjclkklmoaaaDoorOctPop
import Derived.Test.YtbbcjclkklmoaaaDoorMaB
namespace Go.Proofs.YtbbcjclkklmoaaaDoor
open Go.RowKit

set_option maxHeartbeats 1000000 in
theorem of_any (zs : List Int) (b o cap : Nat) (w : World) (hb : b < w.heap.size) (hm : zs.length ≤ maxLen)
    (hc : ∀ i, i < zs.length → w.cell? ⟨b, o + i, none⟩ = some (.int .u8 (zs.getD i 0))) (hr : ∀ i, 0 ≤ zs.getD i 0 ∧ zs.getD i 0 ≤ 255) :
    Calls Tryd.prog 23 #[.slice (some ⟨b, o, none⟩) zs.length cap] w fun e w' => e = .returned (.agg #[.int .u64 (ow (ofl zs) 0), .int .u64 (ow (ofl zs) 1), .int .u64 (ow (ofl zs) 2), .int .u64 (ow (ofl zs) 3)]) ∧ Below w.heap.size w w' := by
  unfold maxLen at hm
  have Hc := Lib.hid hc
  clear hc
  have Hr := Lib.hid hr
  clear hr
  go_enter Tryd.func23, Tryd.ntmps23
  go_wp2
  go_loopw [8] (fun i wr => ∃ k n : Nat, k ≤ zs.length ∧ i = .int .i64 k ∧ wr = ((w.alloc (.cells #[.int .u64 0, .int .u64 0, .int .u64 0, .int .u64 0] 57)).alloc (.cells #[.int .u64 (ow (ofl (zs.take k)) 0), .int .u64 (ow (ofl (zs.take k)) 1), .int .u64 (ow (ofl (zs.take k)) 2), .int .u64 (ow (ofl (zs.take k)) 3)] 57)).drewN n) (fun i _ => zs.length - (intOf i).toNat)
  case atStart => exact ⟨0, 0, Nat.zero_le _, rfl, by rw [World.drewN_zero, List.take_zero, ofl_nil, ow_zero, ow_zero, ow_zero, ow_zero]⟩
  case round =>
    obtain ⟨k, n, hk, rfl, rfl⟩ := hrel
    by_cases hlt : k < zs.length
    · have hcell := Hc.out k hlt
      have hrk := Hr.out k
      have hsn0 := ofl_snoc zs k hlt
      generalize zs.getD k 0 = z at hcell hrk hsn0
      have hsn := Lib.hid hsn0
      clear hsn0
      go_wp2_with (go_at_call 37; refine (add_any _ _ hrk.1 hrk.2 _ _ _ (by simp)).mono ?_; rintro e w' ⟨rfl, rfl⟩)
      go_roundw
      case rel => exact ⟨k + 1, n + 1, by omega, by go_num, by rw [hsn.out]⟩
      case measure => simp [intOf]; omega
    · go_wp2
      have hkz := Lib.hid (show zs.take k = zs from List.take_of_length_le (by omega))
      refine bodyPost_ret (v := .agg #[.int .u64 (ow (ofl (zs.take k)) 0), .int .u64 (ow (ofl (zs.take k)) 1), .int .u64 (ow (ofl (zs.take k)) 2), .int .u64 (ow (ofl (zs.take k)) 3)]) (by simp [results, Tryd.results23, go_sem]) rfl ⟨by rw [hkz.out], ?_⟩
      repeat (first | exact Below.refl _ _ | refine Below.drew ?_ | refine below_drewN ?_ _ | refine Below.setCell ?_ (by simp <;> omega) _ | refine Below.alloc ?_ (by simp <;> omega) _)

set_option maxHeartbeats 1000000 in
theorem of_nil (w : World) :
    Calls Tryd.prog 23 #[.slice none 0 0] w fun e w' => e = .returned (.agg #[.int .u64 (ow oz 0), .int .u64 (ow oz 1), .int .u64 (ow oz 2), .int .u64 (ow oz 3)]) ∧ Below w.heap.size w w' := by
  go_enter Tryd.func23, Tryd.ntmps23
  go_wp2
  refine wp_loop_rounds 1 ?_
  rw [rounds_succ]
  go_wp2
  refine bodyPost_ret (by simp [results, Tryd.results23, go_sem]; rfl) rfl ⟨by rw [ow_zero, ow_zero, ow_zero, ow_zero], ?_⟩
  repeat (first | exact Below.refl _ _ | refine Below.drew ?_ | refine below_drewN ?_ _ | refine Below.setCell ?_ (by simp <;> omega) _ | refine Below.alloc ?_ (by simp <;> omega) _)

set_option maxHeartbeats 1000000 in
theorem span_any (lo hi : Int) (w : World) (h0 : 0 ≤ lo) (h1 : lo ≤ 255) (h2 : 0 ≤ hi) (h3 : hi ≤ 255) :
    Calls Tryd.prog 44 #[.int .u8 lo, .int .u8 hi] w fun e w' => e = .returned (.agg #[.int .u64 (ow (oSpan lo hi) 0), .int .u64 (ow (oSpan lo hi) 1), .int .u64 (ow (oSpan lo hi) 2), .int .u64 (ow (oSpan lo hi) 3)]) ∧ Below w.heap.size w w' := by
  go_enter Tryd.func44, Tryd.ntmps44
  go_wp2
  go_loopw [13] (fun i wr => ∃ k n : Nat, k ≤ (hi - lo + 1).toNat ∧ i = .int .i64 k ∧ wr = ((w.alloc (.cells #[.int .u64 0, .int .u64 0, .int .u64 0, .int .u64 0] 57)).alloc (.cells #[.int .u64 (ow (ospan lo.toNat k) 0), .int .u64 (ow (ospan lo.toNat k) 1), .int .u64 (ow (ospan lo.toNat k) 2), .int .u64 (ow (ospan lo.toNat k) 3)] 57)).drewN n) (fun i _ => 256 - (intOf i).toNat)
  case atStart => exact ⟨0, 0, Nat.zero_le _, rfl, by rw [World.drewN_zero, ospan, ow_zero, ow_zero, ow_zero, ow_zero]⟩
  case round =>
    obtain ⟨k, n, hk, rfl, rfl⟩ := hrel
    by_cases hlt : (k : Int) < hi - lo + 1
    · go_wp2_with (go_at_call 37; refine (add_any _ _ (by omega) (by omega) _ _ _ (by simp)).mono ?_; rintro e w' ⟨rfl, rfl⟩)
      have hsn : ospan lo.toNat (k + 1) = ospan lo.toNat k ||| obit (lo + k).toNat := by
        rw [ospan, show lo.toNat + k = (lo + k).toNat by omega]
      go_roundw
      case rel => exact ⟨k + 1, n + 1, by omega, by go_num, by rw [hsn]⟩
      case measure => simp [intOf]; omega
    · have hkz := Lib.hid (show oSpan lo hi = ospan lo.toNat k from by unfold oSpan; rw [show (hi - lo + 1).toNat = k by omega])
      go_wp2
      refine bodyPost_ret (v := .agg #[.int .u64 (ow (ospan lo.toNat k) 0), .int .u64 (ow (ospan lo.toNat k) 1), .int .u64 (ow (ospan lo.toNat k) 2), .int .u64 (ow (ospan lo.toNat k) 3)]) (by simp [results, Tryd.results44, go_sem]) rfl ⟨by rw [hkz.out], ?_⟩
      repeat (first | exact Below.refl _ _ | refine Below.drew ?_ | refine below_drewN ?_ _ | refine Below.setCell ?_ (by simp <;> omega) _ | refine Below.alloc ?_ (by simp <;> omega) _)

/-- The four cells of a set. -/
def oc (s : OSet) : Array Value := #[.int .u64 (ow s 0), .int .u64 (ow s 1), .int .u64 (ow s 2), .int .u64 (ow s 3)]
theorem oblk_cells {w : World} {a : Nat} {s : OSet} {T : TypeId} (h : Blk w a (oc s) T) :
    w.cell? ⟨a, 0, none⟩ = some (.int .u64 (ow s 0)) ∧ w.cell? ⟨a, 1, none⟩ = some (.int .u64 (ow s 1)) ∧ w.cell? ⟨a, 2, none⟩ = some (.int .u64 (ow s 2)) ∧ w.cell? ⟨a, 3, none⟩ = some (.int .u64 (ow s 3)) :=
  ⟨by rw [h.cell]; rfl, by rw [h.cell]; rfl, by rw [h.cell]; rfl, by rw [h.cell]; rfl⟩
theorem oblk_store {w : World} {a : Nat} {s : OSet} {T : TypeId} (h : Blk w a (oc s) T) (t : OSet) :
    Blk ((((w.setCell ⟨a, 0, none⟩ (.int .u64 (ow t 0))).setCell ⟨a, 1, none⟩ (.int .u64 (ow t 1))).setCell ⟨a, 2, none⟩ (.int .u64 (ow t 2))).setCell ⟨a, 3, none⟩ (.int .u64 (ow t 3))) a (oc t) T := by
  have := (((h.set 0 (.int .u64 (ow t 0))).set 1 (.int .u64 (ow t 1))).set 2 (.int .u64 (ow t 2))).set 3 (.int .u64 (ow t 3))
  exact this

set_option maxHeartbeats 1000000 in
theorem rspan_any (lo hi : Int) (w : World) (h0 : 0 ≤ lo) (h1 : lo ≤ 255) (h2 : 0 ≤ hi) (h3 : hi ≤ 255) :
    Calls Tryd.prog 55 #[.int .u8 lo, .int .u8 hi] w fun e w' => e = .returned (.agg #[.int .u64 (ow (oSpan lo hi) 0), .int .u64 (ow (oSpan lo hi) 1), .int .u64 (ow (oSpan lo hi) 2), .int .u64 (ow (oSpan lo hi) 3)]) ∧ Below w.heap.size w w' := by
  go_enter Tryd.func55, Tryd.ntmps55
  go_wp2
  go_loopw [6] (fun i wr => ∃ k : Nat, (k = 0 ∨ (k : Int) ≤ hi - lo + 1) ∧ i = .int .i64 (lo + k) ∧ Below w.heap.size w wr ∧ Blk wr (w.heap.size + 1) (oc (ospan lo.toNat k)) 43 ∧ Blk wr w.heap.size (oc oz) 43) (fun i _ => (256 - intOf i).toNat)
  case atStart =>
    have hz : oc oz = #[.int .u64 0, .int .u64 0, .int .u64 0, .int .u64 0] := by unfold oc; rw [ow_zero, ow_zero, ow_zero, ow_zero]
    refine ⟨0, Or.inl rfl, by simp, ?_, ?_, ?_⟩
    · repeat (first | exact Below.refl _ _ | refine Below.alloc ?_ (by simp <;> omega) _)
    · rw [ospan, hz]
      exact Blk.new _ _ _ _ (by simp)
    · rw [hz]
      exact (Blk.new _ _ _ _ rfl).alloc _
  case round =>
    obtain ⟨k, hk, rfl, hbw, hblk, hres⟩ := hrel
    have hsz := hblk.lt
    obtain ⟨c0, c1, c2, c3⟩ := oblk_cells hblk
    by_cases hlt : lo + k ≤ hi
    · have hsn : ospan lo.toNat (k + 1) = ospan lo.toNat k ||| obit (lo + k).toNat := by
        rw [ospan, show lo.toNat + k = (lo + k).toNat by omega]
      have Hsn := Lib.hid hsn
      clear hsn
      go_wp2_with fail
      refine (with_any _ _ (by omega) (by omega) _).mono ?_
      rintro e w1 ⟨rfl, hb1⟩
      have hblk1 := hblk.below hb1 (by omega)
      have f0 := hblk1.frozen 0
      have f1 := hblk1.frozen 1
      have f2 := hblk1.frozen 2
      have f3 := hblk1.frozen 3
      obtain ⟨d0, d1, d2, d3⟩ := oblk_cells hblk1
      have hsz1 := hblk1.lt
      go_wp2
      go_roundw
      case rel =>
        refine ⟨k + 1, Or.inr (by omega), by go_num, ?_, ?_, ?_⟩
        · repeat (first | exact hbw.trans (hb1.mono (by omega)) | refine Below.setCell ?_ (by simp <;> omega) _)
        · rw [Hsn.out]; exact oblk_store hblk1 _
        · repeat (first | exact hres.below hb1 (by omega) | refine Blk.set_other ?_ _ (by simp) _)
      case measure => simp [intOf]; omega
    · have hkz : oSpan lo hi = ospan lo.toNat k := by
        unfold oSpan
        rcases hk with rfl | hk
        · rw [show (hi - lo + 1).toNat = 0 by omega]
        · rw [show (hi - lo + 1).toNat = k by omega]
      have Hkz := Lib.hid hkz
      clear hkz
      have f0 := hres.frozen 0
      have f1 := hres.frozen 1
      have f2 := hres.frozen 2
      have f3 := hres.frozen 3
      obtain ⟨d0, d1, d2, d3⟩ := oblk_cells hres
      go_wp2
      refine bodyPost_ret (by simp [results, Tryd.results55, go_sem, d0, d1, d2, d3]; rfl) rfl ⟨by rw [Hkz.out], ?_⟩
      repeat (first | exact hbw | refine Below.setCell ?_ (by simp <;> omega) _)




end Go.Proofs.YtbbcjclkklmoaaaDoor
