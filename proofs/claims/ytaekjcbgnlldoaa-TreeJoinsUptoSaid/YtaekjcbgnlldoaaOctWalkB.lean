/- Contracts of the calls on sets that go in rounds: Of, Span, OnesCount64, Len, and the document's own Span and Len. -/
import Derived.Test.YtaekjcbgnlldoaaOctWalkA
import Derived.Test.YtaekjcbgnlldoaaOctPop
import Derived.Test.YtaekjcbgnlldoaaBlk
namespace Go.Proofs.Ytaekjcbgnlldoaa
open Go.RowKit

set_option maxHeartbeats 1000000 in
theorem of_any (zs : List Int) (b o cap : Nat) (w : World) (hb : b < w.heap.size) (hm : zs.length ≤ maxLen)
    (hc : ∀ i, i < zs.length → w.cell? ⟨b, o + i, none⟩ = some (.int .u8 (zs.getD i 0))) (hr : ∀ i, 0 ≤ zs.getD i 0 ∧ zs.getD i 0 ≤ 255) :
    Calls Try.prog 26 #[.slice (some ⟨b, o, none⟩) zs.length cap] w fun e w' => e = .returned (.agg #[.int .u64 (ow (ofl zs) 0), .int .u64 (ow (ofl zs) 1), .int .u64 (ow (ofl zs) 2), .int .u64 (ow (ofl zs) 3)]) ∧ Below w.heap.size w w' := by
  unfold maxLen at hm
  have Hc := Lib.hid hc
  clear hc
  have Hr := Lib.hid hr
  clear hr
  go_enter Try.func26, Try.ntmps26
  go_wp2
  go_loopw [8] (fun i wr => ∃ k n : Nat, k ≤ zs.length ∧ i = .int .i64 k ∧ wr = ((w.alloc (.cells #[.int .u64 0, .int .u64 0, .int .u64 0, .int .u64 0] 46)).alloc (.cells #[.int .u64 (ow (ofl (zs.take k)) 0), .int .u64 (ow (ofl (zs.take k)) 1), .int .u64 (ow (ofl (zs.take k)) 2), .int .u64 (ow (ofl (zs.take k)) 3)] 46)).drewN n) (fun i _ => zs.length - (intOf i).toNat)
  case atStart => exact ⟨0, 0, Nat.zero_le _, rfl, by rw [World.drewN_zero, List.take_zero, ofl_nil, ow_zero, ow_zero, ow_zero, ow_zero]⟩
  case round =>
    obtain ⟨k, n, hk, rfl, rfl⟩ := hrel
    by_cases hlt : k < zs.length
    · have hcell := Hc.out k hlt
      have hrk := Hr.out k
      have hsn0 := ofl_snoc zs k hlt
      generalize zs.getD k 0 = z at hcell hrk hsn0
      have hsn := Lib.hid hsn0
      clear hsn0
      go_wp2_with (go_at_call 36; refine (add_any _ _ hrk.1 hrk.2 _ _ _ (by simp)).mono ?_; rintro e w' ⟨rfl, rfl⟩)
      go_roundw
      case rel => exact ⟨k + 1, n + 1, by omega, by go_num, by rw [hsn.out]⟩
      case measure => simp [intOf]; omega
    · go_wp2
      have hkz := Lib.hid (show zs.take k = zs from List.take_of_length_le (by omega))
      refine bodyPost_ret (v := .agg #[.int .u64 (ow (ofl (zs.take k)) 0), .int .u64 (ow (ofl (zs.take k)) 1), .int .u64 (ow (ofl (zs.take k)) 2), .int .u64 (ow (ofl (zs.take k)) 3)]) (by simp [results, Try.results26, go_sem]) rfl ⟨by rw [hkz.out], ?_⟩
      repeat (first | exact Below.refl _ _ | refine Below.drew ?_ | refine below_drewN ?_ _ | refine Below.setCell ?_ (by simp <;> omega) _ | refine Below.alloc ?_ (by simp <;> omega) _)

set_option maxHeartbeats 1000000 in
theorem of_nil (w : World) :
    Calls Try.prog 26 #[.slice none 0 0] w fun e w' => e = .returned (.agg #[.int .u64 (ow oz 0), .int .u64 (ow oz 1), .int .u64 (ow oz 2), .int .u64 (ow oz 3)]) ∧ Below w.heap.size w w' := by
  go_enter Try.func26, Try.ntmps26
  go_wp2
  refine wp_loop_rounds 1 ?_
  rw [rounds_succ]
  go_wp2
  refine bodyPost_ret (by simp [results, Try.results26, go_sem]; rfl) rfl ⟨by rw [ow_zero, ow_zero, ow_zero, ow_zero], ?_⟩
  repeat (first | exact Below.refl _ _ | refine Below.drew ?_ | refine below_drewN ?_ _ | refine Below.setCell ?_ (by simp <;> omega) _ | refine Below.alloc ?_ (by simp <;> omega) _)


/-- The four cells of a set. -/
def oc (s : OSet) : Array Value := #[.int .u64 (ow s 0), .int .u64 (ow s 1), .int .u64 (ow s 2), .int .u64 (ow s 3)]
theorem oblk_cells {w : World} {a : Nat} {s : OSet} {T : TypeId} (h : Blk w a (oc s) T) :
    w.cell? ⟨a, 0, none⟩ = some (.int .u64 (ow s 0)) ∧ w.cell? ⟨a, 1, none⟩ = some (.int .u64 (ow s 1)) ∧ w.cell? ⟨a, 2, none⟩ = some (.int .u64 (ow s 2)) ∧ w.cell? ⟨a, 3, none⟩ = some (.int .u64 (ow s 3)) :=
  ⟨by rw [h.cell]; rfl, by rw [h.cell]; rfl, by rw [h.cell]; rfl, by rw [h.cell]; rfl⟩
theorem oblk_store {w : World} {a : Nat} {s : OSet} {T : TypeId} (h : Blk w a (oc s) T) (t : OSet) :
    Blk ((((w.setCell ⟨a, 0, none⟩ (.int .u64 (ow t 0))).setCell ⟨a, 1, none⟩ (.int .u64 (ow t 1))).setCell ⟨a, 2, none⟩ (.int .u64 (ow t 2))).setCell ⟨a, 3, none⟩ (.int .u64 (ow t 3))) a (oc t) T := by
  have := (((h.set 0 (.int .u64 (ow t 0))).set 1 (.int .u64 (ow t 1))).set 2 (.int .u64 (ow t 2))).set 3 (.int .u64 (ow t 3))
  exact this





end Go.Proofs.Ytaekjcbgnlldoaa
