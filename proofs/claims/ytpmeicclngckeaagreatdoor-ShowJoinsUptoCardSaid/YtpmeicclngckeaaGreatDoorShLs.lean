/- ShowSets, walked. -/
import Derived.Test.YtpmeicclngckeaaGreatDoorShEW
import Derived.Deep.RegionHeld3
namespace Go.Proofs.YtpmeicclngckeaaGreatDoor
open Go Go.RowKit

theorem ba_of {S : ByteArray} {l : List UInt8} (h : S.data.toList = l) : S = ⟨l.toArray⟩ := by subst h; rfl
set_option maxRecDepth 100000 in
set_option maxHeartbeats 2000000 in
theorem showsets_any (s : OSet) (w : World) (hG : G6 w) : Calls Tryz.prog 3 #[.agg #[.int .u64 (ow s 0), .int .u64 (ow s 1), .int .u64 (ow s 2), .int .u64 (ow s 3)]] w fun e w' => e = .returned (.bool true) ∧ Below w.heap.size w w' := by
  have h0 := heldo_new w s 24
  obtain ⟨X, hX⟩ : ∃ X : ByteArray, X = ⟨(setT s).toArray⟩ := ⟨_, rfl⟩
  have hset : ∀ W, HeldO w w.heap.size s 24 W → Calls Tryz.prog 9 #[.agg #[.int .u64 (ow s 0), .int .u64 (ow s 1), .int .u64 (ow s 2), .int .u64 (ow s 3)]] W fun e w' => e = .returned (.string X) ∧ Below W.heap.size W w' := fun W h => by rw [hX]; exact shset_any s W (hG.up h.below).gl.tab (hG.up h.below).gt
  have hrset : ∀ W, Calls Tryz.prog 10 #[.agg #[.int .u64 (ow s 0), .int .u64 (ow s 1), .int .u64 (ow s 2), .int .u64 (ow s 3)]] W fun e w' => e = .returned (.string X) ∧ Below W.heap.size W w' := fun W => (rshset_any s W).mono fun e w' ⟨⟨S, he, hS⟩, hb⟩ => ⟨by rw [he, hX, ba_of hS], hb⟩
  have haw := awake6_any _ (hG.up h0.below)
  have hall0 := h0.all
  unfold oc at hall0 haw
  clear hG hX h0
  go_enter Tryz.func3, Tryz.ntmps3
  go_wp2_with fail
  refine haw.mono ?_
  rintro e w1 ⟨rfl, b1⟩
  have hall := reado_step b1 hall0
  clear haw hall0 b1
  go_upto_region 3 with fail
  go_region_held3 (fun w' => (w'.cell? ⟨w.heap.size, 0, none⟩ = some (.int .u64 (ow s 0)) ∧ w'.cell? ⟨w.heap.size, 1, none⟩ = some (.int .u64 (ow s 1)) ∧ w'.cell? ⟨w.heap.size, 2, none⟩ = some (.int .u64 (ow s 2)) ∧ w'.cell? ⟨w.heap.size, 3, none⟩ = some (.int .u64 (ow s 3))) ∧ HeldO w w.heap.size s 24 w') (first | with_reducible exact hall | with_reducible exact reado_step hbX (by assumption) | with_reducible exact reado_drew (by assumption))
    (first | (go_at_call 9; refine (hset _ (by go_split_ands; assumption)).mono ?_; rintro e w' ⟨rfl, hbX⟩) | (go_at_call 10; refine (hrset _).mono ?_; rintro e w' ⟨rfl, hbX⟩))
  go_wp2
  go_ret
  go_split_ands
  exact ⟨rfl, HeldO.below (by assumption)⟩
end Go.Proofs.YtpmeicclngckeaaGreatDoor
