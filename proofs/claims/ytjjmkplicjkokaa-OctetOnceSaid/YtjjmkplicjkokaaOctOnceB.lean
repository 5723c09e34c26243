/- OctetOnce, of whatever slice. -/
import Derived.Test.YtjjmkplicjkokaaOctOnce
import Derived.OpenShut
namespace Go.Proofs.Ytjjmkplicjkokaa
open Go.RowKit


set_option maxHeartbeats 1000000 in
theorem of_empty (a : Option Addr) (cap : Nat) (w : World) :
    Calls Try.prog 20 #[.slice a 0 cap] w fun e w' => e = .returned (.agg #[.int .u64 (ow oz 0), .int .u64 (ow oz 1), .int .u64 (ow oz 2), .int .u64 (ow oz 3)]) ∧ Below w.heap.size w w' := by
  go_enter Try.func20, Try.ntmps20
  go_wp2
  refine wp_loop_rounds 1 ?_
  rw [rounds_succ]
  go_wp2
  refine bodyPost_ret (by simp [results, Try.results20, go_sem]; rfl) rfl ⟨by rw [ow_zero, ow_zero, ow_zero, ow_zero], ?_⟩
  repeat (first | exact Below.refl _ _ | refine Below.drew ?_ | refine below_drewN ?_ _ | refine Below.setCell ?_ (by simp <;> omega) _ | refine Below.alloc ?_ (by simp <;> omega) _)

theorem of_empty_s (a : Option Addr) (cap : Nat) (w : World) (s : OSet) (hs : oz = s) :
    Calls Try.prog 20 #[.slice a 0 cap] w fun e w' => e = .returned (.agg #[.int .u64 (ow s 0), .int .u64 (ow s 1), .int .u64 (ow s 2), .int .u64 (ow s 3)]) ∧ Below w.heap.size w w' := by
  subst hs
  exact of_empty a cap w
theorem oz_hasnt (k : Nat) : ohas oz k = false := by simp [ohas, oz]

set_option maxRecDepth 100000 in
set_option maxHeartbeats 4000000 in
theorem once_empty (a : Option Addr) (cap : Nat) (x : Int) (h0 : 0 ≤ x) (h1 : x ≤ 255) (w : World) :
    Calls Try.prog 7 #[.slice a 0 cap, .int .u8 x] w fun e w' => e = .returned (.bool true) ∧ Below w.heap.size w w' := by
  obtain ⟨s, Hs⟩ : ∃ s : OSet, Hid (oz = s) := ⟨oz, rfl⟩
  go_enter Try.func7, Try.ntmps7
  go_wp2_with fail
  refine (awake_any _).mono ?_
  rintro e w1 ⟨rfl, b1⟩
  have hW := b1
  go_wp2_with fail
  refine (of_empty_s a cap _ s Hs.out).mono ?_
  rintro e w2 ⟨rfl, b2⟩
  replace hW := hW.trans (b2.mono hW.size)
  have hB := Blk.new w2 (oc s) 26 _ rfl
  replace hW := hW.alloc hW.size (.cells (oc s) 26)
  clear b1 b2
  go_wp2
  refine wp_loop_rounds 1 ?_
  rw [rounds_succ]
  have r1 : ohas s x.toNat = false := by rw [← Hs.out]; exact oz_hasnt _
  have r3 : ohas (~~~s) x.toNat = true := by
    rw [← Hs.out]
    unfold ohas
    rw [BitVec.getLsbD_not]
    have : x.toNat < 256 := by omega
    simp [this, oz]
  have r4 := oset_not_not s
  have r5 := oset_and_not s
  have r6 := ow_zero
  have q := oset_eql
  have q0 := fun W => oset_eql oz oz W
  simp only [ow_zero, decide_true] at q0
  have hall := HeldO.all (w0 := w) (p := w2.heap.size) (g := w2.heap.size) (s := s) (ys := []) (U := 26) (w' := w2.alloc (.cells (oc s) 26)) ⟨hW, hB, hB.lt, fun i hi => by simp at hi⟩
  clear hB hW
  go_wp2_with fail
  go_region_held3 (fun w' => (w'.cell? ⟨w2.heap.size, 0, none⟩ = some (.int .u64 (ow s 0)) ∧ w'.cell? ⟨w2.heap.size, 1, none⟩ = some (.int .u64 (ow s 1)) ∧ w'.cell? ⟨w2.heap.size, 2, none⟩ = some (.int .u64 (ow s 2)) ∧ w'.cell? ⟨w2.heap.size, 3, none⟩ = some (.int .u64 (ow s 3))) ∧ HeldO w w2.heap.size w2.heap.size s [] 26 w')
    (first | exact hall | exact readO_step hbX (by assumption) | exact readO_drew (by assumption))
    (first | (go_at_call 10; refine (has_any _ _ h0 h1 _).mono ?_; rintro e w' ⟨rfl, hbX⟩) | (go_at_call 20; refine (of_none _ _ Hs.out).mono ?_; rintro e w' ⟨rfl, hbX⟩) | (go_at_call 16; refine (not_any _ _).mono ?_; rintro e w' ⟨rfl, hbX⟩) | (go_at_call 12; refine (and_any _ _ _).mono ?_; rintro e w' ⟨rfl, hbX⟩))
  go_wp2
  go_ret
  go_split_ands
  exact ⟨rfl, HeldO.below (by assumption)⟩

theorem once_long (a : Option Addr) (len cap : Nat) (x : Int) (w : World) (hl : 300 < len) :
    Calls Try.prog 7 #[.slice a len cap, .int .u8 x] w fun e w' => e = .returned (.bool true) ∧ Below w.heap.size w w' := by
  have hl' : (300 : Int) < (len : Int) := by omega
  go_enter Try.func7, Try.ntmps7
  go_wp2_with fail
  refine (awake_any _).mono ?_
  rintro e w1 ⟨rfl, b1⟩
  have hW := b1
  go_wp2_with fail
  refine (awake_any _).mono ?_
  rintro e w2 ⟨rfl, b2⟩
  replace hW := hW.trans (b2.mono hW.size)
  go_wp2
  go_ret
  exact ⟨rfl, hW⟩

theorem once_any (a : Option Addr) (len cap : Nat) (zs : List Int) (w : World) (hrow : IsRow .u8 w a len cap zs) (x : Int) (h0 : 0 ≤ x) (h1 : x ≤ 255) :
    Calls Try.prog 7 #[.slice a len cap, .int .u8 x] w fun e w' => e = .returned (.bool true) ∧ Below w.heap.size w w' := by
  by_cases hl : 300 < len
  · exact once_long a len cap x w hl
  · by_cases hz : len = 0
    · subst hz; exact once_empty a cap x h0 h1 w
    · rcases hrow with ⟨_, h2, _, _⟩ | ⟨ad, rfl, hlc, _, hzl, hc, hwf⟩
      · exact absurd h2 hz
      · obtain ⟨b, o, rfl, hc2⟩ := ints_at hc (by omega)
        have hb := World.block_lt_of_cell? w _ (hc2 0 (by omega))
        have hlen : (zs.take len).length = len := by rw [List.length_take]; omega
        have h := once_row (zs.take len) b o cap x h0 h1 w hb (by omega) (fun i hi => by
          rw [hc2 i (by omega)]
          simp only [List.getD]
          rw [List.getElem?_take_of_lt (by omega)]) (fun i => by
          simp only [List.getD]
          by_cases hi : i < len
          · rw [List.getElem?_take_of_lt hi]
            have := range_u8 hwf i
            exact this
          · rw [List.getElem?_eq_none (by omega)]; simp)
        rw [hlen] at h
        exact h
theorem once_all (a : Option Addr) (len cap : Nat) (zs : List Int) {w : World} (hrow : IsRow .u8 w a len cap zs) (x : Int) (h0 : 0 ≤ x) (h1 : x ≤ 255) :
    Calls Try.prog 7 #[.slice a len cap, .int .u8 x] w fun e w' => e = .returned (.bool true) ∧ Below w.heap.size w w' := once_any a len cap zs w hrow x h0 h1

end Go.Proofs.Ytjjmkplicjkokaa
