/- The fixed fact that each law of layer 7 opens with; CodeLong. -/
import Derived.Test.YtjjhkagpoicimaaCbU
import Derived.Test.YtjjhkagpoicimaaCoMj
import Derived.Test.YtjjhkagpoicimaaOctW
namespace Go.Proofs.Ytjjhkagpoicimaa
open Go Go.RowKit

/-- A program's row as it is read. -/
theorem inst_cells {w : World} {B : Nat} {iv : Value} {l : List Inn} (h : w.ownsRow B 49 7 iv l.length (inF l)) (h0 : 0 < l.length) :
    ∃ q c, iv = .slice (some ⟨q, 0, none⟩) l.length c ∧ B ≤ q ∧ q < w.heap.size ∧ l.length ≤ c ∧ c ≤ maxLen ∧ ∀ j (hj : j < l.length) i, i < 7 → w.cell? ⟨q, j * 7 + i, none⟩ = (inC l[j])[i]? := by
  obtain ⟨h1, h2⟩ := h
  rcases h2 with ⟨_, h3⟩ | ⟨q, cap, cur, rfl, hB, hh, hn, hcap, hcs, htk⟩
  · omega
  · refine ⟨q, cap, rfl, hB, (Array.getElem?_eq_some_iff.1 hh).1, hn, hcap, fun j hj i hi => ?_⟩
    have hlt : j * 7 + i < l.length * 7 := by omega
    have h4 : w.cell? ⟨q, j * 7 + i, none⟩ = cur[j * 7 + i]? := by simp [World.cell?, hh]
    rw [h4, ← inF_take l j hj i hi, ← htk, List.getElem?_take_of_lt hlt, Array.getElem?_toList]
theorem compile_one (s : OSet) (w : World) : Calls Try.prog 9 #[.iface 55 (.agg #[.int .u64 (ow s 0), .int .u64 (ow s 1), .int .u64 (ow s 2), .int .u64 (ow s 3)])] w fun e w' => Below w.heap.size w w' ∧ ∃ q c, e = .returned (.tuple #[PrV (.slice (some ⟨q, 0, none⟩) 4 c) 0 0 false, .int .i64 0]) ∧ 4 ≤ c ∧
    w'.cell? ⟨q, 0, none⟩ = some (.int .i64 3) ∧ w'.cell? ⟨q, 7, none⟩ = some (.int .i64 0) ∧ w'.cell? ⟨q, 21, none⟩ = some (.int .i64 9) := by
  refine (compile_any (.one s) _ w ⟨1, rfl⟩ (by simp [nsize])).mono ?_
  rintro e w' ⟨hb, h | h | ⟨_, _, iv, rfl, ho⟩⟩
  · exact Bool.noConfusion (show true = false from h.1)
  · exact absurd h.2.1 (by simp [csz])
  · obtain ⟨q, c, rfl, _, _, hc, _, hcell⟩ := inst_cells ho (by rw [prg_len]; omega)
    exact ⟨hb, q, c, rfl, hc, hcell 0 (by rw [prg_len]; omega) 0 (by omega), hcell 1 (by rw [prg_len, csz]; omega) 0 (by omega), hcell 3 (by rw [prg_len, csz]; omega) 0 (by omega)⟩
set_option linter.unusedSimpArgs false in
set_option maxRecDepth 100000 in
set_option maxHeartbeats 4000000 in
theorem awake7_any (w : World) : Calls Try.prog 7 #[] w fun e w' => e = .returned (.bool true) ∧ Below w.heap.size w w' := by
  have hO := fun (w' : World) (b : Nat) (hb : b < w'.heap.size) (hc : w'.cell? ⟨b, 0, none⟩ = some (.int .u8 97)) => of_any [97] b 0 1 w' hb (by decide) (fun i hi => by
    obtain rfl : i = 0 := by simp at hi; exact hi
    exact hc) (fun i => by
    match i with
    | 0 => decide
    | i + 1 => simp)
  go_enter Try.func7, Try.ntmps7
  have hB1 := (Below.refl w.heap.size w).alloc (Nat.le_refl _) (.cells #[.int .u8 97] 5)
  have hC1 := hO (w.alloc (.cells #[.int .u8 97] 5)) w.heap.size (by simp) ((Blk.new w #[.int .u8 97] 5 _ rfl).cell 0)
  generalize ofl [97] = s at hC1
  have hC2 := compile_one s
  go_wp2_with (first
    | (go_at_call 15; refine hC1.mono ?_; rintro e w1 ⟨rfl, b1⟩)
    | (go_at_call 9; go_loud (refine (hC2 _).mono ?_; rintro e w2 ⟨b2, q, c, rfl, hc, c0, c1, c2⟩; have hq := World.block_lt_of_cell? _ _ c0; have hbA := (Below.refl w2.heap.size w2).alloc (Nat.le_refl _) (.cells #[.slice (some ⟨q, 0, none⟩) 4 c, .int .i64 0, .int .i64 0, .bool false] 32); have d0 := (hbA.cell (p := ⟨q, 0, none⟩) hq).trans c0; have d1 := (hbA.cell (p := ⟨q, 7, none⟩) hq).trans c1; have d2 := (hbA.cell (p := ⟨q, 21, none⟩) hq).trans c2)))
  go_ret
  refine ⟨rfl, ((hB1.trans (b1.mono hB1.size)).trans (b2.mono (Nat.le_trans hB1.size b1.size))).alloc (Nat.le_trans (Nat.le_trans hB1.size b1.size) b2.size) _⟩
end Go.Proofs.Ytjjhkagpoicimaa
