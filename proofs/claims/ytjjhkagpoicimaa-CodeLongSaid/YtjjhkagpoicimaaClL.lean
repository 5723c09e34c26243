/- CodeLong, walked. -/
import Derived.Test.YtjjhkagpoicimaaClA
namespace Go.Proofs.Ytjjhkagpoicimaa
open Go Go.RowKit

theorem long_right (s : OSet) (a b : Nat) (ha : a ≤ 255) (hb : b ≤ 255) : nrightB (.rep (.rep (.one s) a a) b b) = true := by
  have h1 : okRep (a : Int) (a : Int) = true := by unfold okRep; simp; omega
  have h2 : okRep (b : Int) (b : Int) = true := by unfold okRep; simp; omega
  simp [nrightB, nright, inRep, h1, h2]
/-- What Compile answers of a byte so many times so many times. -/
theorem compile_long (s : OSet) (a b : Nat) (ha : a ≤ 255) (hb : b ≤ 255) (w : World) : Calls Try.prog 9 #[.iface 57 (.agg #[.iface 57 (.agg #[.iface 55 (.agg #[.int .u64 (ow s 0), .int .u64 (ow s 1), .int .u64 (ow s 2), .int .u64 (ow s 3)]), .int .i64 (a : Int), .int .i64 (a : Int)]), .int .i64 (b : Int), .int .i64 (b : Int)])] w fun e w' => Below w.heap.size w w' ∧
    ((3000 < a * b + 3 ∧ e = .returned (.tuple #[PrV nilS 0 0 false, .int .i64 3])) ∨ (a * b + 3 ≤ 3000 ∧ ∃ iv c, e = .returned (.tuple #[PrV (.slice iv (a * b + 3) c) 0 0 false, .int .i64 0]))) := by
  obtain ⟨e1, e2⟩ := long_csz s a b
  refine (compile_any (.rep (.rep (.one s) a a) b b) _ w ⟨3, _, rfl, _, rfl, rfl⟩ (by simp [nsize])).mono ?_
  rintro e w' ⟨hb', h | ⟨_, h1, rfl⟩ | ⟨_, h1, iv, rfl, ho⟩⟩
  · rw [long_right s a b ha hb] at h; exact absurd h.1 (by decide)
  · rw [e1] at h1; exact ⟨hb', .inl ⟨h1, rfl⟩⟩
  · rw [e1] at h1
    obtain ⟨q, c, rfl⟩ := co_form ho
    rw [prg_len, e1, e2]
    exact ⟨hb', .inr ⟨h1, q, c, rfl⟩⟩
set_option linter.unusedSimpArgs false in
set_option maxRecDepth 100000 in
set_option maxHeartbeats 4000000 in
theorem codelong_any (a : Int) (a0 : 0 ≤ a) (a1 : a ≤ 255) (b : Int) (b0 : 0 ≤ b) (b1 : b ≤ 255) (w : World) : Calls Try.prog 5 #[.int .u8 a, .int .u8 b] w fun e w' => e = .returned (.bool true) ∧ Below w.heap.size w w' := by
  obtain ⟨m, rfl⟩ : ∃ m : Nat, a = m := ⟨a.toNat, by omega⟩
  obtain ⟨n, rfl⟩ : ∃ n : Nat, b = n := ⟨b.toNat, by omega⟩
  have hO := fun (w' : World) (b : Nat) (hb : b < w'.heap.size) (hc : w'.cell? ⟨b, 0, none⟩ = some (.int .u8 97)) => of_any [97] b 0 1 w' hb (by decide) (fun i hi => by
    obtain rfl : i = 0 := by simp at hi; exact hi
    exact hc) (fun i => by
    match i with
    | 0 => decide
    | i + 1 => simp)
  have hmn : m * n ≤ 255 * 255 := Nat.mul_le_mul (by omega) (by omega)
  have hC2 := fun s => compile_long s m n (by omega) (by omega)
  obtain ⟨Q, hQ⟩ : ∃ Q, m * n = Q := ⟨_, rfl⟩
  rw [hQ] at hmn
  simp only [hQ] at hC2
  have W1 : IntKind.i64.wrap ((m : Int) * (n : Int)) = (Q : Int) := by rw [← Int.natCast_mul, hQ, IntWalk.i64_in _ (by omega)]
  have W2 : IntKind.i64.wrap ((Q : Int) + 3) = (Q : Int) + 3 := IntWalk.i64_in _ (by omega)
  have W3 : IntKind.i64.wrap (m : Int) = (m : Int) := IntWalk.i64_in _ (by omega)
  have W4 : IntKind.i64.wrap (n : Int) = (n : Int) := IntWalk.i64_in _ (by omega)
  clear hQ hmn
  go_enter Try.func5, Try.ntmps5
  go_wp2_with fail
  refine (awake7_any _).mono ?_
  rintro e w0 ⟨rfl, b00⟩
  have hB1 := (Below.refl w0.heap.size w0).alloc (Nat.le_refl _) (.cells #[.int .u8 97] 5)
  have hC1 := hO (w0.alloc (.cells #[.int .u8 97] 5)) w0.heap.size (by simp) ((Blk.new w0 #[.int .u8 97] 5 _ rfl).cell 0)
  clear hO
  generalize ofl [97] = s at hC1
  go_upto_region 5 with (first
    | (go_at_call 15; refine hC1.mono ?_; clear hC1; rintro e w1 ⟨rfl, b1⟩; have hC := hC2 s w1; clear hC2)
    | (go_at_call 9; refine hC.mono ?_; clear hC; rintro e w2 ⟨b2, h2⟩; have b02 := Lib.hid (b00.trans (((hB1.trans (b1.mono hB1.size)).trans (b2.mono (Nat.le_trans hB1.size b1.size))).mono b00.size)); clear b1 b2 hB1 b00; rcases h2 with ⟨h1, rfl⟩ | ⟨h1, iv, c, rfl⟩))
  · have h3 : (3000 : Int) < (Q : Int) + 3 := by omega
    go_wp2_with fail
    go_ret
    exact ⟨rfl, b02.out.alloc (b02.out.size) _⟩
  · have h3 : ¬ (3000 : Int) < (Q : Int) + 3 := by omega
    go_wp2_with fail
    go_ret
    exact ⟨by simp, b02.out.alloc (b02.out.size) _⟩
end Go.Proofs.Ytjjhkagpoicimaa
