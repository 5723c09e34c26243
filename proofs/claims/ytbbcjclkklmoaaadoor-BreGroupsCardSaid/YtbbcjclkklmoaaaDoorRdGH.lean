/- RdG: A backslash and a byte: what makes an atom.
   RdH: The reader's atoms. -/
import Derived.Test.YtbbcjclkklmoaaaDoorRdF
import Derived.Deep.RegionLaw
import Derived.Test.YtbbcjclkklmoaaaDoorMaC
namespace Go.Proofs.YtbbcjclkklmoaaaDoor
open Go Go.RowKit

theorem mark_news (W : World) (m : Nat × Nat) (g : Nat) (hg : W.heap.size = g) : ∀ j u, (markC m)[j]? = some u → (W.alloc (.cells #[.int .i64 (m.1 : Int), .string ⟨#[92, UInt8.ofNat m.2]⟩] 39)).cell? ((⟨g, 0, none⟩ : Addr).add j) = some u := by
  have hb := Blk.new W #[.int .i64 (m.1 : Int), .string ⟨#[92, UInt8.ofNat m.2]⟩] 39 g hg.symm
  intro j u hu
  rw [Go.WideShapes.add_plain, Nat.zero_add, hb.cell j, ← Array.getElem?_toList]
  exact hu
/-- Bytes that only make an atom behind a backslash. -/
def PlainEsc (c : Nat) : Prop := c ≠ 40 ∧ ¬ (49 ≤ c ∧ c ≤ 57) ∧ c ≠ 43 ∧ c ≠ 63 ∧ c ≠ 123
set_option linter.unusedSimpArgs false in
set_option maxRecDepth 100000 in
set_option maxHeartbeats 4000000 in
theorem escd_form {B p : Nat} {s : ByteArray} {st : ReSt} {es : List Bool} {dep : Nat} {mv cv : Value} (w : World) (h : Rd B p w s (st.to (st.pos + 1)) es dep mv cv) (hlt : st.pos + 1 < s.size) (c : Nat) (hc0 : byt s.data.toList (st.pos + 1) = c) (hno : PlainEsc c) (hes : escSet c = none) :
    Calls Tryd.prog 99 #[.pointer (some ⟨p, 0, none⟩), .int .i64 (st.pos : Int)] w fun e w' => NdAns (.error (2, st.pos)) B p s dep mv cv w e w' := by
  have hps : st.pos + 1 ≤ s.size := h.pos; have hsm := h.small; obtain ⟨k, hk⟩ : ∃ k, k = st.pos + 1 := ⟨_, rfl⟩; rw [← hk] at h hps hlt; have hk1 : (k : Int) < (s.size : Int) := (by omega); have hb0 := pbyt_at s k hlt; have Wn : IntKind.i64.wrap ((k : Int) + 1) = ((k + 1 : Nat) : Int) := (by rw [IntWalk.i64_in _ (by omega)]; omega); have hgo : ∀ n, Rd B p ((w.drewN n).setCell ⟨p, 1, none⟩ (.int .i64 ((k : Int) + 1))) s (st.to (k + 1)) es dep mv cv ∧ RStep p w mv cv ((w.drewN n).setCell ⟨p, 1, none⟩ (.int .i64 ((k : Int) + 1))) mv cv := fun n => ⟨((h.below (below_drewN (Below.refl w.heap.size w) n)).goto (k + 1) (show k ≤ k + 1 by omega) (show k + 1 ≤ s.size by omega)).1, (RStep.of_below (below_drewN (Below.refl w.heap.size w) n)).trans ((h.below (below_drewN (Below.refl w.heap.size w) n)).goto (k + 1) (show k ≤ k + 1 by omega) (show k + 1 ≤ s.size by omega)).2⟩; obtain ⟨c0, c1, c2, c3, c4, z1, z2, z3, z4⟩ := h.cells; replace c1 : w.cell? ⟨p, 1, none⟩ = some (.int .i64 (k : Int)) := c1; have e0 : ((k : Int) == (s.size : Int)) = false := (by rw [beq_eq_false_iff_ne]; omega); have HK := Lib.hid hk; have HGO := Lib.hid hgo; have H := Lib.hid h; clear hk hgo h hps
  rw [← HK.out, hb0] at hc0
  obtain ⟨n1', n2', n3', n4', n5'⟩ := hno; have hc : s[k].toNat = c := hc0; have hc256 : c < 256 := (by rw [← hc]; exact UInt8.toNat_lt _)
  have e40 : ((s[k].toNat : Int) == 40) = false := by rw [hc, beq_eq_false_iff_ne]; omega
  have e49 : ((s[k].toNat : Int) == 49) = false := by rw [hc, beq_eq_false_iff_ne]; omega
  have e50 : ((s[k].toNat : Int) == 50) = false := by rw [hc, beq_eq_false_iff_ne]; omega
  have e51 : ((s[k].toNat : Int) == 51) = false := by rw [hc, beq_eq_false_iff_ne]; omega
  have e52 : ((s[k].toNat : Int) == 52) = false := by rw [hc, beq_eq_false_iff_ne]; omega
  have e53 : ((s[k].toNat : Int) == 53) = false := by rw [hc, beq_eq_false_iff_ne]; omega
  have e54 : ((s[k].toNat : Int) == 54) = false := by rw [hc, beq_eq_false_iff_ne]; omega
  have e55 : ((s[k].toNat : Int) == 55) = false := by rw [hc, beq_eq_false_iff_ne]; omega
  have e56 : ((s[k].toNat : Int) == 56) = false := by rw [hc, beq_eq_false_iff_ne]; omega
  have e57 : ((s[k].toNat : Int) == 57) = false := by rw [hc, beq_eq_false_iff_ne]; omega
  have e123 : ((s[k].toNat : Int) == 123) = false := by rw [hc, beq_eq_false_iff_ne]; omega
  have e43 : ((s[k].toNat : Int) == 43) = false := by rw [hc, beq_eq_false_iff_ne]; omega
  have e63 : ((s[k].toNat : Int) == 63) = false := by rw [hc, beq_eq_false_iff_ne]; omega
  have he := fun w => esc_any s[k].toNat (UInt8.toNat_lt _) w
  rw [hc] at he
  rw [hes, ← hc, show escV none = .tuple #[.agg #[.int .u64 0, .int .u64 0, .int .u64 0, .int .u64 0], .bool false, .bool false] from rfl] at he
  clear hc hc0 hes hb0 n1' n2' n3' n4' n5' hc256
  go_enter Tryd.func99, Tryd.ntmps99; go_wp2_with fail; go_quiet (fail); generalize nq = n1; go_wp2_with fail; go_quiet (fail); go_wp2_with fail
  refine (he _).mono ?_
  rintro e w1 ⟨rfl, b1⟩
  have hS1 := ((HGO.out (n1 + nq)).2.trans (RStep.of_below (p := p) (mv := mv) (cv := cv) b1))
  have hS2 := hS1.trans (RStep.of_below (p := p) (mv := mv) (cv := cv) ((Below.refl w1.heap.size w1).alloc (Nat.le_refl _) (.cells #[.int .u64 0, .int .u64 0, .int .u64 0, .int .u64 0] 57)))
  have HS2 := Lib.hid hS2
  clear hS1 hS2 b1
  go_wp2_with fail
  exact ⟨rfl, ndans_err rfl HS2.out rfl⟩
set_option linter.unusedSimpArgs false in
set_option maxRecDepth 100000 in
set_option maxHeartbeats 4000000 in
theorem escd_set {B p : Nat} {s : ByteArray} {st : ReSt} {es : List Bool} {dep : Nat} {mv cv : Value} (w : World) (h : Rd B p w s (st.to (st.pos + 1)) es dep mv cv) (hlt : st.pos + 1 < s.size) (c : Nat) (hc0 : byt s.data.toList (st.pos + 1) = c) (hno : PlainEsc c) (t : OSet) (hes : escSet c = some (t, false)) :
    Calls Tryd.prog 99 #[.pointer (some ⟨p, 0, none⟩), .int .i64 (st.pos : Int)] w fun e w' => NdAns (.ok (st.to (st.pos + 2), .one t)) B p s dep mv cv w e w' := by
  have hps : st.pos + 1 ≤ s.size := h.pos; have hsm := h.small; obtain ⟨k, hk⟩ : ∃ k, k = st.pos + 1 := ⟨_, rfl⟩; rw [← hk] at h hps hlt; have hk1 : (k : Int) < (s.size : Int) := (by omega); have hb0 := pbyt_at s k hlt; have Wn : IntKind.i64.wrap ((k : Int) + 1) = ((k + 1 : Nat) : Int) := (by rw [IntWalk.i64_in _ (by omega)]; omega); have hgo : ∀ n, Rd B p ((w.drewN n).setCell ⟨p, 1, none⟩ (.int .i64 ((k : Int) + 1))) s (st.to (k + 1)) es dep mv cv ∧ RStep p w mv cv ((w.drewN n).setCell ⟨p, 1, none⟩ (.int .i64 ((k : Int) + 1))) mv cv := fun n => ⟨((h.below (below_drewN (Below.refl w.heap.size w) n)).goto (k + 1) (show k ≤ k + 1 by omega) (show k + 1 ≤ s.size by omega)).1, (RStep.of_below (below_drewN (Below.refl w.heap.size w) n)).trans ((h.below (below_drewN (Below.refl w.heap.size w) n)).goto (k + 1) (show k ≤ k + 1 by omega) (show k + 1 ≤ s.size by omega)).2⟩; obtain ⟨c0, c1, c2, c3, c4, z1, z2, z3, z4⟩ := h.cells; replace c1 : w.cell? ⟨p, 1, none⟩ = some (.int .i64 (k : Int)) := c1; have e0 : ((k : Int) == (s.size : Int)) = false := (by rw [beq_eq_false_iff_ne]; omega); have HK := Lib.hid hk; have HGO := Lib.hid hgo; have H := Lib.hid h; clear hk hgo h hps
  rw [← HK.out, hb0] at hc0
  obtain ⟨n1', n2', n3', n4', n5'⟩ := hno; have hc : s[k].toNat = c := hc0; have hc256 : c < 256 := (by rw [← hc]; exact UInt8.toNat_lt _)
  have e40 : ((s[k].toNat : Int) == 40) = false := by rw [hc, beq_eq_false_iff_ne]; omega
  have e49 : ((s[k].toNat : Int) == 49) = false := by rw [hc, beq_eq_false_iff_ne]; omega
  have e50 : ((s[k].toNat : Int) == 50) = false := by rw [hc, beq_eq_false_iff_ne]; omega
  have e51 : ((s[k].toNat : Int) == 51) = false := by rw [hc, beq_eq_false_iff_ne]; omega
  have e52 : ((s[k].toNat : Int) == 52) = false := by rw [hc, beq_eq_false_iff_ne]; omega
  have e53 : ((s[k].toNat : Int) == 53) = false := by rw [hc, beq_eq_false_iff_ne]; omega
  have e54 : ((s[k].toNat : Int) == 54) = false := by rw [hc, beq_eq_false_iff_ne]; omega
  have e55 : ((s[k].toNat : Int) == 55) = false := by rw [hc, beq_eq_false_iff_ne]; omega
  have e56 : ((s[k].toNat : Int) == 56) = false := by rw [hc, beq_eq_false_iff_ne]; omega
  have e57 : ((s[k].toNat : Int) == 57) = false := by rw [hc, beq_eq_false_iff_ne]; omega
  have e123 : ((s[k].toNat : Int) == 123) = false := by rw [hc, beq_eq_false_iff_ne]; omega
  have e43 : ((s[k].toNat : Int) == 43) = false := by rw [hc, beq_eq_false_iff_ne]; omega
  have e63 : ((s[k].toNat : Int) == 63) = false := by rw [hc, beq_eq_false_iff_ne]; omega
  have he := fun w => esc_any s[k].toNat (UInt8.toNat_lt _) w
  rw [hc] at he
  rw [hes, ← hc, show escV (some (t, false)) = .tuple #[.agg #[.int .u64 (ow t 0), .int .u64 (ow t 1), .int .u64 (ow t 2), .int .u64 (ow t 3)], .bool false, .bool true] from rfl] at he
  clear hc hc0 hes hb0 n1' n2' n3' n4' n5' hc256
  go_enter Tryd.func99, Tryd.ntmps99; go_wp2_with fail; go_quiet (fail); generalize nq = n1; go_wp2_with fail; go_quiet (fail); go_wp2_with fail
  refine (he _).mono ?_
  rintro e w1 ⟨rfl, b1⟩
  have hR := (HGO.out (n1 + nq)).1
  rw [show k + 1 = st.pos + 2 by rw [HK.out]] at hR
  have hA := (Below.refl w1.heap.size w1).alloc (Nat.le_refl _) (.cells #[.int .u64 (ow t 0), .int .u64 (ow t 1), .int .u64 (ow t 2), .int .u64 (ow t 3)] 57)
  have HR := Lib.hid ((hR.below b1).below hA)
  have HS2 := Lib.hid (((HGO.out (n1 + nq)).2.trans (RStep.of_below (p := p) (mv := mv) (cv := cv) b1)).trans (RStep.of_below (p := p) (mv := mv) (cv := cv) hA))
  clear b1 hA hR
  go_wp2_with fail
  go_ret
  exact ndans_ok rfl HS2.out HR.out (ndoff_one _ _ _ _ _ _)
set_option linter.unusedSimpArgs false in
set_option maxRecDepth 100000 in
set_option maxHeartbeats 4000000 in
theorem escd_mark {B p : Nat} {s : ByteArray} {st : ReSt} {es : List Bool} {dep : Nat} {mv cv : Value} (w : World) (h : Rd B p w s (st.to (st.pos + 1)) es dep mv cv) (hlt : st.pos + 1 < s.size) (c : Nat) (hc0 : byt s.data.toList (st.pos + 1) = c) (hno : PlainEsc c) (t : OSet) (hes : escSet c = some (t, true)) :
    Calls Tryd.prog 99 #[.pointer (some ⟨p, 0, none⟩), .int .i64 (st.pos : Int)] w fun e w' => NdAns (.ok ((st.mark c).to (st.pos + 2), .one t)) B p s dep mv cv w e w' := by
  have hps : st.pos + 1 ≤ s.size := h.pos; have hsm := h.small; obtain ⟨k, hk⟩ : ∃ k, k = st.pos + 1 := ⟨_, rfl⟩; rw [← hk] at h hps hlt; have hk1 : (k : Int) < (s.size : Int) := (by omega); have hb0 := pbyt_at s k hlt; have Wn : IntKind.i64.wrap ((k : Int) + 1) = ((k + 1 : Nat) : Int) := (by rw [IntWalk.i64_in _ (by omega)]; omega); have hgo : ∀ n, Rd B p ((w.drewN n).setCell ⟨p, 1, none⟩ (.int .i64 ((k : Int) + 1))) s (st.to (k + 1)) es dep mv cv ∧ RStep p w mv cv ((w.drewN n).setCell ⟨p, 1, none⟩ (.int .i64 ((k : Int) + 1))) mv cv := fun n => ⟨((h.below (below_drewN (Below.refl w.heap.size w) n)).goto (k + 1) (show k ≤ k + 1 by omega) (show k + 1 ≤ s.size by omega)).1, (RStep.of_below (below_drewN (Below.refl w.heap.size w) n)).trans ((h.below (below_drewN (Below.refl w.heap.size w) n)).goto (k + 1) (show k ≤ k + 1 by omega) (show k + 1 ≤ s.size by omega)).2⟩; obtain ⟨c0, c1, c2, c3, c4, z1, z2, z3, z4⟩ := h.cells; replace c1 : w.cell? ⟨p, 1, none⟩ = some (.int .i64 (k : Int)) := c1; have e0 : ((k : Int) == (s.size : Int)) = false := (by rw [beq_eq_false_iff_ne]; omega); have HK := Lib.hid hk; have HGO := Lib.hid hgo; have H := Lib.hid h; clear hk hgo h hps
  rw [← HK.out, hb0] at hc0
  obtain ⟨n1', n2', n3', n4', n5'⟩ := hno; have hc : s[k].toNat = c := hc0; have hc256 : c < 256 := (by rw [← hc]; exact UInt8.toNat_lt _)
  have e40 : ((s[k].toNat : Int) == 40) = false := by rw [hc, beq_eq_false_iff_ne]; omega
  have e49 : ((s[k].toNat : Int) == 49) = false := by rw [hc, beq_eq_false_iff_ne]; omega
  have e50 : ((s[k].toNat : Int) == 50) = false := by rw [hc, beq_eq_false_iff_ne]; omega
  have e51 : ((s[k].toNat : Int) == 51) = false := by rw [hc, beq_eq_false_iff_ne]; omega
  have e52 : ((s[k].toNat : Int) == 52) = false := by rw [hc, beq_eq_false_iff_ne]; omega
  have e53 : ((s[k].toNat : Int) == 53) = false := by rw [hc, beq_eq_false_iff_ne]; omega
  have e54 : ((s[k].toNat : Int) == 54) = false := by rw [hc, beq_eq_false_iff_ne]; omega
  have e55 : ((s[k].toNat : Int) == 55) = false := by rw [hc, beq_eq_false_iff_ne]; omega
  have e56 : ((s[k].toNat : Int) == 56) = false := by rw [hc, beq_eq_false_iff_ne]; omega
  have e57 : ((s[k].toNat : Int) == 57) = false := by rw [hc, beq_eq_false_iff_ne]; omega
  have e123 : ((s[k].toNat : Int) == 123) = false := by rw [hc, beq_eq_false_iff_ne]; omega
  have e43 : ((s[k].toNat : Int) == 43) = false := by rw [hc, beq_eq_false_iff_ne]; omega
  have e63 : ((s[k].toNat : Int) == 63) = false := by rw [hc, beq_eq_false_iff_ne]; omega
  have he := fun w => esc_any s[k].toNat (UInt8.toNat_lt _) w
  rw [hc] at he
  have hcv : ∀ W : World, (convert 22 9 (.slice (some ⟨W.heap.size, 0, none⟩) 2 2)).run Tryd.prog (W.alloc (.cells #[.int .u8 92, .int .u8 (s[k].toNat : Int)] 5)).drew = .ok (.string ⟨#[92, UInt8.ofNat c]⟩) (W.alloc (.cells #[.int .u8 92, .int .u8 (s[k].toNat : Int)] 5)).drew := fun W => by
    rw [pconv2d W 92 (s[k].toNat : Int), hc]
    rfl
  obtain ⟨i0, hi, hz0, hz1, hz2⟩ := mark_info
  rw [hes, ← hc, show escV (some (t, true)) = .tuple #[.agg #[.int .u64 (ow t 0), .int .u64 (ow t 1), .int .u64 (ow t 2), .int .u64 (ow t 3)], .bool true, .bool true] from rfl] at he
  have hfew := H.out.few.1
  have hfew2 : st.marks.length ≤ k := hfew
  clear hc hc0 hes hb0 n1' n2' n3' n4' n5' hfew
  go_enter Tryd.func99, Tryd.ntmps99; go_wp2_with fail; go_quiet (fail); generalize nq = n1; go_wp2_with fail; go_quiet (fail); go_wp2_with fail
  refine (he _).mono ?_
  rintro e w1 ⟨rfl, b1⟩
  have hR := (HGO.out (n1 + nq)).1
  have HS1 := Lib.hid ((HGO.out (n1 + nq)).2.trans (RStep.of_below (p := p) (mv := mv) (cv := cv) b1))
  have hR1 := hR.below b1
  clear hR b1 c0 c1 c2 c3 c4 z1 z2 z3 z4
  have hA := (Below.refl w1.heap.size w1).alloc (Nat.le_refl _) (.cells #[.int .u64 (ow t 0), .int .u64 (ow t 1), .int .u64 (ow t 2), .int .u64 (ow t 3)] 57)
  have hRA := hR1.below hA
  have hPA := Blk.new w1 #[.int .u64 (ow t 0), .int .u64 (ow t 1), .int .u64 (ow t 2), .int .u64 (ow t 3)] 57 w1.heap.size rfl
  have HSA := Lib.hid (HS1.out.trans (RStep.of_below (p := p) (mv := mv) (cv := cv) hA))
  have hmq : mv.ownBlock ≠ some w1.heap.size := fun hv => by have := own_lt' hR1.mo _ hv; omega
  have hq2 : w1.heap.size < (w1.alloc (.cells #[.int .u64 (ow t 0), .int .u64 (ow t 1), .int .u64 (ow t 2), .int .u64 (ow t 3)] 57)).heap.size := by simp
  have hpq : w1.heap.size ≠ p := fun e => by have := hR1.blk.lt; omega
  have hpq2 : p ≠ w1.heap.size := fun e => hpq e.symm
  clear hA hR1
  go_upto_region 26 with fail
  generalize hw2 : w1.alloc (.cells #[.int .u64 (ow t 0), .int .u64 (ow t 1), .int .u64 (ow t 2), .int .u64 (ow t 3)] 57) = w2 at *
  generalize hq : w1.heap.size = q at *
  clear hw2 hq
  have hpl := hRA.blk.lt
  have hBp := hRA.bp
  obtain ⟨c0, c1, c2, c3, c4, z1, z2, z3, z4⟩ := hRA.cells
  have hcv2 := hcv w2
  have hv1 : ∀ u ∈ markC (st.pos, c), u.oneCell' = true := by intro u hu; simp [markC] at hu; rcases hu with rfl | rfl <;> rfl
  have hm1 : st.marks.length + 1 ≤ maxLen := by unfold maxLen; omega
  have hm2 : (st.marks.length + 1) * 24 ≤ 140737488355328 := by omega
  have HRA := Lib.hid hRA
  have HPA := Lib.hid hPA
  clear hcv
  clear hRA hPA
  go_region_law (first
    | (refine step_append_any rfl _ _ 26 rfl B 39 i0 (.agg #[.int .i64 0, .string ⟨#[]⟩]) 2 24 Tryd.underlying26 hi hz0 hz1 hz2 rfl (by decide) mv st.marks.length (marksC st.marks) rfl (nd_own_below HRA.out.mo (by repeat (first | (with_reducible exact Below.refl _ _) | refine Below.drew ?_ | refine below_drewN ?_ _ | refine Below.alloc ?_ (by first | omega | (simp; omega) | simp) _))) (some ⟨w2.heap.size + 1, 0, none⟩) 1 1 (markC (st.pos, c)) rfl rfl (fun _ => ⟨_, rfl, mark_news _ _ _ (by simp)⟩) hv1 hm1 hm2 (by simp; omega) ?_; intro v6 w6 hown6 hgrow6 hat6; have HM := Lib.hid ((HRA.out.below (by repeat (first | (with_reducible exact Below.refl _ _) | refine Below.drew ?_ | refine below_drewN ?_ _ | refine Below.alloc ?_ (by first | omega | (simp; omega) | simp) _))).mark (m := (st.pos, c)) hown6 hgrow6 hat6 (by show st.marks.length + 1 ≤ k + 1; omega)); have hfz : w6.frozen? ⟨p, 2, none⟩ = false := (hgrow6.frozen_far ⟨p, 2, none⟩ (by simp; omega) (fun e => HRA.out.mp e.symm)).trans ((HRA.out.below (by repeat (first | (with_reducible exact Below.refl _ _) | refine Below.drew ?_ | refine below_drewN ?_ _ | refine Below.alloc ?_ (by first | omega | (simp; omega) | simp) _))).blk.frozen 2); have hce : w6.cell? ⟨p, 2, none⟩ = some mv := (hgrow6.cell_far ⟨p, 2, none⟩ (by simp; omega) (fun e => HRA.out.mp e.symm)).trans (((HRA.out.below (by repeat (first | (with_reducible exact Below.refl _ _) | refine Below.drew ?_ | refine below_drewN ?_ _ | refine Below.alloc ?_ (by first | omega | (simp; omega) | simp) _))).blk.cell 2).trans rfl); have hs0 : w6.cell? ⟨q, 0, none⟩ = some (.int .u64 (ow t 0)) := (hgrow6.cell_far ⟨q, 0, none⟩ (by simp; omega) (fun e => hmq e.symm)).trans (((HPA.out.below (by repeat (first | (with_reducible exact Below.refl _ _) | refine Below.drew ?_ | refine below_drewN ?_ _ | refine Below.alloc ?_ (by first | omega | (simp; omega) | simp) _)) hq2).cell 0).trans rfl); have hs1 : w6.cell? ⟨q, 1, none⟩ = some (.int .u64 (ow t 1)) := (hgrow6.cell_far ⟨q, 1, none⟩ (by simp; omega) (fun e => hmq e.symm)).trans (((HPA.out.below (by repeat (first | (with_reducible exact Below.refl _ _) | refine Below.drew ?_ | refine below_drewN ?_ _ | refine Below.alloc ?_ (by first | omega | (simp; omega) | simp) _)) hq2).cell 1).trans rfl); have hs2 : w6.cell? ⟨q, 2, none⟩ = some (.int .u64 (ow t 2)) := (hgrow6.cell_far ⟨q, 2, none⟩ (by simp; omega) (fun e => hmq e.symm)).trans (((HPA.out.below (by repeat (first | (with_reducible exact Below.refl _ _) | refine Below.drew ?_ | refine below_drewN ?_ _ | refine Below.alloc ?_ (by first | omega | (simp; omega) | simp) _)) hq2).cell 2).trans rfl); have hs3 : w6.cell? ⟨q, 3, none⟩ = some (.int .u64 (ow t 3)) := (hgrow6.cell_far ⟨q, 3, none⟩ (by simp; omega) (fun e => hmq e.symm)).trans (((HPA.out.below (by repeat (first | (with_reducible exact Below.refl _ _) | refine Below.drew ?_ | refine below_drewN ?_ _ | refine Below.alloc ?_ (by first | omega | (simp; omega) | simp) _)) hq2).cell 3).trans rfl); obtain ⟨g, gcap, hv6, _, _⟩ := World.ownsRow.form hown6 (Nat.succ_pos _); subst hv6; clear hown6 hgrow6 hat6))
  all_goals
    go_wp2_with fail
    go_ret
    exact ndans_ok rfl ((HSA.out.trans (RStep.of_below (p := p) (mv := mv) (cv := cv) (by repeat (first | (with_reducible exact Below.refl _ _) | refine Below.drew ?_ | refine below_drewN ?_ _ | refine Below.alloc ?_ (by first | omega | (simp; omega) | simp) _)))).trans HM.out.2) (by have h9 := HM.out.1; rw [show st.to (k + 1) = st.to (st.pos + 2) by rw [HK.out]] at h9; exact h9) (ndoff_one _ _ _ _ _ _)
end Go.Proofs.YtbbcjclkklmoaaaDoor
namespace Go.Proofs.YtbbcjclkklmoaaaDoor
open Go Go.RowKit

theorem not_oz : (~~~oz : OSet) = oSpan 0 255 := by decide +kernel
/-- An atom, or a repetition at the front. -/
def atomF (s : List UInt8) (sub : Option (ReSt → ReRes (ReSt × Nd))) (front : Bool) (st : ReSt) : ReRes (ReSt × Nd) :=
  if front && (opAt false s st.pos 123 || opAt false s st.pos 43 || opAt false s st.pos 63) then .error (10, st.pos) else atomM false s sub st
theorem es_yes {s : List UInt8} {k c : Nat} (h : k + 1 < s.length) (h1 : byt s k = 92) (h2 : byt s (k + 1) = c) : esAt s k c = true := by
  unfold esAt; rw [decide_eq_true h, decide_eq_true h1, decide_eq_true h2]; rfl
theorem es_no {s : List UInt8} {k c : Nat} (h : byt s k ≠ 92 ∨ byt s (k + 1) ≠ c ∨ ¬ k + 1 < s.length) : esAt s k c = false := by
  unfold esAt
  rcases h with h | h | h
  · rw [decide_eq_false h]; simp
  · rw [decide_eq_false h]; simp
  · rw [decide_eq_false h]; simp
theorem ch_yes {s : List UInt8} {k c : Nat} (h : k < s.length) (h1 : byt s k = c) : chAt s k c = true := by
  unfold chAt; rw [decide_eq_true h, decide_eq_true h1]; rfl
theorem atomF_plain {s : List UInt8} {sub : Option (ReSt → ReRes (ReSt × Nd))} {front : Bool} {st : ReSt} (h : byt s st.pos ≠ 92) : atomF s sub front st =
    if chAt s st.pos 91 then (if (prs s ((st.pos : Int) + 1)).2.2 = 0 then .ok (st.to (prs s ((st.pos : Int) + 1)).2.1.toNat, .one (prs s ((st.pos : Int) + 1)).1) else .error ((prs s ((st.pos : Int) + 1)).2.2, (prs s ((st.pos : Int) + 1)).2.1.toNat))
    else if chAt s st.pos 46 then .ok (st.to (st.pos + 1), .one (oSpan 0 255)) else .ok (st.to (st.pos + 1), .one (oSpan (byt s st.pos) (byt s st.pos))) := by
  unfold atomF atomM opAt
  simp only [Bool.false_eq_true, if_false, es_no (.inl h), Bool.or_self, Bool.and_false, ch_no h]
theorem atomF_tail {s : List UInt8} {sub : Option (ReSt → ReRes (ReSt × Nd))} {front : Bool} {st : ReSt} (h : byt s st.pos = 92) (hl : st.pos < s.length) (h2 : ¬ st.pos + 1 < s.length) : atomF s sub front st = .error (11, st.pos) := by
  unfold atomF atomM opAt
  simp only [Bool.false_eq_true, if_false, es_no (.inr (.inr h2)), Bool.or_self, Bool.and_false, ch_yes hl h, ch_no (show byt s st.pos ≠ 91 by omega), ch_no (show byt s st.pos ≠ 46 by omega), if_true]
  rw [if_neg h2]
theorem atomF_grp {s : List UInt8} {sub : Option (ReSt → ReRes (ReSt × Nd))} {front : Bool} {st : ReSt} (h : byt s st.pos = 92) (h2 : st.pos + 1 < s.length) (hc : byt s (st.pos + 1) = 40) : atomF s sub front st = grpM false s sub st := by
  unfold atomF atomM opAt
  simp only [Bool.false_eq_true, if_false, es_yes h2 h hc, es_no (c := 123) (.inr (.inl (by omega : byt s (st.pos + 1) ≠ 123))), es_no (c := 43) (.inr (.inl (by omega : byt s (st.pos + 1) ≠ 43))), es_no (c := 63) (.inr (.inl (by omega : byt s (st.pos + 1) ≠ 63))), Bool.or_self, Bool.and_false, if_true]
theorem atomF_rep {s : List UInt8} {sub : Option (ReSt → ReRes (ReSt × Nd))} {st : ReSt} (h : byt s st.pos = 92) (h2 : st.pos + 1 < s.length) (hc : byt s (st.pos + 1) = 43 ∨ byt s (st.pos + 1) = 63 ∨ byt s (st.pos + 1) = 123) : atomF s sub true st = .error (10, st.pos) := by
  unfold atomF opAt
  simp only [Bool.false_eq_true, if_false]
  rcases hc with hc | hc | hc
  · rw [es_yes h2 h hc]; simp
  · rw [es_yes h2 h hc]; simp
  · rw [es_yes h2 h hc]; simp
theorem rep_found {s : List UInt8} {k : Nat} (h : byt s k = 92) (h2 : k + 1 < s.length) (hc : byt s (k + 1) = 43 ∨ byt s (k + 1) = 63 ∨ byt s (k + 1) = 123) : repAt false s k ≠ .none := by
  unfold repAt opAt
  simp only [Bool.false_eq_true, if_false, ch_no (show byt s k ≠ 42 by omega)]
  rcases hc with hc | hc | hc
  · rw [es_yes h2 h hc]; simp
  · rw [es_no (.inr (.inl (show byt s (k + 1) ≠ 43 by omega))), es_yes h2 h hc]; simp
  · rw [es_no (.inr (.inl (show byt s (k + 1) ≠ 43 by omega))), es_no (.inr (.inl (show byt s (k + 1) ≠ 63 by omega))), es_yes h2 h hc]
    simp only [Bool.false_eq_true, if_false, if_true]
    split <;> simp
theorem atomF_esc {s : List UInt8} {sub : Option (ReSt → ReRes (ReSt × Nd))} {front : Bool} {st : ReSt} {c : Nat} (h : byt s st.pos = 92) (h2 : st.pos + 1 < s.length) (hc : byt s (st.pos + 1) = c) (h40 : c ≠ 40) (h41 : c ≠ 41) (h43 : c ≠ 43) (h63 : c ≠ 63) (h123 : c ≠ 123) : atomF s sub front st = escM false st c := by
  have hl : st.pos < s.length := by omega
  unfold atomF atomM opAt
  simp only [Bool.false_eq_true, if_false, es_no (c := 123) (.inr (.inl (by rw [hc]; exact h123 : byt s (st.pos + 1) ≠ 123))), es_no (c := 43) (.inr (.inl (by rw [hc]; exact h43 : byt s (st.pos + 1) ≠ 43))), es_no (c := 63) (.inr (.inl (by rw [hc]; exact h63 : byt s (st.pos + 1) ≠ 63))), es_no (c := 40) (.inr (.inl (by rw [hc]; exact h40 : byt s (st.pos + 1) ≠ 40))), es_no (c := 41) (.inr (.inl (by rw [hc]; exact h41 : byt s (st.pos + 1) ≠ 41))), Bool.or_self, Bool.and_false, ch_yes hl h, ch_no (show byt s st.pos ≠ 91 by omega), ch_no (show byt s st.pos ≠ 46 by omega), if_true]
  rw [if_pos h2, hc]
/-- A backslash and what stands behind it. -/
theorem escaped_any {B p : Nat} {s : ByteArray} {st : ReSt} {es : List Bool} {dep : Nat} {mv cv : Value} (w : World) (h : Rd B p w s (st.to (st.pos + 1)) es dep mv cv) (hb : byt s.data.toList st.pos = 92) (front : Bool) (hfr : front = true ∨ repAt false s.data.toList st.pos = .none) (hen : endsAt s.data.toList st.pos = false)
    (sub : Option (ReSt → ReRes (ReSt × Nd))) (hG : Gl w) (hB : 3 ≤ B) (hfe : es.length ≤ st.pos) (hgr : GroupOk B p s st es dep sub) :
    Calls Tryd.prog 99 #[.pointer (some ⟨p, 0, none⟩), .int .i64 (st.pos : Int)] w fun e w' => NdAns (atomF s.data.toList sub front st) B p s dep mv cv w e w' := by
  have hsl : s.data.toList.length = s.size := by simp
  have hps : st.pos + 1 ≤ s.size := h.pos
  by_cases hlt : st.pos + 1 < s.size
  · have hl2 : st.pos + 1 < s.data.toList.length := by omega
    have h41 : byt s.data.toList (st.pos + 1) ≠ 41 := fun e => by
      unfold endsAt at hen
      rw [es_yes hl2 hb e] at hen
      simp at hen
    by_cases hg : byt s.data.toList (st.pos + 1) = 40
    · rw [atomF_grp hb hl2 hg]
      exact escd_grp w h hlt hg sub hG hB hfe hgr
    by_cases hr : byt s.data.toList (st.pos + 1) = 43 ∨ byt s.data.toList (st.pos + 1) = 63 ∨ byt s.data.toList (st.pos + 1) = 123
    · rcases hfr with rfl | hfr
      · rw [atomF_rep hb hl2 hr]
        exact escd_rep w h hlt hr
      · exact (rep_found hb hl2 hr hfr).elim
    · obtain ⟨c, hc⟩ : ∃ c, byt s.data.toList (st.pos + 1) = c := ⟨_, rfl⟩
      rw [hc] at h41 hg hr
      rw [atomF_esc hb hl2 hc hg h41 (by omega) (by omega) (by omega)]
      by_cases hd : 49 ≤ c ∧ c ≤ 57
      · exact escd_dig w h hlt c hc hd.1 hd.2
      · have hp : PlainEsc c := ⟨hg, hd, by omega, by omega, by omega⟩
        have he : escM false st c = match escSet c with
            | none => .error (2, st.pos)
            | some (t, m) => .ok ((if m then st.mark c else st).to (st.pos + 2), .one t) := by
          unfold escM
          rw [if_neg hd]
          cases escSet c with
          | none => rfl
          | some q => obtain ⟨t, m⟩ := q; rfl
        rw [he]
        cases hs : escSet c with
        | none => exact escd_form w h hlt c hc hp hs
        | some q =>
          obtain ⟨t, m⟩ := q
          cases m with
          | false => exact escd_set w h hlt c hc hp t hs
          | true => exact escd_mark w h hlt c hc hp t hs
  · rw [atomF_tail hb (by omega) (by omega)]
    exact escd_tail w h (by omega)
end Go.Proofs.YtbbcjclkklmoaaaDoor
