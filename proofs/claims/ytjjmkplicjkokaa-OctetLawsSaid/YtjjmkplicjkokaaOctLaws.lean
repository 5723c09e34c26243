/- The walk of OctetLaws: of any two sets it returns true; what was there stays as it was. -/
import Derived.Test.YtjjmkplicjkokaaOctHeld
import Derived.Deep.DeepCutAuto
namespace Go.Proofs.Ytjjmkplicjkokaa
open Go.RowKit


theorem oset_demorgan (s t : OSet) : ~~~(s &&& t) = ~~~s ||| ~~~t := by
  refine BitVec.eq_of_getLsbD_eq fun k hk => ?_
  simp [hk]
theorem oset_and_comm (s t : OSet) : t &&& s = s &&& t := BitVec.and_comm t s
theorem oset_or_comm (s t : OSet) : t ||| s = s ||| t := BitVec.or_comm t s

set_option maxRecDepth 100000 in
set_option maxHeartbeats 4000000 in
theorem laws_any (s t : OSet) (w : World) :
    Calls Try.prog 8 #[.agg #[.int .u64 (ow s 0), .int .u64 (ow s 1), .int .u64 (ow s 2), .int .u64 (ow s 3)], .agg #[.int .u64 (ow t 0), .int .u64 (ow t 1), .int .u64 (ow t 2), .int .u64 (ow t 3)]] w fun e w' => e = .returned (.bool true) ∧ Below w.heap.size w w' := by
  have hW0 := ((Below.refl w.heap.size w).alloc (Nat.le_refl _) (.cells (oc s) 24)).alloc (by simp) (.cells (oc t) 24)
  have hS := (Blk.new w (oc s) 24 _ rfl).alloc (.cells (oc t) 24)
  have hT := Blk.new (w.alloc (.cells (oc s) 24)) (oc t) 24 (w.heap.size + 1) (by simp)
  go_enter Try.func8, Try.ntmps8
  go_wp2_with fail
  refine (awake_any _).mono ?_
  rintro e w1 ⟨rfl, b1⟩
  replace hS := hS.below b1 hS.lt
  replace hT := hT.below b1 hT.lt
  have hW := hW0.trans (b1.mono hW0.size)
  clear hW0
  obtain ⟨c0, c1, c2, c3⟩ := oblk_cells hS
  obtain ⟨d0, d1, d2, d3⟩ := oblk_cells hT
  have l1 := hS.lt
  have l2 := hT.lt
  go_upto_region 3 with fail
  go_cut [5, 6] (fun s5 s6 wx => ∃ p7 p8 : Nat, s5 = .pointer (some ⟨p7, 0, none⟩) ∧ s6 = .pointer (some ⟨p8, 0, none⟩) ∧ Held4 w w.heap.size (w.heap.size + 1) p7 p8 s t 24 26 wx)
  case first =>
    go_region
    all_goals go_wp2_with fail
    all_goals go_meet
    · exact ⟨_, _, rfl, rfl, Held4.drew ⟨((hW.alloc hW.size _).alloc (hW.alloc hW.size _).size _), (hS.alloc _).alloc _, (hT.alloc _).alloc _, (Blk.new _ (oc s) 26 _ rfl).alloc _, Blk.new _ (oc t) 26 _ (by simp)⟩⟩
    · exact ⟨_, _, rfl, rfl, Held4.drew ⟨((hW.alloc hW.size _).alloc (hW.alloc hW.size _).size _), (hS.alloc _).alloc _, (hT.alloc _).alloc _, Blk.new _ (oc s) 26 _ (by simp), (Blk.new _ (oc t) 26 _ rfl).alloc _⟩⟩
  case rest =>
    clear c0 c1 c2 c3 d0 d1 d2 d3 hS hT hW
    obtain ⟨p7, p8, rfl, rfl, h4⟩ := hcut
    have e1 := oset_demorgan s t
    have e2 : IntKind.i64.wrap ((olen (s &&& t) : Int) + (olen (s ||| t) : Int)) = (olen s : Int) + (olen t : Int) := by
      have h1 := olen_and_or s t; have h2 := olen_le s; have h3 := olen_le t; rw [IntKind.wrap_i64]; omega
    have e2' : IntKind.i64.wrap ((olen s : Int) + (olen t : Int)) = (olen s : Int) + (olen t : Int) := by
      have h2 := olen_le s; have h3 := olen_le t; rw [IntKind.wrap_i64]; omega
    have e3 := oset_and_comm s t
    have e4 := oset_or_comm s t
    have e5 : IntKind.i64.wrap (256 - (olen s : Int)) = (olen (~~~s) : Int) := by
      have h1 := olen_not s; have h2 := olen_le s; rw [IntKind.wrap_i64]; omega
    have q := oset_eql
    have hall := h4.all
    go_wp2_with fail
    go_region_held3 (fun w' => (w'.cell? ⟨w.heap.size, 0, none⟩ = some (.int .u64 (ow s 0)) ∧ w'.cell? ⟨w.heap.size, 1, none⟩ = some (.int .u64 (ow s 1)) ∧ w'.cell? ⟨w.heap.size, 2, none⟩ = some (.int .u64 (ow s 2)) ∧ w'.cell? ⟨w.heap.size, 3, none⟩ = some (.int .u64 (ow s 3))) ∧ (w'.cell? ⟨(w.heap.size + 1), 0, none⟩ = some (.int .u64 (ow t 0)) ∧ w'.cell? ⟨(w.heap.size + 1), 1, none⟩ = some (.int .u64 (ow t 1)) ∧ w'.cell? ⟨(w.heap.size + 1), 2, none⟩ = some (.int .u64 (ow t 2)) ∧ w'.cell? ⟨(w.heap.size + 1), 3, none⟩ = some (.int .u64 (ow t 3))) ∧ (w'.cell? ⟨p7, 0, none⟩ = some (.int .u64 (ow s 0)) ∧ w'.cell? ⟨p7, 1, none⟩ = some (.int .u64 (ow s 1)) ∧ w'.cell? ⟨p7, 2, none⟩ = some (.int .u64 (ow s 2)) ∧ w'.cell? ⟨p7, 3, none⟩ = some (.int .u64 (ow s 3))) ∧ (w'.cell? ⟨p8, 0, none⟩ = some (.int .u64 (ow t 0)) ∧ w'.cell? ⟨p8, 1, none⟩ = some (.int .u64 (ow t 1)) ∧ w'.cell? ⟨p8, 2, none⟩ = some (.int .u64 (ow t 2)) ∧ w'.cell? ⟨p8, 3, none⟩ = some (.int .u64 (ow t 3))) ∧ Held4 w w.heap.size (w.heap.size + 1) p7 p8 s t 24 26 w')
      (first | exact hall | exact read4_step hbX (by assumption) | exact read4_drew (by assumption))
      (first | (go_at_call 12; refine (and_any _ _ _).mono ?_; rintro e w' ⟨rfl, hbX⟩) | (go_at_call 14; refine (or_any _ _ _).mono ?_; rintro e w' ⟨rfl, hbX⟩) | (go_at_call 16; refine (not_any _ _).mono ?_; rintro e w' ⟨rfl, hbX⟩) | (go_at_call 18; refine (len_any _ _).mono ?_; rintro e w' ⟨rfl, hbX⟩))
    go_wp2
    go_ret
    go_split_ands
    exact ⟨rfl, Held4.below (by assumption)⟩

end Go.Proofs.Ytjjmkplicjkokaa
