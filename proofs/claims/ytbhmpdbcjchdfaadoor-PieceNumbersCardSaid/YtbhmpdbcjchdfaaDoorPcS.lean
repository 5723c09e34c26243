/- The document's own answers of layer 11, walked: blanks, space, numbers, lines. -/
import Derived.Test.YtbhmpdbcjchdfaaDoorPcR
namespace Go.Proofs.YtbhmpdbcjchdfaaDoor
open Go.RowKit

theorem rblanks_any (s : ByteArray) (a : Int) (w : World) (hs : s.size ≤ 4000000) :
    Calls Tryd.prog 12 #[.string s, .int .i64 a] w fun e w' => e = .returned (.int .i64 (pcBehind [32, 9] s.data.toList a : Nat)) ∧ Below w.heap.size w w' := by
  have hB : Calls Tryd.prog 24 #[.string s, .int .i64 a, .string ⟨#[32, 9]⟩] w fun e w' => e = .returned (.int .i64 (pcBehind [32, 9] s.data.toList a : Nat)) ∧ Below w.heap.size w w' := by
    by_cases h : 0 ≤ a ∧ a ≤ (s.size : Int)
    · obtain ⟨k, rfl⟩ : ∃ k : Nat, a = k := ⟨a.toNat, by omega⟩
      rw [pcBehind_at _ _ _ (by rw [← size_list]; omega)]
      exact rbehind_at s ⟨#[32, 9]⟩ k w hs (by omega) (by decide)
    · rw [pcBehind_no _ _ _ (by rw [← size_list]; exact h)]
      have hP := over_yes s a w h
      go_enter Tryd.func24, Tryd.ntmps24
      clear h
      go_wp2_with (go_at_call 23; refine hP.mono ?_; rintro e w' ⟨rfl, rfl⟩)
      go_ret
      exact ⟨rfl, Below.refl _ _⟩
  generalize pcBehind [32, 9] s.data.toList a = r at hB ⊢
  go_enter Tryd.func12, Tryd.ntmps12
  go_wp2_with (go_at_call 24; refine hB.mono ?_; rintro e w1 ⟨rfl, hb⟩)
  go_ret
  exact ⟨rfl, hb⟩
theorem rspace_any (s : ByteArray) (a : Int) (w : World) (hs : s.size ≤ 4000000) :
    Calls Tryd.prog 14 #[.string s, .int .i64 a] w fun e w' => e = .returned (.int .i64 (pcBehind [32, 9, 10, 59] s.data.toList a : Nat)) ∧ Below w.heap.size w w' := by
  have hB : Calls Tryd.prog 24 #[.string s, .int .i64 a, .string ⟨#[32, 9, 10, 59]⟩] w fun e w' => e = .returned (.int .i64 (pcBehind [32, 9, 10, 59] s.data.toList a : Nat)) ∧ Below w.heap.size w w' := by
    by_cases h : 0 ≤ a ∧ a ≤ (s.size : Int)
    · obtain ⟨k, rfl⟩ : ∃ k : Nat, a = k := ⟨a.toNat, by omega⟩
      rw [pcBehind_at _ _ _ (by rw [← size_list]; omega)]
      exact rbehind_at s ⟨#[32, 9, 10, 59]⟩ k w hs (by omega) (by decide)
    · rw [pcBehind_no _ _ _ (by rw [← size_list]; exact h)]
      have hP := over_yes s a w h
      go_enter Tryd.func24, Tryd.ntmps24
      clear h
      go_wp2_with (go_at_call 23; refine hP.mono ?_; rintro e w' ⟨rfl, rfl⟩)
      go_ret
      exact ⟨rfl, Below.refl _ _⟩
  generalize pcBehind [32, 9, 10, 59] s.data.toList a = r at hB ⊢
  go_enter Tryd.func14, Tryd.ntmps14
  go_wp2_with (go_at_call 24; refine hB.mono ?_; rintro e w1 ⟨rfl, hb⟩)
  go_ret
  exact ⟨rfl, hb⟩

/-- The number once j digits are read. -/
theorem pcNum_gt {L : List UInt8} {k : Nat} (h : 9 < pcIs pcDigits (L.drop k)) : pcNum L k = (0, k, 3) := by unfold pcNum; simp only; rw [if_neg (by omega), if_pos h]
theorem pcNum_ok {L : List UInt8} {k j : Nat} (h : pcIs pcDigits (L.drop k) = j) (h0 : ¬ j = 0) (h9 : j ≤ 9) : pcNum L k = (pcVal ((L.drop k).take j), k + j, 0) := by unfold pcNum; simp only; rw [h, if_neg h0, if_neg (by omega)]
theorem pcNum_zero {L : List UInt8} {k : Nat} (h : pcIs pcDigits (L.drop k) = 0) : pcNum L k = (0, k, 2) := by unfold pcNum; simp only; rw [h, if_pos rfl]

set_option maxHeartbeats 4000000 in
theorem rnumber_at (s : ByteArray) (k : Nat) (w : World) (hs : s.size ≤ 4000000) (hk : k ≤ s.size) :
    Calls Tryd.prog 10 #[.string s, .int .i64 k] w fun e w' => e = ans3 (pcNum s.data.toList k) ∧ Below w.heap.size w w' := by
  have hP := over_no s k w hk
  obtain ⟨R, hR⟩ : ∃ R, pcNum s.data.toList k = R := ⟨_, rfl⟩
  rw [hR]
  have HR := Lib.hid hR
  clear hR
  go_enter Tryd.func10, Tryd.ntmps10
  go_wp2_with (go_at_call 23; refine hP.mono ?_; rintro e w' ⟨rfl, rfl⟩)
  clear hP
  go_loopw [7, 8] (fun n a wr => ∃ j : Nat, k + j ≤ s.size ∧ j ≤ 9 ∧ a = .int .i64 ((k + j : Nat) : Int) ∧ n = .int .i64 (pcVal ((s.data.toList.drop k).take j) : Nat) ∧ pcIs pcDigits (s.data.toList.drop k) = j + pcIs pcDigits (s.data.toList.drop (k + j)) ∧ pcVal ((s.data.toList.drop k).take j) < 10 ^ j ∧ wr = w') (fun _ a _ => s.size - (intOf a).toNat)
  case atStart => exact ⟨0, by omega, by omega, rfl, rfl, by simp, by simp [pcVal], rfl⟩
  case round =>
    obtain ⟨j, hj, hj9, rfl, rfl, hcount, hval, rfl⟩ := hrel
    obtain ⟨v, hv⟩ : ∃ v, pcVal ((s.data.toList.drop k).take j) = v := ⟨_, rfl⟩
    rw [hv] at hval ⊢
    have hv9 : v < 1000000000 := Nat.lt_of_lt_of_le hval (Nat.pow_le_pow_right (by omega) hj9)
    have Hval := Lib.hid hval
    have Hv := Lib.hid hv
    have Hc := Lib.hid hcount
    clear hval hv hcount
    obtain ⟨p, hp⟩ : ∃ p, k + j = p := ⟨_, rfl⟩
    rw [hp] at Hc hj ⊢
    have Hp := Lib.hid hp
    have hji : IntKind.i64.wrap ((p : Int) - (k : Int)) = (j : Int) := by rw [IntWalk.i64_in _ (by omega)]; omega
    have stop : pcIs pcDigits (s.data.toList.drop p) = 0 → ∀ e, e = (if j = 0 then (0, k, 2) else (v, p, 0) : Nat × Nat × Nat) → R = e := fun h e he => by
      have hc := Hc.out
      rw [h] at hc
      rw [he, ← HR.out]
      by_cases h0 : j = 0
      · rw [if_pos h0]; exact pcNum_zero (by omega)
      · rw [if_neg h0, pcNum_ok (j := j) (by omega) h0 hj9, Hv.out, Hp.out]
    by_cases hlt : p < s.size
    · have hlti : (p : Int) < (s.size : Int) := by omega
      have hx256 := s[p].toNat_lt
      cases hdg : pcDigits.contains s[p] with
      | true =>
        have Hs := Lib.hid (pcLen_atYes (p := fun b => pcDigits.contains b) hlt hdg)
        rw [pcDigits_iff] at hdg
        simp only [Bool.and_eq_true, decide_eq_true_eq] at hdg
        have g1 : (48 : Int) ≤ (s[p].toNat : Int) := by omega
        have g2 : (s[p].toNat : Int) ≤ 57 := by omega
        by_cases h9 : j = 9
        · have q9 : ((j : Int) == 9) = true := by rw [h9]; rfl
          have H9 := Lib.hid h9
          clear h9 hdg stop hp
          go_wp2
          go_ret3
          refine ⟨?_, Below.refl _ _⟩
          rw [← HR.out, pcNum_gt (by have := Hc.out; have h2 := Hs.out; have h3 := H9.out; unfold pcIs at this ⊢; omega)]
          rfl
        · have q9 : ((j : Int) == 9) = false := beq_eq_false_iff_ne.2 (by omega)
          have W1 : IntKind.i64.wrap ((v : Int) * 10) = (v : Int) * 10 := IntWalk.i64_in _ (by omega)
          have Wp : IntKind.i64.wrap ((p : Int) + 1) = (p : Int) + 1 := IntWalk.i64_in _ (by omega)
          have hx : (s.data.toList.drop k)[j]? = some s[p] := by rw [List.getElem?_drop, hp]; exact Lib.data_getElem? s p hlt
          have hnv : pcVal ((s.data.toList.drop k).take (j + 1)) = v * 10 + (s[p].toNat - 48) := by
            rw [List.take_add_one, hx, Option.toList_some, pcVal_snoc, Hv.out]
          have Hnv := Lib.hid hnv
          clear hnv hx stop hp
          have W2 : IntKind.i64.wrap ((v : Int) * 10 + ((s[p].toNat : Int) - 48)) = (v : Int) * 10 + ((s[p].toNat : Int) - 48) := IntWalk.i64_in _ (by omega)
          go_wp2
          go_roundw
          case rel =>
            refine ⟨j + 1, by have := Hp.out; omega, by omega, congrArg (Value.int .i64) (by have := Hp.out; omega), ?_, ?_, ?_, by first | rfl | trivial⟩
            · rw [Hnv.out]; exact congrArg (Value.int .i64) (by omega)
            · have := Hc.out; have h2 := Hs.out; have h3 := Hp.out; unfold pcIs at this ⊢; rw [show k + (j + 1) = p + 1 by omega]; omega
            · rw [Hnv.out]; have := Hval.out; rw [Nat.pow_succ]; omega
          case measure => simp [intOf]; omega
      | false =>
        have hz : pcIs pcDigits (s.data.toList.drop p) = 0 := pcLen_atNo (p := fun b => pcDigits.contains b) hlt hdg
        have Hst := Lib.hid (stop hz)
        rw [pcDigits_iff] at hdg
        clear stop hz
        by_cases g1 : (48 : Int) ≤ (s[p].toNat : Int)
        · have g2 : ¬ (s[p].toNat : Int) ≤ 57 := fun h => by
            rw [decide_eq_true (by omega), decide_eq_true (by omega)] at hdg; cases hdg
          clear hdg
          by_cases h0 : j = 0
          · have qp : ((p : Int) == (k : Int)) = true := beq_iff_eq.2 (by have := Hp.out; omega)
            have H0 := Lib.hid h0
            clear h0 hp
            go_wp2
            go_ret3
            exact ⟨by rw [Hst.out _ rfl, if_pos H0.out]; rfl, Below.refl _ _⟩
          · have qp : ((p : Int) == (k : Int)) = false := beq_eq_false_iff_ne.2 (by have := Hp.out; omega)
            have H0 := Lib.hid h0
            clear h0 hp
            go_wp2
            go_ret3
            exact ⟨by rw [Hst.out _ rfl, if_neg H0.out]; rfl, Below.refl _ _⟩
        · clear hdg
          by_cases h0 : j = 0
          · have qp : ((p : Int) == (k : Int)) = true := beq_iff_eq.2 (by have := Hp.out; omega)
            have H0 := Lib.hid h0
            clear h0 hp
            go_wp2
            go_ret3
            exact ⟨by rw [Hst.out _ rfl, if_pos H0.out]; rfl, Below.refl _ _⟩
          · have qp : ((p : Int) == (k : Int)) = false := beq_eq_false_iff_ne.2 (by have := Hp.out; omega)
            have H0 := Lib.hid h0
            clear h0 hp
            go_wp2
            go_ret3
            exact ⟨by rw [Hst.out _ rfl, if_neg H0.out]; rfl, Below.refl _ _⟩
    · have hlti : ¬ (p : Int) < (s.size : Int) := by omega
      have hz : pcIs pcDigits (s.data.toList.drop p) = 0 := pcLen_atEnd _ (by omega)
      have Hst := Lib.hid (stop hz)
      clear stop hz
      by_cases h0 : j = 0
      · have qp : ((p : Int) == (k : Int)) = true := beq_iff_eq.2 (by have := Hp.out; omega)
        have H0 := Lib.hid h0
        clear h0 hp
        go_wp2
        go_ret3
        exact ⟨by rw [Hst.out _ rfl, if_pos H0.out]; rfl, Below.refl _ _⟩
      · have qp : ((p : Int) == (k : Int)) = false := beq_eq_false_iff_ne.2 (by have := Hp.out; omega)
        have H0 := Lib.hid h0
        clear h0 hp
        go_wp2
        go_ret3
        exact ⟨by rw [Hst.out _ rfl, if_neg H0.out]; rfl, Below.refl _ _⟩
theorem rnumber_no (s : ByteArray) (a : Int) (w : World) (h : ¬ (0 ≤ a ∧ a ≤ (s.size : Int))) :
    Calls Tryd.prog 10 #[.string s, .int .i64 a] w fun e w' => e = ans3 (0, 0, 1) ∧ Below w.heap.size w w' := by
  have hP := over_yes s a w h
  clear h
  go_enter Tryd.func10, Tryd.ntmps10
  go_wp2_with (go_at_call 23; refine hP.mono ?_; rintro e w' ⟨rfl, rfl⟩)
  go_ret3
  exact ⟨rfl, Below.refl _ _⟩

theorem extract_one' (s : ByteArray) (k : Nat) (h : k < s.size) : s.extract k (k + 1) = txt [s[k]] := by
  refine ByteArray.ext ?_
  have hk : k < s.data.size := h
  simp only [ByteArray.data_extract, txt]
  refine Array.ext (by simp; omega) fun i h1 h2 => ?_
  simp at h2
  subst h2
  simp
  rfl

set_option maxHeartbeats 4000000 in
set_option maxRecDepth 1000000 in
theorem rlines_at (s : ByteArray) (k : Nat) (w : World) (hs : s.size ≤ 4000000) (hk : k ≤ s.size) :
    Calls Tryd.prog 16 #[.string s, .int .i64 k] w fun e w' => e = pcA (pcLin (s.data.toList.drop k) k []) ∧ Below w.heap.size w w' := by
  have hP := over_no s k w hk
  obtain ⟨R, hR⟩ : ∃ R, pcLin (s.data.toList.drop k) k [] = R := ⟨_, rfl⟩
  rw [hR]
  have HR := Lib.hid hR
  clear hR
  go_enter Tryd.func16, Tryd.ntmps16
  go_wp2_with (go_at_call 23; refine hP.mono ?_; rintro e w' ⟨rfl, rfl⟩)
  clear hP
  go_loopw [1, 7] (fun i o wr => ∃ (p : Nat) (acc : List UInt8), p ≤ s.size ∧ i = .int .i64 p ∧ o = .string (txt acc) ∧ acc.length ≤ p ∧ pcLin (s.data.toList.drop p) p acc = R ∧ wr = w') (fun i _ _ => s.size - (intOf i).toNat)
  case atStart => exact ⟨k, [], hk, rfl, rfl, by simp, HR.out, rfl⟩
  case round =>
    obtain ⟨p, acc, hp, rfl, rfl, hal, hacc, rfl⟩ := hrel
    have HA := Lib.hid hacc
    clear hacc
    have hts : (txt acc).size ≤ 4000000 := by rw [txt_size]; omega
    by_cases hlt : p < s.size
    · have hlti : (p : Int) < (s.size : Int) := by omega
      have Hd := Lib.hid (drop_at s p hlt)
      by_cases h10 : s[p] = 10
      · have q10 : ((s[p].toNat : Int) != 10) = false := by rw [h10]; rfl
        have Hx := Lib.hid h10
        clear h10
        have hmn : IntKind.i64.wrap ((p : Int) + 1) = (p : Int) + 1 := IntWalk.i64_in _ (by omega)
        go_wp2
        go_ret3
        refine ⟨?_, Below.refl _ _⟩
        rw [← HA.out, Hd.out, Hx.out, pcLin_nl]
        exact pcA_mk (txt_append acc [10]) (by show min ((p : Int) + 1) (s.size : Int) = ((p + 1 : Nat) : Int); omega) rfl
      · have q10 : ((s[p].toNat : Int) != 10) = true := bne_iff_ne.2 fun h => h10 (UInt8.toNat_inj.1 (by show s[p].toNat = 10; omega))
        have H10 := Lib.hid h10
        clear h10
        have hmn : IntKind.i64.wrap ((p : Int) + 1) = (p : Int) + 1 := IntWalk.i64_in _ (by omega)
        by_cases h92 : s[p] = 92
        · have q92 : ((s[p].toNat : Int) == 92) = true := by rw [h92]; rfl
          have Hx := Lib.hid h92
          clear h92
          by_cases hend : p + 1 = s.size
          · have qe : ((p : Int) + 1 == (s.size : Int)) = true := beq_iff_eq.2 (by omega)
            have Hde := Lib.hid (drop_end s (p + 1) (by omega))
            have hm3 : IntKind.i64.wrap ((p : Int) + 1 - 1) = (p : Int) := by rw [IntWalk.i64_in _ (by omega)]; omega
            clear hend
            go_wp2
            go_ret3
            refine ⟨?_, Below.refl _ _⟩
            rw [← HA.out, Hd.out, Hx.out, Hde.out, pcLin_tail]
            exact pcA_mk rfl (by first | rfl | (show (p : Int) + 1 - 1 = (p : Int); omega)) rfl
          · have qe : ((p : Int) + 1 == (s.size : Int)) = false := beq_eq_false_iff_ne.2 (by omega)
            have hlt2 : p + 1 < s.size := by omega
            have hlt2i : (p : Int) + 1 < (s.size : Int) := by omega
            have Hde := Lib.hid (drop_at s (p + 1) hlt2)
            have hmn2 : IntKind.i64.wrap ((p : Int) + 1 + 1) = (p : Int) + 1 + 1 := IntWalk.i64_in _ (by omega)
            have Hex := Lib.hid (extract_one' s (p + 1) hlt2)
            have hes : (s.extract (p + 1) (p + 1 + 1)).size = 1 := by rw [Hex.out, txt_size]; rfl
            go_wp2
            go_roundw
            case rel =>
              refine ⟨p + 2, acc ++ [s[p + 1]], by omega, by go_num, by rw [Hex.out, txt_append], by simp; omega, by rw [← HA.out, Hd.out, Hx.out, Hde.out, pcLin_bs], by first | rfl | trivial⟩
            case measure => simp [intOf]; omega
        · have q92 : ((s[p].toNat : Int) == 92) = false := beq_eq_false_iff_ne.2 fun h => h92 (UInt8.toNat_inj.1 (by show s[p].toNat = 92; omega))
          have H92 := Lib.hid h92
          clear h92
          have Hex := Lib.hid (extract_one' s p hlt)
          have hes : (s.extract p (p + 1)).size = 1 := by rw [Hex.out, txt_size]; rfl
          go_wp2
          go_roundw
          case rel =>
            refine ⟨p + 1, acc ++ [s[p]], by omega, by go_num, by rw [Hex.out, txt_append], by simp; omega, by rw [← HA.out, Hd.out, pcLin_else _ _ _ _ H10.out H92.out], by first | rfl | trivial⟩
          case measure => simp [intOf]; omega
    · have hlti : ¬ (p : Int) < (s.size : Int) := by omega
      have Hd := Lib.hid (drop_end s p (by omega))
      have hmn : IntKind.i64.wrap ((p : Int) + 1) = (p : Int) + 1 := IntWalk.i64_in _ (by omega)
      go_wp2
      go_ret3
      refine ⟨?_, Below.refl _ _⟩
      rw [← HA.out, Hd.out, pcLin]
      exact pcA_mk (txt_append acc [10]) (by show min ((p : Int) + 1) (s.size : Int) = (p : Int); omega) rfl
theorem rlines_no (s : ByteArray) (a : Int) (w : World) (h : ¬ (0 ≤ a ∧ a ≤ (s.size : Int))) :
    Calls Tryd.prog 16 #[.string s, .int .i64 a] w fun e w' => e = pcA ([], 0, 1) ∧ Below w.heap.size w w' := by
  have hP := over_yes s a w h
  clear h
  go_enter Tryd.func16, Tryd.ntmps16
  go_wp2_with (go_at_call 23; refine hP.mono ?_; rintro e w' ⟨rfl, rfl⟩)
  go_ret3
  exact ⟨rfl, Below.refl _ _⟩
end Go.Proofs.YtbhmpdbcjchdfaaDoor
