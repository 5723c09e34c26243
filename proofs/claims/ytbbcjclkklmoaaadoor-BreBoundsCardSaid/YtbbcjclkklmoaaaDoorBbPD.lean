/- BbP: An interval behind one byte, as the program reads it: mathematics.
   BbD: The statement BreBounds, walked: a number's digits. -/
import Derived.Test.YtbbcjclkklmoaaaDoorRdOP
import Derived.Test.YtbbcjclkklmoaaaDoorMaC
import Derived.Test.YtbbcjclkklmoaaaDoorBreAwake
namespace Go.Proofs.YtbbcjclkklmoaaaDoor

theorem past_ch (s : List UInt8) (k b : Nat) (h : s.length ≤ k) : chAt s k b = false := by unfold chAt; rw [decide_eq_false (by omega)]; rfl
theorem past_es (s : List UInt8) (k b : Nat) (h : s.length ≤ k) : esAt s k b = false := by unfold esAt; rw [decide_eq_false (by omega)]; rfl
/-- What one byte and an interval begin with. -/
theorem bnd_rep (U : List UInt8) (sub : Option (ReSt → ReRes (ReSt × Nd))) : pieceM (97 :: 92 :: 123 :: U) sub true reZero = repM false (97 :: 92 :: 123 :: U) ((97 :: 92 :: 123 :: U).length + 1) (reZero.to 1) (.one (oSpan 97 97)) := by
  have hb : byt (97 :: 92 :: 123 :: U) 0 = 97 := rfl
  unfold pieceM
  rw [show chAt (97 :: 92 :: 123 :: U) reZero.pos 36 = false from ch_no (by rw [show reZero.pos = 0 from rfl, hb]; decide)]
  simp only [Bool.false_and, Bool.false_eq_true, if_false]
  rw [atomF_plain (show byt (97 :: 92 :: 123 :: U) reZero.pos ≠ 92 by rw [show reZero.pos = 0 from rfl, hb]; decide)]
  rw [show chAt (97 :: 92 :: 123 :: U) reZero.pos 91 = false from ch_no (by rw [show reZero.pos = 0 from rfl, hb]; decide), show chAt (97 :: 92 :: 123 :: U) reZero.pos 46 = false from ch_no (by rw [show reZero.pos = 0 from rfl, hb]; decide)]
  rfl
theorem bnd_at (U : List UInt8) : chAt (97 :: 92 :: 123 :: U) 1 42 = false ∧ esAt (97 :: 92 :: 123 :: U) 1 43 = false ∧ esAt (97 :: 92 :: 123 :: U) 1 63 = false ∧ esAt (97 :: 92 :: 123 :: U) 1 123 = true := by
  have h1 : byt (97 :: 92 :: 123 :: U) 1 = 92 := rfl
  have h2 : byt (97 :: 92 :: 123 :: U) (1 + 1) = 123 := rfl
  refine ⟨ch_no (by omega), es_no (.inr (.inl (by omega))), es_no (.inr (.inl (by omega))), es_yes (by simp) h1 h2⟩
theorem bnd_start (U : List UInt8) : endsAt (97 :: 92 :: 123 :: U) reZero.pos = false ∧ (chAt (97 :: 92 :: 123 :: U) reZero.pos 94 && decide (reZero.pos = reZero.pos)) = false := by
  have h0 : byt (97 :: 92 :: 123 :: U) 0 = 97 := rfl
  refine ⟨?_, ?_⟩
  · unfold endsAt
    rw [show reZero.pos = 0 from rfl, es_no (.inl (by omega)), es_no (.inl (by omega)), decide_eq_false (by simp)]
    rfl
  · rw [show reZero.pos = 0 from rfl, show chAt (97 :: 92 :: 123 :: U) 0 94 = false from ch_no (by omega)]
    rfl
theorem bnd_intv (U : List UInt8) : intv false (97 :: 92 :: 123 :: U) 3 = (ivl (ivclo false) U).map fun q => (q.1, q.2.1, 3 + q.2.2) := by rw [intv_at]; rfl
theorem bound_bad (U : List UInt8) (hU : 3 + U.length ≤ 250) (h : ivl (ivclo false) U = none) : parseM false (97 :: 92 :: 123 :: U) = .error (7, 1) := by
  obtain ⟨h1, h2, h3, h4⟩ := bnd_at U
  obtain ⟨g1, g2⟩ := bnd_start U
  have hi : intv false (97 :: 92 :: 123 :: U) (1 + 2) = none := by rw [show 1 + 2 = 3 from rfl, bnd_intv, h]; rfl
  rw [parse_shut _ _ (by simp; omega), choice_eq, branch_step _ _ _ _ _ _ _ g1 g2, bnd_rep, repM_succ _ _ _ _ (by omega)]
  rw [show repAt false (97 :: 92 :: 123 :: U) (reZero.to 1).pos = .bad from rep_bad h1 h2 h3 h4 hi]
  rfl
theorem bound_ok (U : List UInt8) (hU : 3 + U.length ≤ 250) (m n : Int) (h : ivl (ivclo false) U = some (m, n, U.length)) : parseM false (97 :: 92 :: 123 :: U) = .ok (⟨3 + U.length, 0, [], []⟩, .rep (.one (oSpan 97 97)) m n) := by
  obtain ⟨h1, h2, h3, h4⟩ := bnd_at U
  obtain ⟨g1, g2⟩ := bnd_start U
  have hl : (97 :: 92 :: 123 :: U).length = 3 + U.length := by simp; omega
  have hi : intv false (97 :: 92 :: 123 :: U) (1 + 2) = some (m, n, 3 + U.length) := by rw [show 1 + 2 = 3 from rfl, bnd_intv, h]; rfl
  have hp : repM false (97 :: 92 :: 123 :: U) ((97 :: 92 :: 123 :: U).length + 1) (reZero.to 1) (.one (oSpan 97 97)) = .ok (reZero.to (3 + U.length), .rep (.one (oSpan 97 97)) m n) := by
    rw [repM_succ _ _ _ _ (by omega), show repAt false (97 :: 92 :: 123 :: U) (reZero.to 1).pos = .some m n 0 (3 + U.length) from rep_intv h1 h2 h3 h4 hi]
    simp only [if_true]
    rw [repM_succ _ _ _ _ (by omega)]
    rw [show repAt false (97 :: 92 :: 123 :: U) ((reZero.to 1).to (3 + U.length)).pos = .none from rep_none (past_ch _ _ _ (by rw [hl]; exact Nat.le_refl _)) (past_es _ _ _ (by rw [hl]; exact Nat.le_refl _)) (past_es _ _ _ (by rw [hl]; exact Nat.le_refl _)) (past_es _ _ _ (by rw [hl]; exact Nat.le_refl _))]
    rfl
  rw [parse_shut _ _ (by omega), choice_eq, branch_step _ _ _ _ _ _ _ g1 g2, bnd_rep, hp]
  simp only
  have he : endsAt (97 :: 92 :: 123 :: U) (reZero.to (3 + U.length)).pos = true := by
    unfold endsAt
    rw [show (reZero.to (3 + U.length)).pos = 3 + U.length from rfl, decide_eq_true (by omega)]
    rfl
  rw [hl, show 3 + U.length = (2 + U.length) + 1 by omega, branch_end _ _ _ _ _ _ _ (by rw [show (2 + U.length) + 1 = 3 + U.length by omega]; exact he)]
  simp only
  unfold chTail
  rw [show esAt (97 :: 92 :: 123 :: U) (reZero.to (2 + U.length + 1)).pos 124 = false from past_es _ _ _ (by rw [hl]; show 3 + U.length ≤ 2 + U.length + 1; omega)]
  simp only [Bool.false_eq_true, if_false]
  unfold shutR
  simp only [opAt, Bool.false_eq_true, if_false]
  rw [show esAt (97 :: 92 :: 123 :: U) (reZero.to (2 + U.length + 1)).pos 41 = false from past_es _ _ _ (by rw [hl]; show 3 + U.length ≤ 2 + U.length + 1; omega)]
  rfl
end Go.Proofs.YtbbcjclkklmoaaaDoor
namespace Go.Proofs.YtbbcjclkklmoaaaDoor
open Go Go.RowKit

theorem dec_short : ∀ n : Nat, (dec n).length ≤ n + 1 := by
  intro n
  induction n using Nat.strongRecOn with
  | ind n ih =>
    by_cases h : n < 10
    · rw [dec_small n h]; simp
    · rw [dec_big n h, List.length_append]
      have := ih (n / 10) (by omega)
      simp
      omega
theorem digit_text : ∀ n : Nat, n < 10 → ((ByteArray.mk #[48, 49, 50, 51, 52, 53, 54, 55, 56, 57]).extract n (n + 1)).data.toList = [UInt8.ofNat (48 + n)] := by decide
set_option linter.unusedSimpArgs false in
set_option maxRecDepth 100000 in
set_option maxHeartbeats 1000000 in
theorem digits_small (n : Nat) (h : n < 10) (w : World) : Calls Tryd.prog 21 #[.int .i64 (n : Int)] w fun e w' => ∃ t : ByteArray, e = .returned (.string t) ∧ t.data.toList = dec n ∧ w = w' := by
  have e1 : decide ((n : Int) < 10) = true := by simp; omega
  have e2 : decide (n < 10) = true := decide_eq_true h
  have Wn : IntKind.i64.wrap ((n : Int) + 1) = ((n + 1 : Nat) : Int) := by rw [IntWalk.i64_in _ (by omega)]; omega
  have h1 : (0 : Int) ≤ (n : Int) := by omega
  have h2 : ((n + 1 : Nat) : Int) ≤ 10 := by omega
  have h3 : (n : Int) ≤ ((n + 1 : Nat) : Int) := by omega
  have HT := Lib.hid (digit_text n h)
  have HD := Lib.hid (dec_small n h)
  go_enter Tryd.func21, Tryd.ntmps21
  go_wp2_with fail
  go_ret
  exact ⟨_, rfl, HT.out.trans HD.out.symm, rfl⟩
set_option linter.unusedSimpArgs false in
set_option maxRecDepth 100000 in
set_option maxHeartbeats 1000000 in
theorem digits_any : ∀ n : Nat, n ≤ 65535 → ∀ w, Calls Tryd.prog 21 #[.int .i64 (n : Int)] w fun e w' => ∃ t : ByteArray, e = .returned (.string t) ∧ t.data.toList = dec n ∧ w = w' := by
  intro n
  induction n using Nat.strongRecOn with
  | ind n ih =>
    intro hn w
    by_cases h : n < 10
    · exact digits_small n h w
    · have e1 : decide ((n : Int) < 10) = false := by simp; omega
      have e2 : decide (n < 10) = false := decide_eq_false h
      have hq := ih (n / 10) (by omega) (by omega)
      have hr := ih (n % 10) (by omega) (by omega)
      have hq' : ∀ w, Calls Tryd.prog 21 #[.int .i64 ((n : Int) / 10)] w fun e w' => ∃ t : ByteArray, e = .returned (.string t) ∧ t.data.toList = dec (n / 10) ∧ w = w' := hq
      have hr' : ∀ w, Calls Tryd.prog 21 #[.int .i64 ((n : Int) % 10)] w fun e w' => ∃ t : ByteArray, e = .returned (.string t) ∧ t.data.toList = dec (n % 10) ∧ w = w' := hr
      have HD := Lib.hid (dec_big n h)
      have HS := Lib.hid (dec_small (n % 10) (by omega))
      have HL := Lib.hid (dec_short (n / 10))
      have HL2 := Lib.hid (dec_short (n % 10))
      clear ih h hq hr
      go_enter Tryd.func21, Tryd.ntmps21
      go_wp2_with fail
      refine (hq' _).mono ?_
      rintro e w1 ⟨t1, rfl, ht1, rfl⟩
      have HT1 := Lib.hid ht1
      have hs1 : t1.size ≤ n / 10 + 1 := by have := HL.out; rw [← ht1] at this; simpa using this
      clear ht1 hq'
      go_wp2_with fail
      refine (hr' _).mono ?_
      rintro e w2 ⟨t2, rfl, ht2, rfl⟩
      have HT2 := Lib.hid ht2
      have hs2 : t2.size ≤ n % 10 + 1 := by have := HL2.out; rw [← ht2] at this; simpa using this
      clear ht2 hr'
      have hs3 : t1.size + t2.size ≤ 65537 := by omega
      go_wp2_with fail
      go_ret
      exact ⟨_, rfl, by rw [ByteArray.data_append, Array.toList_append, HT1.out, HT2.out, HD.out, HS.out], rfl⟩
end Go.Proofs.YtbbcjclkklmoaaaDoor
