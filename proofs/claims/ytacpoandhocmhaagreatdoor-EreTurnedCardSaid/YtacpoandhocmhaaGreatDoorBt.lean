/- BtMQ: BtM: Plain mathematics: a text that tells bytes, one behind the other, is a regex of just these.
   BqM: Plain mathematics: bytes, each told as it must be, tell just these.
   BtBP: BtB: The statements' question whether a node is just some bytes, walked.
   BtP: The statement BrePlain, walked. -/
import Derived.Test.YtacpoandhocmhaaGreatDoorRdMP
import Derived.Test.YtacpoandhocmhaaGreatDoorNdPrS
import Derived.Test.YtacpoandhocmhaaGreatDoorMaA
import Derived.Test.YtacpoandhocmhaaGreatDoorBreAwake
import Derived.Test.YtacpoandhocmhaaGreatDoorOctOpen
import Derived.OpenShut
namespace Go.Proofs.YtacpoandhocmhaaGreatDoor

/-- From a place on a text tells just these bytes. -/
inductive Tells (s : List UInt8) : Nat → List Nat → Prop where
  | done : Tells s s.length []
  | step (k j b : Nat) (l : List Nat) (hk : k < j) (hen : endsAt s k = false) (h94 : chAt s k 94 = false)
      (hp : ∀ (sub : Option (ReSt → ReRes (ReSt × Nd))) (front : Bool) (st : ReSt), st.pos = k → pieceM s sub front st = .ok (st.to j, .one (oSpan b b))) (hr : Tells s j l) : Tells s k (b :: l)
def oneOf (b : Nat) : Nd := .one (oSpan b b)
theorem tells_le {s : List UInt8} {k : Nat} {l : List Nat} (h : Tells s k l) : k ≤ s.length := by
  induction h with
  | done => exact Nat.le_refl _
  | step k j b l hk hen h94 hp hr ih => omega
theorem ends_end (s : List UInt8) : endsAt s s.length = true := by unfold endsAt; rw [decide_eq_true (Nat.le_refl _)]; rfl
theorem tells_branch {s : List UInt8} (sub : Option (ReSt → ReRes (ReSt × Nd))) (begin : Nat) {k : Nat} {l : List Nat} (h : Tells s k l) : ∀ (n : Nat) (st : ReSt) (parts : List Nd) (front : Bool), st.pos = k → s.length < n + k →
    branchM false s sub false begin n st parts front = .ok (st.to s.length, njoin (parts ++ l.map oneOf)) := by
  induction h with
  | done =>
    intro n st parts front hk hn
    obtain ⟨n, rfl⟩ : ∃ m, n = m + 1 := ⟨n - 1, by omega⟩
    rw [branch_end _ _ _ _ _ _ _ (by rw [hk]; exact ends_end s), List.map_nil, List.append_nil]
    rw [← hk]
    rfl
  | step k j b l hk hen h94 hp hr ih =>
    intro n st parts front hst hn
    have hj := tells_le hr
    obtain ⟨n, rfl⟩ : ∃ m, n = m + 1 := ⟨n - 1, by omega⟩
    rw [branch_step _ _ _ _ _ _ _ (by rw [hst]; exact hen) (by rw [hst, h94]; rfl), hp sub front st hst]
    simp only
    rw [ih n (st.to j) (parts ++ [Nd.one (oSpan (b : Int) (b : Int))]) (chAt s st.pos 36 && endsAt s (st.pos + 1)) rfl (by omega)]
    simp [oneOf, ReSt.to]
theorem choose_single {d : Nd} (h : inAlt d = true) : nchoose [d] = d := by
  have hc := cflat_all [d] (by simp [h])
  unfold nchoose
  rw [hc]
/-- The whole. -/
theorem parse_tells {s : List UInt8} {l : List Nat} (h : Tells s 0 l) (hs : s.length ≤ 250) : parseM false s = .ok (⟨s.length, 0, [], []⟩, njoin (l.map oneOf)) := by
  have hb := tells_branch (some (regM false s 11)) 0 h (s.length + 1) reZero [] true rfl (by omega)
  rw [List.nil_append] at hb
  have ha := (branch_takes false s (some (regM false s 11)) (fun f hf => by injection hf with hf; subst hf; exact reg_takes false s 11) false 0 (s.length + 1) reZero [] true _ _ reZero rfl rfl hb).2
  rw [parse_shut _ _ hs, choice_eq, show reZero.pos = 0 from rfl, hb]
  simp only [List.nil_append]
  unfold chTail
  have e1 : ∀ b, esAt s (reZero.to s.length).pos b = false := fun b => by unfold esAt; rw [decide_eq_false (by show ¬ s.length + 1 < s.length; omega)]; rfl
  rw [e1, choose_single ha]
  simp only [Bool.false_eq_true, if_false]
  unfold shutR
  simp only [opAt, Bool.false_eq_true, if_false]
  rw [e1]
  rfl
/-- A byte that is no punct is itself. -/
theorem punct_not (b : Nat) (h : ohas punctSet b = false) : b ≠ 92 ∧ b ≠ 91 ∧ b ≠ 46 ∧ b ≠ 36 ∧ b ≠ 94 ∧ b ≠ 42 := by
  refine ⟨?_, ?_, ?_, ?_, ?_, ?_⟩ <;> (intro e; subst e; revert h; decide +kernel)
theorem plain_piece (s : List UInt8) (k b : Nat) (hk : k < s.length) (hb : byt s k = b) (hp : ohas punctSet b = false) (hn : k + 1 < s.length → ohas punctSet (byt s (k + 1)) = false) :
    endsAt s k = false ∧ chAt s k 94 = false ∧ ∀ (sub : Option (ReSt → ReRes (ReSt × Nd))) (front : Bool) (st : ReSt), st.pos = k → pieceM s sub front st = .ok (st.to (k + 1), .one (oSpan b b)) := by
  obtain ⟨p1, p2, p3, p4, p5, p6⟩ := punct_not b hp
  refine ⟨?_, ch_no (by rw [hb]; exact p5), fun sub front st hst => ?_⟩
  · unfold endsAt
    rw [es_no (.inl (by rw [hb]; exact p1)), es_no (.inl (by rw [hb]; exact p1)), decide_eq_false (by omega)]
    rfl
  · have hrep : repAt false s (k + 1) = .none := by
      by_cases hl : k + 1 < s.length
      · obtain ⟨q1, q2, q3, q4, q5, q6⟩ := punct_not _ (hn hl)
        exact rep_none (ch_no q6) (es_no (.inl q1)) (es_no (.inl q1)) (es_no (.inl q1))
      · exact rep_none (by unfold chAt; rw [decide_eq_false (by omega)]; rfl) (es_no (.inr (.inr (by omega)))) (es_no (.inr (.inr (by omega)))) (es_no (.inr (.inr (by omega))))
    unfold pieceM
    rw [hst, ch_no (show byt s k ≠ 36 by rw [hb]; exact p4)]
    simp only [Bool.false_and, Bool.false_eq_true, if_false]
    rw [atomF_plain (by rw [hst, hb]; exact p1), hst, ch_no (show byt s k ≠ 91 by rw [hb]; exact p2), ch_no (show byt s k ≠ 46 by rw [hb]; exact p3), hb]
    simp only [Bool.false_eq_true, if_false]
    unfold repsOf
    simp only
    rw [repM_succ _ _ _ _ (by omega), show (st.to (k + 1)).pos = k + 1 from rfl, hrep]
theorem plain_tells (s : List UInt8) (hp : ∀ k, k < s.length → ohas punctSet (byt s k) = false) : ∀ (n k : Nat), k + n = s.length → Tells s k ((s.drop k).map UInt8.toNat) := by
  intro n
  induction n with
  | zero =>
    intro k hk
    obtain rfl : k = s.length := by omega
    rw [List.drop_length]
    exact .done
  | succ n ih =>
    intro k hk
    have hlt : k < s.length := by omega
    have hd := byt_drop s k hlt
    rw [hd.1, List.map_cons, ← hd.2]
    obtain ⟨h1, h2, h3⟩ := plain_piece s k (byt s k) hlt rfl (hp k hlt) (fun hl => hp (k + 1) hl)
    exact .step k (k + 1) _ _ (by omega) h1 h2 h3 (ih (k + 1) (by omega))
theorem parse_plain_bytes (s : List UInt8) (hs : s.length ≤ 250) (hp : ∀ k, k < s.length → ohas punctSet (byt s k) = false) : parseM false s = .ok (⟨s.length, 0, [], []⟩, njoin ((s.map UInt8.toNat).map oneOf)) := by
  have h := plain_tells s hp s.length 0 (by omega)
  rw [List.drop_zero] at h
  exact parse_tells h hs
end Go.Proofs.YtacpoandhocmhaaGreatDoor
namespace Go.Proofs.YtacpoandhocmhaaGreatDoor

/-- Is a byte one of those that are told as they are, though they are punct? -/
def qPlain (b : Nat) : Bool := decide (b = 40) || decide (b = 41) || decide (b = 123) || decide (b = 124) || decide (b = 43) || decide (b = 63)
/-- How a byte is told. -/
def qz (b : Nat) : List UInt8 := if b = 10 then [92, 110] else if qPlain b then [UInt8.ofNat b] else if ohas punctSet b then [92, UInt8.ofNat b] else [UInt8.ofNat b]
/-- What stands where a byte is told from on: no repetition, no end of a branch, no anchor. -/
def Quiet (T : List UInt8) : Prop := chAt T 0 42 = false ∧ chAt T 0 94 = false ∧ chAt T 0 36 = false ∧ ∀ c, qPlain c = true → esAt T 0 c = false
theorem quiet_nil : Quiet [] := ⟨rfl, rfl, rfl, fun _ _ => rfl⟩
theorem quiet_one (b : Nat) (hb : b < 256) (h1 : b ≠ 42) (h2 : b ≠ 94) (h3 : b ≠ 36) (h4 : b ≠ 92) (T : List UInt8) : Quiet (UInt8.ofNat b :: T) := by
  have hbb : byt (UInt8.ofNat b :: T) 0 = b := by
    show (UInt8.ofNat b).toNat = b
    simp
    omega
  exact ⟨ch_no (by rw [hbb]; exact h1), ch_no (by rw [hbb]; exact h2), ch_no (by rw [hbb]; exact h3), fun c _ => es_no (.inl (by rw [hbb]; exact h4))⟩
theorem quiet_two (c : Nat) (hc : c < 256) (hq : qPlain c = false) (T : List UInt8) : Quiet (92 :: UInt8.ofNat c :: T) := by
  have h0 : byt (92 :: UInt8.ofNat c :: T) 0 = 92 := rfl
  have h1 : byt (92 :: UInt8.ofNat c :: T) (0 + 1) = c := by
    show (UInt8.ofNat c).toNat = c
    simp
    omega
  refine ⟨ch_no (by omega), ch_no (by omega), ch_no (by omega), fun d hd => es_no (.inr (.inl ?_))⟩
  rw [h1]
  intro e
  subst e
  rw [hq] at hd
  cases hd
theorem qz_quiet (b : Nat) (hb : b < 256) (T : List UInt8) : Quiet (qz b ++ T) := by
  unfold qz
  split
  · exact quiet_two 110 (by decide) rfl T
  · split
    · rename_i h10 hq
      unfold qPlain at hq
      simp only [Bool.or_eq_true, decide_eq_true_eq] at hq
      exact quiet_one b hb (by omega) (by omega) (by omega) (by omega) T
    · split
      · rename_i h10 hq hp
        exact quiet_two b hb (by simpa using hq) T
      · rename_i h10 hq hp
        obtain ⟨p1, p2, p3, p4, p5, p6⟩ := punct_not b (by simpa using hp)
        exact quiet_one b hb p6 p5 p4 p1 T
theorem qz_len (b : Nat) : 0 < (qz b).length ∧ (qz b).length ≤ 2 := by
  unfold qz
  repeat (split; · simp)
  simp
theorem quiet_rep (s : List UInt8) (k : Nat) (h : Quiet (s.drop k)) : repAt false s k = .none := by
  obtain ⟨h1, h2, h3, h4⟩ := h
  rw [drop_ch, Nat.add_zero] at h1
  have h5 := fun c hc => (drop_es s k 0 c).symm.trans (h4 c hc)
  simp only [Nat.add_zero] at h5
  exact rep_none h1 (h5 43 rfl) (h5 63 rfl) (h5 123 rfl)
theorem quiet_ends (s : List UInt8) (k : Nat) (hk : k < s.length) (h : Quiet (s.drop k)) : endsAt s k = false := by
  have h5 := fun c hc => (drop_es s k 0 c).symm.trans (h.2.2.2 c hc)
  simp only [Nat.add_zero] at h5
  unfold endsAt
  rw [h5 124 rfl, h5 41 rfl, decide_eq_false (by omega)]
  rfl
theorem byt_drop0 (s : List UInt8) (k : Nat) : byt (s.drop k) 0 = byt s k := by rw [drop_byt, Nat.add_zero]
/-- A punct that is told behind a backslash: no digit, and no letter that means another set. -/
theorem punct_esc (c : Nat) (hc : c < 256) (hp : ohas punctSet c = true) : ¬ (49 ≤ c ∧ c ≤ 57) ∧ c ≠ 110 ∧ c ≠ 116 ∧ c ≠ 119 ∧ c ≠ 87 ∧ c ≠ 115 ∧ c ≠ 83 := by
  have h : ∀ c : Fin 256, ohas punctSet c.val = true → ¬ (49 ≤ c.val ∧ c.val ≤ 57) ∧ c.val ≠ 110 ∧ c.val ≠ 116 ∧ c.val ≠ 119 ∧ c.val ≠ 87 ∧ c.val ≠ 115 ∧ c.val ≠ 83 := by decide +kernel
  exact h ⟨c, hc⟩ hp
/-- A byte as it is told is a piece. -/
theorem qz_piece (s : List UInt8) (k b : Nat) (hb : b < 256) (T : List UInt8) (hd : s.drop k = qz b ++ T) (hT : Quiet T) (sub : Option (ReSt → ReRes (ReSt × Nd))) (front : Bool) (st : ReSt) (hst : st.pos = k) :
    pieceM s sub front st = .ok (st.to (k + (qz b).length), .one (oSpan b b)) := by
  have hq := qz_quiet b hb T
  rw [← hd] at hq
  have hkl : k < s.length := by
    have h1 := congrArg List.length hd
    rw [List.length_drop, List.length_append] at h1
    have h2 := (qz_len b).1
    omega
  have h36 : chAt s k 36 = false := by have := hq.2.2.1; rw [drop_ch, Nat.add_zero] at this; exact this
  have hnext : s.drop (k + (qz b).length) = T := by rw [← List.drop_drop, hd, List.drop_left]
  have hrep : repAt false s (k + (qz b).length) = .none := quiet_rep _ _ (by rw [hnext]; exact hT)
  have hfin : ∀ A, A = .ok (st.to (k + (qz b).length), .one (oSpan (b : Int) (b : Int))) → atomF s sub front st = A → pieceM s sub front st = .ok (st.to (k + (qz b).length), .one (oSpan b b)) := fun A hA hF => by
    unfold pieceM
    rw [hst, h36]
    simp only [Bool.false_and, Bool.false_eq_true, if_false]
    rw [hF, hA]
    unfold repsOf
    simp only
    rw [repM_succ _ _ _ _ (by omega), show (st.to (k + (qz b).length)).pos = k + (qz b).length from rfl, hrep]
  have hone : ∀ b, byt s k = b → b ≠ 92 → b ≠ 91 → b ≠ 46 → (qz b).length = 1 → atomF s sub front st = .ok (st.to (k + (qz b).length), .one (oSpan (b : Int) (b : Int))) := fun b hbb p1 p2 p3 hl => by
    rw [atomF_plain (by rw [hst, hbb]; exact p1), hst, ch_no (show byt s k ≠ 91 by rw [hbb]; exact p2), ch_no (show byt s k ≠ 46 by rw [hbb]; exact p3), hbb, hl]
    rfl
  have hbyt : ∀ x L, s.drop k = x :: L → byt s k = x.toNat := fun x L h => by rw [← byt_drop0, h]; rfl
  have hbyt2 : ∀ x y L, s.drop k = x :: y :: L → byt s (k + 1) = y.toNat := fun x y L h => by rw [← drop_byt s k 1, h]; rfl
  have hlen2 : ∀ x y L, s.drop k = x :: y :: L → k + 1 < s.length := fun x y L h => by
    have h1 := congrArg List.length h
    rw [List.length_drop] at h1
    simp at h1
    omega
  have hof : (UInt8.ofNat b).toNat = b := by simp; omega
  by_cases h10 : b = 10
  · subst h10
    have hz : qz 10 = [92, 110] := rfl
    rw [hz] at hd
    have h0 : byt s k = 92 := hbyt _ _ hd
    have h1 : byt s (k + 1) = 110 := hbyt2 _ _ _ hd
    have h2 := hlen2 _ _ _ hd
    refine hfin _ ?_ (atomF_esc (c := 110) (by rw [hst]; exact h0) (by rw [hst]; exact h2) (by rw [hst]; exact h1) (by decide) (by decide) (by decide) (by decide) (by decide))
    rw [hz]
    unfold escM
    rw [if_neg (by decide), show escSet 110 = some (oSpan 10 10, false) from rfl, ← hst]
    rfl
  by_cases hqp : qPlain b = true
  · have hz : qz b = [UInt8.ofNat b] := by unfold qz; rw [if_neg h10, if_pos hqp]
    rw [hz] at hd
    have h0 : byt s k = b := (hbyt _ _ hd).trans hof
    have hq2 := hqp
    unfold qPlain at hq2
    simp only [Bool.or_eq_true, decide_eq_true_eq] at hq2
    exact hfin _ rfl (hone b h0 (by omega) (by omega) (by omega) (by rw [hz]; rfl))
  by_cases hp : ohas punctSet b = true
  · have hz : qz b = [92, UInt8.ofNat b] := by unfold qz; rw [if_neg h10, if_neg hqp, if_pos hp]
    rw [hz] at hd
    have h0 : byt s k = 92 := hbyt _ _ hd
    have h1 : byt s (k + 1) = b := (hbyt2 _ _ _ hd).trans hof
    have h2 := hlen2 _ _ _ hd
    have hq2 : qPlain b = false := by simpa using hqp
    unfold qPlain at hq2
    simp only [Bool.or_eq_false_iff, decide_eq_false_iff_not] at hq2
    obtain ⟨⟨⟨⟨⟨g1, g2⟩, g3⟩, g4⟩, g5⟩, g6⟩ := hq2
    obtain ⟨e0, e1, e2, e3, e4, e5, e6⟩ := punct_esc b hb hp
    refine hfin _ ?_ (atomF_esc (c := b) (by rw [hst]; exact h0) (by rw [hst]; exact h2) (by rw [hst]; exact h1) g1 g2 g5 g6 g3)
    rw [hz]
    unfold escM
    rw [if_neg e0, show escSet b = some (oSpan b b, false) by unfold escSet; rw [if_neg e1, if_neg e2, if_neg e3, if_neg e4, if_neg e5, if_neg e6, if_pos hp], ← hst]
    rfl
  · have hz : qz b = [UInt8.ofNat b] := by unfold qz; rw [if_neg h10, if_neg hqp, if_neg hp]
    rw [hz] at hd
    have h0 : byt s k = b := (hbyt _ _ hd).trans hof
    obtain ⟨p1, p2, p3, p4, p5, p6⟩ := punct_not b (by simpa using hp)
    exact hfin _ rfl (hone b h0 p1 p2 p3 (by rw [hz]; rfl))
/-- Bytes, each told as it must be. -/
def quoted (l : List Nat) : List UInt8 := l.flatMap qz
theorem quoted_quiet (l : List Nat) (h : ∀ b ∈ l, b < 256) : Quiet (quoted l) := by
  cases l with
  | nil => exact quiet_nil
  | cons b l => exact qz_quiet b (h b (by simp)) (quoted l)
theorem quoted_tells (s : List UInt8) : ∀ (l : List Nat) (k : Nat), (∀ b ∈ l, b < 256) → s.drop k = quoted l → k ≤ s.length → Tells s k l := by
  intro l
  induction l with
  | nil =>
    intro k _ hd hk
    have : s.length ≤ k := by
      have h1 := congrArg List.length hd
      rw [List.length_drop] at h1
      simp [quoted] at h1
      omega
    obtain rfl : k = s.length := by omega
    exact .done
  | cons b l ih =>
    intro k hb hd hk
    have hd' : s.drop k = qz b ++ quoted l := hd
    have hbb := hb b (by simp)
    have hlen := congrArg List.length hd'
    rw [List.length_drop, List.length_append] at hlen
    have hz := (qz_len b).1
    have hq := qz_quiet b hbb (quoted l)
    rw [← hd'] at hq
    refine .step k (k + (qz b).length) b l (by omega) (quiet_ends s k (by omega) hq) ?_ (fun sub front st hst => qz_piece s k b hbb (quoted l) hd' (quoted_quiet l (fun x hx => hb x (by simp [hx]))) sub front st hst) (ih _ (fun x hx => hb x (by simp [hx])) (by rw [← List.drop_drop, hd', List.drop_left]) (by omega))
    have := hq.2.1
    rw [drop_ch, Nat.add_zero] at this
    exact this
theorem parse_quoted (l : List Nat) (h : ∀ b ∈ l, b < 256) (hs : (quoted l).length ≤ 250) : parseM false (quoted l) = .ok (⟨(quoted l).length, 0, [], []⟩, njoin (l.map oneOf)) :=
  parse_tells (quoted_tells (quoted l) l 0 h (by rw [List.drop_zero]) (Nat.zero_le _)) hs
end Go.Proofs.YtacpoandhocmhaaGreatDoor
namespace Go.Proofs.YtacpoandhocmhaaGreatDoor
open Go Go.RowKit

end Go.Proofs.YtacpoandhocmhaaGreatDoor
namespace Go.Proofs.YtacpoandhocmhaaGreatDoor
open Go Go.RowKit Go.Shelf

end Go.Proofs.YtacpoandhocmhaaGreatDoor
