/- Plain mathematics: bytes, each told as it must be in an extended regex, tell just these; the examples. No program is named here. -/
import Derived.Test.YtacpoandhocmhaaGreatDoorMaE
import Derived.Test.YtacpoandhocmhaaGreatDoorBq
namespace Go.Proofs.YtacpoandhocmhaaGreatDoor

/-- From a place on a text tells just these bytes, as an extended regex. -/
theorem qzg_true (b : Nat) : qzg true b = if b = 10 then [92, 110] else if ohas punctSet b then [92, UInt8.ofNat b] else [UInt8.ofNat b] := rfl
/-- A sign that is no op of an extended regex. -/
def Calm (T : List UInt8) : Prop := ∀ c, c = 124 ∨ c = 40 ∨ c = 41 ∨ c = 94 ∨ c = 36 ∨ c = 42 ∨ c = 43 ∨ c = 63 ∨ c = 123 ∨ c = 91 ∨ c = 46 → chAt T 0 c = false
theorem punct_ops (b : Nat) (hb : b < 256) (h : ohas punctSet b = false) : b ≠ 124 ∧ b ≠ 40 ∧ b ≠ 41 ∧ b ≠ 94 ∧ b ≠ 36 ∧ b ≠ 42 ∧ b ≠ 43 ∧ b ≠ 63 ∧ b ≠ 123 ∧ b ≠ 91 ∧ b ≠ 46 ∧ b ≠ 92 := by
  have hd : ∀ c : Fin 256, ohas punctSet c.val = false → c.val ≠ 124 ∧ c.val ≠ 40 ∧ c.val ≠ 41 ∧ c.val ≠ 94 ∧ c.val ≠ 36 ∧ c.val ≠ 42 ∧ c.val ≠ 43 ∧ c.val ≠ 63 ∧ c.val ≠ 123 ∧ c.val ≠ 91 ∧ c.val ≠ 46 ∧ c.val ≠ 92 := by decide +kernel
  exact hd ⟨b, hb⟩ h
theorem calm_one (b : Nat) (hb : b < 256) (hp : b = 92 ∨ ohas punctSet b = false) (T : List UInt8) : Calm (UInt8.ofNat b :: T) := by
  intro c hc
  have hbb : byt (UInt8.ofNat b :: T) 0 = b := by
    show (UInt8.ofNat b).toNat = b
    simp
    omega
  apply ch_no
  rw [hbb]
  rcases hp with rfl | hp
  · omega
  · have := punct_ops b hb hp
    omega
theorem calm_q (b : Nat) (hb : b < 256) (T : List UInt8) : Calm (qzg true b ++ T) := by
  rw [qzg_true]
  split
  · exact calm_one 92 (by decide) (.inl rfl) _
  · split
    · exact calm_one 92 (by decide) (.inl rfl) _
    · rename_i h
      exact calm_one b hb (.inr (by simpa using h)) T
theorem calm_all (l : List Nat) (h : ∀ b ∈ l, b < 256) : Calm (quotedG true l) := by
  cases l with
  | nil => exact fun c _ => rfl
  | cons b l => exact calm_q b (h b (by simp)) (quotedG true l)
theorem calm_at {s : List UInt8} {k : Nat} (h : Calm (s.drop k)) (c : Nat) (hc : c = 124 ∨ c = 40 ∨ c = 41 ∨ c = 94 ∨ c = 36 ∨ c = 42 ∨ c = 43 ∨ c = 63 ∨ c = 123 ∨ c = 91 ∨ c = 46) : chAt s k c = false := by
  have := h c hc
  rwa [drop_ch, Nat.add_zero] at this
theorem calm_rep {s : List UInt8} {k : Nat} (h : Calm (s.drop k)) : repAt true s k = .none := by
  unfold repAt
  simp only [opAt, if_true]
  rw [calm_at h 42 (by simp), calm_at h 43 (by simp), calm_at h 63 (by simp), calm_at h 123 (by simp)]
  rfl
theorem qzg_pos (b : Nat) : 0 < (qzg true b).length := by
  rw [qzg_true]
  repeat (split; · simp)
  simp
/-- A byte as it is told is an atom. -/
theorem q_atom (s : List UInt8) (k b : Nat) (hb : b < 256) (T : List UInt8) (hd : s.drop k = qzg true b ++ T) (sub : Option (ReSt → ReRes (ReSt × Nd))) (st : ReSt) (hst : st.pos = k) :
    atomM true s sub st = .ok (st.to (k + (qzg true b).length), .one (oSpan b b)) := by
  have hc := calm_q b hb T
  rw [← hd] at hc
  have hof : (UInt8.ofNat b).toNat = b := by simp; omega
  have hbyt : ∀ x L, s.drop k = x :: L → byt s k = x.toNat := fun x L h => by rw [← byt_drop0, h]; rfl
  have hbyt2 : ∀ x y L, s.drop k = x :: y :: L → byt s (k + 1) = y.toNat := fun x y L h => by rw [← drop_byt s k 1, h]; rfl
  have hlen2 : ∀ x y L, s.drop k = x :: y :: L → k + 1 < s.length := fun x y L h => by
    have h1 := congrArg List.length h
    rw [List.length_drop] at h1
    simp at h1
    omega
  have hlen1 : ∀ x L, s.drop k = x :: L → k < s.length := fun x L h => by
    have h1 := congrArg List.length h
    rw [List.length_drop] at h1
    simp at h1
    omega
  unfold atomM
  simp only [opAt, if_true]
  rw [hst, calm_at hc 40 (by simp), calm_at hc 41 (by simp), calm_at hc 91 (by simp), calm_at hc 46 (by simp)]
  simp only [Bool.false_eq_true, if_false]
  rw [qzg_true] at hd ⊢
  by_cases h10 : b = 10
  · subst h10
    rw [if_pos rfl] at hd ⊢
    have h92 : chAt s k 92 = true := by unfold chAt; rw [hbyt _ _ hd, decide_eq_true (hlen1 _ _ hd)]; rfl
    rw [h92, if_pos rfl, if_pos (hlen2 _ _ _ hd), hbyt2 _ _ _ hd]
    unfold escM
    rw [if_neg (by decide), show escSet (UInt8.toNat 110) = some (oSpan 10 10, false) from rfl, hst]
    rfl
  · rw [if_neg h10] at hd ⊢
    by_cases hp : ohas punctSet b = true
    · rw [if_pos hp] at hd ⊢
      have h92 : chAt s k 92 = true := by unfold chAt; rw [hbyt _ _ hd, decide_eq_true (hlen1 _ _ hd)]; rfl
      rw [h92, if_pos rfl, if_pos (hlen2 _ _ _ hd), hbyt2 _ _ _ hd, hof]
      obtain ⟨e0, e1, e2, e3, e4, e5, e6⟩ := punct_esc b hb hp
      unfold escM
      rw [if_neg e0, show escSet b = some (oSpan b b, false) by unfold escSet; rw [if_neg e1, if_neg e2, if_neg e3, if_neg e4, if_neg e5, if_neg e6, if_pos hp], hst]
      rfl
    · rw [if_neg hp] at hd ⊢
      have h0 : byt s k = b := (hbyt _ _ hd).trans hof
      have hops := punct_ops b hb (by simpa using hp)
      rw [ch_no (show byt s k ≠ 92 by rw [h0]; exact hops.2.2.2.2.2.2.2.2.2.2.2), h0]
      rfl
theorem q_branch (s : List UInt8) (sub : Option (ReSt → ReRes (ReSt × Nd))) (begin : Nat) : ∀ (l : List Nat) (k n : Nat) (st : ReSt) (parts : List Nd) (front : Bool), (∀ b ∈ l, b < 256) → s.drop k = quotedG true l → k ≤ s.length → st.pos = k → s.length < n + k →
    branchM true s sub false begin n st parts front = .ok (st.to s.length, njoin (parts ++ l.map oneOf)) := by
  intro l
  induction l with
  | nil =>
    intro k n st parts front _ hd hk hst hn
    have hlen : s.length ≤ k := by
      have h1 := congrArg List.length hd
      rw [List.length_drop] at h1
      simp [quotedG] at h1
      omega
    obtain ⟨n, rfl⟩ : ∃ m, n = m + 1 := ⟨n - 1, by omega⟩
    rw [branch_done true s sub begin n st parts front (by omega), List.map_nil, List.append_nil, show s.length = st.pos by omega]
    rfl
  | cons b l ih =>
    intro k n st parts front hb hd hk hst hn
    have hd' : s.drop k = qzg true b ++ quotedG true l := hd
    have hbb := hb b (by simp)
    have hz := qzg_pos b
    have hlen := congrArg List.length hd'
    rw [List.length_drop, List.length_append] at hlen
    have hc := calm_q b hbb (quotedG true l)
    rw [← hd'] at hc
    have hnext : s.drop (k + (qzg true b).length) = quotedG true l := by rw [← List.drop_drop, hd', List.drop_left]
    have hcn : Calm (s.drop (k + (qzg true b).length)) := by rw [hnext]; exact calm_all l (fun x hx => hb x (by simp [hx]))
    obtain ⟨n, rfl⟩ : ∃ m, n = m + 1 := ⟨n - 1, by omega⟩
    rw [branchM]
    simp only [opAt, if_true]
    rw [hst, decide_eq_false (show ¬ s.length ≤ k by omega), calm_at hc 124 (by simp), calm_at hc 41 (by simp), calm_at hc 94 (by simp), calm_at hc 36 (by simp), calm_at hc 123 (by simp), calm_at hc 43 (by simp), calm_at hc 63 (by simp), calm_at hc 42 (by simp)]
    simp only [Bool.false_or, Bool.false_and, Bool.and_false, Bool.false_eq_true, if_false]
    rw [q_atom s k b hbb (quotedG true l) hd' sub st hst]
    simp only
    rw [repM, show (st.to (k + (qzg true b).length)).pos = k + (qzg true b).length from rfl, calm_rep hcn]
    simp only
    rw [ih (k + (qzg true b).length) n (st.to (k + (qzg true b).length)) (parts ++ [Nd.one (oSpan (b : Int) (b : Int))]) false (fun x hx => hb x (by simp [hx])) hnext (by omega) rfl (by omega)]
    simp [oneOf, ReSt.to]
theorem parse_equoted (l : List Nat) (h : ∀ b ∈ l, b < 256) (hs : (quotedG true l).length ≤ 250) : parseM true (quotedG true l) = .ok (⟨(quotedG true l).length, 0, [], []⟩, njoin (l.map oneOf)) := by
  have hb := q_branch (quotedG true l) (some (regM true (quotedG true l) 11)) 0 l 0 ((quotedG true l).length + 1) reZero [] true h (by rw [List.drop_zero]) (Nat.zero_le _) rfl (by omega)
  rw [List.nil_append] at hb
  have ha := (branch_takes true (quotedG true l) (some (regM true (quotedG true l) 11)) (reg_subs true _ 11).2 false 0 _ reZero [] true _ _ reZero rfl rfl hb).2
  rw [parse_shut _ _ hs, choiceM, show reZero.pos = 0 from rfl, hb]
  simp only [List.nil_append]
  have he : ∀ c, opAt true (quotedG true l) (reZero.to (quotedG true l).length).pos c = false := fun c => op_end _ _ _ _ (Nat.le_refl _)
  rw [he]
  simp only [Bool.false_eq_true, if_false]
  unfold shutR
  simp only
  rw [he, choose_single ha]
  rfl
/-- The examples. -/
def ereN1 : Nd := .alt [.one (oSpan 97 97), .rep (.group 1 (.one (oSpan 98 98))) 1 (-1)]
theorem ere_ex1 : parseM true [97, 124, 40, 98, 41, 43] = .ok (⟨6, 1, [1], []⟩, ereN1) := by kernel_rfl
theorem ere_ex2 : parseM true [42, 97] = .error (10, 0) := by kernel_rfl
theorem ere_groups1 : ngroups ereN1 = 1 := rfl
theorem ere_size1 : nsize ereN1 ≤ 4000000 := by decide
end Go.Proofs.YtacpoandhocmhaaGreatDoor
