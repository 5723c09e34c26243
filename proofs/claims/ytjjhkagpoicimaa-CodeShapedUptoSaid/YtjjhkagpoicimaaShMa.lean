/- ShM: Plain mathematics of sets as texts: a set's text (a bracket, a byte, or a dot), and that it is read back as a One of the set. No program is named here.
   ShT: Plain mathematics of trees as texts: a right tree's text, and that it is read back as that tree. No program is named here.
   ShB: Plain mathematics of trees as texts: what is shown of a right tree is read back as that tree. No program is named here.
   ShJ: Plain mathematics of trees as texts: parts joined, and chosen among, as texts. No program is named here.
   ShE: Plain mathematics of trees as texts: the list of what is still to be written, the last first. No program is named here.
   ShL: Plain mathematics of trees as texts: how long they are at most; the numbers in a right tree. No program is named here. -/
import Derived.Test.YtjjhkagpoicimaaMaC
import Derived.Test.YtjjhkagpoicimaaOctW
import Derived.Test.YtjjhkagpoicimaaEtM
namespace Go.Proofs.Ytjjhkagpoicimaa

/-- A byte in brackets. -/
def endT (c : Nat) : List UInt8 := if ohas punctSet c then [91, 46, UInt8.ofNat c, 46, 93] else [UInt8.ofNat c]
/-- A span in brackets. -/
def spT (p : Nat × Nat) : List UInt8 := endT p.1 ++ if p.1 < p.2 then 45 :: endT p.2 else []
/-- A byte alone. -/
def byT (c : Nat) : List UInt8 := if c = 10 then [92, 110] else if ohas punctSet c then [92, UInt8.ofNat c] else [UInt8.ofNat c]
/-- Is the end of a line the least or the greatest of a span? -/
def lineB (s : OSet) : Bool := ohas s 10 && !(ohas s 9 && ohas s 11)
/-- Is a set's bracket to be of the others? -/
def othT (s : OSet) : Bool := if 1 ≤ olen s ∧ olen s ≤ 128 then lineB s else !lineB (~~~s)
def brT (neg : Bool) (s : OSet) : List UInt8 := 91 :: ((if neg then [94] else []) ++ (sps s).flatMap spT ++ [93])
/-- A set as a text. -/
def setT (s : OSet) : List UInt8 := if olen s = 256 then [46] else if olen s = 1 then byT (lst s) else if othT s then brT true (~~~s) else brT false s
theorem endT_len (c : Nat) : (endT c).length = if ohas punctSet c then 5 else 1 := by unfold endT; split <;> rfl
theorem endT_pos (c : Nat) : 0 < (endT c).length := by rw [endT_len]; split <;> omega
theorem ofNat_byt (c : Nat) (h : c < 256) : (UInt8.ofNat c).toNat = c := by simp; omega
/-- The first byte of a byte in brackets. -/
theorem endT_first (c : Nat) (hc : c < 256) (r : List UInt8) : (byt (endT c ++ r) 0 = 91 ∧ ohas punctSet c = true) ∨ (byt (endT c ++ r) 0 = c ∧ ohas punctSet c = false) := by
  unfold endT
  cases h : ohas punctSet c with
  | true => exact .inl ⟨rfl, rfl⟩
  | false => exact .inr ⟨by simp [byt]; omega, rfl⟩
theorem punct_45 : ohas punctSet 45 = true := by kernel_rfl
theorem punct_91 : ohas punctSet 91 = true := by kernel_rfl
theorem punct_93 : ohas punctSet 93 = true := by kernel_rfl
theorem punct_94 : ohas punctSet 94 = true := by kernel_rfl
theorem endT_not (c : Nat) (hc : c < 256) (r : List UInt8) (b : Nat) (hb : ohas punctSet b = true) (h9 : b ≠ 91) : byt (endT c ++ r) 0 ≠ b := by
  rcases endT_first c hc r with ⟨h, _⟩ | ⟨h, h2⟩
  · rw [h]; exact fun e => h9 e.symm
  · rw [h]
    intro e
    rw [e] at h2
    rw [h2] at hb
    cases hb
theorem itm_endT (c : Nat) (hc : c < 256) (r : List UInt8) : itm (endT c ++ r) 0 = ⟨oSpan c c, true, (endT c).length, 0, 0⟩ := by
  unfold endT
  cases h : ohas punctSet c with
  | true =>
    have hb : byt ([91, 46, UInt8.ofNat c, 46, 93] ++ r) 2 = c := by simp [byt]; omega
    have h0 : byt ([91, 46, UInt8.ofNat c, 46, 93] ++ r) 0 = 91 := rfl
    have h1 : byt ([91, 46, UInt8.ofNat c, 46, 93] ++ r) 1 = 46 := rfl
    have h3 : byt ([91, 46, UInt8.ofNat c, 46, 93] ++ r) 3 = 46 := rfl
    have h4 : byt ([91, 46, UInt8.ofNat c, 46, 93] ++ r) 4 = 93 := rfl
    have hl : 5 ≤ ([91, 46, UInt8.ofNat c, 46, 93] ++ r).length := by simp
    simp only [if_true]
    generalize [91, 46, UInt8.ofNat c, 46, 93] ++ r = s at *
    have ho : opens s 0 = true := by unfold opens; rw [h0, h1]; simp; omega
    have hf : fnd s 46 3 = some 3 := by rw [fnd, if_pos (by omega), if_pos ⟨h3, h4⟩]
    unfold itm
    rw [if_neg (by omega), ho, if_pos rfl, h1]
    unfold from1
    rw [h1, if_neg (by decide), hf]
    unfold boxed
    simp only [Nat.zero_add]
    rw [h1, hb]
    rfl
  | false =>
    simp only [Bool.false_eq_true, if_false]
    have hb : byt ([UInt8.ofNat c] ++ r) 0 = c := by simp [byt]; omega
    rw [itm_plain _ 0 (by simp) (by rw [hb]; intro e; rw [e, punct_91] at h; cases h), hb]
    rfl
theorem lst_byte (c : Nat) (hc : c < 256) : lst (oSpan c c) = c := (lst_one c hc).2
/-- A span in brackets is read as it. -/
theorem elm_spT (p : Nat × Nat) (h1 : p.1 ≤ p.2) (h2 : p.2 < 256) (r : List UInt8) (hr : byt r 0 ≠ 45) : elm (spT p ++ r) 0 = .ok (oSpan p.1 p.2, (spT p).length) := by
  unfold spT
  by_cases hlt : p.1 < p.2
  · rw [if_pos hlt, List.append_assoc]
    have hi := itm_endT p.1 (by omega) ((45 :: endT p.2) ++ r)
    have hi2 : itm (endT p.1 ++ ((45 :: endT p.2) ++ r)) ((endT p.1).length + 1) = ⟨oSpan p.2 p.2, true, (endT p.1).length + 1 + (endT p.2).length, 0, 0⟩ := by
      have h := itm_app (endT p.1 ++ [45]) (endT p.2 ++ r) 0
      rw [itm_endT p.2 h2 r, List.append_assoc] at h
      simp only [List.singleton_append, List.length_append, List.length_cons, List.length_nil, Nat.zero_add] at h
      show itm (endT p.1 ++ 45 :: (endT p.2 ++ r)) _ = _
      rw [h]
      unfold Itm.up
      simp
      omega
    have hb1 : byt (endT p.1 ++ ((45 :: endT p.2) ++ r)) (endT p.1).length = 45 := by
      have := byt_app_ge (endT p.1) ((45 :: endT p.2) ++ r) 0
      rw [Nat.add_zero] at this
      rw [this]
      rfl
    have hb2 : byt (endT p.1 ++ ((45 :: endT p.2) ++ r)) ((endT p.1).length + 1) ≠ 93 := by
      have := byt_app_ge (endT p.1) ((45 :: endT p.2) ++ r) 1
      rw [this]
      exact endT_not p.2 h2 r 93 punct_93 (by decide)
    have hl : (endT p.1).length + 1 < (endT p.1 ++ ((45 :: endT p.2) ++ r)).length := by
      have := endT_pos p.2
      simp only [List.length_append, List.length_cons]
      omega
    unfold elm
    simp only [hi]
    rw [if_neg (by simp), if_pos ⟨hl, hb1, hb2⟩]
    simp only [hi2]
    rw [if_neg (by simp), lst_byte _ (by omega), lst_byte _ h2, decide_eq_true h1]
    simp only [Bool.and_self, if_true]
    rw [List.length_append, List.length_cons]
    congr 2
    omega
  · rw [if_neg hlt, List.append_nil]
    have he : p.2 = p.1 := by omega
    have hi := itm_endT p.1 (by omega) r
    rw [elm_plain _ 0 _ hi rfl, he]
    simp only
    intro h
    have := byt_app_ge (endT p.1) r 0
    rw [Nat.add_zero] at this
    rw [this] at h
    exact hr h.2.1
theorem spT_pos (p : Nat × Nat) : 0 < (spT p).length := by unfold spT; rw [List.length_append]; have := endT_pos p.1; omega
/-- The first byte of spans and what closes them. -/
theorem spans_first (l : List (Nat × Nat)) (hl : ∀ p ∈ l, p.1 ≤ p.2 ∧ p.2 < 256) (r : List UInt8) (b : Nat) (hb : ohas punctSet b = true) (h1 : b ≠ 91) (h3 : b ≠ 93) : byt (l.flatMap spT ++ (93 :: r)) 0 ≠ b := by
  cases l with
  | nil => exact fun e => h3 e.symm
  | cons p l =>
    have hp := hl p List.mem_cons_self
    rw [List.flatMap_cons]
    unfold spT
    rw [List.append_assoc, List.append_assoc]
    exact endT_not p.1 (by omega) _ b hb h1
/-- Spans in brackets are read as their union. -/
theorem rst_spans : ∀ (l : List (Nat × Nat)) (fl : Bool) (acc : OSet) (r : List UInt8), (∀ p ∈ l, p.1 ≤ p.2 ∧ p.2 < 256) → (fl = false ∨ l ≠ []) → rst (l.flatMap spT ++ (93 :: r)) fl 0 acc = .ok (l.foldl (fun s p => s ||| oSpan p.1 p.2) acc, (l.flatMap spT).length + 1)
  | [], fl, acc, r, _, h => by
    have hf : fl = false := h.resolve_right (fun e => e rfl)
    subst hf
    rw [rst]
    rw [if_pos ⟨rfl, by simp, rfl⟩]
    rfl
  | p :: l, fl, acc, r, hl, _ => by
    have hp := hl p List.mem_cons_self
    have hl2 : ∀ q ∈ l, q.1 ≤ q.2 ∧ q.2 < 256 := fun q hq => hl q (List.mem_cons_of_mem _ hq)
    have hn : ¬ (fl = false ∧ 0 < ((p :: l).flatMap spT ++ (93 :: r)).length ∧ byt ((p :: l).flatMap spT ++ (93 :: r)) 0 = 93) := by
      intro h
      rw [List.flatMap_cons] at h
      unfold spT at h
      rw [List.append_assoc, List.append_assoc] at h
      exact endT_not p.1 (by omega) _ 93 punct_93 (by decide) h.2.2
    have he : elm ((p :: l).flatMap spT ++ (93 :: r)) 0 = .ok (oSpan p.1 p.2, (spT p).length) := by
      rw [List.flatMap_cons, List.append_assoc]
      exact elm_spT p hp.1 hp.2 _ (spans_first l hl2 r 45 punct_45 (by decide) (by decide))
    rw [rst_ok _ _ _ _ _ _ hn he]
    have ih := rst_spans l false (acc ||| oSpan p.1 p.2) r hl2 (.inl rfl)
    have ha := rst_app (spT p) (l.flatMap spT ++ (93 :: r)) false 0 (acc ||| oSpan p.1 p.2)
    rw [ih, Nat.zero_add] at ha
    rw [List.flatMap_cons, List.append_assoc, ha]
    unfold elU
    rw [List.foldl_cons, List.length_append]
    show Except.ok (_, (l.flatMap spT).length + 1 + (spT p).length) = Except.ok (_, (spT p).length + (l.flatMap spT).length + 1)
    rw [show (l.flatMap spT).length + 1 + (spT p).length = (spT p).length + (l.flatMap spT).length + 1 by omega]
theorem ocnt_mono (s : OSet) (a : Nat) : ∀ b, a ≤ b → ocnt s a ≤ ocnt s b
  | 0, h => by obtain rfl : a = 0 := by omega
               exact Nat.le_refl _
  | b + 1, h => by
    by_cases e : a = b + 1
    · rw [e]; exact Nat.le_refl _
    · have := ocnt_mono s a b (by omega)
      show _ ≤ ocnt s b + _
      omega
theorem ocnt_has (s : OSet) (a : Nat) (h : ohas s a = true) : ocnt s a + 1 = ocnt s (a + 1) := by show _ = ocnt s a + (ohas s a).toNat; rw [h]; rfl
theorem olen_zero (s : OSet) (h : olen s = 0) : s = oz := by
  apply BitVec.eq_of_getLsbD_eq
  intro i hi
  cases hh : ohas s i with
  | true =>
    have h1 := ocnt_has s i hh
    have h2 := ocnt_mono s (i + 1) 256 (by omega)
    unfold olen at h
    omega
  | false =>
    unfold ohas at hh
    rw [hh]
    simp [oz]
theorem olen_full (s : OSet) (h : olen s = 256) : s = oSpan 0 255 := by
  have h1 := olen_not s
  have h2 := olen_zero (~~~s) (by omega)
  have h3 : s = ~~~oz := by rw [← h2]; simp
  have h4 : ~~~oz = oSpan 0 255 := by kernel_rfl
  exact h3.trans h4
theorem olen_one (s : OSet) (h : olen s = 1) : ∃ c, c < 256 ∧ lst s = c ∧ s = oSpan (c : Int) (c : Int) := by
  cases hs : sps s with
  | nil =>
    have := sps_nil s hs
    subst this
    rw [show olen oz = 0 from by kernel_rfl] at h
    cases h
  | cons p l =>
    obtain ⟨h1, h2, h3⟩ := sps_first s p l hs
    refine ⟨p.1, h1, by unfold lst; rw [hs], ?_⟩
    apply BitVec.eq_of_getLsbD_eq
    intro i hi
    have ho := one_has p.1 i h1
    unfold ohas at ho
    rw [ho]
    by_cases e : i = p.1
    · subst e
      unfold ohas at h2
      rw [h2]
      simp
    · cases hh : ohas s i with
      | false =>
        unfold ohas at hh
        rw [hh]
        symm
        simp
        omega
      | true =>
        exfalso
        have h4 := ocnt_has s p.1 h2
        have h5 := ocnt_has s i hh
        unfold olen at h
        rcases Nat.lt_or_gt_of_ne e with hlt | hlt
        · have h6 := ocnt_mono s (i + 1) p.1 (by omega)
          have h7 := ocnt_mono s (p.1 + 1) 256 (by omega)
          omega
        · have h6 := ocnt_mono s (p.1 + 1) i (by omega)
          have h7 := ocnt_mono s (i + 1) 256 (by omega)
          omega
theorem sps_le (s : OSet) : ∀ p ∈ sps s, p.1 ≤ p.2 ∧ p.2 < 256 := (spOk s 256).le
/-- A bracket is read as its set. -/
theorem prs_br (neg : Bool) (t : OSet) (ht : t ≠ oz) : prs (brT neg t) 1 = (if neg then ~~~t else t, ((brT neg t).length : Int), 0) := by
  have hne : sps t ≠ [] := fun e => ht (sps_nil t e)
  have hr := rst_spans (sps t) true oz [] (sps_le t) (.inr hne)
  rw [show (sps t).foldl (fun s p => s ||| oSpan p.1 p.2) oz = t from unn_sps t] at hr
  cases neg with
  | false =>
    have hb : brT false t = [91] ++ ((sps t).flatMap spT ++ [93]) := rfl
    have hc : car (brT false t) 1 = false := by
      unfold car
      have h1 := byt_app [91] ((sps t).flatMap spT ++ [93]) 0
      rw [hb]
      simp only [List.length_cons, List.length_nil, Nat.zero_add] at h1
      rw [h1, decide_eq_false (spans_first (sps t) (sps_le t) [] 94 punct_94 (by decide) (by decide))]
      simp
    have ha := rst_app [91] ((sps t).flatMap spT ++ [93]) true 0 oz
    rw [hr] at ha
    have hp := prs_ok (brT false t) 1 (by rw [hb]; simp) t _ (by rw [hc, if_neg Bool.false_ne_true, hb]; exact ha)
    rw [hc] at hp
    rw [show ((1 : Nat) : Int) = 1 from rfl] at hp
    rw [hp, hb]
    simp
  | true =>
    have hb : brT true t = [91, 94] ++ ((sps t).flatMap spT ++ [93]) := rfl
    have hc : car (brT true t) 1 = true := by
      unfold car
      rw [hb]
      simp
      rfl
    have ha := rst_app [91, 94] ((sps t).flatMap spT ++ [93]) true 0 oz
    rw [hr] at ha
    have hp := prs_ok (brT true t) 1 (by rw [hb]; simp) t _ (by rw [hc, if_pos rfl, hb]; exact ha)
    rw [hc] at hp
    rw [show ((1 : Nat) : Int) = 1 from rfl] at hp
    rw [hp, hb]
    simp
    omega
/-- A text that is one atom. -/
theorem parse_atom (s : List UInt8) (d : Nd) (hl : s.length ≤ 250) (h0 : 0 < s.length) (hd : inCat d = true) (hf : ∀ b ∈ [124, 94, 36, 123, 43, 63, 42], byt s 0 ≠ b)
    (ha : atomM true s (some (regM true s 11)) reZero = .ok (reZero.to s.length, d)) : parseM true s = .ok (reZero.to s.length, d) := by
  have hch : ∀ b ∈ [124, 94, 36, 123, 43, 63, 42], chAt s 0 b = false := fun b hb => by unfold chAt; rw [decide_eq_false (hf b hb), Bool.and_false]
  have hend : ∀ b, chAt s s.length b = false := fun b => by unfold chAt; rw [decide_eq_false (by omega), Bool.false_and]
  have hop : ∀ k b, opAt true s k b = chAt s k b := fun k b => rfl
  have h124 := hch 124 (by simp)
  have h94 := hch 94 (by simp)
  have h36 := hch 36 (by simp)
  have h123 := hch 123 (by simp)
  have h43 := hch 43 (by simp)
  have h63 := hch 63 (by simp)
  have h42 := hch 42 (by simp)
  have hrep : repAt true s s.length = .none := by unfold repAt; simp only [hop, hend]; rfl
  have hb : branchM true s (some (regM true s 11)) true 0 (s.length + 1) reZero [] true = .ok (reZero.to s.length, d) := by
    rw [branchM]
    rw [if_neg (by rw [hop, hop, show reZero.pos = 0 from rfl, h124, decide_eq_false (by omega)]; simp), if_neg (by rw [show reZero.pos = 0 from rfl, h94]; simp), if_neg (by rw [show reZero.pos = 0 from rfl, h36]; simp), if_neg (by rw [hop, hop, hop, show reZero.pos = 0 from rfl, h123, h43, h63, h42]; simp), ha]
    simp only
    rw [show repM true s (s.length + 1) (reZero.to s.length) d = .ok (reZero.to s.length, d) by rw [repM, show (reZero.to s.length).pos = s.length from rfl, hrep]]
    simp only
    obtain ⟨m, hm⟩ : ∃ m, s.length = m + 1 := ⟨s.length - 1, by omega⟩
    rw [hm, branchM, ← hm, if_pos (by rw [show (reZero.to s.length).pos = s.length from rfl, decide_eq_true (Nat.le_refl _)]; rfl)]
    congr 2
    show njoin [d] = d
    unfold njoin
    rw [jflat_all [d] (by simp [hd])]
  unfold parseM
  rw [if_neg (by omega), choiceM, show reZero.pos = 0 from rfl, hb]
  simp only
  rw [if_neg (by rw [hop, show (reZero.to s.length).pos = s.length from rfl, hend]; simp)]
  congr 2
  show nchoose [d] = d
  unfold nchoose
  rw [cflat_all [d] (by simp [cat_alt hd])]
theorem punct_digs : (List.range 9).all (fun i => !ohas punctSet (49 + i)) = true := by kernel_rfl
theorem atom_byte (x : Nat) (hx : x < 256) (hp : ohas punctSet x = false) : parseM true [UInt8.ofNat x] = .ok (reZero.to 1, .one (oSpan (x : Int) (x : Int))) := by
  have hb : byt [UInt8.ofNat x] 0 = x := by simp [byt]; omega
  have hne : ∀ b, ohas punctSet b = true → x ≠ b := fun b hb e => by rw [e, hb] at hp; cases hp
  have hc : ∀ b, ohas punctSet b = true → chAt [UInt8.ofNat x] 0 b = false := fun b hbp => by unfold chAt; rw [hb, decide_eq_false (hne b hbp), Bool.and_false]
  refine parse_atom _ _ (by simp) (by simp) rfl ?_ ?_
  · intro b hbm
    rw [hb]
    refine hne b ?_
    simp at hbm
    rcases hbm with rfl | rfl | rfl | rfl | rfl | rfl | rfl <;> kernel_rfl
  · unfold atomM
    rw [show opAt true [UInt8.ofNat x] reZero.pos 40 = false from hc 40 (by kernel_rfl), show opAt true [UInt8.ofNat x] reZero.pos 41 = false from hc 41 (by kernel_rfl), show chAt [UInt8.ofNat x] reZero.pos 91 = false from hc 91 (by kernel_rfl), show chAt [UInt8.ofNat x] reZero.pos 46 = false from hc 46 (by kernel_rfl), show chAt [UInt8.ofNat x] reZero.pos 92 = false from hc 92 (by kernel_rfl), show byt [UInt8.ofNat x] reZero.pos = x from hb]
    rfl
theorem atom_esc (x y : Nat) (hy : y < 256) (h : escSet y = some (oSpan (x : Int) (x : Int), false)) (h9 : ¬ (49 ≤ y ∧ y ≤ 57)) : parseM true [92, UInt8.ofNat y] = .ok (reZero.to 2, .one (oSpan (x : Int) (x : Int))) := by
  have hb : byt [92, UInt8.ofNat y] 1 = y := by simp [byt]; omega
  refine parse_atom _ _ (by simp) (by simp) rfl ?_ ?_
  · intro b hbm
    rw [show byt [92, UInt8.ofNat y] 0 = 92 from rfl]
    simp at hbm
    rcases hbm with rfl | rfl | rfl | rfl | rfl | rfl | rfl <;> decide
  · unfold atomM
    rw [show opAt true [92, UInt8.ofNat y] reZero.pos 40 = false from rfl, show opAt true [92, UInt8.ofNat y] reZero.pos 41 = false from rfl, show chAt [92, UInt8.ofNat y] reZero.pos 91 = false from rfl, show chAt [92, UInt8.ofNat y] reZero.pos 46 = false from rfl, show chAt [92, UInt8.ofNat y] reZero.pos 92 = true from rfl, show byt [92, UInt8.ofNat y] (reZero.pos + 1) = y from hb]
    simp only [Bool.false_eq_true, if_false, if_true]
    rw [if_pos (by simp [reZero])]
    unfold escM
    rw [if_neg h9, h]
    rfl
/-- What is shown of a set is read as a One of it. -/
theorem set_back (s : OSet) (hl : (setT s).length ≤ 250) : parseM true (setT s) = .ok (reZero.to (setT s).length, .one s) := by
  by_cases h256 : olen s = 256
  · have hs := olen_full s h256
    have ht : setT s = [46] := by unfold setT; rw [if_pos h256]
    rw [ht, hs]
    exact parse_atom [46] (.one (oSpan 0 255)) (by simp) (by simp) rfl (by intro b hbm; simp at hbm; rcases hbm with rfl | rfl | rfl | rfl | rfl | rfl | rfl <;> decide) rfl
  · by_cases h1 : olen s = 1
    · obtain ⟨c, hc, hlst, hs⟩ := olen_one s h1
      have ht : setT s = byT c := by unfold setT; rw [if_neg h256, if_pos h1, hlst]
      rw [ht, hs]
      unfold byT
      by_cases h10 : c = 10
      · subst h10
        exact atom_esc 10 110 (by decide) rfl (by decide)
      · rw [if_neg h10]
        cases hp : ohas punctSet c with
        | true =>
          have hq : ¬ (49 ≤ c ∧ c ≤ 57) := fun h => by
            have h3 := List.all_eq_true.1 punct_digs (c - 49) (List.mem_range.2 (by omega))
            rw [show 49 + (c - 49) = c by omega, hp] at h3
            cases h3
          have hne : ∀ b, ohas punctSet b = false → c ≠ b := fun b hb e => by rw [e, hb] at hp; cases hp
          refine atom_esc c c hc ?_ hq
          unfold escSet
          rw [if_neg (hne 110 (by kernel_rfl)), if_neg (hne 116 (by kernel_rfl)), if_neg (hne 119 (by kernel_rfl)), if_neg (hne 87 (by kernel_rfl)), if_neg (hne 115 (by kernel_rfl)), if_neg (hne 83 (by kernel_rfl)), if_pos hp]
        | false => exact atom_byte c hc hp
    · have ho : ∃ neg t, setT s = brT neg t ∧ t ≠ oz ∧ (if neg then ~~~t else t) = s := by
        unfold setT
        rw [if_neg h256, if_neg h1]
        cases ho : othT s with
        | true =>
          refine ⟨true, ~~~s, rfl, fun e => h256 ?_, by simp⟩
          have := olen_not s
          rw [e, show olen oz = 0 from by kernel_rfl] at this
          omega
        | false =>
          refine ⟨false, s, rfl, fun e => ?_, rfl⟩
          subst e
          rw [show othT oz = true from by kernel_rfl] at ho
          cases ho
      obtain ⟨neg, t, ht, htz, hts⟩ := ho
      have hp := prs_br neg t htz
      rw [ht] at hl ⊢
      rw [hts] at hp
      have h0 : byt (brT neg t) 0 = 91 := rfl
      have hlen : 0 < (brT neg t).length := by unfold brT; simp
      refine parse_atom _ _ hl hlen rfl ?_ ?_
      · intro b hbm
        rw [h0]
        simp at hbm
        rcases hbm with rfl | rfl | rfl | rfl | rfl | rfl | rfl <;> decide
      · have hc : ∀ b, b ≠ 91 → chAt (brT neg t) 0 b = false := fun b hb => by unfold chAt; rw [h0, Bool.and_eq_false_iff]; exact .inr (decide_eq_false (fun e => hb e.symm))
        have hc1 : chAt (brT neg t) 0 91 = true := by unfold chAt; rw [h0, decide_eq_true hlen]; rfl
        unfold atomM
        rw [show opAt true (brT neg t) reZero.pos 40 = false from hc 40 (by decide), show opAt true (brT neg t) reZero.pos 41 = false from hc 41 (by decide), show chAt (brT neg t) reZero.pos 91 = true from hc1, show ((reZero.pos : Int) + 1) = 1 from rfl, hp]
        rfl
theorem ohas_not (s : OSet) (b : Nat) (hb : b < 256) : ohas (~~~s) b = !ohas s b := by
  unfold ohas
  rw [BitVec.getLsbD_not, decide_eq_true hb, Bool.true_and]
/-- The same question, as the document asks it. -/
def othD (s : OSet) : Bool := if ((decide (128 < olen s) || decide (olen s = 0)) != ohas s 10) && ((ohas s 9 != ohas s 10) || (ohas s 11 != ohas s 10)) then !(decide (128 < olen s) || decide (olen s = 0)) else (decide (128 < olen s) || decide (olen s = 0))
theorem oth_doc (s : OSet) : othD s = othT s := by
  unfold othD othT lineB
  rw [ohas_not s 10 (by omega), ohas_not s 9 (by omega), ohas_not s 11 (by omega)]
  by_cases h : 1 ≤ olen s ∧ olen s ≤ 128
  · rw [if_pos h, decide_eq_false (show ¬ 128 < olen s by omega), decide_eq_false (show ¬ olen s = 0 by omega)]
    cases ohas s 10 <;> cases ohas s 9 <;> cases ohas s 11 <;> rfl
  · have ho : (decide (128 < olen s) || decide (olen s = 0)) = true := by
      by_cases h2 : 128 < olen s
      · rw [decide_eq_true h2]; rfl
      · rw [decide_eq_true (show olen s = 0 by omega), Bool.or_true]
    rw [if_neg h, ho]
    cases ohas s 10 <;> cases ohas s 9 <;> cases ohas s 11 <;> rfl
end Go.Proofs.Ytjjhkagpoicimaa
namespace Go.Proofs.Ytjjhkagpoicimaa

/-- What stands at a place, to the end. -/
def Ahd (s : List UInt8) (k : Nat) (x : List UInt8) : Prop := k ≤ s.length ∧ s.drop k = x
theorem Ahd.len {s : List UInt8} {k : Nat} {x : List UInt8} (h : Ahd s k x) : s.length = k + x.length := by
  have := congrArg List.length h.2
  rw [List.length_drop] at this
  have := h.1
  omega
theorem Ahd.next {s : List UInt8} {k : Nat} {a x : List UInt8} (h : Ahd s k (a ++ x)) : Ahd s (k + a.length) x := by
  have hl := h.len
  rw [List.length_append] at hl
  refine ⟨by omega, ?_⟩
  rw [← List.drop_drop, h.2, List.drop_left]
theorem Ahd.byt {s : List UInt8} {k : Nat} {x : List UInt8} (h : Ahd s k x) (i : Nat) : byt s (k + i) = Go.Proofs.Ytjjhkagpoicimaa.byt x i := by rw [← h.2, drop_byt]
theorem Ahd.ch {s : List UInt8} {k : Nat} {x : List UInt8} (h : Ahd s k x) (i b : Nat) : chAt s (k + i) b = chAt x i b := by rw [← h.2, drop_ch]
theorem Ahd.ch0 {s : List UInt8} {k : Nat} {x : List UInt8} (h : Ahd s k x) (b : Nat) : chAt s k b = chAt x 0 b := h.ch 0 b
theorem Ahd.op0 {s : List UInt8} {k : Nat} {x : List UInt8} (h : Ahd s k x) (b : Nat) : opAt true s k b = chAt x 0 b := h.ch 0 b
theorem Ahd.split {s : List UInt8} {k : Nat} {x : List UInt8} (h : Ahd s k x) : s = s.take k ++ x ∧ (s.take k).length = k := by
  refine ⟨by rw [← h.2, List.take_append_drop], ?_⟩
  rw [List.length_take]
  have := h.1
  omega
theorem ch_nil (i b : Nat) : chAt [] i b = false := by unfold chAt; simp
theorem ch_cons (c : UInt8) (x : List UInt8) (b : Nat) : chAt (c :: x) 0 b = decide (c.toNat = b) := by
  unfold chAt
  rw [decide_eq_true (by simp), Bool.true_and]
  rfl
def brI (neg : Bool) (s : OSet) : List UInt8 := (if neg then [94] else []) ++ (sps s).flatMap spT ++ [93]
theorem prs_br0 (neg : Bool) (t : OSet) (ht : t ≠ oz) : prs (brI neg t) 0 = (if neg then ~~~t else t, ((brI neg t).length : Int), 0) := by
  have hne : sps t ≠ [] := fun e => ht (sps_nil t e)
  have hr := rst_spans (sps t) true oz [] (sps_le t) (.inr hne)
  rw [show (sps t).foldl (fun s p => s ||| oSpan p.1 p.2) oz = t from unn_sps t] at hr
  cases neg with
  | false =>
    have hb : brI false t = (sps t).flatMap spT ++ [93] := rfl
    have hc : car (brI false t) 0 = false := by
      unfold car
      rw [hb, decide_eq_false (spans_first (sps t) (sps_le t) [] 94 punct_94 (by decide) (by decide))]
      simp
    have hp := prs_ok (brI false t) 0 (by omega) t _ (by rw [hc, if_neg Bool.false_ne_true, hb]; exact hr)
    rw [hc] at hp
    rw [show ((0 : Nat) : Int) = 0 from rfl] at hp
    rw [hp, hb]
    simp
  | true =>
    have hb : brI true t = [94] ++ ((sps t).flatMap spT ++ [93]) := rfl
    have hc : car (brI true t) 0 = true := by
      unfold car
      rw [hb]
      simp
      rfl
    have ha := rst_app [94] ((sps t).flatMap spT ++ [93]) true 0 oz
    rw [hr] at ha
    have hp := prs_ok (brI true t) 0 (by omega) t _ (by rw [hc, if_pos rfl, hb]; exact ha)
    rw [hc] at hp
    rw [show ((0 : Nat) : Int) = 0 from rfl] at hp
    rw [hp, hb]
    simp
/-- The inner of a bracket, wherever it stands. -/
theorem prs_in (neg : Bool) (t : OSet) (ht : t ≠ oz) (p r : List UInt8) : prs (p ++ brT neg t ++ r) ((p.length : Int) + 1) = (if neg then ~~~t else t, ((p.length + (brT neg t).length : Nat) : Int), 0) := by
  have h0 := prs_br0 neg t ht
  have hi : brT neg t = 91 :: brI neg t := rfl
  obtain ⟨t2, j2, e2, h7, h8⟩ := prs_behind (p ++ [91]) (brI neg t) r
  rw [h0] at h7
  injection h7 with h9 h10
  injection h10 with h10 h11
  rcases h8 with h8 | ⟨_, _, h8⟩
  · exact absurd h11.symm h8
  · rw [hi, show p ++ 91 :: brI neg t ++ r = p ++ [91] ++ brI neg t ++ r by simp, show ((p.length : Int) + 1) = ((p ++ [91]).length : Int) by simp, h8, ← h9]
    simp at h10 ⊢
    omega
/-- The first byte of a set's text is none that means something else. -/
theorem setT_first (s : OSet) (b : Nat) (hb : b = 124 ∨ b = 94 ∨ b = 36 ∨ b = 123 ∨ b = 43 ∨ b = 63 ∨ b = 42 ∨ b = 41 ∨ b = 40) (r : List UInt8) : chAt (setT s ++ r) 0 b = false := by
  have hp : ohas punctSet b = true := by rcases hb with rfl | rfl | rfl | rfl | rfl | rfl | rfl | rfl | rfl <;> kernel_rfl
  have h91 : b ≠ 91 := by omega
  have h92 : b ≠ 92 := by omega
  have h46 : b ≠ 46 := by omega
  unfold setT
  split
  · rw [List.cons_append, ch_cons]; exact decide_eq_false (fun e => h46 e.symm)
  · split
    · rename_i h1
      obtain ⟨c, hc, hlst, _⟩ := olen_one s h1
      rw [hlst]
      unfold byT
      split
      · rw [List.cons_append, ch_cons]; exact decide_eq_false (fun e => h92 e.symm)
      · cases hq : ohas punctSet c with
        | true =>
          rw [if_pos rfl, List.cons_append, ch_cons]
          exact decide_eq_false (fun e => h92 e.symm)
        | false =>
          rw [if_neg Bool.false_ne_true, List.cons_append, ch_cons]
          refine decide_eq_false (fun e => ?_)
          rw [ofNat_byt c hc] at e
          rw [e, hp] at hq
          cases hq
    · split <;> (rw [show ∀ neg t, brT neg t ++ r = 91 :: (brI neg t ++ r) from fun _ _ => rfl, ch_cons]; exact decide_eq_false (fun e => h91 e.symm))
theorem setT_ne (s : OSet) : setT s ≠ [] := by
  unfold setT
  split
  · simp
  · split
    · unfold byT
      split
      · simp
      · split <;> simp
    · split <;> simp [brT]
/-- A set's text is read as a One, wherever it stands. -/
theorem atom_set_at (s : List UInt8) (sub : Option (ReSt → ReRes (ReSt × Nd))) (st : ReSt) (t : OSet) (r : List UInt8) (h : Ahd s st.pos (setT t ++ r)) : atomM true s sub st = .ok (st.to (st.pos + (setT t).length), .one t) := by
  have h40 : opAt true s st.pos 40 = false := (h.op0 40).trans (setT_first t 40 (by omega) r)
  have h41 : opAt true s st.pos 41 = false := (h.op0 41).trans (setT_first t 41 (by omega) r)
  unfold atomM
  rw [h40, h41]
  simp only [Bool.false_eq_true, if_false]
  have hlen := h.len
  by_cases h256 : olen t = 256
  · have hs := olen_full t h256
    have ht : setT t = [46] := by unfold setT; rw [if_pos h256]
    rw [ht] at h ⊢
    rw [h.ch0 91, h.ch0 46, show chAt ([46] ++ r) 0 91 = false from rfl, show chAt ([46] ++ r) 0 46 = true from rfl, ← hs]
    rfl
  · by_cases h1 : olen t = 1
    · obtain ⟨c, hc, hlst, hs⟩ := olen_one t h1
      have ht : setT t = byT c := by unfold setT; rw [if_neg h256, if_pos h1, hlst]
      rw [ht] at h hlen ⊢
      unfold byT at h hlen ⊢
      by_cases h10 : c = 10
      · subst h10
        rw [if_pos rfl] at h hlen ⊢
        rw [h.ch0 91, h.ch0 46, h.ch0 92, show chAt ([92, 110] ++ r) 0 91 = false from rfl, show chAt ([92, 110] ++ r) 0 46 = false from rfl, show chAt ([92, 110] ++ r) 0 92 = true from rfl, h.byt 1, show byt ([92, 110] ++ r) 1 = 110 from rfl]
        simp only [Bool.false_eq_true, if_false, if_true]
        rw [if_pos (by rw [hlen]; simp), hs]
        rfl
      · rw [if_neg h10] at h hlen ⊢
        cases hp : ohas punctSet c with
        | true =>
          rw [hp, if_pos rfl] at h hlen
          rw [if_pos rfl]
          have hq : ¬ (49 ≤ c ∧ c ≤ 57) := fun h => by
            have h3 := List.all_eq_true.1 punct_digs (c - 49) (List.mem_range.2 (by omega))
            rw [show 49 + (c - 49) = c by omega, hp] at h3
            cases h3
          have hne : ∀ b, ohas punctSet b = false → c ≠ b := fun b hb e => by rw [e, hb] at hp; cases hp
          have hb1 : byt s (st.pos + 1) = c := by rw [h.byt 1]; show (UInt8.ofNat c).toNat = c; exact ofNat_byt c hc
          rw [h.ch0 91, h.ch0 46, h.ch0 92, show chAt ([92, UInt8.ofNat c] ++ r) 0 91 = false from rfl, show chAt ([92, UInt8.ofNat c] ++ r) 0 46 = false from rfl, show chAt ([92, UInt8.ofNat c] ++ r) 0 92 = true from rfl, hb1]
          simp only [Bool.false_eq_true, if_false, if_true]
          rw [if_pos (by rw [hlen]; simp)]
          unfold escM
          rw [if_neg hq]
          unfold escSet
          rw [if_neg (hne 110 (by kernel_rfl)), if_neg (hne 116 (by kernel_rfl)), if_neg (hne 119 (by kernel_rfl)), if_neg (hne 87 (by kernel_rfl)), if_neg (hne 115 (by kernel_rfl)), if_neg (hne 83 (by kernel_rfl)), if_pos hp, hs]
          rfl
        | false =>
          rw [hp, if_neg Bool.false_ne_true] at h hlen
          rw [if_neg Bool.false_ne_true]
          have hne : ∀ b, ohas punctSet b = true → ¬ (UInt8.ofNat c).toNat = b := fun b hb e => by rw [ofNat_byt c hc] at e; rw [e, hb] at hp; cases hp
          have hb1 : byt s st.pos = c := by have := h.byt 0; rw [Nat.add_zero] at this; rw [this]; show (UInt8.ofNat c).toNat = c; exact ofNat_byt c hc
          rw [h.ch0 91, h.ch0 46, h.ch0 92, List.singleton_append, ch_cons, ch_cons, ch_cons, decide_eq_false (hne 91 (by kernel_rfl)), decide_eq_false (hne 46 (by kernel_rfl)), decide_eq_false (hne 92 (by kernel_rfl)), hb1, hs]
          rfl
    · have ho : ∃ neg u, setT t = brT neg u ∧ u ≠ oz ∧ (if neg then ~~~u else u) = t := by
        unfold setT
        rw [if_neg h256, if_neg h1]
        cases ho : othT t with
        | true =>
          refine ⟨true, ~~~t, rfl, fun e => h256 ?_, by simp⟩
          have := olen_not t
          rw [e, show olen oz = 0 from by kernel_rfl] at this
          omega
        | false =>
          refine ⟨false, t, rfl, fun e => ?_, rfl⟩
          subst e
          rw [show othT oz = true from by kernel_rfl] at ho
          cases ho
      obtain ⟨neg, u, ht, htz, hts⟩ := ho
      rw [ht] at h ⊢
      obtain ⟨hsp, hpl⟩ := h.split
      have hp := prs_in neg u htz (s.take st.pos) r
      rw [List.append_assoc, ← hsp, hpl, hts] at hp
      rw [h.ch0 91, show chAt (brT neg u ++ r) 0 91 = true from by rw [show brT neg u ++ r = 91 :: (brI neg u ++ r) from rfl, ch_cons]; rfl, hp]
      rfl
/-- Digits at a place. -/
theorem num_at (L : List UInt8) (k n : Nat) (hn : n ≤ 255) (r : List UInt8) (h : L.drop k = dec n ++ r) (hr : isDig r 0 = false) : numAt L k = (n, (dec n).length) := by
  have h1 := drop_num L k 0
  rw [Nat.add_zero] at h1
  rw [← h1, h, (num_yes _ _ (okNum_dec n hn r hr)).1, digs_dec n (by omega) r hr]
theorem num_none (L : List UInt8) (k : Nat) (r : List UInt8) (h : L.drop k = r) (hr : isDig r 0 = false) : (numAt L k).2 = 0 := by
  have h1 := drop_num L k 0
  rw [Nat.add_zero] at h1
  rw [← h1, h]
  exact num_no _ _ (by unfold okNum; rw [digs_stop _ _ _ hr]; rfl)
/-- How often, as a text. -/
def timesT (mn mx : Int) : List UInt8 :=
  if mn = 0 ∧ mx = -1 then [42] else if mn = 1 ∧ mx = -1 then [43] else if mn = 0 ∧ mx = 1 then [63]
  else 123 :: (dec mn.toNat ++ ((if mn = mx then [] else if mx = -1 then [44] else 44 :: dec mx.toNat) ++ [125]))
theorem rep_times (s : List UInt8) (k : Nat) (mn mx : Int) (r : List UInt8) (h : Ahd s k (timesT mn mx ++ r)) (ho : okRep mn mx = true) : repAt true s k = .some mn mx 0 (k + (timesT mn mx).length) := by
  unfold okRep at ho
  simp only [Bool.and_eq_true, Bool.or_eq_true, decide_eq_true_eq] at ho
  unfold timesT at h ⊢
  unfold repAt
  split at h
  · rename_i hc
    rw [if_pos hc, h.ch0 42, show chAt ([42] ++ r) 0 42 = true from rfl, hc.1, hc.2]
    rfl
  · rename_i h1
    rw [if_neg h1]
    split at h
    · rename_i hc
      rw [if_pos hc, h.ch0 42, h.op0 43, show chAt ([43] ++ r) 0 42 = false from rfl, show chAt ([43] ++ r) 0 43 = true from rfl, hc.1, hc.2]
      rfl
    · rename_i h2
      rw [if_neg h2]
      split at h
      · rename_i hc
        rw [if_pos hc, h.ch0 42, h.op0 43, h.op0 63, show chAt ([63] ++ r) 0 42 = false from rfl, show chAt ([63] ++ r) 0 43 = false from rfl, show chAt ([63] ++ r) 0 63 = true from rfl, hc.1, hc.2]
        rfl
      · rename_i h3
        rw [if_neg h3]
        generalize hX : (if mn = mx then [] else if mx = -1 then [44] else 44 :: dec mx.toNat) = X at h ⊢
        rw [h.ch0 42, h.op0 43, h.op0 63, h.op0 123, List.cons_append, ch_cons, ch_cons, ch_cons, ch_cons]
        simp only [show (123 : UInt8).toNat = 123 from rfl]
        have hm : ((mn.toNat : Nat) : Int) = mn := by omega
        have hn : mn.toNat ≤ 255 := by omega
        have hk1 : Ahd s (k + 1) (dec mn.toNat ++ (X ++ (125 :: r))) := by
          have := Ahd.next (a := [123]) (x := dec mn.toNat ++ (X ++ (125 :: r))) (by rw [List.singleton_append]; simpa using h)
          exact this
        have hk2 := hk1.next
        have hd : isDig (X ++ (125 :: r)) 0 = false := by
          rw [← hX]
          split
          · rfl
          · split <;> rfl
        have hnum := num_at s (k + 1) mn.toNat hn _ hk1.2 hd
        have hi : intv true s (k + opLen true) = some (mn, mx, k + 1 + (dec mn.toNat).length + X.length + 1) := by
          unfold intv
          rw [show k + opLen true = k + 1 from rfl, hnum]
          have hl := dec_len mn.toNat
          simp only
          rw [if_neg (by omega)]
          split at hX
          · rename_i he
            subst hX
            rw [hk2.ch0 44, show chAt ([] ++ 125 :: r) 0 44 = false from rfl]
            simp only [Bool.false_eq_true, if_false]
            rw [hk2.op0 125, show chAt ([] ++ 125 :: r) 0 125 = true from rfl, hm, ← he]
            simp [opLen]
          · rename_i he
            split at hX
            · rename_i h4
              subst hX
              have hk3 : Ahd s (k + 1 + (dec mn.toNat).length + 1) (125 :: r) := Ahd.next (a := [44]) hk2
              rw [hk2.ch0 44, show chAt ([44] ++ 125 :: r) 0 44 = true from rfl]
              simp only [if_true]
              rw [num_none s _ _ hk3.2 rfl, if_pos rfl]
              simp only
              rw [hk3.op0 125, show chAt (125 :: r) 0 125 = true from rfl, hm, h4]
              simp [opLen]
            · rename_i h4
              subst hX
              have hx : ((mx.toNat : Nat) : Int) = mx := by omega
              have hk3 : Ahd s (k + 1 + (dec mn.toNat).length + 1) (dec mx.toNat ++ (125 :: r)) := Ahd.next (a := [44]) (x := dec mx.toNat ++ (125 :: r)) (by simpa using hk2)
              have hk4 := hk3.next
              rw [hk2.ch0 44, show chAt (44 :: dec mx.toNat ++ 125 :: r) 0 44 = true from rfl]
              simp only [if_true]
              rw [num_at s _ mx.toNat (by omega) _ hk3.2 rfl]
              have hl2 := dec_len mx.toNat
              simp only
              rw [if_neg (show ¬ (dec mx.toNat).length = 0 by omega)]
              simp only
              rw [hk4.op0 125, show chAt (125 :: r) 0 125 = true from rfl, hm, hx]
              rw [if_pos (by simp; omega)]
              simp [opLen]
              omega
        rw [hi]
        simp
        omega
end Go.Proofs.Ytjjhkagpoicimaa
namespace Go.Proofs.Ytjjhkagpoicimaa

mutual
/-- A tree as a text. -/
def nT : Nd → List UInt8
  | .empty => []
  | .one s => setT s
  | .cat l => nTs l
  | .alt l => (nTb l).drop 1
  | .rep d mn mx => nT d ++ timesT mn mx
  | .group _ d => 40 :: (nT d ++ [41])
  | .back n => 92 :: dec n.toNat
  | .start => [94]
  | .fin => [36]
def nTs : List Nd → List UInt8
  | [] => []
  | d :: ds => nT d ++ nTs ds
def nTb : List Nd → List UInt8
  | [] => []
  | d :: ds => 124 :: (nT d ++ nTb ds)
end
mutual
/-- May a tree be read back: its groups stand in no more others than these, its backs are digits. -/
def good : Nat → Nd → Bool
  | k, .group _ d => decide (0 < k) && good (k - 1) d
  | _, .back n => decide (1 ≤ n) && decide (n ≤ 9)
  | k, .rep d _ _ => good k d
  | k, .cat l => goods k l
  | k, .alt l => goods k l
  | _, .empty => true
  | _, .one _ => true
  | _, .start => true
  | _, .fin => true
def goods : Nat → List Nd → Bool
  | _, [] => true
  | k, d :: ds => good k d && goods k ds
end
/-- The bytes that mean something else behind an atom, or end a branch. -/
def spec (b : Nat) : Prop := b = 124 ∨ b = 41 ∨ b = 42 ∨ b = 43 ∨ b = 63 ∨ b = 123
theorem nT_first : ∀ (d : Nd) (o : Int) (c : List Int) (x : Int × List Int) (r : List UInt8) (b : Nat), nright d o c = some x → inCat d = true → spec b → chAt (nT d ++ r) 0 b = false
  | .one s, _, _, _, r, b, _, _, hb => setT_first s b (by unfold spec at hb; omega) r
  | .rep d mn mx, o, c, x, r, b, h, _, hb => by
    unfold nright at h
    split at h
    · rename_i hk
      rw [Bool.and_eq_true] at hk
      have hc : inCat d = true := by have := hk.2; cases d <;> first | rfl | cases this
      unfold nT
      rw [List.append_assoc]
      exact nT_first d o c x _ b h hc hb
    · cases h
  | .group n d, _, _, _, r, b, _, _, hb => by
    unfold nT
    rw [List.cons_append, ch_cons]
    exact decide_eq_false (by unfold spec at hb; show ¬ 40 = b; omega)
  | .back n, _, _, _, r, b, _, _, hb => by
    unfold nT
    rw [List.cons_append, ch_cons]
    exact decide_eq_false (by unfold spec at hb; show ¬ 92 = b; omega)
  | .start, _, _, _, r, b, _, _, hb => by
    unfold nT
    rw [List.cons_append, ch_cons]
    exact decide_eq_false (by unfold spec at hb; show ¬ 94 = b; omega)
  | .fin, _, _, _, r, b, _, _, hb => by
    unfold nT
    rw [List.cons_append, ch_cons]
    exact decide_eq_false (by unfold spec at hb; show ¬ 36 = b; omega)
/-- What may stand behind a branch, and behind a choice. -/
def StopB (top : Bool) (r : List UInt8) : Prop := r = [] ∨ ∃ r', r = 124 :: r' ∨ (r = 41 :: r' ∧ top = false)
def StopR (top : Bool) (r : List UInt8) : Prop := r = [] ∨ ∃ r', r = 41 :: r' ∧ top = false
theorem StopR.toB {top : Bool} {r : List UInt8} (h : StopR top r) : StopB top r := by
  rcases h with h | ⟨r', h⟩
  · exact .inl h
  · exact .inr ⟨r', .inr h⟩
theorem StopB.ch {top : Bool} {r : List UInt8} (h : StopB top r) (b : Nat) (hb : b ≠ 124) (h4 : b ≠ 41) : chAt r 0 b = false := by
  rcases h with rfl | ⟨r', rfl | ⟨rfl, _⟩⟩
  · exact ch_nil 0 b
  · rw [ch_cons]; exact decide_eq_false (fun e => hb e.symm)
  · rw [ch_cons]; exact decide_eq_false (fun e => h4 e.symm)
theorem StopB.stop {s : List UInt8} {k : Nat} {top : Bool} {r : List UInt8} (hA : Ahd s k r) (h : StopB top r) : (decide (s.length ≤ k) || opAt true s k 124 || (opAt true s k 41 && !top)) = true := by
  have hl := hA.len
  rw [hA.op0 124, hA.op0 41]
  rcases h with rfl | ⟨r', rfl | ⟨rfl, ht⟩⟩
  · simp at hl
    rw [decide_eq_true (by omega)]
    rfl
  · rw [ch_cons]
    simp
  · rw [ch_cons, ch_cons, ht]
    simp
/-- No repetition begins there. -/
theorem rep_none_of {s : List UInt8} {k : Nat} {x : List UInt8} (hA : Ahd s k x) (h : ∀ b, b = 42 ∨ b = 43 ∨ b = 63 ∨ b = 123 → chAt x 0 b = false) : repAt true s k = .none := by
  unfold repAt
  rw [hA.ch0 42, hA.op0 43, hA.op0 63, hA.op0 123, h 42 (by simp), h 43 (by simp), h 63 (by simp), h 123 (by simp)]
  rfl
/-- A choice is read as the tree. -/
def ReadC (s : List UInt8) (M : Nat) : Prop := ∀ (d : Nd) (k : Nat) (st : ReSt) (r : List UInt8) (x : Int × List Int) (n : Nat) (top : Bool), nsize d < M → good k d = true → nright d (st.opened : Int) st.closed = some x → Ahd s st.pos (nT d ++ r) → StopR top r → s.length < n + st.pos →
    ∃ st' : ReSt, choiceM true s (lvS true s k) top n st [] = .ok (st', d) ∧ st'.pos = st.pos + (nT d).length ∧ x = ((st'.opened : Int), st'.closed)
def isRep : Nd → Bool
  | .rep _ _ _ => true
  | _ => false
/-- An atom is read as the node. -/
theorem read_atom (s : List UInt8) (M : Nat) (hC : ReadC s M) (d : Nd) (k : Nat) (st : ReSt) (r : List UInt8) (x : Int × List Int) (hM : nsize d ≤ M) (hi : inRep d = true) (hr : isRep d = false) (hg : good k d = true) (hx : nright d (st.opened : Int) st.closed = some x) (hA : Ahd s st.pos (nT d ++ r)) :
    ∃ st' : ReSt, atomM true s (lvS true s k) st = .ok (st', d) ∧ st'.pos = st.pos + (nT d).length ∧ x = ((st'.opened : Int), st'.closed) := by
  cases d with
  | empty => cases hi
  | cat l => cases hi
  | alt l => cases hi
  | start => cases hi
  | fin => cases hi
  | rep d mn mx => cases hr
  | one t =>
    unfold nT at hA
    unfold nright at hx
    injection hx with hx
    refine ⟨_, atom_set_at s _ st t r hA, ?_, ?_⟩
    · unfold nT; rfl
    · exact hx.symm
  | back n =>
    unfold good at hg
    rw [Bool.and_eq_true, decide_eq_true_eq, decide_eq_true_eq] at hg
    unfold nright at hx
    split at hx
    · rename_i hc
      injection hx with hx
      have hd : dec n.toNat = [UInt8.ofNat (48 + n.toNat)] := dec_small _ (by omega)
      unfold nT at hA ⊢
      rw [hd] at hA ⊢
      have hb1 : byt s (st.pos + 1) = 48 + n.toNat := by rw [hA.byt 1]; show (UInt8.ofNat (48 + n.toNat)).toNat = _; exact ofNat_byt _ (by omega)
      have hl := hA.len
      have hq : ∀ b, chAt ([92, UInt8.ofNat (48 + n.toNat)] ++ r) 0 b = decide (92 = b) := fun b => ch_cons 92 _ b
      have q40 : opAt true s st.pos 40 = false := by rw [hA.op0 40, hq]; rfl
      have q41 : opAt true s st.pos 41 = false := by rw [hA.op0 41, hq]; rfl
      have q91 : chAt s st.pos 91 = false := by rw [hA.ch0 91, hq]; rfl
      have q46 : chAt s st.pos 46 = false := by rw [hA.ch0 46, hq]; rfl
      have q92 : chAt s st.pos 92 = true := by rw [hA.ch0 92, hq]; rfl
      have hlt : st.pos + 1 < s.length := by rw [hl]; simp
      have hn : ((48 + n.toNat : Nat) : Int) - 48 = n := by omega
      refine ⟨(st.mark (48 + n.toNat)).to (st.pos + 2), ?_, rfl, hx.symm⟩
      unfold atomM
      rw [q40, q41, q91, q46, q92, hb1]
      simp only [Bool.false_eq_true, if_false, if_true]
      rw [if_pos hlt]
      unfold escM
      rw [if_pos (show 49 ≤ 48 + n.toNat ∧ 48 + n.toNat ≤ 57 by omega), hn, if_pos hc]
      rfl
    · cases hx
  | group n d =>
    unfold good at hg
    rw [Bool.and_eq_true, decide_eq_true_eq] at hg
    obtain ⟨j, rfl⟩ : ∃ j, k = j + 1 := ⟨k - 1, by omega⟩
    unfold nright at hx
    split at hx
    · rename_i hn
      rw [Option.map_eq_some_iff] at hx
      obtain ⟨y, hy, hxy⟩ := hx
      unfold nT at hA ⊢
      have hA1 : Ahd s (st.pos + 1) (nT d ++ (41 :: r)) := by
        have := Ahd.next (a := [40]) (x := nT d ++ (41 :: r)) (by simpa using hA)
        exact this
      have hl := hA1.len
      obtain ⟨st1, h1, h2, h3⟩ := hC d j ⟨st.pos + 1, st.opened + 1, st.closed, st.marks⟩ (41 :: r) y (s.length + 1) false (by unfold nsize at hM; omega) (by simpa using hg.2) (by simpa using hy) hA1 (.inr ⟨r, rfl, rfl⟩) (by show s.length < s.length + 1 + (st.pos + 1); omega)
      have hA2 : Ahd s st1.pos (41 :: r) := by rw [h2]; exact hA1.next
      refine ⟨⟨st1.pos + 1, st1.opened, st1.closed ++ [(st.opened : Int) + 1], st1.marks⟩, ?_, ?_, ?_⟩
      · unfold atomM
        rw [hA.op0 40, show chAt (40 :: (nT d ++ [41]) ++ r) 0 40 = true from by rw [List.cons_append, ch_cons]; rfl]
        simp only [if_true]
        unfold grpM lvS
        simp only
        rw [show opLen true = 1 from rfl, reg_lvS, h1]
        simp only
        rw [hA2.op0 41, ch_cons]
        simp only [show decide ((41 : UInt8).toNat = 41) = true from rfl, if_true]
        rw [hn]
      · show st1.pos + 1 = _
        rw [h2]
        simp
        omega
      · rw [← hxy, h3, hn]
    · cases hx
/-- An atom and its repetitions are read as the node. -/
theorem read_piece (s : List UInt8) (M : Nat) (hC : ReadC s M) : ∀ (d : Nd) (k : Nat) (st : ReSt) (r : List UInt8) (x : Int × List Int), nsize d ≤ M → inRep d = true → good k d = true → nright d (st.opened : Int) st.closed = some x → Ahd s st.pos (nT d ++ r) →
    ∃ (st1 st' : ReSt) (a : Nd) (n0 : Nat), atomM true s (lvS true s k) st = .ok (st1, a) ∧ (∀ n, repM true s (n0 + n) st1 a = repM true s n st' d) ∧ n0 < (nT d).length ∧ st'.pos = st.pos + (nT d).length ∧ x = ((st'.opened : Int), st'.closed)
  | .rep d mn mx, k, st, r, x, hM, _, hg, hx, hA => by
    unfold nright at hx
    split at hx
    · rename_i hk
      rw [Bool.and_eq_true] at hk
      have hT : nT (.rep d mn mx) = nT d ++ timesT mn mx := by rw [nT]
      rw [hT, List.append_assoc] at hA
      obtain ⟨st1, st2, a, n0, h1, h2, h3, h4, h5⟩ := read_piece s M hC d k st _ x (by unfold nsize at hM; omega) hk.2 (by unfold good at hg; exact hg) hx hA
      have hA2 : Ahd s st2.pos (timesT mn mx ++ r) := by rw [h4]; exact hA.next
      have hrp := rep_times s st2.pos mn mx r hA2 hk.1
      have htl : 0 < (timesT mn mx).length := by unfold timesT; split <;> (try split) <;> (try split) <;> simp
      refine ⟨st1, st2.to (st2.pos + (timesT mn mx).length), a, n0 + 1, h1, fun n => ?_, ?_, ?_, h5⟩
      · rw [show n0 + 1 + n = n0 + (n + 1) by omega, h2, repM, hrp]
        rfl
      · rw [hT, List.length_append]; omega
      · rw [hT, List.length_append]
        show st2.pos + _ = _
        omega
    · cases hx
  | .one t, k, st, r, x, hM, hi, hg, hx, hA => by
    obtain ⟨st', h1, h2, h3⟩ := read_atom s M hC (.one t) k st r x hM hi rfl hg hx hA
    exact ⟨st', st', _, 0, h1, fun n => by rw [Nat.zero_add], by rw [nT]; exact List.length_pos_iff.2 (setT_ne t), h2, h3⟩
  | .group m d, k, st, r, x, hM, hi, hg, hx, hA => by
    obtain ⟨st', h1, h2, h3⟩ := read_atom s M hC (.group m d) k st r x hM hi rfl hg hx hA
    exact ⟨st', st', _, 0, h1, fun n => by rw [Nat.zero_add], by rw [nT]; simp, h2, h3⟩
  | .back m, k, st, r, x, hM, hi, hg, hx, hA => by
    obtain ⟨st', h1, h2, h3⟩ := read_atom s M hC (.back m) k st r x hM hi rfl hg hx hA
    exact ⟨st', st', _, 0, h1, fun n => by rw [Nat.zero_add], by rw [nT]; simp, h2, h3⟩
  | .empty, _, _, _, _, _, hi, _, _, _ => by cases hi
  | .cat l, _, _, _, _, _, hi, _, _, _ => by cases hi
  | .alt l, _, _, _, _, _, hi, _, _, _ => by cases hi
  | .start, _, _, _, _, _, hi, _, _, _ => by cases hi
  | .fin, _, _, _, _, _, hi, _, _, _ => by cases hi
theorem nT_anchor : ∀ (d : Nd) (o : Int) (c : List Int) (x : Int × List Int) (r : List UInt8) (b : Nat), nright d o c = some x → inRep d = true → (b = 94 ∨ b = 36) → chAt (nT d ++ r) 0 b = false
  | .one s, _, _, _, r, b, _, _, hb => setT_first s b (by omega) r
  | .rep d mn mx, o, c, x, r, b, h, _, hb => by
    unfold nright at h
    split at h
    · rename_i hk
      rw [Bool.and_eq_true] at hk
      unfold nT
      rw [List.append_assoc]
      exact nT_anchor d o c x _ b h hk.2 hb
    · cases h
  | .group n d, _, _, _, r, b, _, _, hb => by
    unfold nT
    rw [List.cons_append, ch_cons]
    exact decide_eq_false (by show ¬ 40 = b; omega)
  | .back n, _, _, _, r, b, _, _, hb => by
    unfold nT
    rw [List.cons_append, ch_cons]
    exact decide_eq_false (by show ¬ 92 = b; omega)
theorem spec_rep (b : Nat) (h : b = 42 ∨ b = 43 ∨ b = 63 ∨ b = 123) : spec b := by unfold spec; omega
/-- What stands behind a part of a branch begins no repetition. -/
theorem next_first (l : List Nd) (o : Int) (c : List Int) (x : Int × List Int) (top : Bool) (r : List UInt8) (h : nrights l o c = some x) (ha : l.all inCat = true) (hE : StopB top r) (b : Nat) (hb : b = 42 ∨ b = 43 ∨ b = 63 ∨ b = 123) : chAt (nTs l ++ r) 0 b = false := by
  cases l with
  | nil =>
    unfold nTs
    exact hE.ch b (by omega) (by omega)
  | cons d ds =>
    rw [List.all_cons, Bool.and_eq_true] at ha
    unfold nrights at h
    split at h
    · cases h
    · rename_i y hy
      unfold nTs
      rw [List.append_assoc]
      exact nT_first d o c y _ b hy ha.1 (spec_rep b hb)
/-- A branch is read as its parts. -/
theorem read_branch (s : List UInt8) (M : Nat) (hC : ReadC s M) (k : Nat) (top : Bool) (beg : Nat) : ∀ (l : List Nd) (st : ReSt) (acc : List Nd) (front : Bool) (r : List UInt8) (x : Int × List Int) (n : Nat), nsizes l ≤ M → l.all inCat = true → goods k l = true → nrights l (st.opened : Int) st.closed = some x → Ahd s st.pos (nTs l ++ r) → StopB top r → s.length < n + st.pos →
    ∃ st' : ReSt, branchM true s (lvS true s k) top beg n st acc front = .ok (st', njoin (acc ++ l)) ∧ st'.pos = st.pos + (nTs l).length ∧ x = ((st'.opened : Int), st'.closed)
  | [], st, acc, front, r, x, n, _, _, _, hx, hA, hE, hn => by
    have hl := hA.len
    obtain ⟨m, rfl⟩ : ∃ m, n = m + 1 := ⟨n - 1, by have := hA.1; omega⟩
    unfold nTs at hA
    unfold nrights at hx
    injection hx with hx
    refine ⟨st, ?_, by unfold nTs; rfl, hx.symm⟩
    rw [branchM, if_pos (StopB.stop hA hE), List.append_nil]
  | d :: ds, st, acc, front, r, x, n, hM, ha, hg, hx, hA, hE, hn => by
    have hl := hA.len
    obtain ⟨m, rfl⟩ : ∃ m, n = m + 1 := ⟨n - 1, by have := hA.1; omega⟩
    rw [List.all_cons, Bool.and_eq_true] at ha
    unfold goods at hg
    rw [Bool.and_eq_true] at hg
    unfold nsizes at hM
    unfold nrights at hx
    split at hx
    · cases hx
    · rename_i y hy
      have hT : nTs (d :: ds) = nT d ++ nTs ds := by rw [nTs]
      rw [hT, List.append_assoc] at hA
      have hf := fun b hb => nT_first d _ _ y (nTs ds ++ r) b hy ha.1 hb
      have hA2 := hA.next
      have hnf := next_first ds y.1 y.2 x top r hx ha.2 hE
      have hl2 := hA.len
      -- the whole begins here
      have hno : ¬ (decide (s.length ≤ st.pos) || opAt true s st.pos 124 || (opAt true s st.pos 41 && !top)) = true := by
        rw [hA.op0 124, hA.op0 41, hf 124 (by unfold spec; omega), hf 41 (by unfold spec; omega)]
        have hpos : 0 < (nT d).length := by
          cases hd : nT d with
          | nil =>
            have h1 := hf 124 (by unfold spec; omega)
            exfalso
            cases d with
            | empty => cases ha.1
            | cat l => cases ha.1
            | alt l => cases ha.1
            | one t => rw [nT] at hd; exact setT_ne t hd
            | rep d mn mx => rw [nT] at hd; have := (List.append_eq_nil_iff.1 hd).2; unfold timesT at this; split at this <;> (try split at this) <;> (try split at this) <;> simp at this
            | group n d => rw [nT] at hd; simp at hd
            | back n => rw [nT] at hd; simp at hd
            | start => rw [nT] at hd; simp at hd
            | fin => rw [nT] at hd; simp at hd
          | cons c cs => simp
        rw [List.length_append] at hl2
        rw [decide_eq_false (by omega)]
        simp
      have go : ∀ (st1 : ReSt) (fr : Bool), st1.pos = st.pos + (nT d).length → y = ((st1.opened : Int), st1.closed) → s.length < m + st1.pos → branchM true s (lvS true s k) top beg (m + 1) st acc front = branchM true s (lvS true s k) top beg m st1 (acc ++ [d]) fr →
          ∃ st' : ReSt, branchM true s (lvS true s k) top beg (m + 1) st acc front = .ok (st', njoin (acc ++ d :: ds)) ∧ st'.pos = st.pos + (nTs (d :: ds)).length ∧ x = ((st'.opened : Int), st'.closed) := by
        intro st1 fr h1 h2 h3 h4
        obtain ⟨st', e1, e2, e3⟩ := read_branch s M hC k top beg ds st1 (acc ++ [d]) fr r x m (by omega) ha.2 hg.2 (by rw [h2] at hx; exact hx) (by rw [h1]; exact hA2) hE h3
        refine ⟨st', ?_, ?_, e3⟩
        · rw [h4, e1]
          congr 3
          simp
        · rw [hT, List.length_append, e2, h1]
          omega
      have piece : inRep d = true → nT d ≠ [94] → (∀ b, b = 94 ∨ b = 36 → chAt (nT d ++ (nTs ds ++ r)) 0 b = false) → ∃ st' : ReSt, branchM true s (lvS true s k) top beg (m + 1) st acc front = .ok (st', njoin (acc ++ d :: ds)) ∧ st'.pos = st.pos + (nTs (d :: ds)).length ∧ x = ((st'.opened : Int), st'.closed) := by
        intro hi _ hch
        obtain ⟨st1, st2, a, n0, h1, h2, h3, h4, h5⟩ := read_piece s M hC d k st (nTs ds ++ r) y (by omega) hi hg.1 hy hA
        have hrn : repAt true s st2.pos = .none := rep_none_of (by rw [h4]; exact hA2) hnf
        have hrm : repM true s (s.length + 1) st1 a = .ok (st2, d) := by
          rw [List.length_append] at hl2
          obtain ⟨q, hq⟩ : ∃ q, s.length + 1 = n0 + (q + 1) := ⟨s.length - n0, by omega⟩
          rw [hq, h2, repM, hrn]
        rw [List.length_append] at hl2
        refine go st2 false h4 h5 (by omega) ?_
        have hfr : ¬ (front && (opAt true s st.pos 123 || opAt true s st.pos 43 || opAt true s st.pos 63 || (true && chAt s st.pos 42))) = true := by
          rw [hA.op0 123, hA.op0 43, hA.op0 63, hA.ch0 42, hf 123 (by unfold spec; omega), hf 43 (by unfold spec; omega), hf 63 (by unfold spec; omega), hf 42 (by unfold spec; omega)]
          simp
        rw [branchM, if_neg hno, if_neg (by rw [hA.ch0 94, hch 94 (.inl rfl)]; simp), if_neg (by rw [hA.ch0 36, hch 36 (.inr rfl)]; simp), if_neg hfr, h1]
        simp only
        rw [hrm]
      have hch : inRep d = true → ∀ b, b = 94 ∨ b = 36 → chAt (nT d ++ (nTs ds ++ r)) 0 b = false := fun hi b hb => nT_anchor d _ _ y _ b hy hi hb
      have hne : inRep d = true → nT d ≠ [94] := fun hi e => by
        have := hch hi 94 (.inl rfl)
        rw [e] at this
        cases this
      cases d with
      | empty => cases ha.1
      | cat l => cases ha.1
      | alt l => cases ha.1
      | start =>
        unfold nright at hy
        injection hy with hy
        rw [nT] at hA
        refine go (st.to (st.pos + 1)) true (by rw [nT]; rfl) hy.symm (by show s.length < m + (st.pos + 1); omega) ?_
        rw [branchM, if_neg hno, if_pos (by rw [hA.ch0 94, show chAt ([94] ++ (nTs ds ++ r)) 0 94 = true from rfl]; rfl)]
      | fin =>
        unfold nright at hy
        injection hy with hy
        rw [nT] at hA
        refine go (st.to (st.pos + 1)) true (by rw [nT]; rfl) hy.symm (by show s.length < m + (st.pos + 1); omega) ?_
        rw [branchM, if_neg hno, if_neg (by rw [hA.ch0 94, show chAt ([36] ++ (nTs ds ++ r)) 0 94 = false from rfl]; simp), if_pos (by rw [hA.ch0 36, show chAt ([36] ++ (nTs ds ++ r)) 0 36 = true from rfl]; rfl)]
      | one t => exact piece rfl (hne rfl) (hch rfl)
      | rep d mn mx => exact piece rfl (hne rfl) (hch rfl)
      | group q d => exact piece rfl (hne rfl) (hch rfl)
      | back q => exact piece rfl (hne rfl) (hch rfl)
/-- The parts of a branch. -/
def bparts : Nd → List Nd
  | .empty => []
  | .cat l => l
  | d => [d]
theorem njoin_one (x : Nd) (h : inCat x = true) : njoin [x] = x := by
  unfold njoin
  rw [jflat_all [x] (by simp [h])]
theorem njoin_more (l : List Nd) (h2 : 2 ≤ l.length) (h : l.all inCat = true) : njoin l = .cat l := by
  unfold njoin
  rw [jflat_all l h]
  rcases l with _ | ⟨a, _ | ⟨b, tl⟩⟩
  · simp at h2
  · simp at h2
  · rfl
theorem nchoose_one (x : Nd) (h : inAlt x = true) : nchoose [x] = x := by
  unfold nchoose
  rw [cflat_all [x] (by simp [h])]
theorem nchoose_more (l : List Nd) (h2 : 2 ≤ l.length) (h : l.all inAlt = true) : nchoose l = .alt l := by
  unfold nchoose
  rw [cflat_all l h]
  rcases l with _ | ⟨a, _ | ⟨b, tl⟩⟩
  · simp at h2
  · simp at h2
  · rfl
theorem bparts_ok (d : Nd) (k : Nat) (o : Int) (c : List Int) (x : Int × List Int) (hi : inAlt d = true) (hx : nright d o c = some x) (hg : good k d = true) : nTs (bparts d) = nT d ∧ (bparts d).all inCat = true ∧ nrights (bparts d) o c = some x ∧ njoin (bparts d) = d ∧ goods k (bparts d) = true ∧ nsizes (bparts d) ≤ nsize d := by
  have one : inCat d = true → bparts d = [d] → nTs (bparts d) = nT d ∧ (bparts d).all inCat = true ∧ nrights (bparts d) o c = some x ∧ njoin (bparts d) = d ∧ goods k (bparts d) = true ∧ nsizes (bparts d) ≤ nsize d := by
    intro h1 h2
    rw [h2]
    refine ⟨by simp [nTs], by simp [h1], by simp [nrights, hx], ?_, by simp [goods, hg], by simp [nsizes]⟩
    exact njoin_one d h1
  cases d with
  | empty =>
    unfold nright at hx
    exact ⟨by simp [bparts, nTs, nT], rfl, by simpa [bparts, nrights] using hx, rfl, rfl, by simp [bparts, nsizes]⟩
  | cat l =>
    unfold nright at hx
    split at hx
    · rename_i hc
      rw [Bool.and_eq_true, decide_eq_true_eq] at hc
      refine ⟨by simp [bparts, nT], hc.2, hx, ?_, by unfold good at hg; exact hg, by simp [bparts, nsize]⟩
      exact njoin_more l hc.1 hc.2
    · cases hx
  | alt l => cases hi
  | one t => exact one rfl rfl
  | rep d mn mx => exact one rfl rfl
  | group q d => exact one rfl rfl
  | back q => exact one rfl rfl
  | start => exact one rfl rfl
  | fin => exact one rfl rfl
/-- Branches are read as the parts of a choice. -/
theorem read_choice (s : List UInt8) (M : Nat) (hC : ReadC s M) (k : Nat) (top : Bool) : ∀ (l : List Nd) (st : ReSt) (acc : List Nd) (r : List UInt8) (x : Int × List Int) (n : Nat), l ≠ [] → nsizes l ≤ M → l.all inAlt = true → goods k l = true → nrights l (st.opened : Int) st.closed = some x → Ahd s st.pos ((nTb l).drop 1 ++ r) → StopR top r → s.length < n + st.pos →
    ∃ st' : ReSt, choiceM true s (lvS true s k) top n st acc = .ok (st', nchoose (acc ++ l)) ∧ st'.pos = st.pos + ((nTb l).drop 1).length ∧ x = ((st'.opened : Int), st'.closed)
  | [], _, _, _, _, _, h, _, _, _, _, _, _, _ => absurd rfl h
  | d :: ds, st, acc, r, x, n, _, hM, ha, hg, hx, hA, hE, hn => by
    obtain ⟨m, rfl⟩ : ∃ m, n = m + 1 := ⟨n - 1, by have := hA.1; omega⟩
    rw [List.all_cons, Bool.and_eq_true] at ha
    unfold goods at hg
    rw [Bool.and_eq_true] at hg
    unfold nsizes at hM
    unfold nrights at hx
    split at hx
    · cases hx
    · rename_i y hy
      have hT : (nTb (d :: ds)).drop 1 = nT d ++ nTb ds := by rw [nTb]; rfl
      rw [hT, List.append_assoc] at hA
      rw [hT]
      obtain ⟨b1, b2, b3, b4, b5, b6⟩ := bparts_ok d k _ _ y ha.1 hy hg.1
      have hB : StopB top (nTb ds ++ r) := by
        cases ds with
        | nil => rw [nTb]; exact hE.toB
        | cons e es => rw [nTb]; exact .inr ⟨_, .inl rfl⟩
      have hl := hA.len
      obtain ⟨st1, h1, h2, h3⟩ := read_branch s M hC k top st.pos (bparts d) st [] true (nTb ds ++ r) y (s.length + 1) (by omega) b2 b5 b3 (by rw [b1]; exact hA) hB (by omega)
      rw [List.nil_append, b4] at h1
      rw [b1] at h2
      have hA2 : Ahd s st1.pos (nTb ds ++ r) := by rw [h2]; exact hA.next
      cases ds with
      | nil =>
        have hr : nTb [] = [] := by rw [nTb]
        rw [hr, List.nil_append] at hA2
        unfold nrights at hx
        injection hx with hx
        refine ⟨st1, ?_, by rw [hr, List.append_nil]; exact h2, by rw [← hx, h3]⟩
        rw [choiceM, h1]
        simp only
        rw [if_neg]
        rw [hA2.op0 124]
        rcases hE with rfl | ⟨r', rfl, _⟩
        · rw [ch_nil]; simp
        · rw [ch_cons]; simp
      | cons e es =>
        have hr : nTb (e :: es) = 124 :: (nTb (e :: es)).drop 1 := by rw [nTb]; rfl
        have hA3 : Ahd s (st1.pos + 1) ((nTb (e :: es)).drop 1 ++ r) := by
          rw [hr] at hA2
          have := Ahd.next (a := [124]) (x := (nTb (e :: es)).drop 1 ++ r) (by simpa using hA2)
          exact this
        have h124 : opAt true s st1.pos 124 = true := by rw [hA2.op0 124, hr, List.cons_append, ch_cons]; rfl
        obtain ⟨st2, e1, e2, e3⟩ := read_choice s M hC k top (e :: es) (st1.to (st1.pos + 1)) (acc ++ [d]) r x m (by simp) (by omega) ha.2 hg.2 (by rw [h3] at hx; exact hx) hA3 hE (by show s.length < m + (st1.pos + 1); omega)
        refine ⟨st2, ?_, ?_, e3⟩
        · rw [choiceM, h1]
          simp only
          rw [if_pos h124]
          simp only [if_true, show opLen true = 1 from rfl]
          rw [e1]
          congr 3
          simp
        · rw [e2]
          show st1.pos + 1 + _ = _
          rw [h2, hr]
          simp
          omega
/-- What is shown of a right tree is read as it, in a text of any length. -/
theorem read_all (s : List UInt8) : ∀ M, ReadC s M
  | 0 => fun _ _ _ _ _ _ _ h => absurd h (Nat.not_lt_zero _)
  | M + 1 => by
    have ih := read_all s M
    intro d k st r x n top hM hg hx hA hE hn
    by_cases hd : inAlt d = true
    · obtain ⟨st', h1, h2, h3⟩ := read_choice s M ih k top [d] st [] r x n (by simp) (by simp [nsizes]; omega) (by simp [hd]) (by simp [goods, hg]) (by simp [nrights, hx]) (by rw [show (nTb [d]).drop 1 = nT d by simp [nTb]]; exact hA) hE hn
      rw [show (nTb [d]).drop 1 = nT d by simp [nTb]] at h2
      refine ⟨st', ?_, h2, h3⟩
      rw [h1, List.nil_append, nchoose_one d hd]
    · cases d with
      | alt l =>
        unfold nright at hx
        split at hx
        · rename_i hc
          rw [Bool.and_eq_true, decide_eq_true_eq] at hc
          have hT : nT (.alt l) = (nTb l).drop 1 := by rw [nT]
          rw [hT] at hA ⊢
          unfold good at hg
          unfold nsize at hM
          have hne : l ≠ [] := fun e => by rw [e] at hc; simp at hc
          obtain ⟨st', h1, h2, h3⟩ := read_choice s M ih k top l st [] r x n hne (by omega) hc.2 hg hx hA hE hn
          refine ⟨st', ?_, h2, h3⟩
          rw [h1, List.nil_append, nchoose_more l hc.1 hc.2]
        · cases hx
      | empty => exact absurd rfl hd
      | one t => exact absurd rfl hd
      | cat l => exact absurd rfl hd
      | rep d mn mx => exact absurd rfl hd
      | group q d => exact absurd rfl hd
      | back q => exact absurd rfl hd
      | start => exact absurd rfl hd
      | fin => exact absurd rfl hd
/-- What is shown of a right tree is read as it. -/
theorem tree_back (d : Nd) (x : Int × List Int) (hg : good 12 d = true) (hx : nright d 0 [] = some x) (hl : (nT d).length ≤ 250) : ∃ st, parseM true (nT d) = .ok (st, d) := by
  obtain ⟨st', h1, _, _⟩ := read_all (nT d) (nsize d + 1) d 12 reZero [] x ((nT d).length + 1) true (Nat.lt_succ_self _) hg hx ⟨Nat.zero_le _, by rw [List.append_nil]; rfl⟩ (.inl rfl) (by show _ < _ + 0; omega)
  refine ⟨st', ?_⟩
  unfold parseM
  rw [if_neg (by omega)]
  exact h1
theorem goods_app (k : Nat) : ∀ a b : List Nd, goods k (a ++ b) = (goods k a && goods k b)
  | [], b => by simp [goods]
  | x :: a, b => by rw [List.cons_append, goods, goods_app k a b, goods, Bool.and_assoc]
theorem good_join (k : Nat) (l : List Nd) (ha : l.all inCat = true) (h : goods k l = true) : good k (njoin l) = true := by
  rcases l with _ | ⟨a, _ | ⟨b, tl⟩⟩
  · rfl
  · rw [njoin_one a (by simpa using ha)]
    simpa [goods] using h
  · rw [njoin_more _ (by simp) ha]
    unfold good
    exact h
theorem good_choose (k : Nat) (l : List Nd) (hn : l ≠ []) (ha : l.all inAlt = true) (h : goods k l = true) : good k (nchoose l) = true := by
  rcases l with _ | ⟨a, _ | ⟨b, tl⟩⟩
  · exact absurd rfl hn
  · rw [nchoose_one a (by simpa using ha)]
    simpa [goods] using h
  · rw [nchoose_more _ (by simp) ha]
    unfold good
    exact h
def SubGd (k : Nat) (sub : Option (ReSt → ReRes (ReSt × Nd))) : Prop := ∀ f, sub = some f → 0 < k ∧ ∀ st st' d, f st = .ok (st', d) → good (k - 1) d = true
theorem atom_gd (ere : Bool) (s : List UInt8) (k : Nat) (sub : Option (ReSt → ReRes (ReSt × Nd))) (hs : SubGd k sub) (st st' : ReSt) (d : Nd) (h : atomM ere s sub st = .ok (st', d)) : good k d = true := by
  unfold atomM at h
  split at h
  · unfold grpM at h
    split at h
    · cases h
    · rename_i f
      obtain ⟨hk, hf⟩ := hs f rfl
      split at h
      · cases h
      · rename_i st1 d1 hr
        split at h
        · injection h with h
          injection h with _ h
          subst h
          unfold good
          rw [decide_eq_true hk, hf _ _ _ hr]
          rfl
        · cases h
  · split at h
    · cases h
    · split at h
      · split at h
        · injection h with h
          injection h with _ h
          subst h
          rfl
        · cases h
      · split at h
        · injection h with h
          injection h with _ h
          subst h
          rfl
        · split at h
          · split at h
            · unfold escM at h
              split at h
              · rename_i hb
                split at h
                · injection h with h
                  injection h with _ h
                  subst h
                  unfold good
                  rw [Bool.and_eq_true, decide_eq_true_eq, decide_eq_true_eq]
                  omega
                · cases h
              · split at h
                · cases h
                · injection h with h
                  injection h with _ h
                  subst h
                  rfl
            · cases h
          · injection h with h
            injection h with _ h
            subst h
            rfl
theorem rep_gd (ere : Bool) (s : List UInt8) (k : Nat) : ∀ (n : Nat) (st : ReSt) (d : Nd) (st' : ReSt) (d' : Nd), good k d = true → repM ere s n st d = .ok (st', d') → good k d' = true
  | 0, _, _, _, _, _, h => by cases h
  | n + 1, st, d, st', d', hd, h => by
    rw [repM] at h
    split at h
    · injection h with h; injection h with _ h2; subst h2; exact hd
    · cases h
    · exact rep_gd ere s k n _ _ _ _ (by unfold good; exact hd) h
theorem njoin_inAlt (l : List Nd) (h : l.all inCat = true) : inAlt (njoin l) = true := by
  unfold njoin
  rw [jflat_all l h]
  rcases l with _ | ⟨x, _ | ⟨y, ys⟩⟩
  · rfl
  · simp at h
    exact cat_alt h
  · rfl
theorem atomM_cat (ere : Bool) (s : List UInt8) (sub : Option (ReSt → ReRes (ReSt × Nd))) (st st' : ReSt) (d : Nd) (h : atomM ere s sub st = .ok (st', d)) : inCat d = true := by
  unfold atomM grpM escM at h
  repeat' split at h
  all_goals first
    | (cases h; done)
    | (injection h with h; injection h with _ h2; subst h2; rfl)
theorem repM_cat (ere : Bool) (s : List UInt8) : ∀ (n : Nat) (st : ReSt) (d : Nd) (st' : ReSt) (d' : Nd), inCat d = true → repM ere s n st d = .ok (st', d') → inCat d' = true
  | 0, _, _, _, _, _, h => by cases h
  | n + 1, st, d, st', d', hd, h => by
    rw [repM] at h
    split at h
    · injection h with h; injection h with _ h2; subst h2; exact hd
    · cases h
    · exact repM_cat ere s n _ _ _ _ rfl h
theorem branch_gd (ere : Bool) (s : List UInt8) (k : Nat) (sub : Option (ReSt → ReRes (ReSt × Nd))) (hs : SubGd k sub) (top : Bool) (beg : Nat) : ∀ (n : Nat) (st : ReSt) (parts : List Nd) (front : Bool) (st' : ReSt) (d : Nd), parts.all inCat = true → goods k parts = true → branchM ere s sub top beg n st parts front = .ok (st', d) → good k d = true ∧ inAlt d = true
  | 0, _, _, _, _, _, _, _, h => by cases h
  | n + 1, st, parts, front, st', d, ha, hg, h => by
    rw [branchM] at h
    split at h
    · injection h with h; injection h with _ h2; subst h2; exact ⟨good_join k _ ha hg, njoin_inAlt _ ha⟩
    · split at h
      · exact branch_gd ere s k sub hs top beg n _ _ _ _ _ (by rw [List.all_append, ha]; rfl) (by rw [goods_app, hg]; rfl) h
      · split at h
        · exact branch_gd ere s k sub hs top beg n _ _ _ _ _ (by rw [List.all_append, ha]; rfl) (by rw [goods_app, hg]; rfl) h
        · split at h
          · cases h
          · split at h
            · cases h
            · rename_i hA
              split at h
              · cases h
              · rename_i hB
                exact branch_gd ere s k sub hs top beg n _ _ _ _ _ (by rw [List.all_append, ha]; simp [repM_cat _ _ _ _ _ _ _ (atomM_cat _ _ _ _ _ _ hA) hB]) (by rw [goods_app, hg]; simp [goods, rep_gd _ _ _ _ _ _ _ _ (atom_gd ere s k sub hs _ _ _ hA) hB]) h
theorem choice_gd (ere : Bool) (s : List UInt8) (k : Nat) (sub : Option (ReSt → ReRes (ReSt × Nd))) (hs : SubGd k sub) (top : Bool) : ∀ (n : Nat) (st : ReSt) (l : List Nd) (st' : ReSt) (d : Nd), l.all inAlt = true → goods k l = true → choiceM ere s sub top n st l = .ok (st', d) → good k d = true
  | 0, _, _, _, _, _, _, h => by cases h
  | n + 1, st, l, st', d, ha, hg, h => by
    rw [choiceM] at h
    split at h
    · cases h
    · rename_i st1 d1 hB
      obtain ⟨h1, h2⟩ := branch_gd ere s k sub hs top _ _ _ _ _ _ _ rfl rfl hB
      have ha2 : (l ++ [d1]).all inAlt = true := by rw [List.all_append, ha]; simp [h2]
      have hg2 : goods k (l ++ [d1]) = true := by rw [goods_app, hg]; simp [goods, h1]
      split at h
      · exact choice_gd ere s k sub hs top n _ _ _ _ ha2 hg2 h
      · injection h with h
        injection h with _ h
        subst h
        exact good_choose k _ (by simp) ha2 hg2
theorem reg_gd (ere : Bool) (s : List UInt8) : ∀ (k : Nat) (st st' : ReSt) (d : Nd), regM ere s k st = .ok (st', d) → good k d = true
  | 0, st, st', d, h => choice_gd ere s 0 none (fun f hf => by cases hf) false _ _ _ _ _ rfl rfl h
  | k + 1, st, st', d, h => choice_gd ere s (k + 1) (some (regM ere s k)) (fun f hf => by injection hf with hf; subst hf; exact ⟨Nat.succ_pos _, fun a b c e => reg_gd ere s k a b c e⟩) false _ _ _ _ _ rfl rfl h
theorem parse_gd (ere : Bool) (s : List UInt8) (st : ReSt) (d : Nd) (h : parseM ere s = .ok (st, d)) : good 12 d = true := by
  unfold parseM at h
  split at h
  · cases h
  · exact choice_gd ere s 12 (some (regM ere s 11)) (fun f hf => by injection hf with hf; subst hf; exact ⟨by decide, fun a b c e => reg_gd ere s 11 a b c e⟩) true _ _ _ _ _ rfl rfl h
/-- What is shown of the tree of any regex, if it isn't too long, is read as that tree. -/
theorem parse_back (ere : Bool) (s : List UInt8) (st : ReSt) (d : Nd) (h : parseM ere s = .ok (st, d)) (hl : (nT d).length ≤ 250) : ∃ st', parseM true (nT d) = .ok (st', d) := by
  have hr := parse_right ere s st d h
  unfold nrightB at hr
  obtain ⟨x, hx⟩ := Option.isSome_iff_exists.1 hr
  exact tree_back d x (parse_gd ere s st d h) hx hl
end Go.Proofs.Ytjjhkagpoicimaa
namespace Go.Proofs.Ytjjhkagpoicimaa

theorem nTs_app : ∀ a b : List Nd, nTs (a ++ b) = nTs a ++ nTs b
  | [], b => by simp [nTs]
  | x :: a, b => by rw [List.cons_append, nTs, nTs_app a b, nTs, List.append_assoc]
theorem nTb_app : ∀ a b : List Nd, nTb (a ++ b) = nTb a ++ nTb b
  | [], b => by simp [nTb]
  | x :: a, b => by rw [List.cons_append, nTb, nTb_app a b, nTb]; simp
theorem nTb_cons (l : List Nd) (h : l ≠ []) : nTb l = 124 :: (nTb l).drop 1 := by
  cases l with
  | nil => exact absurd rfl h
  | cons d ds => rw [nTb]; rfl
/-- What nothing but more groups opens, opens none. -/
theorem ngroupss_zero : ∀ (l : List Nd), ngroupss l = 0 → ∀ d ∈ l, ngroups d = 0
  | d :: ds, h, e, he => by
    unfold ngroupss at h
    rcases List.mem_cons.1 he with rfl | he
    · omega
    · exact ngroupss_zero ds (by omega) e he
mutual
theorem nright_none (d : Nd) (o : Int) (c : List Int) (x : Int × List Int) (h : nright d o c = some x) (hg : ngroups d = 0) : x = (o, c) := by
  cases d with
  | empty => unfold nright at h; injection h with h; exact h.symm
  | one t => unfold nright at h; injection h with h; exact h.symm
  | start => unfold nright at h; injection h with h; exact h.symm
  | fin => unfold nright at h; injection h with h; exact h.symm
  | back n =>
    unfold nright at h
    split at h
    · injection h with h; exact h.symm
    · cases h
  | cat l =>
    unfold nright at h
    unfold ngroups at hg
    split at h
    · exact nrights_none l o c x h hg
    · cases h
  | alt l =>
    unfold nright at h
    unfold ngroups at hg
    split at h
    · exact nrights_none l o c x h hg
    · cases h
  | rep d mn mx =>
    unfold nright at h
    unfold ngroups at hg
    split at h
    · exact nright_none d o c x h hg
    · cases h
  | group n d => unfold ngroups at hg; omega
theorem nrights_none (l : List Nd) (o : Int) (c : List Int) (x : Int × List Int) (h : nrights l o c = some x) (hg : ngroupss l = 0) : x = (o, c) := by
  cases l with
  | nil => unfold nrights at h; injection h with h; exact h.symm
  | cons d ds =>
    unfold nrights at h
    unfold ngroupss at hg
    split at h
    · cases h
    · rename_i y hy
      have h1 := nright_none d o c y hy (by omega)
      subst h1
      exact nrights_none ds o c x h (by omega)
end
theorem nrights_app (o : Int) (c : List Int) : ∀ (a b : List Nd) (y : Int × List Int), nrights a o c = some y → nrights (a ++ b) o c = nrights b y.1 y.2 := by
  intro a
  induction a generalizing o c with
  | nil =>
    intro b y h
    unfold nrights at h
    injection h with h
    rw [List.nil_append, ← h]
  | cons d ds ih =>
    intro b y h
    unfold nrights at h
    rw [List.cons_append, nrights]
    split at h
    · cases h
    · rename_i z hz
      exact ih z.1 z.2 b y h
/-- A right tree's parts, as an Alt has them. -/
theorem cpart_ok (d : Nd) (o : Int) (c : List Int) (x : Int × List Int) (h : nright d o c = some x) : nrights (cpart d) o c = some x ∧ (cpart d).all inAlt = true ∧ nTb (cpart d) = 124 :: nT d ∧ 0 < (cpart d).length := by
  have one : inAlt d = true → cpart d = [d] → nrights (cpart d) o c = some x ∧ (cpart d).all inAlt = true ∧ nTb (cpart d) = 124 :: nT d ∧ 0 < (cpart d).length := by
    intro h1 h2
    rw [h2]
    exact ⟨by simp [nrights, h], by simp [h1], by simp [nTb], by simp⟩
  cases d with
  | alt l =>
    unfold nright at h
    split at h
    · rename_i hc
      rw [Bool.and_eq_true, decide_eq_true_eq] at hc
      refine ⟨h, hc.2, ?_, by show 0 < l.length; omega⟩
      show nTb l = _
      rw [nT]
      exact nTb_cons l (fun e => by rw [e] at hc; simp at hc)
    · cases h
  | empty => exact one rfl rfl
  | one t => exact one rfl rfl
  | cat l => exact one rfl rfl
  | rep d mn mx => exact one rfl rfl
  | group q d => exact one rfl rfl
  | back q => exact one rfl rfl
  | start => exact one rfl rfl
  | fin => exact one rfl rfl
/-- Two right ones without groups, chosen among. -/
theorem choose_text (a b : Nd) (xa xb : Int × List Int) (ha : nright a 0 [] = some xa) (hb : nright b 0 [] = some xb) (ga : ngroups a = 0) : nT (nchoose [a, b]) = nT a ++ 124 :: nT b ∧ nrightB (nchoose [a, b]) = true := by
  obtain ⟨a1, a2, a3, a4⟩ := cpart_ok a 0 [] xa ha
  obtain ⟨b1, b2, b3, b4⟩ := cpart_ok b 0 [] xb hb
  have hn : nchoose [a, b] = .alt (cpart a ++ cpart b) := by
    unfold nchoose cflat
    rw [show [a, b].flatMap cpart = cpart a ++ cpart b by simp]
    generalize hl : cpart a ++ cpart b = l
    have : 2 ≤ l.length := by rw [← hl, List.length_append]; omega
    rcases l with _ | ⟨x, _ | ⟨y, tl⟩⟩
    · simp at this
    · simp at this
    · rfl
  rw [hn]
  refine ⟨?_, ?_⟩
  · rw [nT, nTb_app, a3, b3]
    rfl
  · unfold nrightB
    rw [nright, if_pos (by rw [Bool.and_eq_true, decide_eq_true_eq, List.length_append, List.all_append, a2, b2]; exact ⟨by omega, rfl⟩), nrights_app 0 [] _ _ xa a1, nright_none a 0 [] xa ha ga, b1]
    rfl
/-- A right tree's parts, as a Cat has them. -/
theorem jpart_ok (d : Nd) (o : Int) (c : List Int) (x : Int × List Int) (h : nright d o c = some x) (hi : inAlt d = true) : nrights (jpart d) o c = some x ∧ (jpart d).all inCat = true ∧ nTs (jpart d) = nT d := by
  have one : inCat d = true → jpart d = [d] → nrights (jpart d) o c = some x ∧ (jpart d).all inCat = true ∧ nTs (jpart d) = nT d := by
    intro h1 h2
    rw [h2]
    exact ⟨by simp [nrights, h], by simp [h1], by simp [nTs]⟩
  cases d with
  | cat l =>
    unfold nright at h
    split at h
    · rename_i hc
      rw [Bool.and_eq_true, decide_eq_true_eq] at hc
      exact ⟨h, hc.2, by show nTs l = _; rw [nT]⟩
    · cases h
  | empty =>
    unfold nright at h
    exact ⟨h, rfl, by show nTs [] = _; rw [nTs, nT]⟩
  | alt l => cases hi
  | one t => exact one rfl rfl
  | rep d mn mx => exact one rfl rfl
  | group q d => exact one rfl rfl
  | back q => exact one rfl rfl
  | start => exact one rfl rfl
  | fin => exact one rfl rfl
/-- Two right ones without groups, joined. -/
theorem join_text (a b : Nd) (xa xb : Int × List Int) (ha : nright a 0 [] = some xa) (hb : nright b 0 [] = some xb) (ga : ngroups a = 0) (ia : inAlt a = true) (ib : inAlt b = true) : nT (njoin [a, b]) = nT a ++ nT b ∧ nrightB (njoin [a, b]) = true := by
  obtain ⟨a1, a2, a3⟩ := jpart_ok a 0 [] xa ha ia
  obtain ⟨b1, b2, b3⟩ := jpart_ok b 0 [] xb hb ib
  have hr : nrights (jpart a ++ jpart b) 0 [] = some xb := by rw [nrights_app 0 [] _ _ xa a1, nright_none a 0 [] xa ha ga, b1]
  have hT : nTs (jpart a ++ jpart b) = nT a ++ nT b := by rw [nTs_app, a3, b3]
  have hall : (jpart a ++ jpart b).all inCat = true := by rw [List.all_append, a2, b2]; rfl
  unfold njoin jflat
  rw [show [a, b].flatMap jpart = jpart a ++ jpart b by simp]
  clear a1 a2 a3 b1 b2 b3
  generalize jpart a ++ jpart b = l at hr hT hall
  rcases l with _ | ⟨x, _ | ⟨y, tl⟩⟩
  · exact ⟨by rw [← hT, nT, nTs], rfl⟩
  · refine ⟨by rw [← hT]; simp [nTs], ?_⟩
    unfold nrights at hr
    unfold nrightB
    split at hr
    · cases hr
    · rename_i z hz
      show (nright x 0 []).isSome = true
      rw [hz]
      rfl
  · refine ⟨by rw [← hT, nT], ?_⟩
    unfold nrightB
    show (nright (.cat (x :: y :: tl)) 0 []).isSome = true
    rw [nright, if_pos (by rw [Bool.and_eq_true, decide_eq_true_eq]; exact ⟨by simp, hall⟩), hr]
    rfl
end Go.Proofs.Ytjjhkagpoicimaa
namespace Go.Proofs.Ytjjhkagpoicimaa

/-- What is pending: some bytes, and perhaps a tree behind them. -/
abbrev Pend := List UInt8 × Option Nd
def pT (p : Pend) : List UInt8 := p.1 ++ (match p.2 with | none => [] | some d => nT d)
/-- The text of all that is pending, the last first. -/
def stT (l : List Pend) : List UInt8 := l.reverse.flatMap pT
/-- Parts that are pending, with some bytes between two of them. -/
def inTurn (b : List UInt8) : List Nd → List Pend
  | [] => []
  | d :: ds => (ds.map fun e => (b, some e)).reverse ++ [([], some d)]
/-- What a node begins with, and what is pending of it then. -/
def more : Nd → List UInt8 × List Pend
  | .empty => ([], [])
  | .one s => (setT s, [])
  | .cat l => ([], inTurn [] l)
  | .alt l => ([], inTurn [124] l)
  | .rep d mn mx => ([], [(timesT mn mx, none), ([], some d)])
  | .group _ d => ([], [([41], none), ([40], some d)])
  | .back n => (92 :: dec n.toNat, [])
  | .start => ([94], [])
  | .fin => ([36], [])
theorem stT_app (a b : List Pend) : stT (a ++ b) = stT b ++ stT a := by unfold stT; rw [List.reverse_append, List.flatMap_append]
theorem stT_one (p : Pend) : stT [p] = pT p := by simp [stT]
theorem stT_rev (b : List UInt8) : ∀ ds : List Nd, stT ((ds.map fun e => ((b, some e) : Pend)).reverse) = ds.flatMap fun e => b ++ nT e := by
  intro ds
  unfold stT
  rw [List.reverse_reverse, List.flatMap_map]
  rfl
theorem nTs_flat : ∀ l : List Nd, nTs l = l.flatMap nT
  | [] => by rw [nTs]; rfl
  | d :: ds => by rw [nTs, nTs_flat ds, List.flatMap_cons]
theorem nTb_flat : ∀ l : List Nd, nTb l = l.flatMap fun e => [124] ++ nT e
  | [] => by rw [nTb]; rfl
  | d :: ds => by rw [nTb, nTb_flat ds, List.flatMap_cons]; simp
theorem inTurn_cat (l : List Nd) : stT (inTurn [] l) = nTs l := by
  cases l with
  | nil => rw [nTs]; rfl
  | cons d ds =>
    unfold inTurn
    rw [stT_app, stT_one, stT_rev, nTs, nTs_flat]
    simp [pT]
theorem inTurn_alt (l : List Nd) : stT (inTurn [124] l) = (nTb l).drop 1 := by
  cases l with
  | nil => rw [nTb]; rfl
  | cons d ds =>
    unfold inTurn
    rw [stT_app, stT_one, stT_rev, nTb, nTb_flat]
    simp [pT]
/-- A node's text: what it begins with, and what is pending of it. -/
theorem more_ok (d : Nd) : (more d).1 ++ stT (more d).2 = nT d := by
  cases d with
  | empty => rw [nT]; rfl
  | one s => rw [nT]; unfold more; simp [stT]
  | cat l => rw [nT]; unfold more; rw [inTurn_cat]; rfl
  | alt l => rw [nT]; unfold more; rw [inTurn_alt]; rfl
  | rep d mn mx => rw [nT]; unfold more; simp [stT, pT]
  | group n d => rw [nT]; unfold more; simp [stT, pT]
  | back n => rw [nT]; unfold more; simp [stT]
  | start => rw [nT]; rfl
  | fin => rw [nT]; rfl
/-- What is left to do: how often a pending thing is taken. -/
def pN (p : Pend) : Nat := match p.2 with | none => 1 | some d => 2 * nsize d
def stN (l : List Pend) : Nat := (l.map pN).sum
theorem stN_app (a b : List Pend) : stN (a ++ b) = stN a + stN b := by unfold stN; rw [List.map_append, List.sum_append]
theorem stN_turn (b : List UInt8) (l : List Nd) : stN (inTurn b l) = 2 * nsizes l := by
  cases l with
  | nil => rfl
  | cons d ds =>
    unfold inTurn
    rw [stN_app]
    have : ∀ ds : List Nd, stN ((ds.map fun e => ((b, some e) : Pend)).reverse) = 2 * nsizes ds := by
      intro ds
      unfold stN
      rw [List.map_reverse, List.sum_reverse]
      induction ds with
      | nil => rfl
      | cons e es ih =>
        rw [List.map_cons, List.map_cons, List.sum_cons, ih, nsizes]
        show 2 * nsize e + _ = _
        omega
    rw [this, nsizes]
    show _ + (2 * nsize d + 0) = _
    omega
/-- Less is pending of a node than the node. -/
theorem more_less (d : Nd) : stN (more d).2 < 2 * nsize d := by
  cases d with
  | empty => decide
  | one s => show 0 < 2 * 1; decide
  | cat l => unfold more; rw [stN_turn, nsize]; omega
  | alt l => unfold more; rw [stN_turn, nsize]; omega
  | rep d mn mx => rw [nsize]; show 1 + (2 * nsize d + 0) < _; omega
  | group n d => rw [nsize]; show 1 + (2 * nsize d + 0) < _; omega
  | back n => show 0 < 2 * 1; decide
  | start => decide
  | fin => decide
end Go.Proofs.Ytjjhkagpoicimaa
namespace Go.Proofs.Ytjjhkagpoicimaa

theorem endT_le (c : Nat) : (endT c).length ≤ 5 := by rw [endT_len]; split <;> omega
theorem spT_le (p : Nat × Nat) : (spT p).length ≤ 11 := by
  unfold spT
  have h1 := endT_le p.1
  have h2 := endT_le p.2
  rw [List.length_append]
  split
  · rw [List.length_cons]; omega
  · simp; omega
theorem spans_le : ∀ l : List (Nat × Nat), (l.flatMap spT).length ≤ 11 * l.length
  | [] => by simp
  | p :: l => by
    have h := spans_le l
    have h1 := spT_le p
    rw [List.flatMap_cons, List.length_append, List.length_cons]
    omega
theorem brT_le (neg : Bool) (s : OSet) : (brT neg s).length ≤ 2900 := by
  have h := spans_le (sps s)
  have h1 : (sps s).length ≤ 256 := spTo_len s 256
  unfold brT
  rw [List.length_cons, List.length_append, List.length_append]
  have h2 : (if neg then ([94] : List UInt8) else []).length ≤ 1 := by cases neg <;> decide
  have h3 : ([93] : List UInt8).length = 1 := rfl
  omega
theorem byT_le (c : Nat) : (byT c).length ≤ 2 := by
  unfold byT
  split
  · decide
  · split <;> simp
theorem setT_le (s : OSet) : (setT s).length ≤ 2900 := by
  unfold setT
  split
  · simp
  · split
    · have := byT_le (lst s); omega
    · split
      · exact brT_le _ _
      · exact brT_le _ _
theorem dec_le : ∀ (k n : Nat), n < 10 ^ (k + 1) → (dec n).length ≤ k + 1
  | 0, n, h => by rw [dec_small n (by simpa using h)]; simp
  | k + 1, n, h => by
    by_cases h1 : n < 10
    · rw [dec_small n h1]; simp
    · rw [dec_big n h1, List.length_append]
      have := dec_le k (n / 10) (by rw [Nat.pow_succ] at h; omega)
      simp
      omega
theorem dec_le7 (n : Nat) (h : n ≤ 1000000) : (dec n).length ≤ 7 := dec_le 6 n (by omega)
theorem timesT_le (mn mx : Int) (h : okRep mn mx = true) : (timesT mn mx).length ≤ 20 := by
  unfold okRep at h
  simp only [Bool.and_eq_true, Bool.or_eq_true, decide_eq_true_eq] at h
  unfold timesT
  have h1 := dec_le7 mn.toNat (by omega)
  have h2 := dec_le7 mx.toNat (by omega)
  split
  · simp
  split
  · simp
  split
  · simp
  rw [List.length_cons, List.length_append, List.length_append]
  split
  · simp; omega
  split
  · simp; omega
  · simp; omega
mutual
/-- The numbers in a tree are small. -/
def numOk : Nd → Bool
  | .back n => decide (1 ≤ n) && decide (n ≤ 1000000)
  | .rep d mn mx => okRep mn mx && numOk d
  | .group _ d => numOk d
  | .cat l => numOks l
  | .alt l => numOks l
  | .empty => true
  | .one _ => true
  | .start => true
  | .fin => true
def numOks : List Nd → Bool
  | [] => true
  | d :: ds => numOk d && numOks ds
end
theorem numOks_all : ∀ l : List Nd, numOks l = true → ∀ d ∈ l, numOk d = true
  | d :: ds, h, e, he => by
    rw [numOks, Bool.and_eq_true] at h
    rcases List.mem_cons.1 he with rfl | he
    · exact h.1
    · exact numOks_all ds h.2 e he
mutual
theorem right_num (d : Nd) (o : Int) (c : List Int) (x : Int × List Int) (h : nright d o c = some x) (ho : 0 ≤ o) (hc : ∀ n ∈ c, 1 ≤ n ∧ n ≤ o) (hs : o + nsize d ≤ 1000000) : numOk d = true ∧ o ≤ x.1 ∧ x.1 ≤ o + nsize d ∧ ∀ n ∈ x.2, 1 ≤ n ∧ n ≤ x.1 := by
  cases d with
  | empty => unfold nright at h; injection h with h; subst h; exact ⟨rfl, Int.le_refl _, by simp; omega, hc⟩
  | one t => unfold nright at h; injection h with h; subst h; exact ⟨rfl, Int.le_refl _, by simp; omega, hc⟩
  | start => unfold nright at h; injection h with h; subst h; exact ⟨rfl, Int.le_refl _, by simp; omega, hc⟩
  | fin => unfold nright at h; injection h with h; subst h; exact ⟨rfl, Int.le_refl _, by simp; omega, hc⟩
  | back n =>
    unfold nright at h
    split at h
    · rename_i hn
      injection h with h
      subst h
      have := hc n (by simpa using hn)
      refine ⟨?_, Int.le_refl _, by simp; omega, hc⟩
      unfold numOk
      rw [decide_eq_true this.1, decide_eq_true (by omega)]
      rfl
    · cases h
  | cat l =>
    unfold nright at h
    rw [nsize] at hs ⊢
    split at h
    · obtain ⟨h1, h2, h3, h4⟩ := right_nums l o c x h ho hc (by push_cast at hs; omega)
      exact ⟨by rw [numOk]; exact h1, h2, by push_cast; omega, h4⟩
    · cases h
  | alt l =>
    unfold nright at h
    rw [nsize] at hs ⊢
    split at h
    · obtain ⟨h1, h2, h3, h4⟩ := right_nums l o c x h ho hc (by push_cast at hs; omega)
      exact ⟨by rw [numOk]; exact h1, h2, by push_cast; omega, h4⟩
    · cases h
  | rep d mn mx =>
    unfold nright at h
    rw [nsize] at hs ⊢
    split at h
    · rename_i hk
      rw [Bool.and_eq_true] at hk
      obtain ⟨h1, h2, h3, h4⟩ := right_num d o c x h ho hc (by push_cast at hs; omega)
      exact ⟨by rw [numOk, hk.1, h1]; rfl, h2, by push_cast; omega, h4⟩
    · cases h
  | group n d =>
    unfold nright at h
    rw [nsize] at hs ⊢
    split at h
    · rename_i hn
      obtain ⟨r, hr, hx⟩ := Option.map_eq_some_iff.1 h
      subst hx
      obtain ⟨h1, h2, h3, h4⟩ := right_num d (o + 1) c r hr (by omega) (fun m hm => by have := hc m hm; omega) (by push_cast at hs; omega)
      refine ⟨by rw [numOk]; exact h1, by simp only; omega, by simp only; push_cast; omega, ?_⟩
      intro m hm
      rcases List.mem_append.1 hm with hm | hm
      · exact h4 m hm
      · obtain rfl : m = n := by simpa using hm
        simp only
        omega
    · cases h
theorem right_nums (l : List Nd) (o : Int) (c : List Int) (x : Int × List Int) (h : nrights l o c = some x) (ho : 0 ≤ o) (hc : ∀ n ∈ c, 1 ≤ n ∧ n ≤ o) (hs : o + nsizes l ≤ 1000000) : numOks l = true ∧ o ≤ x.1 ∧ x.1 ≤ o + nsizes l ∧ ∀ n ∈ x.2, 1 ≤ n ∧ n ≤ x.1 := by
  cases l with
  | nil => unfold nrights at h; injection h with h; subst h; exact ⟨rfl, Int.le_refl _, by simp; omega, hc⟩
  | cons d ds =>
    unfold nrights at h
    rw [nsizes] at hs ⊢
    split at h
    · cases h
    · rename_i y hy
      obtain ⟨h1, h2, h3, h4⟩ := right_num d o c y hy ho hc (by push_cast at hs; omega)
      obtain ⟨k1, k2, k3, k4⟩ := right_nums ds y.1 y.2 x h (by omega) h4 (by push_cast at hs; omega)
      exact ⟨by rw [numOks, h1, k1]; rfl, by omega, by push_cast; omega, k4⟩
end
theorem right_numOk (d : Nd) (h : nrightB d = true) (hs : nsize d ≤ 1000000) : numOk d = true := by
  unfold nrightB at h
  obtain ⟨x, hx⟩ := Option.isSome_iff_exists.1 h
  exact (right_num d 0 [] x hx (by omega) (by simp) (by omega)).1
mutual
theorem nT_le (d : Nd) (h : numOk d = true) : (nT d).length + 1 ≤ 3000 * nsize d := by
  cases d with
  | empty => show 0 + 1 ≤ 3000 * 1; omega
  | one s => show (setT s).length + 1 ≤ 3000 * 1; have := setT_le s; omega
  | cat l =>
    rw [numOk] at h
    rw [nT, nsize]
    have := nTs_le l h
    omega
  | alt l =>
    rw [numOk] at h
    rw [nT, nsize, List.length_drop]
    have := nTb_le l h
    omega
  | rep d mn mx =>
    rw [numOk, Bool.and_eq_true] at h
    rw [nT, nsize, List.length_append]
    have := nT_le d h.2
    have := timesT_le mn mx h.1
    omega
  | group n d =>
    rw [numOk] at h
    rw [nT, nsize, List.length_cons, List.length_append]
    have := nT_le d h
    simp
    omega
  | back n =>
    rw [numOk, Bool.and_eq_true, decide_eq_true_eq, decide_eq_true_eq] at h
    have := dec_le7 n.toNat (by omega)
    show (dec n.toNat).length + 1 + 1 ≤ 3000 * 1
    omega
  | start => show 1 + 1 ≤ 3000 * 1; omega
  | fin => show 1 + 1 ≤ 3000 * 1; omega
theorem nTs_le (l : List Nd) (h : numOks l = true) : (nTs l).length ≤ 3000 * nsizes l := by
  cases l with
  | nil => rw [nTs]; simp
  | cons d ds =>
    rw [numOks, Bool.and_eq_true] at h
    rw [nTs, nsizes, List.length_append]
    have := nT_le d h.1
    have := nTs_le ds h.2
    omega
theorem nTb_le (l : List Nd) (h : numOks l = true) : (nTb l).length ≤ 3000 * nsizes l := by
  cases l with
  | nil => rw [nTb]; simp
  | cons d ds =>
    rw [numOks, Bool.and_eq_true] at h
    rw [nTb, nsizes, List.length_cons, List.length_append]
    have := nT_le d h.1
    have := nTb_le ds h.2
    omega
end
end Go.Proofs.Ytjjhkagpoicimaa
