/- Plain mathematics of layer 17: lines of a text, tables of files by names rising. No program is named here. -/
import GoSem.Claim
import Derived.WalkKit
namespace Go.Proofs.YtnognicabhgmcaaDoor
set_option linter.unusedVariables false

/-- A text's lines. -/
def cutRun : List UInt8 → List UInt8 → List (List UInt8) → List (List UInt8)
  | [], cur, out => out ++ [cur]
  | b :: l, cur, out => if b = 10 then cutRun l [] (out ++ [cur]) else cutRun l (cur ++ [b]) out
def fCut (L : List UInt8) : List (List UInt8) := cutRun L [] []
def fJoin : List (List UInt8) → List UInt8
  | [] => []
  | [x] => x
  | x :: y :: l => x ++ 10 :: fJoin (y :: l)
theorem join_snoc : ∀ (l : List (List UInt8)) (x : List UInt8), l ≠ [] → fJoin (l ++ [x]) = fJoin l ++ 10 :: x
  | [], x, h => absurd rfl h
  | [a], x, _ => rfl
  | a :: b :: l, x, _ => by
    show a ++ 10 :: fJoin (b :: l ++ [x]) = (a ++ 10 :: fJoin (b :: l)) ++ 10 :: x
    rw [join_snoc (b :: l) x (by simp)]
    simp
theorem join_last : ∀ (l : List (List UInt8)) (x y : List UInt8), fJoin (l ++ [x ++ y]) = fJoin (l ++ [x]) ++ y
  | [], x, y => rfl
  | a :: l, x, y => by
    rw [join_snoc (a :: l) _ (by simp), join_snoc (a :: l) _ (by simp)]
    simp
theorem cutRun_back : ∀ (L cur : List UInt8) (out : List (List UInt8)), fJoin (cutRun L cur out) = fJoin (out ++ [cur]) ++ L
  | [], cur, out => by simp [cutRun]
  | b :: l, cur, out => by
    unfold cutRun
    split
    · rename_i h
      subst h
      rw [cutRun_back l, join_snoc (out ++ [cur]) [] (by simp)]
      simp
    · rw [cutRun_back l, join_last]
      simp
theorem cut_back (L : List UInt8) : fJoin (fCut L) = L := by unfold fCut; rw [cutRun_back]; rfl
theorem cutRun_ne : ∀ (L cur : List UInt8) (out : List (List UInt8)), cutRun L cur out ≠ []
  | [], cur, out => by simp [cutRun]
  | b :: l, cur, out => by
    unfold cutRun
    split
    · exact cutRun_ne l _ _
    · exact cutRun_ne l _ _
theorem cut_ne (L : List UInt8) : fCut L ≠ [] := cutRun_ne L [] []
theorem cutRun_len : ∀ (L cur : List UInt8) (out : List (List UInt8)), (cutRun L cur out).length ≤ out.length + 1 + L.length
  | [], cur, out => by simp [cutRun]
  | b :: l, cur, out => by
    unfold cutRun
    split
    · have := cutRun_len l [] (out ++ [cur]); simp at this ⊢; omega
    · have := cutRun_len l (cur ++ [b]) out; simp at this ⊢; omega
theorem cut_len (L : List UInt8) : (fCut L).length ≤ L.length + 1 := by have := cutRun_len L [] []; simp at this; unfold fCut; omega

/-! ### The order of names, as the program asks it. -/
abbrev bl (x y : List UInt8) : Bool := Go.Op.bytesLess x y
theorem bl_irrefl : ∀ (x : List UInt8), bl x x = false
  | [] => rfl
  | a :: x => by
    show (decide (a < a) || (a == a && bl x x)) = false
    rw [bl_irrefl x]
    simp
theorem bl_trans : ∀ {x y z : List UInt8}, bl x y = true → bl y z = true → bl x z = true
  | [], [], _, h, _ => by cases h
  | _ :: _, [], _, h, _ => by cases h
  | [], _ :: _, [], _, h => by cases h
  | _ :: _, _ :: _, [], _, h => by cases h
  | [], _ :: _, _ :: _, _, _ => rfl
  | a :: x, b :: y, c :: z, h, k => by
    simp only [bl, Go.Op.bytesLess, Bool.or_eq_true, Bool.and_eq_true, decide_eq_true_eq, beq_iff_eq] at h k ⊢
    rcases h with h | ⟨rfl, h⟩
    · rcases k with k | ⟨rfl, k⟩
      · exact .inl (UInt8.lt_trans h k)
      · exact .inl h
    · rcases k with k | ⟨rfl, k⟩
      · exact .inl k
      · exact .inr ⟨rfl, bl_trans h k⟩
theorem bl_tri : ∀ (x y : List UInt8), bl x y = false → x ≠ y → bl y x = true
  | [], [], _, h => absurd rfl h
  | [], _ :: _, h, _ => by cases h
  | _ :: _, [], _, _ => rfl
  | a :: x, b :: y, h, k => by
    simp only [bl, Go.Op.bytesLess, Bool.or_eq_false_iff, Bool.and_eq_false_iff, decide_eq_false_iff_not, beq_eq_false_iff_ne, Bool.or_eq_true, Bool.and_eq_true, decide_eq_true_eq, beq_iff_eq] at h ⊢
    obtain ⟨h1, h2⟩ := h
    by_cases e : a = b
    · subst e
      refine .inr ⟨rfl, bl_tri x y (h2.resolve_left fun q => q rfl) fun q => k (by rw [q])⟩
    · exact .inl (UInt8.lt_of_le_of_ne (UInt8.not_lt.1 h1) (Ne.symm e))
theorem bl_asymm {x y : List UInt8} (h : bl x y = true) : bl y x = false := by
  cases k : bl y x with
  | false => rfl
  | true => have := bl_trans h k; rw [bl_irrefl] at this; cases this
theorem bl_ne {x y : List UInt8} (h : bl x y = true) : x ≠ y := fun e => by subst e; rw [bl_irrefl] at h; cases h

/-! ### Tables. -/
/-- A file: its name, its lines. -/
abbrev Fl := List UInt8 × List (List UInt8)
def Srt (l : List Fl) : Prop := l.Pairwise fun a b => bl a.1 b.1 = true
/-- The lines of a file; none: it isn't there. -/
def fLines : List Fl → List UInt8 → Option (List (List UInt8))
  | [], _ => none
  | f :: l, n => if f.1 = n then some f.2 else fLines l n
/-- The document's putting, round by round: what is behind, whether it is done, what is collected. -/
def putRun (n : List UInt8) (x : List (List UInt8)) : List Fl → Bool → List Fl → List Fl
  | [], done, out => if done = true then out else out ++ [(n, x)]
  | f :: l, done, out =>
    let at_ := !done && !bl f.1 n
    let o1 := if at_ = true then out ++ [(n, x)] else out
    putRun n x l (done || !bl f.1 n) (if f.1 = n then o1 else o1 ++ [f])
def fPut (l : List Fl) (n : List UInt8) (x : List (List UInt8)) : List Fl := putRun n x l false []
/-- The same, from ahead. -/
def put (n : List UInt8) (x : List (List UInt8)) : List Fl → List Fl
  | [] => [(n, x)]
  | f :: l => if bl f.1 n = true then f :: put n x l else if f.1 = n then (n, x) :: l else (n, x) :: f :: l
theorem putRun_done (n : List UInt8) (x : List (List UInt8)) : ∀ (l out : List Fl), (∀ f ∈ l, f.1 ≠ n) → putRun n x l true out = out ++ l
  | [], out, _ => by simp [putRun]
  | f :: l, out, h => by
    unfold putRun
    have h1 := h f (by simp)
    simp only [Bool.not_true, Bool.false_and, Bool.false_eq_true, if_false, Bool.true_or, if_neg h1]
    rw [putRun_done n x l _ fun g hg => h g (by simp [hg])]
    simp
theorem putRun_put (n : List UInt8) (x : List (List UInt8)) : ∀ (l out : List Fl), Srt l → putRun n x l false out = out ++ put n x l
  | [], out, _ => by simp [putRun, put]
  | f :: l, out, h => by
    unfold putRun put
    unfold Srt at h
    rw [List.pairwise_cons] at h
    cases hb : bl f.1 n with
    | true =>
      have h1 := bl_ne hb
      simp only [Bool.not_false, Bool.not_true, Bool.and_false, Bool.false_eq_true, if_false, Bool.or_false, if_neg h1, if_true]
      rw [putRun_put n x l _ h.2]
      simp
    | false =>
      simp only [Bool.not_false, Bool.and_true, if_true, Bool.or_true, Bool.false_eq_true, if_false]
      by_cases e : f.1 = n
      · rw [if_pos e, if_pos e, putRun_done n x l _ fun g hg => (bl_ne (e ▸ h.1 g hg)).symm]
        simp
      · rw [if_neg e, if_neg e, putRun_done n x l _ fun g hg => (bl_ne (bl_trans (bl_tri _ _ hb e) (h.1 g hg))).symm]
        simp
theorem fPut_put {l : List Fl} (h : Srt l) (n : List UInt8) (x : List (List UInt8)) : fPut l n x = put n x l := by unfold fPut; rw [putRun_put n x l [] h]; rfl
theorem put_mem {n : List UInt8} {x : List (List UInt8)} : ∀ {l : List Fl} {g : Fl}, g ∈ put n x l → g.1 = n ∨ g ∈ l
  | [], g, h => by simp [put] at h; exact .inl (by rw [h])
  | f :: l, g, h => by
    unfold put at h
    split at h
    · rcases List.mem_cons.1 h with rfl | h
      · exact .inr (by simp)
      · exact (put_mem h).imp id fun h => by simp [h]
    split at h
    · rcases List.mem_cons.1 h with rfl | h
      · exact .inl rfl
      · exact .inr (by simp [h])
    · rcases List.mem_cons.1 h with rfl | h
      · exact .inl rfl
      · exact .inr h
theorem put_srt {n : List UInt8} {x : List (List UInt8)} : ∀ {l : List Fl}, Srt l → Srt (put n x l)
  | [], _ => by simp [put, Srt]
  | f :: l, h => by
    unfold Srt at h
    rw [List.pairwise_cons] at h
    unfold put
    split
    · rename_i hb
      refine List.pairwise_cons.2 ⟨fun g hg => ?_, put_srt h.2⟩
      rcases put_mem hg with e | hg
      · rw [e]; exact hb
      · exact h.1 g hg
    split
    · rename_i hb e
      exact List.pairwise_cons.2 ⟨fun g hg => e ▸ h.1 g hg, h.2⟩
    · rename_i hb e
      have hn := bl_tri _ _ (by simpa using hb) e
      refine List.pairwise_cons.2 ⟨fun g hg => ?_, List.pairwise_cons.2 h⟩
      rcases List.mem_cons.1 hg with rfl | hg
      · exact hn
      · exact bl_trans hn (h.1 g hg)
theorem lines_none {n : List UInt8} : ∀ {l : List Fl}, (∀ f ∈ l, f.1 ≠ n) → fLines l n = none
  | [], _ => rfl
  | f :: l, h => by
    unfold fLines
    rw [if_neg (h f (by simp))]
    exact lines_none fun g hg => h g (by simp [hg])
theorem lines_put {n m : List UInt8} {x : List (List UInt8)} : ∀ {l : List Fl}, Srt l → fLines (put n x l) m = if m = n then some x else fLines l m
  | [], _ => by
    unfold put fLines
    simp only
    by_cases e : m = n
    · rw [if_pos e, if_pos e.symm]
    · rw [if_neg e, if_neg fun q => e q.symm]
      rfl
  | f :: l, h => by
    unfold Srt at h
    rw [List.pairwise_cons] at h
    unfold put
    split
    · rename_i hb
      unfold fLines
      by_cases e : f.1 = m
      · rw [if_pos e, if_pos e, if_neg fun q => bl_ne hb (by rw [e, q])]
      · rw [if_neg e, if_neg e]
        exact lines_put h.2
    split
    · rename_i hb e
      unfold fLines
      simp only
      by_cases q : m = n
      · rw [if_pos q, if_pos q.symm]
      · rw [if_neg q, if_neg fun p => q p.symm, if_neg fun p => q (by rw [← p, e])]
    · rename_i hb e
      show (if n = m then some x else fLines (f :: l) m) = _
      by_cases q : m = n
      · rw [if_pos q, if_pos q.symm]
      · rw [if_neg q, if_neg fun p => q p.symm]
/-- Two tables of the same lines are one. -/
theorem srt_ext : ∀ {l k : List Fl}, Srt l → Srt k → (∀ n, fLines l n = fLines k n) → l = k
  | [], [], _, _, _ => rfl
  | [], g :: k, _, _, h => by have := h g.1; simp [fLines] at this
  | f :: l, [], _, _, h => by have := h f.1; simp [fLines] at this
  | f :: l, g :: k, hl, hk, h => by
    unfold Srt at hl hk
    rw [List.pairwise_cons] at hl hk
    have e : f.1 = g.1 := by
      cases hb : bl f.1 g.1 with
      | true =>
        have h1 := h f.1
        rw [lines_none (l := g :: k) fun y hy => by
          rcases List.mem_cons.1 hy with rfl | hy
          · exact (bl_ne hb).symm
          · exact (bl_ne (bl_trans hb (hk.1 y hy))).symm] at h1
        simp [fLines] at h1
      | false =>
        by_cases e : f.1 = g.1
        · exact e
        · have hb2 := bl_tri _ _ hb e
          have h1 := h g.1
          rw [lines_none (l := f :: l) fun y hy => by
            rcases List.mem_cons.1 hy with rfl | hy
            · exact e
            · exact (bl_ne (bl_trans hb2 (hl.1 y hy))).symm] at h1
          simp [fLines] at h1
    have e2 : f.2 = g.2 := by have := h f.1; simpa [fLines, e] using this
    have e3 : f = g := Prod.ext e e2
    subst e3
    rw [srt_ext hl.2 hk.2 fun n => ?_]
    have h1 := h n
    unfold fLines at h1
    by_cases q : f.1 = n
    · subst q
      rw [lines_none fun y hy => (bl_ne (hl.1 y hy)).symm, lines_none fun y hy => (bl_ne (hk.1 y hy)).symm]
    · rw [if_neg q, if_neg q] at h1
      exact h1

/-! ### What the document says. -/
def fNewRun : List Fl → List Fl → List Fl
  | [], out => out
  | f :: l, out => fNewRun l (fPut out f.1 (f.2.flatMap fCut))
def fNew (l : List Fl) : List Fl := fNewRun l []
def fAdd (l : List Fl) (n t : List UInt8) : List Fl := fPut l n ((fLines l n).getD [] ++ fCut t)
theorem fPut_srt {l : List Fl} (h : Srt l) (n : List UInt8) (x : List (List UInt8)) : Srt (fPut l n x) := by rw [fPut_put h]; exact put_srt h
theorem fLines_fPut {l : List Fl} (h : Srt l) (n m : List UInt8) (x : List (List UInt8)) : fLines (fPut l n x) m = if m = n then some x else fLines l m := by rw [fPut_put h]; exact lines_put h
theorem fNewRun_srt : ∀ {l out : List Fl}, Srt out → Srt (fNewRun l out)
  | [], _, h => h
  | f :: l, _, h => fNewRun_srt (l := l) (fPut_srt h _ _)
theorem fNew_srt (l : List Fl) : Srt (fNew l) := fNewRun_srt (List.Pairwise.nil)
theorem fAdd_srt {l : List Fl} (h : Srt l) (n t : List UInt8) : Srt (fAdd l n t) := fPut_srt h _ _
theorem fLines_fAdd {l : List Fl} (h : Srt l) (n m t : List UInt8) : fLines (fAdd l n t) m = if m = n then some ((fLines l n).getD [] ++ fCut t) else fLines l m := fLines_fPut h _ _ _
/-- In which order two are told changes nothing. -/
theorem add_add {l : List Fl} (h : Srt l) {a b : List UInt8} (s t : List UInt8) (hab : a ≠ b) : fAdd (fAdd l a s) b t = fAdd (fAdd l b t) a s := by
  refine srt_ext (fAdd_srt (fAdd_srt h _ _) _ _) (fAdd_srt (fAdd_srt h _ _) _ _) fun n => ?_
  rw [fLines_fAdd (fAdd_srt h _ _), fLines_fAdd (fAdd_srt h _ _), fLines_fAdd h, fLines_fAdd h, fLines_fAdd h, fLines_fAdd h]
  by_cases ha : n = a
  · subst ha
    rw [if_neg hab, if_pos rfl, if_pos rfl, if_neg hab]
  · by_cases hb : n = b
    · subst hb
      rw [if_pos rfl, if_neg ha, if_neg ha, if_pos rfl]
    · rw [if_neg hb, if_neg ha, if_neg ha, if_neg hb]
/-- What is done with one file changes no other one. -/
theorem add_other {l : List Fl} (h : Srt l) {a b : List UInt8} (s : List UInt8) (hab : a ≠ b) : fLines (fAdd l a s) b = fLines l b := by rw [fLines_fAdd h, if_neg fun e => hab e.symm]
end Go.Proofs.YtnognicabhgmcaaDoor
