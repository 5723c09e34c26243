/- Parts joined, and chosen among. No program is named here. -/
import Derived.Test.YtaekjcbgnlldoaaNdMath
namespace Go.Proofs.Ytaekjcbgnlldoaa

/-- What a part is worth in a Cat, in an Alt. -/
def jpart : Nd → List Nd
  | .empty => []
  | .cat l => l
  | d => [d]
def cpart : Nd → List Nd
  | .alt l => l
  | d => [d]
def jflat (l : List Nd) : List Nd := l.flatMap jpart
def cflat (l : List Nd) : List Nd := l.flatMap cpart
def njoin (l : List Nd) : Nd := match jflat l with
  | [] => .empty
  | [d] => d
  | ds => .cat ds
def nchoose (l : List Nd) : Nd := match cflat l with
  | [] => .empty
  | [d] => d
  | ds => .alt ds
theorem flat_take (f : Nd → List Nd) (l : List Nd) (k : Nat) (h : k < l.length) : (l.take (k + 1)).flatMap f = (l.take k).flatMap f ++ f l[k] := by
  rw [List.take_succ_eq_append_getElem h, List.flatMap_append]
  simp
theorem flat_le (f : Nd → List Nd) (l : List Nd) (k : Nat) : ((l.take k).flatMap f).length ≤ (l.flatMap f).length := by
  have h := congrArg List.length (congrArg (List.flatMap f) (List.take_append_drop k l))
  rw [List.flatMap_append, List.length_append] at h
  omega
theorem jpart_len (d : Nd) : (jpart d).length ≤ nsize d := by
  cases d with
  | cat l => have := nsizes_length l; simp only [jpart, nsize]; omega
  | _ => simp [jpart, nsize]
theorem cpart_len (d : Nd) : (cpart d).length ≤ nsize d := by
  cases d with
  | alt l => have := nsizes_length l; simp only [cpart, nsize]; omega
  | _ => simp [cpart, nsize]
theorem jflat_len (l : List Nd) : (jflat l).length ≤ nsizes l := by
  induction l with
  | nil => simp [jflat, nsizes]
  | cons d ds ih => have := jpart_len d; unfold jflat at *; rw [List.flatMap_cons, List.length_append, nsizes]; omega
theorem cflat_len (l : List Nd) : (cflat l).length ≤ nsizes l := by
  induction l with
  | nil => simp [cflat, nsizes]
  | cons d ds ih => have := cpart_len d; unfold cflat at *; rw [List.flatMap_cons, List.length_append, nsizes]; omega
end Go.Proofs.Ytaekjcbgnlldoaa
