/- The proof's texts MaA: what the claim reaches of them. -/
import GoSem.Claim
import Derived.Laws.Bits64b
import Derived.Laws.Bits64
import Derived.Laws.BitsAllLaws
import Derived.Lib.DecodeN
import Derived.Lib.RuneBytes
import Derived.Laws.BytesArg
namespace Go.Proofs.Ytihfenkphhnbcaa
abbrev OSet := BitVec 256
def owN (s : OSet) (i : Nat) : Nat := s.toNat / 2 ^ (64 * i) % 18446744073709551616
def ow (s : OSet) (i : Nat) : Int := (owN s i : Int)
theorem owN_lt (s : OSet) (i : Nat) : owN s i < 18446744073709551616 := Nat.mod_lt _ (by decide)
theorem owN_testBit (s : OSet) (i j : Nat) : (owN s i).testBit j = (decide (j < 64) && s.getLsbD (64 * i + j)) := by
  unfold owN
  rw [show (18446744073709551616 : Nat) = 2 ^ 64 from rfl, Nat.testBit_mod_two_pow, Nat.testBit_div_two_pow]
  rw [BitVec.getLsbD]
  congr 2
  omega
theorem owN_eq (s : OSet) (i n : Nat) (hn : n < 18446744073709551616) (h : ∀ j, j < 64 → n.testBit j = s.getLsbD (64 * i + j)) : n = owN s i := by
  refine Nat.eq_of_testBit_eq fun j => ?_
  rw [owN_testBit]
  by_cases hj : j < 64
  · rw [h j hj]; simp [hj]
  · rw [Nat.testBit_lt_two_pow (Nat.lt_of_lt_of_le hn (by rw [show (18446744073709551616 : Nat) = 2 ^ 64 from rfl]; exact Nat.pow_le_pow_right (by decide) (by omega)))]
    simp [hj]
theorem oset_ext {s t : OSet} (h : ∀ i, i < 4 → ow s i = ow t i) : s = t := by
  refine BitVec.eq_of_getLsbD_eq fun k hk => ?_
  have h1 : owN s (k / 64) = owN t (k / 64) := by
    have := h (k / 64) (by omega)
    unfold ow at this; omega
  have h2 := owN_testBit s (k / 64) (k % 64)
  have h3 := owN_testBit t (k / 64) (k % 64)
  rw [h1, h3] at h2
  have h4 : 64 * (k / 64) + k % 64 = k := by omega
  have h5 : k % 64 < 64 := by omega
  rw [h4] at h2
  simpa [h5] using h2.symm
theorem oset_ne {s t : OSet} (h : s ≠ t) : ¬ (ow s 0 = ow t 0 ∧ ow s 1 = ow t 1 ∧ ow s 2 = ow t 2 ∧ ow s 3 = ow t 3) := by
  intro ⟨h0, h1, h2, h3⟩
  refine h (oset_ext fun i hi => ?_)
  match i, hi with
  | 0, _ => exact h0
  | 1, _ => exact h1
  | 2, _ => exact h2
  | 3, _ => exact h3
theorem oset_of (a b c d : Int) (ha : 0 ≤ a) (ha' : a < 18446744073709551616) (hb : 0 ≤ b) (hb' : b < 18446744073709551616) (hc : 0 ≤ c) (hc' : c < 18446744073709551616) (hd : 0 ≤ d) (hd' : d < 18446744073709551616) :
    ∃ s : OSet, a = ow s 0 ∧ b = ow s 1 ∧ c = ow s 2 ∧ d = ow s 3 := by
  obtain ⟨a, rfl⟩ := Int.eq_ofNat_of_zero_le ha
  obtain ⟨b, rfl⟩ := Int.eq_ofNat_of_zero_le hb
  obtain ⟨c, rfl⟩ := Int.eq_ofNat_of_zero_le hc
  obtain ⟨d, rfl⟩ := Int.eq_ofNat_of_zero_le hd
  have hlt : a + b * 2 ^ 64 + c * 2 ^ 128 + d * 2 ^ 192 < 2 ^ 256 := by omega
  refine ⟨BitVec.ofNat 256 (a + b * 2 ^ 64 + c * 2 ^ 128 + d * 2 ^ 192), ?_, ?_, ?_, ?_⟩ <;>
    (unfold ow owN; rw [BitVec.toNat_ofNat, Nat.mod_eq_of_lt hlt]; simp only [Nat.mul_zero, Nat.mul_one, Nat.reduceMul, Nat.reducePow]; omega)
def ohas (s : OSet) (x : Nat) : Bool := s.getLsbD x
def obit (x : Nat) : OSet := BitVec.ofNat 256 (2 ^ x)
theorem obit_get (x y : Nat) (hx : x < 256) : (obit x).getLsbD y = decide (x = y) := by
  unfold obit
  rw [BitVec.getLsbD_ofNat, Nat.testBit_two_pow]
  by_cases h : x = y
  · subst h; simp [hx]
  · simp [h]
theorem owN_bit (s : OSet) (i x : Nat) (hx : x < 256) (hi : x / 64 = i) : owN s i ||| 2 ^ (x % 64) = owN (s ||| obit x) i := by
  have hp : 2 ^ (x % 64) < 2 ^ 64 := Nat.pow_lt_pow_right (by decide) (by omega)
  refine owN_eq _ _ _ ?_ fun j hj => ?_
  · rw [show (18446744073709551616 : Nat) = 2 ^ 64 from rfl]
    exact Nat.or_lt_two_pow (owN_lt s i) hp
  · rw [Nat.testBit_or, owN_testBit, BitVec.getLsbD_or, obit_get _ _ hx, Nat.testBit_two_pow]
    simp only [hj, decide_true, Bool.true_and]
    congr 1
    exact decide_eq_decide.2 (by omega)
theorem owN_bit_other (s : OSet) (i x : Nat) (hx : x < 256) (hi : x / 64 ≠ i) : owN s i = owN (s ||| obit x) i := by
  refine owN_eq _ _ _ (owN_lt s i) fun j hj => ?_
  rw [owN_testBit, BitVec.getLsbD_or, obit_get _ _ hx]
  have : x ≠ 64 * i + j := by omega
  simp [hj, this]
theorem bits_add_ow (s : OSet) (i : Nat) (x : Int) (h0 : 0 ≤ x) (h1 : x ≤ 255) (hi : x / 64 = i) : bits .or .u64 (ow s i) (2 ^ (x % 64).toNat) = ow (s ||| obit x.toNat) i := by
  obtain ⟨n, rfl⟩ := Int.eq_ofNat_of_zero_le h0
  have e1 : ((n : Int) % 64).toNat = n % 64 := by omega
  have hp : 2 ^ (n % 64) < 2 ^ 64 := Nat.pow_lt_pow_right (by decide) (by omega)
  have h := bits_or_u64_nat (owN s i) (2 ^ (n % 64)) (owN_lt s i) hp
  rw [owN_bit s i n (by omega) (by omega)] at h
  rw [e1, Int.toNat_natCast]
  unfold ow
  rw [← h]
  simp
theorem ow_other (s : OSet) (i : Nat) (x : Int) (h0 : 0 ≤ x) (h1 : x ≤ 255) (hi : x / 64 ≠ i) : ow (s ||| obit x.toNat) i = ow s i := by
  unfold ow
  rw [← owN_bit_other s i x.toNat (by omega) (by omega)]
def oz : OSet := 0
theorem ow_zero (i : Nat) : ow oz i = 0 := by simp [oz, ow, owN]
def ofl (zs : List Int) : OSet := zs.foldl (fun s x => s ||| obit x.toNat) oz
def ospan (lo : Nat) : Nat → OSet
  | 0 => oz
  | n + 1 => ospan lo n ||| obit (lo + n)
def oSpan (lo hi : Int) : OSet := ospan lo.toNat (hi - lo + 1).toNat
theorem ofl_nil : ofl [] = oz := rfl
theorem ofl_snoc (zs : List Int) (k : Nat) (h : k < zs.length) : ofl (zs.take (k + 1)) = ofl (zs.take k) ||| obit (zs.getD k 0).toNat := by
  unfold ofl
  rw [List.take_succ_eq_append_getElem h, List.foldl_append]
  simp [List.getD, List.getElem?_eq_getElem h]
end Go.Proofs.Ytihfenkphhnbcaa
namespace Go.Proofs.Ytihfenkphhnbcaa
def prv (s : OSet) (k : Nat) : Bool := decide (0 < k) && ohas s (k - 1)
def grow1 : List (Nat × Nat) → Nat → List (Nat × Nat)
  | [], _ => []
  | [p], k => [(p.1, k)]
  | p :: q :: l, k => p :: grow1 (q :: l) k
def spTo (s : OSet) : Nat → List (Nat × Nat)
  | 0 => []
  | k + 1 => if ohas s k then (if prv s k then grow1 (spTo s k) k else spTo s k ++ [(k, k)]) else spTo s k
def sps (s : OSet) : List (Nat × Nat) := spTo s 256
end Go.Proofs.Ytihfenkphhnbcaa
namespace Go.Proofs.Ytihfenkphhnbcaa
inductive Tr where
  | mk (kind : Int) (set : OSet) (mn mx num : Int) (kids : List Tr)
def Tr.kind : Tr → Int | .mk k _ _ _ _ _ => k
def Tr.set : Tr → OSet | .mk _ s _ _ _ _ => s
def Tr.mn : Tr → Int | .mk _ _ a _ _ _ => a
def Tr.mx : Tr → Int | .mk _ _ _ b _ _ => b
def Tr.num : Tr → Int | .mk _ _ _ _ c _ => c
def Tr.parts : Tr → List Tr | .mk _ _ _ _ _ ps => ps
def tz : Tr := .mk 0 oz 0 0 0 []
instance : Inhabited Tr := ⟨tz⟩
mutual
/-- How much there is of a node, whatever its kind. -/
def tall : Tr → Nat
  | .mk _ _ _ _ _ ps => 1 + talls ps
def talls : List Tr → Nat
  | [] => 0
  | t :: ts => tall t + talls ts
end
mutual
/-- Are all kinds among the nine? -/
def tknown : Tr → Bool
  | .mk k _ _ _ _ ps => decide (0 ≤ k) && decide (k ≤ 8) && tknowns ps
def tknowns : List Tr → Bool
  | [] => true
  | t :: ts => tknown t && tknowns ts
end
def tof (t : Tr) : Tr := t.parts.headD tz
def tkids (t : Tr) : List Tr := if t.kind = 2 ∨ t.kind = 3 then t.parts else if t.kind = 4 ∨ t.kind = 5 then [tof t] else []
theorem talls_append (a b : List Tr) : talls (a ++ b) = talls a + talls b := by
  induction a with
  | nil => simp [talls]
  | cons t ts ih => rw [List.cons_append, talls, talls, ih]; omega
theorem talls_take (ps : List Tr) (i : Nat) (h : i < ps.length) : talls (ps.take (i + 1)) = talls (ps.take i) + tall ps[i] := by
  rw [List.take_succ_eq_append_getElem h, talls_append]
  simp [talls]
theorem tall_mem (ps : List Tr) (i : Nat) (h : i < ps.length) : tall ps[i] ≤ talls ps := by
  induction ps generalizing i with
  | nil => simp at h
  | cons t ts ih =>
    rw [talls]
    cases i with
    | zero => simp
    | succ i => have := ih i (by simpa using h); simp; omega
theorem tknowns_take (ps : List Tr) (i : Nat) (h : i < ps.length) : tknowns (ps.take (i + 1)) = (tknowns (ps.take i) && tknown ps[i]) := by
  rw [List.take_succ_eq_append_getElem h]
  generalize ps[i] = t
  induction ps.take i with
  | nil => simp [tknowns]
  | cons x xs ih => rw [List.cons_append, tknowns, tknowns, ih, Bool.and_assoc]
theorem talls_le (ps : List Tr) (i : Nat) : talls (ps.take i) ≤ talls ps := by
  have h := talls_append (ps.take i) (ps.drop i)
  rw [List.take_append_drop] at h
  omega
theorem tknowns_all (ps : List Tr) (i : Nat) (h : i < ps.length) (hk : tknown ps[i] = false) : tknowns ps = false := by
  induction ps generalizing i with
  | nil => simp at h
  | cons t ts ih =>
    rw [tknowns]
    cases i with
    | zero => rw [show tknown t = false from hk]; rfl
    | succ i => rw [ih i (by simpa using h) (by simpa using hk), Bool.and_false]
end Go.Proofs.Ytihfenkphhnbcaa
namespace Go.Proofs.Ytihfenkphhnbcaa
inductive Nd where
  | empty
  | one (s : OSet)
  | cat (l : List Nd)
  | alt (l : List Nd)
  | rep (d : Nd) (mn mx : Int)
  | group (num : Int) (d : Nd)
  | back (num : Int)
  | start
  | fin
instance : Inhabited Nd := ⟨.empty⟩
def nkids : Nd → List Nd
  | .cat l => l
  | .alt l => l
  | .rep d _ _ => [d]
  | .group _ d => [d]
  | _ => []
mutual
/-- A node of the document as what it is. -/
def canon : Tr → Nd
  | .mk k s mn mx num ps =>
    if k = 1 then .one s else if k = 2 then .cat (canons ps) else if k = 3 then .alt (canons ps)
    else if k = 4 then .rep (canon0 ps) mn mx else if k = 5 then .group num (canon0 ps)
    else if k = 6 then .back num else if k = 7 then .start else if k = 8 then .fin else .empty
def canons : List Tr → List Nd
  | [] => []
  | t :: ts => canon t :: canons ts
def canon0 : List Tr → Nd
  | [] => .empty
  | t :: _ => canon t
end
mutual
/-- How many nodes. -/
def nsize : Nd → Nat
  | .cat l => 1 + nsizes l
  | .alt l => 1 + nsizes l
  | .rep d _ _ => 1 + nsize d
  | .group _ d => 1 + nsize d
  | _ => 1
def nsizes : List Nd → Nat
  | [] => 0
  | d :: ds => nsize d + nsizes ds
end
mutual
/-- How many groups. -/
def ngroups : Nd → Nat
  | .cat l => ngroupss l
  | .alt l => ngroupss l
  | .rep d _ _ => ngroups d
  | .group _ d => ngroups d + 1
  | _ => 0
def ngroupss : List Nd → Nat
  | [] => 0
  | d :: ds => ngroups d + ngroupss ds
end
mutual
/-- Has it a Back? -/
def nbacks : Nd → Bool
  | .cat l => nbackss l
  | .alt l => nbackss l
  | .rep d _ _ => nbacks d
  | .group _ d => nbacks d
  | .back _ => true
  | _ => false
def nbackss : List Nd → Bool
  | [] => false
  | d :: ds => nbacks d || nbackss ds
end
def inCat : Nd → Bool
  | .empty => false
  | .cat _ => false
  | .alt _ => false
  | _ => true
def inAlt : Nd → Bool
  | .alt _ => false
  | _ => true
def inRep : Nd → Bool
  | .empty => false
  | .start => false
  | .fin => false
  | .cat _ => false
  | .alt _ => false
  | _ => true
def okRep (mn mx : Int) : Bool := decide (0 ≤ mn) && decide (mn ≤ 255) && (decide (mx = -1) || (decide (mn ≤ mx) && decide (mx ≤ 255)))
mutual
/-- Is a node right, when so many groups were opened, and these were closed? What was opened and closed then. -/
def nright : Nd → Int → List Int → Option (Int × List Int)
  | .cat l, o, c => if decide (2 ≤ l.length) && l.all inCat then nrights l o c else none
  | .alt l, o, c => if decide (2 ≤ l.length) && l.all inAlt then nrights l o c else none
  | .rep d mn mx, o, c => if okRep mn mx && inRep d then nright d o c else none
  | .group n d, o, c => if n = o + 1 then (nright d (o + 1) c).map fun r => (r.1, r.2 ++ [n]) else none
  | .back n, o, c => if c.contains n then some (o, c) else none
  | _, o, c => some (o, c)
def nrights : List Nd → Int → List Int → Option (Int × List Int)
  | [], o, c => some (o, c)
  | d :: ds, o, c => match nright d o c with
    | none => none
    | some r => nrights ds r.1 r.2
end
theorem canons_map (ps : List Tr) : canons ps = ps.map canon := by
  induction ps with
  | nil => rfl
  | cons t ts ih => rw [canons, ih]; rfl
theorem canon0_of (ps : List Tr) : canon0 ps = canon (ps.headD tz) := by
  cases ps with
  | nil => rfl
  | cons t ts => rfl
theorem canon_kids (t : Tr) : nkids (canon t) = (tkids t).map canon := by
  obtain ⟨k, s, mn, mx, num, ps⟩ := t
  by_cases h1 : k = 1
  · subst h1; rfl
  by_cases h2 : k = 2
  · subst h2; exact canons_map ps
  by_cases h3 : k = 3
  · subst h3; exact canons_map ps
  by_cases h4 : k = 4
  · subst h4; exact congrArg (fun x => [x]) (canon0_of ps)
  by_cases h5 : k = 5
  · subst h5; exact congrArg (fun x => [x]) (canon0_of ps)
  have hk : tkids (.mk k s mn mx num ps) = [] := by
    unfold tkids
    rw [if_neg (show ¬ ((Tr.mk k s mn mx num ps).kind = 2 ∨ (Tr.mk k s mn mx num ps).kind = 3) from fun h => h.elim h2 h3), if_neg (show ¬ ((Tr.mk k s mn mx num ps).kind = 4 ∨ (Tr.mk k s mn mx num ps).kind = 5) from fun h => h.elim h4 h5)]
  rw [hk]
  unfold canon
  rw [if_neg h1, if_neg h2, if_neg h3, if_neg h4, if_neg h5]
  by_cases h6 : k = 6
  · rw [if_pos h6]; rfl
  rw [if_neg h6]
  by_cases h7 : k = 7
  · rw [if_pos h7]; rfl
  rw [if_neg h7]
  by_cases h8 : k = 8
  · rw [if_pos h8]; rfl
  rw [if_neg h8]
  rfl
theorem nsize_kids (d : Nd) : nsize d = 1 + nsizes (nkids d) := by cases d <;> simp [nsize, nkids, nsizes]
theorem nsizes_append (a b : List Nd) : nsizes (a ++ b) = nsizes a + nsizes b := by
  induction a with
  | nil => simp [nsizes]
  | cons t ts ih => rw [List.cons_append, nsizes, nsizes, ih]; omega
theorem nsizes_take (ps : List Nd) (i : Nat) (h : i < ps.length) : nsizes (ps.take (i + 1)) = nsizes (ps.take i) + nsize ps[i] := by
  rw [List.take_succ_eq_append_getElem h, nsizes_append]
  simp [nsizes]
theorem nsizes_le (ps : List Nd) (i : Nat) : nsizes (ps.take i) ≤ nsizes ps := by
  have h := nsizes_append (ps.take i) (ps.drop i)
  rw [List.take_append_drop] at h
  omega
def ngrp : Nd → Bool
  | .group _ _ => true
  | _ => false
def nbck : Nd → Bool
  | .back _ => true
  | _ => false
theorem canon_grp (t : Tr) : ngrp (canon t) = (t.kind == 5) := by
  obtain ⟨k, s, mn, mx, num, ps⟩ := t
  show ngrp (canon _) = (k == 5)
  unfold canon
  repeat (split; · simp_all [ngrp])
  simp_all [ngrp]
theorem canon_bck (t : Tr) : nbck (canon t) = (t.kind == 6) := by
  obtain ⟨k, s, mn, mx, num, ps⟩ := t
  show nbck (canon _) = (k == 6)
  unfold canon
  repeat (split; · simp_all [nbck])
  simp_all [nbck]
theorem ngroups_kids (d : Nd) : ngroups d = ngroupss (nkids d) + (if ngrp d then 1 else 0) := by cases d <;> simp [ngroups, nkids, ngroupss, ngrp]
theorem nbacks_kids (d : Nd) : nbacks d = (nbackss (nkids d) || nbck d) := by cases d <;> simp [nbacks, nkids, nbackss, nbck]
theorem ngroupss_append (a b : List Nd) : ngroupss (a ++ b) = ngroupss a + ngroupss b := by
  induction a with
  | nil => simp [ngroupss]
  | cons t ts ih => rw [List.cons_append, ngroupss, ngroupss, ih]; omega
theorem ngroupss_take (ps : List Nd) (i : Nat) (h : i < ps.length) : ngroupss (ps.take (i + 1)) = ngroupss (ps.take i) + ngroups ps[i] := by
  rw [List.take_succ_eq_append_getElem h, ngroupss_append]
  simp [ngroupss]
theorem ngroupss_le (ps : List Nd) (i : Nat) : ngroupss (ps.take i) ≤ ngroupss ps := by
  have h := ngroupss_append (ps.take i) (ps.drop i)
  rw [List.take_append_drop] at h
  omega
theorem nbackss_append (a b : List Nd) : nbackss (a ++ b) = (nbackss a || nbackss b) := by
  induction a with
  | nil => simp [nbackss]
  | cons t ts ih => rw [List.cons_append, nbackss, nbackss, ih, Bool.or_assoc]
theorem nbackss_take (ps : List Nd) (i : Nat) (h : i < ps.length) : nbackss (ps.take (i + 1)) = (nbackss (ps.take i) || nbacks ps[i]) := by
  rw [List.take_succ_eq_append_getElem h, nbackss_append]
  simp [nbackss]
theorem nbackss_yes (ps : List Nd) (i : Nat) (h : nbackss (ps.take i) = true) : nbackss ps = true := by
  have h2 := nbackss_append (ps.take i) (ps.drop i)
  rw [List.take_append_drop] at h2
  rw [h2, h]
  rfl
theorem nsizes_length (ps : List Nd) : ps.length ≤ nsizes ps := by
  induction ps with
  | nil => simp [nsizes]
  | cons t ts ih => have := nsize_kids t; rw [nsizes, List.length_cons]; omega
theorem canon_1 (t : Tr) (h : t.kind = 1) : canon t = .one t.set := by
  obtain ⟨k, s, mn, mx, num, ps⟩ := t
  obtain rfl : k = 1 := h
  rfl
theorem canon_2 (t : Tr) (h : t.kind = 2) : canon t = .cat ((tkids t).map canon) := by
  obtain ⟨k, s, mn, mx, num, ps⟩ := t
  obtain rfl : k = 2 := h
  exact congrArg Nd.cat (canons_map ps)
theorem canon_3 (t : Tr) (h : t.kind = 3) : canon t = .alt ((tkids t).map canon) := by
  obtain ⟨k, s, mn, mx, num, ps⟩ := t
  obtain rfl : k = 3 := h
  exact congrArg Nd.alt (canons_map ps)
theorem canon_4 (t : Tr) (h : t.kind = 4) : canon t = .rep (canon (tof t)) t.mn t.mx ∧ tkids t = [tof t] := by
  obtain ⟨k, s, mn, mx, num, ps⟩ := t
  obtain rfl : k = 4 := h
  exact ⟨congrArg (fun x => Nd.rep x mn mx) (canon0_of ps), rfl⟩
theorem canon_5 (t : Tr) (h : t.kind = 5) : canon t = .group t.num (canon (tof t)) ∧ tkids t = [tof t] := by
  obtain ⟨k, s, mn, mx, num, ps⟩ := t
  obtain rfl : k = 5 := h
  exact ⟨congrArg (Nd.group num) (canon0_of ps), rfl⟩
theorem canon_6 (t : Tr) (h : t.kind = 6) : canon t = .back t.num := by
  obtain ⟨k, s, mn, mx, num, ps⟩ := t
  obtain rfl : k = 6 := h
  rfl
theorem canon_7 (t : Tr) (h : t.kind = 7) : canon t = .start := by
  obtain ⟨k, s, mn, mx, num, ps⟩ := t
  obtain rfl : k = 7 := h
  rfl
theorem canon_8 (t : Tr) (h : t.kind = 8) : canon t = .fin := by
  obtain ⟨k, s, mn, mx, num, ps⟩ := t
  obtain rfl : k = 8 := h
  rfl
theorem canon_0 (t : Tr) (h1 : t.kind ≠ 1) (h2 : t.kind ≠ 2) (h3 : t.kind ≠ 3) (h4 : t.kind ≠ 4) (h5 : t.kind ≠ 5) (h6 : t.kind ≠ 6) (h7 : t.kind ≠ 7) (h8 : t.kind ≠ 8) : canon t = .empty := by
  obtain ⟨k, s, mn, mx, num, ps⟩ := t
  simp only [Tr.kind] at h1 h2 h3 h4 h5 h6 h7 h8
  unfold canon
  rw [if_neg h1, if_neg h2, if_neg h3, if_neg h4, if_neg h5, if_neg h6, if_neg h7, if_neg h8]
mutual
/-- There are no more nodes than twice what there is. -/
theorem nsize_tall : ∀ t : Tr, nsize (canon t) ≤ 2 * tall t
  | .mk k s mn mx num ps => by
    have h1 := nsizes_talls ps
    have h2 := nsize0_talls ps
    rw [tall]
    unfold canon
    repeat (split; · simp only [nsize]; omega)
    simp only [nsize]; omega
theorem nsizes_talls : ∀ ps : List Tr, nsizes (canons ps) ≤ 2 * talls ps
  | [] => by simp [canons, nsizes]
  | t :: ts => by
    have h1 := nsize_tall t
    have h2 := nsizes_talls ts
    rw [canons, nsizes, talls]
    omega
theorem nsize0_talls : ∀ ps : List Tr, nsize (canon0 ps) ≤ 2 * talls ps + 1
  | [] => by simp [canon0, nsize]
  | t :: ts => by
    have h1 := nsize_tall t
    rw [canon0, talls]
    omega
end
mutual
theorem ngroups_size : ∀ d : Nd, ngroups d ≤ nsize d
  | .empty => by simp [ngroups]
  | .one _ => by simp [ngroups]
  | .cat l => by have := ngroupss_size l; simp only [ngroups, nsize]; omega
  | .alt l => by have := ngroupss_size l; simp only [ngroups, nsize]; omega
  | .rep d _ _ => by have := ngroups_size d; simp only [ngroups, nsize]; omega
  | .group _ d => by have := ngroups_size d; simp only [ngroups, nsize]; omega
  | .back _ => by simp [ngroups]
  | .start => by simp [ngroups]
  | .fin => by simp [ngroups]
theorem ngroupss_size : ∀ l : List Nd, ngroupss l ≤ nsizes l
  | [] => by simp [ngroupss]
  | d :: ds => by have := ngroups_size d; have := ngroupss_size ds; simp only [ngroupss, nsizes]; omega
end
end Go.Proofs.Ytihfenkphhnbcaa
namespace Go.Proofs.Ytihfenkphhnbcaa
end Go.Proofs.Ytihfenkphhnbcaa
namespace Go.Proofs.Ytihfenkphhnbcaa
def fitsM (d : Nd) (es : List Bool) : Bool := match d with
  | .cat l => decide (2 ≤ l.length) && l.all inCat
  | .alt l => decide (2 ≤ l.length) && l.all inAlt
  | .rep d mn mx => okRep mn mx && inRep d
  | .group n _ => decide (n = (es.length : Int) + 1)
  | .back n => decide (1 ≤ n) && decide (n ≤ es.length) && es.getD (n - 1).toNat false
  | _ => true
theorem all_any (p : Nd → Bool) (l : List Nd) : (!(l.any fun d => !p d)) = l.all p := by
  induction l with
  | nil => rfl
  | cons d ds ih => rw [List.any_cons, List.all_cons, ← ih]; cases p d <;> simp
end Go.Proofs.Ytihfenkphhnbcaa
namespace Go.Proofs.Ytihfenkphhnbcaa
mutual
/-- What comes of a node, and of nodes. -/
def evs : Nd → List (Nd × Bool)
  | .cat l => (.cat l, true) :: (evss l ++ [(.cat l, false)])
  | .alt l => (.alt l, true) :: (evss l ++ [(.alt l, false)])
  | .rep d a b => (.rep d a b, true) :: (evs d ++ [(.rep d a b, false)])
  | .group n d => (.group n d, true) :: (evs d ++ [(.group n d, false)])
  | .empty => [(.empty, true), (.empty, false)]
  | .one s => [(.one s, true), (.one s, false)]
  | .back n => [(.back n, true), (.back n, false)]
  | .start => [(.start, true), (.start, false)]
  | .fin => [(.fin, true), (.fin, false)]
def evss : List Nd → List (Nd × Bool)
  | [] => []
  | d :: ds => evs d ++ evss ds
end
theorem evs_kids (d : Nd) : evs d = (d, true) :: (evss (nkids d) ++ [(d, false)]) := by cases d <;> simp [evs, nkids, evss]
mutual
theorem evs_len : ∀ d : Nd, (evs d).length = 2 * nsize d
  | .cat l => by have := evss_len l; simp [evs, nsize, this]; omega
  | .alt l => by have := evss_len l; simp [evs, nsize, this]; omega
  | .rep d _ _ => by have := evs_len d; simp [evs, nsize, this]; omega
  | .group _ d => by have := evs_len d; simp [evs, nsize, this]; omega
  | .empty => rfl
  | .one _ => rfl
  | .back _ => rfl
  | .start => rfl
  | .fin => rfl
theorem evss_len : ∀ l : List Nd, (evss l).length = 2 * nsizes l
  | [] => rfl
  | d :: ds => by have := evs_len d; have := evss_len ds; simp [evss, nsizes, *]; omega
end
def rem : List (Nd × List Nd) → List (Nd × Bool)
  | [] => []
  | x :: s => rem s ++ (evss x.2 ++ [(x.1, false)])
theorem rem_snoc (s : List (Nd × List Nd)) (d : Nd) (r : List Nd) : rem (s ++ [(d, r)]) = evss r ++ ((d, false) :: rem s) := by
  induction s with
  | nil => simp [rem]
  | cons x s ih => rw [List.cons_append, rem, ih, rem]; simp
theorem rem_len (s : List (Nd × List Nd)) : s.length ≤ (rem s).length := by
  induction s with
  | nil => simp
  | cons x s ih => rw [rem]; simp; omega
end Go.Proofs.Ytihfenkphhnbcaa
namespace Go.Proofs.Ytihfenkphhnbcaa
def nnum : Nd → Int
  | .group n _ => n
  | _ => 0
inductive RS where
  | no
  | bad
  | ok (es : List Bool)
def rs (s : RS) (x : Nd × Bool) : RS := match s with
  | .ok es => if x.2 then (if fitsM x.1 es then .ok (if ngrp x.1 then es ++ [false] else es) else .no)
    else if ngrp x.1 then (if 1 ≤ nnum x.1 ∧ nnum x.1 ≤ (es.length : Int) then .ok (es.set (nnum x.1 - 1).toNat true) else .bad) else .ok es
  | .no => .no
  | .bad => .bad
def rsf (s : RS) (l : List (Nd × Bool)) : RS := l.foldl rs s
theorem rsf_append (s : RS) (l m : List (Nd × Bool)) : rsf s (l ++ m) = rsf (rsf s l) m := by unfold rsf; rw [List.foldl_append]
theorem rsf_cons (s : RS) (x : Nd × Bool) (l : List (Nd × Bool)) : rsf s (x :: l) = rsf (rs s x) l := rfl
theorem rsf_snoc (s : RS) (l : List (Nd × Bool)) (x : Nd × Bool) : rsf s (l ++ [x]) = rs (rsf s l) x := by rw [rsf_append]; rfl
theorem rsf_no (l : List (Nd × Bool)) : rsf .no l = .no := by
  induction l with
  | nil => rfl
  | cons x l ih => rw [rsf_cons]; exact ih
theorem rsf_bad (l : List (Nd × Bool)) : rsf .bad l = .bad := by
  induction l with
  | nil => rfl
  | cons x l ih => rw [rsf_cons]; exact ih
def RR (es : List Bool) (o : Int) (c : List Int) : Prop := o = (es.length : Int) ∧ ∀ n : Int, c.contains n = (decide (1 ≤ n) && decide (n ≤ (es.length : Int)) && es.getD (n - 1).toNat false)
def ROk (es : List Bool) (s : RS) (r : Option (Int × List Int)) : Prop := match r with
  | none => s = .no
  | some q => ∃ es', s = .ok es' ∧ RR es' q.1 q.2 ∧ es.length ≤ es'.length
theorem rok_refl {es : List Bool} {o : Int} {c : List Int} (h : RR es o c) : ROk es (.ok es) (some (o, c)) := ⟨es, rfl, h, Nat.le_refl _⟩
theorem rs_in_no {d : Nd} {es : List Bool} (h : fitsM d es = false) : rs (.ok es) (d, true) = .no := by simp [rs, h]
theorem rs_in {d : Nd} {es : List Bool} (h : fitsM d es = true) (hg : ngrp d = false) : rs (.ok es) (d, true) = .ok es := by simp [rs, h, hg]
theorem rs_out {d : Nd} (s : RS) (hg : ngrp d = false) : rs s (d, false) = s := by cases s <;> simp [rs, hg]
theorem rs_close {n : Int} {d : Nd} {es : List Bool} (h1 : 1 ≤ n) (h2 : n ≤ (es.length : Int)) : rs (.ok es) (.group n d, false) = .ok (es.set (n - 1).toNat true) := by simp [rs, ngrp, nnum, h1, h2]
theorem rr_open {es : List Bool} {o : Int} {c : List Int} (h : RR es o c) : RR (es ++ [false]) (o + 1) c := by
  obtain ⟨h1, h2⟩ := h
  refine ⟨by simp; omega, fun n => ?_⟩
  rw [h2 n]
  by_cases hn : n ≤ (es.length : Int)
  · by_cases hn1 : 1 ≤ n
    · rw [List.getD_eq_getElem?_getD, List.getD_eq_getElem?_getD, List.getElem?_append_left (by omega)]
      rw [decide_eq_true hn, decide_eq_true (show n ≤ ((es ++ [false]).length : Int) by simp; omega)]
    · simp [hn1]
  · by_cases hn1 : n = (es.length : Int) + 1
    · subst hn1
      simp
    · simp [hn]
      intro _ hh
      omega
theorem rr_close {es : List Bool} {o : Int} {c : List Int} (h : RR es o c) {n : Int} (h1 : 1 ≤ n) (h2 : n ≤ (es.length : Int)) : RR (es.set (n - 1).toNat true) o (c ++ [n]) := by
  obtain ⟨g1, g2⟩ := h
  refine ⟨by simpa using g1, fun m => ?_⟩
  have hc : (c ++ [n]).contains m = (c.contains m || (m == n)) := by
    simp
    rfl
  rw [hc, g2 m, List.length_set]
  by_cases hm : m = n
  · subst hm
    rw [decide_eq_true h1, decide_eq_true h2, @List.getD_eq_getElem?_getD _ (es.set (m - 1).toNat true), List.getElem?_set_self (by omega)]
    simp
  · have hne : (n - 1).toNat ≠ (m - 1).toNat ∨ ¬ 1 ≤ m := by omega
    rw [beq_eq_false_iff_ne.2 hm, Bool.or_false]
    rcases hne with hne | hne
    · rw [List.getD_eq_getElem?_getD, List.getD_eq_getElem?_getD, List.getElem?_set_ne hne]
    · simp [hne]
theorem rs_len (l : List (Nd × Bool)) : ∀ (es es' : List Bool), rsf (.ok es) l = .ok es' → es'.length ≤ es.length + l.length := by
  induction l with
  | nil => intro es es' h; cases h; simp
  | cons x l ih =>
    intro es es' h
    rw [rsf_cons] at h
    cases hs : rs (.ok es) x with
    | no => rw [hs, rsf_no] at h; cases h
    | bad => rw [hs, rsf_bad] at h; cases h
    | ok e2 =>
      rw [hs] at h
      have h1 := ih e2 es' h
      have h2 : e2.length ≤ es.length + 1 := by
        unfold rs at hs
        simp only at hs
        split at hs
        · split at hs
          · injection hs with hs
            subst hs
            split <;> simp
          · cases hs
        · split at hs
          · split at hs
            · injection hs with hs
              subst hs
              simp
            · cases hs
          · injection hs with hs
            subst hs
            simp
      simp
      omega
mutual
theorem evs_right : ∀ (d : Nd) (es : List Bool) (o : Int) (c : List Int), RR es o c → ROk es (rsf (.ok es) (evs d)) (nright d o c)
  | .cat l, es, o, c, h => by
    rw [evs, rsf_cons, rsf_append, nright]
    cases hf : decide (2 ≤ l.length) && l.all inCat
    · rw [rs_in_no (show fitsM (.cat l) es = false from hf), rsf_no, rsf_no]; rfl
    · rw [rs_in (show fitsM (.cat l) es = true from hf) rfl, rsf_cons, rs_out _ rfl]
      exact evss_right l es o c h
  | .alt l, es, o, c, h => by
    rw [evs, rsf_cons, rsf_append, nright]
    cases hf : decide (2 ≤ l.length) && l.all inAlt
    · rw [rs_in_no (show fitsM (.alt l) es = false from hf), rsf_no, rsf_no]; rfl
    · rw [rs_in (show fitsM (.alt l) es = true from hf) rfl, rsf_cons, rs_out _ rfl]
      exact evss_right l es o c h
  | .rep d mn mx, es, o, c, h => by
    rw [evs, rsf_cons, rsf_append, nright]
    cases hf : okRep mn mx && inRep d
    · rw [rs_in_no (show fitsM (.rep d mn mx) es = false from hf), rsf_no, rsf_no]; rfl
    · rw [rs_in (show fitsM (.rep d mn mx) es = true from hf) rfl, rsf_cons, rs_out _ rfl]
      exact evs_right d es o c h
  | .group n d, es, o, c, h => by
    rw [evs, rsf_cons, rsf_append, nright]
    by_cases hn : n = o + 1
    · rw [if_pos hn]
      have hf : fitsM (.group n d) es = true := decide_eq_true (by rw [hn, h.1])
      have hi : rs (.ok es) (.group n d, true) = .ok (es ++ [false]) := by simp [rs, hf, ngrp]
      rw [hi]
      have ih := evs_right d (es ++ [false]) (o + 1) c (rr_open h)
      cases hr : nright d (o + 1) c with
      | none =>
        rw [hr] at ih
        rw [show rsf (.ok (es ++ [false])) (evs d) = .no from ih, rsf_no]
        rfl
      | some q =>
        rw [hr] at ih
        obtain ⟨es', h1, h2, h3⟩ := ih
        rw [h1, rsf_cons]
        simp at h3
        have hlo : 1 ≤ n := by have := h.1; omega
        have hhi : n ≤ (es'.length : Int) := by have := h.1; omega
        have ho : rs (.ok es') (.group n d, false) = .ok (es'.set (n - 1).toNat true) := by simp [rs, ngrp, nnum, hlo, hhi]
        rw [ho]
        exact ⟨_, rfl, rr_close h2 hlo hhi, by rw [List.length_set]; omega⟩
    · rw [if_neg hn]
      have hf : fitsM (.group n d) es = false := decide_eq_false (by rw [← h.1]; exact hn)
      rw [rs_in_no hf, rsf_no, rsf_no]
      rfl
  | .back n, es, o, c, h => by
    rw [evs, rsf_cons, nright, h.2 n]
    cases hf : (decide (1 ≤ n) && decide (n ≤ (es.length : Int)) && es.getD (n - 1).toNat false)
    · rw [rs_in_no (show fitsM (.back n) es = false from hf), rsf_no]; rfl
    · rw [rs_in (show fitsM (.back n) es = true from hf) rfl, rsf_cons, rs_out _ rfl]
      exact rok_refl h
  | .empty, es, o, c, h => rok_refl h
  | .one _, es, o, c, h => rok_refl h
  | .start, es, o, c, h => rok_refl h
  | .fin, es, o, c, h => rok_refl h
theorem evss_right : ∀ (l : List Nd) (es : List Bool) (o : Int) (c : List Int), RR es o c → ROk es (rsf (.ok es) (evss l)) (nrights l o c)
  | [], es, o, c, h => rok_refl h
  | d :: ds, es, o, c, h => by
    rw [evss, rsf_append, nrights]
    have ih := evs_right d es o c h
    cases hr : nright d o c with
    | none =>
      rw [hr] at ih
      rw [show rsf (.ok es) (evs d) = .no from ih, rsf_no]
      rfl
    | some q =>
      rw [hr] at ih
      obtain ⟨es', h1, h2, h3⟩ := ih
      rw [h1]
      have ih2 := evss_right ds es' q.1 q.2 h2
      show ROk es _ (nrights ds q.1 q.2)
      cases hr2 : nrights ds q.1 q.2 with
      | none => rw [hr2] at ih2; exact ih2
      | some q2 =>
        rw [hr2] at ih2
        obtain ⟨es2, g1, g2, g3⟩ := ih2
        exact ⟨es2, g1, g2, Nat.le_trans h3 g3⟩
end
def nrightB (d : Nd) : Bool := (nright d 0 []).isSome
theorem rr_nil : RR [] 0 [] := ⟨rfl, fun n => by
  by_cases h1 : 1 ≤ n
  · have h2 : decide (n ≤ (([] : List Bool).length : Int)) = false := decide_eq_false (by simp; omega)
    rw [h2]; simp
  · rw [decide_eq_false h1]; rfl⟩
theorem right_ok {d : Nd} {es : List Bool} (h : rsf (.ok []) (evs d) = .ok es) : nrightB d = true := by
  have := evs_right d [] 0 [] rr_nil
  unfold nrightB
  cases hr : nright d 0 [] with
  | none => rw [hr, h] at this; cases this
  | some q => rfl
theorem right_no {d : Nd} (h : rsf (.ok []) (evs d) = .no) : nrightB d = false := by
  have := evs_right d [] 0 [] rr_nil
  unfold nrightB
  cases hr : nright d 0 [] with
  | none => rfl
  | some q => rw [hr, h] at this; obtain ⟨_, h1, _⟩ := this; cases h1
theorem right_never_bad {d : Nd} : rsf (.ok []) (evs d) ≠ .bad := by
  have := evs_right d [] 0 [] rr_nil
  intro h
  cases hr : nright d 0 [] with
  | none => rw [hr, h] at this; cases this
  | some q => rw [hr, h] at this; obtain ⟨_, h1, _⟩ := this; cases h1
theorem right_ends {root d : Nd} {pre : List (Nd × Bool)} {es : List Bool} (hs : ∃ suf, pre ++ (d, false) :: suf = evs root) (hp : rsf (.ok []) pre = .ok es) (hg : ngrp d = true) : 1 ≤ nnum d ∧ nnum d ≤ (es.length : Int) := by
  obtain ⟨suf, hs⟩ := hs
  by_cases h : 1 ≤ nnum d ∧ nnum d ≤ (es.length : Int)
  · exact h
  · exfalso
    refine right_never_bad (d := root) ?_
    rw [← hs, rsf_append, hp, rsf_cons]
    have : rs (.ok es) (d, false) = .bad := by simp only [rs, hg]; simp [h]
    rw [this, rsf_bad]
end Go.Proofs.Ytihfenkphhnbcaa
namespace Go.Proofs.Ytihfenkphhnbcaa
def nfit : Nd → Int → List Int → Bool
  | .cat l, _, _ => decide (2 ≤ l.length) && l.all inCat
  | .alt l, _, _ => decide (2 ≤ l.length) && l.all inAlt
  | .rep d mn mx, _, _ => okRep mn mx && inRep d
  | .group n _, o, _ => decide (n = o + 1)
  | .back n, _, c => c.contains n
  | _, _, _ => true
def nopen (d : Nd) (o : Int) : Int := if ngrp d then o + 1 else o
def nclose (d : Nd) (r : Int × List Int) : Int × List Int := if ngrp d then (r.1, r.2 ++ [nnum d]) else r
theorem nrights_one (d : Nd) (o : Int) (c : List Int) : nrights [d] o c = nright d o c := by
  rw [nrights]
  cases nright d o c with
  | none => rfl
  | some r => rfl
theorem nright_kids (d : Nd) (o : Int) (c : List Int) : nright d o c = if nfit d o c then (nrights (nkids d) (nopen d o) c).map (nclose d) else none := by
  have hid : ∀ d, ngrp d = false → ∀ x : Option (Int × List Int), x.map (nclose d) = x := by
    intro d hd x
    have : nclose d = id := by funext r; simp [nclose, hd]
    rw [this, Option.map_id]; rfl
  cases d with
  | empty => rfl
  | one s => rfl
  | cat l => rw [hid _ rfl]; rfl
  | alt l => rw [hid _ rfl]; rfl
  | rep d mn mx => rw [hid _ rfl]; show _ = if _ then nrights [d] o c else none; rw [nrights_one]; rfl
  | group n d =>
    show _ = if decide (n = o + 1) = true then (nrights [d] (o + 1) c).map _ else none
    rw [nrights_one, nright]
    by_cases h : n = o + 1
    · rw [if_pos h, if_pos (decide_eq_true h)]; rfl
    · rw [if_neg h, if_neg (by simpa using h)]
  | back n => rw [hid _ rfl]; rfl
  | start => rfl
  | fin => rfl
theorem nrights_append (l m : List Nd) (o : Int) (c : List Int) : nrights (l ++ m) o c = (nrights l o c).bind fun r => nrights m r.1 r.2 := by
  induction l generalizing o c with
  | nil => rfl
  | cons d ds ih =>
    rw [List.cons_append, nrights, nrights]
    cases nright d o c with
    | none => rfl
    | some r => exact ih r.1 r.2
theorem nrights_take (l : List Nd) (i : Nat) (h : i < l.length) (o : Int) (c : List Int) : nrights (l.take (i + 1)) o c = (nrights (l.take i) o c).bind fun r => nright l[i] r.1 r.2 := by
  rw [List.take_succ_eq_append_getElem h, nrights_append]
  congr 1
  funext r
  exact nrights_one _ _ _
theorem nrights_no (l : List Nd) (i : Nat) (o : Int) (c : List Int) (h : nrights (l.take i) o c = none) : nrights l o c = none := by
  have h2 := nrights_append (l.take i) (l.drop i) o c
  rw [List.take_append_drop, h] at h2
  exact h2
mutual
theorem nright_count : ∀ (d : Nd) (o : Int) (c : List Int) (r : Int × List Int), nright d o c = some r → r.1 = o + ngroups d ∧ r.2.length = c.length + ngroups d
  | .cat l, o, c, r, h => by
    rw [nright] at h
    split at h
    · rw [ngroups]; exact nrights_count l o c r h
    · cases h
  | .alt l, o, c, r, h => by
    rw [nright] at h
    split at h
    · rw [ngroups]; exact nrights_count l o c r h
    · cases h
  | .rep d mn mx, o, c, r, h => by
    rw [nright] at h
    split at h
    · rw [ngroups]; exact nright_count d o c r h
    · cases h
  | .group n d, o, c, r, h => by
    rw [nright] at h
    split at h
    · cases hd : nright d (o + 1) c with
      | none => rw [hd] at h; cases h
      | some q =>
        rw [hd] at h
        have h1 := nright_count d (o + 1) c q hd
        injection h with h
        subst h
        rw [ngroups]
        simp
        omega
    · cases h
  | .back n, o, c, r, h => by
    rw [nright] at h
    split at h
    · cases h; simp [ngroups]
    · cases h
  | .empty, o, c, r, h => by cases h; simp [ngroups]
  | .one _, o, c, r, h => by cases h; simp [ngroups]
  | .start, o, c, r, h => by cases h; simp [ngroups]
  | .fin, o, c, r, h => by cases h; simp [ngroups]
theorem nrights_count : ∀ (l : List Nd) (o : Int) (c : List Int) (r : Int × List Int), nrights l o c = some r → r.1 = o + ngroupss l ∧ r.2.length = c.length + ngroupss l
  | [], o, c, r, h => by cases h; simp [ngroupss]
  | d :: ds, o, c, r, h => by
    rw [nrights] at h
    cases hd : nright d o c with
    | none => rw [hd] at h; cases h
    | some q =>
      rw [hd] at h
      have h1 := nright_count d o c q hd
      have h2 := nrights_count ds q.1 q.2 r h
      rw [ngroupss]
      omega
end
theorem known_kind (t : Tr) (h : tknown t = true) : 0 ≤ t.kind ∧ t.kind ≤ 8 := by
  obtain ⟨k, s, mn, mx, num, ps⟩ := t
  rw [tknown] at h
  simp at h
  exact ⟨h.1.1, h.1.2⟩
theorem tknowns_mem (ps : List Tr) (h : tknowns ps = true) (i : Nat) (hi : i < ps.length) : tknown ps[i] = true := by
  cases hk : tknown ps[i] with
  | true => rfl
  | false => rw [tknowns_all ps i hi hk] at h; cases h
theorem known_kids (t : Tr) (h : tknown t = true) (i : Nat) (hi : i < (tkids t).length) : tknown (tkids t)[i] = true := by
  have hp : tknowns t.parts = true := by
    obtain ⟨k, s, mn, mx, num, ps⟩ := t
    rw [tknown] at h
    simp at h
    exact h.2
  by_cases h23 : t.kind = 2 ∨ t.kind = 3
  · have hk : tkids t = t.parts := by unfold tkids; rw [if_pos h23]
    simp only [hk]
    exact tknowns_mem _ hp i (by rw [← hk]; exact hi)
  · by_cases h45 : t.kind = 4 ∨ t.kind = 5
    · have hk : tkids t = [tof t] := by unfold tkids; rw [if_neg h23, if_pos h45]
      simp only [hk]
      have hi0 : i = 0 := by rw [hk] at hi; simpa using hi
      subst hi0
      show tknown (tof t) = true
      unfold tof
      cases hps : t.parts with
      | nil => rfl
      | cons x xs => rw [hps, tknowns] at hp; simp at hp; exact hp.1
    · exfalso
      have hk : tkids t = [] := by unfold tkids; rw [if_neg h23, if_neg h45]
      rw [hk] at hi
      simp at hi
theorem canon_cases (t : Tr) (h : tknown t = true) : (t.kind = 0 ∧ canon t = .empty) ∨ (t.kind = 1 ∧ ∃ s, canon t = .one s) ∨ (t.kind = 2 ∧ ∃ l, canon t = .cat l) ∨ (t.kind = 3 ∧ ∃ l, canon t = .alt l) ∨ (t.kind = 4 ∧ ∃ d a b, canon t = .rep d a b) ∨
    (t.kind = 5 ∧ ∃ n d, canon t = .group n d) ∨ (t.kind = 6 ∧ ∃ n, canon t = .back n) ∨ (t.kind = 7 ∧ canon t = .start) ∨ (t.kind = 8 ∧ canon t = .fin) := by
  have hk := known_kind t h
  rcases (show t.kind = 0 ∨ t.kind = 1 ∨ t.kind = 2 ∨ t.kind = 3 ∨ t.kind = 4 ∨ t.kind = 5 ∨ t.kind = 6 ∨ t.kind = 7 ∨ t.kind = 8 by omega) with h | h | h | h | h | h | h | h | h
  · exact .inl ⟨h, canon_0 t (by omega) (by omega) (by omega) (by omega) (by omega) (by omega) (by omega) (by omega)⟩
  · exact .inr (.inl ⟨h, _, canon_1 t h⟩)
  · exact .inr (.inr (.inl ⟨h, _, canon_2 t h⟩))
  · exact .inr (.inr (.inr (.inl ⟨h, _, canon_3 t h⟩)))
  · exact .inr (.inr (.inr (.inr (.inl ⟨h, _, _, _, (canon_4 t h).1⟩))))
  · exact .inr (.inr (.inr (.inr (.inr (.inl ⟨h, _, _, (canon_5 t h).1⟩)))))
  · exact .inr (.inr (.inr (.inr (.inr (.inr (.inl ⟨h, _, canon_6 t h⟩))))))
  · exact .inr (.inr (.inr (.inr (.inr (.inr (.inr (.inl ⟨h, canon_7 t h⟩)))))))
  · exact .inr (.inr (.inr (.inr (.inr (.inr (.inr (.inr ⟨h, canon_8 t h⟩)))))))
theorem canon_inCat (t : Tr) (h : tknown t = true) : inCat (canon t) = !((t.kind == 3) || ((t.kind == 0) || (t.kind == 2))) := by
  rcases canon_cases t h with ⟨h, e⟩ | ⟨h, _, e⟩ | ⟨h, _, e⟩ | ⟨h, _, e⟩ | ⟨h, _, _, _, e⟩ | ⟨h, _, _, e⟩ | ⟨h, _, e⟩ | ⟨h, e⟩ | ⟨h, e⟩ <;> rw [e, h] <;> rfl
theorem canon_inAlt (t : Tr) (h : tknown t = true) : inAlt (canon t) = !(t.kind == 3) := by
  rcases canon_cases t h with ⟨h, e⟩ | ⟨h, _, e⟩ | ⟨h, _, e⟩ | ⟨h, _, e⟩ | ⟨h, _, _, _, e⟩ | ⟨h, _, _, e⟩ | ⟨h, _, e⟩ | ⟨h, e⟩ | ⟨h, e⟩ <;> rw [e, h] <;> rfl
theorem canon_inRep (t : Tr) (h : tknown t = true) : inRep (canon t) = !((((((t.kind == 0) || (t.kind == 7)) || (t.kind == 8)) || (t.kind == 2))) || (t.kind == 3)) := by
  rcases canon_cases t h with ⟨h, e⟩ | ⟨h, _, e⟩ | ⟨h, _, e⟩ | ⟨h, _, e⟩ | ⟨h, _, _, _, e⟩ | ⟨h, _, _, e⟩ | ⟨h, _, e⟩ | ⟨h, e⟩ | ⟨h, e⟩ <;> rw [e, h] <;> rfl
theorem all_take {α : Type} (p : α → Bool) (l : List α) (i : Nat) (h : i < l.length) : (l.take (i + 1)).all p = ((l.take i).all p && p l[i]) := by
  rw [List.take_succ_eq_append_getElem h, List.all_append]
  simp
theorem all_no {α : Type} (p : α → Bool) (l : List α) (i : Nat) (h : i < l.length) (hp : p l[i] = false) : l.all p = false := by
  rw [← Bool.not_eq_true]
  intro ha
  have := List.all_eq_true.1 ha l[i] (List.getElem_mem h)
  rw [hp] at this
  cases this
theorem contains_take (c : List Int) (n : Int) (i : Nat) (h : i < c.length) : (c.take (i + 1)).contains n = ((c.take i).contains n || (c[i] == n)) := by
  rw [List.take_succ_eq_append_getElem h]
  generalize c.take i = l
  generalize c[i] = m
  cases hh : (l.contains n || (m == n)) with
  | true =>
    simp at hh
    simp
    rcases hh with h | h
    · exact .inl h
    · exact .inr h.symm
  | false =>
    simp at hh
    simp
    exact ⟨hh.1, fun e => hh.2 e.symm⟩
end Go.Proofs.Ytihfenkphhnbcaa
namespace Go.Proofs.Ytihfenkphhnbcaa
end Go.Proofs.Ytihfenkphhnbcaa
namespace Go.Proofs.Ytihfenkphhnbcaa
end Go.Proofs.Ytihfenkphhnbcaa
