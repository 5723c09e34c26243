/- The proof's texts CmTc: what the claim reaches of them. -/
import Derived.Test.YtbgfankoojjejaaGreatDoorRp36
set_option linter.unusedSimpArgs false
set_option linter.unusedVariables false
set_option maxHeartbeats 8000000
set_option maxRecDepth 1000000
namespace Go.Proofs.YtbgfankoojjejaaGreatDoor
set_option linter.unusedVariables false
theorem btw_more (k : UInt8 → Bool) (h92 : k 92 = true) (h47 : k 47 = true) (L u : List UInt8) (m : Nat) : ∀ (l : List UInt8) (p : Nat) (acc : List UInt8), L.drop p = toldK k l ++ u →
  pcBtw 47 false L (m + l.length) p acc = pcBtw 47 false L m (p + (toldK k l).length) (acc ++ btwK k l)
 | [], p, acc, h => by simp [toldK, btwK]
 | b :: l, p, acc, h => by
  rw [toldK_cons, List.append_assoc] at h
  have hd := drop_more _ h
  have ih := btw_more k h92 h47 L u m l (p + (told1 k b).length) (acc ++ btw1 k b) hd
  have e : pcBtw 47 false L (m + l.length + 1) p acc = pcBtw 47 false L (m + l.length) (p + (told1 k b).length) (acc ++ btw1 k b) := by
   unfold told1 at h ⊢
   unfold btw1
   by_cases h10 : b = 10
   ·rw [if_pos h10] at h ⊢
    rw [if_pos h10]
    exact pcBtw_part (c := 92) (t := 110 :: (toldK k l ++ u)) h (by decide) part_esc
   ·rw [if_neg h10] at h ⊢
    rw [if_neg h10]
    by_cases hk : k b = true
    ·rw [if_pos hk] at h ⊢
     rw [if_pos hk]
     refine pcBtw_part (c := 92) (t := b :: (toldK k l ++ u)) h (by decide) ?_
     rw [part_esc]
     by_cases hb : b = 47
     ·rw [if_pos hb, if_pos hb, hb]; rfl
     ·rw [if_neg hb, if_neg hb]; rfl
    ·rw [if_neg hk] at h ⊢
     rw [if_neg hk]
     have hb2 : ¬ b = 92 := fun e => hk (by rw [e]; exact h92)
     have hb7 : ¬ b = 47 := fun e => hk (by rw [e]; exact h47)
     exact pcBtw_part (c := b) (t := toldK k l ++ u) h hb7 (part_self hb2 h10)
  rw [List.length_cons, ← Nat.add_assoc, e, ih, btwK_cons, toldK_cons, List.length_append, List.append_assoc, Nat.add_assoc]
def cxB : Bool := match parseM false [120] with | .ok q => q.1.marks.isEmpty && ngroups q.2 == 0 | .error _ => false
theorem cx_ok : cxB = true := by decide +kernel
theorem cx_parse : ∃ st D, parseM false [120] = .ok (st, D) ∧ st.marks = [] ∧ ngroups D = 0 := by
 have h := cx_ok
 unfold cxB at h
 cases hR : parseM false [120] with
 | error q => rw [hR] at h; cases h
 | ok q =>
  rw [hR] at h
  simp only [Bool.and_eq_true, List.isEmpty_iff, beq_iff_eq] at h
  exact ⟨q.1, q.2, rfl, h.1, h.2⟩
def sText (l : List UInt8) (whole : Bool) : List UInt8 := 115 :: 47 :: 120 :: 47 :: (toldK kR l ++ (if whole = true then [38, 47] else [47]))
def sParts (l : List UInt8) (whole : Bool) : List Cp := if whole = true then [(-1, l), (0, [])] else [(-1, l)]
theorem s_between (l : List UInt8) (whole : Bool) {L : List UInt8} (h : L.drop 4 = toldK kR l ++ (if whole = true then [38, 47] else [47])) (hL : l.length + 4 ≤ L.length) :
  pcBetween L ((4 : Nat) : Int) 47 false = (btwK kR l ++ (if whole = true then [38] else []), L.length, 0) := by
 have hlen : L.length = 4 + (toldK kR l).length + (if whole = true then 2 else 1) := by
  have h1 := congrArg List.length h
  rw [List.length_drop, List.length_append] at h1
  have h2 : (if whole = true then [38, 47] else [47] : List UInt8).length = if whole = true then 2 else 1 := by cases whole <;> rfl
  rw [h2] at h1
  cases whole <;> simp at h1 ⊢ <;> omega
 unfold pcBetween
 rw [pcAt_at _ _ _ _ (by omega)]
 obtain ⟨m, hm⟩ : ∃ m, L.length + 1 = m + 2 + l.length := ⟨L.length - 1 - l.length, by omega⟩
 rw [hm, btw_more kR rfl rfl L _ (m + 2) l 4 [] h, List.nil_append]
 have hd := drop_more _ h
 cases whole with
 | true =>
  have hd' : L.drop (4 + (toldK kR l).length) = 38 :: [47] := hd
  have hd2 : L.drop (4 + (toldK kR l).length + 1) = 47 :: [] := by rw [← List.drop_drop, hd']; rfl
  rw [pcBtw_part (n := m + 1) hd' (by decide) (part_self (by decide) (by decide)), pcBtw_del hd2]
  simp only [if_true] at hlen ⊢
  rw [hlen]
 | false =>
  have hd' : L.drop (4 + (toldK kR l).length) = 47 :: [] := hd
  rw [pcBtw_del (n := m + 1) hd']
  simp only [Bool.false_eq_true, if_false, List.append_nil] at hlen ⊢
  rw [hlen]
theorem flags_end {L : List UInt8} {n : Nat} {st : CS} (h : L.drop st.k = []) : cmFlags L (n + 1) st = (0, st) := by
 rw [cmFlags, h]
theorem s_run (l : List UInt8) (h : l ≠ []) (whole : Bool) : cpRun 0 (btwK kR l ++ (if whole = true then [38] else [])) false [] [] = (sParts l whole, 0) := by
 rw [run_btw, List.nil_append]
 cases whole with
 | true => simp [cpRun, cpEnd, h, sParts]
 | false => simp [cpRun, cpEnd, h, sParts]
theorem s_math (l : List UInt8) (h : l ≠ []) (whole : Bool) : ∃ D, cmM false (sText l whole) 0 = .ok (⟨0, gdNone, 115, [], ⟨[120], some D, sParts l whole, 0, false, false, []⟩, []⟩, [], (sText l whole).length) := by
 obtain ⟨st, D, hp, hms, hng⟩ := cx_parse
 refine ⟨D, ?_⟩
 obtain ⟨L, hL⟩ : ∃ L, sText l whole = L := ⟨_, rfl⟩
 have h0 : L.drop 0 = 115 :: 47 :: 120 :: 47 :: (toldK kR l ++ (if whole = true then [38, 47] else [47])) := by rw [← hL]; rfl
 have h1 : L.drop 1 = 47 :: 120 :: 47 :: (toldK kR l ++ (if whole = true then [38, 47] else [47])) := by rw [← hL]; rfl
 have h2 : L.drop 2 = 120 :: 47 :: (toldK kR l ++ (if whole = true then [38, 47] else [47])) := by rw [← hL]; rfl
 have h3 : L.drop 3 = 47 :: (toldK kR l ++ (if whole = true then [38, 47] else [47])) := by rw [← hL]; rfl
 have h4 : L.drop 4 = toldK kR l ++ (if whole = true then [38, 47] else [47]) := by rw [← hL]; rfl
 have hge : ∀ k : List UInt8, k.length ≤ (toldK kR k).length := fun k => by
  induction k with
  | nil => exact Nat.le_refl _
  | cons b k ih =>
   have : 1 ≤ (told1 kR b).length := by unfold told1; split <;> (try split) <;> simp
   rw [toldK_cons, List.length_append, List.length_cons]
   omega
 have hlen : l.length + 4 ≤ L.length := by
  have h5 := congrArg List.length h4
  rw [List.length_drop, List.length_append] at h5
  have h6 := hge l
  have h7 : 1 ≤ (if whole = true then [38, 47] else [47] : List UInt8).length := by cases whole <;> simp
  omega
 rw [hL]
 have e1 : pcBetween L ((2 : Nat) : Int) 47 true = ([120], 4, 0) := by
  unfold pcBetween
  rw [pcAt_at _ _ _ _ (by omega)]
  obtain ⟨m, hm⟩ : ∃ m, L.length + 1 = m + 1 + 1 := ⟨L.length - 1, by omega⟩
  rw [hm, pcBtw_part h2 (by decide) (x := [120]) (k := 3) (by unfold pcPart; simp [pcLen]), pcBtw_del h3]
  rfl
 have e2 := s_between l whole h4 hlen
 unfold cmM
 rw [gd_plain (b := 115) rfl false h0]
 show cmAns (cmWhole false L (cmNew gdNone [] 0)) = _
 have hn : cmName L (cmNew gdNone [] 0) = (0, (cmNew gdNone [] 0).name 115) := by
  unfold cmName
  rw [show (cmNew gdNone [] 0).k = 0 from rfl, h0]
  rfl
 unfold cmWhole
 rw [hn, then_zero, takes_is (b := 115) rfl, if_neg (by decide), if_neg (by decide), if_neg (by decide), if_neg (by decide), if_neg (by decide), if_pos rfl]
 have hdl : cmDel L ((cmNew gdNone [] 0).name 115) = (47, 0, ((cmNew gdNone [] 0).name 115).go 2) := by
  unfold cmDel
  rw [show ((cmNew gdNone [] 0).name 115).k = 1 from rfl, h1]
  rfl
 have hrx : cmRx false L 47 (((cmNew gdNone [] 0).name 115).go 2) = (0, (((cmNew gdNone [] 0).name 115).go 2).rx [120] (some D) [] 4) := by
  unfold cmRx delimM
  rw [show ((((cmNew gdNone [] 0).name 115).go 2).k : Int) = ((2 : Nat) : Int) from rfl, e1]
  simp only
  rw [if_pos trivial, if_neg (by decide), hp]
  simp only
  rw [hms]
  rfl
 have hrp : cmRep L 47 ((((cmNew gdNone [] 0).name 115).go 2).rx [120] (some D) [] 4) = (0, ((((cmNew gdNone [] 0).name 115).go 2).rx [120] (some D) [] 4).parts (sParts l whole) L.length) := by
  unfold cmRep
  rw [show ((((((cmNew gdNone [] 0).name 115).go 2).rx [120] (some D) [] 4).k : Nat) : Int) = ((4 : Nat) : Int) from rfl, e2]
  show cmRepOf _ _ (cpRun (ngroups D) (btwK kR l ++ (if whole = true then [38] else [])) false [] []) = _
  rw [hng, s_run l h whole]
  rfl
 unfold cmSub
 rw [hdl, then_zero]
 show cmAns (CO.then (cmRx false L 47 _) _) = _
 rw [hrx, then_zero]
 show cmAns (CO.then (cmRep L 47 _) _) = _
 rw [hrp, then_zero, flags_end (by exact List.drop_eq_nil_of_le (Nat.le_refl _))]
 rfl
end Go.Proofs.YtbgfankoojjejaaGreatDoor
