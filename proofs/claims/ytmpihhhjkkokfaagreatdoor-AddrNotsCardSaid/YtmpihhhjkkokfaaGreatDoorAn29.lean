/- The proof's texts AdMb, AdWl, AdGlob: what the claim reaches of them. -/
import Derived.Test.YtmpihhhjkkokfaaGreatDoorAn04
import Derived.Test.YtmpihhhjkkokfaaGreatDoorAn28
import Derived.Test.YtmpihhhjkkokfaaGreatDoorAn24
import Derived.Test.YtmpihhhjkkokfaaGreatDoorAn07
import Derived.Test.YtmpihhhjkkokfaaGreatDoorCards
import Derived.Test.YtmpihhhjkkokfaaGreatDoorTie
import Derived.ShutString
import Derived.OpenShut
import Derived.Deep.DeepHandedRow
import Derived.Lib.LaidTab
import Derived.Stop.LaidErr
import Derived.Shelf.Vars
namespace Go.Proofs.YtmpihhhjkkokfaaGreatDoor
set_option linter.unusedVariables false
def bang (m : Nat) : List UInt8 := 33 :: (List.replicate m 32 ++ [112])
theorem pcLen_app {p : UInt8 → Bool} {r : UInt8} (hr : p r = false) (R : List UInt8) : ∀ l : List UInt8, pcLen p (l ++ r :: R) = pcLen p l
 | [] => by rw [List.nil_append, pcLen_no hr, pcLen_nil]
 | c :: l => by
  cases h : p c with
  | true => rw [List.cons_append, pcLen_yes h, pcLen_yes h, pcLen_app hr R l]
  | false => rw [List.cons_append, pcLen_no h, pcLen_no h]
theorem drop_app {L R : List UInt8} {k : Nat} (h : k ≤ L.length) : (L ++ R).drop k = L.drop k ++ R := List.drop_append_of_le_length h
theorem pcNum_app {L : List UInt8} {k m : Nat} (h : k ≤ L.length) : pcNum (L ++ bang m) k = pcNum L k := by
 unfold pcNum pcIs
 rw [drop_app h]
 unfold bang
 rw [pcLen_app (by decide)]
 simp only
 have hl := pcLen_le (fun b => pcDigits.contains b) (L.drop k)
 split
 ·rfl
 ·split
  ·rfl
  ·rw [List.take_append_of_le_length hl]
theorem pcBlk_app {L : List UInt8} {k m : Nat} (h : k ≤ L.length) : pcBlk (L ++ bang m) k = pcBlk L k := by
 unfold pcBlk pcIs
 rw [drop_app h]
 unfold bang
 rw [pcLen_app (by decide)]
theorem pcOpt_app (c : UInt8) (l : List UInt8) (m : Nat) (h : c ≠ 33) : pcOpt c (l ++ bang m) = pcOpt c l := by
 cases l with
 | nil => show (if (33 : UInt8) = c then 1 else 0) = 0; rw [if_neg (Ne.symm h)]
 | cons x l => rfl
theorem pcAhead_app (t : List UInt8) (m : Nat) : pcAhead (t ++ bang m) = pcAhead t := by
 unfold pcAhead
 rw [pcOpt_app _ _ _ (by decide), drop_app (pcOpt_le 94 t), pcOpt_app _ _ _ (by decide)]
theorem pcBrk_app {t : List UInt8} {m : Nat} (h : pcBrk t < t.length + 1) : pcBrk (t ++ bang m) = pcBrk t := by
 have ha := pcAhead_le t
 unfold pcBrk at h ⊢
 rw [pcAhead_app, drop_app ha]
 have hl : (t.drop (pcAhead t)).length = t.length - pcAhead t := List.length_drop
 have hlen := pcLen_le (fun b => !(b == 93)) (t.drop (pcAhead t))
 have hlt : pcLen (fun b => !(b == 93)) (t.drop (pcAhead t)) + 1 ≤ (t.drop (pcAhead t)).length := by omega
 have he : pcLen (fun b => !(b == 93)) (t.drop (pcAhead t) ++ bang m) = pcLen (fun b => !(b == 93)) (t.drop (pcAhead t)) := by
  have key : ∀ (p : UInt8 → Bool) (l R : List UInt8), pcLen p l < l.length → pcLen p (l ++ R) = pcLen p l := fun p l R => by
   induction l with
   | nil => intro h; simp at h
   | cons c l ih =>
    intro h
    cases hc : p c with
    | true =>
     rw [pcLen_yes hc] at h
     rw [List.cons_append, pcLen_yes hc, pcLen_yes hc, ih (by simpa using h)]
    | false => rw [List.cons_append, pcLen_no hc, pcLen_no hc]
  exact key _ _ _ (by omega)
 rw [he, List.length_append]
 omega
theorem pcPart_app {d c : UInt8} {rx : Bool} {t x : List UInt8} {p k m : Nat} (h : pcPart d rx c t p = (x, k, 0)) (hk : k < p + 1 + t.length) : pcPart d rx c (t ++ bang m) p = (x, k, 0) := by
 unfold pcPart at h ⊢
 split at h
 ·rename_i h92
  rw [if_pos h92]
  cases t with
  | nil => simp at h
  | cons y t => exact h
 ·rename_i h92
  rw [if_neg h92]
  simp only at h ⊢
  obtain ⟨q, hq⟩ : ∃ q, (if (rx && c == 91) = true then pcBrk t else 1) = q := ⟨_, rfl⟩
  rw [hq] at h
  by_cases hi : pcLen (fun b => !(b == 10)) ((c :: t).take q) < q
  ·rw [if_pos hi] at h; injection h with _ h; injection h with _ h; cases h
  ·rw [if_neg hi] at h
   have hkq : p + q = k := by injection h with _ h; injection h
   have hq2 : (if (rx && c == 91) = true then pcBrk (t ++ bang m) else 1) = q := by
    split
    ·rename_i hb
     rw [if_pos hb] at hq
     rw [pcBrk_app (by omega), hq]
    ·rename_i hb
     rw [if_neg hb] at hq
     exact hq
   rw [hq2]
   have ht : (c :: (t ++ bang m)).take q = (c :: t).take q := by
    rw [← List.cons_append, List.take_append_of_le_length (by simp; omega)]
   rw [ht, if_neg hi]
   exact h
theorem pcBtw_app {d : UInt8} {rx : Bool} {L : List UInt8} {m : Nat} : ∀ (n : Nat) (p : Nat) (acc t : List UInt8) (q n2 : Nat), p ≤ L.length → n ≤ n2 → pcBtw d rx L n p acc = (t, q, 0) → pcBtw d rx (L ++ bang m) n2 p acc = (t, q, 0)
 | 0, p, acc, t, q, n2, hp, hn, h => by
  injection h with _ h; injection h with _ h; cases h
 | n + 1, p, acc, t, q, 0, hp, hn, h => by omega
 | n + 1, p, acc, t, q, n2 + 1, hp, hn, h => by
  cases hd : L.drop p with
  | nil => rw [pcBtw_nil hd] at h; injection h with _ h; injection h with _ h; cases h
  | cons c u =>
   have hd2 : (L ++ bang m).drop p = c :: (u ++ bang m) := by rw [drop_app hp, hd]; rfl
   have hl : u.length + 1 = L.length - p := by rw [← List.length_drop, hd]; rfl
   by_cases hc : c = d
   ·subst hc
    rw [pcBtw_del hd] at h
    rw [pcBtw_del hd2]
    exact h
   ·obtain ⟨x, k, e, he⟩ : ∃ x k e, pcPart d rx c u p = (x, k, e) := ⟨_, _, _, rfl⟩
    by_cases h0 : e = 0
    ·subst h0
     rw [pcBtw_part hd hc he] at h
     obtain ⟨h1, h2, _⟩ := pcPart_ok he
     have hk : k < p + 1 + u.length := by
      by_cases e2 : k = p + 1 + u.length
      ·exfalso
       have hdr : L.drop k = [] := List.drop_eq_nil_of_le (by omega)
       cases n with
       | zero => injection h with _ h; injection h with _ h; cases h
       | succ n => rw [pcBtw_nil hdr] at h; injection h with _ h; injection h with _ h; cases h
      ·omega
     rw [pcBtw_part hd2 hc (pcPart_app he hk)]
     exact pcBtw_app n k _ t q n2 (by omega) (by omega) h
    ·rw [pcBtw_err hd hc h0 he] at h
     injection h with _ h; injection h with _ h
     exact absurd h h0
theorem delim_app {ext : Bool} {L : List UInt8} {b m : Nat} {d : UInt8} {q : (List UInt8 × Nd) × List Wm × Nat} (hb : b ≤ L.length) (h : delimM ext L b d = .ok q) : delimM ext (L ++ bang m) b d = .ok q := by
 unfold delimM at h ⊢
 obtain ⟨t, p, e, hr⟩ : ∃ t p e, pcBetween L b d true = (t, p, e) := ⟨_, _, _, rfl⟩
 rw [hr] at h
 simp only at h
 split at h
 ·rename_i he
  have he : e = 0 := he
  subst he
  have h2 : pcBetween (L ++ bang m) b d true = (t, p, 0) := by
   unfold pcBetween at hr ⊢
   rw [pcAt_at _ _ _ _ hb] at hr
   rw [pcAt_at _ _ _ _ (by rw [List.length_append]; omega)]
   exact pcBtw_app _ _ _ _ _ _ hb (by rw [List.length_append]; omega) hr
  rw [h2]
  exact h
 ·cases h
theorem adRx_app {ext : Bool} {L : List UInt8} {b m : Nat} {d : UInt8} {q : Adr × List Wm × Nat} (hb : b ≤ L.length) (h : adRx ext L b d = .ok q) : adRx ext (L ++ bang m) b d = .ok q := by
 unfold adRx at h ⊢
 split at h
 ·cases h
 ·rename_i hd
  rw [delim_app hb hd]
  exact h
theorem adM_app {ext second : Bool} {L : List UInt8} {k m : Nat} {q : Adr × List Wm × Nat} (hk : k ≤ L.length) (h : adM ext second L k = .ok q) : adM ext second (L ++ bang m) k = .ok q := by
 unfold adM at h ⊢
 rw [drop_app hk]
 cases hd : L.drop k with
 | nil =>
  rw [hd] at h
  rw [List.nil_append]
  exact h
 | cons c t =>
  rw [hd] at h
  have hlt : k < L.length := by
   by_cases e : k < L.length
   ·exact e
   ·rw [List.drop_eq_nil_of_le (by omega)] at hd; cases hd
  simp only [List.cons_append] at h ⊢
  split at h
  ·rename_i h1
   rw [if_pos h1]
   unfold adLine at h ⊢
   rw [pcNum_app hk]
   exact h
  ·rename_i h1
   rw [if_neg h1]
   split at h
   ·rename_i h2
    rw [if_pos h2]
    exact h
   ·rename_i h2
    rw [if_neg h2]
    split at h
    ·rename_i h3
     rw [if_pos h3]
     exact adRx_app (by omega) h
    ·rename_i h3
     rw [if_neg h3]
     split at h
     ·rename_i h4
      rw [if_pos h4]
      unfold adDel at h ⊢
      rw [drop_app (by omega)]
      cases hd2 : L.drop (k + 1) with
      | nil => rw [hd2] at h; cases h
      | cons x u =>
       rw [hd2] at h
       have : k + 1 < L.length := by
        by_cases e : k + 1 < L.length
        ·exact e
        ·rw [List.drop_eq_nil_of_le (by omega)] at hd2; cases hd2
       simp only [List.cons_append] at h ⊢
       split at h
       ·cases h
       ·rename_i h5
        rw [if_neg h5]
        exact adRx_app (by omega) h
     ·rename_i h4
      rw [if_neg h4]
      split at h
      ·rename_i h5
       rw [if_pos h5]
       unfold adPlus at h ⊢
       rw [pcNum_app (by omega)]
       exact h
      ·rename_i h5
       rw [if_neg h5]
       exact h
theorem head_app {L : List UInt8} {k m : Nat} {b : UInt8} (hk : k ≤ L.length) (hb : b ≠ 33) : ((L ++ bang m).drop k).head? = some b ↔ (L.drop k).head? = some b := by
 rw [drop_app hk]
 cases L.drop k with
 | nil =>
  show some (33 : UInt8) = some b ↔ none = some b
  constructor
  ·intro h; injection h with h; exact absurd h.symm hb
  ·intro h; cases h
 | cons x u => exact Iff.rfl
theorem adSec_app {ext : Bool} {L : List UInt8} {k m : Nat} {q : Adr × List Wm × Nat} (hk : k ≤ L.length) (h : adSec ext L k = .ok q) : adSec ext (L ++ bang m) k = .ok q := by
 unfold adSec at h ⊢
 have h1 := (pcBlk_le L k hk).2
 rw [pcBlk_app hk]
 split at h
 ·rename_i h44
  rw [if_pos ((head_app h1 (by decide)).2 h44)]
  have hlt : pcBlk L k < L.length := by
   by_cases e : pcBlk L k < L.length
   ·exact e
   ·rw [List.drop_eq_nil_of_le (by omega)] at h44; cases h44
  have h2 := (pcBlk_le L (pcBlk L k + 1) hlt).2
  rw [pcBlk_app hlt]
  unfold adSecOf at h ⊢
  split at h
  ·cases h
  ·rename_i hd
   rw [adM_app h2 hd]
   exact h
 ·rename_i h44
  rw [if_neg (fun e => h44 ((head_app h1 (by decide)).1 e))]
  exact h
theorem adNot_app {L : List UInt8} {k m : Nat} (hk : k ≤ L.length) (h : adNot L k = .ok (false, L.length)) : adNot (L ++ bang m) k = .ok (true, L.length + 1 + m) := by
 unfold adNot at h ⊢
 have h1 := (pcBlk_le L k hk).2
 rw [pcBlk_app hk]
 split at h
 ·split at h
  ·cases h
  ·injection h with h; injection h with h _; cases h
 ·injection h with h
  injection h with _ h
  rw [h]
  have hd : (L ++ bang m).drop L.length = bang m := by rw [drop_app (Nat.le_refl _), List.drop_length]; rfl
  rw [hd, if_pos (show (bang m).head? = some 33 from rfl)]
  have hd1 : (L ++ bang m).drop (L.length + 1) = List.replicate m 32 ++ [112] := by
   rw [← List.drop_drop, hd]
   rfl
  have hb : pcBlk (L ++ bang m) (L.length + 1) = L.length + 1 + m := by
   unfold pcBlk pcIs
   rw [hd1]
   congr 1
   have : ∀ m : Nat, pcLen (fun b => ([32, 9] : List UInt8).contains b) (List.replicate m 32 ++ [112]) = m := fun m => by
    induction m with
    | zero => rfl
    | succ m ih => rw [List.replicate_succ, List.cons_append, pcLen_yes (by decide), ih]
   exact this m
  rw [hb]
  have hd2 : (L ++ bang m).drop (L.length + 1 + m) = [112] := by
   rw [← List.drop_drop, hd1, List.drop_left' (by simp)]
  rw [hd2, if_neg (by decide)]
theorem delim_pl {ext : Bool} {L : List UInt8} {b : Nat} {d : UInt8} {q : (List UInt8 × Nd) × List Wm × Nat} (hb : b ≤ L.length) (h : delimM ext L b d = .ok q) : q.2.2 ≤ L.length := by
 unfold delimM at h
 simp only at h
 split at h
 ·split at h
  ·cases h
  ·split at h
   ·cases h
   ·injection h with h
    subst h
    show (pcBetween L b d true).2.1 ≤ _
    unfold pcBetween
    rw [pcAt_at _ _ _ _ hb]
    exact pcBtw_le d true L _ _ _ hb
 ·cases h
theorem adRx_pl {ext : Bool} {L : List UInt8} {b : Nat} {d : UInt8} {q : Adr × List Wm × Nat} (hb : b ≤ L.length) (h : adRx ext L b d = .ok q) : q.2.2 ≤ L.length := by
 unfold adRx at h
 split at h
 ·cases h
 ·rename_i hp
  injection h with h
  subst h
  exact delim_pl hb hp
theorem adM_pl {ext second : Bool} {L : List UInt8} {k : Nat} {q : Adr × List Wm × Nat} (hk : k ≤ L.length) (h : adM ext second L k = .ok q) : q.2.2 ≤ L.length := by
 unfold adM at h
 split at h
 ·injection h with h; subst h; exact hk
 ·rename_i c t hd
  have hlt : k < L.length := by
   by_cases e : k < L.length
   ·exact e
   ·rw [List.drop_eq_nil_of_le (by omega)] at hd; cases hd
  split at h
  ·unfold adLine at h
   simp only at h
   split at h
   ·split at h
    ·cases h
    ·injection h with h; subst h; exact (pcNum_le L k hk).2
   ·cases h
  ·split at h
   ·injection h with h; subst h; exact hlt
   ·split at h
    ·exact adRx_pl (by omega) h
    ·split at h
     ·unfold adDel at h
      split at h
      ·cases h
      ·rename_i x t2 hd2
       have : k + 1 < L.length := by
        by_cases e : k + 1 < L.length
        ·exact e
        ·rw [List.drop_eq_nil_of_le (by omega)] at hd2; cases hd2
       split at h
       ·cases h
       ·exact adRx_pl (by omega) h
     ·split at h
      ·unfold adPlus at h
       simp only at h
       split at h
       ·injection h with h; subst h; exact (pcNum_le L (k + 1) (by omega)).2
       ·cases h
      ·injection h with h; subst h; exact hk
theorem adSec_pl {ext : Bool} {L : List UInt8} {k : Nat} {q : Adr × List Wm × Nat} (hk : k ≤ L.length) (h : adSec ext L k = .ok q) : q.2.2 ≤ L.length := by
 unfold adSec at h
 split at h
 ·rename_i h44
  have h1 := (pcBlk_le L k hk).2
  have h2 : pcBlk L k < L.length := by
   by_cases e : pcBlk L k < L.length
   ·exact e
   ·rw [List.drop_eq_nil_of_le (by omega)] at h44; cases h44
  have h3 := (pcBlk_le L (pcBlk L k + 1) h2).2
  unfold adSecOf at h
  split at h
  ·cases h
  ·rename_i he
   split at h
   ·cases h
   ·injection h with h
    subst h
    exact adM_pl h3 he
 ·injection h with h
  subst h
  exact hk
theorem gdM_bang {ext : Bool} {L : List UInt8} {m : Nat} {a b : Adr} {ms : List Wm} (h : gdM ext L 0 = .ok (⟨a, b, false⟩, ms, L.length)) : gdM ext (L ++ bang m) 0 = .ok (⟨a, b, true⟩, ms, L.length + 1 + m) := by
 unfold gdM at h ⊢
 cases h1 : adM ext false L 0 with
 | error q => rw [h1] at h; cases h
 | ok q =>
  obtain ⟨a1, ms1, p1⟩ := q
  rw [h1] at h
  rw [adM_app (Nat.zero_le _) h1]
  have hp1 := adM_pl (Nat.zero_le _) h1
  unfold adTwo at h ⊢
  simp only at h ⊢ hp1
  split at h
  ·rename_i hk
   rw [if_pos hk]
   unfold gdOf gdEnd at h ⊢
   simp only at h ⊢
   cases h2 : adNot L p1 with
   | error q => rw [h2] at h; cases h
   | ok q =>
    obtain ⟨no, p⟩ := q
    rw [h2] at h
    injection h with h
    injection h with h3 h4
    injection h3 with h5 h6 h7
    injection h4 with h8 h9
    simp only at h5 h6 h7 h8 h9
    subst h5 h6 h7 h8
    rw [h9] at h2
    rw [adNot_app hp1 h2]
  ·rename_i hk
   rw [if_neg hk]
   cases h3 : adSec ext L p1 with
   | error q => rw [h3] at h; cases h
   | ok q =>
    obtain ⟨b1, ms2, p2⟩ := q
    rw [h3] at h
    rw [adSec_app hp1 h3]
    have hp2 := adSec_pl hp1 h3
    unfold adJoin gdOf gdEnd at h ⊢
    simp only at h ⊢ hp2
    cases h2 : adNot L p2 with
    | error q => rw [h2] at h; cases h
    | ok q =>
     obtain ⟨no, p⟩ := q
     rw [h2] at h
     injection h with h
     injection h with h3 h4
     injection h3 with h5 h6 h7
     injection h4 with h8 h9
     simp only at h5 h6 h7 h8 h9
     subst h5 h6 h7 h8
     rw [h9] at h2
     rw [adNot_app hp2 h2]
end Go.Proofs.YtmpihhhjkkokfaaGreatDoor
namespace Go.Proofs.YtmpihhhjkkokfaaGreatDoor
open Go Go.RowKit
theorem delim_fine {ext : Bool} {L : List UInt8} {b : Nat} {d : UInt8} {q : (List UInt8 × Nd) × List Wm × Nat} (h : delimM ext L b d = .ok q) : nsize q.1.2 ≤ 4000000 := by
 unfold delimM at h
 simp only at h
 split at h
 ·split at h
  ·cases h
  ·split at h
   ·cases h
   ·rename_i q' hp
    injection h with h
    subst h
    have := whole_size (st := q'.1) (d := q'.2) hp
    show nsize q'.2 ≤ _
    omega
 ·cases h
theorem adRx_fine {ext : Bool} {L : List UInt8} {b : Nat} {d : UInt8} {q : Adr × List Wm × Nat} (h : adRx ext L b d = .ok q) : AdFine q.1 := by
 unfold adRx at h
 split at h
 ·cases h
 ·rename_i hp
  injection h with h
  subst h
  exact fun _ => ⟨_, rfl, delim_fine hp⟩
theorem fine_not {a : Adr} (h : a.kind ≠ 3) : AdFine a := fun h3 => absurd h3 h
theorem adM_fine {ext second : Bool} {L : List UInt8} {k : Nat} {q : Adr × List Wm × Nat} (h : adM ext second L k = .ok q) : AdFine q.1 := by
 unfold adM at h
 split at h
 ·injection h with h; subst h; exact fine_not (Nat.ne_of_lt (Nat.lt_of_sub_eq_succ rfl))
 ·split at h
  ·unfold adLine at h
   simp only at h
   split at h
   ·split at h
    ·cases h
    ·injection h with h; subst h; exact fine_not (Nat.ne_of_lt (Nat.lt_of_sub_eq_succ rfl))
   ·cases h
  ·split at h
   ·injection h with h; subst h; exact fine_not (Nat.ne_of_lt (Nat.lt_of_sub_eq_succ rfl))
   ·split at h
    ·exact adRx_fine h
    ·split at h
     ·unfold adDel at h
      split at h
      ·cases h
      ·split at h
       ·cases h
       ·exact adRx_fine h
     ·split at h
      ·unfold adPlus at h
       simp only at h
       split at h
       ·injection h with h; subst h; exact fine_not (Nat.ne_of_gt (Nat.lt_of_sub_eq_succ rfl))
       ·cases h
      ·injection h with h; subst h; exact fine_not (Nat.ne_of_lt (Nat.lt_of_sub_eq_succ rfl))
theorem gdM_fine {ext : Bool} {L : List UInt8} {k : Nat} {q : Grd × List Wm × Nat} (h : gdM ext L k = .ok q) : AdFine q.1.a ∧ AdFine q.1.b := by
 unfold gdM at h
 cases h1 : adM ext false L k with
 | error q => rw [h1] at h; cases h
 | ok r =>
  rw [h1] at h
  have f1 := adM_fine h1
  unfold adTwo at h
  simp only at h
  split at h
  ·unfold gdOf gdEnd at h
   simp only at h
   split at h
   ·cases h
   ·injection h with h
    subst h
    exact ⟨f1, fine_not (show (0 : Nat) ≠ 3 by decide)⟩
  ·cases h2 : adSec ext L r.2.2 with
   | error q => rw [h2] at h; cases h
   | ok r2 =>
    rw [h2] at h
    have f2 : AdFine r2.1 := by
     unfold adSec at h2
     split at h2
     ·unfold adSecOf at h2
      split at h2
      ·cases h2
      ·rename_i h3
       split at h2
       ·cases h2
       ·injection h2 with h2
        subst h2
        exact adM_fine h3
     ·injection h2 with h2
      subst h2
      exact fine_not (show (0 : Nat) ≠ 3 by decide)
    unfold adJoin gdOf gdEnd at h
    simp only at h
    split at h
    ·cases h
    ·injection h with h
     subst h
     exact ⟨f1, f2⟩
theorem gdM_err {ext : Bool} {L : List UInt8} {k : Nat} {q : Nat × Nat} (h : gdM ext L k = .error q) : q.1 ≠ 0 := by
 unfold gdM at h
 cases h1 : adM ext false L k with
 | error q2 =>
  rw [h1] at h
  have e := adM_err h1
  unfold adTwo gdOf at h
  injection h with h
  rw [← h]
  exact e
 | ok r =>
  rw [h1] at h
  unfold adTwo at h
  simp only at h
  split at h
  ·unfold gdOf gdEnd at h
   simp only at h
   split at h
   ·rename_i h2
    injection h with h
    rw [← h]
    exact adNot_err h2
   ·cases h
  ·cases h2 : adSec ext L r.2.2 with
   | error q2 =>
    rw [h2] at h
    have e := adSec_err h2
    unfold adJoin gdOf at h
    injection h with h
    rw [← h]
    exact e
   | ok r2 =>
    rw [h2] at h
    unfold adJoin gdOf gdEnd at h
    simp only at h
    split at h
    ·rename_i h3
     injection h with h
     rw [← h]
     exact adNot_err h3
    ·cases h
def gdExB (r : AdRd Grd) : Bool := match r with
 | .ok q => q.1.no && (q.1.a.kind == 1 && (q.1.a.line == 2 && (q.1.b.kind == 3 && (q.2.1.isEmpty && q.2.2 == 6))))
 | .error _ => false
theorem gd_ex : gdExB (gdM false [50, 44, 47, 120, 47, 33, 112] 0) = true := by decide +kernel
theorem gd_ex2 : ∃ a b, gdM false [50, 44, 47, 120, 47, 33, 112] 0 = .ok (⟨a, b, true⟩, [], 6) ∧ a.kind = 1 ∧ a.line = 2 ∧ b.kind = 3 := by
 have h := gd_ex
 generalize gdM false [50, 44, 47, 120, 47, 33, 112] 0 = R at h
 cases R with
 | error q => cases h
 | ok q =>
  obtain ⟨⟨a, b, no⟩, ms, p⟩ := q
  simp only [gdExB, Bool.and_eq_true, beq_iff_eq, List.isEmpty_iff] at h
  obtain ⟨h1, h2, h3, h4, h5, h6⟩ := h
  subst h1 h5 h6
  exact ⟨a, b, rfl, h2, h3, h4⟩
theorem pguard_0 (ext : Bool) (s : ByteArray) (w : World) (hs : s.size ≤ 4000000) (hG : Gl w) (hP : GP w) :
  Calls Tryz.prog 13 #[.string s, .int .i64 0, .bool ext] w fun e w' => GdA w (gdM ext s.data.toList 0) e w' := pguard_at ext s 0 w hs (Nat.zero_le _) hG hP
set_option linter.unusedVariables false in
set_option linter.unusedSimpArgs false in
set_option maxRecDepth 100000 in
set_option maxHeartbeats 4000000 in
theorem awake12_any (w : World) (hG : Gl w) (hP : GP w) : Calls Tryz.prog 8 #[] w fun e w' => e = .returned (.bool true) ∧ Below w.heap.size w w' := by
 have hC := pguard_0 false ⟨#[50, 44, 47, 120, 47, 33, 112]⟩ w (by decide) hG hP
 rw [show (⟨#[50, 44, 47, 120, 47, 33, 112]⟩ : ByteArray).data.toList = [50, 44, 47, 120, 47, 33, 112] from rfl] at hC
 obtain ⟨a, b, he, h1, h2, h3⟩ := gd_ex2
 rw [he] at hC
 simp only [GdA, h1, h2, h3] at hC
 clear he h1 h2 h3 hG hP
 go_enter Tryz.func8, Tryz.ntmps8
 go_upto_region 2 with (go_at_call 13; refine hC.mono ?_; clear hC; rintro e w1 ⟨b1, ta, tb, ma, mc, rfl, hta, htb, _⟩; have hsa := hta.shape; have hsb := htb.shape; clear hta htb; rcases hsa with ⟨T8, q8, rfl⟩ | rfl <;> rcases hsb with ⟨T9, q9, rfl⟩ | rfl)
 all_goals
  generalize hW2 : w1.alloc _ = w2
  have hb2 := b1.trans ((belowOfAlloc hW2).mono b1.size)
  obtain ⟨⟨x0, x1, x2, x3, x4, x5, x6, x7, x8⟩, _, _, _, _, _, _, _, _, _, hxl⟩ := blk9v (blkOfAlloc hW2)
  clear hW2 b1
  go_wp2_with fail
  go_ret
  exact ⟨rfl, hb2⟩
theorem pad_list (m : Nat) (h : m < 4) : ((ByteArray.mk #[32, 32, 32]).extract 0 m).data.toList = List.replicate m 32 := by
 match m, h with
 | 0, _ => rfl
 | 1, _ => rfl
 | 2, _ => rfl
 | 3, _ => rfl
 | n + 4, h => omega
set_option linter.unusedVariables false in
set_option linter.unusedSimpArgs false in
set_option maxRecDepth 100000 in
set_option maxHeartbeats 4000000 in
theorem nots_any (s : ByteArray) (ext : Bool) (n : UInt8) (w : World) (hG : Gl w) (hP : GP w) :
  Calls Tryz.prog 7 #[.string s, .bool ext, .int .u8 n.toNat] w fun e w' => e = .returned (.bool true) ∧ Below w.heap.size w w' := by
 have hA := awake12_any w hG hP
 by_cases hs : (100 : Int) < (s.size : Int)
 ·have hA2 := fun w1 (b1 : Below w.heap.size w w1) => awake12_any w1 (hG.up b1) (hP.up b1)
  clear hG hP
  go_enter Tryz.func7, Tryz.ntmps7
  go_wp2_with (first
   | (go_at_call 8; refine hA.mono ?_; clear hA; rintro e w1 ⟨rfl, b1⟩; have hA3 := hA2 w1 b1; clear hA2)
   | (go_at_call 8; refine hA3.mono ?_; clear hA3; rintro e w2 ⟨rfl, b2⟩))
  go_ret
  exact ⟨rfl, b1.trans (b2.mono b1.size)⟩
 ·have hs4 : s.size ≤ 4000000 := by omega
  have hP1 := fun w1 (b1 : Below w.heap.size w w1) => pguard_0 ext s w1 hs4 (hG.up b1) (hP.up b1)
  have herr : ∀ q, gdM ext s.data.toList 0 = .error q → q.1 ≠ 0 := fun q h => gdM_err h
  have hfin : ∀ q, gdM ext s.data.toList 0 = .ok q → AdFine q.1.a ∧ AdFine q.1.b := fun q h => gdM_fine h
  obtain ⟨R, hR⟩ : ∃ R, gdM ext s.data.toList 0 = R := ⟨_, rfl⟩
  rw [hR] at hP1 herr hfin
  have HR := Lib.hid hR
  have HG := Lib.hid hG
  have HP := Lib.hid hP
  clear hR hG hP
  go_enter Tryz.func7, Tryz.ntmps7
  go_upto_region 3 with (go_at_call 8; refine hA.mono ?_; clear hA; rintro e w1 ⟨rfl, b1⟩)
  have hC := hP1 w1 b1
  have B1 := Lib.hid b1
  clear hP1 b1
  cases R with
  | error q =>
   obtain ⟨k, p⟩ := q
   have hn : k ≠ 0 := herr _ rfl
   have hnn : ((k : Int) != 0) = true := by simp; omega
   simp only [GdA] at hC
   clear herr hn hfin
   go_upto_region 4 with (go_at_call 13; refine hC.mono ?_; clear hC; rintro e w2 ⟨b2, rfl⟩)
   generalize hW3 : w2.alloc _ = w3
   have hb3 := B1.out.trans ((b2.trans ((belowOfAlloc hW3).mono b2.size)).mono B1.out.size)
   obtain ⟨⟨x0, x1, x2, x3, x4, x5, x6, x7, x8⟩, _, _, _, _, _, _, _, _, _, hxl⟩ := blk9v (blkOfAlloc hW3)
   clear hW3 b2
   go_wp2_with fail
   go_ret
   exact ⟨rfl, hb3⟩
  | ok q =>
   obtain ⟨⟨a, b, no⟩, ms, p⟩ := q
   obtain ⟨fa, fb⟩ := hfin _ rfl
   simp only at fa fb
   simp only [GdA] at hC
   clear herr hfin
   cases no with
   | true =>
    go_upto_region 4 with (go_at_call 13; refine hC.mono ?_; clear hC; rintro e w2 ⟨b2, ta, tb, ma, mc, rfl, hta, htb, _⟩; have hsa := hta.shape; have hsb := htb.shape; clear hta htb; rcases hsa with ⟨T8, q8, rfl⟩ | rfl <;> rcases hsb with ⟨T9, q9, rfl⟩ | rfl)
    all_goals
     generalize hW3 : w2.alloc _ = w3
     have hb3 := B1.out.trans ((b2.trans ((belowOfAlloc hW3).mono b2.size)).mono B1.out.size)
     obtain ⟨⟨x0, x1, x2, x3, x4, x5, x6, x7, x8⟩, _, _, _, _, _, _, _, _, _, hxl⟩ := blk9v (blkOfAlloc hW3)
     clear hW3 b2
     go_wp2_with fail
     go_ret
     exact ⟨rfl, hb3⟩
   | false =>
    by_cases hp : p = s.size
    ·subst hp
     have hpp : ((s.size : Int) != (s.size : Int)) = false := by simp
     go_upto_region 4 with (go_at_call 13; refine hC.mono ?_; clear hC; rintro e w2 ⟨b2, ta, tb, ma, mc, rfl, hta, htb, _⟩; have hsa := hta.shape; have hsb := htb.shape; have HTA := Lib.hid hta; have HTB := Lib.hid htb; clear hta htb; rcases hsa with ⟨T8, q8, rfl⟩ | rfl <;> rcases hsb with ⟨T9, q9, rfl⟩ | rfl)
     all_goals
      generalize hW3 : w2.alloc _ = w3
      have hb3 := B1.out.trans ((b2.trans ((belowOfAlloc hW3).mono b2.size)).mono B1.out.size)
      have X3 := Lib.hid (blkOfAlloc hW3)
      have T3 := Lib.hid (tro_up (belowOfAlloc hW3) (TrO.keep (G := fun b => b < w2.heap.size) (Nat.le_refl _) (fun b _ hl => ⟨hl, fun _ => rfl⟩) HTA.out))
      have U3 := Lib.hid (tro_up (belowOfAlloc hW3) (TrO.keep (G := fun b => b < w2.heap.size) (Nat.le_refl _) (fun b _ hl => ⟨hl, fun _ => rfl⟩) HTB.out))
      have B3 := Lib.hid hb3
      obtain ⟨g, hg⟩ : ∃ g, w2.heap.size = g := ⟨_, rfl⟩
      rw [hg] at X3 ⊢
      obtain ⟨⟨x0, x1, x2, x3, x4, x5, x6, x7, x8⟩, _, _, _, _, _, _, _, _, _, hxl⟩ := blk9v X3.out
      clear hW3 b2 hb3 hg
      obtain ⟨m, hm⟩ : ∃ m, n.toNat % 4 = m := ⟨_, rfl⟩
      have hm4 : m < 4 := by omega
      have hmi : (n.toNat : Int) % 4 = (m : Int) := by omega
      have hm0 : (0 : Int) ≤ (m : Int) := by omega
      have hm3 : (m : Int) ≤ 3 := by omega
      have HM4 := Lib.hid hm4
      clear hm
      have hsz9 : s.size ≤ 100 := by omega
      go_upto_region 7 with fail
      obtain ⟨E, hE⟩ : ∃ E, (ByteArray.mk #[32, 32, 32]).extract 0 m = E := ⟨_, rfl⟩
      have hE3 : E.size = m := by rw [← hE, ByteArray.size_extract]; show min m 3 - 0 = m; omega
      have hEl : E.data.toList = List.replicate m 32 := by rw [← hE]; exact pad_list m HM4.out
      rw [hE]
      have hE4 : E.size ≤ 3 := by omega
      have hS4 : (s ++ (⟨#[33]⟩ : ByteArray) ++ E ++ ⟨#[112]⟩).size ≤ 4000000 := by
       rw [ByteArray.size_append, ByteArray.size_append, ByteArray.size_append, show (⟨#[33]⟩ : ByteArray).size = 1 from rfl, show (⟨#[112]⟩ : ByteArray).size = 1 from rfl]; omega
      have hSl : (s ++ (⟨#[33]⟩ : ByteArray) ++ E ++ ⟨#[112]⟩).data.toList = s.data.toList ++ bang m := by
       simp only [ByteArray.data_append, Array.toList_append, hEl]
       unfold bang
       simp
      have hC2 := pguard_0 ext (s ++ (⟨#[33]⟩ : ByteArray) ++ E ++ ⟨#[112]⟩) w3 hS4 (HG.out.up B3.out) (HP.out.up B3.out)
      have hgd := HR.out
      rw [size_list] at hgd
      rw [hSl, gdM_bang hgd] at hC2
      simp only [GdA] at hC2
      rw [← size_list] at hC2
      obtain ⟨k1, hk1⟩ : ∃ k1, s.size + 1 = k1 := ⟨_, rfl⟩
      obtain ⟨K, hK⟩ : ∃ K, k1 + m = K := ⟨_, rfl⟩
      rw [hk1, hK] at hC2
      have Ws1 : IntKind.i64.wrap ((s.size : Int) + 1) = (k1 : Int) := by rw [IntWalk.i64_in _ (by omega)]; omega
      have Ws2 : IntKind.i64.wrap ((k1 : Int) + (m : Int)) = (K : Int) := by rw [IntWalk.i64_in _ (by omega)]; omega
      have hEi : (E.size : Int) = (m : Int) := by omega
      clear hE hEl hSl hgd hS4 hE3 hk1 hK
      go_upto_region 8 with (go_at_call 13; refine hC2.mono ?_; clear hC2; rintro e w4 ⟨b4, tc, td, mb, mcb, rfl, htc, htd, _⟩; have hsc := htc.shape; have hsd := htd.shape; have HTC := Lib.hid htc; have HTD := Lib.hid htd; have B4 := Lib.hid b4; clear htc htd b4; rcases hsc with ⟨T6, q6, rfl⟩ | rfl <;> rcases hsd with ⟨T7, q7, rfl⟩ | rfl)
      all_goals
       generalize hW5 : w4.alloc _ = w5
       have hb5 := B4.out.trans ((belowOfAlloc hW5).mono B4.out.size)
       have Y5 := Lib.hid (blkOfAlloc hW5)
       have hgl := hxl
       have hg4 : g < w4.heap.size := Nat.lt_of_lt_of_le hgl B4.out.size
       have hlw : ∀ {t v}, TrO (fun b => b < w4.heap.size) w4 t v → TrO (fun b => b < w4.heap.size) w5 t v := fun h => TrO.below (belowOfAlloc hW5) h
       have P5 := Lib.hid (show Gd3 w4.heap.size ⟨a, b, false⟩ ⟨a, b, false⟩ _ _ _ _ w5 from ⟨hlw (tro_up B4.out T3.out), hlw (tro_up B4.out U3.out), hlw (tro_all HTC.out), hlw (tro_all HTD.out)⟩)
       have X5 := Lib.hid ((X3.out.below B4.out hgl).below (belowOfAlloc hW5) hg4)
       obtain ⟨h, hh⟩ : ∃ h, w4.heap.size = h := ⟨_, rfl⟩
       have Hwh := Lib.hid (show w.heap.size ≤ h by rw [← hh]; exact Nat.le_trans B3.out.size B4.out.size)
       rw [hh] at P5 Y5 hg4 ⊢
       have Hg4 := Lib.hid hg4
       have B5 := Lib.hid (B3.out.trans (hb5.mono B3.out.size))
       clear hb5 hlw hW5 hh hg4 hgl x0 x1 x2 x3 x4 x5 x6 x7 x8 hxl
       obtain ⟨⟨y0, y1, y2, y3, y4, y5, y6, y7, y8⟩, f0, f1, f2, f3, f4, f5, f6, f7, f8, hyl⟩ := blk9v Y5.out
       go_upto_region 10 with fail
       have o1 : ∀ b, b ≠ h → (w5.setCell ⟨h, 8, none⟩ (.bool false)).heap[b]? = w5.heap[b]? := fun b hb => Below.heap_setCell _ _ _ _ (fun e => hb e)
       have s1 : (w5.setCell ⟨h, 8, none⟩ (.bool false)).heap.size = w5.heap.size := by simp [World.setCell]
       have P6 := Lib.hid ((P5.out.keep (W := w5.setCell ⟨h, 8, none⟩ (.bool false)) (by omega) (fun b hb => o1 b (by omega))).wide)
       have X6 := Lib.hid (blk_like X5.out (o1 g (by have := Hg4.out; omega)))
       have Y6 := Lib.hid (Y5.out.set 8 (.bool false))
       have B6 := Lib.hid (B5.out.setCell (p := ⟨h, 8, none⟩) Hwh.out (.bool false))
       clear o1 s1 y0 y1 y2 y3 y4 y5 y6 y7 y8 f0 f1 f2 f3 f4 f5 f6 f7 f8 hyl
       generalize w5.setCell ⟨h, 8, none⟩ (.bool false) = w6 at *
       have hSG := psameG_any ⟨a, b, false⟩ ⟨a, b, false⟩ _ _ _ _ w6 P6.out fa fb fa fb
       rw [show gdSame ⟨a, b, false⟩ ⟨a, b, false⟩ = true by unfold gdSame; rw [adSame_refl, adSame_refl]; rfl] at hSG
       obtain ⟨⟨x0, x1, x2, x3, x4, x5, x6, x7, x8⟩, _, _, _, _, _, _, _, _, _, hxl⟩ := blk9v X6.out
       obtain ⟨⟨y0, y1, y2, y3, y4, y5, y6, y7, y8⟩, f0, f1, f2, f3, f4, f5, f6, f7, f8, hyl⟩ := blk9v (show Blk w6 h #[_, _, _, _, _, _, _, _, _] _ from Y6.out)
       go_wp2_with (go_at_call 18; refine hSG.mono ?_; clear hSG; rintro e w7 ⟨rfl, b7⟩)
       go_ret
       exact ⟨rfl, B6.out.trans (b7.mono B6.out.size)⟩
    ·have hpp : ((p : Int) != (s.size : Int)) = true := by simp; omega
     clear hp
     go_upto_region 4 with (go_at_call 13; refine hC.mono ?_; clear hC; rintro e w2 ⟨b2, ta, tb, ma, mc, rfl, hta, htb, _⟩; have hsa := hta.shape; have hsb := htb.shape; clear hta htb; rcases hsa with ⟨T8, q8, rfl⟩ | rfl <;> rcases hsb with ⟨T9, q9, rfl⟩ | rfl)
     all_goals
      generalize hW3 : w2.alloc _ = w3
      have hb3 := B1.out.trans ((b2.trans ((belowOfAlloc hW3).mono b2.size)).mono B1.out.size)
      obtain ⟨⟨x0, x1, x2, x3, x4, x5, x6, x7, x8⟩, _, _, _, _, _, _, _, _, _, hxl⟩ := blk9v (blkOfAlloc hW3)
      clear hW3 b2
      go_wp2_with fail
      go_ret
      exact ⟨rfl, hb3⟩
end Go.Proofs.YtmpihhhjkkokfaaGreatDoor
namespace Go.Proofs.YtmpihhhjkkokfaaGreatDoor
open Go.ChangeShapes Go.WideShapes Go.ChangeAt Go.RowKit
theorem gTab : Tryz.prog.globalNamed "math/bits.deBruijn64tab" = some 5 := by kernel_rfl
theorem gTabType : (Tryz.prog.globals[5]?).map (·.type) = some 280 := by kernel_rfl
theorem cellsTab : Tryz.prog.cellsOf 280 = 64 := by kernel_rfl
theorem cellsU8 : Tryz.prog.cellsOf 5 = 1 := by kernel_rfl
theorem gOpn : Tryz.prog.globalNamed "placket/bracket.openers" = some 4 := by kernel_rfl
theorem gOpnType : (Tryz.prog.globals[4]?).map (·.type) = some 272 := by kernel_rfl
theorem cellsOpn : Tryz.prog.cellsOf 272 = 3 := by kernel_rfl
theorem gAhd : Tryz.prog.globalNamed "placket/piece.ahead" = some 0 := by kernel_rfl
theorem gAhdType : (Tryz.prog.globals[0]?).map (·.type) = some 207 := by kernel_rfl
theorem cellsAhd : Tryz.prog.cellsOf 207 = 2 := by kernel_rfl
theorem block_of_cell {W : World} (b : Nat) (v : Value) (hv : W.cell? ⟨b, 0, none⟩ = some v) : b < W.heap.size := by
 cases hh : W.heap[b]? with
 | none => simp [World.cell?, hh] at hv
 | some o => exact (Array.getElem?_eq_some_iff.1 hh).1
theorem g12_of {W : World} (h : laidMetH Tryz.prog [("math/bits.deBruijn64tab", Rows.laid_math_bits_deBruijn64tab), ("unicode/utf8.acceptRanges", Rows.laid_unicode_utf8_acceptRanges), ("placket/bracket.openers", Rows.laid_placket_bracket_openers), ("placket/piece.ahead", Rows.laid_placket_piece_ahead), ("unicode/utf8.first", Rows.laid_unicode_utf8_first)] W) (hsh : W.ShapedOpen Tryz.prog) : Gl W ∧ GP W := by
 have h0 : laidMet Tryz.prog [("math/bits.deBruijn64tab", Rows.laid_math_bits_deBruijn64tab), ("unicode/utf8.acceptRanges", Rows.laid_unicode_utf8_acceptRanges), ("placket/bracket.openers", Rows.laid_placket_bracket_openers), ("placket/piece.ahead", Rows.laid_placket_piece_ahead), ("unicode/utf8.first", Rows.laid_unicode_utf8_first)] W := h
 have h2 := laidMet.tail (laidMet.tail h0)
 have hT : Lib.TabIs Tryz.prog W "math/bits.deBruijn64tab" .u8 (Lib.deBruijn64tab.map Int.ofNat) :=
  Lib.tabIs_of_head gTab gTabType Tryz.underlying280 Tryz.underlying5 cellsU8 cellsTab h0
 have hO : Lib.TabIs Tryz.prog W "placket/bracket.openers" .u8 [58, 61, 46] :=
  Lib.tabIs_of_head gOpn gOpnType Tryz.underlying272 Tryz.underlying5 cellsU8 cellsOpn h2
 have hH : Lib.TabIs Tryz.prog W "placket/piece.ahead" .u8 [94, 93] :=
  Lib.tabIs_of_head gAhd gAhdType Tryz.underlying207 Tryz.underlying5 cellsU8 cellsAhd (laidMet.tail h2)
 obtain ⟨m, hm⟩ : ∃ m, W.cell? ⟨3, 0, none⟩ = some (.int .i64 m) :=
  cell_of_shapedOpen_int (t := 3) (zero := #[.int .i64 0]) hsh (of_decide_eq_true (by kernel_rfl)) (by kernel_rfl) rfl (by kernel_rfl) (by kernel_rfl) Tryz.underlying3
 refine ⟨⟨fun j hj => ?_, hO.cell gOpn 0 (by decide), hO.cell gOpn 1 (by decide), hO.cell gOpn 2 (by decide), ⟨m, hm⟩, ?_⟩, hH.cell gAhd 0 (by decide), hH.cell gAhd 1 (by decide), block_of_cell _ _ (hH.cell gAhd 0 (by decide))⟩
 ·rw [hT.cell gTab j (by rw [List.length_map]; exact hj)]
  simp only [List.getD, List.getElem?_map]
  rw [List.getElem?_eq_getElem hj]
  rfl
 ·exact Nat.max_lt.2 ⟨Nat.max_lt.2 ⟨block_of_cell _ _ (hT.cell gTab 0 (by decide)), block_of_cell _ _ (hO.cell gOpn 0 (by decide))⟩, block_of_cell _ _ hm⟩
def layCells (cs : Array Value) : Obj → Obj
 | .cells _ t frozen => .cells cs t frozen
 | o => o
noncomputable def laidWorld (os : Os) : World :=
 { World.holding Tryz.prog os ⟨#[], #[], []⟩ with heap := (((((World.holding Tryz.prog os ⟨#[], #[], []⟩).heap.modify 5 (layCells (Lib.deBruijn64tab.map fun n => Value.int .u8 (Int.ofNat n)).toArray)).modify 4 (layCells #[.int .u8 58, .int .u8 61, .int .u8 46])).modify 0 (layCells #[.int .u8 94, .int .u8 93])).modify 2 (layCells (([128, 191, 160, 191, 128, 159, 144, 191, 128, 143, 0, 0, 0, 0, 0, 0, 0, 0, 0, 0, 0, 0, 0, 0, 0, 0, 0, 0, 0, 0, 0, 0] : List Nat).map fun n => Value.int .u8 (Int.ofNat n)).toArray)).modify 1 (layCells (Go.Pinned.utf8FirstZ.map fun n => Value.int .u8 (Int.ofNat n)).toArray) }
end Go.Proofs.YtmpihhhjkkokfaaGreatDoor
