/- The proof's texts BreAwake, GrPE, NdRight, PmF, BrGlob: what the claim reaches of them. -/
import Derived.Test.YtkejeiopfblkgaaGreatDoorBp05
import Derived.Test.YtkejeiopfblkgaaGreatDoorBp33
import Derived.Test.YtkejeiopfblkgaaGreatDoorBp04
import Derived.Test.YtkejeiopfblkgaaGreatDoorBp10
import Derived.Test.YtkejeiopfblkgaaGreatDoorBp02
import Derived.Test.YtkejeiopfblkgaaGreatDoorBp09
import Derived.Test.YtkejeiopfblkgaaGreatDoorBp15
import Derived.Test.YtkejeiopfblkgaaGreatDoorBp26
import Derived.Test.YtkejeiopfblkgaaGreatDoorBp06
import Derived.Test.YtkejeiopfblkgaaGreatDoorCards
import Derived.Test.YtkejeiopfblkgaaGreatDoorTie
import Derived.ShutString
import Derived.OpenShut
import Derived.Deep.DeepHandedRow
import Derived.Lib.LaidTab
import Derived.Stop.LaidErr
import Derived.Shelf.Vars
namespace Go.Proofs.YtkejeiopfblkgaaGreatDoor
open Go Go.RowKit
theorem breEx1 (w : World) (hG : Gl w) : Calls Tryz.prog 6 #[.string ⟨#[97, 42, 92, 40, 98, 92, 41, 92, 49]⟩] w fun e w' => ∃ a c ma mc, e = .returned (.tuple #[.iface 45 (.agg #[.slice a 3 c]), .slice ma 0 mc, .int .i64 0, .int .i64 0]) ∧ NdX (fun k => k < w'.heap.size) w' breN1 (.iface 45 (.agg #[.slice a 3 c])) ∧ Below w.heap.size w w' := by
 refine (bparse_any ⟨#[97, 42, 92, 40, 98, 92, 41, 92, 49]⟩ w hG).mono ?_
 rw [show (ByteArray.mk #[97, 42, 92, 40, 98, 92, 41, 92, 49]).data.toList = [97, 42, 92, 40, 98, 92, 41, 92, 49] from rfl, bre_ex1]
 rintro e w' ⟨hb, v, mv, rfl, hn, hm⟩
 obtain ⟨a, c, rfl⟩ := ndx_cat_form hn
 obtain ⟨ma, mc, rfl⟩ := own_form' hm
 exact ⟨a, c, ma, mc, rfl, ndx_in hn, hb⟩
theorem breEx2 (w : World) (hG : Gl w) : Calls Tryz.prog 6 #[.string ⟨#[42, 97]⟩] w fun e w' => ∃ a c ma mc, e = .returned (.tuple #[.iface 45 (.agg #[.slice a 2 c]), .slice ma 0 mc, .int .i64 0, .int .i64 0]) ∧ NdX (fun k => k < w'.heap.size) w' breN2 (.iface 45 (.agg #[.slice a 2 c])) ∧ Below w.heap.size w w' := by
 refine (bparse_any ⟨#[42, 97]⟩ w hG).mono ?_
 rw [show (ByteArray.mk #[42, 97]).data.toList = [42, 97] from rfl, bre_ex2]
 rintro e w' ⟨hb, v, mv, rfl, hn, hm⟩
 obtain ⟨a, c, rfl⟩ := ndx_cat_form hn
 obtain ⟨ma, mc, rfl⟩ := own_form' hm
 exact ⟨a, c, ma, mc, rfl, ndx_in hn, hb⟩
set_option linter.unusedSimpArgs false in
set_option maxRecDepth 100000 in
set_option maxHeartbeats 1000000 in
theorem awake4_any (w : World) (hG : Gl w) : Calls Tryz.prog 5 #[] w fun e w' => e = .returned (.bool true) ∧ Below w.heap.size w w' := by
 go_enter Tryz.func5, Tryz.ntmps5
 go_wp2_with fail
 refine (breEx1 w hG).mono ?_
 rintro e w1 ⟨a, c, ma, mc, rfl, hn1, hW⟩
 have hA := (Below.refl w1.heap.size w1).alloc (Nat.le_refl _) (.cells #[.slice a 3 c] 45)
 have hG1 := (hG.up hW).up hA
 have hn1' := NdX.below hA hn1
 have hW1 := hW.trans (hA.mono hW.size)
 have hC := Blk.new w1 #[.slice a 3 c] 45 w1.heap.size rfl
 clear hn1 hW hA
 have HE2 := breEx2 _ hG1
 clear hG1
 go_wp2_with fail
 refine HE2.mono ?_
 rintro e w2 ⟨a2, c2, ma2, mc2, rfl, hn2, b2⟩
 have hn3 := NdX.below b2 hn1'
 have hC2 := hC.below b2 hC.lt
 have hW2 := hW1.trans (b2.mono hW1.size)
 have hbk := pbacks_any breN1 _ w2 (ndx_in hn3) bre_size1
 rw [bre_backs] at hbk
 have k0 : w2.cell? ⟨w1.heap.size, 0, none⟩ = some (.slice a 3 c) := (hC2.cell 0).trans rfl
 have HN2 := Lib.hid hn2
 clear hn1' hW1 hC hn3 hC2 b2 HE2 hn2
 go_wp2_with fail
 refine hbk.mono ?_
 rintro e w3 ⟨rfl, b3⟩
 have hsz := psize_any breN2 _ w3 (ndx_in (HN2.out.below b3)) (by rw [bre_size]; decide)
 rw [bre_size] at hsz
 have hW3 := hW2.trans (b3.mono hW2.size)
 clear hbk b3 k0
 go_wp2_with fail
 refine hsz.mono ?_
 rintro e w4 ⟨rfl, b4⟩
 have hW4 := hW3.trans (b4.mono hW3.size)
 clear hsz b4
 go_wp2_with fail
 go_ret
 exact ⟨rfl, hW4⟩
end Go.Proofs.YtkejeiopfblkgaaGreatDoor
namespace Go.Proofs.YtkejeiopfblkgaaGreatDoor
def Stop (ere : Bool) (x : List UInt8) : Prop := x = [] ∨ ∃ c, (c = 41 ∨ c = 124) ∧ opAt ere x 0 c = true
def ReRep.up (P : Nat) : ReRep → ReRep
 | .none => .none
 | .bad => .bad
 | .some a b c j => .some a b c (P + j)
end Go.Proofs.YtkejeiopfblkgaaGreatDoor
namespace Go.Proofs.YtkejeiopfblkgaaGreatDoor
section
variable {ere : Bool} {p s x : List UInt8} (hx : Stop ere x) (g : Nat) (M : List (Nat × Nat))
include hx
end
end Go.Proofs.YtkejeiopfblkgaaGreatDoor
namespace Go.Proofs.YtkejeiopfblkgaaGreatDoor
theorem whole_in {ere : Bool} {s : List UInt8} {st : ReSt} {d : Nd} (h : parseM ere s = .ok (st, d)) :
  s.length ≤ 250 ∧ choiceM ere s (some (regM ere s 11)) false (s.length + 1) reZero [] = .ok (st, d) ∧ opAt ere s st.pos 41 = false := by
 have hl : s.length ≤ 250 := by
  unfold parseM at h
  split at h
  ·cases h
  ·omega
 rw [parse_shut _ _ hl] at h
 cases hc : choiceM ere s (some (regM ere s 11)) false (s.length + 1) reZero [] with
 | error e => rw [hc] at h; cases h
 | ok q =>
  obtain ⟨st2, d2⟩ := q
  rw [hc] at h
  unfold shutR at h
  simp only at h
  cases h41 : opAt ere s st2.pos 41 with
  | true => rw [h41] at h; cases h
  | false =>
   rw [h41] at h
   injection h with h
   injection h with h1 h2
   subst h1 h2
   exact ⟨hl, rfl, h41⟩
theorem reg_subs (ere : Bool) (s : List UInt8) (k : Nat) : SubMv s (some (regM ere s k)) ∧ SubOk (some (regM ere s k)) :=
 ⟨fun f hf => by injection hf with hf; subst hf; exact reg_mv ere s k, fun f hf => by injection hf with hf; subst hf; exact reg_takes ere s k⟩
end Go.Proofs.YtkejeiopfblkgaaGreatDoor
namespace Go.Proofs.YtkejeiopfblkgaaGreatDoor
theorem repM_err (ere : Bool) (s : List UInt8) : ∀ (n : Nat) (st : ReSt) (d : Nd) (q : Nat × Nat), st.pos ≤ s.length → s.length < n + st.pos → repM ere s n st d = .error q → q.1 ≠ 0 := by
 intro n
 induction n with
 | zero => intro st d q h1 h2; omega
 | succ n ih =>
  intro st d q h1 h2 h
  rw [repM] at h
  cases hr : repAt ere s st.pos with
  | none => rw [hr] at h; cases h
  | bad => rw [hr] at h; injection h with h; subst h; simp
  | some mn mx c j =>
   rw [hr] at h
   obtain ⟨m1, m2⟩ := rep_mv _ _ _ _ _ _ _ hr
   exact ih ((if c = 0 then st else st.mark c).to j) _ q m2 (by show _ < n + j; omega) h
def SubErr (s : List UInt8) (sub : Option (ReSt → ReRes (ReSt × Nd))) : Prop := ∀ f, sub = some f → ∀ st q, st.pos ≤ s.length → f st = .error q → q.1 ≠ 0
theorem escM_err (ere : Bool) (st : ReSt) (c : Nat) (q : Nat × Nat) (h : escM ere st c = .error q) : q.1 ≠ 0 := by
 unfold escM at h
 split at h
 ·split at h
  ·cases h
  ·injection h with h; subst h; simp
 ·split at h
  ·injection h with h; subst h; simp
  ·cases h
theorem atom_err (ere : Bool) (s : List UInt8) (sub : Option (ReSt → ReRes (ReSt × Nd))) (hs : SubErr s sub) (st : ReSt) (q : Nat × Nat) (h : atomM ere s sub st = .error q) : q.1 ≠ 0 := by
 unfold atomM at h
 split at h
 ·rename_i h40
  unfold grpM at h
  split at h
  ·injection h with h; subst h; simp
  ·rename_i f
   split at h
   ·rename_i e he
    injection h with h
    subst h
    exact hs f rfl _ _ (op_len h40) he
   ·split at h
    ·cases h
    ·injection h with h; subst h; simp
 ·split at h
  ·injection h with h; subst h; simp
  ·split at h
   ·split at h
    ·cases h
    ·rename_i hz
     injection h with h
     subst h
     exact hz
   ·split at h
    ·cases h
    ·split at h
     ·split at h
      ·exact escM_err _ _ _ _ h
      ·injection h with h; subst h; simp
     ·cases h
theorem branch_err (ere : Bool) (s : List UInt8) (sub : Option (ReSt → ReRes (ReSt × Nd))) (hs : SubErr s sub) (hmv : SubMv s sub) (top : Bool) (begin : Nat) : ∀ (n : Nat) (st : ReSt) (parts : List Nd) (front : Bool) (q : Nat × Nat), st.pos ≤ s.length → s.length < n + st.pos →
  branchM ere s sub top begin n st parts front = .error q → q.1 ≠ 0 := by
 intro n
 induction n with
 | zero => intro st parts front q h1 h2; omega
 | succ n ih =>
  intro st parts front q h1 h2 h
  rw [branchM] at h
  split at h
  ·cases h
  ·rename_i he
   have hlt : st.pos < s.length := by
    simp only [Bool.or_eq_true, decide_eq_true_eq, not_or] at he
    omega
   split at h
   ·exact ih (st.to (st.pos + 1)) _ _ q (show st.pos + 1 ≤ _ by omega) (show _ < n + (st.pos + 1) by omega) h
   ·split at h
    ·exact ih (st.to (st.pos + 1)) _ _ q (show st.pos + 1 ≤ _ by omega) (show _ < n + (st.pos + 1) by omega) h
    ·split at h
     ·injection h with h; subst h; simp
     ·split at h
      ·rename_i e ha
       injection h with h
       subst h
       exact atom_err ere s sub hs st _ ha
      ·rename_i st1 d1 ha
       have m1 := atom_mv ere s sub hmv st st1 d1 hlt ha
       split at h
       ·rename_i e hr
        injection h with h
        subst h
        exact repM_err ere s _ _ _ _ m1.2 (by omega) hr
       ·rename_i st2 d2 hr
        have m2 := repM_mv ere s _ _ _ _ _ m1.2 hr
        exact ih st2 _ _ q m2.2 (by omega) h
theorem choice_err (ere : Bool) (s : List UInt8) (sub : Option (ReSt → ReRes (ReSt × Nd))) (hs : SubErr s sub) (hmv : SubMv s sub) (top : Bool) : ∀ (n : Nat) (st : ReSt) (l : List Nd) (q : Nat × Nat), st.pos ≤ s.length → s.length < n + st.pos →
  choiceM ere s sub top n st l = .error q → q.1 ≠ 0 := by
 intro n
 induction n with
 | zero => intro st l q h1 h2; omega
 | succ n ih =>
  intro st l q h1 h2 h
  rw [choiceM] at h
  split at h
  ·rename_i e hb
   injection h with h
   subst h
   exact branch_err ere s sub hs hmv top _ _ _ _ _ _ h1 (by omega) hb
  ·rename_i st1 d1 hb
   have m1 := branch_mv ere s sub hmv top _ _ _ _ _ _ _ h1 hb
   split at h
   ·rename_i h124
    have hp := op_pos ere
    exact ih ((if ere then st1 else st1.mark 124).to (st1.pos + opLen ere)) _ q (op_len h124) (by show _ < n + (st1.pos + opLen ere); omega) h
   ·cases h
theorem reg_err (ere : Bool) (s : List UInt8) : ∀ (k : Nat) (st : ReSt) (q : Nat × Nat), st.pos ≤ s.length → regM ere s k st = .error q → q.1 ≠ 0 := by
 intro k
 induction k with
 | zero => intro st q hp h; exact choice_err ere s none (fun f hf => by cases hf) (fun f hf => by cases hf) false _ _ _ _ hp (by omega) h
 | succ k ih => intro st q hp h; exact choice_err ere s (some (regM ere s k)) (fun f hf => by injection hf with hf; subst hf; exact ih) (reg_subs ere s k).1 false _ _ _ _ hp (by omega) h
theorem whole_err {ere : Bool} {s : List UInt8} {q : Nat × Nat} (h : parseM ere s = .error q) : q.1 ≠ 0 := by
 unfold parseM at h
 split at h
 ·injection h with h; subst h; simp
 ·exact choice_err ere s (some (regM ere s 11)) (fun f hf => by injection hf with hf; subst hf; exact reg_err ere s 11) (reg_subs ere s 11).1 true _ _ _ _ (Nat.zero_le _) (by omega) h
theorem flat_sizes (f : Nd → List Nd) (hf : ∀ d, nsizes (f d) ≤ nsize d) (l : List Nd) : nsizes (l.flatMap f) ≤ nsizes l := by
 induction l with
 | nil => exact Nat.le_refl _
 | cons d ds ih => rw [List.flatMap_cons, nsizes_append, nsizes]; have := hf d; omega
theorem joined_size (l : List Nd) : nsize (njoin l) ≤ 1 + nsizes l := by
 have h := flat_sizes jpart nsizes_jpart l
 unfold njoin
 unfold jflat
 cases hl : l.flatMap jpart with
 | nil => simp [nsize]
 | cons d ds =>
  rw [hl] at h
  cases ds with
  | nil => simp only [nsizes] at h; simp only; omega
  | cons e es => simp only [nsize]; omega
theorem chosen_size (l : List Nd) : nsize (nchoose l) ≤ 1 + nsizes l := by
 have h := flat_sizes cpart nsizes_cpart l
 unfold nchoose
 unfold cflat
 cases hl : l.flatMap cpart with
 | nil => simp [nsize]
 | cons d ds =>
  rw [hl] at h
  cases ds with
  | nil => simp only [nsizes] at h; simp only; omega
  | cons e es => simp only [nsize]; omega
theorem repM_size (ere : Bool) (s : List UInt8) : ∀ (n : Nat) (st : ReSt) (d : Nd) (st' : ReSt) (d' : Nd), repM ere s n st d = .ok (st', d') → nsize d' + 3 * st.pos ≤ nsize d + 3 * st'.pos := by
 intro n
 induction n with
 | zero => intro st d st' d' h; cases h
 | succ n ih =>
  intro st d st' d' h
  rw [repM] at h
  cases hr : repAt ere s st.pos with
  | none => rw [hr] at h; injection h with h; injection h with h1 h2; subst h1 h2; exact Nat.le_refl _
  | bad => rw [hr] at h; cases h
  | some mn mx c j =>
   rw [hr] at h
   have m := (rep_mv _ _ _ _ _ _ _ hr).1
   have := ih _ _ _ _ h
   rw [show ((if c = 0 then st else st.mark c).to j).pos = j from rfl, nsize] at this
   omega
def SubSize (s : List UInt8) (sub : Option (ReSt → ReRes (ReSt × Nd))) : Prop := ∀ f, sub = some f → ∀ st st' d, st.pos ≤ s.length → f st = .ok (st', d) → nsize d + 3 * st.pos ≤ 2 + 3 * st'.pos
theorem atom_size (ere : Bool) (s : List UInt8) (sub : Option (ReSt → ReRes (ReSt × Nd))) (hs : SubSize s sub) (hmv : SubMv s sub) (st st' : ReSt) (d : Nd) (hl : st.pos < s.length) (h : atomM ere s sub st = .ok (st', d)) : nsize d + 3 * st.pos ≤ 3 * st'.pos := by
 have hp := op_pos ere
 have hm := (atom_mv ere s sub hmv st st' d hl h).1
 unfold atomM at h
 split at h
 ·rename_i h40
  unfold grpM at h
  split at h
  ·cases h
  ·rename_i f
   split at h
   ·cases h
   ·rename_i st1 d1 he
    split at h
    ·injection h with h
     injection h with h1 h2
     subst h1 h2
     have := hs f rfl _ _ _ (op_len h40) he
     simp only at this
     simp only [nsize]
     omega
    ·cases h
 ·split at h
  ·cases h
  ·split at h
   ·split at h
    ·injection h with h; injection h with h1 h2; subst h2; simp only [nsize]; omega
    ·cases h
   ·split at h
    ·injection h with h; injection h with h1 h2; subst h2; simp only [nsize]; omega
    ·split at h
     ·split at h
      ·unfold escM at h
       split at h
       ·split at h
        ·injection h with h; injection h with h1 h2; subst h2; simp only [nsize]; omega
        ·cases h
       ·split at h
        ·cases h
        ·injection h with h; injection h with h1 h2; subst h2; simp only [nsize]; omega
      ·cases h
     ·injection h with h; injection h with h1 h2; subst h2; simp only [nsize]; omega
theorem branch_size (ere : Bool) (s : List UInt8) (sub : Option (ReSt → ReRes (ReSt × Nd))) (hs : SubSize s sub) (hmv : SubMv s sub) (top : Bool) (begin : Nat) : ∀ (n : Nat) (st : ReSt) (parts : List Nd) (front : Bool) (st' : ReSt) (d : Nd), st.pos ≤ s.length →
  branchM ere s sub top begin n st parts front = .ok (st', d) → nsize d + 3 * st.pos ≤ 1 + nsizes parts + 3 * st'.pos := by
 intro n
 induction n with
 | zero => intro st parts front st' d _ h; cases h
 | succ n ih =>
  intro st parts front st' d h1 h
  have hsn : ∀ x, nsizes (parts ++ [x]) = nsizes parts + nsize x := fun x => by rw [nsizes_append]; simp [nsizes]
  rw [branchM] at h
  split at h
  ·injection h with h; injection h with h2 h3; subst h2 h3
   have := joined_size parts
   omega
  ·rename_i he
   have hlt : st.pos < s.length := by
    simp only [Bool.or_eq_true, decide_eq_true_eq, not_or] at he
    omega
   split at h
   ·have := ih (st.to (st.pos + 1)) _ _ _ _ (show st.pos + 1 ≤ _ by omega) h
    rw [hsn, show (st.to (st.pos + 1)).pos = st.pos + 1 from rfl] at this
    simp only [nsize] at this
    omega
   ·split at h
    ·have := ih (st.to (st.pos + 1)) _ _ _ _ (show st.pos + 1 ≤ _ by omega) h
     rw [hsn, show (st.to (st.pos + 1)).pos = st.pos + 1 from rfl] at this
     simp only [nsize] at this
     omega
    ·split at h
     ·cases h
     ·split at h
      ·cases h
      ·rename_i st1 d1 ha
       have m1 := atom_mv ere s sub hmv st st1 d1 hlt ha
       have z1 := atom_size ere s sub hs hmv st st1 d1 hlt ha
       split at h
       ·cases h
       ·rename_i st2 d2 hr
        have m2 := repM_mv ere s _ _ _ _ _ m1.2 hr
        have z2 := repM_size ere s _ _ _ _ _ hr
        have := ih st2 _ _ _ _ m2.2 h
        rw [hsn] at this
        omega
theorem choice_size (ere : Bool) (s : List UInt8) (sub : Option (ReSt → ReRes (ReSt × Nd))) (hs : SubSize s sub) (hmv : SubMv s sub) (top : Bool) : ∀ (n : Nat) (st : ReSt) (l : List Nd) (st' : ReSt) (d : Nd), st.pos ≤ s.length →
  choiceM ere s sub top n st l = .ok (st', d) → nsize d + 3 * st.pos ≤ 2 + nsizes l + 3 * st'.pos := by
 intro n
 induction n with
 | zero => intro st l st' d _ h; cases h
 | succ n ih =>
  intro st l st' d h1 h
  have hsn : ∀ x, nsizes (l ++ [x]) = nsizes l + nsize x := fun x => by rw [nsizes_append]; simp [nsizes]
  rw [choiceM] at h
  split at h
  ·cases h
  ·rename_i st1 d1 hb
   have z1 := branch_size ere s sub hs hmv top _ _ _ _ _ _ _ h1 hb
   simp only [nsizes] at z1
   split at h
   ·rename_i h124
    have hp := op_pos ere
    have := ih ((if ere then st1 else st1.mark 124).to (st1.pos + opLen ere)) _ _ _ (op_len h124) h
    rw [hsn, show ((if ere then st1 else st1.mark 124).to (st1.pos + opLen ere)).pos = st1.pos + opLen ere from rfl] at this
    omega
   ·injection h with h; injection h with h2 h3; subst h2 h3
    have := chosen_size (l ++ [d1])
    rw [hsn] at this
    omega
theorem reg_size (ere : Bool) (s : List UInt8) : ∀ (k : Nat) (st st' : ReSt) (d : Nd), st.pos ≤ s.length → regM ere s k st = .ok (st', d) → nsize d + 3 * st.pos ≤ 2 + 3 * st'.pos := by
 intro k
 induction k with
 | zero => intro st st' d hp h; have := choice_size ere s none (fun f hf => by cases hf) (fun f hf => by cases hf) false _ _ _ _ _ hp h; simp only [nsizes] at this; omega
 | succ k ih => intro st st' d hp h; have := choice_size ere s (some (regM ere s k)) (fun f hf => by injection hf with hf; subst hf; exact ih) (reg_subs ere s k).1 false _ _ _ _ _ hp h; simp only [nsizes] at this; omega
theorem whole_size {ere : Bool} {s : List UInt8} {st : ReSt} {d : Nd} (h : parseM ere s = .ok (st, d)) : nsize d ≤ 752 := by
 obtain ⟨hl, hc, _⟩ := whole_in h
 have h1 := choice_size ere s (some (regM ere s 11)) (fun f hf => by injection hf with hf; subst hf; exact reg_size ere s 11) (reg_subs ere s 11).1 false _ _ _ _ _ (Nat.zero_le _) hc
 have h2 := (choice_mv ere s (some (regM ere s 11)) (reg_subs ere s 11).1 false _ _ _ _ _ (Nat.zero_le _) hc).2
 simp only [nsizes] at h1
 omega
end Go.Proofs.YtkejeiopfblkgaaGreatDoor
namespace Go.Proofs.YtkejeiopfblkgaaGreatDoor
open Go Go.RowKit
attribute [local go_sem] Oper.semAt_some
theorem blrow_of {w : World} {base : Nat} {e : TypeId} {es : List Bool} {v : Value} (h : w.ownsRow base e 1 v es.length (es.map Value.bool)) : BlRow w es v := by
 have hr := h
 obtain ⟨_, h2⟩ := h
 rcases h2 with ⟨rfl, h0⟩ | ⟨g, cap, cur, rfl, hg, hh, hn, hcap, hcs, htk⟩
 ·exact ⟨none, 0, by rw [h0], by omega, by decide, fun h => by omega⟩
 ·refine ⟨some ⟨g, 0, none⟩, cap, rfl, hn, hcap, fun h0 => ⟨g, rfl, (Array.getElem?_eq_some_iff.1 hh).1, fun i hi => ?_⟩⟩
  rw [hr.cellAt i (by omega), List.getElem?_map, List.getElem?_eq_getElem hi]
  rfl
structure RtI (w0 : World) (d : Nd) (pre : List (Nd × Bool)) (C : Nat → Prop) (W : World) (es : List Bool) (ev : Value) (x : Value) : Prop where
 st : rsf (.ok []) pre = .ok es
 res : Boxed W w0.heap.size 4 x
 var : Boxed W (w0.heap.size + 1) 51 ev
 row : W.ownsRow w0.heap.size 4 1 ev es.length (es.map Value.bool)
 own : ∀ k, C k ↔ ev.ownBlock = some k
 below : Below w0.heap.size w0 W
 far : ∀ k, C k → w0.heap.size + 3 ≤ k
theorem RtI.other {w0 : World} {d : Nd} {pre : List (Nd × Bool)} {C : Nat → Prop} {X Y : World} {es : List Bool} {ev x : Value} (h : RtI w0 d pre C X es ev x) (ho : Other (w0.heap.size + 3) C X Y) : RtI w0 d pre C Y es ev x :=
 ⟨h.st, Boxed.same h.res (ho.block _ h.res.lt (.inl (by omega))), Boxed.same h.var (ho.block _ h.var.lt (.inl (by omega))), own_row_same h.row (fun g hg => ho.block _ (h.row.lt g hg).2 (.inr ((h.own g).2 hg))), h.own,
  h.below.trans ⟨ho.os, ho.tape, ho.output, ho.size, fun k hk => ho.block k (Nat.lt_of_lt_of_le hk h.below.size) (.inl (by omega))⟩, h.far⟩
theorem RtI.mem {w0 : World} {d : Nd} {pre : List (Nd × Bool)} {C : Nat → Prop} {X Y : World} {es : List Bool} {ev x : Value} (h : RtI w0 d pre C X es ev x) (hb : Below X.heap.size X Y) : RtI w0 d pre C Y es ev x :=
 ⟨h.st, Boxed.same h.res (hb.block _ h.res.lt), Boxed.same h.var (hb.block _ h.var.lt), own_row_same h.row (fun g hg => hb.block _ (h.row.lt g hg).2), h.own, h.below.trans (hb.mono h.below.size), h.far⟩
theorem RtI.next {w0 : World} {d : Nd} {pre : List (Nd × Bool)} {C : Nat → Prop} {X : World} {es : List Bool} {ev x : Value} {y : Nd × Bool} (h : RtI w0 d pre C X es ev x) (hs : rs (.ok es) y = .ok es) : RtI w0 d (pre ++ [y]) C X es ev x :=
 ⟨by rw [rsf_snoc, h.st, hs], h.res, h.var, h.row, h.own, h.below, h.far⟩
theorem RtI.push {w0 : World} {d : Nd} {pre : List (Nd × Bool)} {C : Nat → Prop} {W w2 w3 : World} {es : List Bool} {ev x v' : Value} {y : Nd × Bool} {tmp : Obj} (h : RtI w0 d pre C W es ev x) (hb : Below W.heap.size W w2) (hlt : w0.heap.size + 3 ≤ W.heap.size) (hs : rs (.ok es) y = .ok (es ++ [false]))
  (hown : w3.ownsRow w0.heap.size 4 1 v' (es.length + 1) (es.map Value.bool ++ [.bool false])) (hg : (w2.alloc tmp).grownBy w3 ev.ownBlock) (hat : v'.ownBlock = ev.ownBlock ∨ v'.ownBlock = some (w2.alloc tmp).heap.size) :
  Boxed w3 (w0.heap.size + 1) 51 ev ∧ RtI w0 d (pre ++ [y]) (fun k => v'.ownBlock = some k) (w3.setCell ⟨w0.heap.size + 1, 0, none⟩ v') (es ++ [false]) v' x ∧ Rdn w0.heap.size (w0.heap.size + 3) C (fun k => v'.ownBlock = some k) W (w3.setCell ⟨w0.heap.size + 1, 0, none⟩ v') := by
 have h2 := (h.mem hb).mem ((Below.refl _ w2).alloc (Nat.le_refl _) tmp)
 have hsz := hb.size
 have hne : ∀ k, k < w0.heap.size + 3 → some k ≠ ev.ownBlock := fun k hk e => by have := h.far k ((h.own k).2 e.symm); omega
 have hfar : ∀ k, v'.ownBlock = some k → w0.heap.size + 3 ≤ k := fun k hk => by
  rcases hat with e | e
  ·exact h.far k ((h.own k).2 (by rw [← e]; exact hk))
  ·rw [e] at hk; injection hk with hk; simp at hk; omega
 have hv3 : Boxed w3 (w0.heap.size + 1) 51 ev := h2.var.kept hg (hne _ (by omega))
 have hblk : ∀ k, k < (w2.alloc tmp).heap.size → some k ≠ ev.ownBlock → k ≠ w0.heap.size + 1 → (w3.setCell ⟨w0.heap.size + 1, 0, none⟩ v').heap[k]? = (w2.alloc tmp).heap[k]? := fun k hk h1 h3 =>
  (Below.heap_setCell _ _ _ _ h3).trans (hg.block k hk h1)
 have hBl : Below w0.heap.size (w2.alloc tmp) (w3.setCell ⟨w0.heap.size + 1, 0, none⟩ v') := by
  refine ((Below.refl _ _).grown hg h2.below.size (fun k hk => ?_)).setCell (p := ⟨w0.heap.size + 1, 0, none⟩) (by simp) _
  have := h.far k ((h.own k).2 hk)
  omega
 refine ⟨hv3, ⟨by rw [rsf_snoc, h.st, hs], ?_, hv3.set v', ?_, fun k => Iff.rfl, h2.below.trans hBl, hfar⟩, ⟨?_, ?_, ?_⟩⟩
 ·exact Boxed.same h2.res (hblk _ h2.res.lt (hne _ (by omega)) (by omega))
 ·rw [List.map_append, List.length_append]
  exact own_row_same hown (fun g hg' => Below.heap_setCell _ _ _ _ (by have := hfar g hg'; simp; omega))
 ·exact Nat.le_trans hsz (Nat.le_trans (Nat.le_of_lt (by simp)) hBl.size)
 ·intro k hk hkc
  rcases hkc with hk0 | ⟨hk0, hkc⟩
  ·rw [hblk k (by simp; omega) (hne k (by omega)) (by omega), Below.heap_alloc _ _ _ (by omega), hb.block k hk]
  ·rw [hblk k (by simp; omega) (fun e => hkc ((h.own k).2 e.symm)) (by omega), Below.heap_alloc _ _ _ (by omega), hb.block k hk]
 ·intro k hk
  have h5 := (hown.lt k hk).2
  have h6 : w3.heap.size ≤ (w3.setCell ⟨w0.heap.size + 1, 0, none⟩ v').heap.size := by simp [World.setCell]
  rcases hat with e | e
  ·exact .inl ((h.own k).2 (by rw [← e]; exact hk))
  ·right
   rw [e] at hk; injection hk with hk; simp at hk
   omega
theorem RtI.mark {w0 : World} {d : Nd} {pre : List (Nd × Bool)} {C : Nat → Prop} {W : World} {es : List Bool} {g cap k : Nat} {x : Value} {y : Nd × Bool} (h : RtI w0 d pre C W es (.slice (some ⟨g, 0, none⟩) es.length cap) x) (hs : rs (.ok es) y = .ok (es.set k true)) :
  RtI w0 d (pre ++ [y]) C (W.setCell ⟨g, k, none⟩ (.bool true)) (es.set k true) (.slice (some ⟨g, 0, none⟩) es.length cap) x ∧ Rdn w0.heap.size (w0.heap.size + 3) C C W (W.setCell ⟨g, k, none⟩ (.bool true)) := by
 have hg : C g := (h.own g).2 rfl
 have hfar := h.far g hg
 refine ⟨⟨by rw [rsf_snoc, h.st, hs], ?_, ?_, ?_, h.own, h.below.setCell (p := ⟨g, k, none⟩) (by show w0.heap.size ≤ g; omega) _, h.far⟩, ⟨by simp [World.setCell], ?_, fun _ hc => .inl hc⟩⟩
 ·exact Boxed.same h.res (Below.heap_setCell _ _ _ _ (by simp; omega))
 ·exact Boxed.same h.var (Below.heap_setCell _ _ _ _ (by simp; omega))
 ·have := (h.row.stored k (.bool true)).1
  rw [List.length_set, List.map_set]
  exact this
 ·intro j _ hj
  refine Below.heap_setCell _ _ _ _ ?_
  show j ≠ g
  rcases hj with hj | hj
  ·omega
  ·exact fun e => hj.2 (e ▸ hg)
set_option linter.unusedSimpArgs false in
set_option maxRecDepth 100000 in
set_option maxHeartbeats 4000000 in
theorem pright_any (d : Nd) (v : Value) (w : World) (h : NdX (fun k => k < w.heap.size) w d v) (hsz : nsize d ≤ 4000000) :
  Calls Tryz.prog 13 #[v] w fun e w' => e = .returned (.bool (nrightB d)) ∧ Below w.heap.size w w' := by
 have hsh : (∃ T q, v = .iface T q) ∨ v = .nilIface := h.elim fun _ h => nd_shape h
 obtain ⟨i0, hi, hz0, hz1, hz2⟩ := bool_info
 refine (callsIn_wide (n := 3)).1 ?_
 refine callsIn_of_wp_marks Tryz.func13 rfl trivial ?_ rfl
 simp only [Tryz.ntmps13, List.size_toArray, List.length_cons, List.length_nil, Nat.reduceAdd, Nat.reduceSub, Array.replicate_succ, Array.replicate_zero, List.push_toArray, List.append_toArray, List.nil_append, List.cons_append]
 gi_wp2_with (refine ⟨trivial, ?_⟩; gi_at_call 25; refine (callsIn_wide.2 (walk_any _ _ hsh)).mono ?_; rintro e w' ⟨rfl, rfl⟩)
 obtain ⟨V, hV⟩ : ∃ V, ((w.alloc (.cells #[.bool false] 4)).alloc (.cells #[.slice none 0 0] 51)).alloc (.cells #[v] 24) = V := ⟨_, rfl⟩
 have hB : Below w.heap.size w V := by rw [← hV]; exact (((Below.refl _ w).alloc (Nat.le_refl _) _).alloc (by simp) _).alloc (by simp; omega) _
 have hVs : V.heap.size = w.heap.size + 3 := by rw [← hV]; simp
 have hc : V.cell? ⟨w.heap.size + 1 + 1, 0, none⟩ = some v := by
  have h1 := (Boxed.new ((w.alloc (.cells #[.bool false] 4)).alloc (.cells #[.slice none 0 0] 51)) 24 v).cell
  rw [World.size_alloc, World.size_alloc, hV] at h1
  exact h1
 have hb0 : Boxed V w.heap.size 4 (.bool false) := by
  have h1 := ((Boxed.new w 4 (.bool false)).alloc (.cells #[.slice none 0 0] 51)).alloc (.cells #[v] 24)
  rw [hV] at h1
  exact h1
 have hb1 : Boxed V (w.heap.size + 1) 51 (.slice none 0 0) := by
  have h1 := (Boxed.new (w.alloc (.cells #[.bool false] 4)) 51 (.slice none 0 0)).alloc (.cells #[v] 24)
  rw [World.size_alloc, hV] at h1
  exact h1
 rw [hV]
 refine wpIn_rangeFunc_cells (gf := 43) (lb := #[.pointer (some ⟨w.heap.size + 1 + 1, 0, none⟩)]) rfl (enters_of Tryz.func43 (by kernel_rfl) rfl)
  (walk_gives d hsz w.heap.size (w.heap.size + 1 + 1) v V (by omega) hc (h.below hB)) (Below.refl _ _) (by omega)
  (fun pre x args C b W hk => by obtain ⟨_, rfl, _⟩ := hk; rfl)
  (fun pre x args C b W k o hk h1 h2 => nd_ok_put hk h1 h2)
  (fun pre C W => ∃ es ev x, RtI w d pre C W es ev x) (fun c W => c = .ret ∧ nrightB d = false ∧ Boxed W w.heap.size 4 (.bool false) ∧ Below w.heap.size w W)
  (fun pre C X Y hk ho => by obtain ⟨es, ev, x, hk⟩ := hk; rw [hVs] at ho; exact ⟨es, ev, x, hk.other ho⟩)
  (fun c X Y hk ho => ⟨hk.1, hk.2.1, Boxed.same hk.2.2.1 (ho.block _ hk.2.2.1.lt (.inl (by omega))), hk.2.2.2.trans ⟨ho.os, ho.tape, ho.output, ho.size, fun k hlt => ho.block k (Nat.lt_of_lt_of_le hlt hk.2.2.2.size) (.inl (by omega))⟩⟩)
  ⟨[], .slice none 0 0, .bool false, rfl, hb0, hb1, World.ownsRow_nil _ _ _ _, fun k => ⟨fun h => h.elim, fun h => by simp [Value.ownBlock] at h⟩, hB, fun k h => h.elim⟩ ?round ?done ?stop
 case round =>
  rintro l pre ⟨d', b⟩ args C W hI hOk hC hlt
  obtain ⟨v', rfl, hsuf, hv'⟩ := hOk
  obtain ⟨num, u, hu, hTA, hnum⟩ := assert_group hv'
  gi_wp2
  clear hI hlt hv'
  intro W es ev x hI hOk hlt
  obtain ⟨v2, ha, _, hv⟩ := hOk
  obtain rfl : v' = v2 := by simpa using ha
  clear ha
  have hel : es.length ≤ 8000000 := by
   have h1 := rs_len pre [] es hI.st
   have h2 := pre_len hsuf
   simp at h1
   omega
  have hF := fun w' (hb : Below W.heap.size W w') => fits_any d' v' es ev w' (hv.below hb) ((blrow_of hI.row).below hb) hel
  clear hv
  have hA := fun u => (Below.refl W.heap.size W).alloc (Nat.le_refl _) (.cells #[.int .i64 num, u] 77)
  have hIA := fun u => hI.mem (hA u)
  have hcA := fun u => (hIA u).var.cell
  cases b with
  | true =>
   cases hf : fitsM d' es
   ·have Hn := Lib.hid (show nrightB d = false by
     obtain ⟨suf, hs⟩ := hsuf
     exact right_no (by rw [← hs, rsf_append, hI.st, rsf_cons, rs_in_no hf, rsf_no]))
    rw [hf] at hF
    clear hf hsuf
    rcases hu with ⟨T, q, rfl⟩ | rfl
    all_goals
     gi_wp2_with (refine ⟨trivial, ?_⟩; gi_at_call 26; refine (CallsIn.inRound l (callsIn_wide.2 (hF _ (hA _)))).mono ?_; rintro e w2 ⟨rfl, b2⟩; have hI2 := (hIA _).mem b2; have hc2 := hI2.res.cell; have hf2 := hI2.res.frozen)
     exact ⟨((Rdn.below (hA _)).trans (Rdn.below b2)).trans (Rdn.setCell _ _ _ _ (Nat.le_refl _) (by simp)), rfl, Hn.out, Boxed.set _ hI2.res, hI2.below.setCell (p := ⟨w.heap.size, 0, none⟩) (Nat.le_refl _) _⟩
   ·rw [hf] at hF
    cases hG : ngrp d'
    ·rw [hG] at hTA
     have Hn := Lib.hid (rs_in hf hG)
     clear hf hsuf hG
     rcases hu with ⟨T, q, rfl⟩ | rfl
     all_goals
      gi_wp2_with (refine ⟨trivial, ?_⟩; gi_at_call 26; refine (CallsIn.inRound l (callsIn_wide.2 (hF _ (hA _)))).mono ?_; rintro e w2 ⟨rfl, b2⟩; have hI2 := (hIA _).mem b2)
      exact ⟨C, (Rdn.below (hA _)).trans (Rdn.below b2), es, ev, x, hI2.next Hn.out⟩
    ·rw [hG] at hTA
     have hs : rs (.ok es) (d', true) = .ok (es ++ [false]) := by simp [rs, hf, hG]
     have hm1 : es.length + 1 ≤ maxLen := by unfold maxLen; omega
     have hm2 : (es.length + 1) * 1 ≤ 140737488355328 := by omega
     have hPush := fun u w2 w3 v' (hb : Below W.heap.size W w2) => hI.push (w2 := w2) (w3 := w3) (v' := v') (tmp := .cells #[.bool false] u) hb (by omega) hs
     have hone : ∀ u ∈ [Value.bool false], u.oneCell' = true := by intro u hu; simp at hu; subst hu; rfl
     clear hf hsuf hG hs
     rcases hu with ⟨T, q, rfl⟩ | rfl
     all_goals
      gi_wp2_with (first | (refine ⟨trivial, ?_⟩; gi_at_call 26; refine (CallsIn.inRound l (callsIn_wide.2 (hF _ (hA _)))).mono ?_; rintro e w2 ⟨rfl, b2⟩; have hI2 := (hIA _).mem b2; have hc2 := hI2.var.cell; have hf2 := hI2.var.frozen) | (gi_at_builtin; refine wpListIn_append_own_at _ rfl _ _ 51 rfl w.heap.size 4 i0 (.bool false) 1 1 Tryz.underlying51 hi hz0 hz1 hz2 rfl (by decide) _ _ _ rfl (hI2.row.alloc _) ⟨w2.heap.size, 0, none⟩ 1 1 [.bool false] rfl rfl (cell_one_new _ _ _) hone hm1 hm2 (by simp; have := hI2.below.size; omega) ?_; intro v3 w3 hown' hgrow _ hat; obtain ⟨hv3, hI3, hR3⟩ := hPush _ w2 w3 v3 ((hA _).trans (b2.mono (hA _).size)) hown' hgrow hat; have hc3 := hv3.cell; have hf3 := hv3.frozen; obtain ⟨g', cap', rfl⟩ := ownsRow_succ hown'))
      exact ⟨_, hR3, _, _, _, hI3⟩
  | false =>
   cases hG : ngrp d'
   ·rw [hG] at hTA
    have Hn := Lib.hid (rs_out (.ok es) hG)
    clear hG hsuf
    rcases hu with ⟨T, q, rfl⟩ | rfl
    all_goals
     gi_wp2
     refine ⟨trivial, ?_⟩
     gi_wp2
     exact ⟨C, Rdn.below (hA _), es, ev, x, (hIA _).next Hn.out⟩
   ·rw [hG] at hTA
    obtain ⟨hn1, hn2⟩ := right_ends hsuf hI.st hG
    obtain ⟨n, dd, rfl⟩ : ∃ n dd, d' = .group n dd := by cases d' <;> first | exact ⟨_, _, rfl⟩ | cases hG
    obtain rfl : num = n := hnum n dd rfl
    obtain ⟨k, rfl⟩ : ∃ k : Nat, num = (k : Int) + 1 := ⟨(num - 1).toNat, by have : 1 ≤ num := hn1; omega⟩
    have hk : k < es.length := by have : (k : Int) + 1 ≤ (es.length : Int) := hn2; omega
    have hs : rs (.ok es) (.group ((k : Int) + 1) dd, false) = .ok (es.set k true) := by
     rw [rs_close (n := (k : Int) + 1) hn1 hn2, show ((k : Int) + 1 - 1).toNat = k by omega]
    obtain ⟨g, cap, rfl⟩ : ∃ g cap, ev = .slice (some ⟨g, 0, none⟩) es.length cap := by
     obtain ⟨g, cap, h1, _⟩ := hI.row.form (by omega)
     exact ⟨g, cap, h1⟩
    have Wn : IntKind.i64.wrap ((k : Int) + 1 - 1) = (k : Int) := by rw [IntWalk.i64_in _ (by omega)]; omega
    have hcE := fun u => (show (W.alloc (.cells #[.int .i64 ((k : Int) + 1), u] 77)).cell? ⟨g, k, none⟩ = some (.bool es[k]) by rw [(hIA u).row.cellAt k (by omega), List.getElem?_map, List.getElem?_eq_getElem hk]; rfl)
    have hfE := fun u => (hIA u).row.frozenAt k
    have hSet := fun u => (hIA u).mark hs
    clear hG hsuf hn1 hn2 hs hnum
    rcases hu with ⟨T, q, rfl⟩ | rfl
    all_goals
     gi_wp2
     refine ⟨trivial, ?_⟩
     gi_wp2
     exact ⟨C, (Rdn.below (hA _)).trans (hSet _).2, _, _, _, (hSet _).1⟩
 case done =>
  rintro xs C W rfl ⟨es, ev, x, hI⟩ hK
  have hc := hI.res.cell
  have hf := hI.res.frozen
  have Hn := Lib.hid (right_ok hI.st)
  gi_wp2
  have hK' : (W.setCell ⟨w.heap.size, 0, none⟩ (.bool true)).heap[V.heap.size]? = some (.deferred (some [])) := (Below.heap_setCell _ _ _ _ (by simp; omega)).trans hK
  refine ⟨by simp, .inl ⟨_, _, rfl, run_takeDeferred hK', ?_⟩⟩
  have hc5 : ((W.setCell ⟨w.heap.size, 0, none⟩ (.bool true)).putObj V.heap.size (.deferred none)).cell? ⟨w.heap.size, 0, none⟩ = some (.bool true) :=
   (Boxed.same (Boxed.set (.bool true) hI.res) (World.putObj_heap_other (by omega))).cell
  refine ⟨.bool true, ?_, by rw [Hn.out], (hI.below.setCell (p := ⟨w.heap.size, 0, none⟩) (Nat.le_refl _) _).trans (below_put (by omega))⟩
  simp [results, Tryz.f13, go_sem, hc5]
 case stop =>
  rintro c W ⟨rfl, hn, hI, hbl⟩ hK
  have Hn := Lib.hid hn
  clear hn
  gi_wp2
  refine ⟨by simp, .inl ⟨_, _, rfl, run_takeDeferred hK, ?_⟩⟩
  have hc5 : (W.putObj V.heap.size (.deferred none)).cell? ⟨w.heap.size, 0, none⟩ = some (.bool false) := (Boxed.same hI (World.putObj_heap_other (by omega))).cell
  refine ⟨.bool false, ?_, by rw [Hn.out], hbl.trans (below_put (by omega))⟩
  simp [results, Tryz.f13, go_sem, hc5]
end Go.Proofs.YtkejeiopfblkgaaGreatDoor
namespace Go.Proofs.YtkejeiopfblkgaaGreatDoor
open Go Go.RowKit
theorem row_of_own {w : World} {B : Nat} {e : TypeId} {v : Value} {l : List (Nat × Nat)} (h : w.ownsRow B e 2 v l.length (marksC l)) : RowC (fun _ => True) w 2 v l.length (marksC l) := by
 obtain ⟨a, cap, e1, e2, e3⟩ := own_cells2 h
 refine ⟨a, cap, e1, e2, fun h0 => ?_⟩
 obtain ⟨g, e4, e5, e6⟩ := e3 h0
 exact ⟨g, e4, trivial, e5, e6⟩
theorem lis_own {F G : Nat → Prop} (d : Nd) (v : Value) (a : Option Addr) (cap : Nat) (w : World) (h : NdX F w d v) (ht : TrX G w (unc d) a cap) (hs : nsize d ≤ 4000000) :
  Calls Tryz.prog 12 #[v, .agg (tC (unc d) a cap)] w fun e w' => e = .returned (.bool true) ∧ Below w.heap.size w w' := by
 have h1 := lis_any d v (unc d) a cap w h ht (known_unc d) hs
 rw [canon_unc, nsame_refl] at h1
 exact h1
theorem lright_own {F : Nat → Prop} (d : Nd) (v : Value) (w : World) (h : NdX F w d v) (hs : nsize d ≤ 4000000) (hr : nrightB d = true) :
  Calls Tryz.prog 13 #[v] w fun e w' => e = .returned (.bool true) ∧ Below w.heap.size w w' := by
 have h1 := pright_any d v w (ndx_in h) hs
 rw [hr] at h1
 exact h1
set_option linter.unusedSimpArgs false in
set_option maxRecDepth 100000 in
set_option maxHeartbeats 4000000 in
/-- What Is answers where the program's reading is as the mathematics has it. -/
theorem lis4_any (s : ByteArray) (w0 w : World) (e0 : Ending) (hP : PAns (parseM false s.data.toList) w0 e0 w) :
  ∃ pa pm pat pe, e0 = .returned (.tuple #[pa, pm, pat, pe]) ∧ Calls Tryz.prog 7 #[pa, pm, pat, pe, .string s, .bool false] w fun e w' => e = .returned (.bool true) ∧ Below w.heap.size w w' := by
 have HRf := Lib.hid (fun w => rgxparse_f s w)
 have HB2 := Lib.hid (Below.refl w.heap.size w)
 cases hm : parseM false s.data.toList with
 | error q =>
  have hq := whole_err hm
  rw [hm] at HRf
  rw [hm] at hP
  obtain ⟨_, rfl⟩ := hP
  refine ⟨_, _, _, _, rfl, ?_⟩
  go_enter Tryz.func7, Tryz.ntmps7
  go_wp2_with fail
  with_reducible refine (HRf.out _).mono ?_
  intro e w3 hA
  obtain ⟨b3, rfl, _⟩ := hA
  have HB3 := Lib.hid (HB2.out.trans (b3.mono HB2.out.size))
  have e9 : ((q.1 : Int) == 0) = false := by rw [beq_eq_false_iff_ne]; exact fun h => hq (by simpa using h)
  have e9' : ¬ (q.1 : Int) = 0 := fun h => hq (by simpa using h)
  have e9'' : ((q.1 : Int) != 0) = true := by simp [bne, e9]
  clear b3 hq hm
  go_upto_region 2 with fail
  have HB4 := Lib.hid (HB3.out.alloc HB3.out.size (.cells zC 36))
  generalize w3.alloc (.cells zC 36) = w4 at *
  have HMk := Lib.hid (lmarks_any [] (.slice none 0 0) (.slice none 0 0) w4 (F := fun _ => True) (G := fun _ => True) ⟨none, 0, rfl, rfl, fun h => absurd h (Nat.lt_irrefl 0)⟩ ⟨none, 0, rfl, rfl, fun h => absurd h (Nat.lt_irrefl 0)⟩ (by decide))
  go_wp2_with fail
  with_reducible refine HMk.out.mono ?_
  rintro e w5 ⟨rfl, b5⟩
  have HB5 := Lib.hid (HB4.out.trans (b5.mono HB4.out.size))
  clear b5
  go_wp2_with fail
  go_ret
  exact ⟨rfl, HB5.out⟩
 | ok q =>
  have hsz := whole_size hm
  have hri := parse_right false _ q.1 q.2 hm
  rw [hm] at HRf
  rw [hm] at hP
  obtain ⟨_, pv, pmv, rfl, hn, hpm⟩ := hP
  have HN2 := Lib.hid hn
  have hpr := row_of_own hpm
  obtain ⟨pa, pl, pc, rfl⟩ := hpr.form
  have HR2 := Lib.hid hpr
  clear hn hpm hpr
  refine ⟨_, _, _, _, rfl, ?_⟩
  go_enter Tryz.func7, Tryz.ntmps7
  go_wp2_with fail
  with_reducible refine (HRf.out _).mono ?_
  intro e w3 hA
  obtain ⟨b3, hml, mv, a, cap, rfl, ht, hmk⟩ := hA
  have HB3 := Lib.hid (HB2.out.trans (b3.mono HB2.out.size))
  have HN3 := Lib.hid (HN2.out.below b3)
  have HR3 := Lib.hid (HR2.out.keep (G := fun _ => True) b3.size (fun b _ hl => ⟨trivial, fun o => b3.cell (p := ⟨b, o, none⟩) hl⟩))
  have HS := Lib.hid (And.intro hsz (And.intro hri hml))
  have hAA := (Below.refl w3.heap.size w3).alloc (Nat.le_refl _) (.cells (tC (unc q.2) a cap) 36)
  clear b3 hml hsz hri hm
  go_upto_region 2 with fail
  have HB4 := Lib.hid (HB3.out.trans (hAA.mono HB3.out.size))
  have HN4 := Lib.hid (HN3.out.below hAA)
  have HR4 := Lib.hid (HR3.out.keep (G := fun _ => True) hAA.size (fun b _ hl => ⟨trivial, fun o => hAA.cell (p := ⟨b, o, none⟩) hl⟩))
  have HT4 := Lib.hid (ht.below hAA)
  have HK4 := Lib.hid (hmk.keep (G := fun _ => True) hAA.size (fun b _ hl => ⟨trivial, fun o => hAA.cell (p := ⟨b, o, none⟩) hl⟩))
  have HQ4 := Lib.hid (Blk.new w3 (tC (unc q.2) a cap) 36 w3.heap.size rfl)
  clear hAA ht hmk
  generalize w3.alloc (.cells (tC (unc q.2) a cap) 36) = w4 at *
  generalize w3.heap.size = q4 at *
  have HMk := Lib.hid (lmarks_any q.1.marks _ _ w4 HR4.out HK4.out (by have := HS.out.2.2; omega))
  go_wp2_with fail
  with_reducible refine HMk.out.mono ?_
  rintro e w5 ⟨rfl, b5⟩
  have HB5 := Lib.hid (HB4.out.trans (b5.mono HB4.out.size))
  have HN5 := Lib.hid (HN4.out.below b5)
  have HT5 := Lib.hid (HT4.out.below b5)
  have HQ5 := Lib.hid (HQ4.out.below b5 HQ4.out.lt)
  clear b5
  obtain ⟨y0, y1, y2, y3, y4, y5, y6, y7, y8, g0, g1, g2, g3, g4, g5, g6, g7, g8, hy⟩ := blk9n HQ5.out
  have HIs := Lib.hid (lis_own q.2 pv a cap w5 HN5.out HT5.out (by have := HS.out.1; omega))
  go_wp2_with fail
  with_reducible refine HIs.out.mono ?_
  rintro e w6 ⟨rfl, b6⟩
  have HB6 := Lib.hid (HB5.out.trans (b6.mono HB5.out.size))
  have HN6 := Lib.hid (HN5.out.below b6)
  clear b6 y0 y1 y2 y3 y4 y5 y6 y7 y8 g0 g1 g2 g3 g4 g5 g6 g7 g8 hy
  have HRt := Lib.hid (lright_own q.2 pv w6 HN6.out (by have := HS.out.1; omega) HS.out.2.1)
  go_wp2_with fail
  with_reducible refine HRt.out.mono ?_
  rintro e w7 ⟨rfl, b7⟩
  have HB7 := Lib.hid (HB6.out.trans (b7.mono HB6.out.size))
  clear b7
  go_wp2_with fail
  go_ret
  exact ⟨rfl, HB7.out⟩
set_option linter.unusedSimpArgs false in
set_option maxRecDepth 100000 in
set_option maxHeartbeats 4000000 in
/-- The statement. -/
theorem breparses_all (s : ByteArray) (w : World) (hG : Gl w) : Calls Tryz.prog 3 #[.string s] w fun e w' => e = .returned (.bool true) ∧ Below w.heap.size w w' := by
 by_cases hbig : 400 < s.size
 ·have hb1 : decide ((400 : Int) < (s.size : Int)) = true := decide_eq_true (by omega)
  have hb2 : (400 : Int) < (s.size : Int) := by omega
  have hb3 : decide (400 < s.size) = true := decide_eq_true hbig
  go_enter Tryz.func3, Tryz.ntmps3
  go_wp2_with fail
  refine (awake4_any w hG).mono ?_
  rintro e w1 ⟨rfl, hW⟩
  have haw2 := awake4_any w1 (hG.up hW)
  clear hG
  go_wp2_with fail
  refine haw2.mono ?_
  rintro e w2 ⟨rfl, b2⟩
  have hW2 := hW.trans (b2.mono hW.size)
  clear haw2 b2
  go_wp2_with fail
  go_ret
  exact ⟨rfl, hW2⟩
 have hb1 : decide ((400 : Int) < (s.size : Int)) = false := decide_eq_false (by omega)
 have hb2 : ¬ (400 : Int) < (s.size : Int) := by omega
 have hb3 : decide (400 < s.size) = false := decide_eq_false hbig
 have HP := Lib.hid (fun w (hG : Gl w) => bparse_any s w hG)
 go_enter Tryz.func3, Tryz.ntmps3
 go_wp2_with fail
 refine (awake4_any w hG).mono ?_
 rintro e w1 ⟨rfl, hW⟩
 have hp := HP.out w1 (hG.up hW)
 have HB1 := Lib.hid hW
 clear hG hW HP hbig
 go_wp2_with fail
 refine hp.mono ?_
 clear hp
 intro e w2 hA
 have hb2 := hA.1
 have HB2 := Lib.hid (HB1.out.trans (hb2.mono HB1.out.size))
 obtain ⟨pa, pm, pat, pe, rfl, hI⟩ := lis4_any s w1 w2 e hA
 have HI := Lib.hid hI
 clear hA hb2 hI
 go_wp2_with fail
 with_reducible refine HI.out.mono ?_
 rintro e w3 ⟨rfl, b3⟩
 have HB3 := Lib.hid (HB2.out.trans (b3.mono HB2.out.size))
 clear b3
 go_wp2_with fail
 go_ret
 exact ⟨rfl, HB3.out⟩
end Go.Proofs.YtkejeiopfblkgaaGreatDoor
namespace Go.Proofs.YtkejeiopfblkgaaGreatDoor
open Go.ChangeShapes Go.WideShapes Go.ChangeAt Go.RowKit
theorem gTab : Tryz.prog.globalNamed "math/bits.deBruijn64tab" = some 1 := by kernel_rfl
theorem gTabType : (Tryz.prog.globals[1]?).map (·.type) = some 205 := by kernel_rfl
theorem cellsTab : Tryz.prog.cellsOf 205 = 64 := by kernel_rfl
theorem cellsU8 : Tryz.prog.cellsOf 5 = 1 := by kernel_rfl
theorem gOpn : Tryz.prog.globalNamed "placket/bracket.openers" = some 0 := by kernel_rfl
theorem gOpnType : (Tryz.prog.globals[0]?).map (·.type) = some 196 := by kernel_rfl
theorem cellsOpn : Tryz.prog.cellsOf 196 = 3 := by kernel_rfl
theorem gl_of {W : World} (h : laidMetH Tryz.prog [("math/bits.deBruijn64tab", Rows.laid_math_bits_deBruijn64tab), ("placket/bracket.openers", Rows.laid_placket_bracket_openers)] W) (hsh : W.ShapedOpen Tryz.prog) : Gl W := by
 have h0 : laidMet Tryz.prog [("math/bits.deBruijn64tab", Rows.laid_math_bits_deBruijn64tab), ("placket/bracket.openers", Rows.laid_placket_bracket_openers)] W := h
 have hT : Lib.TabIs Tryz.prog W "math/bits.deBruijn64tab" .u8 (Lib.deBruijn64tab.map Int.ofNat) :=
  Lib.tabIs_of_head gTab gTabType Tryz.underlying205 Tryz.underlying5 cellsU8 cellsTab h0
 have hO : Lib.TabIs Tryz.prog W "placket/bracket.openers" .u8 [58, 61, 46] :=
  Lib.tabIs_of_head gOpn gOpnType Tryz.underlying196 Tryz.underlying5 cellsU8 cellsOpn (laidMet.tail h0)
 obtain ⟨m, hm⟩ : ∃ m, W.cell? ⟨2, 0, none⟩ = some (.int .i64 m) :=
  cell_of_shapedOpen_int (t := 3) (zero := #[.int .i64 0]) hsh (of_decide_eq_true (by kernel_rfl)) (by kernel_rfl) rfl (by kernel_rfl) (by kernel_rfl) Tryz.underlying3
 refine ⟨fun j hj => ?_, hO.cell gOpn 0 (by decide), hO.cell gOpn 1 (by decide), hO.cell gOpn 2 (by decide), ⟨m, hm⟩, ?_⟩
 ·rw [hT.cell gTab j (by rw [List.length_map]; exact hj)]
  simp only [List.getD, List.getElem?_map]
  rw [List.getElem?_eq_getElem hj]
  rfl
 ·have hlt : ∀ (b : Nat) (v : Value), W.cell? ⟨b, 0, none⟩ = some v → b < W.heap.size := fun b v hv => by
   cases hh : W.heap[b]? with
   | none => simp [World.cell?, hh] at hv
   | some o => exact (Array.getElem?_eq_some_iff.1 hh).1
  exact Nat.max_lt.2 ⟨Nat.max_lt.2 ⟨hlt _ _ (hT.cell gTab 0 (by decide)), hlt _ _ (hO.cell gOpn 0 (by decide))⟩, hlt _ _ hm⟩
def layCells (cs : Array Value) : Obj → Obj
 | .cells _ t frozen => .cells cs t frozen
 | o => o
noncomputable def laidWorld (os : Os) : World :=
 { World.holding Tryz.prog os ⟨#[], #[], []⟩ with heap := ((World.holding Tryz.prog os ⟨#[], #[], []⟩).heap.modify 1 (layCells (Lib.deBruijn64tab.map fun n => Value.int .u8 (Int.ofNat n)).toArray)).modify 0 (layCells #[.int .u8 58, .int .u8 61, .int .u8 46]) }
end Go.Proofs.YtkejeiopfblkgaaGreatDoor
