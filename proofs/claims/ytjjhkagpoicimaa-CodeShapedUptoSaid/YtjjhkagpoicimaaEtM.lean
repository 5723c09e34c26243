/- Plain mathematics: a regex of letters, groups, bars and repetitions, written in both ways, has one tree. No program is named here. -/
import Derived.Test.YtjjhkagpoicimaaMaC
namespace Go.Proofs.Ytjjhkagpoicimaa

inductive Tk where
  | a | b | dot | opn | cls | bar | star | plus | ivl
/-- How a sign is written. -/
def Tk.enc (ere : Bool) : Tk → List UInt8
  | .a => [97]
  | .b => [98]
  | .dot => [46]
  | .opn => if ere then [40] else [92, 40]
  | .cls => if ere then [41] else [92, 41]
  | .bar => if ere then [124] else [92, 124]
  | .star => [42]
  | .plus => if ere then [43] else [92, 43]
  | .ivl => if ere then [123, 50, 44, 51, 125] else [92, 123, 50, 44, 51, 92, 125]
def encs (ere : Bool) (l : List Tk) : List UInt8 := l.flatMap (Tk.enc ere)
theorem encs_cons (ere : Bool) (t : Tk) (l : List Tk) : encs ere (t :: l) = t.enc ere ++ encs ere l := rfl
/-- Signs that may follow, in a group so deep. -/
def wfT : Bool → Nat → List Tk → Bool
  | _, d, [] => decide (d = 0)
  | _, d, .a :: l => wfT false d l
  | _, d, .b :: l => wfT false d l
  | _, d, .dot :: l => wfT false d l
  | _, d, .opn :: l => decide (d < 12) && wfT true (d + 1) l
  | _, d, .cls :: l => decide (0 < d) && wfT false (d - 1) l
  | _, d, .bar :: l => wfT true d l
  | f, d, .star :: l => !f && wfT false d l
  | f, d, .plus :: l => !f && wfT false d l
  | f, d, .ivl :: l => !f && wfT false d l
/-- The sign's own byte. -/
def Tk.op : Tk → Nat
  | .a => 97
  | .b => 98
  | .dot => 46
  | .opn => 40
  | .cls => 41
  | .bar => 124
  | .star => 42
  | .plus => 43
  | .ivl => 123
/-- Is it a sign of both kinds (a backslash ahead of it in a basic regex)? -/
def Tk.two : Tk → Bool
  | .a | .b | .dot | .star => false
  | _ => true
def Tk.rep : Tk → Bool
  | .star | .plus | .ivl => true
  | _ => false
def repHead (l : List Tk) : Bool := match l with
  | t :: _ => t.rep
  | [] => false
/-- What stands at a place. -/
def At (ere : Bool) (s : List UInt8) (k : Nat) (l : List Tk) : Prop := k ≤ s.length ∧ s.drop k = encs ere l
theorem drop_one {s : List UInt8} {k : Nat} {x : UInt8} {r : List UInt8} (h : s.drop k = x :: r) : k < s.length ∧ byt s k = x.toNat ∧ s.drop (k + 1) = r := by
  have hk : k < s.length := by
    rcases Nat.lt_or_ge k s.length with h1 | h1
    · exact h1
    · rw [List.drop_eq_nil_of_le h1] at h; cases h
  obtain ⟨h1, h2⟩ := byt_drop s k hk
  rw [h1] at h
  injection h with h3 h4
  exact ⟨hk, by rw [h2, h3], h4⟩
theorem at_nil {ere : Bool} {s : List UInt8} {k : Nat} (h : At ere s k []) : k = s.length := by
  have h2 := h.2
  have : (s.drop k).length = 0 := by rw [h2]; rfl
  rw [List.length_drop] at this
  have := h.1
  omega
theorem at_ch {ere : Bool} {s : List UInt8} {k : Nat} {t : Tk} {l : List Tk} (h : At ere s k (t :: l)) (c : Nat) : chAt s k c = decide ((if t.two && !ere then 92 else t.op) = c) := by
  have h2 := h.2
  rw [encs_cons] at h2
  cases t <;> cases ere <;> (
    simp only [Tk.enc, List.cons_append, List.nil_append, Bool.false_eq_true, if_false, if_true] at h2
    obtain ⟨h3, h4, _⟩ := drop_one h2
    unfold chAt
    rw [decide_eq_true h3, h4]
    rfl)
theorem at_es {s : List UInt8} {k : Nat} {t : Tk} {l : List Tk} (h : At false s k (t :: l)) (c : Nat) : esAt s k c = (t.two && decide (t.op = c)) := by
  have h2 := h.2
  rw [encs_cons] at h2
  cases t <;> (
    simp only [Tk.enc, List.cons_append, List.nil_append, Bool.false_eq_true, if_false] at h2
    obtain ⟨h3, h4, h5⟩ := drop_one h2
    first
      | (obtain ⟨h6, h7, _⟩ := drop_one h5
         unfold esAt
         rw [decide_eq_true h6, h4, h7]
         rfl)
      | (rw [es_no' (by rw [h4]; decide)]
         rfl))
theorem at_op {ere : Bool} {s : List UInt8} {k : Nat} {t : Tk} {l : List Tk} (h : At ere s k (t :: l)) (c : Nat) (ha : t.two = false → c ≠ t.op) : opAt ere s k c = (t.two && decide (t.op = c)) := by
  cases ere with
  | true =>
    show chAt s k c = _
    rw [at_ch h c]
    cases ht : t.two with
    | true => rfl
    | false => simp only [Bool.false_and, Bool.false_eq_true, if_false]; exact decide_eq_false (fun e => ha ht e.symm)
  | false => exact at_es h c
theorem at_op_nil {ere : Bool} {s : List UInt8} {k : Nat} (h : At ere s k []) (c : Nat) : opAt ere s k c = false := by
  have h1 := at_nil h
  cases ere
  · show esAt s k c = false
    unfold esAt
    rw [decide_eq_false (by omega)]
    rfl
  · show chAt s k c = false
    unfold chAt
    rw [decide_eq_false (by omega)]
    rfl
theorem at_ch_nil {ere : Bool} {s : List UInt8} {k : Nat} (h : At ere s k []) (c : Nat) : chAt s k c = false := by
  have h1 := at_nil h
  unfold chAt
  rw [decide_eq_false (by omega)]
  rfl
def Tk.len (ere : Bool) (t : Tk) : Nat := (t.enc ere).length
theorem at_next {ere : Bool} {s : List UInt8} {k : Nat} {t : Tk} {l : List Tk} (h : At ere s k (t :: l)) : At ere s (k + t.len ere) l := by
  obtain ⟨h1, h2⟩ := h
  rw [encs_cons] at h2
  have hl : (s.drop k).length = t.len ere + (encs ere l).length := by rw [h2, List.length_append]; rfl
  rw [List.length_drop] at hl
  refine ⟨by omega, ?_⟩
  rw [← List.drop_drop, h2, List.drop_left']
  rfl
theorem len_two {ere : Bool} {t : Tk} (h : t.two = true) (hi : t ≠ .ivl) : t.len ere = opLen ere := by cases t <;> cases ere <;> first | rfl | (cases h; done) | exact absurd rfl hi
theorem len_pos (ere : Bool) (t : Tk) : 0 < t.len ere := by cases t <;> cases ere <;> decide
theorem at_lt {ere : Bool} {s : List UInt8} {k : Nat} {t : Tk} {l : List Tk} (h : At ere s k (t :: l)) : k < s.length := by
  have h1 := (at_next h).1
  have h2 := len_pos ere t
  omega
/-- The bounds of an interval. -/
theorem at_ivl {ere : Bool} {s : List UInt8} {k : Nat} {l : List Tk} (h : At ere s k (.ivl :: l)) : intv ere s (k + opLen ere) = some (2, 3, k + Tk.len ere .ivl) := by
  have h2 := h.2
  rw [encs_cons] at h2
  rw [intv_drop, ← List.drop_drop, h2]
  cases ere
  · show (intv false (50 :: 44 :: 51 :: 92 :: 125 :: encs false l) 0).map _ = _
    have e : intv false (50 :: 44 :: 51 :: 92 :: 125 :: encs false l) 0 = some (2, 3, 5) := by
      simp [intv, numAt, digs, isDig, byt, chAt, esAt, opAt, opLen]
    rw [e]
    rfl
  · show (intv true (50 :: 44 :: 51 :: 125 :: encs true l) 0).map _ = _
    have e : intv true (50 :: 44 :: 51 :: 125 :: encs true l) 0 = some (2, 3, 4) := by
      simp [intv, numAt, digs, isDig, byt, chAt, opAt, opLen]
    rw [e]
    rfl
def Tk.mn : Tk → Int
  | .plus => 1
  | .ivl => 2
  | _ => 0
def Tk.mx : Tk → Int
  | .ivl => 3
  | _ => -1
theorem at_rep {ere : Bool} {s : List UInt8} {k : Nat} {t : Tk} {l : List Tk} (h : At ere s k (t :: l)) (hr : t.rep = true) : ∃ c, repAt ere s k = .some t.mn t.mx c (k + t.len ere) ∧ (ere = true → c = 0) := by
  have h42 := at_ch h 42
  unfold repAt
  cases t <;> first
    | (cases hr; done)
    | skip
  · rw [h42]
    refine ⟨0, ?_, fun _ => rfl⟩
    cases ere <;> rfl
  · rw [h42, at_op h 43 (fun e => by cases e)]
    refine ⟨if ere then 0 else 43, ?_, fun e => by rw [e]; rfl⟩
    cases ere <;> rfl
  · rw [h42, at_op h 43 (fun e => by cases e), at_op h 63 (fun e => by cases e), at_op h 123 (fun e => by cases e), at_ivl h]
    refine ⟨0, ?_, fun _ => rfl⟩
    cases ere <;> rfl
theorem at_norep {ere : Bool} {s : List UInt8} {k : Nat} {l : List Tk} (h : At ere s k l) (hr : repHead l = false) : repAt ere s k = .none := by
  unfold repAt
  cases l with
  | nil => rw [at_ch_nil h, at_op_nil h, at_op_nil h, at_op_nil h]; rfl
  | cons t l =>
    rw [at_ch h]
    cases t <;> first
      | (cases hr; done)
      | (rw [at_op h 43 (fun _ => by decide), at_op h 63 (fun _ => by decide), at_op h 123 (fun _ => by decide)]
         cases ere <;> rfl)
/-- Two readings of the same signs. -/
structure Rl (sB sE : List UInt8) (l : List Tk) (stB stE : ReSt) : Prop where
  b : At false sB stB.pos l
  e : At true sE stE.pos l
  opened : stB.opened = stE.opened
  closed : stB.closed = stE.closed
  marks : stE.marks = []
theorem sim_rep (sB sE : List UInt8) (dp : Nat) : ∀ (n : Nat) (l : List Tk) (stB stE : ReSt) (d : Nd) (mB mE : Nat), l.length < n → Rl sB sE l stB stE → sB.length < mB + stB.pos → sE.length < mE + stE.pos → wfT false dp l = true →
    ∃ stB' stE' d' l', repM false sB mB stB d = .ok (stB', d') ∧ repM true sE mE stE d = .ok (stE', d') ∧ Rl sB sE l' stB' stE' ∧ wfT false dp l' = true ∧ repHead l' = false ∧ l'.length ≤ l.length := by
  intro n
  induction n with
  | zero => intro l _ _ _ _ _ h; omega
  | succ n ih =>
    intro l stB stE d mB mE hn hR hB hE hw
    obtain ⟨mB, rfl⟩ : ∃ m, mB = m + 1 := ⟨mB - 1, by have := hR.b.1; omega⟩
    obtain ⟨mE, rfl⟩ : ∃ m, mE = m + 1 := ⟨mE - 1, by have := hR.e.1; omega⟩
    rw [repM, repM]
    cases hr : repHead l with
    | false => rw [at_norep hR.b hr, at_norep hR.e hr]; exact ⟨stB, stE, d, l, rfl, rfl, hR, hw, hr, Nat.le_refl _⟩
    | true =>
      cases l with
      | nil => cases hr
      | cons t l =>
        obtain ⟨cB, hcB, _⟩ := at_rep hR.b hr
        obtain ⟨cE, hcE, hc0⟩ := at_rep hR.e hr
        rw [hcB, hcE, hc0 rfl]
        have hw2 : wfT false dp l = true := by cases t <;> first | (cases hr; done) | exact hw
        have hpB := len_pos false t
        have hpE := len_pos true t
        have hR2 : Rl sB sE l ((if cB = 0 then stB else stB.mark cB).to (stB.pos + t.len false)) (stE.to (stE.pos + t.len true)) := ⟨at_next hR.b, at_next hR.e, by
          show (if cB = 0 then stB else stB.mark cB).opened = stE.opened
          split
          · exact hR.opened
          · exact hR.opened, by
          show (if cB = 0 then stB else stB.mark cB).closed = stE.closed
          split
          · exact hR.closed
          · exact hR.closed, hR.marks⟩
        obtain ⟨stB', stE', d', l', h1, h2, h3, h4, h5, h6⟩ := ih l _ _ (.rep d t.mn t.mx) mB mE (by simp at hn; omega) hR2 (by show _ < mB + (stB.pos + t.len false); omega) (by show _ < mE + (stE.pos + t.len true); omega) hw2
        exact ⟨stB', stE', d', l', h1, h2, h3, h4, h5, by simp; omega⟩
/-- How a group is read, so deep. -/
def lvS (ere : Bool) (s : List UInt8) : Nat → Option (ReSt → ReRes (ReSt × Nd))
  | 0 => none
  | k + 1 => some (regM ere s k)
theorem reg_lvS (ere : Bool) (s : List UInt8) (k : Nat) (st : ReSt) : regM ere s k st = choiceM ere s (lvS ere s k) false (s.length + 1) st [] := by cases k <;> rfl
theorem lvS_mv (ere : Bool) (s : List UInt8) (k : Nat) : SubMv s (lvS ere s k) := by
  cases k with
  | zero => exact fun f hf => (by cases hf)
  | succ k => exact fun f hf => (by injection hf with hf; subst hf; exact reg_mv ere s k)
/-- What may stand behind a regex, in a group so deep. -/
def EndC (dp : Nat) (l : List Tk) : Prop := (dp = 0 ∧ l = []) ∨ ∃ l', l = .cls :: l' ∧ 0 < dp ∧ wfT false (dp - 1) l' = true
def EndB (dp : Nat) (l : List Tk) : Prop := EndC dp l ∨ ∃ l', l = .bar :: l' ∧ wfT true dp l' = true
def SimC (sB sE : List UInt8) (k : Nat) : Prop := ∀ (dp : Nat) (n : Nat) (l : List Tk) (stB stE : ReSt) (ds : List Nd) (nB nE : Nat), dp + k = 12 → l.length < n → Rl sB sE l stB stE → sB.length < nB + stB.pos → sE.length < nE + stE.pos → wfT true dp l = true →
    ∃ stB' stE' d l', choiceM false sB (lvS false sB k) false nB stB ds = .ok (stB', d) ∧ choiceM true sE (lvS true sE k) false nE stE ds = .ok (stE', d) ∧ Rl sB sE l' stB' stE' ∧ EndC dp l' ∧ l'.length ≤ l.length
theorem sim_atom (sB sE : List UInt8) (k dp : Nat) (hk : dp + k = 12) (hC : ∀ j, k = j + 1 → SimC sB sE j) (t : Tk) (l : List Tk) (stB stE : ReSt) (hR : Rl sB sE (t :: l) stB stE) (hw : wfT false dp (t :: l) = true) (h1 : t ≠ .cls) (h2 : t ≠ .bar) (h3 : t.rep = false) :
    ∃ stB' stE' d l', atomM false sB (lvS false sB k) stB = .ok (stB', d) ∧ atomM true sE (lvS true sE k) stE = .ok (stE', d) ∧ Rl sB sE l' stB' stE' ∧ wfT false dp l' = true ∧ l'.length ≤ l.length := by
  have one : ∀ (c : Nat), t.two = false → t.op = c → (t = .a ∨ t = .b) → ∀ (ere : Bool) (s : List UInt8) (st : ReSt), At ere s st.pos (t :: l) → ∀ sub, atomM ere s sub st = .ok (st.to (st.pos + 1), .one (oSpan (c : Int) (c : Int))) := fun c ht hc hab ere s st hA sub => by
    have hch := fun x => at_ch hA x
    rw [ht] at hch
    simp only [Bool.false_and, Bool.false_eq_true, if_false, hc] at hch
    have hcc : c = 97 ∨ c = 98 := by rcases hab with rfl | rfl <;> simp [Tk.op] at hc <;> omega
    have hb : byt s st.pos = c := (ch_byt (show chAt s st.pos c = true by rw [hch]; simp)).2
    unfold atomM
    rw [at_op hA 40 (fun _ => by omega), at_op hA 41 (fun _ => by omega), ht, hch, hch, hch]
    simp only [Bool.false_and, Bool.false_eq_true, if_false]
    rw [decide_eq_false (by omega), decide_eq_false (by omega), decide_eq_false (by omega)]
    simp only [Bool.false_eq_true, if_false]
    rw [hb]
  have dot : t = .dot → ∀ (ere : Bool) (s : List UInt8) (st : ReSt), At ere s st.pos (t :: l) → ∀ sub, atomM ere s sub st = .ok (st.to (st.pos + 1), .one (oSpan 0 255)) := fun ht ere s st hA sub => by
    subst ht
    unfold atomM
    rw [at_op hA 40 (fun _ => by decide), at_op hA 41 (fun _ => by decide), at_ch hA, at_ch hA]
    rfl
  have hlen1 : ∀ ere, (t = .a ∨ t = .b ∨ t = .dot) → t.len ere = 1 := fun ere h => by rcases h with rfl | rfl | rfl <;> rfl
  have go : (t = .a ∨ t = .b ∨ t = .dot) → Rl sB sE l (stB.to (stB.pos + 1)) (stE.to (stE.pos + 1)) := fun h => by
    have hb := at_next hR.b
    have he := at_next hR.e
    rw [hlen1 _ h] at hb he
    exact ⟨hb, he, hR.opened, hR.closed, hR.marks⟩
  cases t with
  | a => exact ⟨_, _, _, l, one 97 rfl rfl (.inl rfl) _ _ _ hR.b _, one 97 rfl rfl (.inl rfl) _ _ _ hR.e _, go (.inl rfl), hw, Nat.le_refl _⟩
  | b => exact ⟨_, _, _, l, one 98 rfl rfl (.inr rfl) _ _ _ hR.b _, one 98 rfl rfl (.inr rfl) _ _ _ hR.e _, go (.inr (.inl rfl)), hw, Nat.le_refl _⟩
  | dot => exact ⟨_, _, _, l, dot rfl _ _ _ hR.b _, dot rfl _ _ _ hR.e _, go (.inr (.inr rfl)), hw, Nat.le_refl _⟩
  | cls => exact absurd rfl h1
  | bar => exact absurd rfl h2
  | star => cases h3
  | plus => cases h3
  | ivl => cases h3
  | opn =>
    have hw2 : (decide (dp < 12) && wfT true (dp + 1) l) = true := hw
    rw [Bool.and_eq_true, decide_eq_true_eq] at hw2
    obtain ⟨j, rfl⟩ : ∃ j, k = j + 1 := ⟨k - 1, by omega⟩
    have hbo := at_op hR.b 40 (fun e => by cases e)
    have heo := at_op hR.e 40 (fun e => by cases e)
    have hb1 := at_next hR.b
    have he1 := at_next hR.e
    rw [len_two rfl (fun e => by cases e)] at hb1 he1
    have hR1 : Rl sB sE l { stB with pos := stB.pos + opLen false, opened := stB.opened + 1 } { stE with pos := stE.pos + opLen true, opened := stE.opened + 1 } := ⟨hb1, he1, by show stB.opened + 1 = stE.opened + 1; rw [hR.opened], hR.closed, hR.marks⟩
    obtain ⟨stB', stE', d, l', g1, g2, g3, g4, g5⟩ := hC j rfl (dp + 1) (l.length + 1) l _ _ [] (sB.length + 1) (sE.length + 1) (by omega) (Nat.lt_succ_self _) hR1 (by show _ < _ + (stB.pos + opLen false); omega) (by show _ < _ + (stE.pos + opLen true); omega) hw2.2
    rw [← reg_lvS] at g1 g2
    rcases g4 with ⟨h0, _⟩ | ⟨l'', rfl, _, hw3⟩
    · omega
    · have hbc := at_op g3.b 41 (fun e => by cases e)
      have hec := at_op g3.e 41 (fun e => by cases e)
      have hb2 := at_next g3.b
      have he2 := at_next g3.e
      rw [len_two rfl (fun e => by cases e)] at hb2 he2
      refine ⟨{ stB' with pos := stB'.pos + opLen false, closed := stB'.closed ++ [(stB.opened : Int) + 1] }, { stE' with pos := stE'.pos + opLen true, closed := stE'.closed ++ [(stB.opened : Int) + 1] }, .group ((stB.opened : Int) + 1) d, l'', ?_, ?_, ⟨hb2, he2, g3.opened, by show stB'.closed ++ _ = stE'.closed ++ _; rw [g3.closed], g3.marks⟩, hw3, by simp at g5; omega⟩
      · unfold atomM
        rw [hbo]
        show grpM false sB (some (regM false sB j)) stB = _
        unfold grpM
        simp only
        rw [g1]
        simp only
        rw [hbc]
        rfl
      · unfold atomM
        rw [heo]
        show grpM true sE (some (regM true sE j)) stE = _
        unfold grpM
        simp only
        rw [g2]
        simp only
        rw [hec, ← hR.opened]
        rfl
theorem sim_branch (sB sE : List UInt8) (k dp : Nat) (hk : dp + k = 12) (hC : ∀ j, k = j + 1 → SimC sB sE j) (bB bE : Nat) : ∀ (n : Nat) (l : List Tk) (stB stE : ReSt) (parts : List Nd) (front : Bool) (nB nE : Nat), l.length < n → Rl sB sE l stB stE → sB.length < nB + stB.pos → sE.length < nE + stE.pos → wfT front dp l = true → repHead l = false →
    ∃ stB' stE' d l', branchM false sB (lvS false sB k) false bB nB stB parts front = .ok (stB', d) ∧ branchM true sE (lvS true sE k) false bE nE stE parts front = .ok (stE', d) ∧ Rl sB sE l' stB' stE' ∧ EndB dp l' ∧ l'.length ≤ l.length := by
  intro n
  induction n with
  | zero => intro l _ _ _ _ _ _ h; omega
  | succ n ih =>
    intro l stB stE parts front nB nE hn hR hB hE hw hrh
    obtain ⟨nB, rfl⟩ : ∃ m, nB = m + 1 := ⟨nB - 1, by have := hR.b.1; omega⟩
    obtain ⟨nE, rfl⟩ : ∃ m, nE = m + 1 := ⟨nE - 1, by have := hR.e.1; omega⟩
    rw [branchM, branchM]
    cases l with
    | nil =>
      have hb := at_nil hR.b
      have he := at_nil hR.e
      rw [decide_eq_true (by omega : sB.length ≤ stB.pos), decide_eq_true (by omega : sE.length ≤ stE.pos)]
      exact ⟨stB, stE, njoin parts, [], rfl, rfl, hR, .inl (.inl ⟨by simpa [wfT] using hw, rfl⟩), Nat.le_refl _⟩
    | cons t l =>
      have hb := at_lt hR.b
      have he := at_lt hR.e
      rw [decide_eq_false (by omega : ¬ sB.length ≤ stB.pos), decide_eq_false (by omega : ¬ sE.length ≤ stE.pos)]
      by_cases hcls : t = .cls
      · subst hcls
        rw [at_op hR.b 124 (fun e => by cases e), at_op hR.e 124 (fun e => by cases e), at_op hR.b 41 (fun e => by cases e), at_op hR.e 41 (fun e => by cases e)]
        have hw2 : (decide (0 < dp) && wfT false (dp - 1) l) = true := hw
        rw [Bool.and_eq_true, decide_eq_true_eq] at hw2
        exact ⟨stB, stE, njoin parts, _, rfl, rfl, hR, .inl (.inr ⟨l, rfl, hw2.1, hw2.2⟩), Nat.le_refl _⟩
      by_cases hbar : t = .bar
      · subst hbar
        rw [at_op hR.b 124 (fun e => by cases e), at_op hR.e 124 (fun e => by cases e)]
        exact ⟨stB, stE, njoin parts, _, rfl, rfl, hR, .inr ⟨l, rfl, hw⟩, Nat.le_refl _⟩
      have hno : ∀ (ere : Bool) (s : List UInt8) (p : Nat), At ere s p (t :: l) → opAt ere s p 124 = false ∧ opAt ere s p 41 = false ∧ chAt s p 94 = false ∧ chAt s p 36 = false ∧ opAt ere s p 123 = false ∧ opAt ere s p 43 = false ∧ opAt ere s p 63 = false ∧ (ere && chAt s p 42) = false := fun ere s p hA => by
        rw [at_op hA 124 (fun e => by cases t <;> first | decide | cases e), at_op hA 41 (fun e => by cases t <;> first | decide | cases e), at_ch hA, at_ch hA, at_op hA 123 (fun e => by cases t <;> first | decide | cases e), at_op hA 43 (fun e => by cases t <;> first | decide | cases e), at_op hA 63 (fun e => by cases t <;> first | decide | cases e), at_ch hA]
        cases t <;> first
          | exact absurd rfl hcls
          | exact absurd rfl hbar
          | (cases hrh; done)
          | (cases ere <;> exact ⟨rfl, rfl, rfl, rfl, rfl, rfl, rfl, rfl⟩)
      have hwf : wfT false dp (t :: l) = true := by cases t <;> first | exact hw | (cases hrh; done)
      obtain ⟨b1, b2, b3, b4, b5, b6, b7, b8⟩ := hno _ _ _ hR.b
      obtain ⟨e1, e2, e3, e4, e5, e6, e7, e8⟩ := hno _ _ _ hR.e
      obtain ⟨sB1, sE1, d1, l1, a1, a2, a3, a4, a5⟩ := sim_atom sB sE k dp hk hC t l stB stE hR hwf hcls hbar hrh
      obtain ⟨sB2, sE2, d2, l2, r1, r2, r3, r4, r5, r6⟩ := sim_rep sB sE dp (l1.length + 1) l1 sB1 sE1 d1 (sB.length + 1) (sE.length + 1) (Nat.lt_succ_self _) a3 (by omega) (by omega) a4
      have mB1 := atom_mv false sB _ (lvS_mv false sB k) stB sB1 d1 hb a1
      have mE1 := atom_mv true sE _ (lvS_mv true sE k) stE sE1 d1 he a2
      have mB2 := repM_mv false sB _ sB1 d1 sB2 d2 mB1.2 r1
      have mE2 := repM_mv true sE _ sE1 d1 sE2 d2 mE1.2 r2
      obtain ⟨sB3, sE3, d3, l3, c1, c2, c3, c4, c5⟩ := ih l2 sB2 sE2 (parts ++ [d2]) false nB nE (by simp at hn; omega) r3 (by omega) (by omega) r4 r5
      refine ⟨sB3, sE3, d3, l3, ?_, ?_, c3, c4, by simp; omega⟩
      · rw [b1, b2, b3, b4, b5, b6, b7, b8, a1]
        simp only [Bool.false_and, Bool.or_false, Bool.and_false, Bool.false_eq_true, if_false]
        rw [r1]
        exact c1
      · rw [e1, e2, e3, e4, e5, e6, e7, e8, a2]
        simp only [Bool.false_and, Bool.or_false, Bool.and_false, Bool.false_eq_true, if_false]
        rw [r2]
        exact c2
theorem sim_choice (sB sE : List UInt8) (k : Nat) (hC : ∀ j, k = j + 1 → SimC sB sE j) : SimC sB sE k := by
  intro dp n
  induction n with
  | zero => intro l _ _ _ _ _ _ h; omega
  | succ n ih =>
    intro l stB stE ds nB nE hk hn hR hB hE hw
    obtain ⟨nB, rfl⟩ : ∃ m, nB = m + 1 := ⟨nB - 1, by have := hR.b.1; omega⟩
    obtain ⟨nE, rfl⟩ : ∃ m, nE = m + 1 := ⟨nE - 1, by have := hR.e.1; omega⟩
    rw [choiceM, choiceM]
    have hrh : repHead l = false := by
      cases l with
      | nil => rfl
      | cons t l => cases t <;> first | rfl | (cases hw; done)
    obtain ⟨sB1, sE1, d1, l1, b1, b2, b3, b4, b5⟩ := sim_branch sB sE k dp hk hC stB.pos stE.pos (l.length + 1) l stB stE [] true (sB.length + 1) (sE.length + 1) (Nat.lt_succ_self _) hR (by omega) (by omega) hw hrh
    rw [b1, b2]
    simp only
    rcases b4 with h4 | ⟨l2, rfl, hw2⟩
    · have h124 : ∀ (ere : Bool) (s : List UInt8) (p : Nat), At ere s p l1 → opAt ere s p 124 = false := fun ere s p hA => by
        rcases h4 with ⟨_, rfl⟩ | ⟨l', rfl, _⟩
        · exact at_op_nil hA 124
        · rw [at_op hA 124 (fun e => by cases e)]; rfl
      rw [h124 _ _ _ b3.b, h124 _ _ _ b3.e]
      exact ⟨sB1, sE1, _, l1, rfl, rfl, b3, h4, b5⟩
    · rw [at_op b3.b 124 (fun e => by cases e), at_op b3.e 124 (fun e => by cases e)]
      have hb := at_next b3.b
      have he := at_next b3.e
      have lB := at_lt b3.b
      have lE := at_lt b3.e
      rw [len_two rfl (fun e => by cases e)] at hb he
      have hmB := branch_mv false sB _ (lvS_mv false sB k) _ _ _ _ _ _ _ _ hR.b.1 b1
      have hmE := branch_mv true sE _ (lvS_mv true sE k) _ _ _ _ _ _ _ _ hR.e.1 b2
      have hR2 : Rl sB sE l2 ((sB1.mark 124).to (sB1.pos + opLen false)) (sE1.to (sE1.pos + opLen true)) := ⟨hb, he, b3.opened, b3.closed, b3.marks⟩
      have hl0 : opLen false = 2 := rfl
      have hl1 : opLen true = 1 := rfl
      obtain ⟨sB2, sE2, d2, l3, c1, c2, c3, c4, c5⟩ := ih l2 _ _ (ds ++ [d1]) nB nE hk (by simp at b5; omega) hR2 (by show _ < nB + (sB1.pos + opLen false); omega) (by show _ < nE + (sE1.pos + opLen true); omega) hw2
      exact ⟨sB2, sE2, d2, l3, c1, c2, c3, c4, by simp at b5; omega⟩
theorem sim_all (sB sE : List UInt8) : ∀ k, SimC sB sE k := by
  intro k
  induction k with
  | zero => exact sim_choice sB sE 0 (fun j hj => by omega)
  | succ k ih => exact sim_choice sB sE (k + 1) (fun j hj => by obtain rfl : k = j := Nat.succ.inj hj; exact ih)
theorem enc_le (t : Tk) : t.len true ≤ t.len false := by cases t <;> decide
theorem encs_le (l : List Tk) : (encs true l).length ≤ (encs false l).length := by
  induction l with
  | nil => exact Nat.le_refl _
  | cons t l ih =>
    rw [encs_cons, encs_cons, List.length_append, List.length_append]
    have := enc_le t
    unfold Tk.len at this
    omega
/-- Both ways have one tree. -/
theorem turned_parse (l : List Tk) (hw : wfT true 0 l = true) (hl : (encs false l).length ≤ 250) : ∃ stB stE d, parseM false (encs false l) = .ok (stB, d) ∧ parseM true (encs true l) = .ok (stE, d) ∧ stE.marks = [] := by
  have hle := encs_le l
  rw [parse_shut false _ hl, parse_shut true _ (by omega)]
  have hR : Rl (encs false l) (encs true l) l reZero reZero := ⟨⟨Nat.zero_le _, rfl⟩, ⟨Nat.zero_le _, rfl⟩, rfl, rfl, rfl⟩
  obtain ⟨stB, stE, d, l', h1, h2, h3, h4, _⟩ := sim_all (encs false l) (encs true l) 12 0 (l.length + 1) l reZero reZero [] ((encs false l).length + 1) ((encs true l).length + 1) rfl (Nat.lt_succ_self _) hR (Nat.lt_succ_self _) (Nat.lt_succ_self _) hw
  rcases h4 with ⟨_, rfl⟩ | ⟨_, _, h0, _⟩
  · refine ⟨stB, stE, d, ?_, ?_, h3.marks⟩
    · show shutR false _ (choiceM false _ (lvS false _ 12) false _ _ _) = _
      rw [h1]
      unfold shutR
      simp only
      rw [at_op_nil h3.b]
      rfl
    · show shutR true _ (choiceM true _ (lvS true _ 12) false _ _ _) = _
      rw [h2]
      unfold shutR
      simp only
      rw [at_op_nil h3.e]
      rfl
  · omega
end Go.Proofs.Ytjjhkagpoicimaa
