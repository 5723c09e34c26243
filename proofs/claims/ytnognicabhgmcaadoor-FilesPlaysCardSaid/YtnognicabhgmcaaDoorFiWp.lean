/- Two tables that lie apart; how many lines there are. -/
import Derived.Test.YtnognicabhgmcaaDoorFiWn
import Derived.Test.YtnognicabhgmcaaDoorFiWi
namespace Go.Proofs.YtnognicabhgmcaaDoor
open Go Go.RowKit

theorem put_mem2 {n : List UInt8} {x : List (List UInt8)} : ∀ {l : List Fl} {g : Fl}, g ∈ put n x l → g = (n, x) ∨ g ∈ l
  | [], g, h => by simp [put] at h; exact .inl h
  | f :: l, g, h => by
    unfold put at h
    split at h
    · rcases List.mem_cons.1 h with rfl | h
      · exact .inr (by simp)
      · exact (put_mem2 h).imp id fun h => by simp [h]
    split at h
    · rcases List.mem_cons.1 h with rfl | h
      · exact .inl rfl
      · exact .inr (by simp [h])
    · rcases List.mem_cons.1 h with rfl | h
      · exact .inl rfl
      · exact .inr h
/-- No file has more than K lines. -/
def LnFew (K : Nat) (l : List Fl) : Prop := ∀ f ∈ l, f.2.length ≤ K
theorem LnFew.gl {K : Nat} : ∀ {l : List Fl}, LnFew K l → ∀ x, (gl l x).length ≤ K
  | [], _, _ => Nat.zero_le _
  | f :: l, h, x => by
    unfold Go.Proofs.YtnognicabhgmcaaDoor.gl fLines
    by_cases e : f.1 = x
    · rw [if_pos e]; exact h f (by simp)
    · rw [if_neg e]; exact LnFew.gl (l := l) (fun g hg => h g (by simp [hg])) x
theorem LnFew.put {K : Nat} {l : List Fl} (h : LnFew K l) {n : List UInt8} {x : List (List UInt8)} (hx : x.length ≤ K) : LnFew K (put n x l) := fun g hg => by
  rcases put_mem2 hg with rfl | hg
  · exact hx
  · exact h g hg
theorem LnFew.more {K M : Nat} {l : List Fl} (h : LnFew K l) (hK : K ≤ M) : LnFew M l := fun g hg => Nat.le_trans (h g hg) hK
theorem LnFew.add {K : Nat} {l : List Fl} (h : LnFew K l) (hs : Srt l) (n t : List UInt8) : LnFew (K + t.length + 1) (fAdd l n t) := by
  unfold fAdd
  rw [fPut_put hs]
  refine LnFew.put (h.more (by omega)) ?_
  have h1 := h.gl n
  have h2 := cut_len t
  unfold Go.Proofs.YtnognicabhgmcaaDoor.gl at h1
  rw [List.length_append]
  omega
theorem new_few {fs : List Fl} (h : FsFew fs) : LnFew 40000 (fNew fs) := by
  have hr : ∀ (l out : List Fl), (∀ f ∈ l, f.2.length ≤ 30 ∧ ∀ x ∈ f.2, x.length ≤ 100) → Srt out → LnFew 40000 out → LnFew 40000 (fNewRun l out) := fun l => by
    induction l with
    | nil => intro out _ _ h; exact h
    | cons f l ih =>
      intro out hl hs ho
      refine ih _ (fun g hg => hl g (by simp [hg])) (fPut_srt hs _ _) ?_
      rw [fPut_put hs]
      refine ho.put ?_
      have h1 := flat_len f.2 fun x hx => Nat.le_trans ((hl f (by simp)).2 x hx) (by decide)
      have h2 := (hl f (by simp)).1
      omega
  exact hr fs [] (fun f hf => (h.2 f hf).2) List.Pairwise.nil fun f hf => by cases hf
/-- Two tables, apart. -/
def Two (B p1 p2 n m : Nat) (l k : List Fl) (w : World) : Prop := ∃ F G : Nat → Prop, FT F p1 n l w ∧ FT G p2 m k w ∧ (∀ b, F b → ¬ G b) ∧ (∀ b, F b → B ≤ b ∧ b < w.heap.size) ∧ (∀ b, G b → B ≤ b ∧ b < w.heap.size) ∧ B ≤ w.heap.size
variable {B p1 p2 n m : Nat} {l k : List Fl} {w w' : World}
theorem Two.swap (h : Two B p1 p2 n m l k w) : Two B p2 p1 m n k l w := by
  obtain ⟨F, G, h1, h2, h3, h4, h5, h6⟩ := h
  exact ⟨G, F, h2, h1, fun b g f => h3 b f g, h5, h4, h6⟩
theorem Two.below (h : Two B p1 p2 n m l k w) (hb : Below w.heap.size w w') : Two B p1 p2 n m l k w' := by
  obtain ⟨F, G, h1, h2, h3, h4, h5, h6⟩ := h
  exact ⟨F, G, h1.below hb, h2.below hb, h3, fun b f => ⟨(h4 b f).1, Nat.lt_of_lt_of_le (h4 b f).2 hb.size⟩, fun b g => ⟨(h5 b g).1, Nat.lt_of_lt_of_le (h5 b g).2 hb.size⟩, Nat.le_trans h6 hb.size⟩
theorem Two.made {w1 w2 w3 : World} (h1 : FT (fun b => w1.heap.size ≤ b) p1 n l w2) (h2 : FT (fun b => w2.heap.size ≤ b) p2 m k w3) (hb1 : B ≤ w1.heap.size) (hb2 : w1.heap.size ≤ w2.heap.size) (hb : Below w2.heap.size w2 w3) : Two B p1 p2 n m l k w3 :=
  ⟨fun b => w1.heap.size ≤ b ∧ b < w2.heap.size, fun b => w2.heap.size ≤ b ∧ b < w3.heap.size, (h1.wider fun b hl h => ⟨h, hl⟩).below hb, h2.wider fun b hl h => ⟨h, hl⟩, fun b h g => by omega, fun b h => ⟨by omega, Nat.lt_of_lt_of_le h.2 hb.size⟩, fun b h => ⟨by omega, h.2⟩, by have := hb.size; omega⟩
theorem Two.lines (h : Two B p1 p2 n m l k w) (x : List UInt8) (hx : x.length ≤ 1000) {K : Nat} (hl : LnFew K l) (hK : K ≤ 100000) : Calls Tryd.prog 20 #[.pointer (some ⟨p1, 0, none⟩), .string (txt x)] w fun e w' => ∃ v', e = .returned v' ∧ LnNew w (gl l x) v' w' := by
  obtain ⟨F, G, ⟨mp, V, h1⟩, _⟩ := h
  exact filines_any x h1 (by unfold maxLen; omega) (Nat.le_trans (hl.gl x) (by omega))
theorem Two.list (h : Two B p1 p2 n m l k w) (hn : n ≤ 1000) {K : Nat} (hl : LnFew K l) (hK : K ≤ 100000) : Calls Tryd.prog 19 #[.pointer (some ⟨p1, 0, none⟩)] w fun e w' => ∃ v, e = .returned v ∧ FsOwn 45 (fun b => w.heap.size ≤ b) w' w.heap.size v l ∧ Below w.heap.size w w' := by
  obtain ⟨F, G, ⟨mp, V, h1⟩, _⟩ := h
  exact filist_any h1 hn (hl.more hK)
theorem Two.add (h : Two B p1 p2 n m l k w) (x : List UInt8) (s : ByteArray) (hx : x.length ≤ 1000) (hs : s.size ≤ 1000) (hn : n ≤ 1000) {K : Nat} (hl : LnFew K l) (hK : K ≤ 100000) (hG : GM w) :
    Calls Tryd.prog 10 #[.pointer (some ⟨p1, 0, none⟩), .string (txt x), .string s] w fun e w' => e = .returned (.tuple #[]) ∧ Two B p1 p2 (n + 1) m (fAdd l x s.data.toList) k w' ∧ Below B w w' := by
  obtain ⟨F, G, ⟨mp, V, h1⟩, h2, h3, h4, h5, h6⟩ := h
  refine (fiadd_any x s h1 (by unfold maxLen; omega) (by unfold maxLen; omega) (Nat.le_trans (hl.gl x) hK) hs hG).mono ?_
  rintro e w' ⟨rfl, V', h7, ht⟩
  refine ⟨rfl, ⟨fun b => (F b ∨ w.heap.size ≤ b) ∧ b < w'.heap.size, G, ⟨mp, V', h7.wider fun b hl h => ⟨h, hl⟩⟩, h2.turn ht fun b _ g f => h3 b f g, fun b hb g => ?_, fun b hb => ⟨?_, hb.2⟩, fun b g => ⟨(h5 b g).1, Nat.lt_of_lt_of_le (h5 b g).2 ht.size⟩, Nat.le_trans h6 ht.size⟩, ht.below h6 fun b f => (h4 b f).1⟩
  · rcases hb.1 with f | hl
    · exact h3 b f g
    · have := (h5 b g).2; omega
  · rcases hb.1 with f | hl
    · exact (h4 b f).1
    · omega
theorem Two.len (h : Two B p1 p2 n m l k w) : l.length ≤ n := by
  obtain ⟨F, G, ⟨mp, V, h1⟩, _⟩ := h
  obtain ⟨D, hown, hhas, _⟩ := h1.own
  rw [← List.length_map (f := fun x : Fl => x.1), (own_keys hown h1.srt hhas).length_eq, keys_size hown.isMap]
  exact hown.size_le
theorem Two.srt (h : Two B p1 p2 n m l k w) : Srt l := by
  obtain ⟨F, G, h1, _⟩ := h
  exact FT.srt h1
end Go.Proofs.YtnognicabhgmcaaDoor
