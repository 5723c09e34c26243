/- The reader's pieces, any; a row of nodes beside the reader. -/
import Derived.Test.YtbbcjclkklmoaaaDoorRdIJ
import Derived.Test.YtbbcjclkklmoaaaDoorMaC
import Derived.Test.YtbbcjclkklmoaaaDoorNdJoin
namespace Go.Proofs.YtbbcjclkklmoaaaDoor
open Go Go.RowKit

theorem ends_lt {s : List UInt8} {k : Nat} (h : endsAt s k = false) : k < s.length := by
  unfold endsAt at h
  simp only [Bool.or_eq_false_iff, decide_eq_false_iff_not] at h
  omega
theorem atom_any {B p : Nat} {s : ByteArray} {st : ReSt} {es : List Bool} {dep : Nat} {mv cv : Value} (w : World) (h : Rd B p w s st es dep mv cv) (hen : endsAt s.data.toList st.pos = false) (front : Bool) (hfr : front = true ∨ repAt false s.data.toList st.pos = .none)
    (sub : Option (ReSt → ReRes (ReSt × Nd))) (hG : Gl w) (hB : 3 ≤ B) (hgr : GroupOk B p s st es dep sub) :
    Calls Tryd.prog 90 #[.pointer (some ⟨p, 0, none⟩)] w fun e w' => NdAns (atomF s.data.toList sub front st) B p s dep mv cv w e w' := by
  have hsl : s.data.toList.length = s.size := by simp
  have hlt := ends_lt hen
  rw [hsl] at hlt
  by_cases h92 : byt s.data.toList st.pos = 92
  · exact atom_back w h hlt h92 front hfr hen sub hG hB hgr
  · rw [atomF_plain h92]
    by_cases h91 : byt s.data.toList st.pos = 91
    · rw [ch_yes (by omega) h91, if_pos rfl]
      exact atom_set w h hlt h91 hG hB
    · rw [ch_no h91]
      simp only [Bool.false_eq_true, if_false]
      by_cases h46 : byt s.data.toList st.pos = 46
      · rw [ch_yes (by omega) h46, if_pos rfl]
        exact atom_dot w h hlt h46
      · rw [ch_no h46]
        simp only [Bool.false_eq_true, if_false]
        exact atom_plain w h hlt h46 h91 h92
theorem piece_any {B p : Nat} {s : ByteArray} {st : ReSt} {es : List Bool} {dep : Nat} {mv cv : Value} (w : World) (h : Rd B p w s st es dep mv cv) (hen : endsAt s.data.toList st.pos = false) (front : Bool) (hfr : front = true ∨ repAt false s.data.toList st.pos = .none)
    (sub : Option (ReSt → ReRes (ReSt × Nd))) (hG : Gl w) (hB : 3 ≤ B) (hgr : GroupOk B p s st es dep sub) :
    Calls Tryd.prog 74 #[.pointer (some ⟨p, 0, none⟩)] w fun e w' => NdAns (pieceM s.data.toList sub front st) B p s dep mv cv w e w' := by
  have hsl : s.data.toList.length = s.size := by simp
  have hlt := ends_lt hen
  rw [hsl] at hlt
  unfold pieceM
  cases hq : (chAt s.data.toList st.pos 36 && endsAt s.data.toList (st.pos + 1)) with
  | true => exact piece_fin w h hlt hq
  | false =>
    exact piece_atom w h hlt hq _ (fun n => atom_any (w.drewN n) (h.below (below_drewN (Below.refl _ _) n)) hen front hfr sub (hG.up (below_drewN (Below.refl _ _) n)) hB hgr)
/-- What a piece is. -/
theorem piece_math (s : List UInt8) (sub : Option (ReSt → ReRes (ReSt × Nd))) (hmv : SubMv s sub) (hok : SubOk sub) (front : Bool) (st st' : ReSt) (d : Nd) (hl : st.pos < s.length) (h : pieceM s sub front st = .ok (st', d)) :
    st.pos < st'.pos ∧ inCat d = true ∧ ((chAt s st.pos 36 && endsAt s (st.pos + 1)) = true ∨ repAt false s st'.pos = .none) := by
  unfold pieceM at h
  split at h
  · rename_i hq
    injection h with h
    injection h with h1 h2
    subst h1 h2
    exact ⟨show st.pos < st.pos + 1 by omega, rfl, .inl hq⟩
  · unfold repsOf at h
    split at h
    · cases h
    · rename_i q hq
      obtain ⟨st1, d1⟩ := q
      unfold atomF at hq
      split at hq
      · cases hq
      · have h1 := atom_mv _ _ _ hmv _ _ _ hl hq
        have h2 := atom_takes _ _ _ hok _ _ _ hq
        have h3 := repM_mv _ _ _ _ _ _ _ h1.2 h
        have h4 := repM_takes _ _ _ _ _ _ _ st h2.1 h2.2.1 h2.2.2 h
        exact ⟨by omega, h4.2, .inr (repM_end _ _ _ _ _ _ _ h)⟩
theorem branch_end (s : List UInt8) (sub : Option (ReSt → ReRes (ReSt × Nd))) (begin n : Nat) (st : ReSt) (parts : List Nd) (front : Bool) (h : endsAt s st.pos = true) : branchM false s sub false begin (n + 1) st parts front = .ok (st, njoin parts) := by
  rw [branchM]
  unfold endsAt at h
  simp only [opAt, Bool.false_eq_true, if_false, Bool.not_false, Bool.and_true]
  rw [h, if_pos rfl]
theorem branch_start (s : List UInt8) (sub : Option (ReSt → ReRes (ReSt × Nd))) (n : Nat) (st : ReSt) (h : endsAt s st.pos = false) (h94 : chAt s st.pos 94 = true) : branchM false s sub false st.pos (n + 1) st [] true = branchM false s sub false st.pos n (st.to (st.pos + 1)) [.start] true := by
  rw [branchM]
  unfold endsAt at h
  simp only [opAt, Bool.false_eq_true, if_false, Bool.not_false, Bool.and_true]
  rw [h, h94]
  simp
theorem branch_step (s : List UInt8) (sub : Option (ReSt → ReRes (ReSt × Nd))) (begin n : Nat) (st : ReSt) (parts : List Nd) (front : Bool) (h : endsAt s st.pos = false) (h94 : (chAt s st.pos 94 && decide (st.pos = begin)) = false) :
    branchM false s sub false begin (n + 1) st parts front = match pieceM s sub front st with
      | .error e => .error e
      | .ok q => branchM false s sub false begin n q.1 (parts ++ [q.2]) (chAt s st.pos 36 && endsAt s (st.pos + 1)) := by
  rw [branchM]
  have h' := h
  unfold endsAt at h'
  simp only [opAt, Bool.false_eq_true, if_false, Bool.not_false, Bool.and_true, Bool.false_or]
  rw [h', h94]
  simp only [Bool.false_eq_true, if_false]
  unfold pieceM
  cases hq : (chAt s st.pos 36 && endsAt s (st.pos + 1)) with
  | true => simp
  | false =>
    simp only [Bool.false_eq_true, if_false]
    unfold repsOf atomF
    simp only [opAt, Bool.false_eq_true, if_false, Bool.false_and, Bool.or_false]
    cases hf : (front && (esAt s st.pos 123 || esAt s st.pos 43 || esAt s st.pos 63)) with
    | true => simp
    | false =>
      simp only [Bool.false_eq_true, if_false]
      cases atomM false s sub st with
      | error e => rfl
      | ok q =>
        obtain ⟨st1, d⟩ := q
        simp only
        cases repM false s (s.length + 1) st1 d with
        | error e => rfl
        | ok q2 => rfl
/-- A row of nodes that the call makes itself, beside the reader. -/
structure NdRO (lo p : Nat) (mv cv : Value) (w : World) (l : List Nd) (v : Value) (us : List Value) : Prop where
  len : us.length = l.length
  row : w.ownsRow lo 25 1 v l.length us
  nd : ∀ i (h : i < l.length) (h2 : i < us.length), NdX (fun b => lo ≤ b ∧ OffR p mv cv b ∧ v.ownBlock ≠ some b) w l[i] us[i]
  one : ∀ u ∈ us, u.oneCell' = true
  off : ∀ b, v.ownBlock = some b → OffR p mv cv b
theorem NdRO.nil (lo p : Nat) (mv cv : Value) (w : World) : NdRO lo p mv cv w [] (.slice none 0 0) [] :=
  ⟨rfl, World.ownsRow_nil _ _ _ _, fun i h => absurd h (by simp), fun u h => absurd h (by simp), fun b h => by simp [Value.ownBlock] at h⟩
theorem NdRO.step {lo p : Nat} {mv cv mv' cv' : Value} {w w' : World} {l : List Nd} {v : Value} {us : List Value} (h : NdRO lo p mv cv w l v us) (hS : RStep p w mv cv w' mv' cv') : NdRO lo p mv' cv' w' l v us := by
  have hoff := h.off
  refine ⟨h.len, ?_, fun i h1 h2 => (h.nd i h1 h2).keep hS.size (fun b hb hlt => ⟨⟨hb.1, (hS.keep b hb.2.1 hlt).1, hb.2.2⟩, (hS.keep b hb.2.1 hlt).2⟩), h.one, fun b hb => ?_⟩
  · obtain ⟨h1, h2⟩ := h.row
    refine ⟨h1, ?_⟩
    rcases h2 with h2 | ⟨g, cap, cur, a, b, c, d⟩
    · exact .inl h2
    · have ho := hoff g (by rw [a]; rfl)
      exact .inr ⟨g, cap, cur, a, b, by rw [(hS.block g (Array.getElem?_eq_some_iff.1 c).1 ho.1 ho.2.1 ho.2.2).1]; exact c, d⟩
  · exact (hS.keep b (h.off b hb) (h.row.lt b hb).2).1
/-- A row of another kind has grown. -/
theorem Rd.grown {B p : Nat} {w w' : World} {s : ByteArray} {st : ReSt} {es : List Bool} {dep : Nat} {mv cv : Value} {row : Option Nat} (h : Rd B p w s st es dep mv cv) (hg : w.grownBy w' row) (hrow : ∀ b, row = some b → OffR p mv cv b) : Rd B p w' s st es dep mv cv := by
  have hne : ∀ v : Value, (∀ b, row = some b → v.ownBlock ≠ some b) → v.ownBlock = none ∨ v.ownBlock ≠ row := fun v hv => by
    rcases hr : v.ownBlock with _ | b
    · exact .inl rfl
    · refine .inr (fun e => ?_)
      exact hv b e.symm hr
  refine { h with blk := ?_, mo := h.mo.kept hg (hne _ fun b hb => (hrow b hb).2.1), co := h.co.kept hg (hne _ fun b hb => (hrow b hb).2.2) }
  have h1 := h.blk
  unfold Blk at h1 ⊢
  rw [hg.block p h.blk.lt (fun e => (hrow p e.symm).1 rfl)]
  exact h1
theorem RStep.after {p : Nat} {w w1 w2 : World} {mv cv mv1 cv1 : Value} (h : RStep p w mv cv w1 mv1 cv1) (hb : Below w.heap.size w1 w2) : RStep p w mv cv w2 mv1 cv1 :=
  ⟨hb.os.trans h.os, hb.tape.trans h.tape, hb.output.trans h.output, Nat.le_trans h.size hb.size, fun b hlt h1 h2 h3 => by
    obtain ⟨e1, e2, e3⟩ := h.block b hlt h1 h2 h3
    exact ⟨(hb.block b hlt).trans e1, e2, e3⟩⟩
/-- One node more. -/
theorem NdRO.push {B lo p : Nat} {mv cv : Value} {w w' : World} {l : List Nd} {v v' : Value} {us : List Value} {d : Nd} {u : Value} {s : ByteArray} {st : ReSt} {es : List Bool} {dep : Nat} (h : NdRO lo p mv cv w l v us) (hR : Rd B p w s st es dep mv cv)
    (hu : NdX (fun b => lo ≤ b ∧ OffR p mv cv b ∧ v.ownBlock ≠ some b) w d u) (hu1 : u.oneCell' = true) (hown : w'.ownsRow lo 25 1 v' (l.length + 1) (us ++ [u])) (hg : w.grownBy w' v.ownBlock) (hat : v'.ownBlock = v.ownBlock ∨ v'.ownBlock = some w.heap.size) : NdRO lo p mv cv w' (l ++ [d]) v' (us ++ [u]) := by
  have hpl := hR.blk.lt
  have hml := fun b hb => own_lt' hR.mo b hb
  have hcl := fun b hb => own_lt' hR.co b hb
  have hk : ∀ d u, NdX (fun b => lo ≤ b ∧ OffR p mv cv b ∧ v.ownBlock ≠ some b) w d u → NdX (fun b => lo ≤ b ∧ OffR p mv cv b ∧ v'.ownBlock ≠ some b) w' d u := fun d u hd =>
    hd.keep hg.size (fun b hf hlt => ⟨⟨hf.1, hf.2.1, by
      rcases hat with e | e
      · rw [e]; exact hf.2.2
      · rw [e]; intro he; injection he with he; omega⟩, fun o => World.cell?_of_block (w := w) (a := ⟨b, o, none⟩) (hg.block b hlt (fun e => hf.2.2 e.symm))⟩)
  refine ⟨by simp [h.len], by rw [List.length_append]; exact hown, fun i h1 h2 => ?_, fun x hx => ?_, fun b hb => ?_⟩
  · by_cases hi : i < l.length
    · rw [List.getElem_append_left hi, List.getElem_append_left (by rw [h.len]; exact hi)]
      exact hk _ _ (h.nd i hi (by rw [h.len]; exact hi))
    · have hie : i = l.length := by simp at h1; omega
      subst hie
      rw [List.getElem_append_right (Nat.le_refl _), List.getElem_append_right (by rw [h.len]; exact Nat.le_refl _)]
      simp [h.len]
      exact hk _ _ hu
  · rcases List.mem_append.1 hx with hx | hx
    · exact h.one x hx
    · simp at hx; subst hx; exact hu1
  · rcases hat with e | e
    · exact h.off b (e ▸ hb)
    · rw [e] at hb
      injection hb with hb
      subst hb
      exact ⟨by omega, fun hm => by have := hml _ hm; omega, fun hm => by have := hcl _ hm; omega⟩
/-- The row as a node's parts. -/
theorem NdRO.parts {lo p : Nat} {mv cv : Value} {w : World} {l : List Nd} {v : Value} {us : List Value} (h : NdRO lo p mv cv w l v us) : ∃ a cap, v = .slice a l.length cap ∧ NdRw (fun b => lo ≤ b ∧ OffR p mv cv b) w l a cap := by
  have hr := h.row
  have hoff := h.off
  obtain ⟨_, h2⟩ := h.row
  rcases h2 with ⟨rfl, h0⟩ | ⟨g, cap, cur, rfl, hg, hh, hn, hcap, hcs, htk⟩
  · exact ⟨none, 0, by rw [h0], by omega, by decide, fun h => by omega⟩
  · refine ⟨_, _, rfl, hn, hcap, fun h0 => ⟨g, 0, rfl, ⟨hg, hoff g rfl⟩, (Array.getElem?_eq_some_iff.1 hh).1, fun i hi => ?_⟩⟩
    have hiu : i < us.length := by rw [h.len]; exact hi
    refine ⟨us[i], ?_, (h.nd i hi hiu).keep (Nat.le_refl _) (fun b hb _ => ⟨⟨hb.1, hb.2.1⟩, fun _ => rfl⟩)⟩
    rw [Nat.zero_add, hr.cellAt i (by omega), List.getElem?_eq_getElem hiu]
/-- What Join and Choose make lies beside the reader. -/
theorem ndoff_made {B lo p : Nat} {mv cv : Value} {w w' : World} {d : Nd} {v : Value} {s : ByteArray} {st : ReSt} {es : List Bool} {dep : Nat} (hR : Rd B p w s st es dep mv cv) (hlo : lo ≤ w.heap.size) (h : NdX (fun b => (b < w.heap.size ∧ lo ≤ b ∧ OffR p mv cv b) ∨ w.heap.size ≤ b) w' d v) : NdOff lo p mv cv w' d v :=
  h.keep (Nat.le_refl _) (fun b hb _ => ⟨by
    rcases hb with hb | hb
    · exact hb.2
    · have hpl := hR.blk.lt
      exact ⟨by omega, by omega, fun hm => by have := own_lt' hR.mo _ hm; omega, fun hm => by have := own_lt' hR.co _ hm; omega⟩, fun _ => rfl⟩)
end Go.Proofs.YtbbcjclkklmoaaaDoor
