/- Pairs of nodes that are still to be held against each other, in a row. -/
import Derived.Test.YtaekjcbgnlldoaaNdAlike
import Derived.Test.YtaekjcbgnlldoaaNdJoin
import Derived.Test.YtaekjcbgnlldoaaNdStk
namespace Go.Proofs.Ytaekjcbgnlldoaa
open Go Go.RowKit

def psame (T : List (Nd × Nd)) : Bool := T.all (fun p => nsame p.1 p.2)
def psize (T : List (Nd × Nd)) : Nat := nsizes (T.map Prod.fst)
theorem psame_snoc (T : List (Nd × Nd)) (d e : Nd) : psame (T ++ [(d, e)]) = (psame T && nsame d e) := by unfold psame; rw [List.all_append]; simp
theorem psame_append (T U : List (Nd × Nd)) : psame (T ++ U) = (psame T && psame U) := by unfold psame; rw [List.all_append]
theorem nsames_zip (l m : List Nd) (h : l.length = m.length) : nsames l m = psame (l.zip m) := by
  induction l generalizing m with
  | nil =>
    cases m with
    | nil => rfl
    | cons e es => simp at h
  | cons d ds ih =>
    cases m with
    | nil => simp at h
    | cons e es => rw [nsames, ih es (by simpa using h)]; rfl
theorem psize_append (T U : List (Nd × Nd)) : psize (T ++ U) = psize T + psize U := by unfold psize; rw [List.map_append, nsizes_append]
theorem psize_one (d e : Nd) : psize [(d, e)] = nsize d := by simp [psize, nsizes]
theorem psize_zip (l m : List Nd) (h : l.length = m.length) : psize (l.zip m) = nsizes l := by unfold psize; rw [List.map_fst_zip (by omega)]
theorem psize_len (T : List (Nd × Nd)) : T.length ≤ psize T := by have := nsizes_length (T.map Prod.fst); unfold psize; simpa using this
theorem zip_take (l m : List Nd) (k : Nat) (h1 : k < l.length) (h2 : k < m.length) : (l.zip m).take (k + 1) = (l.zip m).take k ++ [(l[k], m[k])] := by
  rw [List.take_succ_eq_append_getElem (by rw [List.length_zip]; omega), List.getElem_zip]
/-- The cells of pairs. -/
def PrC (G : Nat → Prop) (W : World) : List (Nd × Nd) → List Value → Prop
  | [], us => us = []
  | x :: s, us => ∃ v y us', us = v :: y :: us' ∧ NdX G W x.1 v ∧ NdX G W x.2 y ∧ PrC G W s us'
theorem PrC.len {G : Nat → Prop} {W : World} : ∀ {s : List (Nd × Nd)} {us : List Value}, PrC G W s us → us.length = s.length * 2
  | [], us, h => by rw [show us = [] from h]; rfl
  | x :: s, us, ⟨v, y, us', h, _, _, h4⟩ => by rw [h]; have := PrC.len h4; simp [this]; omega
theorem PrC.keep {F G : Nat → Prop} {W W' : World} (hs : W.heap.size ≤ W'.heap.size) (hF : ∀ b, F b → b < W.heap.size → G b ∧ ∀ o, W'.cell? ⟨b, o, none⟩ = W.cell? ⟨b, o, none⟩) :
    ∀ {s : List (Nd × Nd)} {us : List Value}, PrC F W s us → PrC G W' s us
  | [], _, h => h
  | _ :: _, _, ⟨v, y, us', h, h2, h3, h4⟩ => ⟨v, y, us', h, h2.keep hs hF, h3.keep hs hF, PrC.keep hs hF h4⟩
theorem PrC.snoc {G : Nat → Prop} {W : World} {d e : Nd} {v y : Value} (hd : NdX G W d v) (he : NdX G W e y) :
    ∀ {s : List (Nd × Nd)} {us : List Value}, PrC G W s us → PrC G W (s ++ [(d, e)]) (us ++ [v, y])
  | [], us, h => by obtain rfl : us = [] := h; exact ⟨v, y, [], rfl, hd, he, rfl⟩
  | _ :: _, _, ⟨v', y', us', h, h2, h3, h4⟩ => ⟨v', y', _, by rw [h]; rfl, h2, h3, PrC.snoc hd he h4⟩
theorem PrC.last {G : Nat → Prop} {W : World} {d e : Nd} :
    ∀ {s : List (Nd × Nd)} {us : List Value}, PrC G W (s ++ [(d, e)]) us → ∃ us' v y, us = us' ++ [v, y] ∧ NdX G W d v ∧ NdX G W e y ∧ PrC G W s us'
  | [], us, ⟨v, y, us', h, h2, h3, h4⟩ => by obtain rfl : us' = [] := h4; exact ⟨[], v, y, h, h2, h3, rfl⟩
  | x :: s, us, ⟨v', y', us', h, h2, h3, h4⟩ => by
    obtain ⟨us2, v, y, e, g2, g3, g4⟩ := PrC.last h4
    exact ⟨v' :: y' :: us2, v, y, by rw [h, e]; rfl, g2, g3, v', y', us2, rfl, h2, h3, g4⟩
/-- Not in the row itself. -/
def Off (sv : Value) (b : Nat) : Prop := sv.ownBlock ≠ some b
structure Prs (base : Nat) (W : World) (T : List (Nd × Nd)) (sv : Value) (us : List Value) : Prop where
  row : W.ownsRow base 74 2 sv T.length us
  cells : PrC (Off sv) W T us
theorem off_below {sv : Value} {W W' : World} (hb : Below W.heap.size W W') : ∀ b, Off sv b → b < W.heap.size → Off sv b ∧ ∀ o, W'.cell? ⟨b, o, none⟩ = W.cell? ⟨b, o, none⟩ :=
  fun b hf hlt => ⟨hf, fun o => hb.cell (p := ⟨b, o, none⟩) hlt⟩
theorem off_grown {sv v' : Value} {W W' : World} (hg : W.grownBy W' sv.ownBlock) (hat : v'.ownBlock = sv.ownBlock ∨ v'.ownBlock = some W.heap.size) : ∀ b, Off sv b → b < W.heap.size → Off v' b ∧ ∀ o, W'.cell? ⟨b, o, none⟩ = W.cell? ⟨b, o, none⟩ := by
  intro b hf hlt
  refine ⟨?_, fun o => World.cell?_of_block (w := W) (a := ⟨b, o, none⟩) (hg.block b hlt (fun e => hf e.symm))⟩
  rcases hat with e | e
  · unfold Off; rw [e]; exact hf
  · unfold Off; rw [e]; intro e2; injection e2 with e2; omega
theorem Prs.mem {base : Nat} {W W' : World} {T : List (Nd × Nd)} {sv : Value} {us : List Value} (h : Prs base W T sv us) (hb : Below W.heap.size W W') : Prs base W' T sv us :=
  ⟨own_row_same h.row (fun g hg => hb.block _ (h.row.lt g hg).2), h.cells.keep hb.size (off_below hb)⟩
theorem Prs.push {base : Nat} {W W' : World} {T : List (Nd × Nd)} {sv v' v y : Value} {us : List Value} {d e : Nd} (h : Prs base W T sv us) (hd : NdX (Off sv) W d v) (he : NdX (Off sv) W e y)
    (hown : W'.ownsRow base 74 2 v' (T.length + 1) (us ++ [v, y])) (hg : W.grownBy W' sv.ownBlock) (hat : v'.ownBlock = sv.ownBlock ∨ v'.ownBlock = some W.heap.size) : Prs base W' (T ++ [(d, e)]) v' (us ++ [v, y]) := by
  have hk := off_grown hg hat
  exact ⟨by rw [List.length_append]; exact hown, PrC.snoc (hd.keep hg.size hk) (he.keep hg.size hk) (h.cells.keep hg.size hk)⟩
theorem Prs.top {base : Nat} {W : World} {T : List (Nd × Nd)} {sv : Value} {us : List Value} {d e : Nd} (h : Prs base W (T ++ [(d, e)]) sv us) :
    ∃ g cap v y us', sv = .slice (some ⟨g, 0, none⟩) (T.length + 1) cap ∧ T.length + 1 ≤ cap ∧ base ≤ g ∧ g < W.heap.size ∧ W.cell? ⟨g, T.length * 2, none⟩ = some v ∧ W.cell? ⟨g, T.length * 2 + 1, none⟩ = some y ∧ NdX (Off sv) W d v ∧ NdX (Off sv) W e y ∧ Prs base W T (.slice (some ⟨g, 0, none⟩) T.length cap) us' := by
  have hrow := h.row
  rw [List.length_append] at hrow
  obtain ⟨g, cap, rfl⟩ := ownsRow_succ hrow
  obtain ⟨us', v, y, rfl, h1, h2, h3⟩ := h.cells.last
  have hl := h3.len
  have hg := hrow.lt g rfl
  refine ⟨g, cap, v, y, us', rfl, row_cap hrow, hg.1, hg.2, ?_, ?_, h1, h2, ownsRow_pop hl hrow, h3⟩
  · rw [hrow.cellAt (T.length * 2) (show T.length * 2 < (T.length + 1) * 2 by omega), ← hl, List.getElem?_append_right (Nat.le_refl _)]
    simp
  · rw [hrow.cellAt (T.length * 2 + 1) (show T.length * 2 + 1 < (T.length + 1) * 2 by omega), ← hl, List.getElem?_append_right (by omega)]
    rw [show us'.length + 1 - us'.length = 1 by omega]
    rfl
theorem pair_info : ∃ i, Try.prog.info? 74 = some i ∧ i.zero = some (.agg #[.nilIface, .nilIface]) ∧ i.size = 2 ∧ i.bytes = 32 := by
  have h : (Try.prog.info? 74).map (fun i => (i.zero, i.size, i.bytes)) = some (some (.agg #[.nilIface, .nilIface]), 2, 32) := by kernel_rfl
  obtain ⟨i, hi, he⟩ := Option.map_eq_some_iff.1 h
  injection he with h1 h2
  injection h2 with h2 h3
  exact ⟨i, hi, h1, h2, h3⟩
end Go.Proofs.Ytaekjcbgnlldoaa
