/- Package files, walked: a table of files as it lies in memory. -/
import Derived.Test.YtnognicabhgmcaaDoorFiMb
import Derived.Test.YtnognicabhgmcaaDoorMaA
import Derived.Test.YtnognicabhgmcaaDoorMaB
import Derived.Test.YtnognicabhgmcaaDoorChecked
import Derived.Maps.OwnSet
import Derived.Maps.OwnOps
import Derived.Maps.Views
import Derived.Maps.Range
namespace Go.Proofs.YtnognicabhgmcaaDoor
open Go Go.RowKit

/-- Lines as cells. -/
def lnC (ls : List (List UInt8)) : List Value := ls.map fun x => .string (txt x)
theorem lnC_len (ls : List (List UInt8)) : (lnC ls).length = ls.length := by simp [lnC]
theorem lnC_append (a b : List (List UInt8)) : lnC (a ++ b) = lnC a ++ lnC b := by simp [lnC]
/-- A map's element, as itself. -/
def heldR (v : Value) : Option (DataW Value × List MemPlace) := some (.held v, [])
def gl (l : List Fl) (x : List UInt8) : List (List UInt8) := (fLines l x).getD []
abbrev nilS : Value := .slice none 0 0
theorem fi_row_same {w w' : World} {base : Nat} {e : TypeId} {size : Nat} {v : Value} {n : Nat} {xs : List Value} (h : w.ownsRow base e size v n xs) (hb : ∀ g, v.ownBlock = some g → w'.heap[g]? = w.heap[g]?) : w'.ownsRow base e size v n xs := by
  obtain ⟨h1, h2⟩ := h
  refine ⟨h1, ?_⟩
  rcases h2 with h2 | ⟨g, cap, cur, rfl, b, c, d⟩
  · exact .inl h2
  · exact .inr ⟨g, cap, cur, rfl, b, (hb g rfl).trans c, d⟩
theorem fi_row_lt {B : Nat} {w : World} {e : TypeId} {size n : Nat} {v : Value} {us : List Value} (h : w.ownsRow B e size v n us) {g : Nat} (hg : v.ownBlock = some g) : B ≤ g ∧ g < w.heap.size := by
  rcases h.2 with ⟨rfl, _⟩ | ⟨g', cap, cur, rfl, hB, hh, _⟩
  · simp [Value.ownBlock] at hg
  · simp [Value.ownBlock] at hg
    subst hg
    exact ⟨hB, (Array.getElem?_eq_some_iff.1 hh).1⟩
theorem fi_row_below {w w' : World} {base : Nat} {e : TypeId} {size : Nat} {v : Value} {n : Nat} {xs : List Value} (h : w.ownsRow base e size v n xs) (hb : Below w.heap.size w w') : w'.ownsRow base e size v n xs :=
  fi_row_same h fun g hg => hb.block g (fi_row_lt h hg).2
theorem fi_row_mono {w : World} {B B' : Nat} {e : TypeId} {size : Nat} {v : Value} {n : Nat} {xs : List Value} (h : w.ownsRow B e size v n xs) (hB : B' ≤ B) : w.ownsRow B' e size v n xs := by
  obtain ⟨h1, h2⟩ := h
  refine ⟨h1, ?_⟩
  rcases h2 with h2 | ⟨g, cap, cur, rfl, b, c⟩
  · exact .inl h2
  · exact .inr ⟨g, cap, cur, rfl, Nat.le_trans hB b, c⟩
/-- A row, as its cells. -/
theorem fi_row_cells {w : World} {B : Nat} {e : TypeId} {v : Value} {n : Nat} {xs : List Value} (h : w.ownsRow B e 1 v n xs) : ∃ a c, v = .slice a n c ∧ xs.length = n ∧ n ≤ maxLen ∧ (0 < n → ∃ g, a = some ⟨g, 0, none⟩ ∧ g < w.heap.size ∧ ∀ j u, xs[j]? = some u → w.cell? ⟨g, j, none⟩ = some u) := by
  obtain ⟨h1, h2⟩ := h
  rcases h2 with ⟨rfl, rfl⟩ | ⟨g, cap, cur, rfl, _, hh, h3, h4, h5, h6⟩
  · exact ⟨none, 0, rfl, by omega, Nat.zero_le _, fun h => by omega⟩
  · refine ⟨_, _, rfl, by omega, by omega, fun _ => ⟨g, rfl, (Array.getElem?_eq_some_iff.1 hh).1, fun j u hj => ?_⟩⟩
    have hj2 := (List.getElem?_eq_some_iff.1 hj).1
    have h7 : cur[j]? = some u := by
      rw [← h6, List.getElem?_take] at hj
      split at hj
      · simpa using hj
      · cases hj
    simp [World.cell?, hh, h7]
theorem fi_grown_none {w w' : World} (hb : Below w.heap.size w w') : w.grownBy w' none := ⟨hb.os, hb.tape, hb.output, hb.size, fun i hi _ => hb.block i hi⟩
/-- Only the blocks F are written. -/
structure Turn (F : Nat → Prop) (w w' : World) : Prop where
  os : w'.os = w.os
  tape : w'.tape = w.tape
  output : w'.output = w.output
  size : w.heap.size ≤ w'.heap.size
  block : ∀ b, b < w.heap.size → ¬ F b → w'.heap[b]? = w.heap[b]?
theorem Turn.of_below {F : Nat → Prop} {w w' : World} (h : Below w.heap.size w w') : Turn F w w' := ⟨h.os, h.tape, h.output, h.size, fun b hb _ => h.block b hb⟩
theorem Turn.of_grown {F : Nat → Prop} {w w' : World} {r : Option Nat} (h : w.grownBy w' r) (hr : ∀ b, r = some b → b < w.heap.size → F b) : Turn F w w' := ⟨h.os, h.tape, h.output, h.size, fun b hb hf => h.block b hb fun e => hf (hr b e.symm hb)⟩
theorem Turn.trans {F G : Nat → Prop} {x y z : World} (h : Turn F x y) (k : Turn G y z) (hG : ∀ b, G b → b < x.heap.size → F b) : Turn F x z :=
  ⟨k.os.trans h.os, k.tape.trans h.tape, k.output.trans h.output, Nat.le_trans h.size k.size, fun b hb hf => (k.block b (Nat.lt_of_lt_of_le hb h.size) fun g => hf (hG b g hb)).trans (h.block b hb hf)⟩
theorem Turn.below {F : Nat → Prop} {B : Nat} {w w' : World} (h : Turn F w w') (hB : B ≤ w.heap.size) (hF : ∀ b, F b → B ≤ b) : Below B w w' :=
  ⟨h.os, h.tape, h.output, h.size, fun b hb => h.block b (Nat.lt_of_lt_of_le hb hB) fun f => Nat.not_lt.2 (hF b f) hb⟩
/-- A table, but for the files of which q doesn't hold; F: where its blocks lie. -/
structure FBut (q : List UInt8 → Prop) (F : Nat → Prop) (p mp n : Nat) (V : List UInt8 → Value) (l : List Fl) (w : World) : Prop where
  pF : F p
  mF : F mp
  pm : p ≠ mp
  blk : Blk w p #[.map (some mp)] 54
  srt : Srt l
  own : ∃ D, w.ownsMap Tryd.prog 9 heldR mp n D ∧ (∀ x, Maps.has D (.string x) = (fLines l x).isSome) ∧ ∀ x, D.atKey (.string x) (.held nilS) = .held (V x)
  row : ∀ x, q x → w.ownsRow 0 9 1 (V x) (gl l x).length (lnC (gl l x))
  off : ∀ x, q x → ∀ b, (V x).ownBlock = some b → b ≠ p ∧ b ≠ mp ∧ F b
  apart : ∀ x y, q x → q y → x ≠ y → ∀ b, (V x).ownBlock = some b → (V y).ownBlock ≠ some b
abbrev FAt := FBut fun _ => True
/-- A table of files at p. -/
def FT (F : Nat → Prop) (p n : Nat) (l : List Fl) (w : World) : Prop := ∃ mp V, FAt F p mp n V l w
variable {q : List UInt8 → Prop} {F : Nat → Prop} {p mp n : Nat} {V : List UInt8 → Value} {l : List Fl} {w w' : World}
theorem FBut.mlt (h : FBut q F p mp n V l w) : mp < w.heap.size := by obtain ⟨D, h1, _⟩ := h.own; exact h1.lt
/-- It stays where none of its blocks is written. -/
theorem FBut.kept (h : FBut q F p mp n V l w) {q' : List UInt8 → Prop} (hq : ∀ x, q' x → q x) (hp : w'.heap[p]? = w.heap[p]?) (hm : w'.heap[mp]? = w.heap[mp]?) (hr : ∀ x, q' x → ∀ b, (V x).ownBlock = some b → w'.heap[b]? = w.heap[b]?) : FBut q' F p mp n V l w' := by
  refine ⟨h.pF, h.mF, h.pm, hp.trans h.blk, h.srt, ?_, fun x hx => fi_row_same (h.row x (hq x hx)) (hr x hx), fun x hx => h.off x (hq x hx), fun x y hx hy => h.apart x y (hq x hx) (hq y hy)⟩
  obtain ⟨D, ⟨es, clock, hb, h1⟩, h2⟩ := h.own
  exact ⟨D, ⟨es, clock, hm.trans hb, h1⟩, h2⟩
theorem FBut.blt (h : FBut q F p mp n V l w) {x : List UInt8} (hx : q x) {b : Nat} (hb : (V x).ownBlock = some b) : b < w.heap.size := (fi_row_lt (h.row x hx) hb).2
theorem FBut.turn (h : FBut q F p mp n V l w) {G : Nat → Prop} (hb : Turn G w w') (hG : ∀ b, b < w.heap.size → F b → ¬ G b) : FBut q F p mp n V l w' :=
  h.kept (fun _ => id) (hb.block p h.blk.lt (hG p h.blk.lt h.pF)) (hb.block mp h.mlt (hG mp h.mlt h.mF)) fun x hx b hv => hb.block b (h.blt hx hv) (hG b (h.blt hx hv) (h.off x hx b hv).2.2)
theorem FBut.below (h : FBut q F p mp n V l w) (hb : Below w.heap.size w w') : FBut q F p mp n V l w' := h.turn (Turn.of_below (F := fun _ => False) hb) fun _ _ _ => id
theorem FBut.wider (h : FBut q F p mp n V l w) {G : Nat → Prop} (hG : ∀ b, b < w.heap.size → F b → G b) : FBut q G p mp n V l w :=
  ⟨hG p h.blk.lt h.pF, hG mp h.mlt h.mF, h.pm, h.blk, h.srt, h.own, h.row, fun x hx b hb => ⟨(h.off x hx b hb).1, (h.off x hx b hb).2.1, hG b (h.blt hx hb) (h.off x hx b hb).2.2⟩, h.apart⟩
theorem FT.turn (h : FT F p n l w) {G : Nat → Prop} (hb : Turn G w w') (hG : ∀ b, b < w.heap.size → F b → ¬ G b) : FT F p n l w' := by obtain ⟨mp, V, h⟩ := h; exact ⟨mp, V, h.turn hb hG⟩
theorem FT.below (h : FT F p n l w) (hb : Below w.heap.size w w') : FT F p n l w' := by obtain ⟨mp, V, h⟩ := h; exact ⟨mp, V, h.below hb⟩
theorem FT.wider (h : FT F p n l w) {G : Nat → Prop} (hG : ∀ b, b < w.heap.size → F b → G b) : FT G p n l w := by obtain ⟨mp, V, h⟩ := h; exact ⟨mp, V, h.wider hG⟩
theorem FT.srt (h : FT F p n l w) : Srt l := by obtain ⟨mp, V, h⟩ := h; exact FBut.srt h
theorem FT.lt (h : FT F p n l w) : F p ∧ p < w.heap.size := by obtain ⟨mp, V, h⟩ := h; exact ⟨h.pF, h.blk.lt⟩
theorem zero_str (w : World) : (zeroValue 36).run Tryd.prog w = .ok nilS w := by kernel_rfl
theorem key_str {x : List UInt8} (hx : x.length ≤ maxLen) : keyOf Tryd.prog 9 (.string (txt x)) = some (.string x) :=
  WideMaps.keyOf_string_mk Tryd.underlying9 (by rw [txt_size]; exact hx)
/-- A file's lines are looked up. -/
theorem FBut.look (h : FBut q F p mp n V l w) {x : List UInt8} (hx : x.length ≤ maxLen) : (Instr.lookup 52 (.map (some mp)) (.string (txt x)) false).run Tryd.prog w = .ok (V x) w := by
  obtain ⟨D, h1, _, h3⟩ := h.own
  obtain ⟨v, ps, hr, hv⟩ := h1.lookup (Maps.string_keyed Tryd.underlying9) Tryd.underlying52 (zero_str w) (zd := .held nilS) (zp := []) rfl (key_str hx)
  rw [h3 x] at hv
  unfold heldR at hv
  injection hv with hv
  injection hv with hv _
  injection hv with hv
  rw [hr, hv]
theorem FBut.lookOk (h : FBut q F p mp n V l w) {x : List UInt8} (hx : x.length ≤ maxLen) : (Instr.lookup 52 (.map (some mp)) (.string (txt x)) true).run Tryd.prog w = .ok (.tuple #[V x, .bool (fLines l x).isSome]) w := by
  obtain ⟨D, h1, h2, h3⟩ := h.own
  obtain ⟨v, ps, hr, hv⟩ := h1.look_ok (Maps.string_keyed Tryd.underlying9) Tryd.underlying52 (zero_str w) (zd := .held nilS) (zp := []) rfl (key_str hx)
  rw [h3 x] at hv
  unfold heldR at hv
  injection hv with hv
  injection hv with hv _
  injection hv with hv
  rw [hr, hv, h2]
/-- A file's lines are set. -/
theorem FBut.store {x : List UInt8} (h : FBut (· ≠ x) F p mp n V l w) (hx : x.length ≤ maxLen) (hn : n < maxLen) {v : Value} {ls : List (List UInt8)} (hv : w.ownsRow 0 9 1 v ls.length (lnC ls)) (hb : ∀ b, v.ownBlock = some b → b ≠ p ∧ b ≠ mp ∧ F b ∧ ∀ y, y ≠ x → (V y).ownBlock ≠ some b) :
    ∃ w', (Instr.mapUpdate 52 (.map (some mp)) (.string (txt x)) v).run Tryd.prog w = .ok () w' ∧ FAt F p mp (n + 1) (fun y => if y = x then v else V y) (put x ls l) w' ∧ w.grownBy w' (some mp) := by
  obtain ⟨D, h1, h2, h3⟩ := h.own
  obtain ⟨w', hr, ho, hg⟩ := h1.update (Maps.string_keyed Tryd.underlying9) Tryd.underlying52 hn (val := v) (d := .held v) (ps := []) (key_str hx) rfl
  have hD := h1.isMap
  refine ⟨w', hr, ⟨h.pF, h.mF, h.pm, (hg.block p h.blk.lt fun e => h.pm (by injection e)).trans h.blk, put_srt h.srt, ⟨_, ho, fun y => ?_, fun y => ?_⟩, fun y _ => ?_, fun y _ => ?_, fun y z _ _ hyz => ?_⟩, hg⟩
  · rw [lines_put h.srt]
    by_cases e : y = x
    · subst e
      rw [if_pos rfl, Maps.has_put_same hD (by simp [WideAt.IsKeyLit])]
      rfl
    · rw [if_neg e, Maps.has_put_other (by intro k; injection k with k; exact e k), h2]
  · by_cases e : y = x
    · subst e
      rw [if_pos rfl, Maps.atKey_put_same hD (by simp [WideAt.IsKeyLit])]
    · rw [if_neg e, Maps.atKey_put_other (by intro k; injection k with k; exact e k), h3]
  · unfold gl
    rw [lines_put h.srt]
    by_cases e : y = x
    · subst e
      simp only [if_true, Option.getD_some]
      exact fi_row_same hv fun g hg' => hg.block g (fi_row_lt hv hg').2 fun e => (hb g hg').2.1 (by injection e)
    · simp only [if_neg e]
      exact fi_row_same (h.row y e) fun g hg' => hg.block g (fi_row_lt (h.row y e) hg').2 fun k => (h.off y e g hg').2.1 (by injection k)
  · by_cases e : y = x
    · subst e
      simp only [if_true]
      exact fun b hb' => ⟨(hb b hb').1, (hb b hb').2.1, (hb b hb').2.2.1⟩
    · simp only [if_neg e]
      exact h.off y e
  · by_cases e : y = x
    · subst e
      simp only [if_true, if_neg (Ne.symm hyz)]
      exact fun b hb' => (hb b hb').2.2.2 z (Ne.symm hyz)
    · by_cases k : z = x
      · subst k
        simp only [if_true, if_neg e]
        exact fun b hb' hc => (hb b hc).2.2.2 y e hb'
      · simp only [if_neg e, if_neg k]
        exact h.apart y z e k hyz
/-- An empty table. -/
theorem FAt.made (h : Blk w p #[.map (some mp)] 54) (hm : w.ownsMap Tryd.prog 9 heldR mp n (.map [])) (hpm : p ≠ mp) (pB : F p) (mB : F mp) : FAt F p mp n (fun _ => nilS) [] w :=
  ⟨pB, mB, hpm, h, List.Pairwise.nil, ⟨_, hm, fun x => rfl, fun x => rfl⟩, fun x _ => World.ownsRow_nil _ _ _ _, fun x _ b hb => by simp [Value.ownBlock] at hb, fun x y _ _ _ b hb => by simp [Value.ownBlock] at hb⟩
end Go.Proofs.YtnognicabhgmcaaDoor
