/- Rows of files that the call makes by append. -/
import Derived.Test.YtnognicabhgmcaaDoorFiWe
namespace Go.Proofs.YtnognicabhgmcaaDoor
open Go Go.RowKit

/-- Files as cells. -/
def flC (L : List (Fl × Value)) : List Value := L.flatMap fun x => [.string (txt x.1.1), x.2]
theorem flC_len (L : List (Fl × Value)) : (flC L).length = L.length * 2 := by
  induction L with
  | nil => rfl
  | cons x L ih =>
    show ([Value.string (txt x.1.1), x.2] ++ flC L).length = _
    rw [List.length_append, ih, List.length_cons]
    simp
    omega
theorem flC_snoc (L : List (Fl × Value)) (x : Fl × Value) : flC (L ++ [x]) = flC L ++ [.string (txt x.1.1), x.2] := by unfold flC; rw [List.flatMap_append]; simp
theorem flC_at : ∀ (L : List (Fl × Value)) (j : Nat) (h : j < L.length), (flC L)[j * 2]? = some (.string (txt L[j].1.1)) ∧ (flC L)[j * 2 + 1]? = some L[j].2
  | x :: L, 0, _ => ⟨rfl, rfl⟩
  | x :: L, j + 1, h => by
    have := flC_at L j (by simpa using h)
    show (Value.string (txt x.1.1) :: x.2 :: flC L)[(j + 1) * 2]? = _ ∧ (Value.string (txt x.1.1) :: x.2 :: flC L)[(j + 1) * 2 + 1]? = _
    rw [show (j + 1) * 2 = j * 2 + 1 + 1 by omega]
    simpa using this
/-- Lines in a row of blocks of which G holds. -/
def LnG (G : Nat → Prop) (w : World) (v : Value) (ls : List (List UInt8)) : Prop := w.ownsRow 0 9 1 v ls.length (lnC ls) ∧ ∀ b, v.ownBlock = some b → G b
theorem LnG.below {G : Nat → Prop} {w w' : World} {v : Value} {ls : List (List UInt8)} (h : LnG G w v ls) (hb : Below w.heap.size w w') : LnG G w' v ls := ⟨fi_row_below h.1 hb, h.2⟩
theorem LnG.all {w : World} {v : Value} {ls : List (List UInt8)} (h : w.ownsRow 0 9 1 v ls.length (lnC ls)) : LnG (fun _ => True) w v ls := ⟨h, fun _ _ => trivial⟩
theorem LnG.base {C : Nat} {w : World} {v : Value} {ls : List (List UInt8)} (h : w.ownsRow C 9 1 v ls.length (lnC ls)) : LnG (fun b => C ≤ b) w v ls := ⟨fi_row_mono h (Nat.zero_le _), fun _ hb => (fi_row_lt h hb).1⟩
theorem LnG.wider {G K : Nat → Prop} {w : World} {v : Value} {ls : List (List UInt8)} (h : LnG G w v ls) (hG : ∀ b, b < w.heap.size → G b → K b) : LnG K w v ls := ⟨h.1, fun b hb => hG b (fi_row_lt h.1 hb).2 (h.2 b hb)⟩
/-- A row of files of the call's own; the lines lie apart. -/
def FsOwn (T : TypeId) (G : Nat → Prop) (w : World) (B : Nat) (v : Value) (fs : List Fl) : Prop := ∃ L : List (Fl × Value), L.map (·.1) = fs ∧ w.ownsRow B T 2 v fs.length (flC L) ∧ ∀ x ∈ L, LnG G w x.2 x.1.2
variable {T : TypeId} {G : Nat → Prop} {w w' : World} {B : Nat} {v v' : Value} {fs : List Fl}
theorem FsOwn.nil (T : TypeId) (G : Nat → Prop) (w : World) (B : Nat) : FsOwn T G w B nilS [] := ⟨[], rfl, World.ownsRow_nil _ _ _ _, fun x hx => by cases hx⟩
theorem FsOwn.below (h : FsOwn T G w B v fs) (hb : Below w.heap.size w w') : FsOwn T G w' B v fs := by
  obtain ⟨L, h1, h2, h3⟩ := h
  exact ⟨L, h1, fi_row_below h2 hb, fun x hx => (h3 x hx).below hb⟩
theorem row_apart {e1 e2 : TypeId} (he : e1 ≠ e2) {B1 B2 s1 s2 n1 n2 : Nat} {v1 v2 : Value} {x1 x2 : List Value} (h1 : w.ownsRow B1 e1 s1 v1 n1 x1) (h2 : w.ownsRow B2 e2 s2 v2 n2 x2) {b : Nat} (hb : v1.ownBlock = some b) : v2.ownBlock ≠ some b := by
  intro hc
  rcases h1.2 with ⟨rfl, _⟩ | ⟨g, cap, cur, rfl, _, hh, _⟩
  · simp [Value.ownBlock] at hb
  · rcases h2.2 with ⟨rfl, _⟩ | ⟨g', cap', cur', rfl, _, hh', _⟩
    · simp [Value.ownBlock] at hc
    · simp [Value.ownBlock] at hb hc
      subst hb hc
      rw [hh] at hh'
      injection hh' with hh'
      injection hh' with _ hh'
      exact he hh'
/-- One more. -/
theorem FsOwn.push (hT : T ≠ 9) {f : Fl} {x : Value} (hx : LnG G w x f.2) {L : List (Fl × Value)} (hL : L.map (·.1) = fs) (hl : ∀ x ∈ L, LnG G w x.2 x.1.2) (hr : w.ownsRow B T 2 v fs.length (flC L))
    (ho : w'.ownsRow B T 2 v' (fs.length + 1) (flC L ++ [.string (txt f.1), x])) (hg : w.grownBy w' v.ownBlock) : FsOwn T G w' B v' (fs ++ [f]) := by
  have hk : ∀ (y : Value) (ls : List (List UInt8)), LnG G w y ls → LnG G w' y ls := fun y ls hy =>
    ⟨fi_row_same hy.1 fun g hg' => hg.block g (fi_row_lt hy.1 hg').2 fun e => row_apart (Ne.symm hT) hy.1 hr hg' e.symm, hy.2⟩
  refine ⟨L ++ [(f, x)], by rw [List.map_append, hL]; rfl, by rw [flC_snoc, List.length_append]; exact ho, fun y hy => ?_⟩
  rcases List.mem_append.1 hy with hy | hy
  · exact hk _ _ (hl y hy)
  · obtain rfl := List.mem_singleton.1 hy
    exact hk _ _ hx
theorem FsOwn.form (h : FsOwn T G w B v fs) : ∃ a c, v = .slice a fs.length c := by
  obtain ⟨L, h1, h2, _⟩ := h
  rcases h2.2 with ⟨rfl, h3⟩ | ⟨g, cap, cur, rfl, _⟩
  · exact ⟨none, 0, by rw [h3]⟩
  · exact ⟨_, _, rfl⟩
theorem FsOwn.rd {a : Option Addr} {n c : Nat} (h : FsOwn T G w B (.slice a n c) fs) : FsRd w a fs := by
  obtain ⟨L, rfl, h2, h3⟩ := h
  intro h0
  obtain ⟨h4, h5⟩ := h2
  rcases h5 with ⟨_, h6⟩ | ⟨g, cap, cur, e, _, hh, hn, hcap, hcs, htk⟩
  · omega
  · injection e with e1 _ _
    refine ⟨g, 0, e1, (Array.getElem?_eq_some_iff.1 hh).1, fun j hj => ?_⟩
    have hjl : j < L.length := by simpa using hj
    have hc : ∀ i u, (flC L)[i]? = some u → w.cell? ⟨g, i, none⟩ = some u := fun i u hu => by
      have hi := (List.getElem?_eq_some_iff.1 hu).1
      have h7 : w.cell? ⟨g, i, none⟩ = cur[i]? := by simp [World.cell?, hh]
      rw [h7, ← Array.getElem?_toList]
      rw [← htk, List.getElem?_take] at hu
      split at hu
      · exact hu
      · cases hu
    obtain ⟨h8, h9⟩ := flC_at L j hjl
    have e2 : (L.map (·.1))[j] = L[j].1 := by simp
    rw [e2, Nat.zero_add]
    exact ⟨hc _ _ h8, _, hc _ _ h9, LnRd.of_row (h3 _ (List.getElem_mem hjl)).1⟩
theorem fi_news2 (wr : World) (T : TypeId) (x y : Value) : ∀ j u, [x, y][j]? = some u → (wr.alloc (.cells #[x, y] T)).cell? ((⟨wr.heap.size, 0, none⟩ : Addr).add j) = some u := fun j u hj => by
  rw [Go.WideShapes.add_plain, Nat.zero_add]
  have hb := (show Blk (wr.alloc (.cells #[x, y] T)) wr.heap.size #[x, y] T from (MapKept.heap_alloc wr _).1).cell j
  rw [hb]
  simpa using hj
end Go.Proofs.YtnognicabhgmcaaDoor
