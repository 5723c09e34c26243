/- What is turned behind an answer: rows of lines that are written; how long lines are. -/
import Derived.Test.YtnognicabhgmcaaDoorFiPf
namespace Go.Proofs.YtnognicabhgmcaaDoor
open Go Go.RowKit

/-! ### How long lines are. -/
def LnSz (S : Nat) (l : List Fl) : Prop := ∀ f ∈ l, ∀ x ∈ f.2, x.length ≤ S
theorem LnSz.gl {S : Nat} : ∀ {l : List Fl}, LnSz S l → ∀ x, ∀ y ∈ gl l x, y.length ≤ S
  | [], _, _, y, hy => by unfold Go.Proofs.YtnognicabhgmcaaDoor.gl fLines at hy; cases hy
  | f :: l, h, x, y, hy => by
    unfold Go.Proofs.YtnognicabhgmcaaDoor.gl fLines at hy
    by_cases e : f.1 = x
    · rw [if_pos e] at hy; exact h f (by simp) y hy
    · rw [if_neg e] at hy; exact LnSz.gl (l := l) (fun g hg => h g (by simp [hg])) x y hy
theorem LnSz.put {S : Nat} {l : List Fl} (h : LnSz S l) {n : List UInt8} {x : List (List UInt8)} (hx : ∀ y ∈ x, y.length ≤ S) : LnSz S (put n x l) := fun g hg => by
  rcases put_mem2 hg with rfl | hg
  · exact hx
  · exact h g hg
theorem cut_mem_len {L x : List UInt8} (h : x ∈ fCut L) : x.length ≤ L.length := by have := join_mem_len h; rwa [cut_back] at this
theorem LnSz.add {S : Nat} {l : List Fl} (h : LnSz S l) (hs : Srt l) (n t : List UInt8) (ht : t.length ≤ S) : LnSz S (fAdd l n t) := by
  unfold fAdd
  rw [fPut_put hs]
  refine h.put fun y hy => ?_
  rcases List.mem_append.1 hy with hy | hy
  · exact h.gl n y hy
  · exact Nat.le_trans (cut_mem_len hy) ht
theorem new_sz {fs : List Fl} (h : FsFew fs) : LnSz 200 (fNew fs) := by
  have hr : ∀ (l out : List Fl), (∀ f ∈ l, ∀ x ∈ f.2, x.length ≤ 100) → Srt out → LnSz 200 out → LnSz 200 (fNewRun l out) := fun l => by
    induction l with
    | nil => intro out _ _ h; exact h
    | cons f l ih =>
      intro out hl hs ho
      refine ih _ (fun g hg => hl g (by simp [hg])) (fPut_srt hs _ _) ?_
      rw [fPut_put hs]
      refine ho.put fun y hy => ?_
      obtain ⟨z, hz, hy⟩ := List.mem_flatMap.1 hy
      have h1 := cut_mem_len hy
      have h2 := hl f (by simp) z hz
      omega
  exact hr fs [] (fun f hf => (h.2 f hf).2.2) List.Pairwise.nil fun f hf => by cases hf

/-! ### Rows that are written. -/
/-- A row of n texts of at most K bytes, from block lo on, beside block g. -/
def SRow (lo g K : Nat) (w : World) (v : Value) (n : Nat) : Prop := ∃ a c, v = .slice a n c ∧ (0 < n → ∃ q cur, a = some ⟨q, 0, none⟩ ∧ lo ≤ q ∧ q ≠ g ∧ Blk w q cur 9 ∧ ∀ j, j < n → ∃ s : ByteArray, cur[j]? = some (.string s) ∧ s.size ≤ K)
theorem SRow.below {lo g K n : Nat} {w w' : World} {v : Value} (h : SRow lo g K w v n) (hb : Below w.heap.size w w') : SRow lo g K w' v n := by
  obtain ⟨a, c, hv, h1⟩ := h
  refine ⟨a, c, hv, fun h0 => ?_⟩
  obtain ⟨q, cur, h2, h3, h4, h5, h6⟩ := h1 h0
  exact ⟨q, cur, h2, h3, h4, (hb.block q h5.lt).trans h5, h6⟩
theorem SRow.set {lo g K n : Nat} {w : World} {v : Value} (h : SRow lo g K w v n) (q' j' : Nat) {s' : ByteArray} (hs : s'.size ≤ K + 1) : SRow lo g (K + 1) (w.setCell ⟨q', j', none⟩ (.string s')) v n := by
  obtain ⟨a, c, hv, h1⟩ := h
  refine ⟨a, c, hv, fun h0 => ?_⟩
  obtain ⟨q, cur, h2, h3, h4, h5, h6⟩ := h1 h0
  by_cases e : q = q'
  · subst e
    refine ⟨q, _, h2, h3, h4, h5.set j' (.string s'), fun j hj => ?_⟩
    obtain ⟨s, h7, h8⟩ := h6 j hj
    by_cases ej : j' = j
    · subst ej
      exact ⟨s', by rw [Array.getElem?_setIfInBounds_self_of_lt (Array.getElem?_eq_some_iff.1 h7).1], hs⟩
    · exact ⟨s, by rw [Array.getElem?_setIfInBounds_ne ej]; exact h7, by omega⟩
  · exact ⟨q, cur, h2, h3, h4, (Below.heap_setCell _ _ _ _ (fun k => e k)).trans h5, fun j hj => by obtain ⟨s, h7, h8⟩ := h6 j hj; exact ⟨s, h7, by omega⟩⟩
/-- A row of files and their lines, as they are turned. -/
structure MutS (lo g : Nat) (M : List (Fl × Value)) (K : Nat) (w : World) : Prop where
  lt : g < w.heap.size
  c : ∀ j (h : j < M.length), w.cell? ⟨g, j * 2, none⟩ = some (.string (txt M[j].1.1)) ∧ w.cell? ⟨g, j * 2 + 1, none⟩ = some M[j].2
  r : ∀ x ∈ M, SRow lo g K w x.2 x.1.2.length
theorem MutS.below {lo g K : Nat} {M : List (Fl × Value)} {w w' : World} (h : MutS lo g M K w) (hb : Below w.heap.size w w') : MutS lo g M K w' :=
  ⟨Nat.lt_of_lt_of_le h.lt hb.size, fun j hj => ⟨(hb.cell (p := ⟨g, j * 2, none⟩) h.lt).trans (h.c j hj).1, (hb.cell (p := ⟨g, j * 2 + 1, none⟩) h.lt).trans (h.c j hj).2⟩, fun x hx => (h.r x hx).below hb⟩
theorem MutS.set {lo g K : Nat} {M : List (Fl × Value)} {w : World} (h : MutS lo g M K w) {q' : Nat} (hq : q' ≠ g) (j' : Nat) {s' : ByteArray} (hs : s'.size ≤ K + 1) : MutS lo g M (K + 1) (w.setCell ⟨q', j', none⟩ (.string s')) := by
  have hk : (w.setCell ⟨q', j', none⟩ (.string s')).heap[g]? = w.heap[g]? := Below.heap_setCell _ _ _ _ (fun k => hq k.symm)
  exact ⟨by simp [World.setCell]; exact h.lt, fun j hj => ⟨(World.cell?_of_block (a := ⟨g, j * 2, none⟩) hk).trans (h.c j hj).1, (World.cell?_of_block (a := ⟨g, j * 2 + 1, none⟩) hk).trans (h.c j hj).2⟩, fun x hx => (h.r x hx).set q' j' hs⟩
theorem srow_of {lo g K n : Nat} {w : World} {v : Value} {ls : List (List UInt8)} (h : LnG (fun b => lo ≤ b) w v ls) (hn : ls.length = n) (hg : ∀ b, v.ownBlock = some b → b ≠ g) (hK : ∀ x ∈ ls, x.length ≤ K) : SRow lo g K w v n := by
  obtain ⟨⟨h1, h2⟩, h3⟩ := h
  subst hn
  rcases h2 with ⟨rfl, h0⟩ | ⟨q, cap, cur, rfl, _, hh, hn, _, _, htk⟩
  · exact ⟨none, 0, by rw [h0], fun h => by omega⟩
  · refine ⟨_, cap, rfl, fun h0 => ⟨q, cur, rfl, h3 q rfl, hg q rfl, hh, fun j hj => ⟨txt ls[j], ?_, by rw [txt_size]; exact hK _ (List.getElem_mem hj)⟩⟩⟩
    have h4 := lnC_get ls j hj
    rw [← htk, List.getElem?_take] at h4
    split at h4
    · rw [Array.getElem?_toList] at h4; exact h4
    · cases h4
theorem mut_of {B lo S : Nat} {w : World} {a : Option Addr} {n c : Nat} {fs : List Fl} (h : FsOwn 45 (fun b => lo ≤ b) w B (.slice a n c) fs) (hS : LnSz S fs) : ∃ M : List (Fl × Value), M.map (·.1) = fs ∧ (0 < M.length → ∃ g, a = some ⟨g, 0, none⟩ ∧ MutS lo g M S w) := by
  obtain ⟨L, h1, h2, h3⟩ := h.cells
  have hr := h
  obtain ⟨L', h1', hrow, _⟩ := hr
  refine ⟨L, h1, fun h0 => ?_⟩
  obtain ⟨g, rfl, hg, hc⟩ := h3 h0
  refine ⟨g, rfl, hg, hc, fun x hx => srow_of (h2 x hx) rfl (fun b hb e => ?_) (hS x.1 (by rw [← h1]; exact List.mem_map_of_mem hx))⟩
  subst e
  exact row_apart (by decide) (h2 x hx).1 hrow hb rfl
end Go.Proofs.YtnognicabhgmcaaDoor
