/- The proof's texts CbD: what the claim reaches of them. -/
import Derived.Test.YtihfenkphhnbcaaCp11
namespace Go.Proofs.Ytihfenkphhnbcaa
open Go Go.RowKit
theorem upd_zero (x : Inn) (l : List Inn) (f : Inn → Inn) : upd (x :: l) 0 f = f x :: l := rfl
theorem upd_succ (x : Inn) (l : List Inn) (j : Nat) (f : Inn → Inn) : upd (x :: l) (j + 1) f = x :: upd l j f := rfl
theorem inF_updY (v : Int) : ∀ (l : List Inn) (j : Nat), j < l.length → inF (upd l j fun i => { i with y := v }) = (inF l).set (j * 7 + 6) (.int .i64 v)
  | [], j, h => by simp at h
  | x :: l, 0, h => by
    rw [upd_zero]
    show inC _ ++ inF l = (inC x ++ inF l).set (0 * 7 + 6) _
    rw [List.set_append_left _ _ (by show 0 * 7 + 6 < 7; omega)]
    rfl
  | x :: l, j + 1, h => by
    rw [upd_succ]
    show inC x ++ inF _ = (inC x ++ inF l).set ((j + 1) * 7 + 6) _
    rw [inF_updY v l j (by simpa using h), List.set_append_right _ _ (by show 7 ≤ (j + 1) * 7 + 6; omega), show (j + 1) * 7 + 6 - (inC x).length = j * 7 + 6 by show (j + 1) * 7 + 6 - 7 = _; omega]
theorem inF_updX (v : Int) : ∀ (l : List Inn) (j : Nat), j < l.length → inF (upd l j fun i => { i with x := v }) = (inF l).set (j * 7 + 5) (.int .i64 v)
  | [], j, h => by simp at h
  | x :: l, 0, h => by
    rw [upd_zero]
    show inC _ ++ inF l = (inC x ++ inF l).set (0 * 7 + 5) _
    rw [List.set_append_left _ _ (by show 0 * 7 + 5 < 7; omega)]
    rfl
  | x :: l, j + 1, h => by
    rw [upd_succ]
    show inC x ++ inF _ = (inC x ++ inF l).set ((j + 1) * 7 + 5) _
    rw [inF_updX v l j (by simpa using h), List.set_append_right _ _ (by show 7 ≤ (j + 1) * 7 + 5; omega), show (j + 1) * 7 + 5 - (inC x).length = j * 7 + 5 by show (j + 1) * 7 + 5 - 7 = _; omega]
theorem Bld.cellset {B p q0 c o : Nat} {w : World} {l m : List Inn} {g : Int} {k : Nat} {bk : Bool} {tv u : Value} {ts : List Value} (h : Bld B p w l g k bk (.slice (some ⟨q0, 0, none⟩) l.length c) tv ts) (hm : m.length = l.length) (hi : inF m = (inF l).set o u) :
    Bld B p (w.setCell ⟨q0, o, none⟩ u) m g k bk (.slice (some ⟨q0, 0, none⟩) m.length c) tv ts ∧ CStep p w (.slice (some ⟨q0, 0, none⟩) l.length c) tv (w.setCell ⟨q0, o, none⟩ u) (.slice (some ⟨q0, 0, none⟩) m.length c) tv := by
  obtain ⟨s1, s2⟩ := h.io.stored o u
  have hset : ∀ b, b ≠ q0 → (w.setCell ⟨q0, o, none⟩ u).heap[b]? = w.heap[b]? := fun b hb => heap_setCell_other w ⟨q0, o, none⟩ b u hb
  have hqp : p ≠ q0 := fun e => h.ip (by rw [e]; rfl)
  have ht : tv.ownBlock ≠ some q0 := h.it q0 rfl
  refine ⟨{ blk := ?_, io := (by rw [hm, hi]; exact s1), «to» := h.«to».kept s2 (.inr ht), bp := h.bp, ip := h.ip, tp := h.tp, it := h.it }, ⟨rfl, rfl, rfl, s2.size, fun b _ _ h1 h2 => ⟨hset b fun e => h1 (by rw [e]; rfl), h1, h2⟩⟩⟩
  have h1 := h.blk
  unfold Blk at h1 ⊢
  rw [hset p hqp, hm]
  exact h1
theorem Bld.setY {B p q0 c : Nat} {w : World} {l : List Inn} {g : Int} {k : Nat} {bk : Bool} {tv : Value} {ts : List Value} (h : Bld B p w l g k bk (.slice (some ⟨q0, 0, none⟩) l.length c) tv ts) (j : Nat) (hj : j < l.length) (v : Int) :
    Bld B p (w.setCell ⟨q0, j * 7 + 6, none⟩ (.int .i64 v)) (upd l j fun i => { i with y := v }) g k bk (.slice (some ⟨q0, 0, none⟩) (upd l j fun i => { i with y := v }).length c) tv ts ∧ CStep p w (.slice (some ⟨q0, 0, none⟩) l.length c) tv (w.setCell ⟨q0, j * 7 + 6, none⟩ (.int .i64 v)) (.slice (some ⟨q0, 0, none⟩) (upd l j fun i => { i with y := v }).length c) tv :=
  h.cellset (upd_len _ _ _) (inF_updY v l j hj)
theorem Bld.setX {B p q0 c : Nat} {w : World} {l : List Inn} {g : Int} {k : Nat} {bk : Bool} {tv : Value} {ts : List Value} (h : Bld B p w l g k bk (.slice (some ⟨q0, 0, none⟩) l.length c) tv ts) (j : Nat) (hj : j < l.length) (v : Int) :
    Bld B p (w.setCell ⟨q0, j * 7 + 5, none⟩ (.int .i64 v)) (upd l j fun i => { i with x := v }) g k bk (.slice (some ⟨q0, 0, none⟩) (upd l j fun i => { i with x := v }).length c) tv ts ∧ CStep p w (.slice (some ⟨q0, 0, none⟩) l.length c) tv (w.setCell ⟨q0, j * 7 + 5, none⟩ (.int .i64 v)) (.slice (some ⟨q0, 0, none⟩) (upd l j fun i => { i with x := v }).length c) tv :=
  h.cellset (upd_len _ _ _) (inF_updX v l j hj)
structure AgOk (P z q n M : Nat) (L : List Inn) (K : Nat) : Prop where
  pos : 0 < L.length
  part : P + z ≤ L.length
  lo : q ≤ K
  by' : K + P ≤ q + L.length
  len : L.length ≤ M
  bd : Bd L
theorem AgOk.again {P z q n M K : Nat} {L : List Inn} (h : AgOk P z q n M L K) (hn : n ≤ z) (hM : 3000 + z ≤ M) : AgOk P z q n M (againT L P z q n K).1 (againT L P z q n K).2 := by
  obtain ⟨⟨a1, a2, a3⟩, a4⟩ := againT_grw L P z q n K h.part hn
  exact ⟨Nat.lt_of_lt_of_le h.pos a1, Nat.le_trans h.part a1, Nat.le_trans h.lo a2, by have := h.by'; omega, by have := h.len; omega, bd_againT P z q n K h.bd (by have := h.part; omega) h.by'⟩
theorem AgOk.mono {P z q n M M' K : Nat} {L : List Inn} (h : AgOk P z q n M L K) (hM : M ≤ M') : AgOk P z q n M' L K := { h with len := Nat.le_trans h.len hM }
theorem AgOk.enter {P z q n M K E : Nat} {L : List Inn} (h : AgOk P z q n M L K) (hE : E ≤ 3000000) (hq : q ≤ 3000000) : AgOk P z q n (M + 2) (L ++ [ins 1 (L.length + 1 : Nat) E, ins 7 K 0]) (K + 1) := by
  obtain ⟨h1, h2, h3, h4, h5, h6⟩ := h
  have hl : (L ++ [ins 1 (L.length + 1 : Nat) E, ins 7 K 0]).length = L.length + 2 := by simp
  refine ⟨by omega, by omega, by omega, by omega, by omega, ?_⟩
  have := bd_one (bd_one h6 (i := ins 1 (L.length + 1 : Nat) E) ⟨by simp only [ins]; omega, by simp only [ins]; omega, by simp only [ins]; omega, by simp only [ins]; omega, by simp only [ins]; omega, by simp only [ins]; omega⟩) (i := ins 7 K 0)
    ⟨by simp only [ins]; omega, by simp only [ins]; omega, by simp only [ins]; omega, by simp only [ins, List.length_append, List.length_cons, List.length_nil]; omega, by simp only [ins]; omega, by simp only [ins]; omega⟩
  simpa using this
theorem AgOk.one {P z q n M K : Nat} {L : List Inn} {i : Inn} (h : AgOk P z q n M L K) (hi : Bi L.length i) : AgOk P z q n (M + 1) (L ++ [i]) K := by
  obtain ⟨h1, h2, h3, h4, h5, h6⟩ := h
  have hl : (L ++ [i]).length = L.length + 1 := by simp
  exact ⟨by omega, by omega, by omega, by omega, by omega, bd_one h6 hi⟩
theorem AgOk.inn {P z q n M K : Nat} {L : List Inn} (h : AgOk P z q n M L K) (hM : M ≤ 100000) : ∀ i ∈ L, -1000000 ≤ i.x ∧ i.x ≤ 10000000 ∧ -1000000 ≤ i.y ∧ i.y ≤ 10000000 := fun i hi => by
  obtain ⟨j, hj, rfl⟩ := List.getElem_of_mem hi
  obtain ⟨_, _, b3, b4, b5, b6⟩ := h.bd j _ (List.getElem?_eq_getElem hj)
  have := h.len
  omega
end Go.Proofs.Ytihfenkphhnbcaa
