/- What the walks of both kinds of regex have in common. -/
import Derived.Test.YtpmeicclngckeaaGreatDoorMaB
import Derived.Test.YtpmeicclngckeaaGreatDoorMaC
import Derived.Test.YtpmeicclngckeaaGreatDoorNdAo
import Derived.Test.YtpmeicclngckeaaGreatDoorNdInner
namespace Go.Proofs.YtpmeicclngckeaaGreatDoor
open Go Go.RowKit

/-- A mark as cells. -/
def markC (m : Nat × Nat) : List Value := [.int .i64 (m.1 : Int), .string ⟨#[92, UInt8.ofNat m.2]⟩]
def marksC (l : List (Nat × Nat)) : List Value := l.flatMap markC
theorem marksC_len (l : List (Nat × Nat)) : (marksC l).length = l.length * 2 := by
  induction l with
  | nil => rfl
  | cons m l ih =>
    show (markC m ++ marksC l).length = _
    rw [List.length_append, ih, List.length_cons]
    simp [markC]
    omega
theorem marksC_snoc (l : List (Nat × Nat)) (m : Nat × Nat) : marksC (l ++ [m]) = marksC l ++ markC m := by unfold marksC; rw [List.flatMap_append]; simp
theorem mark_info : ∃ i, Tryz.prog.info? 174 = some i ∧ i.zero = some (.agg #[.int .i64 0, .string ⟨#[]⟩]) ∧ i.size = 2 ∧ i.bytes = 24 := by
  have h : (Tryz.prog.info? 174).map (fun i => (i.zero, i.size, i.bytes)) = some (some (.agg #[.int .i64 0, .string ⟨#[]⟩]), 2, 24) := by kernel_rfl
  obtain ⟨i, hi, he⟩ := Option.map_eq_some_iff.1 h
  injection he with h1 h2
  injection h2 with h2 h3
  exact ⟨i, hi, h1, h2, h3⟩
theorem own_lt' {B : Nat} {w : World} {e : TypeId} {size n : Nat} {v : Value} {us : List Value} (h : w.ownsRow B e size v n us) (g : Nat) (hg : v.ownBlock = some g) : g < w.heap.size := by
  rcases h.2 with ⟨rfl, _⟩ | ⟨g', cap, cur, rfl, _, hh, _⟩
  · simp [Value.ownBlock] at hg
  · simp [Value.ownBlock] at hg
    subst hg
    exact (Array.getElem?_eq_some_iff.1 hh).1
/-- A set in a block of its own. -/
structure AtSet (w0 : World) (a : Nat) (t : OSet) (wx : World) : Prop where
  b : Below w0.heap.size w0 wx
  s : Blk wx a #[.int .u64 (ow t 0), .int .u64 (ow t 1), .int .u64 (ow t 2), .int .u64 (ow t 3)] 27
  lo : w0.heap.size ≤ a
theorem blk_four {w : World} {a : Nat} {x y z u : Value} {T : TypeId} (h : Blk w a #[x, y, z, u] T) : w.cell? ⟨a, 0, none⟩ = some x ∧ w.cell? ⟨a, 1, none⟩ = some y ∧ w.cell? ⟨a, 2, none⟩ = some z ∧ w.cell? ⟨a, 3, none⟩ = some u ∧
    w.frozen? ⟨a, 0, none⟩ = false ∧ w.frozen? ⟨a, 1, none⟩ = false ∧ w.frozen? ⟨a, 2, none⟩ = false ∧ w.frozen? ⟨a, 3, none⟩ = false ∧ a < w.heap.size :=
  ⟨(h.cell 0).trans rfl, (h.cell 1).trans rfl, (h.cell 2).trans rfl, (h.cell 3).trans rfl, h.frozen 0, h.frozen 1, h.frozen 2, h.frozen 3, h.lt⟩
theorem xi_len (cl L : List UInt8) (q : Int × Int × Nat) (h0 : cl ≠ []) (h : ivl cl L = some q) : q.2.2 ≤ L.length := by
  unfold ivl at h
  split at h
  · rename_i hc
    injection h with h
    subst h
    rw [Bool.and_eq_true] at hc
    exact word_len _ _ _ hc.2 h0
  · cases h
theorem own_form' {w : World} {B : Nat} {e : TypeId} {size n : Nat} {v : Value} {us : List Value} (h : w.ownsRow B e size v n us) : ∃ a c, v = .slice a n c := by
  rcases h.2 with ⟨rfl, h0⟩ | ⟨g, cap, cur, rfl, _⟩
  · exact ⟨none, 0, by rw [h0]⟩
  · exact ⟨_, _, rfl⟩
theorem ndx_cat_form {F : Nat → Prop} {w : World} {l : List Nd} {v : Value} (h : NdX F w (.cat l) v) : ∃ a cap, v = .iface 92 (.agg #[.slice a l.length cap]) := by
  obtain ⟨n, h⟩ := h
  cases n with
  | zero => exact h.elim
  | succ n => obtain ⟨a, cap, h1, _⟩ := h; exact ⟨a, cap, h1⟩
/-- What Parse answers. -/
def PAns (r : ReRes (ReSt × Nd)) (w : World) (e : Ending) (w' : World) : Prop := Below w.heap.size w w' ∧ match r with
  | .error q => e = .returned (.tuple #[.nilIface, .slice none 0 0, .int .i64 (q.2 : Int), .int .i64 (q.1 : Int)])
  | .ok q => ∃ v mv, e = .returned (.tuple #[v, mv, .int .i64 0, .int .i64 0]) ∧ NdX (fun b => w.heap.size ≤ b) w' q.2 v ∧ w'.ownsRow w.heap.size 174 2 mv q.1.marks.length (marksC q.1.marks)
/-- What an own row of marks holds. -/
theorem marks_form {w : World} {B : Nat} {v : Value} {l : List (Nat × Nat)} (h : w.ownsRow B 174 2 v l.length (marksC l)) :
    ∃ a cap, v = .slice a l.length cap ∧ l.length ≤ maxLen ∧ (∀ k, k < l.length → ∃ g, a = some ⟨g, 0, none⟩ ∧ w.cell? ⟨g, 0 + k * 2, none⟩ = some (.int .i64 ((l.getD k (0, 0)).1 : Int)) ∧ g < w.heap.size) := by
  obtain ⟨h1, h2⟩ := h
  rcases h2 with ⟨rfl, hz⟩ | ⟨g, cap, cur, rfl, hg, hh, hn, hcap, hcs, htk⟩
  · exact ⟨none, 0, by rw [hz], by rw [hz]; exact Nat.zero_le _, fun k hk => by omega⟩
  · refine ⟨_, cap, rfl, Nat.le_trans hn hcap, fun k hk => ⟨g, rfl, ?_, (Array.getElem?_eq_some_iff.1 hh).1⟩⟩
    have hc : w.cell? ⟨g, 0 + k * 2, none⟩ = cur[0 + k * 2]? := by simp [World.cell?, hh]
    rw [hc, Nat.zero_add, ← Array.getElem?_toList]
    have h3 : (cur.toList.take (l.length * 2))[k * 2]? = cur.toList[k * 2]? := List.getElem?_take_of_lt (by omega)
    rw [← h3, htk]
    clear h3 htk hc hh hcs h1 hg hn hcap
    induction l generalizing k with
    | nil => simp at hk
    | cons m ms ih =>
      show (markC m ++ marksC ms)[k * 2]? = _
      cases k with
      | zero => rfl
      | succ k =>
        rw [List.getElem?_append_right (by simp [markC]; omega)]
        have := ih k (by simpa using hk)
        rw [show (k + 1) * 2 - (markC m).length = k * 2 by simp [markC]; omega, this]
        rfl
theorem rep_none {s : List UInt8} {k : Nat} (h0 : chAt s k 42 = false) (h1 : esAt s k 43 = false) (h2 : esAt s k 63 = false) (h : esAt s k 123 = false) : repAt false s k = .none := by unfold repAt; simp [h0, h1, h2, opAt, h]
theorem rep_star {s : List UInt8} {k : Nat} (h : chAt s k 42 = true) : repAt false s k = .some 0 (-1) 0 (k + 1) := by unfold repAt; rw [if_pos h]
theorem rep_plus {s : List UInt8} {k : Nat} (h0 : chAt s k 42 = false) (h : esAt s k 43 = true) : repAt false s k = .some 1 (-1) 43 (k + 2) := by unfold repAt; simp [h0, opAt, opLen, h]
theorem rep_ask {s : List UInt8} {k : Nat} (h0 : chAt s k 42 = false) (h1 : esAt s k 43 = false) (h : esAt s k 63 = true) : repAt false s k = .some 0 1 63 (k + 2) := by unfold repAt; simp [h0, h1, opAt, opLen, h]
theorem rep_intv {s : List UInt8} {k : Nat} {m n : Int} {j : Nat} (h0 : chAt s k 42 = false) (h1 : esAt s k 43 = false) (h2 : esAt s k 63 = false) (h : esAt s k 123 = true) (hi : intv false s (k + 2) = some (m, n, j)) : repAt false s k = .some m n 0 j := by unfold repAt; simp [h0, h1, h2, opAt, opLen, h, hi]
theorem rep_bad {s : List UInt8} {k : Nat} (h0 : chAt s k 42 = false) (h1 : esAt s k 43 = false) (h2 : esAt s k 63 = false) (h : esAt s k 123 = true) (hi : intv false s (k + 2) = none) : repAt false s k = .bad := by unfold repAt; simp [h0, h1, h2, opAt, opLen, h, hi]
theorem not_oz : (~~~oz : OSet) = oSpan 0 255 := by decide +kernel
end Go.Proofs.YtpmeicclngckeaaGreatDoor
