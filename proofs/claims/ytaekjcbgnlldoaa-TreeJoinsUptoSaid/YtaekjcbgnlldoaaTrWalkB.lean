/- Walks over the document's trees: what a node is of; its parts; how many nodes. -/
import Derived.Test.YtaekjcbgnlldoaaTrWalkA
import Derived.Test.YtaekjcbgnlldoaaNdMath
namespace Go.Proofs.Ytaekjcbgnlldoaa
open Go.RowKit

/-- The cells of a node that isn't there yet. -/
abbrev zC : Array Value := #[.int .i64 0, .int .u64 0, .int .u64 0, .int .u64 0, .int .u64 0, .slice none 0 0, .int .i64 0, .int .i64 0, .int .i64 0]
/-- A Rep, or a Group, without a part is of an empty node that isn't there. -/
def kb (t : Tr) : Nat := if (t.kind = 4 ∨ t.kind = 5) ∧ t.parts = [] then 1 else 0
/-- A node in memory, by how far its parts' parts go. -/
def TrD (N : Nat) (w : World) (t : Tr) (a : Option Addr) (cap : Nat) : Prop := ∃ n, TrAt n w t a cap ∧ 2 * n + kb t ≤ N
/-- A row of nodes. -/
def RowD (N : Nat) (w : World) (l : List Tr) (a : Option Addr) (cap : Nat) : Prop :=
  l.length ≤ cap ∧ cap ≤ maxLen ∧ (0 < l.length → ∃ b o, a = some ⟨b, o, none⟩ ∧ b < w.heap.size ∧ ∀ i (h : i < l.length), ∃ a' cap', Cl9 w b (o + i * 9) l[i] a' cap' ∧ TrD N w l[i] a' cap')
theorem TrD.below {N : Nat} {w w' : World} {t : Tr} {a : Option Addr} {cap : Nat} (h : TrD N w t a cap) (hb : Below w.heap.size w w') : TrD N w' t a cap := by
  obtain ⟨n, h1, h2⟩ := h
  exact ⟨n, TrAt.below hb _ _ _ _ h1, h2⟩
theorem RowD.below {N : Nat} {w w' : World} {l : List Tr} {a : Option Addr} {cap : Nat} (h : RowD N w l a cap) (hb : Below w.heap.size w w') : RowD N w' l a cap := by
  refine ⟨h.1, h.2.1, fun h0 => ?_⟩
  obtain ⟨b, o, rfl, hlt, hk⟩ := h.2.2 h0
  refine ⟨b, o, rfl, Nat.lt_of_lt_of_le hlt hb.size, fun i hi => ?_⟩
  obtain ⟨a', cap', h9, hr⟩ := hk i hi
  exact ⟨a', cap', h9.below hb hlt, hr.below hb⟩
theorem kb_le (t : Tr) : kb t ≤ 1 := by unfold kb; split <;> omega
theorem tz_at (w : World) : TrAt 1 w tz none 0 := ⟨Nat.le_refl 0, Nat.zero_le _, fun h => absurd h (by simp [tz, Tr.parts])⟩
/-- A node's parts in memory, a level further down. -/
theorem TrD.row {N : Nat} {w : World} {t : Tr} {a : Option Addr} {cap : Nat} (h : TrD (N + 1) w t a cap) : RowD N w t.parts a cap := by
  obtain ⟨n, h1, h2⟩ := h
  cases n with
  | zero => exact h1.elim
  | succ n =>
    refine ⟨h1.1, h1.2.1, fun h0 => ?_⟩
    obtain ⟨b, o, rfl, hlt, hk⟩ := h1.2.2 h0
    refine ⟨b, o, rfl, hlt, fun i hi => ?_⟩
    obtain ⟨a', cap', h9, hr⟩ := hk i hi
    have := kb_le t.parts[i]
    exact ⟨a', cap', h9, n, hr, by omega⟩
theorem TrD.tz {N : Nat} {w w' : World} {t : Tr} {a : Option Addr} {cap : Nat} (h : TrD (N + 1) w t a cap) (hk : t.kind = 4 ∨ t.kind = 5) (hp : t.parts = []) : TrD N w' Go.Proofs.Ytaekjcbgnlldoaa.tz none 0 := by
  obtain ⟨n, h1, h2⟩ := h
  cases n with
  | zero => exact h1.elim
  | succ n =>
    refine ⟨1, tz_at w', ?_⟩
    have h3 : kb t = 1 := by unfold kb; rw [if_pos ⟨hk, hp⟩]
    have h4 : kb Go.Proofs.Ytaekjcbgnlldoaa.tz = 0 := rfl
    omega
/-- A row of one node, just made. -/
theorem row_one {N : Nat} {w : World} {x : Tr} {a : Option Addr} {cap : Nat} {T : TypeId} (h : TrD N w x a cap) : RowD N (w.alloc (.cells (tC x a cap) T)) [x] (some ⟨w.heap.size, 0, none⟩) 1 := by
  have hb := Blk.new w (tC x a cap) T _ rfl
  refine ⟨Nat.le_refl _, by decide, fun _ => ⟨w.heap.size, 0, rfl, hb.lt, fun i hi => ?_⟩⟩
  obtain rfl : i = 0 := by simp at hi; exact hi
  exact ⟨a, cap, ⟨(hb.cell 0).trans rfl, (hb.cell 1).trans rfl, (hb.cell 2).trans rfl, (hb.cell 3).trans rfl, (hb.cell 4).trans rfl, (hb.cell 5).trans rfl, (hb.cell 6).trans rfl, (hb.cell 7).trans rfl, (hb.cell 8).trans rfl⟩,
    h.below ((Below.refl _ _).alloc (Nat.le_refl _) _)⟩
set_option linter.unusedSimpArgs false in
set_option maxRecDepth 100000 in
set_option maxHeartbeats 1000000 in
theorem tof_any (N : Nat) (t : Tr) (a : Option Addr) (cap : Nat) (w : World) (h : TrD (N + 1) w t a cap) (hk : t.kind = 4 ∨ t.kind = 5) :
    Calls Try.prog 37 #[tV t a cap] w fun e w' => ∃ a' cap', e = .returned (tV (tof t) a' cap') ∧ TrD N w' (tof t) a' cap' ∧ Below w.heap.size w w' := by
  have hW := (Below.refl w.heap.size w).alloc (Nat.le_refl _) (.cells (tC t a cap) 27)
  have hR := h.row
  by_cases h0 : 0 < t.parts.length
  · obtain ⟨b, o, rfl, hlt, hx⟩ := hR.2.2 h0
    obtain ⟨a', cap', h9, hr⟩ := hx 0 h0
    have hto : tof t = t.parts[0] := by
      unfold tof
      rw [List.headD_eq_head?_getD, List.head?_eq_getElem?, List.getElem?_eq_getElem h0]
      rfl
    rw [hto]
    have hl := hR.1
    have hl2 := hR.2.1
    unfold maxLen at hl2
    replace h9 := h9.below hW hlt
    replace hr := hr.below hW
    have e0 : ((t.parts.length : Int) == 0) = false := by rw [beq_eq_false_iff_ne]; omega
    obtain ⟨c0, c1, c2, c3, c4, c5, c6, c7, c8⟩ := h9
    simp only [Nat.zero_mul, Nat.add_zero] at c0 c1 c2 c3 c4 c5 c6 c7 c8
    clear hx hR h
    generalize t.parts[0] = x at *
    unfold tV
    go_enter Try.func37, Try.ntmps37
    go_wp2_with fail
    refine bodyPost_ret (v := tV x a' cap') (by simp [results, Try.results37, go_sem, tV]) rfl ⟨a', cap', rfl, hr.below ((Below.refl _ _).alloc (Nat.le_refl _) _), hW.alloc hW.size _⟩
  · have hp : t.parts = [] := List.eq_nil_of_length_eq_zero (by omega)
    have hto : tof t = tz := by unfold tof; rw [hp]; rfl
    have hz := fun w' => h.tz (w' := w') hk hp
    rw [hto]
    have hpl : t.parts.length = 0 := by rw [hp]; rfl
    clear hR h
    unfold tV
    rw [hpl]
    go_enter Try.func37, Try.ntmps37
    go_wp2_with fail
    refine bodyPost_ret (v := tV tz none 0) (by simp [results, Try.results37, go_sem, tV, tz, Tr.kind, Tr.set, Tr.parts, Tr.mn, Tr.mx, Tr.num, ow_zero]) rfl ⟨none, 0, rfl, hz _, ?_⟩
    repeat (first | (with_reducible exact hW) | (with_reducible exact Below.refl _ _) | refine Below.setCell ?_ (by first | omega | (simp; omega) | simp) _ | refine Below.alloc ?_ (by first | omega | (simp; omega) | simp) _)
set_option linter.unusedSimpArgs false in
set_option maxRecDepth 100000 in
set_option maxHeartbeats 2000000 in
theorem kids_any (N : Nat) (t : Tr) (a : Option Addr) (cap : Nat) (w : World) (h : TrD (N + 1) w t a cap) :
    Calls Try.prog 29 #[tV t a cap] w fun e w' => ∃ a' cap', e = .returned (.slice a' (tkids t).length cap') ∧ RowD N w' (tkids t) a' cap' ∧ Below w.heap.size w w' := by
  have hW := (Below.refl w.heap.size w).alloc (Nat.le_refl _) (.cells (tC t a cap) 27)
  by_cases h23 : t.kind = 2 ∨ t.kind = 3
  · have hk : tkids t = t.parts := by unfold tkids; rw [if_pos h23]
    have hR := h.row.below hW
    rw [hk]
    clear h hk
    rcases h23 with h2 | h3
    · have e2 : (t.kind == 2) = true := by simp [h2]
      clear h2
      unfold tV
      go_enter Try.func29, Try.ntmps29
      go_wp2_with fail
      go_ret
      exact ⟨a, cap, rfl, hR, hW⟩
    · have e2 : (t.kind == 2) = false := by simp [h3]
      have e3 : (t.kind == 3) = true := by simp [h3]
      clear h3
      unfold tV
      go_enter Try.func29, Try.ntmps29
      go_wp2_with fail
      go_ret
      exact ⟨a, cap, rfl, hR, hW⟩
  · have e2 : (t.kind == 2) = false := by simp; omega
    have e3 : (t.kind == 3) = false := by simp; omega
    by_cases h45 : t.kind = 4 ∨ t.kind = 5
    · have hk : tkids t = [tof t] := by unfold tkids; rw [if_neg h23, if_pos h45]
      rw [hk]
      have hO := tof_any N t a cap _ (h.below hW) h45
      unfold tV at hO ⊢
      clear h hk h23
      generalize tof t = x at hO ⊢
      rcases h45 with h4 | h5
      · have e4 : (t.kind == 4) = true := by simp [h4]
        clear h4
        go_enter Try.func29, Try.ntmps29
        go_wp2_with fail
        refine hO.mono ?_
        clear hO
        rintro e w1 ⟨a', cap', rfl, hr, b1⟩
        replace hW := hW.trans (b1.mono hW.size)
        clear b1
        go_wp2_with fail
        go_ret
        exact ⟨some ⟨w1.heap.size, 0, none⟩, 1, rfl, row_one hr, hW.alloc hW.size _⟩
      · have e4 : (t.kind == 4) = false := by simp [h5]
        have e5 : (t.kind == 5) = true := by simp [h5]
        clear h5
        go_enter Try.func29, Try.ntmps29
        go_wp2_with fail
        refine hO.mono ?_
        clear hO
        rintro e w1 ⟨a', cap', rfl, hr, b1⟩
        replace hW := hW.trans (b1.mono hW.size)
        clear b1
        go_wp2_with fail
        go_ret
        exact ⟨some ⟨w1.heap.size, 0, none⟩, 1, rfl, row_one hr, hW.alloc hW.size _⟩
    · have hk : tkids t = [] := by unfold tkids; rw [if_neg h23, if_neg h45]
      have e4 : (t.kind == 4) = false := by simp; omega
      have e5 : (t.kind == 5) = false := by simp; omega
      rw [hk]
      clear h hk h23 h45
      unfold tV
      go_enter Try.func29, Try.ntmps29
      go_wp2_with fail
      go_ret
      exact ⟨none, 0, rfl, ⟨Nat.le_refl 0, Nat.zero_le _, fun h => absurd h (by simp)⟩, hW⟩
end Go.Proofs.Ytaekjcbgnlldoaa
