/- A node's parts: the program's inner. -/
import Derived.Test.YtjjhkagpoicimaaNdTa
import Derived.Lib.Hide
namespace Go.Proofs.Ytjjhkagpoicimaa
open Go.RowKit

/-- A node in memory, however deep; a row of such. -/
def NdX (F : Nat → Prop) (w : World) (d : Nd) (v : Value) : Prop := ∃ n, NdAt F n w d v
def NdRw (F : Nat → Prop) (w : World) (l : List Nd) (a : Option Addr) (cap : Nat) : Prop :=
  l.length ≤ cap ∧ cap ≤ maxLen ∧ (0 < l.length → ∃ b o, a = some ⟨b, o, none⟩ ∧ F b ∧ b < w.heap.size ∧ ∀ i (h : i < l.length), ∃ u, w.cell? ⟨b, o + i, none⟩ = some u ∧ NdX F w l[i] u)
theorem NdX.keep {F G : Nat → Prop} {w w' : World} (hs : w.heap.size ≤ w'.heap.size) (hF : ∀ b, F b → b < w.heap.size → G b ∧ ∀ o, w'.cell? ⟨b, o, none⟩ = w.cell? ⟨b, o, none⟩) {d : Nd} {v : Value} (h : NdX F w d v) : NdX G w' d v := by
  obtain ⟨n, h⟩ := h
  exact ⟨n, NdAt.keep hs hF n d v h⟩
theorem NdRw.keep {F G : Nat → Prop} {w w' : World} (hs : w.heap.size ≤ w'.heap.size) (hF : ∀ b, F b → b < w.heap.size → G b ∧ ∀ o, w'.cell? ⟨b, o, none⟩ = w.cell? ⟨b, o, none⟩) {l : List Nd} {a : Option Addr} {cap : Nat} (h : NdRw F w l a cap) : NdRw G w' l a cap := by
  refine ⟨h.1, h.2.1, fun h0 => ?_⟩
  obtain ⟨b, o, rfl, hf, hb, hx⟩ := h.2.2 h0
  refine ⟨b, o, rfl, (hF b hf hb).1, Nat.lt_of_lt_of_le hb hs, fun i hi => ?_⟩
  obtain ⟨u, hu, hr⟩ := hx i hi
  exact ⟨u, ((hF b hf hb).2 _).trans hu, hr.keep hs hF⟩
theorem NdX.below {F : Nat → Prop} {w w' : World} (hb : Below w.heap.size w w') {d : Nd} {v : Value} (h : NdX F w d v) : NdX F w' d v :=
  h.keep hb.size (fun b hf hlt => ⟨hf, fun o => hb.cell (p := ⟨b, o, none⟩) hlt⟩)
theorem NdRw.below {F : Nat → Prop} {w w' : World} (hb : Below w.heap.size w w') {l : List Nd} {a : Option Addr} {cap : Nat} (h : NdRw F w l a cap) : NdRw F w' l a cap :=
  h.keep hb.size (fun b hf hlt => ⟨hf, fun o => hb.cell (p := ⟨b, o, none⟩) hlt⟩)
theorem NdX.drew {F : Nat → Prop} {w : World} {d : Nd} {v : Value} (h : NdX F w d v) : NdX F w.drew d v := h.below (Below.drew (Below.refl _ _))
theorem NdRw.drew {F : Nat → Prop} {w : World} {l : List Nd} {a : Option Addr} {cap : Nat} (h : NdRw F w l a cap) : NdRw F w.drew l a cap := h.below (Below.drew (Below.refl _ _))
theorem NdRw.nil (F : Nat → Prop) (w : World) (a : Option Addr) (cap : Nat) (h : cap ≤ maxLen) : NdRw F w [] a cap := ⟨Nat.zero_le _, h, fun h => absurd h (by simp)⟩
theorem NdRw.of {F : Nat → Prop} {n : Nat} {w : World} {l : List Nd} {a : Option Addr} {cap : Nat} (h : NdRow F n w l a cap) : NdRw F w l a cap := by
  refine ⟨h.1, h.2.1, fun h0 => ?_⟩
  obtain ⟨b, o, rfl, hf, hb, hx⟩ := h.2.2 h0
  refine ⟨b, o, rfl, hf, hb, fun i hi => ?_⟩
  obtain ⟨u, hu, hr⟩ := hx i hi
  exact ⟨u, hu, n, hr⟩
/-- The first of a row, and the others. -/
theorem NdRw.tail {F : Nat → Prop} {w : World} {d : Nd} {l : List Nd} {a : Option Addr} {cap : Nat} (h : NdRw F w (d :: l) a cap) :
    ∃ b o u, a = some ⟨b, o, none⟩ ∧ F b ∧ b < w.heap.size ∧ 1 ≤ cap ∧ w.cell? ⟨b, o, none⟩ = some u ∧ NdX F w d u ∧ NdRw F w l (some ⟨b, o + 1, none⟩) (cap - 1) := by
  obtain ⟨b, o, rfl, hf, hb, hx⟩ := h.2.2 (by simp)
  obtain ⟨u, hu, hr⟩ := hx 0 (by simp)
  have h1 := h.1
  have h2 := h.2.1
  simp at h1
  refine ⟨b, o, u, rfl, hf, hb, by omega, hu, hr, by omega, by omega, fun _ => ⟨b, o + 1, rfl, hf, hb, fun i hi => ?_⟩⟩
  obtain ⟨u', hu', hr'⟩ := hx (i + 1) (by simpa using hi)
  exact ⟨u', by rw [← hu', Nat.add_assoc, Nat.add_comm 1 i], by simpa using hr'⟩
/-- A row of one node, just made. -/
theorem ndrw_one {F G : Nat → Prop} {w : World} {d : Nd} {u : Value} {T : TypeId} {k : Nat} (hk : w.heap.size = k) (h : NdX F w d u) (hG : ∀ b, F b → b < w.heap.size → G b) (hn : G w.heap.size) : NdRw G (w.alloc (.cells #[u] T)) [d] (some ⟨k, 0, none⟩) 1 := by
  subst hk
  have hb := Blk.new w #[u] T _ rfl
  refine ⟨Nat.le_refl _, by decide, fun _ => ⟨w.heap.size, 0, rfl, hn, hb.lt, fun i hi => ?_⟩⟩
  obtain rfl : i = 0 := by simp at hi; exact hi
  have hB := (Below.refl w.heap.size w).alloc (Nat.le_refl _) (.cells #[u] T)
  exact ⟨u, (hb.cell 0).trans rfl, h.keep hB.size (fun b hf hlt => ⟨hG b hf hlt, fun o => hB.cell (p := ⟨b, o, none⟩) hlt⟩)⟩
set_option linter.unusedSimpArgs false in
set_option maxRecDepth 100000 in
set_option maxHeartbeats 2000000 in
theorem inner_any {F : Nat → Prop} (d : Nd) (v : Value) (w : World) (h : NdX F w d v) :
    Calls Try.prog 39 #[v] w fun e w' => ∃ a cap, e = .returned (.slice a (nkids d).length cap) ∧ NdRw (fun b => F b ∨ w.heap.size ≤ b) w' (nkids d) a cap ∧ Below w.heap.size w w' := by
  obtain ⟨n, h⟩ := h
  cases n with
  | zero => exact h.elim
  | succ n =>
    cases d with
    | empty =>
      rcases h with rfl | rfl
      · go_enter Try.func39, Try.ntmps39
        go_wp2_with fail
        go_ret
        exact ⟨none, 0, rfl, NdRw.nil _ _ _ _ (by decide), Below.refl _ _⟩
      · go_enter Try.func39, Try.ntmps39
        go_wp2_with fail
        go_ret
        exact ⟨none, 0, rfl, NdRw.nil _ _ _ _ (by decide), Below.refl _ _⟩
    | one s =>
      obtain rfl := h
      go_enter Try.func39, Try.ntmps39
      go_wp2_with fail
      go_ret
      exact ⟨none, 0, rfl, NdRw.nil _ _ _ _ (by decide), Below.refl _ _⟩
    | back num =>
      obtain rfl := h
      go_enter Try.func39, Try.ntmps39
      go_wp2_with fail
      go_ret
      exact ⟨none, 0, rfl, NdRw.nil _ _ _ _ (by decide), Below.refl _ _⟩
    | start =>
      obtain rfl := h
      go_enter Try.func39, Try.ntmps39
      go_wp2_with fail
      go_ret
      exact ⟨none, 0, rfl, NdRw.nil _ _ _ _ (by decide), Below.refl _ _⟩
    | fin =>
      obtain rfl := h
      go_enter Try.func39, Try.ntmps39
      go_wp2_with fail
      go_ret
      exact ⟨none, 0, rfl, NdRw.nil _ _ _ _ (by decide), Below.refl _ _⟩
    | cat l =>
      obtain ⟨a, cap, rfl, hx⟩ := h
      have hR : NdRw F w l a cap := NdRw.of (n := n) hx
      clear hx
      go_enter Try.func39, Try.ntmps39
      go_wp2_with fail
      go_ret
      have hB := (Below.refl w.heap.size w).alloc (Nat.le_refl _) (.cells #[.slice a l.length cap] 71)
      exact ⟨a, cap, rfl, hR.keep hB.size (fun b hf hlt => ⟨.inl hf, fun o => hB.cell (p := ⟨b, o, none⟩) hlt⟩), hB⟩
    | alt l =>
      obtain ⟨a, cap, rfl, hx⟩ := h
      have hR : NdRw F w l a cap := NdRw.of (n := n) hx
      clear hx
      go_enter Try.func39, Try.ntmps39
      go_wp2_with fail
      go_ret
      have hB := (Below.refl w.heap.size w).alloc (Nat.le_refl _) (.cells #[.slice a l.length cap] 72)
      exact ⟨a, cap, rfl, hR.keep hB.size (fun b hf hlt => ⟨.inl hf, fun o => hB.cell (p := ⟨b, o, none⟩) hlt⟩), hB⟩
    | rep d mn mx =>
      obtain ⟨u, rfl, hu⟩ := h
      have hX : NdX F w d u := ⟨n, hu⟩
      rcases nd_shape hu with ⟨T, q, rfl⟩ | rfl
      · clear hu
        go_enter Try.func39, Try.ntmps39
        go_wp2_with fail
        go_ret
        have hB := (Below.refl w.heap.size w).alloc (Nat.le_refl _) (.cells #[.iface T q, .int .i64 mn, .int .i64 mx] 57)
        refine ⟨_, _, rfl, ndrw_one (G := fun b => F b ∨ w.heap.size ≤ b) (by simp) (hX.below hB) (fun b hf _ => .inl hf) (.inr hB.size), hB.alloc hB.size _⟩
      · clear hu
        go_enter Try.func39, Try.ntmps39
        go_wp2_with fail
        go_ret
        have hB := (Below.refl w.heap.size w).alloc (Nat.le_refl _) (.cells #[.nilIface, .int .i64 mn, .int .i64 mx] 57)
        refine ⟨_, _, rfl, ndrw_one (G := fun b => F b ∨ w.heap.size ≤ b) (by simp) (hX.below hB) (fun b hf _ => .inl hf) (.inr hB.size), hB.alloc hB.size _⟩
    | group num d =>
      obtain ⟨u, rfl, hu⟩ := h
      have hX : NdX F w d u := ⟨n, hu⟩
      rcases nd_shape hu with ⟨T, q, rfl⟩ | rfl
      · clear hu
        go_enter Try.func39, Try.ntmps39
        go_wp2_with fail
        go_ret
        have hB := (Below.refl w.heap.size w).alloc (Nat.le_refl _) (.cells #[.int .i64 num, .iface T q] 74)
        refine ⟨_, _, rfl, ndrw_one (G := fun b => F b ∨ w.heap.size ≤ b) (by simp) (hX.below hB) (fun b hf _ => .inl hf) (.inr hB.size), hB.alloc hB.size _⟩
      · clear hu
        go_enter Try.func39, Try.ntmps39
        go_wp2_with fail
        go_ret
        have hB := (Below.refl w.heap.size w).alloc (Nat.le_refl _) (.cells #[.int .i64 num, .nilIface] 74)
        refine ⟨_, _, rfl, ndrw_one (G := fun b => F b ∨ w.heap.size ≤ b) (by simp) (hX.below hB) (fun b hf _ => .inl hf) (.inr hB.size), hB.alloc hB.size _⟩
end Go.Proofs.Ytjjhkagpoicimaa
