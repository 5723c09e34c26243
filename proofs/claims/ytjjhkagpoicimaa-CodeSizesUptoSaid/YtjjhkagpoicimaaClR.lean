/- Shared by the statements of layer 7 over trees. -/
import Derived.Test.YtjjhkagpoicimaaTrRight
import Derived.Test.YtjjhkagpoicimaaTrFew
import Derived.Test.YtjjhkagpoicimaaTrReal
import Derived.Test.YtjjhkagpoicimaaNdInner
namespace Go.Proofs.Ytjjhkagpoicimaa
open Go Go.RowKit

set_option linter.unusedSimpArgs false in
set_option maxRecDepth 100000 in
set_option maxHeartbeats 4000000 in
theorem right7 (N : Nat) (t : Tr) (a : Option Addr) (cap : Nat) (w : World) (h : TrD N w t a cap) (hkn : tknown t = true) (hb : ngroups (canon t) ≤ 4000000) :
    Calls Try.prog 16 #[tV t a cap] w fun e w' => e = .returned (.bool (nrightB (canon t))) ∧ Below w.heap.size w w' := by
  have hW := (Below.refl w.heap.size w).alloc (Nat.le_refl _) (.cells (tC t a cap) 27)
  have hI := rright_any N t a cap 0 [] none 0 _ (h.below hW) hkn (IntsAt.nil _) (by omega) (by omega) (by simp; exact hb)
  unfold nrightB
  generalize nright (canon t) 0 [] = R at hI ⊢
  clear h
  unfold tV at hI ⊢
  simp only [List.length_nil] at hI
  go_enter Try.func16, Try.ntmps16
  go_wp2_with fail
  refine hI.mono ?_
  clear hI
  rintro e w1 ⟨he, b1⟩
  cases R with
  | none =>
    replace he : e = _ := he
    subst he
    go_wp2_with fail
    go_ret
    exact ⟨rfl, hW.trans (b1.mono hW.size)⟩
  | some q =>
    obtain ⟨a9, cap9, rfl, h9⟩ := he
    clear h9
    go_wp2_with fail
    go_ret
    exact ⟨rfl, hW.trans (b1.mono hW.size)⟩
theorem few7 {n : Nat} {w : World} {t : Tr} {a : Option Addr} {cap : Nat} (h : TrAt n w t a cap) (hb : tall t ≤ 1048576) (most : Int) (k : Nat) (hk : (k : Int) = most) :
    ∃ f : Bool, ∀ w', Below w.heap.size w w' → Calls Try.prog 8 #[tV t a cap, .int .i64 most] w' fun e w2 => e = .returned (.bool f) ∧ Below w'.heap.size w' w2 := by
  subst hk
  exact ⟨_, fun w' hw => lfew_any n t a cap k w' (TrAt.below hw _ _ _ _ h) (by omega)⟩
theorem size7 (t : Tr) (h : tall t ≤ 1048576) : nsize (canon t) ≤ 4000000 := by
  have := nsize_tall t
  omega
theorem trd7 {n : Nat} {w : World} {t : Tr} {a : Option Addr} {cap : Nat} (h : TrAt n w t a cap) : ∃ N, TrD N w t a cap := ⟨2 * n + 1, n, h, by have := kb_le t; omega⟩
/-- A right tree's canon has no more groups than nodes. -/
theorem real7 {N : Nat} {t : Tr} {a : Option Addr} {cap : Nat} {w : World} (h : TrD N w t a cap) (hs : nsize (canon t) ≤ 4000000) :
    Calls Try.prog 10 #[tV t a cap] w fun e w' => ∃ (T : TypeId) (v : Value), e = .returned (.iface T v) ∧ NdX (fun b => b < w'.heap.size) w' (canon t) (.iface T v) ∧ Below w.heap.size w w' := by
  refine (lreal_any N t a cap w h hs).mono ?_
  rintro e w' ⟨T, v, rfl, hd, hb⟩
  exact ⟨T, v, rfl, NdX.keep (F := fun b => w.heap.size ≤ b) (Nat.le_refl _) (fun b _ hl => ⟨hl, fun _ => rfl⟩) ⟨N, hd⟩, hb⟩
end Go.Proofs.Ytjjhkagpoicimaa
