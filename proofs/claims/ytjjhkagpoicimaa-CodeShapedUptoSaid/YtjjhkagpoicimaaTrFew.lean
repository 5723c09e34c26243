/- Few: a node of few parts, of known kinds. -/
import Derived.Test.YtjjhkagpoicimaaTrWk
namespace Go.Proofs.Ytjjhkagpoicimaa
open Go.RowKit

set_option linter.unusedSimpArgs false in
set_option maxRecDepth 100000 in
set_option maxHeartbeats 1000000 in
theorem lfew_any (n : Nat) (t : Tr) (a : Option Addr) (cap : Nat) (most : Nat) (w : World) (h : TrAt n w t a cap) (hb : tall t ≤ 4000000) :
    Calls Try.prog 8 #[tV t a cap, .int .i64 (most : Int)] w fun e w' => e = .returned (.bool (decide (tall t ≤ most) && tknown t)) ∧ Below w.heap.size w w' := by
  have hT := (Blk.new w (tC t a cap) 27 _ rfl)
  have hW := (Below.refl w.heap.size w).alloc (Nat.le_refl _) (.cells (tC t a cap) 27)
  have hS := lsize_any n t a cap _ (TrAt.below hW _ _ _ _ h) hb
  have hKn := fun w' (hb : Below w.heap.size w w') => lknown_any n t a cap w' (TrAt.below hb _ _ _ _ h)
  unfold tV at hS hKn ⊢
  clear h
  go_enter Try.func8, Try.ntmps8
  go_wp2_with fail
  refine hS.mono ?_
  clear hS
  rintro e w1 ⟨rfl, b1⟩
  replace hW := hW.trans (b1.mono hW.size)
  replace hT := hT.below b1 hT.lt
  clear b1
  have q0 := (hT.cell 0).trans rfl
  have q1 := (hT.cell 1).trans rfl
  have q2 := (hT.cell 2).trans rfl
  have q3 := (hT.cell 3).trans rfl
  have q4 := (hT.cell 4).trans rfl
  have q5 := (hT.cell 5).trans rfl
  have q6 := (hT.cell 6).trans rfl
  have q7 := (hT.cell 7).trans rfl
  have q8 := (hT.cell 8).trans rfl
  by_cases hm : tall t ≤ most
  · have e1 : decide ((tall t : Int) ≤ (most : Int)) = true := decide_eq_true (by omega)
    have e2 : decide (tall t ≤ most) = true := decide_eq_true hm
    have He := Lib.hid e2
    clear hm hb
    go_wp2_with fail
    refine (hKn _ hW).mono ?_
    rintro e w2 ⟨rfl, b2⟩
    replace hW := hW.trans (b2.mono hW.size)
    go_wp2_with fail
    go_ret
    exact ⟨tr_ret_bool (by rw [He.out, Bool.true_and]), hW⟩
  · have e1 : decide ((tall t : Int) ≤ (most : Int)) = false := decide_eq_false (by omega)
    have e2 : decide (tall t ≤ most) = false := decide_eq_false hm
    have He := Lib.hid e2
    clear hm hb
    go_wp2_with fail
    go_ret
    exact ⟨tr_ret_bool (by rw [He.out]; rfl), hW⟩
end Go.Proofs.Ytjjhkagpoicimaa
