/- The builder's small ways: an instruction without a set, tooLong, enter. -/
import Derived.Test.YtjjhkagpoicimaaCbA
namespace Go.Proofs.Ytjjhkagpoicimaa
open Go Go.RowKit

theorem inC_ins (op x y : Int) : (inC (ins op x y)).toArray = #[.int .i64 op, .int .u64 0, .int .u64 0, .int .u64 0, .int .u64 0, .int .i64 x, .int .i64 y] := by
  unfold inC ins
  simp only [show ow (0 : OSet) 0 = 0 from ow_zero 0, show ow (0 : OSet) 1 = 0 from ow_zero 1, show ow (0 : OSet) 2 = 0 from ow_zero 2, show ow (0 : OSet) 3 = 0 from ow_zero 3]
theorem lay_ins {B p : Nat} {l : List Inn} {g : Int} {k : Nat} {bk : Bool} {iv tv : Value} {ts : List Value} (op x y : Int) (w : World) (h : Bld B p w l g k bk iv tv ts) (hl : l.length ≤ 2000000) :
    Calls Try.prog 22 #[.pointer (some ⟨p, 0, none⟩), .agg #[.int .i64 op, .int .u64 0, .int .u64 0, .int .u64 0, .int .u64 0, .int .i64 x, .int .i64 y]] w fun e w' => e = .returned (.int .i64 (l.length : Int)) ∧ ∃ iv', Bld B p w' (l ++ [ins op x y]) g k bk iv' tv ts ∧ CStep p w iv tv w' iv' tv ∧ Mv p w iv w' iv' := by
  have := lay_any (ins op x y) w h hl
  rw [inC_ins] at this
  exact this

set_option linter.unusedSimpArgs false in
theorem toolong_any {B p : Nat} {l : List Inn} {g : Int} {k : Nat} {bk : Bool} {iv tv : Value} {ts : List Value} (w : World) (h : Bld B p w l g k bk iv tv ts) :
    Calls Try.prog 24 #[.pointer (some ⟨p, 0, none⟩)] w fun e w' => e = .returned (.bool (decide (3000 < l.length))) ∧ w' = w := by
  obtain ⟨ia, ic, rfl⟩ := co_form h.io
  have c0 := h.cells.c0
  have hd : decide ((3000 : Int) < (l.length : Int)) = decide (3000 < l.length) := decide_eq_decide.2 (by omega)
  clear h
  go_enter Try.func24, Try.ntmps24
  go_wp2
  go_ret
  exact ⟨by rw [← hd]; rfl, rfl⟩

set_option linter.unusedSimpArgs false in
set_option maxRecDepth 100000 in
set_option maxHeartbeats 2000000 in
theorem enter_any {B p : Nat} {l : List Inn} {g : Int} {k : Nat} {bk : Bool} {iv tv : Value} {ts : List Value} (y : Int) (w : World) (h : Bld B p w l g k bk iv tv ts) (hl : l.length ≤ 1000000) (hk : k ≤ 1000000) :
    Calls Try.prog 57 #[.pointer (some ⟨p, 0, none⟩), .int .i64 y] w fun e w' => e = .returned (.int .i64 (k : Int)) ∧ ∃ iv', Bld B p w' (l ++ [ins 1 (l.length + 1 : Nat) y, ins 7 k 0]) g (k + 1) bk iv' tv ts ∧ CStep p w iv tv w' iv' tv := by
  obtain ⟨ia, ic, rfl⟩ := co_form h.io
  obtain ⟨K, hK⟩ : ∃ K, k + 1 = K := ⟨_, rfl⟩
  obtain ⟨L, hL⟩ : ∃ L, l.length + 1 = L := ⟨_, rfl⟩
  rw [hK, hL]
  obtain ⟨hB, hS⟩ := h.setLoops K
  have Wk : IntKind.i64.wrap ((k : Int) + 1) = (K : Int) := by rw [IntWalk.i64_in _ (by omega)]; omega
  have Wl : IntKind.i64.wrap ((l.length : Int) + 1) = (L : Int) := by rw [IntWalk.i64_in _ (by omega)]; omega
  have hc := h.cells
  have c2 := hc.c2
  have z2 := hc.z2
  have c0 := hB.cells.c0
  have h1 := lay_ins 1 (L : Int) y _ hB (by omega)
  have h2 := fun (iv' : Value) (w' : World) (hb : Bld B p w' (l ++ [ins 1 (L : Int) y]) g K bk iv' tv ts) => lay_ins 7 k 0 w' hb (by simp; omega)
  have HS := Lib.hid hS
  clear h hB hS hc
  go_enter Try.func57, Try.ntmps57
  go_wp2_with (go_at_call 22; refine h1.mono ?_; rintro e w1 ⟨rfl, iv1, hB1, hS1, _⟩; have h3 := h2 iv1 w1 hB1; clear h1 h2)
  refine h3.mono ?_
  clear h3
  rintro e w2 ⟨rfl, iv2, hB2, hS2, _⟩
  have Hfin := Lib.hid (And.intro hB2 ((HS.out.trans hS1).trans hS2))
  clear hB1 hS1 hB2 hS2 HS
  go_wp2_with fail
  go_ret
  refine ⟨rfl, iv2, ?_, Hfin.out.2⟩
  have := Hfin.out.1
  rw [List.append_assoc] at this
  exact this
end Go.Proofs.Ytjjhkagpoicimaa
