/- Package files, walked: put, Lines, Has, Add. -/
import Derived.Test.YtnognicabhgmcaaDoorFiWa
import Derived.Deep.RegionLaw
import Derived.Deep.AppendLies
namespace Go.Proofs.YtnognicabhgmcaaDoor
open Go Go.RowKit

theorem eql_map (w : World) (b : Nat) : (binOp BinOp.eql 52 (.map (some b)) (.map none)).run Tryd.prog w = .ok (.bool false) w := by kernel_rfl
set_option linter.unusedVariables false in
set_option linter.unusedSimpArgs false in
set_option maxRecDepth 100000 in
set_option maxHeartbeats 4000000 in
theorem fiput_any {F : Nat → Prop} {p mp n : Nat} {V : List UInt8 → Value} {l : List Fl} {w : World} {x : List UInt8} (h : FBut (· ≠ x) F p mp n V l w) (hx : x.length ≤ maxLen) (hn : n < maxLen) {v : Value} {ls : List (List UInt8)} (hv : w.ownsRow 0 9 1 v ls.length (lnC ls)) (hb : ∀ b, v.ownBlock = some b → b ≠ p ∧ b ≠ mp ∧ F b ∧ ∀ y, y ≠ x → (V y).ownBlock ≠ some b) :
    Calls Tryd.prog 24 #[.pointer (some ⟨p, 0, none⟩), .string (txt x), v] w fun e w' => e = .returned (.tuple #[]) ∧ FAt F p mp (n + 1) (fun y => if y = x then v else V y) (put x ls l) w' ∧ w.grownBy w' (some mp) := by
  obtain ⟨w6, hup, hF6, hg6⟩ := h.store hx hn hv hb
  have c0 : w.cell? ⟨p, 0, none⟩ = some (.map (some mp)) := (h.blk.cell 0).trans rfl
  have hq := eql_map w mp
  have H6 := Lib.hid (And.intro hF6 hg6)
  clear hF6 hg6 h hv hb
  go_enter Tryd.func24, Tryd.ntmps24
  go_wp2_with fail
  go_end0
  exact ⟨rfl, H6.out⟩
set_option linter.unusedVariables false in
set_option linter.unusedSimpArgs false in
set_option maxRecDepth 100000 in
set_option maxHeartbeats 4000000 in
theorem filines_any {F : Nat → Prop} {p mp n : Nat} {V : List UInt8 → Value} {l : List Fl} {w : World} (x : List UInt8) (h : FAt F p mp n V l w) (hx : x.length ≤ maxLen) (hl : (gl l x).length ≤ 1000000) :
    Calls Tryd.prog 20 #[.pointer (some ⟨p, 0, none⟩), .string (txt x)] w fun e w' => ∃ v', e = .returned v' ∧ LnNew w (gl l x) v' w' := by
  have hlk := h.look hx
  have c0 : w.cell? ⟨p, 0, none⟩ = some (.map (some mp)) := (h.blk.cell 0).trans rfl
  have hC := ficlone_any (gl l x) (V x) w (h.row x trivial) hl
  generalize gl l x = ls at hC ⊢
  generalize V x = v at hC hlk
  clear h hl
  go_enter Tryd.func20, Tryd.ntmps20
  go_wp2_with (first | (go_at_call 27; refine hC.mono ?_; clear hC; rintro e w1 ⟨v1, rfl, h1⟩; have H1 := Lib.hid h1; clear h1))
  go_ret
  exact ⟨_, rfl, H1.out⟩
set_option linter.unusedVariables false in
set_option linter.unusedSimpArgs false in
set_option maxRecDepth 100000 in
set_option maxHeartbeats 4000000 in
theorem fihas_any {F : Nat → Prop} {p mp n : Nat} {V : List UInt8 → Value} {l : List Fl} {w : World} (x : List UInt8) (h : FAt F p mp n V l w) (hx : x.length ≤ maxLen) :
    Calls Tryd.prog 16 #[.pointer (some ⟨p, 0, none⟩), .string (txt x)] w fun e w' => e = .returned (.bool (fLines l x).isSome) ∧ w' = w := by
  have hlk := h.lookOk hx
  have c0 : w.cell? ⟨p, 0, none⟩ = some (.map (some mp)) := (h.blk.cell 0).trans rfl
  generalize (fLines l x).isSome = B at hlk ⊢
  clear h
  go_enter Tryd.func16, Tryd.ntmps16
  go_wp2_with fail
  go_ret
  exact ⟨rfl, rfl⟩
end Go.Proofs.YtnognicabhgmcaaDoor
