/- The program's bracket expressions, walked: a bracketed item; an item. -/
import Derived.Test.YtehikndlcepkgaaDoorBrProgB
namespace Go.Proofs.YtehikndlcepkgaaDoor
open Go.RowKit

/-- The package's variables as the program lays them. -/
structure Gl (w : World) : Prop where
  tab : TabIn w
  op0 : w.cell? ⟨0, 0, none⟩ = some (.int .u8 58)
  op1 : w.cell? ⟨0, 1, none⟩ = some (.int .u8 61)
  op2 : w.cell? ⟨0, 2, none⟩ = some (.int .u8 46)
  ml : ∃ m, w.cell? ⟨2, 0, none⟩ = some (.int .i64 m)
  lt : 3 ≤ w.heap.size
theorem Gl.below {w w' : World} {B : Nat} (h : Gl w) (hb : Below B w w') (hB : 3 ≤ B) : Gl w' :=
  ⟨tabIn_below h.tab hb (Nat.lt_of_lt_of_le (by decide) hB),
   (hb.cell (p := ⟨0, 0, none⟩) (Nat.lt_of_lt_of_le (by decide) hB)).trans h.op0,
   (hb.cell (p := ⟨0, 1, none⟩) (Nat.lt_of_lt_of_le (by decide) hB)).trans h.op1,
   (hb.cell (p := ⟨0, 2, none⟩) (Nat.lt_of_lt_of_le (by decide) hB)).trans h.op2,
   h.ml.imp fun _ hm => (hb.cell (p := ⟨2, 0, none⟩) (Nat.lt_of_lt_of_le (by decide) hB)).trans hm,
   Nat.le_trans h.lt hb.size⟩
theorem Gl.up {w w' : World} (h : Gl w) (hb : Below w.heap.size w w') : Gl w' := h.below hb h.lt
/-- What parseItem and parseOpened answer. -/
def pgV (s : OSet) (m : Bool) (at' : Nat) (er : Nat) : Value := .tuple #[.agg #[.int .u64 (ow s 0), .int .u64 (ow s 1), .int .u64 (ow s 2), .int .u64 (ow s 3), .bool m], .int .i64 (at' : Int), .int .i64 (er : Int)]
set_option linter.unusedSimpArgs false in
set_option maxRecDepth 100000 in
set_option maxHeartbeats 2000000 in
theorem opened_none (s : ByteArray) (k o : Nat) (w : World) (hs : s.size ≤ 1000000) (hk : k + 2 ≤ s.size) (hG : Gl w)
    (hcl : ∀ w, Gl w → Calls Tryd.prog 38 #[.string s, .int .i64 ((k : Int) + 2), .int .u8 (o : Int)] w fun e w' => e = .returned (.int .i64 (-1)) ∧ Below w.heap.size w w') :
    Calls Tryd.prog 35 #[.string s, .int .i64 (k : Int), .int .u8 (o : Int)] w fun e w' => e = .returned (pgV oz false s.size 5) ∧ Below w.heap.size w w' := by
  have hB := Blk.new w #[.int .u64 0, .int .u64 0, .int .u64 0, .int .u64 0, .bool false] 61 _ rfl; have hW := (Below.refl w.heap.size w).alloc (Nat.le_refl _) (.cells #[.int .u64 0, .int .u64 0, .int .u64 0, .int .u64 0, .bool false] 61)
  have Wn : IntKind.i64.wrap ((k : Int) + 2) = (k : Int) + 2 := IntWalk.i64_in _ (by omega)
  have hG1 := hG.up hW
  go_enter Tryd.func35, Tryd.ntmps35
  go_wp2_with fail
  refine (hcl _ hG1).mono ?_
  rintro e w1 ⟨rfl, b1⟩
  replace hW := hW.trans (b1.mono hW.size); replace hB := hB.below b1 hB.lt; clear b1
  obtain ⟨d0, d1, d2, d3, d4⟩ := ziblk_cells hB; have f0 := hB.frozen 0; have f1 := hB.frozen 1; have f2 := hB.frozen 2; have f3 := hB.frozen 3; have f4 := hB.frozen 4; have hlB := hB.lt
  go_wp2_with fail
  refine bodyPost_ret (v := pgV oz false s.size 5) (by simp [results, Tryd.results35, go_sem, d0, d1, d2, d3, d4, pgV, hlB, ow_zero]) rfl ⟨rfl, ?_⟩
  repeat (first | (with_reducible exact hW) | refine Below.setCell ?_ (by first | omega | (simp; omega) | simp) _ | refine Below.alloc ?_ (by first | omega | (simp; omega) | simp) _)
set_option linter.unusedSimpArgs false in
set_option maxRecDepth 100000 in
set_option maxHeartbeats 2000000 in
theorem opened_some (s : ByteArray) (k o x : Nat) (cs : OSet) (m ok : Bool) (w : World) (hs : s.size ≤ 1000000) (hk : k + 2 ≤ s.size) (hG : Gl w) (hx0 : k + 2 ≤ x) (hx1 : x + 1 < s.size)
    (hcl : ∀ w, Gl w → Calls Tryd.prog 38 #[.string s, .int .i64 ((k : Int) + 2), .int .u8 (o : Int)] w fun e w' => e = .returned (.int .i64 (x : Int)) ∧ Below w.heap.size w w')
    (hnm : ∀ w, Calls Tryd.prog 39 #[.string (s.extract (k + 2) x), .int .u8 (o : Int)] w fun e w' => e = .returned (nmV cs m ok) ∧ Below w.heap.size w w') :
    Calls Tryd.prog 35 #[.string s, .int .i64 (k : Int), .int .u8 (o : Int)] w fun e w' => e = .returned (if ok then pgV cs m (x + 2) 0 else pgV oz false k 6) ∧ Below w.heap.size w w' := by
  have hB := Blk.new w #[.int .u64 0, .int .u64 0, .int .u64 0, .int .u64 0, .bool false] 61 _ rfl; have hW := (Below.refl w.heap.size w).alloc (Nat.le_refl _) (.cells #[.int .u64 0, .int .u64 0, .int .u64 0, .int .u64 0, .bool false] 61)
  have Wn : IntKind.i64.wrap ((k : Int) + 2) = (k : Int) + 2 := IntWalk.i64_in _ (by omega)
  have Wx : IntKind.i64.wrap ((x : Int) + 2) = (x : Int) + 2 := IntWalk.i64_in _ (by omega)
  have hG1 := hG.up hW
  go_enter Tryd.func35, Tryd.ntmps35
  go_wp2_with fail
  refine (hcl _ hG1).mono ?_
  rintro e w1 ⟨rfl, b1⟩
  replace hW := hW.trans (b1.mono hW.size); replace hB := hB.below b1 hB.lt; clear b1
  go_wp2_with fail
  refine (hnm _).mono ?_
  rintro e w2 ⟨rfl, b1⟩
  replace hW := hW.trans (b1.mono hW.size); replace hB := hB.below b1 hB.lt; clear b1
  obtain ⟨d0, d1, d2, d3, d4⟩ := ziblk_cells hB; have f0 := hB.frozen 0; have f1 := hB.frozen 1; have f2 := hB.frozen 2; have f3 := hB.frozen 3; have f4 := hB.frozen 4; have hlB := hB.lt
  unfold nmV
  cases ok
  · go_wp2_with fail
    refine bodyPost_ret (v := pgV oz false k 6) (by simp [results, Tryd.results35, go_sem, d0, d1, d2, d3, d4, pgV, hlB, ow_zero]) rfl ⟨rfl, ?_⟩
    repeat (first | (with_reducible exact hW) | refine Below.setCell ?_ (by first | omega | (simp; omega) | simp) _ | refine Below.alloc ?_ (by first | omega | (simp; omega) | simp) _)
  · go_wp2_with fail
    refine bodyPost_ret (v := pgV cs m (x + 2) 0) (by simp [results, Tryd.results35, go_sem, d0, d1, d2, d3, d4, pgV, hlB, ow_zero]) rfl ⟨rfl, ?_⟩
    repeat (first | (with_reducible exact hW) | refine Below.setCell ?_ (by first | omega | (simp; omega) | simp) _ | refine Below.alloc ?_ (by first | omega | (simp; omega) | simp) _)
end Go.Proofs.YtehikndlcepkgaaDoor
