/- Two sets, each in two blocks (the parameter's and the local's): what a statement's last row reads, whatever the order. -/
import Derived.Test.YtpmeicclngckeaaGreatDoorOctW
import Derived.Deep.RegionHeld3
import Derived.ChangeKeysEq
namespace Go.Proofs.YtpmeicclngckeaaGreatDoor
open Go.RowKit

structure Held4 (w0 : World) (a b c d : Nat) (s t : OSet) (T U : TypeId) (w' : World) : Prop where
  below : Below w0.heap.size w0 w'
  ba : Blk w' a (oc s) T
  bb : Blk w' b (oc t) T
  bc : Blk w' c (oc s) U
  bd : Blk w' d (oc t) U
theorem Held4.step {w0 : World} {a b c d : Nat} {s t : OSet} {T U : TypeId} {W W' : World} (hb : Below W.heap.size W W') (h : Held4 w0 a b c d s t T U W) : Held4 w0 a b c d s t T U W' :=
  ⟨h.below.trans (hb.mono h.below.size), h.ba.below hb h.ba.lt, h.bb.below hb h.bb.lt, h.bc.below hb h.bc.lt, h.bd.below hb h.bd.lt⟩
theorem Held4.drew {w0 : World} {a b c d : Nat} {s t : OSet} {T U : TypeId} {W : World} (h : Held4 w0 a b c d s t T U W) : Held4 w0 a b c d s t T U W.drew :=
  ⟨h.below.drew, h.ba, h.bb, h.bc, h.bd⟩
theorem Held4.alloc {w0 : World} {a b c d : Nat} {s t : OSet} {T U : TypeId} {W : World} (h : Held4 w0 a b c d s t T U W) (o : Obj) : Held4 w0 a b c d s t T U (W.alloc o) :=
  ⟨h.below.alloc h.below.size o, h.ba.alloc o, h.bb.alloc o, h.bc.alloc o, h.bd.alloc o⟩
/-- What is read, cell by cell. -/
abbrev Read4 (w0 : World) (a b c d : Nat) (s t : OSet) (T U : TypeId) (w' : World) : Prop :=
    (w'.cell? ⟨a, 0, none⟩ = some (.int .u64 (ow s 0)) ∧ w'.cell? ⟨a, 1, none⟩ = some (.int .u64 (ow s 1)) ∧ w'.cell? ⟨a, 2, none⟩ = some (.int .u64 (ow s 2)) ∧ w'.cell? ⟨a, 3, none⟩ = some (.int .u64 (ow s 3))) ∧
    (w'.cell? ⟨b, 0, none⟩ = some (.int .u64 (ow t 0)) ∧ w'.cell? ⟨b, 1, none⟩ = some (.int .u64 (ow t 1)) ∧ w'.cell? ⟨b, 2, none⟩ = some (.int .u64 (ow t 2)) ∧ w'.cell? ⟨b, 3, none⟩ = some (.int .u64 (ow t 3))) ∧
    (w'.cell? ⟨c, 0, none⟩ = some (.int .u64 (ow s 0)) ∧ w'.cell? ⟨c, 1, none⟩ = some (.int .u64 (ow s 1)) ∧ w'.cell? ⟨c, 2, none⟩ = some (.int .u64 (ow s 2)) ∧ w'.cell? ⟨c, 3, none⟩ = some (.int .u64 (ow s 3))) ∧
    (w'.cell? ⟨d, 0, none⟩ = some (.int .u64 (ow t 0)) ∧ w'.cell? ⟨d, 1, none⟩ = some (.int .u64 (ow t 1)) ∧ w'.cell? ⟨d, 2, none⟩ = some (.int .u64 (ow t 2)) ∧ w'.cell? ⟨d, 3, none⟩ = some (.int .u64 (ow t 3))) ∧ Held4 w0 a b c d s t T U w'
theorem Held4.all {w0 : World} {a b c d : Nat} {s t : OSet} {T U : TypeId} {w' : World} (h : Held4 w0 a b c d s t T U w') : Read4 w0 a b c d s t T U w' :=
  ⟨oblk_cells h.ba, oblk_cells h.bb, oblk_cells h.bc, oblk_cells h.bd, h⟩
theorem read4_step {w0 : World} {a b c d : Nat} {s t : OSet} {T U : TypeId} {W W' : World} (hb : Below W.heap.size W W') (h : Read4 w0 a b c d s t T U W) : Read4 w0 a b c d s t T U W' :=
  (Held4.step hb h.2.2.2.2).all
theorem read4_drew {w0 : World} {a b c d : Nat} {s t : OSet} {T U : TypeId} {W : World} (h : Read4 w0 a b c d s t T U W) : Read4 w0 a b c d s t T U W.drew := h.2.2.2.2.drew.all
theorem read4_alloc {w0 : World} {a b c d : Nat} {s t : OSet} {T U : TypeId} {W : World} (h : Read4 w0 a b c d s t T U W) (o : Obj) : Read4 w0 a b c d s t T U (W.alloc o) := (h.2.2.2.2.alloc o).all

theorem opart0 (a b c d : Int) (w : World) : (part 22 #[.int .u64 a, .int .u64 b, .int .u64 c, .int .u64 d] (0 * 1)).run Tryz.prog w = .ok (.int .u64 a) w := by kernel_rfl
theorem opart1' (a b c d : Int) (w : World) : (part 22 #[.int .u64 a, .int .u64 b, .int .u64 c, .int .u64 d] 1).run Tryz.prog w = .ok (.int .u64 b) w := by kernel_rfl
theorem opart2' (a b c d : Int) (w : World) : (part 22 #[.int .u64 a, .int .u64 b, .int .u64 c, .int .u64 d] 2).run Tryz.prog w = .ok (.int .u64 c) w := by kernel_rfl
theorem opart3' (a b c d : Int) (w : World) : (part 22 #[.int .u64 a, .int .u64 b, .int .u64 c, .int .u64 d] 3).run Tryz.prog w = .ok (.int .u64 d) w := by kernel_rfl
set_option linter.unusedSimpArgs false in
theorem oeq_items (a b c d a' b' c' d' : Int) (w : World) : (Op.eqItems 9999 22 1 #[.int .u64 a, .int .u64 b, .int .u64 c, .int .u64 d] #[.int .u64 a', .int .u64 b', .int .u64 c', .int .u64 d'] [0, 1, 2, 3]).run Tryz.prog w = .ok (a == a' && (b == b' && (c == c' && d == d'))) w := by
  have h := fun (x y : Int) (w : World) => (run_equalIn_int (P := Tryz.prog) w 9998 22 .u64 .u64 x y Tryz.underlying22 : (Op.equalIn 9999 22 (.int .u64 x) (.int .u64 y)).run Tryz.prog w = _)
  simp only [Op.eqItems, Sem.run_bind, opart0, h, Result.andThen_ok]
  cases ha : a == a' <;> cases hb : b == b' <;> cases hc : c == c' <;> cases hd : d == d' <;> simp [ha, hb, hc, hd, h, opart1', opart2', opart3']
theorem oset_beq (s t : OSet) : (ow s 0 == ow t 0 && (ow s 1 == ow t 1 && (ow s 2 == ow t 2 && ow s 3 == ow t 3))) = decide (s = t) := by
  by_cases h : s = t
  · subst h; simp
  · have h2 := oset_ne h
    rw [decide_eq_false h]
    cases hx : (ow s 0 == ow t 0 && (ow s 1 == ow t 1 && (ow s 2 == ow t 2 && ow s 3 == ow t 3)))
    · rfl
    · exfalso
      simp only [Bool.and_eq_true, beq_iff_eq] at hx
      exact h2 hx
theorem oset_eql (s t : OSet) (w : World) : (Op.equalIn 10000 27 (.agg #[.int .u64 (ow s 0), .int .u64 (ow s 1), .int .u64 (ow s 2), .int .u64 (ow s 3)]) (.agg #[.int .u64 (ow t 0), .int .u64 (ow t 1), .int .u64 (ow t 2), .int .u64 (ow t 3)])).run Tryz.prog w = .ok (decide (s = t)) w := by
  have hc : Tryz.prog.cellsOf 22 = 1 := by kernel_rfl
  have hi0 : (Tryz.prog.info? 22).isSome = true := by kernel_rfl
  obtain ⟨i, hi⟩ := Option.isSome_iff_exists.1 hi0
  rw [run_equalIn_array w 9999 (e := 22) (n := 4) _ _ Tryz.underlying27 hi]
  rw [hc, show List.range 4 = [0, 1, 2, 3] from rfl, oeq_items, oset_beq]

end Go.Proofs.YtpmeicclngckeaaGreatDoor
