/- The proof's texts TrWk, RfA, RfB: what the claim reaches of them. -/
import Derived.Test.YtkejeiopfblkgaaGreatDoorBp02
import Derived.Test.YtkejeiopfblkgaaGreatDoorBp06
import Derived.Test.YtkejeiopfblkgaaGreatDoorBp01
import Derived.WalkKit
import Derived.Deep.Slices
import Derived.Lib.LaidTab
import Derived.Lib.Hide
import Derived.ChangeKeysEq
import Derived.Deep.RegionHeld3
import Derived.Deep.DeepCutAuto
import Derived.Deep.RegionWith
import Derived.Deep.QuietTactic
import Derived.Test.YtkejeiopfblkgaaGreatDoorBp05
import Derived.BigQuiet
namespace Go.Proofs.YtkejeiopfblkgaaGreatDoor
open Go.ChangeShapes Go.WideShapes Go.ChangeAt Go.RowKit
def tV (t : Tr) (a : Option Addr) (cap : Nat) : Value :=
 .agg #[.int .i64 t.kind, .int .u64 (ow t.set 0), .int .u64 (ow t.set 1), .int .u64 (ow t.set 2), .int .u64 (ow t.set 3), .slice a t.parts.length cap, .int .i64 t.mn, .int .i64 t.mx, .int .i64 t.num]
structure Cl9 (w : World) (b o : Nat) (t : Tr) (a : Option Addr) (cap : Nat) : Prop where
 k : w.cell? ⟨b, o, none⟩ = some (.int .i64 t.kind)
 s0 : w.cell? ⟨b, o + 1, none⟩ = some (.int .u64 (ow t.set 0))
 s1 : w.cell? ⟨b, o + 2, none⟩ = some (.int .u64 (ow t.set 1))
 s2 : w.cell? ⟨b, o + 3, none⟩ = some (.int .u64 (ow t.set 2))
 s3 : w.cell? ⟨b, o + 4, none⟩ = some (.int .u64 (ow t.set 3))
 p : w.cell? ⟨b, o + 5, none⟩ = some (.slice a t.parts.length cap)
 mn : w.cell? ⟨b, o + 6, none⟩ = some (.int .i64 t.mn)
 mx : w.cell? ⟨b, o + 7, none⟩ = some (.int .i64 t.mx)
 num : w.cell? ⟨b, o + 8, none⟩ = some (.int .i64 t.num)
def TrAt : Nat → World → Tr → Option Addr → Nat → Prop
 | 0, _, _, _, _ => False
 | n + 1, w, t, a, cap => t.parts.length ≤ cap ∧ cap ≤ maxLen ∧ (0 < t.parts.length → ∃ b o, a = some ⟨b, o, none⟩ ∧ b < w.heap.size ∧ ∀ i (h : i < t.parts.length), ∃ a' cap', Cl9 w b (o + i * 9) t.parts[i] a' cap' ∧ TrAt n w t.parts[i] a' cap')
theorem Cl9.below {w w' : World} {b o : Nat} {t : Tr} {a : Option Addr} {cap : Nat} {B : Nat} (h : Cl9 w b o t a cap) (hb : Below B w w') (hB : b < B) : Cl9 w' b o t a cap :=
 ⟨(hb.cell (p := ⟨b, _, none⟩) hB).trans h.k, (hb.cell (p := ⟨b, _, none⟩) hB).trans h.s0, (hb.cell (p := ⟨b, _, none⟩) hB).trans h.s1, (hb.cell (p := ⟨b, _, none⟩) hB).trans h.s2, (hb.cell (p := ⟨b, _, none⟩) hB).trans h.s3,
  (hb.cell (p := ⟨b, _, none⟩) hB).trans h.p, (hb.cell (p := ⟨b, _, none⟩) hB).trans h.mn, (hb.cell (p := ⟨b, _, none⟩) hB).trans h.mx, (hb.cell (p := ⟨b, _, none⟩) hB).trans h.num⟩
theorem TrAt.below {w w' : World} (hb : Below w.heap.size w w') : ∀ (n : Nat) (t : Tr) (a : Option Addr) (cap : Nat), TrAt n w t a cap → TrAt n w' t a cap := by
 intro n
 induction n with
 | zero => intro t a cap h; exact h
 | succ n ih =>
  intro t a cap h
  unfold TrAt at h ⊢
  refine ⟨h.1, h.2.1, fun h0 => ?_⟩
  obtain ⟨b, o, rfl, hlt, hk⟩ := h.2.2 h0
  refine ⟨b, o, rfl, Nat.lt_of_lt_of_le hlt hb.size, fun i hi => ?_⟩
  obtain ⟨a', cap', h9, hr⟩ := hk i hi
  exact ⟨a', cap', h9.below hb hlt, ih _ _ _ hr⟩
theorem TrAt.drew {w : World} : ∀ (n : Nat) (t : Tr) (a : Option Addr) (cap : Nat), TrAt n w t a cap → TrAt n w.drew t a cap := TrAt.below (Below.drew (Below.refl _ _))
theorem TrAt.len {n : Nat} {w : World} {t : Tr} {a : Option Addr} {cap : Nat} (h : TrAt n w t a cap) : t.parts.length ≤ cap ∧ cap ≤ maxLen := by
 cases n with
 | zero => exact h.elim
 | succ n => exact ⟨h.1, h.2.1⟩
theorem TrAt.more {w : World} : ∀ (n m : Nat) (t : Tr) (a : Option Addr) (cap : Nat), n ≤ m → TrAt n w t a cap → TrAt m w t a cap := by
 intro n
 induction n with
 | zero => intro m t a cap _ h; exact h.elim
 | succ n ih =>
  intro m t a cap hm h
  obtain ⟨m, rfl⟩ : ∃ m', m = m' + 1 := ⟨m - 1, by omega⟩
  unfold TrAt at h ⊢
  refine ⟨h.1, h.2.1, fun h0 => ?_⟩
  obtain ⟨b, o, rfl, hlt, hk⟩ := h.2.2 h0
  refine ⟨b, o, rfl, hlt, fun i hi => ?_⟩
  obtain ⟨a', cap', h9, hr⟩ := hk i hi
  exact ⟨a', cap', h9, ih _ _ _ _ (by omega) hr⟩
end Go.Proofs.YtkejeiopfblkgaaGreatDoor
namespace Go.Proofs.YtkejeiopfblkgaaGreatDoor
open Go.RowKit
theorem tr_ret_bool {a b : Bool} (h : a = b) : Ending.returned (.bool a) = .returned (.bool b) := by rw [h]
abbrev tC (t : Tr) (a : Option Addr) (cap : Nat) : Array Value := #[.int .i64 t.kind, .int .u64 (ow t.set 0), .int .u64 (ow t.set 1), .int .u64 (ow t.set 2), .int .u64 (ow t.set 3), .slice a t.parts.length cap, .int .i64 t.mn, .int .i64 t.mx, .int .i64 t.num]
end Go.Proofs.YtkejeiopfblkgaaGreatDoor
namespace Go.Proofs.YtkejeiopfblkgaaGreatDoor
open Go.RowKit
abbrev zC : Array Value := #[.int .i64 0, .int .u64 0, .int .u64 0, .int .u64 0, .int .u64 0, .slice none 0 0, .int .i64 0, .int .i64 0, .int .i64 0]
def kb (t : Tr) : Nat := if (t.kind = 4 ∨ t.kind = 5) ∧ t.parts = [] then 1 else 0
def TrD (N : Nat) (w : World) (t : Tr) (a : Option Addr) (cap : Nat) : Prop := ∃ n, TrAt n w t a cap ∧ 2 * n + kb t ≤ N
def RowD (N : Nat) (w : World) (l : List Tr) (a : Option Addr) (cap : Nat) : Prop :=
 l.length ≤ cap ∧ cap ≤ maxLen ∧ (0 < l.length → ∃ b o, a = some ⟨b, o, none⟩ ∧ b < w.heap.size ∧ ∀ i (h : i < l.length), ∃ a' cap', Cl9 w b (o + i * 9) l[i] a' cap' ∧ TrD N w l[i] a' cap')
theorem TrD.below {N : Nat} {w w' : World} {t : Tr} {a : Option Addr} {cap : Nat} (h : TrD N w t a cap) (hb : Below w.heap.size w w') : TrD N w' t a cap := by
 obtain ⟨n, h1, h2⟩ := h
 exact ⟨n, TrAt.below hb _ _ _ _ h1, h2⟩
theorem RowD.below {N : Nat} {w w' : World} {l : List Tr} {a : Option Addr} {cap : Nat} (h : RowD N w l a cap) (hb : Below w.heap.size w w') : RowD N w' l a cap := by
 refine ⟨h.1, h.2.1, fun h0 => ?_⟩
 obtain ⟨b, o, rfl, hlt, hk⟩ := h.2.2 h0
 refine ⟨b, o, rfl, Nat.lt_of_lt_of_le hlt hb.size, fun i hi => ?_⟩
 obtain ⟨a', cap', h9, hr⟩ := hk i hi
 exact ⟨a', cap', h9.below hb hlt, hr.below hb⟩
theorem kb_le (t : Tr) : kb t ≤ 1 := by unfold kb; split <;> omega
theorem tz_at (w : World) : TrAt 1 w tz none 0 := ⟨Nat.le_refl 0, Nat.zero_le _, fun h => absurd h (by simp [tz, Tr.parts])⟩
theorem TrD.row {N : Nat} {w : World} {t : Tr} {a : Option Addr} {cap : Nat} (h : TrD (N + 1) w t a cap) : RowD N w t.parts a cap := by
 obtain ⟨n, h1, h2⟩ := h
 cases n with
 | zero => exact h1.elim
 | succ n =>
  refine ⟨h1.1, h1.2.1, fun h0 => ?_⟩
  obtain ⟨b, o, rfl, hlt, hk⟩ := h1.2.2 h0
  refine ⟨b, o, rfl, hlt, fun i hi => ?_⟩
  obtain ⟨a', cap', h9, hr⟩ := hk i hi
  have := kb_le t.parts[i]
  exact ⟨a', cap', h9, n, hr, by omega⟩
theorem TrD.tz {N : Nat} {w w' : World} {t : Tr} {a : Option Addr} {cap : Nat} (h : TrD (N + 1) w t a cap) (hk : t.kind = 4 ∨ t.kind = 5) (hp : t.parts = []) : TrD N w' Go.Proofs.YtkejeiopfblkgaaGreatDoor.tz none 0 := by
 obtain ⟨n, h1, h2⟩ := h
 cases n with
 | zero => exact h1.elim
 | succ n =>
  refine ⟨1, tz_at w', ?_⟩
  have h3 : kb t = 1 := by unfold kb; rw [if_pos ⟨hk, hp⟩]
  have h4 : kb Go.Proofs.YtkejeiopfblkgaaGreatDoor.tz = 0 := rfl
  omega
theorem row_one {N : Nat} {w : World} {x : Tr} {a : Option Addr} {cap : Nat} {T : TypeId} (h : TrD N w x a cap) : RowD N (w.alloc (.cells (tC x a cap) T)) [x] (some ⟨w.heap.size, 0, none⟩) 1 := by
 have hb := Blk.new w (tC x a cap) T _ rfl
 refine ⟨Nat.le_refl _, by decide, fun _ => ⟨w.heap.size, 0, rfl, hb.lt, fun i hi => ?_⟩⟩
 obtain rfl : i = 0 := by simp at hi; exact hi
 exact ⟨a, cap, ⟨(hb.cell 0).trans rfl, (hb.cell 1).trans rfl, (hb.cell 2).trans rfl, (hb.cell 3).trans rfl, (hb.cell 4).trans rfl, (hb.cell 5).trans rfl, (hb.cell 6).trans rfl, (hb.cell 7).trans rfl, (hb.cell 8).trans rfl⟩,
  h.below ((Below.refl _ _).alloc (Nat.le_refl _) _)⟩
set_option linter.unusedSimpArgs false in
set_option maxRecDepth 100000 in
set_option maxHeartbeats 1000000 in
theorem tof_any (N : Nat) (t : Tr) (a : Option Addr) (cap : Nat) (w : World) (h : TrD (N + 1) w t a cap) (hk : t.kind = 4 ∨ t.kind = 5) :
  Calls Tryz.prog 70 #[tV t a cap] w fun e w' => ∃ a' cap', e = .returned (tV (tof t) a' cap') ∧ TrD N w' (tof t) a' cap' ∧ Below w.heap.size w w' := by
 have hW := (Below.refl w.heap.size w).alloc (Nat.le_refl _) (.cells (tC t a cap) 36)
 have hR := h.row
 by_cases h0 : 0 < t.parts.length
 ·obtain ⟨b, o, rfl, hlt, hx⟩ := hR.2.2 h0
  obtain ⟨a', cap', h9, hr⟩ := hx 0 h0
  have hto : tof t = t.parts[0] := by
   unfold tof
   rw [List.headD_eq_head?_getD, List.head?_eq_getElem?, List.getElem?_eq_getElem h0]
   rfl
  rw [hto]
  have hl := hR.1
  have hl2 := hR.2.1
  unfold maxLen at hl2
  replace h9 := h9.below hW hlt
  replace hr := hr.below hW
  have e0 : ((t.parts.length : Int) == 0) = false := by rw [beq_eq_false_iff_ne]; omega
  obtain ⟨c0, c1, c2, c3, c4, c5, c6, c7, c8⟩ := h9
  simp only [Nat.zero_mul, Nat.add_zero] at c0 c1 c2 c3 c4 c5 c6 c7 c8
  clear hx hR h
  generalize t.parts[0] = x at *
  unfold tV
  go_enter Tryz.func70, Tryz.ntmps70
  go_wp2_with fail
  refine bodyPost_ret (v := tV x a' cap') (by simp [results, Tryz.results70, go_sem, tV]) rfl ⟨a', cap', rfl, hr.below ((Below.refl _ _).alloc (Nat.le_refl _) _), hW.alloc hW.size _⟩
 ·have hp : t.parts = [] := List.eq_nil_of_length_eq_zero (by omega)
  have hto : tof t = tz := by unfold tof; rw [hp]; rfl
  have hz := fun w' => h.tz (w' := w') hk hp
  rw [hto]
  have hpl : t.parts.length = 0 := by rw [hp]; rfl
  clear hR h
  unfold tV
  rw [hpl]
  go_enter Tryz.func70, Tryz.ntmps70
  go_wp2_with fail
  refine bodyPost_ret (v := tV tz none 0) (by simp [results, Tryz.results70, go_sem, tV, tz, Tr.kind, Tr.set, Tr.parts, Tr.mn, Tr.mx, Tr.num, ow_zero]) rfl ⟨none, 0, rfl, hz _, ?_⟩
  repeat (first | (with_reducible exact hW) | (with_reducible exact Below.refl _ _) | refine Below.setCell ?_ (by first | omega | (simp; omega) | simp) _ | refine Below.alloc ?_ (by first | omega | (simp; omega) | simp) _)
set_option linter.unusedSimpArgs false in
set_option maxRecDepth 100000 in
set_option maxHeartbeats 2000000 in
theorem kids_any (N : Nat) (t : Tr) (a : Option Addr) (cap : Nat) (w : World) (h : TrD (N + 1) w t a cap) :
  Calls Tryz.prog 41 #[tV t a cap] w fun e w' => ∃ a' cap', e = .returned (.slice a' (tkids t).length cap') ∧ RowD N w' (tkids t) a' cap' ∧ Below w.heap.size w w' := by
 have hW := (Below.refl w.heap.size w).alloc (Nat.le_refl _) (.cells (tC t a cap) 36)
 by_cases h23 : t.kind = 2 ∨ t.kind = 3
 ·have hk : tkids t = t.parts := by unfold tkids; rw [if_pos h23]
  have hR := h.row.below hW
  rw [hk]
  clear h hk
  rcases h23 with h2 | h3
  ·have e2 : (t.kind == 2) = true := by simp [h2]
   clear h2
   unfold tV
   go_enter Tryz.func41, Tryz.ntmps41
   go_wp2_with fail
   go_ret
   exact ⟨a, cap, rfl, hR, hW⟩
  ·have e2 : (t.kind == 2) = false := by simp [h3]
   have e3 : (t.kind == 3) = true := by simp [h3]
   clear h3
   unfold tV
   go_enter Tryz.func41, Tryz.ntmps41
   go_wp2_with fail
   go_ret
   exact ⟨a, cap, rfl, hR, hW⟩
 ·have e2 : (t.kind == 2) = false := by simp; omega
  have e3 : (t.kind == 3) = false := by simp; omega
  by_cases h45 : t.kind = 4 ∨ t.kind = 5
  ·have hk : tkids t = [tof t] := by unfold tkids; rw [if_neg h23, if_pos h45]
   rw [hk]
   have hO := tof_any N t a cap _ (h.below hW) h45
   unfold tV at hO ⊢
   clear h hk h23
   generalize tof t = x at hO ⊢
   rcases h45 with h4 | h5
   ·have e4 : (t.kind == 4) = true := by simp [h4]
    clear h4
    go_enter Tryz.func41, Tryz.ntmps41
    go_wp2_with fail
    refine hO.mono ?_
    clear hO
    rintro e w1 ⟨a', cap', rfl, hr, b1⟩
    replace hW := hW.trans (b1.mono hW.size)
    clear b1
    go_wp2_with fail
    go_ret
    exact ⟨some ⟨w1.heap.size, 0, none⟩, 1, rfl, row_one hr, hW.alloc hW.size _⟩
   ·have e4 : (t.kind == 4) = false := by simp [h5]
    have e5 : (t.kind == 5) = true := by simp [h5]
    clear h5
    go_enter Tryz.func41, Tryz.ntmps41
    go_wp2_with fail
    refine hO.mono ?_
    clear hO
    rintro e w1 ⟨a', cap', rfl, hr, b1⟩
    replace hW := hW.trans (b1.mono hW.size)
    clear b1
    go_wp2_with fail
    go_ret
    exact ⟨some ⟨w1.heap.size, 0, none⟩, 1, rfl, row_one hr, hW.alloc hW.size _⟩
  ·have hk : tkids t = [] := by unfold tkids; rw [if_neg h23, if_neg h45]
   have e4 : (t.kind == 4) = false := by simp; omega
   have e5 : (t.kind == 5) = false := by simp; omega
   rw [hk]
   clear h hk h23 h45
   unfold tV
   go_enter Tryz.func41, Tryz.ntmps41
   go_wp2_with fail
   go_ret
   exact ⟨none, 0, rfl, ⟨Nat.le_refl 0, Nat.zero_le _, fun h => absurd h (by simp)⟩, hW⟩
end Go.Proofs.YtkejeiopfblkgaaGreatDoor
namespace Go.Proofs.YtkejeiopfblkgaaGreatDoor
open Go.RowKit
theorem trd_zero {w : World} {t : Tr} {a : Option Addr} {cap : Nat} (h : TrD 0 w t a cap) : False := by
 obtain ⟨n, h1, h2⟩ := h
 cases n with
 | zero => exact h1
 | succ n => omega
end Go.Proofs.YtkejeiopfblkgaaGreatDoor
namespace Go.Proofs.YtkejeiopfblkgaaGreatDoor
open Go.RowKit
theorem rpart0 (a b c d : Int) (w : World) : (part 31 #[.int .u64 a, .int .u64 b, .int .u64 c, .int .u64 d] (0 * 1)).run Tryz.prog w = .ok (.int .u64 a) w := by kernel_rfl
theorem rpart1 (a b c d : Int) (w : World) : (part 31 #[.int .u64 a, .int .u64 b, .int .u64 c, .int .u64 d] 1).run Tryz.prog w = .ok (.int .u64 b) w := by kernel_rfl
theorem rpart2 (a b c d : Int) (w : World) : (part 31 #[.int .u64 a, .int .u64 b, .int .u64 c, .int .u64 d] 2).run Tryz.prog w = .ok (.int .u64 c) w := by kernel_rfl
theorem rpart3 (a b c d : Int) (w : World) : (part 31 #[.int .u64 a, .int .u64 b, .int .u64 c, .int .u64 d] 3).run Tryz.prog w = .ok (.int .u64 d) w := by kernel_rfl
set_option linter.unusedSimpArgs false in
theorem req_items (a b c d a' b' c' d' : Int) (w : World) : (Op.eqItems 9999 31 1 #[.int .u64 a, .int .u64 b, .int .u64 c, .int .u64 d] #[.int .u64 a', .int .u64 b', .int .u64 c', .int .u64 d'] [0, 1, 2, 3]).run Tryz.prog w = .ok (a == a' && (b == b' && (c == c' && d == d'))) w := by
 have h := fun (x y : Int) (w : World) => (run_equalIn_int (P := Tryz.prog) w 9998 31 .u64 .u64 x y Tryz.underlying31 : (Op.equalIn 9999 31 (.int .u64 x) (.int .u64 y)).run Tryz.prog w = _)
 simp only [Op.eqItems, Sem.run_bind, rpart0, h, Result.andThen_ok]
 cases ha : a == a' <;> cases hb : b == b' <;> cases hc : c == c' <;> cases hd : d == d' <;> simp [ha, hb, hc, hd, h, rpart1, rpart2, rpart3]
theorem rset_beq (s t : OSet) : (ow s 0 == ow t 0 && (ow s 1 == ow t 1 && (ow s 2 == ow t 2 && ow s 3 == ow t 3))) = decide (s = t) := by
 by_cases h : s = t
 ·subst h; simp
 ·have h2 := oset_ne h
  rw [decide_eq_false h]
  cases hx : (ow s 0 == ow t 0 && (ow s 1 == ow t 1 && (ow s 2 == ow t 2 && ow s 3 == ow t 3)))
  ·rfl
  ·exfalso
   simp only [Bool.and_eq_true, beq_iff_eq] at hx
   exact h2 hx
theorem rset_eql (s t : OSet) (w : World) : (Op.equalIn 10000 33 (.agg #[.int .u64 (ow s 0), .int .u64 (ow s 1), .int .u64 (ow s 2), .int .u64 (ow s 3)]) (.agg #[.int .u64 (ow t 0), .int .u64 (ow t 1), .int .u64 (ow t 2), .int .u64 (ow t 3)])).run Tryz.prog w = .ok (decide (s = t)) w := by
 have hc : Tryz.prog.cellsOf 31 = 1 := by kernel_rfl
 have hi0 : (Tryz.prog.info? 31).isSome = true := by kernel_rfl
 obtain ⟨i, hi⟩ := Option.isSome_iff_exists.1 hi0
 rw [run_equalIn_array w 9999 (e := 31) (n := 4) _ _ Tryz.underlying33 hi]
 rw [hc, show List.range 4 = [0, 1, 2, 3] from rfl, req_items, rset_beq]
theorem blk9 {w : World} {b : Nat} {t : Tr} {a : Option Addr} {cap : Nat} {T : TypeId} (h : Blk w b (tC t a cap) T) : Cl9 w b 0 t a cap :=
 ⟨(h.cell 0).trans rfl, (h.cell 1).trans rfl, (h.cell 2).trans rfl, (h.cell 3).trans rfl, (h.cell 4).trans rfl, (h.cell 5).trans rfl, (h.cell 6).trans rfl, (h.cell 7).trans rfl, (h.cell 8).trans rfl⟩
end Go.Proofs.YtkejeiopfblkgaaGreatDoor
namespace Go.Proofs.YtkejeiopfblkgaaGreatDoor
open Go Go.RowKit
abbrev rfC (s : ByteArray) (ere : Bool) (at' op : Nat) (cv mv : Value) (er pl : Int) : Array Value := #[.string s, .bool ere, .int .i64 (at' : Int), .int .i64 (op : Int), cv, mv, .int .i64 er, .int .i64 pl]
def signL (s : List UInt8) (k : Nat) : List UInt8 := if s.length ≤ k then [] else if byt s k = 92 ∧ k + 1 < s.length then [s.getD k 0, s.getD (k + 1) 0] else [s.getD k 0]
def opL (ere : Bool) (b : UInt8) : List UInt8 := if ere then [b] else [92, b]
theorem ext_take (s : ByteArray) (i j : Nat) : (s.extract i j).data.toList = (s.data.toList.drop i).take (j - i) := by
 rw [ByteArray.data_extract, Array.toList_extract, List.extract_eq_take_drop]
theorem take_one (l : List UInt8) (k : Nat) (h : k < l.length) : (l.drop k).take (k + 1 - k) = [l.getD k 0] := by
 rw [show k + 1 - k = 1 by omega, List.drop_eq_getElem_cons h, List.take_succ_cons, List.take_zero, List.getD_eq_getElem?_getD, List.getElem?_eq_getElem h, Option.getD_some]
theorem take_two (l : List UInt8) (k : Nat) (h : k + 1 < l.length) : (l.drop k).take (k + 2 - k) = [l.getD k 0, l.getD (k + 1) 0] := by
 rw [show k + 2 - k = 2 by omega, List.drop_eq_getElem_cons (by omega : k < l.length), List.take_succ_cons, List.drop_eq_getElem_cons h, List.take_succ_cons, List.take_zero]
 rw [List.getD_eq_getElem?_getD, List.getElem?_eq_getElem (by omega : k < l.length), Option.getD_some, List.getD_eq_getElem?_getD, List.getElem?_eq_getElem h, Option.getD_some]
set_option linter.unusedSimpArgs false in
set_option maxRecDepth 100000 in
set_option maxHeartbeats 1000000 in
theorem rsign_any (s : ByteArray) (ere : Bool) (at' op : Nat) (cv mv : Value) (er pl : Int) (k : Nat) (w : World) (hk : k ≤ 260) :
  Calls Tryz.prog 56 #[.agg (rfC s ere at' op cv mv er pl), .int .i64 (k : Int)] w fun e w' => ∃ t : ByteArray, e = .returned (.string t) ∧ t.data.toList = signL s.data.toList k ∧ Below w.heap.size w w' := by
 have hsl : s.data.toList.length = s.size := by simp
 have hb := (Below.refl w.heap.size w).alloc (Nat.le_refl _) (.cells (rfC s ere at' op cv mv er pl) 87)
 have HB := Lib.hid hb
 clear hb
 by_cases h0 : s.size ≤ k
 ·have d1 : decide ((s.size : Int) ≤ (k : Int)) = true := by simp; omega
  have d2 : decide (s.size ≤ k) = true := decide_eq_true h0
  have HF := Lib.hid (show signL s.data.toList k = [] by unfold signL; rw [if_pos (by omega)])
  clear h0 hsl
  go_enter Tryz.func56, Tryz.ntmps56
  go_wp2_with fail
  go_ret
  exact ⟨_, rfl, HF.out.symm, HB.out⟩
 ·have d1 : decide ((s.size : Int) ≤ (k : Int)) = false := by simp; omega
  have d2 : decide (s.size ≤ k) = false := decide_eq_false h0
  have hlt : k < s.size := by omega
  have i1 : (k : Int) < (s.size : Int) := by omega
  have hb0 := pbyt_at s k hlt
  have W1 : IntKind.i64.wrap ((k : Int) + 1) = ((k + 1 : Nat) : Int) := by rw [IntWalk.i64_in _ (by omega)]; omega
  have W2 : IntKind.i64.wrap ((k : Int) + 2) = ((k + 2 : Nat) : Int) := by rw [IntWalk.i64_in _ (by omega)]; omega
  obtain ⟨k1, hk1⟩ : ∃ j, j = k + 1 := ⟨_, rfl⟩
  obtain ⟨k2, hk2⟩ : ∃ j, j = k + 2 := ⟨_, rfl⟩
  rw [← hk1] at W1
  rw [← hk2] at W2
  have j1 : (k : Int) ≤ (k1 : Int) := by omega
  have j2 : (k : Int) ≤ (k2 : Int) := by omega
  have j3 : k ≤ k1 := by omega
  have j4 : k ≤ k2 := by omega
  have j5 : (k1 : Int) ≤ (s.size : Int) := by omega
  have j6 : k1 ≤ s.size := by omega
  have HO : Hid ((s.extract k k1).data.toList = [s.data.toList.getD k 0]) := Lib.hid (by rw [ext_take, hk1, take_one _ _ (by omega)])
  by_cases h92 : byt s.data.toList k = 92
  ·have e92 : ((s[k].toNat : Int) == 92) = true := by rw [← hb0, h92]; rfl
   by_cases h1 : k + 1 < s.size
   ·have c1 : decide ((k1 : Int) < (s.size : Int)) = true := by simp; omega
    have c2 : decide (k1 < s.size) = true := by simp; omega
    have j7 : (k2 : Int) ≤ (s.size : Int) := by omega
    have j8 : k2 ≤ s.size := by omega
    have HF := Lib.hid (show signL s.data.toList k = [s.data.toList.getD k 0, s.data.toList.getD (k + 1) 0] by unfold signL; rw [if_neg (by omega), if_pos ⟨h92, by omega⟩])
    have HT : Hid ((s.extract k k2).data.toList = [s.data.toList.getD k 0, s.data.toList.getD (k + 1) 0]) := Lib.hid (by rw [ext_take, hk2, take_two _ _ (by omega)])
    clear h0 hsl hb0 h92 h1 hk1 hk2
    go_enter Tryz.func56, Tryz.ntmps56
    go_wp2_with fail
    go_ret
    exact ⟨_, rfl, HT.out.trans HF.out.symm, HB.out⟩
   ·have c1 : decide ((k1 : Int) < (s.size : Int)) = false := by simp; omega
    have c2 : decide (k1 < s.size) = false := by simp; omega
    have HF := Lib.hid (show signL s.data.toList k = [s.data.toList.getD k 0] by unfold signL; rw [if_neg (by omega), if_neg (by omega)])
    clear h0 hsl hb0 h92 h1 hk1 hk2
    go_enter Tryz.func56, Tryz.ntmps56
    go_wp2_with fail
    go_ret
    exact ⟨_, rfl, HO.out.trans HF.out.symm, HB.out⟩
  ·have e92 : ((s[k].toNat : Int) == 92) = false := by rw [beq_eq_false_iff_ne]; omega
   have HF := Lib.hid (show signL s.data.toList k = [s.data.toList.getD k 0] by unfold signL; rw [if_neg (by omega), if_neg (by omega)])
   clear h0 hsl hb0 h92 hk1 hk2
   go_enter Tryz.func56, Tryz.ntmps56
   go_wp2_with fail
   go_ret
   exact ⟨_, rfl, HO.out.trans HF.out.symm, HB.out⟩
set_option linter.unusedSimpArgs false in
set_option maxRecDepth 100000 in
set_option maxHeartbeats 1000000 in
theorem rop_any (s : ByteArray) (ere : Bool) (at' op : Nat) (cv mv : Value) (er pl : Int) (b : UInt8) (w : World) :
  Calls Tryz.prog 57 #[.agg (rfC s ere at' op cv mv er pl), .string ⟨#[b]⟩] w fun e w' => ∃ t : ByteArray, e = .returned (.string t) ∧ t.data.toList = opL ere b ∧ Below w.heap.size w w' := by
 have hb := (Below.refl w.heap.size w).alloc (Nat.le_refl _) (.cells (rfC s ere at' op cv mv er pl) 87)
 have HB := Lib.hid hb
 clear hb
 cases ere with
 | true =>
  go_enter Tryz.func57, Tryz.ntmps57
  go_wp2_with fail
  go_ret
  exact ⟨_, rfl, rfl, HB.out⟩
 | false =>
  go_enter Tryz.func57, Tryz.ntmps57
  go_wp2_with fail
  go_ret
  exact ⟨_, rfl, by simp [ByteArray.data_append, opL], HB.out⟩
set_option linter.unusedSimpArgs false in
set_option maxRecDepth 100000 in
set_option maxHeartbeats 1000000 in
theorem rfail_any (s : ByteArray) (ere : Bool) (at' op : Nat) (cv mv : Value) (n k : Int) (w : World) (hc : ∃ a l c, cv = .slice a l c) (hm : ∃ a l c, mv = .slice a l c) :
  Calls Tryz.prog 77 #[.agg (rfC s ere at' op cv mv 0 0), .int .i64 n, .int .i64 k] w fun e w' => e = .returned (.agg (rfC s ere at' op cv mv n k)) ∧ Below w.heap.size w w' := by
 obtain ⟨ca, cl, cc, rfl⟩ := hc
 obtain ⟨ma, ml, mc, rfl⟩ := hm
 go_enter Tryz.func77, Tryz.ntmps77
 go_wp2_with fail
 refine bodyPost_ret (v := .agg (rfC s ere at' op (.slice ca cl cc) (.slice ma ml mc) n k)) (by simp [results, Tryz.results77, go_sem, rfC]) rfl ⟨rfl, ?_⟩
 exact ((Below.refl _ _).alloc (Nat.le_refl _) _).alloc (by simp) _
end Go.Proofs.YtkejeiopfblkgaaGreatDoor
namespace Go.Proofs.YtkejeiopfblkgaaGreatDoor
open Go Go.RowKit
set_option linter.unusedSimpArgs false in
set_option maxRecDepth 100000 in
set_option maxHeartbeats 4000000 in
theorem rnumber_any (s : ByteArray) (k : Nat) (w : World) (hk : k ≤ 260) :
  Calls Tryz.prog 111 #[.string s, .int .i64 (k : Int)] w fun e w' => e = .returned (.tuple #[.int .i64 ((numAt s.data.toList k).1 : Int), .int .i64 ((numAt s.data.toList k).2 : Int)]) ∧ w' = w := by
 have hsl : s.data.toList.length = s.size := by simp
 go_enter Tryz.func111, Tryz.ntmps111
 go_wp2_with fail
 go_loopw [6, 7] (fun nv kv wr => ∃ (j v : Nat), j ≤ 3 ∧ nv = .int .i64 v ∧ kv = .int .i64 j ∧ digs s.data.toList 3 k 0 = ((digs s.data.toList (3 - j) (k + j) v).1 + j, (digs s.data.toList (3 - j) (k + j) v).2) ∧ ((j = 0 ∧ v = 0) ∨ (j = 1 ∧ v ≤ 9) ∨ (j = 2 ∧ v ≤ 99) ∨ (j = 3 ∧ v ≤ 999)) ∧ wr = w) (fun _ kv _ => 4 - (intOf kv).toNat)
 case atStart => exact ⟨0, 0, by omega, rfl, rfl, rfl, .inl ⟨rfl, rfl⟩, rfl⟩
 case round =>
  obtain ⟨j, v, hj, rfl, rfl, hdig, hv, rfl⟩ := hrel
  have Wk : IntKind.i64.wrap ((k : Int) + (j : Int)) = ((k + j : Nat) : Int) := by rw [IntWalk.i64_in _ (by omega)]; omega
  obtain ⟨m, hm⟩ : ∃ m, m = k + j := ⟨_, rfl⟩
  rw [← hm] at Wk hdig
  have Hdig := Lib.hid hdig
  have HV := Lib.hid hv
  clear hdig hv
  by_cases h1 : m < s.size
  ·have c1 : decide ((m : Int) < (s.size : Int)) = true := by simp; omega
   have c1' : decide (m < s.size) = true := decide_eq_true h1
   have i1 : (m : Int) < (s.size : Int) := by omega
   have hb0 := pbyt_at s m h1
   by_cases h2 : j < 3
   ·have c2 : decide ((j : Int) < 3) = true := by simp; omega
    have c2' : decide (j < 3) = true := decide_eq_true h2
    by_cases h3 : 48 ≤ byt s.data.toList m
    ·have c3 : decide ((48 : Int) ≤ (s[m].toNat : Int)) = true := by rw [← hb0]; simp; omega
     have c3' : decide (48 ≤ s[m].toNat) = true := by rw [← hb0]; exact decide_eq_true h3
     by_cases h4 : byt s.data.toList m ≤ 57
     ·have c4 : decide ((s[m].toNat : Int) ≤ 57) = true := by rw [← hb0]; simp; omega
      have c4' : decide (s[m].toNat ≤ 57) = true := by rw [← hb0]; exact decide_eq_true h4
      have hdy := digs_yes s.data.toList (2 - j) m v (by unfold isDig; rw [decide_eq_true (by omega), decide_eq_true h3, decide_eq_true h4]; rfl)
      rw [show 2 - j + 1 = 3 - j by omega, hb0] at hdy
      obtain ⟨c, hc⟩ : ∃ c, c = s[m].toNat := ⟨_, rfl⟩
      rw [hb0] at h3 h4
      have hc1 : 48 ≤ c := by omega
      have hc2 : c ≤ 57 := by omega
      obtain ⟨x, hx⟩ : ∃ x, x = 10 * v := ⟨_, rfl⟩
      obtain ⟨y, hy⟩ : ∃ y, y = c - 48 := ⟨_, rfl⟩
      obtain ⟨z, hz⟩ : ∃ z, z = x + y := ⟨_, rfl⟩
      obtain ⟨j1, hj1⟩ : ∃ j1, j1 = j + 1 := ⟨_, rfl⟩
      have hv9 := HV.out
      have Wm : IntKind.i64.wrap ((v : Int) * 10) = (x : Int) := by rw [IntWalk.i64_in _ (by omega)]; omega
      have Ws : IntKind.u8.wrap ((s[m].toNat : Int) - 48) = (y : Int) := by rw [IntWalk.u8_in _ (by omega)]; omega
      have Wc : IntKind.i64.wrap (y : Int) = (y : Int) := IntWalk.i64_in _ (by omega)
      have Wa : IntKind.i64.wrap ((x : Int) + (y : Int)) = (z : Int) := by rw [IntWalk.i64_in _ (by omega)]; omega
      have Wj : IntKind.i64.wrap ((j : Int) + 1) = (j1 : Int) := by rw [IntWalk.i64_in _ (by omega)]; omega
      have HD2 := Lib.hid (show digs s.data.toList 3 k 0 = ((digs s.data.toList (3 - j1) (k + j1) z).1 + j1, (digs s.data.toList (3 - j1) (k + j1) z).2) by
       rw [Hdig.out, hdy, ← hc, show 10 * v + (c - 48) = z by omega, show 2 - j = 3 - j1 by omega, show m + 1 = k + j1 by omega]
       simp only [Prod.mk.injEq, and_true]
       omega)
      have HV2 : Hid ((j1 = 0 ∧ z = 0) ∨ (j1 = 1 ∧ z ≤ 9) ∨ (j1 = 2 ∧ z ≤ 99) ∨ (j1 = 3 ∧ z ≤ 999)) := Lib.hid (by omega)
      have HJ : Hid (j1 ≤ 3 ∧ j < j1) := Lib.hid (by omega)
      clear hv9 hdy hc hc1 hc2 hx hy hz hj1 h3 h4 hb0 hm
      go_wp2_with fail
      go_roundw
      case rel => exact ⟨j1, z, HJ.out.1, rfl, rfl, HD2.out, HV2.out, trivial⟩
      case measure => have := HJ.out; simp [intOf]; omega
     ·have c4 : decide ((s[m].toNat : Int) ≤ 57) = false := by rw [← hb0]; simp; omega
      have c4' : decide (s[m].toNat ≤ 57) = false := by rw [← hb0]; exact decide_eq_false h4
      have hdig := Hdig.out
      have hv := HV.out
      have hnd : isDig s.data.toList m = false := by unfold isDig; rw [decide_eq_false h4]; simp
      rw [hm] at hdig hnd
      clear h3 h4 hb0 hm
      have hq : digs s.data.toList 3 k 0 = (j, v) := by rw [hdig, digs_no _ _ _ _ (.inr hnd)]; simp
      clear hdig
      by_cases h255 : 255 < v
      ·have HF := Lib.hid (show numAt s.data.toList k = (0, 0) by unfold numAt; rw [hq, if_neg (by show ¬ v ≤ 255; omega)])
       have d8 : decide ((255 : Int) < (v : Int)) = true := by simp; omega
       have d9 : decide (255 < v) = true := decide_eq_true h255
       clear hq h255 hv hnd
       go_wp2_with fail
       go_ret2
       exact ⟨by rw [HF.out]; rfl, rfl⟩
      ·have HF := Lib.hid (show numAt s.data.toList k = (v, j) by unfold numAt; rw [hq, if_pos (by show v ≤ 255; omega)])
       have d8 : decide ((255 : Int) < (v : Int)) = false := by simp; omega
       have d9 : decide (255 < v) = false := decide_eq_false h255
       clear hq h255 hv hnd
       go_wp2_with fail
       go_ret2
       exact ⟨by rw [HF.out]; rfl, rfl⟩
    ·have c3 : decide ((48 : Int) ≤ (s[m].toNat : Int)) = false := by rw [← hb0]; simp; omega
     have c3' : decide (48 ≤ s[m].toNat) = false := by rw [← hb0]; exact decide_eq_false h3
     have hdig := Hdig.out
     have hv := HV.out
     have hnd : isDig s.data.toList m = false := by unfold isDig; rw [decide_eq_false h3]; simp
     rw [hm] at hdig hnd
     clear h3 hb0 hm
     have hq : digs s.data.toList 3 k 0 = (j, v) := by rw [hdig, digs_no _ _ _ _ (.inr hnd)]; simp
     clear hdig
     by_cases h255 : 255 < v
     ·have HF := Lib.hid (show numAt s.data.toList k = (0, 0) by unfold numAt; rw [hq, if_neg (by show ¬ v ≤ 255; omega)])
      have d8 : decide ((255 : Int) < (v : Int)) = true := by simp; omega
      have d9 : decide (255 < v) = true := decide_eq_true h255
      clear hq h255 hv hnd
      go_wp2_with fail
      go_ret2
      exact ⟨by rw [HF.out]; rfl, rfl⟩
     ·have HF := Lib.hid (show numAt s.data.toList k = (v, j) by unfold numAt; rw [hq, if_pos (by show v ≤ 255; omega)])
      have d8 : decide ((255 : Int) < (v : Int)) = false := by simp; omega
      have d9 : decide (255 < v) = false := decide_eq_false h255
      clear hq h255 hv hnd
      go_wp2_with fail
      go_ret2
      exact ⟨by rw [HF.out]; rfl, rfl⟩
   ·have c2 : decide ((j : Int) < 3) = false := by simp; omega
    have c2' : decide (j < 3) = false := decide_eq_false h2
    have hdig := Hdig.out
    have hv := HV.out
    have hnd : 3 - j = 0 := by omega
    rw [hm] at hdig
    clear hb0 hm h2
    have hq : digs s.data.toList 3 k 0 = (j, v) := by rw [hdig, digs_no _ _ _ _ (.inl hnd)]; simp
    clear hdig
    by_cases h255 : 255 < v
    ·have HF := Lib.hid (show numAt s.data.toList k = (0, 0) by unfold numAt; rw [hq, if_neg (by show ¬ v ≤ 255; omega)])
     have d8 : decide ((255 : Int) < (v : Int)) = true := by simp; omega
     have d9 : decide (255 < v) = true := decide_eq_true h255
     clear hq h255 hv hnd
     go_wp2_with fail
     go_ret2
     exact ⟨by rw [HF.out]; rfl, rfl⟩
    ·have HF := Lib.hid (show numAt s.data.toList k = (v, j) by unfold numAt; rw [hq, if_pos (by show v ≤ 255; omega)])
     have d8 : decide ((255 : Int) < (v : Int)) = false := by simp; omega
     have d9 : decide (255 < v) = false := decide_eq_false h255
     clear hq h255 hv hnd
     go_wp2_with fail
     go_ret2
     exact ⟨by rw [HF.out]; rfl, rfl⟩
  ·have c1 : decide ((m : Int) < (s.size : Int)) = false := by simp; omega
   have c1' : decide (m < s.size) = false := decide_eq_false h1
   have hdig := Hdig.out
   have hv := HV.out
   have hnd : isDig s.data.toList m = false := by unfold isDig; rw [decide_eq_false (by omega)]; rfl
   rw [hm] at hdig hnd
   clear hm h1
   have hq : digs s.data.toList 3 k 0 = (j, v) := by rw [hdig, digs_no _ _ _ _ (.inr hnd)]; simp
   clear hdig
   by_cases h255 : 255 < v
   ·have HF := Lib.hid (show numAt s.data.toList k = (0, 0) by unfold numAt; rw [hq, if_neg (by show ¬ v ≤ 255; omega)])
    have d8 : decide ((255 : Int) < (v : Int)) = true := by simp; omega
    have d9 : decide (255 < v) = true := decide_eq_true h255
    clear hq h255 hv hnd
    go_wp2_with fail
    go_ret2
    exact ⟨by rw [HF.out]; rfl, rfl⟩
   ·have HF := Lib.hid (show numAt s.data.toList k = (v, j) by unfold numAt; rw [hq, if_pos (by show v ≤ 255; omega)])
    have d8 : decide ((255 : Int) < (v : Int)) = false := by simp; omega
    have d9 : decide (255 < v) = false := decide_eq_false h255
    clear hq h255 hv hnd
    go_wp2_with fail
    go_ret2
    exact ⟨by rw [HF.out]; rfl, rfl⟩
end Go.Proofs.YtkejeiopfblkgaaGreatDoor
