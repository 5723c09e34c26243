/- The proof's texts ClD, ClF, ClG, ClH: what the claim reaches of them. -/
import Derived.Test.YtihfenkphhnbcaaCp04
import Derived.Test.YtihfenkphhnbcaaCp05
import Derived.Test.YtihfenkphhnbcaaCp06
import Derived.Maps.AppendAt
import Derived.Deep.RegionHeld3
namespace Go.Proofs.Ytihfenkphhnbcaa
open Go Go.RowKit
theorem dinst_info : ∃ i, Try.prog.info? 84 = some i ∧ i.zero = some (.agg #[.int .i64 0, .int .u64 0, .int .u64 0, .int .u64 0, .int .u64 0, .int .i64 0, .int .i64 0]) ∧ i.size = 7 ∧ i.bytes = 56 := by
  have h : (Try.prog.info? 84).map (fun i => (i.zero, i.size, i.bytes)) = some (some (.agg #[.int .i64 0, .int .u64 0, .int .u64 0, .int .u64 0, .int .u64 0, .int .i64 0, .int .i64 0]), 7, 56) := by kernel_rfl
  obtain ⟨i, hi, he⟩ := Option.map_eq_some_iff.1 h
  injection he with h1 h2
  injection h2 with h2 h3
  exact ⟨i, hi, h1, h2, h3⟩
def DRow (w0 w : World) (l : List Inn) (v : Value) : Prop := w.ownsRow w0.heap.size 84 7 v l.length (inF l)
def DAns (w0 w : World) (v : Value) (r : List Inn × Nat) (e : Ending) (w' : World) : Prop :=
  ∃ v', e = .returned (.tuple #[v', .int .i64 (r.2 : Int)]) ∧ DRow w0 w' r.1 v' ∧ w.grownBy w' v.ownBlock ∧ (v'.ownBlock = v.ownBlock ∨ ∃ g, v'.ownBlock = some g ∧ w.heap.size ≤ g)
def LayC (N : Nat) : Prop := ∀ (t : Tr) (a : Option Addr) (cap : Nat) (w0 w : World) (l : List Inn) (k : Nat) (v : Value), TrD N w0 t a cap → Below w0.heap.size w0 w → DRow w0 w l v → max l.length 3000 + 6 * nsize (canon t) ≤ 100000 → k ≤ l.length → cok (canon t) = true →
  Calls Try.prog 26 #[v, tV t a cap, .int .i64 (k : Int)] w (DAns w0 w v (dl (canon t) l k))
theorem drow_more {w0 w w6 : World} {l : List Inn} {i : Inn} {v v6 : Value} {o : Obj} (hown : w6.ownsRow w0.heap.size 84 7 v6 (l.length + 1) (inF l ++ inC i)) (hg : (w.alloc o).grownBy w6 v.ownBlock) (hat : v6.ownBlock = v.ownBlock ∨ v6.ownBlock = some (w.alloc o).heap.size) :
    DRow w0 w6 (l ++ [i]) v6 ∧ w.grownBy w6 v.ownBlock ∧ (v6.ownBlock = v.ownBlock ∨ ∃ g, v6.ownBlock = some g ∧ w.heap.size ≤ g) := by
  refine ⟨?_, (World.grownBy_alloc w o v.ownBlock).trans hg, hat.imp id fun h => ⟨_, h, by simp⟩⟩
  unfold DRow
  rw [List.length_append, inF_snoc]
  exact hown
set_option linter.unusedVariables false in
set_option linter.unusedSimpArgs false in
set_option maxRecDepth 100000 in
set_option maxHeartbeats 4000000 in
theorem dlay_long (N : Nat) (t : Tr) (a : Option Addr) (cap : Nat) (w0 w : World) (l : List Inn) (k : Nat) (v : Value) (hr : DRow w0 w l v) (hlong : 3000 < l.length) :
    Calls Try.prog 26 #[v, tV t a cap, .int .i64 (k : Int)] w (DAns w0 w v (dl (canon t) l k)) := by
  rw [show dl (canon t) l k = (l, k) from dl_stops (canon t) l k hlong]
  obtain ⟨va, vc, rfl⟩ := co_form hr
  have hl : (3000 : Int) < (l.length : Int) := by omega
  have HA := Lib.hid (show DAns w0 w (.slice va l.length vc) (l, k) (.returned (.tuple #[.slice va l.length vc, .int .i64 (k : Int)])) (w.alloc (.cells (tC t a cap) 27)) from
    ⟨_, rfl, nd_own_below hr ((Below.refl _ w).alloc (Nat.le_refl _) _), World.grownBy_alloc w _ _, .inl rfl⟩)
  clear hr
  unfold tV
  go_enter Try.func26, Try.ntmps26
  go_wp2_with fail
  go_ret2
  exact HA.out
set_option linter.unusedVariables false in
set_option linter.unusedSimpArgs false in
set_option maxRecDepth 100000 in
set_option maxHeartbeats 4000000 in
theorem dlay_1 (t : Tr) (a : Option Addr) (cap : Nat) (w0 w : World) (l : List Inn) (k : Nat) (v : Value) (hb : Below w0.heap.size w0 w) (hr : DRow w0 w l v) (hlong : ¬ 3000 < l.length) (hk : t.kind = 1) :
    Calls Try.prog 26 #[v, tV t a cap, .int .i64 (k : Int)] w (DAns w0 w v (dl (canon t) l k)) := by
  have e1 : (t.kind == 1) = true := by simp [hk]
  have e7 : (t.kind == 7) = false := by simp [hk]
  have e8 : (t.kind == 8) = false := by simp [hk]
  have e6 : (t.kind == 6) = false := by simp [hk]
  have e2 : (t.kind == 2) = false := by simp [hk]
  have e3 : (t.kind == 3) = false := by simp [hk]
  have e5 : (t.kind == 5) = false := by simp [hk]
  have e4 : (t.kind == 4) = false := by simp [hk]
  rw [canon_1 t hk]
  simp only [dl]
  rw [if_neg hlong]
  obtain ⟨va, vc, rfl⟩ := co_form hr
  obtain ⟨i0, hi, hz0, hz1, hz2⟩ := dinst_info
  have hl : ¬ (3000 : Int) < (l.length : Int) := by omega
  have hA1 : Below w.heap.size w (w.alloc (.cells (tC t a cap) 27)) := (Below.refl _ w).alloc (Nat.le_refl _) _
  have hr1 := nd_own_below hr hA1
  have hbs := hb.size
  have hm1 : l.length + 1 ≤ maxLen := by unfold maxLen; omega
  have hm2 : (l.length + 1) * 56 ≤ 140737488355328 := by omega
  have hB1 : w0.heap.size ≤ (w.alloc (.cells (tC t a cap) 27)).heap.size := by simp; omega
  have hne : (inC (⟨0, t.set, 0, 0⟩)).toArray = #[.int .i64 0, .int .u64 (ow t.set 0), .int .u64 (ow t.set 1), .int .u64 (ow t.set 2), .int .u64 (ow t.set 3), .int .i64 0, .int .i64 0] := rfl
  have Hr1 := Lib.hid hr1
  have hg0 := World.grownBy_alloc w (.cells (tC t a cap) 27) (Value.slice va l.length vc).ownBlock
  have hsz1 : (w.alloc (.cells (tC t a cap) 27)).heap.size = w.heap.size + 1 := by simp
  obtain ⟨W1, hW1⟩ : ∃ W1, w.alloc (.cells (tC t a cap) 27) = W1 := ⟨_, rfl⟩
  have hT := Blk.new w (tC t a cap) 27 _ rfl
  rw [hW1] at hT Hr1 hg0 hB1 hsz1
  obtain ⟨q0, q1, q2, q3, q4, q5, q6, q7, q8⟩ := blk9 hT
  have HG0 := Lib.hid hg0
  have HS := Lib.hid hsz1
  clear hr hb hr1 hA1 hT hg0 hsz1 hk
  unfold tV
  have hW1' : w.alloc (.cells #[.int .i64 t.kind, .int .u64 (ow t.set 0), .int .u64 (ow t.set 1), .int .u64 (ow t.set 2), .int .u64 (ow t.set 3), .slice a t.parts.length cap, .int .i64 t.mn, .int .i64 t.mx, .int .i64 t.num] 27) = W1 := hW1
  clear hW1
  go_enter Try.func26, Try.ntmps26
  go_wp2_with (at_builtin; refine wpList_append_own_at _ rfl _ _ 39 rfl w0.heap.size 84 i0 (.agg #[.int .i64 0, .int .u64 0, .int .u64 0, .int .u64 0, .int .u64 0, .int .i64 0, .int .i64 0]) 7 56 Try.underlying39 hi hz0 hz1 hz2 rfl (by decide) (.slice va l.length vc) l.length (inF l) rfl (nd_own_below Hr1.out ((Below.refl _ W1).alloc (Nat.le_refl _) _)) ⟨W1.heap.size, 0, none⟩ 1 1 (inC (⟨0, t.set, 0, 0⟩)) rfl rfl (by rw [← hne]; exact inC_new W1 (⟨0, t.set, 0, 0⟩) _ _ rfl) (inC_one _) hm1 hm2 (by simp; omega) ?_; intro v6 w6 hown6 hgr6 _ hat6)
  obtain ⟨d1, d2, d3⟩ := drow_more hown6 hgr6 hat6
  have HF := Lib.hid (show DAns w0 w (.slice va l.length vc) (l ++ [⟨0, t.set, 0, 0⟩], k) (.returned (.tuple #[v6, .int .i64 (k : Int)])) w6 from ⟨v6, rfl, d1, HG0.out.trans d2, d3.imp id (fun ⟨g, h1, h2⟩ => ⟨g, h1, by have := HS.out; omega⟩)⟩)
  clear hown6 hgr6 hat6 d1 d2 d3
  go_wp2_with fail
  go_ret2
  exact HF.out
set_option linter.unusedVariables false in
set_option linter.unusedSimpArgs false in
set_option maxRecDepth 100000 in
set_option maxHeartbeats 4000000 in
theorem dlay_7 (t : Tr) (a : Option Addr) (cap : Nat) (w0 w : World) (l : List Inn) (k : Nat) (v : Value) (hb : Below w0.heap.size w0 w) (hr : DRow w0 w l v) (hlong : ¬ 3000 < l.length) (hk : t.kind = 7) :
    Calls Try.prog 26 #[v, tV t a cap, .int .i64 (k : Int)] w (DAns w0 w v (dl (canon t) l k)) := by
  have e1 : (t.kind == 1) = false := by simp [hk]
  have e7 : (t.kind == 7) = true := by simp [hk]
  have e8 : (t.kind == 8) = false := by simp [hk]
  have e6 : (t.kind == 6) = false := by simp [hk]
  have e2 : (t.kind == 2) = false := by simp [hk]
  have e3 : (t.kind == 3) = false := by simp [hk]
  have e5 : (t.kind == 5) = false := by simp [hk]
  have e4 : (t.kind == 4) = false := by simp [hk]
  rw [canon_7 t hk]
  simp only [dl]
  rw [if_neg hlong]
  obtain ⟨va, vc, rfl⟩ := co_form hr
  obtain ⟨i0, hi, hz0, hz1, hz2⟩ := dinst_info
  have hl : ¬ (3000 : Int) < (l.length : Int) := by omega
  have hA1 : Below w.heap.size w (w.alloc (.cells (tC t a cap) 27)) := (Below.refl _ w).alloc (Nat.le_refl _) _
  have hr1 := nd_own_below hr hA1
  have hbs := hb.size
  have hm1 : l.length + 1 ≤ maxLen := by unfold maxLen; omega
  have hm2 : (l.length + 1) * 56 ≤ 140737488355328 := by omega
  have hB1 : w0.heap.size ≤ (w.alloc (.cells (tC t a cap) 27)).heap.size := by simp; omega
  have hne : (inC (ins 5 0 0)).toArray = #[.int .i64 5, .int .u64 0, .int .u64 0, .int .u64 0, .int .u64 0, .int .i64 0, .int .i64 0] := inC_ins _ _ _
  have Hr1 := Lib.hid hr1
  have hg0 := World.grownBy_alloc w (.cells (tC t a cap) 27) (Value.slice va l.length vc).ownBlock
  have hsz1 : (w.alloc (.cells (tC t a cap) 27)).heap.size = w.heap.size + 1 := by simp
  obtain ⟨W1, hW1⟩ : ∃ W1, w.alloc (.cells (tC t a cap) 27) = W1 := ⟨_, rfl⟩
  have hT := Blk.new w (tC t a cap) 27 _ rfl
  rw [hW1] at hT Hr1 hg0 hB1 hsz1
  obtain ⟨q0, q1, q2, q3, q4, q5, q6, q7, q8⟩ := blk9 hT
  have HG0 := Lib.hid hg0
  have HS := Lib.hid hsz1
  clear hr hb hr1 hA1 hT hg0 hsz1 hk
  unfold tV
  have hW1' : w.alloc (.cells #[.int .i64 t.kind, .int .u64 (ow t.set 0), .int .u64 (ow t.set 1), .int .u64 (ow t.set 2), .int .u64 (ow t.set 3), .slice a t.parts.length cap, .int .i64 t.mn, .int .i64 t.mx, .int .i64 t.num] 27) = W1 := hW1
  clear hW1
  go_enter Try.func26, Try.ntmps26
  go_wp2_with (at_builtin; refine wpList_append_own_at _ rfl _ _ 39 rfl w0.heap.size 84 i0 (.agg #[.int .i64 0, .int .u64 0, .int .u64 0, .int .u64 0, .int .u64 0, .int .i64 0, .int .i64 0]) 7 56 Try.underlying39 hi hz0 hz1 hz2 rfl (by decide) (.slice va l.length vc) l.length (inF l) rfl (nd_own_below Hr1.out ((Below.refl _ W1).alloc (Nat.le_refl _) _)) ⟨W1.heap.size, 0, none⟩ 1 1 (inC (ins 5 0 0)) rfl rfl (by rw [← hne]; exact inC_new W1 (ins 5 0 0) _ _ rfl) (inC_one _) hm1 hm2 (by simp; omega) ?_; intro v6 w6 hown6 hgr6 _ hat6)
  obtain ⟨d1, d2, d3⟩ := drow_more hown6 hgr6 hat6
  have HF := Lib.hid (show DAns w0 w (.slice va l.length vc) (l ++ [ins 5 0 0], k) (.returned (.tuple #[v6, .int .i64 (k : Int)])) w6 from ⟨v6, rfl, d1, HG0.out.trans d2, d3.imp id (fun ⟨g, h1, h2⟩ => ⟨g, h1, by have := HS.out; omega⟩)⟩)
  clear hown6 hgr6 hat6 d1 d2 d3
  go_wp2_with fail
  go_ret2
  exact HF.out
set_option linter.unusedVariables false in
set_option linter.unusedSimpArgs false in
set_option maxRecDepth 100000 in
set_option maxHeartbeats 4000000 in
theorem dlay_8 (t : Tr) (a : Option Addr) (cap : Nat) (w0 w : World) (l : List Inn) (k : Nat) (v : Value) (hb : Below w0.heap.size w0 w) (hr : DRow w0 w l v) (hlong : ¬ 3000 < l.length) (hk : t.kind = 8) :
    Calls Try.prog 26 #[v, tV t a cap, .int .i64 (k : Int)] w (DAns w0 w v (dl (canon t) l k)) := by
  have e1 : (t.kind == 1) = false := by simp [hk]
  have e7 : (t.kind == 7) = false := by simp [hk]
  have e8 : (t.kind == 8) = true := by simp [hk]
  have e6 : (t.kind == 6) = false := by simp [hk]
  have e2 : (t.kind == 2) = false := by simp [hk]
  have e3 : (t.kind == 3) = false := by simp [hk]
  have e5 : (t.kind == 5) = false := by simp [hk]
  have e4 : (t.kind == 4) = false := by simp [hk]
  rw [canon_8 t hk]
  simp only [dl]
  rw [if_neg hlong]
  obtain ⟨va, vc, rfl⟩ := co_form hr
  obtain ⟨i0, hi, hz0, hz1, hz2⟩ := dinst_info
  have hl : ¬ (3000 : Int) < (l.length : Int) := by omega
  have hA1 : Below w.heap.size w (w.alloc (.cells (tC t a cap) 27)) := (Below.refl _ w).alloc (Nat.le_refl _) _
  have hr1 := nd_own_below hr hA1
  have hbs := hb.size
  have hm1 : l.length + 1 ≤ maxLen := by unfold maxLen; omega
  have hm2 : (l.length + 1) * 56 ≤ 140737488355328 := by omega
  have hB1 : w0.heap.size ≤ (w.alloc (.cells (tC t a cap) 27)).heap.size := by simp; omega
  have hne : (inC (ins 6 0 0)).toArray = #[.int .i64 6, .int .u64 0, .int .u64 0, .int .u64 0, .int .u64 0, .int .i64 0, .int .i64 0] := inC_ins _ _ _
  have Hr1 := Lib.hid hr1
  have hg0 := World.grownBy_alloc w (.cells (tC t a cap) 27) (Value.slice va l.length vc).ownBlock
  have hsz1 : (w.alloc (.cells (tC t a cap) 27)).heap.size = w.heap.size + 1 := by simp
  obtain ⟨W1, hW1⟩ : ∃ W1, w.alloc (.cells (tC t a cap) 27) = W1 := ⟨_, rfl⟩
  have hT := Blk.new w (tC t a cap) 27 _ rfl
  rw [hW1] at hT Hr1 hg0 hB1 hsz1
  obtain ⟨q0, q1, q2, q3, q4, q5, q6, q7, q8⟩ := blk9 hT
  have HG0 := Lib.hid hg0
  have HS := Lib.hid hsz1
  clear hr hb hr1 hA1 hT hg0 hsz1 hk
  unfold tV
  have hW1' : w.alloc (.cells #[.int .i64 t.kind, .int .u64 (ow t.set 0), .int .u64 (ow t.set 1), .int .u64 (ow t.set 2), .int .u64 (ow t.set 3), .slice a t.parts.length cap, .int .i64 t.mn, .int .i64 t.mx, .int .i64 t.num] 27) = W1 := hW1
  clear hW1
  go_enter Try.func26, Try.ntmps26
  go_wp2_with (at_builtin; refine wpList_append_own_at _ rfl _ _ 39 rfl w0.heap.size 84 i0 (.agg #[.int .i64 0, .int .u64 0, .int .u64 0, .int .u64 0, .int .u64 0, .int .i64 0, .int .i64 0]) 7 56 Try.underlying39 hi hz0 hz1 hz2 rfl (by decide) (.slice va l.length vc) l.length (inF l) rfl (nd_own_below Hr1.out ((Below.refl _ W1).alloc (Nat.le_refl _) _)) ⟨W1.heap.size, 0, none⟩ 1 1 (inC (ins 6 0 0)) rfl rfl (by rw [← hne]; exact inC_new W1 (ins 6 0 0) _ _ rfl) (inC_one _) hm1 hm2 (by simp; omega) ?_; intro v6 w6 hown6 hgr6 _ hat6)
  obtain ⟨d1, d2, d3⟩ := drow_more hown6 hgr6 hat6
  have HF := Lib.hid (show DAns w0 w (.slice va l.length vc) (l ++ [ins 6 0 0], k) (.returned (.tuple #[v6, .int .i64 (k : Int)])) w6 from ⟨v6, rfl, d1, HG0.out.trans d2, d3.imp id (fun ⟨g, h1, h2⟩ => ⟨g, h1, by have := HS.out; omega⟩)⟩)
  clear hown6 hgr6 hat6 d1 d2 d3
  go_wp2_with fail
  go_ret2
  exact HF.out
set_option linter.unusedVariables false in
set_option linter.unusedSimpArgs false in
set_option maxRecDepth 100000 in
set_option maxHeartbeats 4000000 in
theorem dlay_6 (t : Tr) (a : Option Addr) (cap : Nat) (w0 w : World) (l : List Inn) (k : Nat) (v : Value) (hb : Below w0.heap.size w0 w) (hr : DRow w0 w l v) (hlong : ¬ 3000 < l.length) (hk : t.kind = 6) :
    Calls Try.prog 26 #[v, tV t a cap, .int .i64 (k : Int)] w (DAns w0 w v (dl (canon t) l k)) := by
  have e1 : (t.kind == 1) = false := by simp [hk]
  have e7 : (t.kind == 7) = false := by simp [hk]
  have e8 : (t.kind == 8) = false := by simp [hk]
  have e6 : (t.kind == 6) = true := by simp [hk]
  have e2 : (t.kind == 2) = false := by simp [hk]
  have e3 : (t.kind == 3) = false := by simp [hk]
  have e5 : (t.kind == 5) = false := by simp [hk]
  have e4 : (t.kind == 4) = false := by simp [hk]
  rw [canon_6 t hk]
  simp only [dl]
  rw [if_neg hlong]
  obtain ⟨va, vc, rfl⟩ := co_form hr
  obtain ⟨i0, hi, hz0, hz1, hz2⟩ := dinst_info
  have hl : ¬ (3000 : Int) < (l.length : Int) := by omega
  have hA1 : Below w.heap.size w (w.alloc (.cells (tC t a cap) 27)) := (Below.refl _ w).alloc (Nat.le_refl _) _
  have hr1 := nd_own_below hr hA1
  have hbs := hb.size
  have hm1 : l.length + 1 ≤ maxLen := by unfold maxLen; omega
  have hm2 : (l.length + 1) * 56 ≤ 140737488355328 := by omega
  have hB1 : w0.heap.size ≤ (w.alloc (.cells (tC t a cap) 27)).heap.size := by simp; omega
  have hne : (inC (ins 4 t.num 0)).toArray = #[.int .i64 4, .int .u64 0, .int .u64 0, .int .u64 0, .int .u64 0, .int .i64 t.num, .int .i64 0] := inC_ins _ _ _
  have Hr1 := Lib.hid hr1
  have hg0 := World.grownBy_alloc w (.cells (tC t a cap) 27) (Value.slice va l.length vc).ownBlock
  have hsz1 : (w.alloc (.cells (tC t a cap) 27)).heap.size = w.heap.size + 1 := by simp
  obtain ⟨W1, hW1⟩ : ∃ W1, w.alloc (.cells (tC t a cap) 27) = W1 := ⟨_, rfl⟩
  have hT := Blk.new w (tC t a cap) 27 _ rfl
  rw [hW1] at hT Hr1 hg0 hB1 hsz1
  obtain ⟨q0, q1, q2, q3, q4, q5, q6, q7, q8⟩ := blk9 hT
  have HG0 := Lib.hid hg0
  have HS := Lib.hid hsz1
  clear hr hb hr1 hA1 hT hg0 hsz1 hk
  unfold tV
  have hW1' : w.alloc (.cells #[.int .i64 t.kind, .int .u64 (ow t.set 0), .int .u64 (ow t.set 1), .int .u64 (ow t.set 2), .int .u64 (ow t.set 3), .slice a t.parts.length cap, .int .i64 t.mn, .int .i64 t.mx, .int .i64 t.num] 27) = W1 := hW1
  clear hW1
  go_enter Try.func26, Try.ntmps26
  go_wp2_with (at_builtin; refine wpList_append_own_at _ rfl _ _ 39 rfl w0.heap.size 84 i0 (.agg #[.int .i64 0, .int .u64 0, .int .u64 0, .int .u64 0, .int .u64 0, .int .i64 0, .int .i64 0]) 7 56 Try.underlying39 hi hz0 hz1 hz2 rfl (by decide) (.slice va l.length vc) l.length (inF l) rfl (nd_own_below Hr1.out ((Below.refl _ W1).alloc (Nat.le_refl _) _)) ⟨W1.heap.size, 0, none⟩ 1 1 (inC (ins 4 t.num 0)) rfl rfl (by rw [← hne]; exact inC_new W1 (ins 4 t.num 0) _ _ rfl) (inC_one _) hm1 hm2 (by simp; omega) ?_; intro v6 w6 hown6 hgr6 _ hat6)
  obtain ⟨d1, d2, d3⟩ := drow_more hown6 hgr6 hat6
  have HF := Lib.hid (show DAns w0 w (.slice va l.length vc) (l ++ [ins 4 t.num 0], k) (.returned (.tuple #[v6, .int .i64 (k : Int)])) w6 from ⟨v6, rfl, d1, HG0.out.trans d2, d3.imp id (fun ⟨g, h1, h2⟩ => ⟨g, h1, by have := HS.out; omega⟩)⟩)
  clear hown6 hgr6 hat6 d1 d2 d3
  go_wp2_with fail
  go_ret2
  exact HF.out
set_option linter.unusedVariables false in
set_option linter.unusedSimpArgs false in
set_option maxRecDepth 100000 in
set_option maxHeartbeats 4000000 in
theorem dlay_none (t : Tr) (a : Option Addr) (cap : Nat) (w0 w : World) (l : List Inn) (k : Nat) (v : Value) (hb : Below w0.heap.size w0 w) (hr : DRow w0 w l v) (hlong : ¬ 3000 < l.length) (h1 : t.kind ≠ 1) (h7 : t.kind ≠ 7) (h8 : t.kind ≠ 8) (h6 : t.kind ≠ 6) (h2 : t.kind ≠ 2) (h3 : t.kind ≠ 3) (h5 : t.kind ≠ 5) (h4 : t.kind ≠ 4) :
    Calls Try.prog 26 #[v, tV t a cap, .int .i64 (k : Int)] w (DAns w0 w v (dl (canon t) l k)) := by
  have e1 : (t.kind == 1) = false := by simp [h1]
  have e7 : (t.kind == 7) = false := by simp [h7]
  have e8 : (t.kind == 8) = false := by simp [h8]
  have e6 : (t.kind == 6) = false := by simp [h6]
  have e2 : (t.kind == 2) = false := by simp [h2]
  have e3 : (t.kind == 3) = false := by simp [h3]
  have e5 : (t.kind == 5) = false := by simp [h5]
  have e4 : (t.kind == 4) = false := by simp [h4]
  rw [canon_0 t h1 h2 h3 h4 h5 h6 h7 h8]
  simp only [dl]
  obtain ⟨va, vc, rfl⟩ := co_form hr
  have hl : ¬ (3000 : Int) < (l.length : Int) := by omega
  have HA := Lib.hid (show DAns w0 w (.slice va l.length vc) (l, k) (.returned (.tuple #[.slice va l.length vc, .int .i64 (k : Int)])) (w.alloc (.cells (tC t a cap) 27)) from
    ⟨_, rfl, nd_own_below hr ((Below.refl _ w).alloc (Nat.le_refl _) _), World.grownBy_alloc w _ _, .inl rfl⟩)
  clear hr h1 h7 h8 h6 h2 h3 h5 h4 hb
  unfold tV
  go_enter Try.func26, Try.ntmps26
  go_wp2_with fail
  go_ret2
  exact HA.out
end Go.Proofs.Ytihfenkphhnbcaa
namespace Go.Proofs.Ytihfenkphhnbcaa
open Go Go.RowKit
def LocD (W : World) (v v' : Value) : Prop := v'.ownBlock = v.ownBlock ∨ ∃ g, v'.ownBlock = some g ∧ W.heap.size ≤ g
structure DSt (w0 W : World) (v : Value) (l : List Inn) (v' : Value) (wr : World) : Prop where
  row : DRow w0 wr l v'
  gr : W.grownBy wr v.ownBlock
  loc : LocD W v v'
  low : Below w0.heap.size w0 wr
theorem DSt.step {w0 W wr w' : World} {v v' v2 : Value} {l l2 : List Inn} (h : DSt w0 W v l v' wr) (hr : DRow w0 w' l2 v2) (hg : wr.grownBy w' v'.ownBlock) (hl : LocD wr v' v2) : DSt w0 W v l2 v2 w' := by
  have hlow := h.low.grown hg h.low.size (fun b hb => own_of h.row b hb)
  refine ⟨hr, ?_, ?_, hlow⟩
  · rcases h.loc with e | ⟨g, e, hge⟩
    · rw [e] at hg; exact h.gr.trans hg
    · exact ⟨hg.os.trans h.gr.os, hg.tape.trans h.gr.tape, hg.output.trans h.gr.output, Nat.le_trans h.gr.size hg.size, fun b hb hne => (hg.block b (Nat.lt_of_lt_of_le hb h.gr.size) (fun x => by rw [e] at x; injection x with x; omega)).trans (h.gr.block b hb hne)⟩
  · have hs := h.gr.size
    rcases hl with e | ⟨g, e, hge⟩
    · rcases h.loc with e2 | ⟨g2, e2, h2⟩
      · exact .inl (e.trans e2)
      · exact .inr ⟨g2, e.trans e2, h2⟩
    · exact .inr ⟨g, e, by omega⟩
theorem DSt.ans {w0 W wr w' : World} {v v' : Value} {l : List Inn} {r : List Inn × Nat} {e : Ending} (h : DSt w0 W v l v' wr) (ha : DAns w0 wr v' r e w') : ∃ v2, e = .returned (.tuple #[v2, .int .i64 (r.2 : Int)]) ∧ DSt w0 W v r.1 v2 w' := by
  obtain ⟨v2, e1, e2, e3, e4⟩ := ha
  exact ⟨v2, e1, h.step e2 e3 e4⟩
theorem DSt.end {w0 w W wr : World} {v v' : Value} {l : List Inn} {k : Nat} (o : Obj) (hW : w.alloc o = W) (h : DSt w0 W v l v' wr) : DAns w0 w v (l, k) (.returned (.tuple #[v', .int .i64 (k : Int)])) wr := by
  subst hW
  refine ⟨v', rfl, h.row, (World.grownBy_alloc w o v.ownBlock).trans h.gr, ?_⟩
  rcases h.loc with e | ⟨g, e, hge⟩
  · exact .inl e
  · exact .inr ⟨g, e, by rw [World.size_alloc] at hge; omega⟩
theorem DSt.box {w0 w W wr : World} {v v' : Value} {l : List Inn} {t : Tr} {a : Option Addr} {cap : Nat} (hB : Blk W w.heap.size (tC t a cap) 27) (hv : ∀ b, v.ownBlock = some b → b < w.heap.size) (h : DSt w0 W v l v' wr) : Cl9 wr w.heap.size 0 t a cap := by
  have : Blk wr w.heap.size (tC t a cap) 27 := by
    have hlt := hB.lt
    unfold Blk at hB ⊢
    rw [h.gr.block w.heap.size hlt (fun e => by have := hv _ e.symm; omega)]
    exact hB
  exact blk9 this
theorem coks_mem : ∀ (l : List Tr), coks (l.map canon) = true → ∀ x ∈ l, cok (canon x) = true
  | [], _, x, hx => by cases hx
  | y :: l, h, x, hx => by
    rw [List.map_cons, coks, Bool.and_eq_true] at h
    rcases List.mem_cons.1 hx with rfl | hx
    · exact h.1
    · exact coks_mem l h.2 x hx
set_option linter.unusedVariables false in
set_option linter.unusedSimpArgs false in
set_option maxRecDepth 100000 in
set_option maxHeartbeats 2000000 in
theorem dlay_cat (N : Nat) (ih : LayC N) (t : Tr) (a : Option Addr) (cap : Nat) (w0 w : World) (l : List Inn) (k : Nat) (v : Value) (h : TrD (N + 1) w0 t a cap) (hb : Below w0.heap.size w0 w) (hr : DRow w0 w l v) (hs : max l.length 3000 + 6 * nsize (canon t) ≤ 100000) (hk : k ≤ l.length) (hc : cok (canon t) = true) (hlong : ¬ 3000 < l.length) (h2 : t.kind = 2) :
    Calls Try.prog 26 #[v, tV t a cap, .int .i64 (k : Int)] w (DAns w0 w v (dl (canon t) l k)) := by
  have e1 : (t.kind == 1) = false := by simp [h2]
  have e7 : (t.kind == 7) = false := by simp [h2]
  have e8 : (t.kind == 8) = false := by simp [h2]
  have e6 : (t.kind == 6) = false := by simp [h2]
  have e2 : (t.kind == 2) = true := by simp [h2]
  have e3 : (t.kind == 3) = false := by simp [h2]
  have e5 : (t.kind == 5) = false := by simp [h2]
  have e4 : (t.kind == 4) = false := by simp [h2]
  have hp : tkids t = t.parts := by unfold tkids; rw [if_pos (.inl h2)]
  rw [canon_2 t h2, hp] at hs hc ⊢
  simp only [dl]
  rw [if_neg hlong]
  rw [nsize] at hs
  rw [cok] at hc
  have hrow := h.row
  obtain ⟨va, vc, rfl⟩ := co_form hr
  have hvl := fun b hb => co_own_lt hr b hb
  have hl : ¬ (3000 : Int) < (l.length : Int) := by omega
  have hA1 : Below w.heap.size w (w.alloc (.cells (tC t a cap) 27)) := (Below.refl _ w).alloc (Nat.le_refl _) _
  have hbs := hb.size
  have hT := Blk.new w (tC t a cap) 27 _ rfl
  obtain ⟨W1, hW1⟩ : ∃ W1, w.alloc (.cells (tC t a cap) 27) = W1 := ⟨_, rfl⟩
  have hS0 : DSt w0 W1 (.slice va l.length vc) l (.slice va l.length vc) W1 := by
    rw [← hW1]
    exact ⟨nd_own_below hr hA1, World.grownBy.refl _ _, .inl rfl, hb.trans (hA1.mono hbs)⟩
  rw [hW1] at hT
  have HS0 := Lib.hid hS0
  have HT := Lib.hid hT
  have Hvl := Lib.hid hvl
  have HW1 := Lib.hid hW1
  obtain ⟨q0, q1, q2, q3, q4, q5, q6, q7, q8⟩ := blk9 hT
  have hnm : t.parts.length ≤ maxLen := by have h1 := hrow.1; have h2 := hrow.2.1; omega
  have HRow := Lib.hid hrow.2.2
  have Hc := Lib.hid (coks_mem t.parts hc)
  unfold maxLen at hnm
  have hW1' : w.alloc (.cells #[.int .i64 t.kind, .int .u64 (ow t.set 0), .int .u64 (ow t.set 1), .int .u64 (ow t.set 2), .int .u64 (ow t.set 3), .slice a t.parts.length cap, .int .i64 t.mn, .int .i64 t.mx, .int .i64 t.num] 27) = W1 := hW1
  clear hr hb hA1 hT hS0 hvl hW1 h hrow hc hp h2
  unfold tV
  go_enter Try.func26, Try.ntmps26
  go_wp2_with fail
  go_loopw [0, 2, 65] (fun vv kk i wr => ∃ (j : Nat) (l' : List Inn) (k' : Nat), j ≤ t.parts.length ∧ i = .int .i64 j ∧ kk = .int .i64 k' ∧ DSt w0 W1 (.slice va l.length vc) l' vv wr ∧ dls ((t.parts.map canon).drop j) l' k' = dls (t.parts.map canon) l k ∧ k' ≤ l'.length ∧ max l'.length 3000 + 6 * nsizes ((t.parts.map canon).drop j) ≤ 100000) (fun _ _ i _ => t.parts.length - (intOf i).toNat)
  case atStart => exact ⟨0, l, k, by omega, rfl, rfl, HS0.out, rfl, hk, by rw [List.drop_zero]; omega⟩
  case round =>
    obtain ⟨j, l', k', hj, rfl, rfl, hS, hd, hk', hsz'⟩ := hrel
    have hbx := DSt.box HT.out Hvl.out hS
    obtain ⟨c0, c1, c2, c3, c4, c5, c6, c7, c8⟩ := hbx
    by_cases hlt : j < t.parts.length
    · obtain ⟨b, o, rfl, hbl, hx⟩ := HRow.out (by omega)
      obtain ⟨a', cap', h9, hr⟩ := hx j hlt
      replace h9 := h9.below hS.low hbl
      have hdr : (t.parts.map canon).drop j = canon t.parts[j] :: (t.parts.map canon).drop (j + 1) := by rw [List.drop_eq_getElem_cons (by simpa using hlt), List.getElem_map]
      rw [hdr, dls] at hd
      rw [hdr, nsizes] at hsz'
      have hcx := Hc.out _ (List.getElem_mem hlt)
      have hji : (j : Int) < (t.parts.length : Int) := by omega
      have Wj : IntKind.i64.wrap ((j : Int) + 1) = (j : Int) + 1 := IntWalk.i64_in _ (by omega)
      obtain ⟨x0, x1, x2, x3, x4, x5, x6, x7, x8⟩ := h9
      generalize t.parts[j] = x at *
      have hC := ih x a' cap' w0 wr l' k' _ hr hS.low hS.row (by omega) hk' hcx
      have hf := dl_few (canon x) l' k'
      have hlp := dl_lps (canon x) l' k'
      simp only at hf hlp
      have hone := nsize_one (canon x)
      have Hd := Lib.hid hd
      have HSt := Lib.hid hS
      have Hm := Lib.hid (And.intro hf (And.intro hlp (And.intro hk' (And.intro hsz' hone))))
      unfold tV at hC
      clear hd hS hx hr hcx hf hlp hk' hsz' hone hdr
      obtain ⟨v5a, v5c, rfl⟩ := co_form HSt.out.row
      go_wp2_with (go_at_call 26; refine hC.mono ?_; clear hC; rintro e w6 hA; obtain ⟨v2, rfl, hS2⟩ := HSt.out.ans hA; clear hA; have HS2 := Lib.hid hS2; obtain ⟨va2, vc2, rfl⟩ := co_form hS2.row; clear hS2)
      obtain ⟨m1, m2, m3, m4, m5⟩ := Hm.out
      go_roundw
      case rel => exact ⟨j + 1, _, _, by omega, by go_num, rfl, HS2.out, Hd.out, by omega, by omega⟩
      case measure => simp [intOf]; omega
    · obtain rfl : t.parts.length = j := by omega
      rw [List.drop_of_length_le (by simp), dls] at hd
      have HF := Lib.hid (DSt.end (k := k') _ HW1.out hS)
      rw [hd] at HF
      obtain ⟨v5a, v5c, rfl⟩ := co_form hS.row
      clear hS hd hsz' hk' HRow
      go_wp2_with fail
      go_ret2
      exact HF.out
end Go.Proofs.Ytihfenkphhnbcaa
namespace Go.Proofs.Ytihfenkphhnbcaa
open Go Go.RowKit
set_option linter.unusedVariables false in
set_option linter.unusedSimpArgs false in
set_option maxRecDepth 100000 in
set_option maxHeartbeats 1000000 in
/-- Of, in a later world: its answer lies where the node did. -/
theorem dof_any (N : Nat) (t : Tr) (a : Option Addr) (cap : Nat) (w0 w : World) (h : TrD (N + 1) w0 t a cap) (hb : Below w0.heap.size w0 w) (hk : t.kind = 4 ∨ t.kind = 5) :
    Calls Try.prog 36 #[tV t a cap] w fun e w' => ∃ a' cap', e = .returned (tV (tof t) a' cap') ∧ TrD N w0 (tof t) a' cap' ∧ Below w.heap.size w w' := by
  have hW := (Below.refl w.heap.size w).alloc (Nat.le_refl _) (.cells (tC t a cap) 27)
  have hR := h.row
  by_cases h0 : 0 < t.parts.length
  · obtain ⟨b, o, rfl, hlt, hx⟩ := hR.2.2 h0
    obtain ⟨a', cap', h9, hr⟩ := hx 0 h0
    have hto : tof t = t.parts[0] := by
      unfold tof
      rw [List.headD_eq_head?_getD, List.head?_eq_getElem?, List.getElem?_eq_getElem h0]
      rfl
    rw [hto]
    have hl := hR.1
    have hl2 := hR.2.1
    unfold maxLen at hl2
    have hlw : b < w.heap.size := Nat.lt_of_lt_of_le hlt hb.size
    replace h9 := (h9.below hb hlt).below hW (Nat.lt_of_lt_of_le hlt hb.size)
    have e0 : ((t.parts.length : Int) == 0) = false := by rw [beq_eq_false_iff_ne]; omega
    obtain ⟨c0, c1, c2, c3, c4, c5, c6, c7, c8⟩ := h9
    simp only [Nat.zero_mul, Nat.add_zero] at c0 c1 c2 c3 c4 c5 c6 c7 c8
    have Hr := Lib.hid hr
    clear hx hR h hr hb hk
    generalize t.parts[0] = x at *
    unfold tV
    go_enter Try.func36, Try.ntmps36
    go_wp2_with fail
    refine bodyPost_ret (v := tV x a' cap') (by simp [results, Try.results36, go_sem, tV]) rfl ⟨a', cap', rfl, Hr.out, hW.alloc hW.size _⟩
  · have hp : t.parts = [] := List.eq_nil_of_length_eq_zero (by omega)
    have hto : tof t = tz := by unfold tof; rw [hp]; rfl
    have hz := fun w' => h.tz (w' := w') hk hp
    rw [hto]
    have hpl : t.parts.length = 0 := by rw [hp]; rfl
    have Hz := Lib.hid hz
    clear hR h hz hb hk
    unfold tV
    rw [hpl]
    have hW' := hW
    unfold tC at hW'
    rw [hpl] at hW'
    go_enter Try.func36, Try.ntmps36
    go_wp2_with fail
    refine bodyPost_ret (v := tV tz none 0) (by simp [results, Try.results36, go_sem, tV, tz, Tr.kind, Tr.set, Tr.parts, Tr.mn, Tr.mx, Tr.num, ow_zero]) rfl ⟨none, 0, rfl, Hz.out _, ?_⟩
    first | exact hW'.alloc hW'.size _ | exact hW' | exact (hW'.alloc hW'.size _).alloc (by simp; omega) _
end Go.Proofs.Ytihfenkphhnbcaa
namespace Go.Proofs.Ytihfenkphhnbcaa
open Go Go.RowKit
theorem DSt.below {w0 W wr w' : World} {v v' : Value} {l : List Inn} (h : DSt w0 W v l v' wr) (hb : Below wr.heap.size wr w') : DSt w0 W v l v' w' :=
  ⟨nd_own_below h.row hb, h.gr.trans ⟨hb.os, hb.tape, hb.output, hb.size, fun b hb' _ => hb.block b hb'⟩, h.loc, h.low.trans (hb.mono h.low.size)⟩
set_option linter.unusedVariables false in
set_option linter.unusedSimpArgs false in
set_option maxRecDepth 100000 in
set_option maxHeartbeats 1000000 in
theorem dlay_group (N : Nat) (ih : LayC N) (t : Tr) (a : Option Addr) (cap : Nat) (w0 w : World) (l : List Inn) (k : Nat) (v : Value) (h : TrD (N + 1) w0 t a cap) (hb : Below w0.heap.size w0 w) (hr : DRow w0 w l v) (hs : max l.length 3000 + 6 * nsize (canon t) ≤ 100000) (hk : k ≤ l.length) (hc : cok (canon t) = true) (hlong : ¬ 3000 < l.length) (h5 : t.kind = 5) :
    Calls Try.prog 26 #[v, tV t a cap, .int .i64 (k : Int)] w (DAns w0 w v (dl (canon t) l k)) := by
  have e1 : (t.kind == 1) = false := by simp [h5]
  have e7 : (t.kind == 7) = false := by simp [h5]
  have e8 : (t.kind == 8) = false := by simp [h5]
  have e6 : (t.kind == 6) = false := by simp [h5]
  have e2 : (t.kind == 2) = false := by simp [h5]
  have e3 : (t.kind == 3) = false := by simp [h5]
  have e5 : (t.kind == 5) = true := by simp [h5]
  have e4 : (t.kind == 4) = false := by simp [h5]
  rw [(canon_5 t h5).1] at hs hc ⊢
  simp only [dl]
  rw [if_neg hlong]
  rw [nsize] at hs
  simp only [cok, Bool.and_eq_true, decide_eq_true_eq] at hc
  have hn1 := hc.1.1
  have hn2 := hc.1.2
  have Wn : IntKind.i64.wrap (2 * t.num) = 2 * t.num := IntWalk.i64_in _ (by omega)
  have Wn2 : IntKind.i64.wrap (2 * t.num + 1) = 2 * t.num + 1 := IntWalk.i64_in _ (by omega)
  have hOf := fun (w' : World) (hb' : Below w0.heap.size w0 w') => dof_any N t a cap w0 w' h hb' (.inr h5)
  obtain ⟨va, vc, rfl⟩ := co_form hr
  obtain ⟨i0, hi, hz0, hz1, hz2⟩ := dinst_info
  have hvl := fun b hb => co_own_lt hr b hb
  have hl : ¬ (3000 : Int) < (l.length : Int) := by omega
  have hm1 : l.length + 1 ≤ maxLen := by unfold maxLen; omega
  have hm2 : (l.length + 1) * 56 ≤ 140737488355328 := by omega
  have hA1 : Below w.heap.size w (w.alloc (.cells (tC t a cap) 27)) := (Below.refl _ w).alloc (Nat.le_refl _) _
  have hbs := hb.size
  have hT := Blk.new w (tC t a cap) 27 _ rfl
  obtain ⟨W1, hW1⟩ : ∃ W1, w.alloc (.cells (tC t a cap) 27) = W1 := ⟨_, rfl⟩
  have hS0 : DSt w0 W1 (.slice va l.length vc) l (.slice va l.length vc) W1 := by
    rw [← hW1]
    exact ⟨nd_own_below hr hA1, World.grownBy.refl _ _, .inl rfl, hb.trans (hA1.mono hbs)⟩
  rw [hW1] at hT
  have DS := Lib.hid hS0
  have HT := Lib.hid hT
  have Hvl := Lib.hid hvl
  have HW1 := Lib.hid hW1
  have Hs := Lib.hid hs
  have Hc := Lib.hid hc.2
  obtain ⟨q0, q1, q2, q3, q4, q5, q6, q7, q8⟩ := blk9 hT
  have hW1' : w.alloc (.cells #[.int .i64 t.kind, .int .u64 (ow t.set 0), .int .u64 (ow t.set 1), .int .u64 (ow t.set 2), .int .u64 (ow t.set 3), .slice a t.parts.length cap, .int .i64 t.mn, .int .i64 t.mx, .int .i64 t.num] 27) = W1 := hW1
  unfold tV at hOf ⊢
  clear hr hb hA1 hT hS0 hvl h hc hs h5 hW1
  go_enter Try.func26, Try.ntmps26
  go_upto_region 37 with fail
  clear hW1'
  have hmix : Try.prog.follows .mixedOrders = true := by kernel_rfl
  go_cut [0, 2] (fun vv kk wx => kk = .int .i64 ((dl (canon (tof t)) (l ++ [ins 3 (2 * t.num) 0]) k).2 : Int) ∧ DSt w0 W1 (.slice va l.length vc) (dl (canon (tof t)) (l ++ [ins 3 (2 * t.num) 0]) k).1 vv wx)
  case first =>
    have DS := Lib.hid (DS.out.below (Below.drew (Below.refl _ W1)))
    refine wp_region_held_drew (S := fun W' : World => Cl9 W' w.heap.size 0 t a cap) hmix (DSt.box HT.out Hvl.out DS.out) (fun hHeld => ?_)
    refine wpAnyH_take (i := 0) (v := ?_) rfl (by kernel_rfl) (by kernel_rfl) (by kernel_rfl) (fun _ _ _ h => h) (Or.inl ⟨by rfl, ?_⟩) (by assumption) ?_
    rotate_left
    · intro W' hSw; obtain ⟨c0, c1, c2, c3, c4, c5, c6, c7, c8⟩ := hSw; go_simp; try with_reducible rfl
    try simp only [List.getElem_toArray, List.getElem_cons_succ, List.getElem_cons_zero, Act.put, List.setIfInBounds_toArray, List.set_cons_zero, List.set_cons_succ]
    refine wpAnyH_take (i := 1) (v := ?_) rfl (by kernel_rfl) (by kernel_rfl) (by kernel_rfl) (fun _ _ _ h => h) (Or.inl ⟨by rfl, ?_⟩) (by assumption) ?_
    rotate_left
    · intro W' hSw; obtain ⟨c0, c1, c2, c3, c4, c5, c6, c7, c8⟩ := hSw; go_simp; try with_reducible rfl
    try simp only [List.getElem_toArray, List.getElem_cons_succ, List.getElem_cons_zero, Act.put, List.setIfInBounds_toArray, List.set_cons_zero, List.set_cons_succ]
    refine wpAnyH_take (i := 2) (v := ?_) rfl (by kernel_rfl) (by kernel_rfl) (by kernel_rfl) (fun _ _ _ h => h) (Or.inl ⟨by rfl, ?_⟩) (by assumption) ?_
    rotate_left
    · intro W' hSw; obtain ⟨c0, c1, c2, c3, c4, c5, c6, c7, c8⟩ := hSw; go_simp; try with_reducible rfl
    try simp only [List.getElem_toArray, List.getElem_cons_succ, List.getElem_cons_zero, Act.put, List.setIfInBounds_toArray, List.set_cons_zero, List.set_cons_succ]
    refine wpAnyH_take (i := 3) (v := ?_) rfl (by kernel_rfl) (by kernel_rfl) (by kernel_rfl) (fun _ _ _ h => h) (Or.inl ⟨by rfl, ?_⟩) (by assumption) ?_
    rotate_left
    · intro W' hSw; obtain ⟨c0, c1, c2, c3, c4, c5, c6, c7, c8⟩ := hSw; go_simp; try with_reducible rfl
    try simp only [List.getElem_toArray, List.getElem_cons_succ, List.getElem_cons_zero, Act.put, List.setIfInBounds_toArray, List.set_cons_zero, List.set_cons_succ]
    refine wpAnyH_take (i := 4) (v := ?_) rfl (by kernel_rfl) (by kernel_rfl) (by kernel_rfl) (fun _ _ _ h => h) (Or.inl ⟨by rfl, ?_⟩) (by assumption) ?_
    rotate_left
    · intro W' hSw; obtain ⟨c0, c1, c2, c3, c4, c5, c6, c7, c8⟩ := hSw; go_simp; try with_reducible rfl
    try simp only [List.getElem_toArray, List.getElem_cons_succ, List.getElem_cons_zero, Act.put, List.setIfInBounds_toArray, List.set_cons_zero, List.set_cons_succ]
    refine wpAnyH_take (i := 7) (v := ?_) rfl (by kernel_rfl) (by kernel_rfl) (by kernel_rfl) (fun _ _ _ h => h) (Or.inl ⟨by rfl, ?_⟩) (by assumption) ?_
    rotate_left
    · intro W' hSw; obtain ⟨c0, c1, c2, c3, c4, c5, c6, c7, c8⟩ := hSw; go_simp; try with_reducible rfl
    try simp only [List.getElem_toArray, List.getElem_cons_succ, List.getElem_cons_zero, Act.put, List.setIfInBounds_toArray, List.set_cons_zero, List.set_cons_succ]
    refine wpAnyH_take (i := 9) (v := ?_) rfl (by kernel_rfl) (by kernel_rfl) (by kernel_rfl) (fun _ _ _ h => h) (Or.inl ⟨by rfl, ?_⟩) (by assumption) ?_
    rotate_left
    · intro W' hSw; obtain ⟨c0, c1, c2, c3, c4, c5, c6, c7, c8⟩ := hSw; go_simp; try with_reducible rfl
    try simp only [List.getElem_toArray, List.getElem_cons_succ, List.getElem_cons_zero, Act.put, List.setIfInBounds_toArray, List.set_cons_zero, List.set_cons_succ]
    refine wpAnyH_ready (rs := [5]) (by kernel_rfl) (by simp) ?_
    refine AllReadyH.cons rfl (fun K hK => ?_) AllReadyH.nil
    · go_simp
      have hn := inC_new W1.drew (ins 3 (2 * t.num) 0) 84 _ rfl
      have hgl : W1.drew.heap.size < (W1.drew.alloc (.cells (inC (ins 3 (2 * t.num) 0)).toArray 84)).heap.size := by simp
      have DS := Lib.hid (DS.out.below ((Below.refl W1.drew.heap.size W1.drew).alloc (Nat.le_refl _) (.cells (inC (ins 3 (2 * t.num) 0)).toArray 84)))
      rw [inC_ins] at hn hgl DS
      have Hn := Lib.hid hn
      have Hgl := Lib.hid hgl
      clear hn hgl
      refine hK.out _ _ (DSt.box HT.out Hvl.out DS.out) (fun hHeld2 => ?_)
      clear hK K hHeld
      try simp only [List.getElem_toArray, List.getElem_cons_succ, List.getElem_cons_zero, Act.put, List.setIfInBounds_toArray, List.set_cons_zero, List.set_cons_succ]
      refine wpAnyH_ready (rs := [6]) (by kernel_rfl) (by simp) ?_
      refine AllReadyH.cons rfl (fun K hK => ?_) AllReadyH.nil
      · refine step_append_keep rfl _ _ 39 rfl w0.heap.size 84 i0 (.agg #[.int .i64 0, .int .u64 0, .int .u64 0, .int .u64 0, .int .u64 0, .int .i64 0, .int .i64 0]) 7 56 Try.underlying39 hi hz0 hz1 hz2 rfl (by decide) (.slice va l.length vc) l.length (inF l) rfl DS.out.row ⟨W1.heap.size, 0, none⟩ 1 1 (inC (ins 3 (2 * t.num) 0)) rfl rfl Hn.out (inC_one _) hm1 hm2 DS.out.low.size ?_
        intro v6 w6 hown6 hgr6 hat6
        have hro6 : DRow w0 w6 (l ++ [ins 3 (2 * t.num) 0]) v6 := by unfold DRow; rw [List.length_append, inF_snoc]; exact hown6
        have DS := Lib.hid (DS.out.step hro6 hgr6 (hat6.imp id fun h => ⟨_, h.1, Nat.le_refl _⟩))
        obtain ⟨a6, c6, rfl⟩ := co_form hown6
        refine hK.out _ _ (DSt.box HT.out Hvl.out DS.out) (fun hHeld3 => ?_)
        clear hK K hHeld2
        try simp only [List.getElem_toArray, List.getElem_cons_succ, List.getElem_cons_zero, Act.put, List.setIfInBounds_toArray, List.set_cons_zero, List.set_cons_succ]
        refine wpAnyH_ready (rs := [8]) (by kernel_rfl) (by simp) ?_
        refine AllReadyH.cons rfl (fun K hK => ?_) AllReadyH.nil
        · go_simp
          go_wp2_with (go_at_call 36; go_loud (refine (hOf _ DS.out.low).mono ?_; rintro e wO ⟨a', cap', rfl, hrO, bO⟩))
          have DS := Lib.hid (DS.out.below bO)
          have HrO := Lib.hid hrO
          refine hK.out _ _ (DSt.box HT.out Hvl.out DS.out) (fun hHeld4 => ?_)
          clear hK K hHeld3
          try simp only [List.getElem_toArray, List.getElem_cons_succ, List.getElem_cons_zero, Act.put, List.setIfInBounds_toArray, List.set_cons_zero, List.set_cons_succ]
          refine wpAnyH_ready (rs := [10]) (by kernel_rfl) (by simp) ?_
          refine AllReadyH.cons rfl (fun K hK => ?_) AllReadyH.nil
          have hC := ih (tof t) a' cap' w0 _ _ k _ HrO.out DS.out.low DS.out.row (by have := Hs.out; simp only [List.length_append, List.length_cons, List.length_nil]; omega) (by simp only [List.length_append, List.length_cons, List.length_nil]; omega) Hc.out
          unfold tV at hC
          go_simp
          go_wp2_with (go_at_call 26; go_loud (refine hC.mono ?_; rintro e w7 hA; obtain ⟨v2, rfl, hS2⟩ := DS.out.ans hA; clear hA; have HS2 := Lib.hid hS2; obtain ⟨va2, vc2, rfl⟩ := co_form hS2.row))
          refine hK.out _ _ (DSt.box HT.out Hvl.out HS2.out) (fun hHeld9 => ?_)
          clear hK K hC
          try simp only [List.getElem_toArray, List.getElem_cons_succ, List.getElem_cons_zero, Act.put, List.setIfInBounds_toArray, List.set_cons_zero, List.set_cons_succ]
          refine wpAnyH_take (i := 11) (v := ?_) rfl (by kernel_rfl) (by kernel_rfl) (by kernel_rfl) (fun _ _ _ h => h) (Or.inl ⟨by rfl, ?_⟩) (by assumption) ?_
          rotate_left
          · intro W' hSw; obtain ⟨c0, c1, c2, c3, c4, c5, c6, c7, c8⟩ := hSw; go_simp; try with_reducible rfl
          try simp only [List.getElem_toArray, List.getElem_cons_succ, List.getElem_cons_zero, Act.put, List.setIfInBounds_toArray, List.set_cons_zero, List.set_cons_succ]
          refine wpAnyH_take (i := 12) (v := ?_) rfl (by kernel_rfl) (by kernel_rfl) (by kernel_rfl) (fun _ _ _ h => h) (Or.inl ⟨by rfl, ?_⟩) (by assumption) ?_
          rotate_left
          · intro W' hSw; obtain ⟨c0, c1, c2, c3, c4, c5, c6, c7, c8⟩ := hSw; go_simp; try with_reducible rfl
          try simp only [List.getElem_toArray, List.getElem_cons_succ, List.getElem_cons_zero, Act.put, List.setIfInBounds_toArray, List.set_cons_zero, List.set_cons_succ]
          refine wpAnyH_take (i := 13) (v := ?_) rfl (by kernel_rfl) (by kernel_rfl) (by kernel_rfl) (fun _ _ _ h => h) (Or.inl ⟨by rfl, ?_⟩) (by assumption) ?_
          rotate_left
          · intro W' hSw; obtain ⟨c0, c1, c2, c3, c4, c5, c6, c7, c8⟩ := hSw; go_simp; try with_reducible rfl
          try simp only [List.getElem_toArray, List.getElem_cons_succ, List.getElem_cons_zero, Act.put, List.setIfInBounds_toArray, List.set_cons_zero, List.set_cons_succ]
          refine wpAnyH_take (i := 14) (v := ?_) rfl (by kernel_rfl) (by kernel_rfl) (by kernel_rfl) (fun _ _ _ h => h) (Or.inl ⟨by rfl, ?_⟩) (by assumption) ?_
          rotate_left
          · intro W' hSw; obtain ⟨c0, c1, c2, c3, c4, c5, c6, c7, c8⟩ := hSw; go_simp; try with_reducible rfl
          try simp only [List.getElem_toArray, List.getElem_cons_succ, List.getElem_cons_zero, Act.put, List.setIfInBounds_toArray, List.set_cons_zero, List.set_cons_succ]
          refine wpAnyH_take (i := 15) (v := ?_) rfl (by kernel_rfl) (by kernel_rfl) (by kernel_rfl) (fun _ _ _ h => h) (Or.inl ⟨by rfl, ?_⟩) (by assumption) ?_
          rotate_left
          · intro W' hSw; obtain ⟨c0, c1, c2, c3, c4, c5, c6, c7, c8⟩ := hSw; go_simp; try with_reducible rfl
          try simp only [List.getElem_toArray, List.getElem_cons_succ, List.getElem_cons_zero, Act.put, List.setIfInBounds_toArray, List.set_cons_zero, List.set_cons_succ]
          refine wpAnyH_done (by kernel_rfl) ?_ _
          go_wp2_with fail
          go_meet
          exact ⟨rfl, HS2.out⟩
  case rest =>
    obtain ⟨rfl, hS⟩ := hcut
    obtain ⟨a5, c5, rfl⟩ := co_form hS.row
    have hf := dl_few (canon (tof t)) (l ++ [ins 3 (2 * t.num) 0]) k
    simp only [List.length_append, List.length_cons, List.length_nil] at hf
    have hs := Hs.out
    obtain ⟨b0, b1, b2, b3, b4, b5, b6, b7, b8⟩ := DSt.box HT.out Hvl.out hS
    obtain ⟨R, hR⟩ : ∃ R, dl (canon (tof t)) (l ++ [ins 3 (2 * t.num) 0]) k = R := ⟨_, rfl⟩
    rw [hR] at hS hf ⊢
    have hm3 : R.1.length + 1 ≤ maxLen := by unfold maxLen; omega
    have hm4 : (R.1.length + 1) * 56 ≤ 140737488355328 := by omega
    have HS := Lib.hid hS
    have HR := Lib.hid hR
    clear hS hf hs hR hm1 hm2 ih hOf
    go_wp2_with (at_builtin; refine wpList_append_own_at _ rfl _ _ 39 rfl w0.heap.size 84 i0 (.agg #[.int .i64 0, .int .u64 0, .int .u64 0, .int .u64 0, .int .u64 0, .int .i64 0, .int .i64 0]) 7 56 Try.underlying39 hi hz0 hz1 hz2 rfl (by decide) (.slice a5 R.1.length c5) R.1.length (inF R.1) rfl (HS.out.below ((Below.refl _ wc).alloc (Nat.le_refl _) _)).row ⟨wc.heap.size, 0, none⟩ 1 1 (inC (ins 3 (2 * t.num + 1) 0)) rfl rfl (by rw [← inC_ins]; exact inC_new wc (ins 3 (2 * t.num + 1) 0) _ _ rfl) (inC_one _) hm3 hm4 (HS.out.below ((Below.refl _ wc).alloc (Nat.le_refl _) _)).low.size ?_; intro v6 w6 hown6 hgr6 _ hat6)
    obtain ⟨d1, d2, d3⟩ := drow_more hown6 hgr6 hat6
    have HF := Lib.hid (DSt.end (k := R.2) _ HW1.out (HS.out.step d1 d2 d3))
    obtain ⟨a6, c6, rfl⟩ := co_form hown6
    clear hown6 hgr6 hat6 d1 d2 d3
    go_wp2_with fail
    go_ret2
    rw [HR.out]
    exact HF.out
end Go.Proofs.Ytihfenkphhnbcaa
