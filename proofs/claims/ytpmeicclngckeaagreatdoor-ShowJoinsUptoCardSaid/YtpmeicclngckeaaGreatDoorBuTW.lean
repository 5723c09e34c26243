/- BuT: A strings.Builder that lies in a block of another type (embedded in a struct): what its ways answer there.
   BuW: A strings.Builder that lies in a block of another type: what is written. -/
import Derived.Shelf.Strings.BuilderK
import Derived.Test.YtpmeicclngckeaaGreatDoorOctW
import Derived.Lib.OthersKept
import Derived.Defers
namespace Go.Proofs.YtpmeicclngckeaaGreatDoor
open Go Go.RowKit

/-- A block of this type begins with a Builder, and has two cells. -/
def LiesB (T : TypeId) : Prop := liesAt Tryz.prog Tryz.prog.depth T (2 / Tryz.prog.cellsOf T) 0 54 1 = true
theorem builder_size : (Tryz.prog.info? 54).map (·.size) = some 2 := by kernel_rfl
set_option maxRecDepth 100000 in
set_option maxHeartbeats 1000000 in
theorem tcopy_used (b : Nat) (w : World) (h0 : w.cell? ⟨b, 0, none⟩ = some (.pointer (some ⟨b, 0, none⟩))) :
    Calls Tryz.prog 66 #[.pointer (some ⟨b, 0, none⟩)] w fun e w' => e = .returned (.tuple #[]) ∧ w' = w := by
  obtain ⟨j, hj, hjs⟩ := Option.map_eq_some_iff.1 builder_size
  go_enter Tryz.func66, Tryz.ntmps66
  go_wp2
  rw [Lib.run_neq_ptr_same w _ Tryz.underlying51 hj]
  go_wp2
  go_end0
  exact ⟨rfl, rfl⟩
set_option maxRecDepth 100000 in
set_option maxHeartbeats 1000000 in
theorem tcopy_fresh (T : TypeId) (hT : LiesB T) (b : Nat) (w : World) (h0 : w.cell? ⟨b, 0, none⟩ = some (.pointer none)) (hsh : w.shape? b = some (T, 2)) (hfz : w.frozen? ⟨b, 0, none⟩ = false) :
    Calls Tryz.prog 66 #[.pointer (some ⟨b, 0, none⟩)] w fun e w' => e = .returned (.tuple #[]) ∧ w' = w.setCell ⟨b, 0, none⟩ (.pointer (some ⟨b, 0, none⟩)) := by
  obtain ⟨j, hj, hjs⟩ := Option.map_eq_some_iff.1 builder_size
  go_enter Tryz.func66, Tryz.ntmps66
  go_wp2
  rw [Lib.run_to_unsafe w ⟨b, 0, none⟩ Tryz.underlying51 Tryz.underlying168 hj (by rw [hjs]; decide) hsh (Nat.zero_lt_succ 1)]
  simp only [Result.andThen]
  rw [Oper.upon_value]
  go_wp2
  rw [run_callFunc_extern Tryz.func101 (by kernel_rfl) (by kernel_rfl) (by kernel_rfl) (e := Extern.AbiNoEscape.same) (by kernel_rfl)]
  rw [Lib.run_noEscape]
  simp only [Result.andThen]
  rw [Oper.upon_value]
  go_wp2
  rw [Lib.run_from_unsafe w ⟨b, 0, none⟩ Tryz.underlying168 Tryz.underlying51 hj hsh hT]
  simp only [Result.andThen]
  rw [Oper.upon_value]
  go_wp2
  go_end0
  exact ⟨rfl, rfl⟩
/-- Behind it the builder is used. -/
theorem tcopy_any (T : TypeId) (hT : LiesB T) (B b : Nat) (bs : List Value) (w : World) (h : Lib.IsBuilderF T 5 B b bs w) :
    Calls Tryz.prog 66 #[.pointer (some ⟨b, 0, none⟩)] w fun e w' => e = .returned (.tuple #[]) ∧ Lib.BuilderAtF T 5 B b (.pointer (some ⟨b, 0, none⟩)) bs w' ∧ Below B w w' ∧ Lib.OthersKept 5 (some b) w w' := by
  rcases h with h | h
  · refine (tcopy_fresh T hT b w h.cell0 h.shape h.frozen0).mono ?_
    rintro e w' ⟨rfl, rfl⟩
    exact ⟨rfl, h.used _, (Below.refl B w).setCell (p := ⟨b, 0, none⟩) h.1 _, (Lib.OthersKept.refl _ _ w).setCell ⟨b, 0, none⟩ rfl _⟩
  · refine (tcopy_used b w h.cell0).mono ?_
    rintro e w' ⟨rfl, rfl⟩
    exact ⟨rfl, h, Below.refl B _, Lib.OthersKept.refl _ _ _⟩
set_option maxRecDepth 100000 in
set_option maxHeartbeats 2000000 in
/-- What was written, as a string: of a Builder that lies in a block of whatever type. -/
theorem tstring_any (T : TypeId) (B b : Nat) (l : List UInt8) (w : World) (h : Lib.IsBuilderF T 5 B b (Lib.byteCells l) w) (hBw : B ≤ w.heap.size) :
    Calls Tryz.prog 25 #[.pointer (some ⟨b, 0, none⟩)] w fun e w' => e = .returned (.string ⟨l.toArray⟩) ∧ Below B w w' := by
  obtain ⟨p, hB, v, hbk, hown, hne⟩ : ∃ p, Lib.BuilderAtF T 5 B b p (Lib.byteCells l) w := h.elim (fun h => ⟨_, h⟩) (fun h => ⟨_, h⟩)
  rw [Lib.byteCells_length] at hown
  have cell : ∀ u, w.heap[b]? = some (.cells #[p, u] T (0, 0)) → w.drew.cell? ⟨b, 1, none⟩ = some u := fun u hu => by
    have e : w.drew.heap[b]? = some (.cells #[p, u] T (0, 0)) := hu
    rw [Lib.cell_of_heap e]
    rfl
  by_cases h0 : l = []
  · subst h0
    have hUS := fun (W : World) (q : Option Addr) => Lib.run_unsafeString_none (P := Tryz.prog) W 121 3 9 q
    rcases hown.2 with ⟨rfl, _⟩ | ⟨g, cap, cur, fz, rfl, hbg, hg, _, _, _, _, _⟩
    · have c1 := cell _ hbk
      have hSD : (Builtin.unsafeSliceData_ #[52] 121 #[.slice none 0 0]).run Tryz.prog w.drew = .ok (.pointer none) w.drew := rfl
      go_enter Tryz.func25, Tryz.ntmps25
      go_wp2
      go_region
      all_goals (go_wp2; go_ret; exact ⟨rfl, Below.drew (Below.refl B w)⟩)
    · have c1 := cell _ hbk
      by_cases hc0 : cap = 0
      · subst hc0
        have hb : b < w.heap.size := (Array.getElem?_eq_some_iff.1 hbk).1
        have hsh : w.drew.shape? g = some (5, cur.size) := by have hg' : w.drew.heap[g]? = some (.cells cur 5 fz) := hg; simp [World.shape?, hg']
        have hSD : (Builtin.unsafeSliceData_ #[52] 121 #[.slice (some ⟨g, 0, none⟩) 0 0]).run Tryz.prog w.drew = .ok (.pointer (some ⟨w.drew.heap.size, 0, none⟩)) (w.drew.alloc (.view ⟨g, 0, none⟩ 5)) :=
          Lib.run_unsafeSliceData_zero w.drew _ _ 5 Tryz.underlying121 ⟨g, 0, none⟩ 0 (5, cur.size) hsh
        have c2 : (w.drew.alloc (.view ⟨g, 0, none⟩ 5)).cell? ⟨b, 1, none⟩ = some (.slice (some ⟨g, 0, none⟩) 0 0) := by
          have e : (w.drew.alloc (.view ⟨g, 0, none⟩ 5)).heap[b]? = _ := (Lib.alloc_old w.drew _ b hb).trans hbk
          rw [Lib.cell_of_heap e]
          rfl
        have c3 : (w.alloc (.view ⟨g, 0, none⟩ 5)).drew.cell? ⟨b, 1, none⟩ = some (.slice (some ⟨g, 0, none⟩) 0 0) := c2
        have c4 : w.cell? ⟨b, 1, none⟩ = some (.slice (some ⟨g, 0, none⟩) 0 0) := c1
        go_enter Tryz.func25, Tryz.ntmps25
        go_wp2
        go_region
        all_goals (go_wp2; go_ret; exact ⟨rfl, (Below.drew (Below.refl B w)).alloc hBw _⟩)
      · have hSD : (Builtin.unsafeSliceData_ #[52] 121 #[.slice (some ⟨g, 0, none⟩) 0 cap]).run Tryz.prog w.drew = .ok (.pointer (some ⟨g, 0, none⟩)) w.drew := Lib.run_unsafeSliceData_row _ _ _ _ _ _ hc0
        clear hc0
        go_enter Tryz.func25, Tryz.ntmps25
        go_wp2
        go_region
        all_goals (go_wp2; go_ret; exact ⟨rfl, Below.drew (Below.refl B w)⟩)
  · have hl0 : l.length ≠ 0 := by simpa using h0
    rcases hown.2 with ⟨_, hz⟩ | ⟨g, cap, cur, fz, rfl, hbg, hg, hfz, hnc, hcm, hcs, htk⟩
    · exact absurd hz hl0
    · have c1 := cell _ hbk
      have hSD : (Builtin.unsafeSliceData_ #[52] 121 #[.slice (some ⟨g, 0, none⟩) l.length cap]).run Tryz.prog w.drew = .ok (.pointer (some ⟨g, 0, none⟩)) w.drew := Lib.run_unsafeSliceData_row _ _ _ _ _ _ (by omega)
      have hUS : (Builtin.unsafeString_ #[121, 3] 9 #[.pointer (some ⟨g, 0, none⟩), .int .i64 l.length]).run Tryz.prog w.drew = .ok (.string ⟨l.toArray⟩) (w.drew.freeze ⟨g, 0, none⟩ l.length) := by
        refine Lib.run_unsafeString_row w.drew 121 3 9 5 Tryz.underlying121 (by kernel_rfl) g cur.size (by have hg' : w.drew.heap[g]? = some (.cells cur 5 fz) := hg; simp [World.shape?, hg']) l h0 (by omega) (by unfold maxLen at hcm; omega) ?_
        intro j x hx
        exact hown.cells (g := g) rfl j (.int .u8 x.toNat) (by simp [Lib.byteCells, hx])
      go_enter Tryz.func25, Tryz.ntmps25
      go_wp2
      go_region
      all_goals (go_wp2; go_ret; exact ⟨rfl, Lib.below_freeze (Below.drew (Below.refl B w)) (p := ⟨g, 0, none⟩) hbg _⟩)
end Go.Proofs.YtpmeicclngckeaaGreatDoor
namespace Go.Proofs.YtpmeicclngckeaaGreatDoor
open Go Go.RowKit

theorem u8_info : ∃ i, Tryz.prog.info? 5 = some i ∧ i.zero = some (.int .u8 0) ∧ i.size = 1 ∧ i.bytes = 1 := by
  have h : (Tryz.prog.info? 5).map (fun i => (i.zero, i.size, i.bytes)) = some (some (.int .u8 0), 1, 1) := by kernel_rfl
  obtain ⟨i, hi, he⟩ := Option.map_eq_some_iff.1 h
  injection he with h1 h2
  injection h2 with h2 h3
  exact ⟨i, hi, h1, h2, h3⟩
theorem bt_one (w : World) (v : Value) (t : TypeId) : ∀ j u, [v][j]? = some u → (w.alloc (.cells #[v] t)).cell? ((⟨w.heap.size, 0, none⟩ : Addr).add j) = some u := by
  intro j u hu
  cases j with
  | zero =>
    have e : v = u := by simpa using hu
    subst e
    rw [Go.WideShapes.add_plain, Nat.add_zero]
    have hb := Blk.new w #[v] t w.heap.size rfl
    exact (hb.cell 0).trans rfl
  | succ j => simp at hu
/-- A used builder's own block: its two cells. -/
structure BtUsed (T : TypeId) (b : Nat) (v : Value) (w : World) : Prop where
  heap : w.heap[b]? = some (.cells #[.pointer (some ⟨b, 0, none⟩), v] T (0, 0))
theorem BtUsed.lt {T : TypeId} {b : Nat} {v : Value} {w : World} (h : BtUsed T b v w) : b < w.heap.size := (Array.getElem?_eq_some_iff.1 h.heap).1
theorem BtUsed.c0 {T : TypeId} {b : Nat} {v : Value} {w : World} (h : BtUsed T b v w) : w.cell? ⟨b, 0, none⟩ = some (.pointer (some ⟨b, 0, none⟩)) := by rw [Lib.cell_of_heap h.heap]; rfl
theorem BtUsed.c1 {T : TypeId} {b : Nat} {v : Value} {w : World} (h : BtUsed T b v w) : w.cell? ⟨b, 1, none⟩ = some v := by rw [Lib.cell_of_heap h.heap]; rfl
theorem BtUsed.alloc {T : TypeId} {b : Nat} {v : Value} {w : World} (h : BtUsed T b v w) (o : Obj) : BtUsed T b v (w.alloc o) := ⟨(Lib.alloc_old w _ b h.lt).trans h.heap⟩
theorem BtUsed.grown {T : TypeId} {b : Nat} {v : Value} {w w' : World} (h : BtUsed T b v w) (hg : w.grownBy w' v.ownBlock) (hne : v.ownBlock ≠ some b) : BtUsed T b v w' := ⟨(hg.block b h.lt (fun e => hne e.symm)).trans h.heap⟩
set_option maxRecDepth 100000 in
set_option maxHeartbeats 2000000 in
/-- A byte is written. -/
theorem twbyte_any (T : TypeId) (hT : LiesB T) (hne8 : T ≠ 5) (B b : Nat) (bs : List Value) (c : Int) (w : World) (h : Lib.IsBuilderF T 5 B b bs w) (hlen : bs.length + 1 ≤ 10000000) (hBw : B ≤ w.heap.size) :
    Calls Tryz.prog 50 #[.pointer (some ⟨b, 0, none⟩), .int .u8 c] w fun e w' => e = .returned .nilIface ∧ Lib.BuilderAtF T 5 B b (.pointer (some ⟨b, 0, none⟩)) (bs ++ [.int .u8 c]) w' ∧ Below B w w' ∧ Lib.OthersKept 5 (some b) w w' := by
  obtain ⟨i0, hi, hz0, hz1, hz2⟩ := u8_info
  have hcp := tcopy_any T hT B b bs w h
  go_enter Tryz.func50, Tryz.ntmps50
  go_wp2_with fail
  refine hcp.mono ?_
  rintro e w1 ⟨rfl, ⟨hB, v, hbk, hown, hne⟩, hb1, hk1⟩
  have hU : BtUsed T b v w1 := ⟨hbk⟩
  have c0 := hU.c0
  have c1 := hU.c1
  have hs1 := hb1.size
  have hm1 : bs.length + 1 ≤ maxLen := by unfold maxLen; omega
  have hnw : ∀ j u, [Value.int .u8 c][j]? = some u → (w1.alloc (.cells #[.int .u8 c] 5)).cell? ((⟨w1.heap.size, 0, none⟩ : Addr).add j) = some u := bt_one w1 _ _
  clear hbk hcp
  go_wp2_with (at_builtin; refine wpList_append_ownF _ rfl _ _ 52 rfl B 5 i0 (.int .u8 0) 1 1 Tryz.underlying52 hi hz0 hz1 hz2 rfl (by decide) _ _ _ rfl (hown.alloc _) ⟨w1.heap.size, 0, none⟩ 1 1 [.int .u8 c] rfl rfl hnw (by intro u hu; simp at hu; subst hu; rfl) hm1 (by omega) (by simp; omega) ?_)
  intro v' w2 hown' hgrow _
  have hU2 := (hU.alloc _).grown hgrow hne
  have d0 := hU2.c0
  have d1 := hU2.c1
  have f1 : w2.frozen? ⟨b, 1, none⟩ = false := Lib.frozen_of_heap hU2.heap 1
  obtain ⟨g, cap, rfl⟩ : ∃ g cap, v' = .slice (some ⟨g, 0, none⟩) (bs.length + 1) cap := by
    rcases hown'.2 with ⟨_, h0⟩ | ⟨g, cap, cur, fz, hv, _⟩
    · omega
    · exact ⟨g, cap, hv⟩
  go_wp2
  go_ret
  exact ⟨rfl, Lib.BuilderAtF.put (T := T) (e := 5) hB hU2.heap (bs' := bs ++ [.int .u8 c]) (by simpa using hown') hne8, ((hb1.alloc (by omega) _).grown hgrow (by simp; omega) (fun k hk => (hown.lt k hk).1)).setCell (p := ⟨b, 1, none⟩) hB _, ((hk1.alloc _).grown hgrow (Lib.ownsRowF_kind (hown.alloc _))).setCell ⟨b, 1, none⟩ rfl _⟩
set_option maxRecDepth 100000 in
set_option maxHeartbeats 2000000 in
/-- A byte is written, by a call that was deferred. -/
theorem twbyte_d (T : TypeId) (hT : LiesB T) (hne8 : T ≠ 5) (B b : Nat) (bs : List Value) (c : Int) (u : FrameMode) (w : World) (h : Lib.IsBuilderF T 5 B b bs w) (hlen : bs.length + 1 ≤ 10000000) (hBw : B ≤ w.heap.size) :
    CallsD Tryz.prog 50 #[.pointer (some ⟨b, 0, none⟩), .int .u8 c] u w fun e u' w' => u' = u ∧ (e = .returned .nilIface ∧ Lib.BuilderAtF T 5 B b (.pointer (some ⟨b, 0, none⟩)) (bs ++ [.int .u8 c]) w' ∧ Below B w w' ∧ Lib.OthersKept 5 (some b) w w') := by
  obtain ⟨i0, hi, hz0, hz1, hz2⟩ := u8_info
  have hcp := tcopy_any T hT B b bs w h
  go_enter_d Tryz.func50, Tryz.ntmps50
  go_wp2_with fail
  refine hcp.mono ?_
  rintro e w1 ⟨rfl, ⟨hB, v, hbk, hown, hne⟩, hb1, hk1⟩
  have hU : BtUsed T b v w1 := ⟨hbk⟩
  have c0 := hU.c0
  have c1 := hU.c1
  have hs1 := hb1.size
  have hm1 : bs.length + 1 ≤ maxLen := by unfold maxLen; omega
  have hnw : ∀ j u, [Value.int .u8 c][j]? = some u → (w1.alloc (.cells #[.int .u8 c] 5)).cell? ((⟨w1.heap.size, 0, none⟩ : Addr).add j) = some u := bt_one w1 _ _
  clear hbk hcp
  go_wp2_with (at_builtin; refine wpList_append_ownF _ rfl _ _ 52 rfl B 5 i0 (.int .u8 0) 1 1 Tryz.underlying52 hi hz0 hz1 hz2 rfl (by decide) _ _ _ rfl (hown.alloc _) ⟨w1.heap.size, 0, none⟩ 1 1 [.int .u8 c] rfl rfl hnw (by intro u hu; simp at hu; subst hu; rfl) hm1 (by omega) (by simp; omega) ?_)
  intro v' w2 hown' hgrow _
  have hU2 := (hU.alloc _).grown hgrow hne
  have d0 := hU2.c0
  have d1 := hU2.c1
  have f1 : w2.frozen? ⟨b, 1, none⟩ = false := Lib.frozen_of_heap hU2.heap 1
  obtain ⟨g, cap, rfl⟩ : ∃ g cap, v' = .slice (some ⟨g, 0, none⟩) (bs.length + 1) cap := by
    rcases hown'.2 with ⟨_, h0⟩ | ⟨g, cap, cur, fz, hv, _⟩
    · omega
    · exact ⟨g, cap, hv⟩
  go_wp2
  go_ret
  exact ⟨rfl, Lib.BuilderAtF.put (T := T) (e := 5) hB hU2.heap (bs' := bs ++ [.int .u8 c]) (by simpa using hown') hne8, ((hb1.alloc (by omega) _).grown hgrow (by simp; omega) (fun k hk => (hown.lt k hk).1)).setCell (p := ⟨b, 1, none⟩) hB _, ((hk1.alloc _).grown hgrow (Lib.ownsRowF_kind (hown.alloc _))).setCell ⟨b, 1, none⟩ rfl _⟩
set_option maxRecDepth 100000 in
set_option maxHeartbeats 2000000 in
/-- A text is written. -/
theorem twstr_any (T : TypeId) (hT : LiesB T) (hne8 : T ≠ 5) (B b : Nat) (bs : List Value) (s : ByteArray) (w : World) (h : Lib.IsBuilderF T 5 B b bs w) (hlen : bs.length + s.size ≤ 10000000) (hBw : B ≤ w.heap.size) :
    Calls Tryz.prog 40 #[.pointer (some ⟨b, 0, none⟩), .string s] w fun e w' => e = .returned (.tuple #[.int .i64 (s.size : Int), .nilIface]) ∧ Lib.BuilderAtF T 5 B b (.pointer (some ⟨b, 0, none⟩)) (bs ++ Lib.strCells s) w' ∧ Below B w w' ∧ Lib.OthersKept 5 (some b) w w' := by
  obtain ⟨i0, hi, hz0, hz1, hz2⟩ := u8_info
  have hcp := tcopy_any T hT B b bs w h
  go_enter Tryz.func40, Tryz.ntmps40
  go_wp2_with fail
  refine hcp.mono ?_
  rintro e w1 ⟨rfl, ⟨hB, v, hbk, hown, hne⟩, hb1, hk1⟩
  have hU : BtUsed T b v w1 := ⟨hbk⟩
  have c0 := hU.c0
  have c1 := hU.c1
  have hs1 := hb1.size
  have hm1 : bs.length + s.size ≤ maxLen := by unfold maxLen; omega
  clear hbk hcp
  go_wp2_with (at_builtin; refine Lib.wpList_append_own_stringF _ rfl _ _ 52 9 rfl B 5 i0 Tryz.underlying52 Tryz.underlying9 hi hz0 hz1 hz2 _ _ _ rfl hown s rfl hm1 (by omega) (by omega) ?_)
  intro v' w2 hown' hgrow _
  have hU2 := hU.grown hgrow hne
  have d0 := hU2.c0
  have d1 := hU2.c1
  have f1 : w2.frozen? ⟨b, 1, none⟩ = false := Lib.frozen_of_heap hU2.heap 1
  obtain ⟨ao, n', cap, rfl⟩ : ∃ ao n' cap, v' = .slice ao n' cap := by
    rcases hown'.2 with ⟨hv, _⟩ | ⟨g, cap, cur, fz, hv, _⟩
    · exact ⟨_, _, _, hv⟩
    · exact ⟨_, _, _, hv⟩
  go_wp2
  go_ret2
  exact ⟨rfl, Lib.BuilderAtF.put (T := T) (e := 5) hB hU2.heap (bs' := bs ++ Lib.strCells s) (by simpa [Lib.strCells_length] using hown') hne8, (hb1.grown hgrow (by omega) (fun k hk => (hown.lt k hk).1)).setCell (p := ⟨b, 1, none⟩) hB _, (hk1.grown hgrow (Lib.ownsRowF_kind hown)).setCell ⟨b, 1, none⟩ rfl _⟩
set_option maxRecDepth 100000 in
set_option maxHeartbeats 2000000 in
/-- A text is written, by a call that was deferred. -/
theorem twstr_d (T : TypeId) (hT : LiesB T) (hne8 : T ≠ 5) (B b : Nat) (bs : List Value) (s : ByteArray) (u : FrameMode) (w : World) (h : Lib.IsBuilderF T 5 B b bs w) (hlen : bs.length + s.size ≤ 10000000) (hBw : B ≤ w.heap.size) :
    CallsD Tryz.prog 40 #[.pointer (some ⟨b, 0, none⟩), .string s] u w fun e u' w' => u' = u ∧ (e = .returned (.tuple #[.int .i64 (s.size : Int), .nilIface]) ∧ Lib.BuilderAtF T 5 B b (.pointer (some ⟨b, 0, none⟩)) (bs ++ Lib.strCells s) w' ∧ Below B w w' ∧ Lib.OthersKept 5 (some b) w w') := by
  obtain ⟨i0, hi, hz0, hz1, hz2⟩ := u8_info
  have hcp := tcopy_any T hT B b bs w h
  go_enter_d Tryz.func40, Tryz.ntmps40
  go_wp2_with fail
  refine hcp.mono ?_
  rintro e w1 ⟨rfl, ⟨hB, v, hbk, hown, hne⟩, hb1, hk1⟩
  have hU : BtUsed T b v w1 := ⟨hbk⟩
  have c0 := hU.c0
  have c1 := hU.c1
  have hs1 := hb1.size
  have hm1 : bs.length + s.size ≤ maxLen := by unfold maxLen; omega
  clear hbk hcp
  go_wp2_with (at_builtin; refine Lib.wpList_append_own_stringF _ rfl _ _ 52 9 rfl B 5 i0 Tryz.underlying52 Tryz.underlying9 hi hz0 hz1 hz2 _ _ _ rfl hown s rfl hm1 (by omega) (by omega) ?_)
  intro v' w2 hown' hgrow _
  have hU2 := hU.grown hgrow hne
  have d0 := hU2.c0
  have d1 := hU2.c1
  have f1 : w2.frozen? ⟨b, 1, none⟩ = false := Lib.frozen_of_heap hU2.heap 1
  obtain ⟨ao, n', cap, rfl⟩ : ∃ ao n' cap, v' = .slice ao n' cap := by
    rcases hown'.2 with ⟨hv, _⟩ | ⟨g, cap, cur, fz, hv, _⟩
    · exact ⟨_, _, _, hv⟩
    · exact ⟨_, _, _, hv⟩
  go_wp2
  go_ret2
  exact ⟨rfl, Lib.BuilderAtF.put (T := T) (e := 5) hB hU2.heap (bs' := bs ++ Lib.strCells s) (by simpa [Lib.strCells_length] using hown') hne8, (hb1.grown hgrow (by omega) (fun k hk => (hown.lt k hk).1)).setCell (p := ⟨b, 1, none⟩) hB _, (hk1.grown hgrow (Lib.ownsRowF_kind hown)).setCell ⟨b, 1, none⟩ rfl _⟩
end Go.Proofs.YtpmeicclngckeaaGreatDoor
