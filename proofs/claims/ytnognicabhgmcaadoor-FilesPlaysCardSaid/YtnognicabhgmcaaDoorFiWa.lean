/- Package files, walked: Cut, a copy of lines, a file's lines, whether it is there. -/
import Derived.Test.YtnognicabhgmcaaDoorFiAt
import Derived.Shelf.Strings.Split
import Derived.WalkSmall
import Derived.Lib.Hide
import Derived.Lib.SliceRun
import Derived.Deep.RegionHeld3
import Derived.Deep.DeepCutAuto
namespace Go.Proofs.YtnognicabhgmcaaDoor
open Go Go.RowKit Go.Shelf

def flren146 : Go.Shelf.Ren := ⟨fun | 138 => 38 | 143 => 39 | 146 => 28 | 195 => 51 | 197 => 52 | 217 => 62 | 218 => 53 | 219 => 54 | 221 => 33 | 224 => 64 | 225 => 63 | 260 => 61 | 266 => 67 | 267 => 65 | 268 => 37 | 314 => 68 | n => n, fun | 0 => 0 | 3 => 3 | 4 => 4 | 5 => 5 | 9 => 9 | 21 => 21 | 31 => 36 | 46 => 66 | 51 => 79 | 105 => 83 | 119 => 96 | 138 => 98 | 139 => 99 | 146 => 100 | n => n, fun | 1 => 0 | 3 => 1 | 4 => 2 | n => n⟩
set_option maxRecDepth 100000 in
theorem fllays146 : Go.Proofs.Lays.n146 Tryd.prog flren146 := {
  mixed := by kernel_rfl
  f138 := Tryd.func38.trans (congrArg some (by kernel_rfl))
  f143 := Tryd.func39.trans (congrArg some (by kernel_rfl))
  f146 := Tryd.func28.trans (congrArg some (by kernel_rfl))
  f195 := Tryd.func51.trans (congrArg some (by kernel_rfl))
  f197 := Tryd.func52.trans (congrArg some (by kernel_rfl))
  f217 := Tryd.func62.trans (congrArg some (by kernel_rfl))
  f218 := Tryd.func53.trans (congrArg some (by kernel_rfl))
  f219 := Tryd.func54.trans (congrArg some (by kernel_rfl))
  f221 := Tryd.func33.trans (congrArg some (by kernel_rfl))
  f224 := Tryd.func64.trans (congrArg some (by kernel_rfl))
  f225 := Tryd.func63.trans (congrArg some (by kernel_rfl))
  f260 := Tryd.func61.trans (congrArg some (by kernel_rfl))
  f266 := Tryd.func67.trans (congrArg some (by kernel_rfl))
  f267 := Tryd.func65.trans (congrArg some (by kernel_rfl))
  f268 := Tryd.func37.trans (congrArg some (by kernel_rfl))
  f314 := Tryd.func68.trans (congrArg some (by kernel_rfl))
  t0 := Tryd.underlying0
  a0 := Tryd.isAgg0
  z0 := Tryd.sizeOf0
  v0 := Tryd.zeroValue0
  t3 := Tryd.underlying3
  a3 := Tryd.isAgg3
  z3 := Tryd.sizeOf3
  v3 := Tryd.zeroValue3
  t4 := Tryd.underlying4
  a4 := Tryd.isAgg4
  z4 := Tryd.sizeOf4
  v4 := Tryd.zeroValue4
  t5 := Tryd.underlying5
  a5 := Tryd.isAgg5
  z5 := Tryd.sizeOf5
  v5 := Tryd.zeroValue5
  t9 := Tryd.underlying9
  a9 := Tryd.isAgg9
  z9 := Tryd.sizeOf9
  v9 := Tryd.zeroValue9
  t21 := Tryd.underlying21
  a21 := Tryd.isAgg21
  z21 := Tryd.sizeOf21
  v21 := Tryd.zeroValue21
  t31 := Tryd.underlying36
  a31 := Tryd.isAgg36
  z31 := Tryd.sizeOf36
  v31 := Tryd.zeroValue36
  t46 := Tryd.underlying66
  a46 := Tryd.isAgg66
  z46 := Tryd.sizeOf66
  v46 := Tryd.zeroValue66
  t51 := Tryd.underlying79
  a51 := Tryd.isAgg79
  z51 := Tryd.sizeOf79
  v51 := Tryd.zeroValue79
  t105 := Tryd.underlying83
  a105 := Tryd.isAgg83
  z105 := Tryd.sizeOf83
  v105 := Tryd.zeroValue83
  t119 := Tryd.underlying96
  a119 := Tryd.isAgg96
  z119 := Tryd.sizeOf96
  t138 := Tryd.underlying98
  a138 := Tryd.isAgg98
  z138 := Tryd.sizeOf98
  v138 := Tryd.zeroValue98
  t139 := Tryd.underlying99
  a139 := Tryd.isAgg99
  z139 := Tryd.sizeOf99
  v139 := Tryd.zeroValue99
  t146 := Tryd.underlying100
  a146 := Tryd.isAgg100
  z146 := Tryd.sizeOf100
  v146 := Tryd.zeroValue100
  g1 := by kernel_rfl
  g3 := by kernel_rfl
  g4 := by kernel_rfl
}
/-- internal/bytealg.MaxLen holds an int. -/
def GM (w : World) : Prop := ∃ m, w.cell? ⟨0, 0, none⟩ = some (.int .i64 m)
theorem GM.below {w w' : World} {B : Nat} (h : GM w) (hb : Below B w w') (hB : 0 < B) : GM w' := by
  obtain ⟨m, hm⟩ := h
  exact ⟨m, (hb.cell (p := ⟨0, 0, none⟩) hB).trans hm⟩
theorem GM.lt {w : World} (h : GM w) : 0 < w.heap.size := by obtain ⟨m, hm⟩ := h; exact World.block_lt_of_cell? w _ hm
theorem GM.up {w w' : World} (h : GM w) (hb : Below w.heap.size w w') : GM w' := h.below hb h.lt
theorem str_info : ∃ i, Tryd.prog.info? 9 = some i ∧ i.zero = some (.string ⟨#[]⟩) ∧ i.size = 1 ∧ i.bytes = 16 := by
  have h : (Tryd.prog.info? 9).map (fun i => (i.zero, i.size, i.bytes)) = some (some (.string ⟨#[]⟩), 1, 16) := by kernel_rfl
  obtain ⟨i, hi, he⟩ := Option.map_eq_some_iff.1 h
  injection he with h1 h2
  injection h2 with h2 h3
  exact ⟨i, hi, h1, h2, h3⟩
theorem split_lnC (s : ByteArray) : (Lib.splitB ⟨#[10]⟩ 0 (Lib.countB s ⟨#[10]⟩) s).map Value.string = lnC (fCut s.data.toList) := by
  rw [← splitB_cut, lnC, List.map_map]
  exact List.map_congr_left fun x _ => by show _ = Value.string (txt x.data.toList); rw [txt_of]
/-- A row of lines, made by the call. -/
def LnNew (w : World) (ls : List (List UInt8)) (v : Value) (w' : World) : Prop := w'.ownsRow w.heap.size 9 1 v ls.length (lnC ls) ∧ Below w.heap.size w w'
set_option linter.unusedVariables false in
set_option linter.unusedSimpArgs false in
set_option maxRecDepth 100000 in
set_option maxHeartbeats 4000000 in
theorem ficut_any (s : ByteArray) (w : World) (hs : s.size < 4294967281) (hG : GM w) : Calls Tryd.prog 21 #[.string s] w fun e w' => ∃ v, e = .returned v ∧ LnNew w (fCut s.data.toList) v w' := by
  obtain ⟨m, hm⟩ := hG
  have hS := Any.strings_Split fllays146 (by kernel_rfl) s ⟨#[10]⟩ m w hs hm (by decide)
  have hl : (Lib.splitB ⟨#[10]⟩ 0 (Lib.countB s ⟨#[10]⟩) s).length = Lib.countB s ⟨#[10]⟩ + 1 := Lib.splitB_all ⟨#[10]⟩ (by decide) 0 _ s rfl
  have hc := Lib.countB_le ⟨#[10]⟩ (by decide) s.size s (Nat.le_refl _)
  rw [split_lnC] at hS
  have hln : (fCut s.data.toList).length = Lib.countB s ⟨#[10]⟩ + 1 := by rw [← splitB_cut, List.length_map, hl]
  obtain ⟨n, hn⟩ : ∃ n, Lib.countB s ⟨#[10]⟩ + 1 = n := ⟨_, rfl⟩
  obtain ⟨ls, hls⟩ : ∃ ls, fCut s.data.toList = ls := ⟨_, rfl⟩
  rw [hn, hls] at hS
  rw [hls, hn] at hln
  rw [hls]
  have hnm : n ≤ maxLen := by unfold maxLen; omega
  have HF := Lib.hid (show LnNew w ls (.slice (some ⟨w.heap.size, 0, none⟩) n n) (w.alloc (.cells (lnC ls).toArray 9)) by
    refine ⟨⟨by rw [lnC_len]; omega, .inr ⟨w.heap.size, n, (lnC ls).toArray, by rw [hln], Nat.le_refl _, (MapKept.heap_alloc w _).1, by omega, hnm, by rw [List.size_toArray, lnC_len]; omega, List.take_of_length_le (by rw [lnC_len]; omega)⟩⟩, (Below.refl _ w).alloc (Nat.le_refl _) _⟩)
  clear hm hs hl hc hn hls hln hnm
  go_enter Tryd.func21, Tryd.ntmps21
  go_wp2_with (first | (go_at_call 28; refine hS.mono ?_; clear hS; rintro e w1 ⟨rfl, h1⟩; have h1' := h1.symm; subst h1'))
  go_ret
  exact ⟨_, rfl, HF.out⟩
theorem lnC_one (ls : List (List UInt8)) : ∀ u ∈ lnC ls, u.oneCell' = true := fun u hu => by obtain ⟨x, _, rfl⟩ := List.mem_map.1 hu; rfl
set_option linter.unusedVariables false in
set_option linter.unusedSimpArgs false in
set_option maxRecDepth 100000 in
set_option maxHeartbeats 4000000 in
theorem ficlone_any {B : Nat} (ls : List (List UInt8)) (v : Value) (w : World) (hv : w.ownsRow B 9 1 v ls.length (lnC ls)) (hl : ls.length ≤ 1000000) : Calls Tryd.prog 27 #[v] w fun e w' => ∃ v', e = .returned v' ∧ LnNew w ls v' w' := by
  obtain ⟨a, c, rfl, _, _, hc⟩ := fi_row_cells hv
  obtain ⟨n, hn⟩ : ∃ n, ls.length = n := ⟨_, rfl⟩
  cases a with
  | none =>
    have h0 : n = 0 := by
      rcases Nat.eq_zero_or_pos n with h | h
      · exact h
      · obtain ⟨g, hg, _⟩ := hc (by omega); cases hg
    subst h0
    have hnil : ls = [] := List.eq_nil_of_length_eq_zero hn
    subst hnil
    have hN : ∀ w : World, (binOp BinOp.eql 36 (.slice none 0 c) (.slice none 0 0)).run Tryd.prog w = .ok (.bool true) w := fun w => Lib.run_eql_slice_nil w _ _ none 0 c 0 0 Tryd.underlying36
    have HF := Lib.hid (show LnNew w [] nilS w from ⟨World.ownsRow_nil _ _ _ _, Below.refl _ w⟩)
    clear hv hc hl hn
    go_enter Tryd.func27, Tryd.ntmps27
    go_wp2_with fail
    go_ret
    exact ⟨_, rfl, HF.out⟩
  | some a =>
    obtain ⟨i0, hi0, hz0, hz1, hz2⟩ := str_info
    have hal := (Below.refl w.heap.size w).alloc (Nat.le_refl _) (.cells #[] 9)
    have hnews : 0 < n → ∃ b, some a = some b ∧ ∀ j u, (lnC ls)[j]? = some u → (w.alloc (.cells #[] 9)).cell? (b.add j) = some u := fun h => by
      obtain ⟨g, hg, hlt, h2⟩ := hc (by omega)
      refine ⟨a, rfl, fun j u hj => ?_⟩
      injection hg with hg
      subst hg
      rw [Go.WideShapes.add_plain, Nat.zero_add]
      exact (hal.cell (p := ⟨g, j, none⟩) hlt).trans (h2 j u hj)
    have hrow := World.ownsRow_lit (base := w.heap.size) (size := 1) (e := 9) w #[] 0 (Nat.le_refl _) (by decide) rfl
    have hlen : (lnC ls).length = n * 1 := by rw [lnC_len]; omega
    have hm1 : 0 + n ≤ maxLen := by unfold maxLen; omega
    have hm2 : (0 + n) * 16 ≤ 140737488355328 := by omega
    have hw1 : w.heap.size ≤ (w.alloc (.cells #[] 9)).heap.size := hal.size
    rw [hn]
    have Hal := Lib.hid hal
    have Hnews := Lib.hid hnews
    have Hrow := Lib.hid hrow
    have Hn := Lib.hid hn
    have hnil : ∀ w : World, (binOp BinOp.eql 36 (.slice (some a) n c) (.slice none 0 0)).run Tryd.prog w = .ok (.bool false) w := fun w => Lib.run_eql_slice_nil w _ _ (some a) n c 0 0 Tryd.underlying36
    clear hv hc hl hn hnews hrow hal
    go_enter Tryd.func27, Tryd.ntmps27
    go_wp2_with (at_builtin; go_loud (refine wpList_append_any _ rfl _ _ 36 rfl w.heap.size 9 i0 (.string ⟨#[]⟩) 1 16 Tryd.underlying36 hi0 hz0 hz1 hz2 rfl (by decide) (.slice (some ⟨w.heap.size, 0, none⟩) 0 0) 0 [] rfl Hrow.out (some a) n c (lnC ls) rfl hlen Hnews.out (lnC_one ls) hm1 hm2 hw1 ?_; intro v6 w6 hown6 hgr6 hat6))
    have HF := Lib.hid (show LnNew w ls v6 w6 by
      rw [Nat.zero_add, List.nil_append] at hown6
      exact ⟨by rw [Hn.out]; exact hown6, Hal.out.grown hgr6 hw1 (fun b hb => by have : some w.heap.size = some b := hb; injection this with this; omega)⟩)
    clear hown6 hgr6 hat6
    go_wp2_with fail
    go_ret
    exact ⟨_, rfl, HF.out⟩
end Go.Proofs.YtnognicabhgmcaaDoor
