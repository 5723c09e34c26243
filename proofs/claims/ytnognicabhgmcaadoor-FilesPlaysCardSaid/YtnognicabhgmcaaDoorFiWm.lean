/- The law's Ref, walked. -/
import Derived.Test.YtnognicabhgmcaaDoorFiWl
namespace Go.Proofs.YtnognicabhgmcaaDoor
open Go Go.RowKit

theorem fi_take {α : Type} (l : List α) (j : Nat) (h : j < l.length) : l.take (j + 1) = l.take j ++ [l[j]] := by simp
/-- A row of files, cell by cell. -/
theorem FsOwn.cells {T : TypeId} {G : Nat → Prop} {w : World} {B n c : Nat} {a : Option Addr} {fs : List Fl} (h : FsOwn T G w B (.slice a n c) fs) : ∃ L : List (Fl × Value), L.map (·.1) = fs ∧ (∀ x ∈ L, LnG G w x.2 x.1.2) ∧ (0 < L.length → ∃ g, a = some ⟨g, 0, none⟩ ∧ g < w.heap.size ∧ ∀ j (h : j < L.length), w.cell? ⟨g, j * 2, none⟩ = some (.string (txt L[j].1.1)) ∧ w.cell? ⟨g, j * 2 + 1, none⟩ = some L[j].2) := by
  obtain ⟨L, rfl, h2, h3⟩ := h
  refine ⟨L, rfl, h3, fun h0 => ?_⟩
  obtain ⟨h4, h5⟩ := h2
  rw [List.length_map] at h5
  rcases h5 with ⟨_, h6⟩ | ⟨g, cap, cur, e, _, hh, hn, hcap, hcs, htk⟩
  · omega
  · injection e with e1 _ _
    have hc : ∀ i u, (flC L)[i]? = some u → w.cell? ⟨g, i, none⟩ = some u := fun i u hu => by
      have h7 : w.cell? ⟨g, i, none⟩ = cur[i]? := by simp [World.cell?, hh]
      rw [h7, ← Array.getElem?_toList]
      rw [← htk, List.getElem?_take] at hu
      split at hu
      · exact hu
      · cases hu
    refine ⟨g, e1, (Array.getElem?_eq_some_iff.1 hh).1, fun j hj => ?_⟩
    obtain ⟨h8, h9⟩ := flC_at L j hj
    exact ⟨hc _ _ h8, hc _ _ h9⟩
theorem F_info : ∃ i, Tryd.prog.info? 50 = some i ∧ i.zero = some (.agg #[.string ⟨#[]⟩, .slice none 0 0]) ∧ i.size = 2 ∧ i.bytes = 40 := by
  have h : (Tryd.prog.info? 50).map (fun i => (i.zero, i.size, i.bytes)) = some (some (.agg #[.string ⟨#[]⟩, .slice none 0 0]), 2, 40) := by kernel_rfl
  obtain ⟨i, hi, he⟩ := Option.map_eq_some_iff.1 h
  injection he with h1 h2
  injection h2 with h2 h3
  exact ⟨i, hi, h1, h2, h3⟩
set_option linter.unusedVariables false in
set_option linter.unusedSimpArgs false in
set_option maxRecDepth 100000 in
set_option maxHeartbeats 4000000 in
theorem ref_any {B : Nat} {G : Nat → Prop} (fs : List Fl) (v : Value) (w : World) (h : FsOwn 45 G w B v fs) (hl : fs.length ≤ 1000) : Calls Tryd.prog 18 #[v] w fun e w' => ∃ a c, e = .returned (.slice a fs.length c) ∧ FsOwn 50 G w' w.heap.size (.slice a fs.length c) fs ∧ Below w.heap.size w w' := by
  obtain ⟨j0, gi, gz0, gz1, gz2⟩ := F_info
  obtain ⟨a, c, rfl⟩ := h.form
  obtain ⟨L, rfl, hrow, hc⟩ := h.cells
  obtain ⟨n, hn⟩ : ∃ n, L.length = n := ⟨_, rfl⟩
  have hfn : (L.map (·.1)).length = n := by rw [List.length_map, hn]
  rw [hfn] at hl ⊢
  have HC := Lib.hid hc
  have HR := Lib.hid hrow
  have HN := Lib.hid hn
  have HFN := Lib.hid hfn
  clear h hc hrow hn hfn
  go_enter Tryd.func18, Tryd.ntmps18
  go_wp2_with fail
  go_loopw [3, 8] (fun vv i wr => ∃ (j : Nat), j ≤ n ∧ i = .int .i64 j ∧ FsOwn 50 G wr w.heap.size vv ((L.map (·.1)).take j) ∧ Below w.heap.size w wr) (fun _ i _ => n - (intOf i).toNat)
  case atStart => exact ⟨0, by omega, rfl, FsOwn.nil _ _ _ _, Below.refl _ _⟩
  case round =>
    obtain ⟨j, hj, rfl, hO, hb⟩ := hrel
    have hlen : ((L.map (·.1)).take j).length = j := by rw [List.length_take, HFN.out]; omega
    obtain ⟨va, vc, rfl⟩ := hO.form
    rw [hlen] at hO ⊢
    have HO := Lib.hid hO
    have Hb := Lib.hid hb
    clear hO hb
    by_cases hlt : j < n
    · obtain ⟨g, rfl, hg, hcell⟩ := HC.out (by rw [HN.out]; omega)
      have hjl : j < L.length := by rw [HN.out]; omega
      obtain ⟨h0, h1⟩ := hcell j hjl
      have e0 := (Hb.out.cell (p := ⟨g, j * 2, none⟩) hg).trans h0
      have e1 := (Hb.out.cell (p := ⟨g, j * 2 + 1, none⟩) hg).trans h1
      have hx := HR.out _ (List.getElem_mem hjl)
      have htk : (L.map (·.1)).take (j + 1) = (L.map (·.1)).take j ++ [L[j].1] :=
        (fi_take (L.map (·.1)) j (by rw [List.length_map]; exact hjl)).trans (by rw [List.getElem_map])
      generalize L[j] = y at e0 e1 htk hx
      obtain ⟨⟨x, ls⟩, v⟩ := y
      simp only at e0 e1 htk hx
      have h3 := hx.below (show Below w.heap.size w wr from Hb.out)
      obtain ⟨av, cv, rfl, _⟩ := fi_row_cells hx.1
      obtain ⟨m, hm⟩ : ∃ m, ls.length = m := ⟨_, rfl⟩
      rw [hm] at e1 h3
      obtain ⟨T, hT⟩ : ∃ T, txt x = T := ⟨_, rfl⟩
      rw [hT] at e0
      have HT := Lib.hid hT
      have HM := Lib.hid hm
      have HTK := Lib.hid htk
      have H3 := Lib.hid h3
      obtain ⟨M, hL1, hL2, hL3⟩ := HO.out
      rw [hlen] at hL2
      have HL1 := Lib.hid hL1
      have HL2 := Lib.hid hL2
      have HL3 := Lib.hid hL3
      have HLE := Lib.hid hlen
      have hji : (j : Int) < (n : Int) := by omega
      have hj0 : (0 : Int) ≤ (j : Int) := by omega
      have Wj : IntKind.i64.wrap ((j : Int) + 1) = (j : Int) + 1 := IntWalk.i64_in _ (by omega)
      have m4 : j + 1 ≤ maxLen := by unfold maxLen; omega
      have m5 : (j + 1) * 40 ≤ 140737488355328 := by omega
      clear h0 h1 hcell htk hL1 hL2 hL3 hlen hT hm h3 hx
      go_upto_region 5 with fail
      generalize hW3 : wr.alloc _ = W3
      have b3 : Below wr.heap.size wr W3 := by rw [← hW3]; exact (Below.refl _ wr).alloc (Nat.le_refl _) _
      have q3 : Blk W3 wr.heap.size #[.string T, .slice av m cv] 45 := by rw [← hW3]; exact (MapKept.heap_alloc wr _).1
      obtain ⟨q, hq⟩ : ∃ q, wr.heap.size = q := ⟨_, rfl⟩
      rw [hq] at q3 ⊢
      have k1 : W3.cell? ⟨q, 0, none⟩ = some (.string T) := (q3.cell 0).trans rfl
      have k2 : W3.cell? ⟨q, 1, none⟩ = some (.slice av m cv) := (q3.cell 1).trans rfl
      have B3 := Lib.hid b3
      clear hW3 b3 q3 hq
      go_wp2_with (at_builtin; go_loud (refine wpList_append_any _ rfl _ _ 22 rfl w.heap.size 50 j0 (.agg #[.string ⟨#[]⟩, .slice none 0 0]) 2 40 Tryd.underlying22 gi gz0 gz1 gz2 rfl (by decide) (.slice va j vc) j (flC M) rfl (fi_row_below HL2.out (B3.out.alloc B3.out.size _)) (some ⟨W3.heap.size, 0, none⟩) 1 1 [.string T, .slice av m cv] rfl rfl (fun _ => ⟨_, rfl, fi_news2 _ _ _ _⟩) (by simp [Value.oneCell']) m4 m5 (Nat.le_trans Hb.out.size (B3.out.alloc B3.out.size _).size) ?_; intro v7 w7 hown7 hgr7 hat7))
      have HF7 := Lib.hid (show FsOwn 50 G w7 w.heap.size v7 ((L.map (·.1)).take (j + 1)) ∧ Below w.heap.size w w7 by
        have b5 : Below wr.heap.size wr (W3.alloc (.cells #[.string T, .slice av m cv] 50)) := B3.out.alloc B3.out.size _
        rw [HTK.out]
        refine ⟨FsOwn.push (f := (x, ls)) (by decide) (H3.out.below b5) HL1.out (fun y hy => (HL3.out y hy).below b5) (by rw [HLE.out]; exact fi_row_below HL2.out b5) (by rw [HLE.out]; simp only; rw [HT.out]; exact hown7) hgr7, ?_⟩
        exact (Hb.out.trans (b5.mono Hb.out.size)).grown hgr7 (Nat.le_trans Hb.out.size b5.size) fun b e => (fi_row_lt HL2.out e).1)
      have hv7 := HF7.out.1.form
      rw [HTK.out, List.length_append, HLE.out, List.length_singleton] at hv7
      obtain ⟨a7, c7, rfl⟩ := hv7
      clear hown7 hgr7 hat7
      go_wp2_with fail
      go_roundw
      case rel => exact ⟨j + 1, by omega, by go_num, HF7.out.1, HF7.out.2⟩
      case measure => simp [intOf]; omega
    · obtain rfl : n = j := by omega
      have hO := HO.out
      rw [show (L.map (·.1)).take n = L.map (·.1) by rw [← HFN.out, List.take_length]] at hO
      have HZ := Lib.hid (And.intro hO Hb.out)
      clear hO
      go_wp2_with fail
      go_ret
      exact ⟨va, vc, rfl, HZ.out⟩
end Go.Proofs.YtnognicabhgmcaaDoor
