/- Package files, walked: cutAll. -/
import Derived.Test.YtnognicabhgmcaaDoorFiWc
import Derived.Deep.LoopGhost
namespace Go.Proofs.YtnognicabhgmcaaDoor
open Go Go.RowKit

/-- Lines, as they are read. -/
def LnRd (w : World) (v : Value) (ls : List (List UInt8)) : Prop := ∃ a c, v = .slice a ls.length c ∧ (0 < ls.length → ∃ g o, a = some ⟨g, o, none⟩ ∧ g < w.heap.size ∧ ∀ j (h : j < ls.length), w.cell? ⟨g, o + j, none⟩ = some (.string (txt ls[j])))
theorem LnRd.below {w w' : World} {v : Value} {ls : List (List UInt8)} (h : LnRd w v ls) (hb : Below w.heap.size w w') : LnRd w' v ls := by
  obtain ⟨a, c, hv, h1⟩ := h
  refine ⟨a, c, hv, fun h0 => ?_⟩
  obtain ⟨g, o, ha, hg, h2⟩ := h1 h0
  exact ⟨g, o, ha, Nat.lt_of_lt_of_le hg hb.size, fun j hj => (hb.cell (p := ⟨g, o + j, none⟩) hg).trans (h2 j hj)⟩
theorem lnC_get (ls : List (List UInt8)) (j : Nat) (h : j < ls.length) : (lnC ls)[j]? = some (.string (txt ls[j])) := by
  unfold lnC
  rw [List.getElem?_map, List.getElem?_eq_getElem h]
  rfl
theorem LnRd.of_row {w : World} {B : Nat} {v : Value} {ls : List (List UInt8)} (h : w.ownsRow B 9 1 v ls.length (lnC ls)) : LnRd w v ls := by
  obtain ⟨a, c, hv, _, _, hc⟩ := fi_row_cells h
  refine ⟨a, c, hv, fun h0 => ?_⟩
  obtain ⟨g, hg, hl, h2⟩ := hc h0
  exact ⟨g, 0, hg, hl, fun j hj => by rw [Nat.zero_add]; exact h2 j _ (lnC_get ls j hj)⟩
theorem LnNew.rd {w w' : World} {v : Value} {ls : List (List UInt8)} (h : LnNew w ls v w') : LnRd w' v ls := LnRd.of_row h.1
theorem flat_len (ls : List (List UInt8)) (h : ∀ x ∈ ls, x.length ≤ 1000) : (ls.flatMap fCut).length ≤ ls.length * 1001 := by
  induction ls with
  | nil => simp
  | cons x ls ih =>
    rw [List.flatMap_cons, List.length_append, List.length_cons]
    have h1 := cut_len x
    have h2 := h x (by simp)
    have h3 := ih fun y hy => h y (by simp [hy])
    omega
set_option linter.unusedVariables false in
set_option linter.unusedSimpArgs false in
set_option maxRecDepth 100000 in
set_option maxHeartbeats 4000000 in
theorem fiall_any (ls : List (List UInt8)) (v : Value) (w : World) (hv : LnRd w v ls) (hl : ls.length ≤ 100) (hs : ∀ x ∈ ls, x.length ≤ 1000) (hG : GM w) : Calls Tryd.prog 29 #[v] w fun e w' => ∃ v', e = .returned v' ∧ LnNew w (ls.flatMap fCut) v' w' := by
  obtain ⟨a, c, rfl, hc⟩ := hv
  obtain ⟨i0, hi, hz0, hz1, hz2⟩ := str_info
  obtain ⟨n, hn⟩ : ∃ n, ls.length = n := ⟨_, rfl⟩
  have HG := Lib.hid hG
  have HC := Lib.hid hc
  have HS := Lib.hid hs
  have HN := Lib.hid hn
  rw [hn] at hl ⊢
  have hm1 : n ≤ maxLen := by unfold maxLen; omega
  have hm2 : i0.bytes * n ≤ 281474976710656 := by rw [hz2]; omega
  have hn0 : (0 : Int) ≤ (n : Int) := by omega
  clear hG hc hs hn
  go_enter Tryd.func29, Tryd.ntmps29
  go_upto_region 1 with fail
  go_wp2_with (at_make; go_loud (refine wpList_make_own _ rfl _ _ 36 rfl w.heap.size 9 i0 (.string ⟨#[]⟩) 1 Tryd.underlying36 hi hz0 hz1 .i64 .i64 (n : Int) n rfl rfl rfl hm2 hm1 (Nat.le_refl _) ?_; intro w1 hown1 hgr1))
  have H1 := Lib.hid (show w1.ownsRow w.heap.size 9 1 (.slice (some ⟨w.heap.size, 0, none⟩) 0 n) 0 [] ∧ Below w.heap.size w w1 from ⟨hown1, (Below.refl _ w).grown hgr1 (Nat.le_refl _) (fun b hb => by cases hb)⟩)
  clear hown1 hgr1
  go_loopw [3, 11] (fun vv i wr => ∃ (j : Nat), j ≤ n ∧ i = .int .i64 j ∧ wr.ownsRow w.heap.size 9 1 vv ((ls.take j).flatMap fCut).length (lnC ((ls.take j).flatMap fCut)) ∧ Below w.heap.size w wr) (fun _ i _ => n - (intOf i).toNat)
  case atStart => exact ⟨0, by omega, rfl, H1.out.1, H1.out.2⟩
  case round =>
    obtain ⟨j, hj, rfl, hrow, hb⟩ := hrel
    have Hb := Lib.hid hb
    have Hrow := Lib.hid hrow
    clear hb hrow
    by_cases hlt : j < n
    · obtain ⟨g, o, rfl, hg, hcell⟩ := HC.out (by rw [HN.out]; omega)
      have hjl : j < ls.length := by rw [HN.out]; omega
      have e0 := (Hb.out.cell (p := ⟨g, o + j, none⟩) hg).trans (hcell j hjl)
      have htk : (ls.take (j + 1)).flatMap fCut = (ls.take j).flatMap fCut ++ fCut ls[j] := by
        rw [show ls.take (j + 1) = ls.take j ++ [ls[j]] by simp, List.flatMap_append, List.flatMap_singleton]
      have hxs := HS.out ls[j] (List.getElem_mem hjl)
      have hfl := flat_len (ls.take j) fun x hx => HS.out x (List.mem_of_mem_take hx)
      rw [List.length_take] at hfl
      generalize ls[j] = x at e0 htk hxs
      have hC := cut_mid (w := wr) (s := txt x) (hls := rfl) (hm := rfl) (by rw [txt_size]; exact hxs) (HG.out.up (Hb.out)) wr (Below.refl _ _)
      rw [txt_list] at hC
      have hcl := cut_len x
      generalize fCut x = K at hC htk hcl
      generalize (ls.take j).flatMap fCut = A at Hrow htk hfl
      have HT := Lib.hid htk
      obtain ⟨k, hk⟩ : ∃ k, A.length = k := ⟨_, rfl⟩
      obtain ⟨m, hm⟩ : ∃ m, K.length = m := ⟨_, rfl⟩
      rw [hk] at hfl Hrow
      rw [hm] at hC hcl
      have hm3 : k + m ≤ maxLen := by unfold maxLen; omega
      have hm4 : (k + m) * 16 ≤ 140737488355328 := by omega
      have hlm : (lnC K).length = m * 1 := by rw [lnC_len]; omega
      have HK := Lib.hid hk
      have HM := Lib.hid hm
      have hji : (j : Int) < (n : Int) := by omega
      have hj0 : (0 : Int) ≤ (j : Int) := by omega
      have Wj : IntKind.i64.wrap ((j : Int) + 1) = (j : Int) + 1 := IntWalk.i64_in _ (by omega)
      clear hcell htk hxs hfl hcl hk hm
      go_wp2_with (first
        | (go_at_call 21; refine hC.mono ?_; clear hC; rintro e w2 ⟨a2, c2, rfl, h2⟩; have H2 := Lib.hid h2; clear h2)
        | (at_builtin; go_loud (refine wpList_append_any _ rfl _ _ 36 rfl w.heap.size 9 i0 (.string ⟨#[]⟩) 1 16 Tryd.underlying36 hi hz0 hz1 hz2 rfl (by decide) _ k (lnC A) rfl (fi_row_below Hrow.out H2.out.b) a2 m c2 (lnC K) rfl hlm H2.out.r (lnC_one K) hm3 hm4 (Nat.le_trans Hb.out.size H2.out.b.size) ?_; intro v6 w6 hown6 hgr6 hat6)))
      have HF := Lib.hid (show w6.ownsRow w.heap.size 9 1 v6 ((ls.take (j + 1)).flatMap fCut).length (lnC ((ls.take (j + 1)).flatMap fCut)) ∧ Below w.heap.size w w6 from by
        rw [HT.out, List.length_append, lnC_append, HK.out, HM.out]
        exact ⟨hown6, (Hb.out.trans (H2.out.b.mono Hb.out.size)).grown hgr6 (Nat.le_trans Hb.out.size H2.out.b.size) fun b hb => (fi_row_lt Hrow.out hb).1⟩)
      clear hown6 hgr6 hat6
      go_roundw
      case rel => exact ⟨j + 1, by omega, by go_num, HF.out.1, HF.out.2⟩
      case measure => simp [intOf]; omega
    · obtain rfl : n = j := by omega
      have HF := Lib.hid (And.intro Hrow.out Hb.out)
      rw [show ls.take n = ls by rw [← HN.out, List.take_length]] at HF
      clear Hb Hrow
      go_wp2_with fail
      go_ret
      exact ⟨_, rfl, HF.out⟩
end Go.Proofs.YtnognicabhgmcaaDoor
