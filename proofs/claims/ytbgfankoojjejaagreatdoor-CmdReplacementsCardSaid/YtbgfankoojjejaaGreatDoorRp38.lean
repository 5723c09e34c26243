/- The proof's texts CmLc, AdGlob: what the claim reaches of them. -/
import Derived.Test.YtbgfankoojjejaaGreatDoorRp36
import Derived.Test.YtbgfankoojjejaaGreatDoorRp37
import Derived.BigQuiet
import Derived.Test.YtbgfankoojjejaaGreatDoorRp26
import Derived.Test.YtbgfankoojjejaaGreatDoorRp08
import Derived.Test.YtbgfankoojjejaaGreatDoorCards
import Derived.Test.YtbgfankoojjejaaGreatDoorTie
import Derived.ShutString
import Derived.OpenShut
import Derived.Deep.DeepHandedRow
import Derived.Lib.LaidTab
import Derived.Stop.LaidErr
import Derived.Shelf.Vars
set_option linter.unusedSimpArgs false
set_option linter.unusedVariables false
set_option maxHeartbeats 8000000
set_option maxRecDepth 1000000
namespace Go.Proofs.YtbgfankoojjejaaGreatDoor
open Go Go.RowKit
theorem brow_conv {w : World} {a : Option Addr} {l : List UInt8} (h : BRow w a l) (h0 : 0 < l.length) (cap : Nat) : (convert 22 9 (.slice a l.length cap)).run Tryz.prog w = .ok (.string (txt l)) w := by
 obtain ⟨b, o, rfl, _, _⟩ := h 0 h0
 have h9 := run_convert_bytes_arg (P := Tryz.prog) w 22 5 Tryz.underlying22 Tryz.underlying5 b o l.length cap (l.map fun b => (b.toNat : Int)) (by rw [List.length_map]) (fun i hi => by
  obtain ⟨b', o', hp, _, hc⟩ := h i hi
  injection hp with hp
  injection hp with h1 h2
  subst h1 h2
  rw [hc]
  simp [List.getD, List.getElem?_map, List.getElem?_eq_getElem hi]) 9 Tryz.underlying9
 rw [txt_nums] at h9
 exact h9
theorem s_ans (l : List UInt8) (h : l ≠ []) (whole : Bool) {w w' : World} {e : Ending} (hc : CmdA w (cmM false (sText l whole) 0) e w') : Below w.heap.size w w' ∧ ∃ c ta tb ts q pc mv k, e = .returned (.tuple #[.agg (cmdC c ta tb ts (.slice (some ⟨q, 0, none⟩) (sParts l whole).length pc)), mv, .int .i64 k, .int .i64 0]) ∧ (cmdC c ta tb ts (.slice (some ⟨q, 0, none⟩) (sParts l whole).length pc)).all (·.oneCell') = true ∧ q < w'.heap.size ∧ ∀ j v, (cpC (sParts l whole))[j]? = some v → w'.cell? ⟨q, j, none⟩ = some v := by
 obtain ⟨D, hD⟩ := s_math l h whole
 rw [hD] at hc
 obtain ⟨hb, ta, tb, ts, pa, pc, ma, mc, rfl, hta, htb, hts, hr⟩ := hc
 obtain ⟨q, rfl, _, hql, hqc⟩ := partsAt hr (by show 0 < (sParts l whole).length; cases whole <;> exact Nat.succ_pos _)
 exact ⟨hb, ⟨0, gdNone, 115, [], ⟨[120], some D, sParts l whole, 0, false, false, []⟩, []⟩, ta, tb, ts, q, pc, .slice ma 0 mc, ((sText l whole).length : Int), rfl, cmd_one _ _ _ _ _ (shape_one hta.shape) (shape_one htb.shape) (shape_one hts.shape) rfl, hql, hqc⟩
theorem repls_law (a : Option Addr) (cap : Nat) (l : List UInt8) (whole : Bool) (w : World) (r : BRow w a l) (hG : Gl w) (hP : GP w) :
  Calls Tryz.prog 4 #[.slice a l.length cap, .bool whole] w fun e w' => e = .returned (.bool true) ∧ Below w.heap.size w w' := by
 have hA := awake13_any w hG hP
 by_cases h0 : ((l.length : Int) == 0) = true ∨ (60 : Int) < (l.length : Int)
 ·have hA2 := fun w1 (b1 : Below w.heap.size w w1) => awake13_any w1 (hG.up b1) (hP.up b1)
  clear hG hP r
  by_cases h1 : ((l.length : Int) == 0) = true
  ·clear h0
   go_enter Tryz.func4, Tryz.ntmps4
   go_wp2_with (first
    | (go_at_call 6; refine hA.mono ?_; clear hA; rintro e w1 ⟨rfl, b1⟩; have hA3 := hA2 w1 b1; clear hA2)
    | (go_at_call 6; refine hA3.mono ?_; clear hA3; rintro e w2 ⟨rfl, b2⟩))
   go_ret
   exact ⟨rfl, b1.trans (b2.mono b1.size)⟩
  ·have h2 : (60 : Int) < (l.length : Int) := h0.resolve_left h1
   have h1 : ((l.length : Int) == 0) = false := by simpa using h1
   clear h0
   go_enter Tryz.func4, Tryz.ntmps4
   go_wp2_with (first
    | (go_at_call 6; refine hA.mono ?_; clear hA; rintro e w1 ⟨rfl, b1⟩; have hA3 := hA2 w1 b1; clear hA2)
    | (go_at_call 6; refine hA3.mono ?_; clear hA3; rintro e w2 ⟨rfl, b2⟩))
   go_ret
   exact ⟨rfl, b1.trans (b2.mono b1.size)⟩
 have h1 : ((l.length : Int) == 0) = false := by cases h : ((l.length : Int) == 0) with | false => rfl | true => exact absurd (.inl h) h0
 have h2 : ¬ (60 : Int) < (l.length : Int) := fun h => h0 (.inr h)
 have hl60 : l.length ≤ 60 := by omega
 have hl0 : 0 < l.length := by
  cases l with
  | nil => cases h1
  | cons b l => exact Nat.succ_pos _
 have HR := Lib.hid r
 have HG := Lib.hid hG
 have HP := Lib.hid hP
 have HL := Lib.hid (And.intro hl60 hl0)
 have HNE := Lib.hid (show l ≠ [] from fun e => by rw [e] at hl0; exact absurd hl0 (Nat.lt_irrefl 0))
 clear h0 r hG hP hl60 hl0
 go_enter Tryz.func4, Tryz.ntmps4
 go_upto_region 3 with (go_at_call 6; refine hA.mono ?_; clear hA; rintro e w1 ⟨rfl, b1⟩)
 have B1 := Lib.hid b1
 clear b1
 go_wp2_with fail
 go_loopw [5, 28] (fun t i wr => ∃ j : Nat, j ≤ l.length ∧ t = .string (txt (toldK kR (l.take j))) ∧ i = .int .i64 j ∧ Below w.heap.size w wr) (fun _ i _ => l.length - (intOf i).toNat)
 case atStart => exact ⟨0, by omega, rfl, rfl, B1.out⟩
 case round =>
  obtain ⟨j, hj, rfl, rfl, hb⟩ := hrel
  have HB := Lib.hid hb
  have hl60 := HL.out.1
  have hts : (txt (toldK kR (l.take j))).size ≤ 120 := by
   rw [txt_size]
   have := toldK_len kR (l.take j)
   rw [List.length_take] at this
   omega
  clear hb
  by_cases hlt : j < l.length
  ·have hji : (j : Int) < (l.length : Int) := by omega
   have hy0 : (0 : Int) ≤ (j : Int) := by omega
   have Wj : IntKind.i64.wrap ((j : Int) + 1) = (j : Int) + 1 := IntWalk.i64_in _ (by omega)
   obtain ⟨b, o, rfl, _, hc⟩ := (HR.out.below HB.out) j hlt
   have hst : txt (toldK kR (l.take j)) ++ txt (told1 kR l[j]) = txt (toldK kR (l.take (j + 1))) := by
    rw [txt_append, ← toldK_snoc, List.take_succ_eq_append_getElem hlt]
   obtain ⟨x, hx⟩ : ∃ x, l[j] = x := ⟨_, rfl⟩
   rw [hx] at hc hst
   clear hx
   obtain ⟨E, hE⟩ : ∃ E, txt (toldK kR (l.take (j + 1))) = E := ⟨_, rfl⟩
   rw [hE] at hst
   obtain ⟨D, hD⟩ : ∃ D, txt (toldK kR (l.take j)) = D := ⟨_, rfl⟩
   rw [hD] at hts hst ⊢
   have HE := Lib.hid hE
   clear hE hD
   by_cases h10 : x = 10
   ·have q10 : ((x.toNat : Int) == 10) = true := by rw [h10]; rfl
    have HS := Lib.hid (show D ++ ⟨#[92, 110]⟩ = E by rw [← hst, h10]; rfl)
    clear hst h10
    go_wp2_with fail
    go_roundw
    case rel => exact ⟨j + 1, by omega, by rw [HE.out, ← HS.out], by go_num, HB.out⟩
    case measure => simp [intOf]; omega
   ·have q10 : ((x.toNat : Int) == 10) = false := cmu_ne (c := 10) h10
    have hcv := kconv1 wr (x.toNat : Int)
    rw [knums1] at hcv
    have HA := Lib.hid (HB.out.alloc HB.out.size (.cells #[.int .u8 (x.toNat : Int)] 5))
    by_cases hk : kR x = true
    ·have HS := Lib.hid (show D ++ (⟨#[92]⟩ ++ ⟨#[x]⟩) = E by rw [← hst]; unfold told1; rw [if_neg h10, if_pos hk]; rfl)
     have h3 : x = 92 ∨ x = 47 ∨ x = 38 := by simpa [kR, or_assoc] using hk
     clear hst h10
     rcases h3 with h3 | h3 | h3
     ·have q92 : ((x.toNat : Int) == 92) = true := by rw [h3]; rfl
      clear h3 hk
      go_wp2_with fail
      go_roundw
      case rel => exact ⟨j + 1, by omega, by rw [HE.out, ← HS.out], by go_num, HA.out⟩
      case measure => simp [intOf]; omega
     ·have q92 : ((x.toNat : Int) == 92) = false := by rw [h3]; rfl
      have q47 : ((x.toNat : Int) == 47) = true := by rw [h3]; rfl
      clear h3 hk
      go_wp2_with fail
      go_roundw
      case rel => exact ⟨j + 1, by omega, by rw [HE.out, ← HS.out], by go_num, HA.out⟩
      case measure => simp [intOf]; omega
     ·have q92 : ((x.toNat : Int) == 92) = false := by rw [h3]; rfl
      have q47 : ((x.toNat : Int) == 47) = false := by rw [h3]; rfl
      have q38 : ((x.toNat : Int) == 38) = true := by rw [h3]; rfl
      clear h3 hk
      go_wp2_with fail
      go_roundw
      case rel => exact ⟨j + 1, by omega, by rw [HE.out, ← HS.out], by go_num, HA.out⟩
      case measure => simp [intOf]; omega
    ·have HS := Lib.hid (show D ++ ⟨#[x]⟩ = E by rw [← hst]; unfold told1; rw [if_neg h10, if_neg hk]; rfl)
     have q92 : ((x.toNat : Int) == 92) = false := cmu_ne (c := 92) fun e => hk (by rw [e]; rfl)
     have q47 : ((x.toNat : Int) == 47) = false := cmu_ne (c := 47) fun e => hk (by rw [e]; rfl)
     have q38 : ((x.toNat : Int) == 38) = false := cmu_ne (c := 38) fun e => hk (by rw [e]; rfl)
     clear hst h10 hk
     go_wp2_with fail
     go_roundw
     case rel => exact ⟨j + 1, by omega, by rw [HE.out, ← HS.out], by go_num, HA.out⟩
     case measure => simp [intOf]; omega
  ·obtain rfl : j = l.length := by omega
   rw [List.take_of_length_le (Nat.le_refl _)] at hts ⊢
   have hji : ¬ ((l.length : Nat) : Int) < (l.length : Int) := by omega
   obtain ⟨D, hD⟩ : ∃ D, txt (toldK kR l) = D := ⟨_, rfl⟩
   rw [hD] at hts ⊢
   cases whole with
   | true =>
    have hSz : ((⟨#[115, 47, 120, 47]⟩ : ByteArray) ++ (D ++ ⟨#[38]⟩) ++ ⟨#[47]⟩).size ≤ 4000 := by
     rw [ByteArray.size_append, ByteArray.size_append, ByteArray.size_append, show (⟨#[115, 47, 120, 47]⟩ : ByteArray).size = 4 from rfl, show (⟨#[47]⟩ : ByteArray).size = 1 from rfl, show (⟨#[38]⟩ : ByteArray).size = 1 from rfl]
     omega
    have hSl : ((⟨#[115, 47, 120, 47]⟩ : ByteArray) ++ (D ++ ⟨#[38]⟩) ++ ⟨#[47]⟩).data.toList = sText l true := by
     simp only [ByteArray.data_append, Array.toList_append]
     rw [← hD, txt_list]
     unfold sText
     simp
    have hC := kparse_0 false ((⟨#[115, 47, 120, 47]⟩ : ByteArray) ++ (D ++ ⟨#[38]⟩) ++ ⟨#[47]⟩) wr hSz (HG.out.up HB.out) (HP.out.up HB.out)
    rw [hSl] at hC
    clear hSz hSl
    go_upto_region 18 with fail; refine wp_region_list ?_; refine wpList_plain rfl (fun K hK => ?_); go_simp; refine hK _ _ ?_; clear hK K; (try simp only [List.getElem_toArray, List.getElem_cons_succ, List.getElem_cons_zero, Act.put, List.setIfInBounds_toArray, List.set_cons_zero, List.set_cons_succ]); refine wpList_plain rfl (fun K hK => ?_); go_simp; rw [if_neg (by first | omega | (simp only [ByteArray.size_append]; omega) | (simp; omega))]; go_simp; refine hK _ _ ?_; clear hK K; (try simp only [List.getElem_toArray, List.getElem_cons_succ, List.getElem_cons_zero, Act.put, List.setIfInBounds_toArray, List.set_cons_zero, List.set_cons_succ]); refine wpList_plain rfl (fun K hK => ?_); go_simp; rw [if_neg (by first | omega | (simp only [ByteArray.size_append]; omega) | (simp; omega))]; go_simp; refine hK _ _ ?_; clear hK K; (try simp only [List.getElem_toArray, List.getElem_cons_succ, List.getElem_cons_zero, Act.put, List.setIfInBounds_toArray, List.set_cons_zero, List.set_cons_succ]); refine wpList_plain rfl (fun K hK => ?_); go_simp; go_at_call 7; refine hC.mono ?_; clear hC; rintro e w4 h4; obtain ⟨b4, c, ta, tb, ts, q, pc, mv, k, rfl, hone, hql, hqc⟩ := s_ans l HNE.out true h4; refine hK _ _ ?_; clear hK K; (try simp only [List.getElem_toArray, List.getElem_cons_succ, List.getElem_cons_zero, Act.put, List.setIfInBounds_toArray, List.set_cons_zero, List.set_cons_succ]); refine wpList_plain rfl (fun K hK => ?_); go_simp; refine hK _ _ ?_; clear hK K; (try simp only [List.getElem_toArray, List.getElem_cons_succ, List.getElem_cons_zero, Act.put, List.setIfInBounds_toArray, List.set_cons_zero, List.set_cons_succ]); refine wpList_plain rfl (fun K hK => ?_); go_simp; refine hK _ _ ?_; clear hK K; (try simp only [List.getElem_toArray, List.getElem_cons_succ, List.getElem_cons_zero, Act.put, List.setIfInBounds_toArray, List.set_cons_zero, List.set_cons_succ]); refine wpList_plain rfl (fun K hK => ?_); go_simp; refine hK _ _ ?_; clear hK K; (try simp only [List.getElem_toArray, List.getElem_cons_succ, List.getElem_cons_zero, Act.put, List.setIfInBounds_toArray, List.set_cons_zero, List.set_cons_succ]); refine wpList_plain rfl (fun K hK => ?_); go_simp; refine hK _ _ ?_; clear hK K; (try simp only [List.getElem_toArray, List.getElem_cons_succ, List.getElem_cons_zero, Act.put, List.setIfInBounds_toArray, List.set_cons_zero, List.set_cons_succ]); refine wpList_plain rfl (fun K hK => ?_); go_simp; refine hK _ _ ?_; clear hK K; (try simp only [List.getElem_toArray, List.getElem_cons_succ, List.getElem_cons_zero, Act.put, List.setIfInBounds_toArray, List.set_cons_zero, List.set_cons_succ]); refine wpList_plain rfl (fun K hK => ?_); go_simp; generalize hA : (w4).alloc _ = wy; refine hK _ _ ?_; clear hK K; (try simp only [List.getElem_toArray, List.getElem_cons_succ, List.getElem_cons_zero, Act.put, List.setIfInBounds_toArray, List.set_cons_zero, List.set_cons_succ]); refine wpList_store_row rfl 35 _ _ rfl (World.heap w4).size (cmdC c ta tb ts (.slice (some ⟨q, 0, none⟩) (sParts l true).length pc)) rfl rfl 35 cmdZ (blkOfAlloc hA) (by kernel_rfl) rfl (hone) ?_; (try simp only [List.getElem_toArray, List.getElem_cons_succ, List.getElem_cons_zero, Act.put, List.setIfInBounds_toArray, List.set_cons_zero, List.set_cons_succ]); have hbx := boxOf (cs := cmdC c ta tb ts (.slice (some ⟨q, 0, none⟩) (sParts l true).length pc)) hA; generalize wy.setRow (World.heap w4).size _ = w5 at hbx ⊢; clear hA; refine wpList_plain rfl (fun K hK => ?_); go_simp; refine hK _ _ ?_; clear hK K; (try simp only [List.getElem_toArray, List.getElem_cons_succ, List.getElem_cons_zero, Act.put, List.setIfInBounds_toArray, List.set_cons_zero, List.set_cons_succ]); refine wpList_plain rfl (fun K hK => ?_); go_simp; refine hK _ _ ?_; clear hK K; (try simp only [List.getElem_toArray, List.getElem_cons_succ, List.getElem_cons_zero, Act.put, List.setIfInBounds_toArray, List.set_cons_zero, List.set_cons_succ]); refine wpList_plain rfl (fun K hK => ?_); go_simp; refine hK _ _ ?_; clear hK K; (try simp only [List.getElem_toArray, List.getElem_cons_succ, List.getElem_cons_zero, Act.put, List.setIfInBounds_toArray, List.set_cons_zero, List.set_cons_succ]); refine wpList_nil ?_; obtain ⟨b5, Q5⟩ := hbx; (have B5 := Lib.hid ((HB.out.trans (b4.mono HB.out.size)).trans (b5.mono (HB.out.trans (b4.mono HB.out.size)).size))); obtain ⟨g, hg⟩ : ∃ g, w4.heap.size = g := ⟨_, rfl⟩; (have g0 : w5.cell? ⟨q, 0, none⟩ = some (.int .i64 (-1)) := (b5.cell (p := ⟨q, 0, none⟩) hql).trans (hqc 0 _ rfl)); (have g1 : w5.cell? ⟨q, 1, none⟩ = some (.string (txt l)) := (b5.cell (p := ⟨q, 1, none⟩) hql).trans (hqc 1 _ rfl)); (have g2 : w5.cell? ⟨q, 2, none⟩ = some (.int .i64 0) := (b5.cell (p := ⟨q, 2, none⟩) hql).trans (hqc 2 _ rfl)); rw [hg] at Q5 ⊢; (have k14 : w5.cell? ⟨g, 14, none⟩ = some (.slice (some ⟨q, 0, none⟩) 2 pc) := (Q5.cell 14).trans rfl); (have hcv := brow_conv (HR.out.below B5.out) HL.out.2 cap); (have hcw := brow_conv (HR.out.below B5.out.drew) HL.out.2 cap); clear b4 b5 Q5 hg hone hql hqc h4 hts hD
    generalize txt l = X at g1 hcv hcw
    go_upto_region 20 with fail
    have hmix : Tryz.prog.follows .mixedOrders = true := by kernel_rfl
    refine wp_region_held_drew (S := fun W' : World => W'.cell? ⟨q, 0, none⟩ = some (.int .i64 (-1)) ∧ W'.cell? ⟨q, 1, none⟩ = some (.string X) ∧ (convert 22 9 (.slice a l.length cap)).run Tryz.prog W' = .ok (.string X) W') hmix ⟨g0, g1, hcw⟩ (fun hHeld => ?_)
    refine wpAnyH_take (i := 0) (v := .int .i64 0) rfl (by kernel_rfl) (by kernel_rfl) (by kernel_rfl) (fun _ _ _ h => h) (Or.inl ⟨by rfl, ?_⟩) hHeld ?_; (focus (intro W' hSw; obtain ⟨c0, c1, c2⟩ := hSw; go_simp)); (try simp only [List.getElem_toArray, List.getElem_cons_succ, List.getElem_cons_zero, Act.put, List.setIfInBounds_toArray, List.set_cons_zero, List.set_cons_succ])
    refine wpAnyH_take (i := 1) (v := .bool false) rfl (by kernel_rfl) (by kernel_rfl) (by kernel_rfl) (fun _ _ _ h => h) (Or.inl ⟨by rfl, ?_⟩) hHeld ?_; (focus (intro W' hSw; obtain ⟨c0, c1, c2⟩ := hSw; go_simp)); (try simp only [List.getElem_toArray, List.getElem_cons_succ, List.getElem_cons_zero, Act.put, List.setIfInBounds_toArray, List.set_cons_zero, List.set_cons_succ])
    refine wpAnyH_take (i := 2) (v := .bool false) rfl (by kernel_rfl) (by kernel_rfl) (by kernel_rfl) (fun _ _ _ h => h) (Or.inl ⟨by rfl, ?_⟩) hHeld ?_; (focus (intro W' hSw; obtain ⟨c0, c1, c2⟩ := hSw; go_simp)); (try simp only [List.getElem_toArray, List.getElem_cons_succ, List.getElem_cons_zero, Act.put, List.setIfInBounds_toArray, List.set_cons_zero, List.set_cons_succ])
    refine wpAnyH_take (i := 3) (v := .slice (some ⟨q, 0, none⟩) 2 pc) rfl (by kernel_rfl) (by kernel_rfl) (by kernel_rfl) (fun _ _ _ h => h) (Or.inl ⟨by rfl, ?_⟩) hHeld ?_; (focus (intro W' hSw; obtain ⟨c0, c1, c2⟩ := hSw; go_simp)); (try simp only [List.getElem_toArray, List.getElem_cons_succ, List.getElem_cons_zero, Act.put, List.setIfInBounds_toArray, List.set_cons_zero, List.set_cons_succ])
    refine wpAnyH_take (i := 4) (v := .int .i64 2) rfl (by kernel_rfl) (by kernel_rfl) (by kernel_rfl) (fun _ _ _ h => h) (Or.inl ⟨by rfl, ?_⟩) hHeld ?_; (focus (intro W' hSw; obtain ⟨c0, c1, c2⟩ := hSw; go_simp)); (try simp only [List.getElem_toArray, List.getElem_cons_succ, List.getElem_cons_zero, Act.put, List.setIfInBounds_toArray, List.set_cons_zero, List.set_cons_succ])
    refine wpAnyH_take (i := 5) (v := .bool false) rfl (by kernel_rfl) (by kernel_rfl) (by kernel_rfl) (fun _ _ _ h => h) (Or.inl ⟨by rfl, ?_⟩) hHeld ?_; (focus (intro W' hSw; obtain ⟨c0, c1, c2⟩ := hSw; go_simp)); (try simp only [List.getElem_toArray, List.getElem_cons_succ, List.getElem_cons_zero, Act.put, List.setIfInBounds_toArray, List.set_cons_zero, List.set_cons_succ])
    refine wpAnyH_take (i := 6) (v := .bool false) rfl (by kernel_rfl) (by kernel_rfl) (by kernel_rfl) (fun _ _ _ h => h) (Or.inl ⟨by rfl, ?_⟩) hHeld ?_; (focus (intro W' hSw; obtain ⟨c0, c1, c2⟩ := hSw; go_simp)); (try simp only [List.getElem_toArray, List.getElem_cons_succ, List.getElem_cons_zero, Act.put, List.setIfInBounds_toArray, List.set_cons_zero, List.set_cons_succ])
    refine wpAnyH_take (i := 7) (v := .bool false) rfl (by kernel_rfl) (by kernel_rfl) (by kernel_rfl) (fun _ _ _ h => h) (Or.inl ⟨by rfl, ?_⟩) hHeld ?_; (focus (intro W' hSw; obtain ⟨c0, c1, c2⟩ := hSw; go_simp)); (try simp only [List.getElem_toArray, List.getElem_cons_succ, List.getElem_cons_zero, Act.put, List.setIfInBounds_toArray, List.set_cons_zero, List.set_cons_succ])
    refine wpAnyH_take (i := 8) (v := .slice (some ⟨q, 0, none⟩) 2 pc) rfl (by kernel_rfl) (by kernel_rfl) (by kernel_rfl) (fun _ _ _ h => h) (Or.inl ⟨by rfl, ?_⟩) hHeld ?_; (focus (intro W' hSw; obtain ⟨c0, c1, c2⟩ := hSw; go_simp)); (try simp only [List.getElem_toArray, List.getElem_cons_succ, List.getElem_cons_zero, Act.put, List.setIfInBounds_toArray, List.set_cons_zero, List.set_cons_succ])
    refine wpAnyH_take (i := 9) (v := .pointer (some ⟨q, 0, none⟩)) rfl (by kernel_rfl) (by kernel_rfl) (by kernel_rfl) (fun _ _ _ h => h) (Or.inl ⟨by rfl, ?_⟩) hHeld ?_; (focus (intro W' hSw; obtain ⟨c0, c1, c2⟩ := hSw; go_simp)); (try simp only [List.getElem_toArray, List.getElem_cons_succ, List.getElem_cons_zero, Act.put, List.setIfInBounds_toArray, List.set_cons_zero, List.set_cons_succ])
    refine wpAnyH_take (i := 10) (v := .pointer (some ⟨q, 0, none⟩)) rfl (by kernel_rfl) (by kernel_rfl) (by kernel_rfl) (fun _ _ _ h => h) (Or.inl ⟨by rfl, ?_⟩) hHeld ?_; (focus (intro W' hSw; obtain ⟨c0, c1, c2⟩ := hSw; go_simp)); (try simp only [List.getElem_toArray, List.getElem_cons_succ, List.getElem_cons_zero, Act.put, List.setIfInBounds_toArray, List.set_cons_zero, List.set_cons_succ])
    refine wpAnyH_take (i := 11) (v := .int .i64 (-1)) rfl (by kernel_rfl) (by kernel_rfl) (by kernel_rfl) (fun _ _ _ h => h) (Or.inl ⟨by rfl, ?_⟩) hHeld ?_; (focus (intro W' hSw; obtain ⟨c0, c1, c2⟩ := hSw; go_simp)); (try simp only [List.getElem_toArray, List.getElem_cons_succ, List.getElem_cons_zero, Act.put, List.setIfInBounds_toArray, List.set_cons_zero, List.set_cons_succ])
    refine wpAnyH_take (i := 12) (v := .bool false) rfl (by kernel_rfl) (by kernel_rfl) (by kernel_rfl) (fun _ _ _ h => h) (Or.inl ⟨by rfl, ?_⟩) hHeld ?_; (focus (intro W' hSw; obtain ⟨c0, c1, c2⟩ := hSw; go_simp)); (try simp only [List.getElem_toArray, List.getElem_cons_succ, List.getElem_cons_zero, Act.put, List.setIfInBounds_toArray, List.set_cons_zero, List.set_cons_succ])
    refine wpAnyH_take (i := 13) (v := .bool false) rfl (by kernel_rfl) (by kernel_rfl) (by kernel_rfl) (fun _ _ _ h => h) (Or.inl ⟨by rfl, ?_⟩) hHeld ?_; (focus (intro W' hSw; obtain ⟨c0, c1, c2⟩ := hSw; go_simp)); (try simp only [List.getElem_toArray, List.getElem_cons_succ, List.getElem_cons_zero, Act.put, List.setIfInBounds_toArray, List.set_cons_zero, List.set_cons_succ])
    refine wpAnyH_take (i := 14) (v := .bool false) rfl (by kernel_rfl) (by kernel_rfl) (by kernel_rfl) (fun _ _ _ h => h) (Or.inl ⟨by rfl, ?_⟩) hHeld ?_; (focus (intro W' hSw; obtain ⟨c0, c1, c2⟩ := hSw; go_simp)); (try simp only [List.getElem_toArray, List.getElem_cons_succ, List.getElem_cons_zero, Act.put, List.setIfInBounds_toArray, List.set_cons_zero, List.set_cons_succ])
    refine wpAnyH_take (i := 15) (v := .slice (some ⟨q, 0, none⟩) 2 pc) rfl (by kernel_rfl) (by kernel_rfl) (by kernel_rfl) (fun _ _ _ h => h) (Or.inl ⟨by rfl, ?_⟩) hHeld ?_; (focus (intro W' hSw; obtain ⟨c0, c1, c2⟩ := hSw; go_simp)); (try simp only [List.getElem_toArray, List.getElem_cons_succ, List.getElem_cons_zero, Act.put, List.setIfInBounds_toArray, List.set_cons_zero, List.set_cons_succ])
    refine wpAnyH_take (i := 16) (v := .pointer (some ⟨q, 0, none⟩)) rfl (by kernel_rfl) (by kernel_rfl) (by kernel_rfl) (fun _ _ _ h => h) (Or.inl ⟨by rfl, ?_⟩) hHeld ?_; (focus (intro W' hSw; obtain ⟨c0, c1, c2⟩ := hSw; go_simp)); (try simp only [List.getElem_toArray, List.getElem_cons_succ, List.getElem_cons_zero, Act.put, List.setIfInBounds_toArray, List.set_cons_zero, List.set_cons_succ])
    refine wpAnyH_take (i := 17) (v := .pointer (some ⟨q, 1, none⟩)) rfl (by kernel_rfl) (by kernel_rfl) (by kernel_rfl) (fun _ _ _ h => h) (Or.inl ⟨by rfl, ?_⟩) hHeld ?_; (focus (intro W' hSw; obtain ⟨c0, c1, c2⟩ := hSw; go_simp)); (try simp only [List.getElem_toArray, List.getElem_cons_succ, List.getElem_cons_zero, Act.put, List.setIfInBounds_toArray, List.set_cons_zero, List.set_cons_succ])
    refine wpAnyH_take (i := 18) (v := .string X) rfl (by kernel_rfl) (by kernel_rfl) (by kernel_rfl) (fun _ _ _ h => h) (Or.inl ⟨by rfl, ?_⟩) hHeld ?_; (focus (intro W' hSw; obtain ⟨c0, c1, c2⟩ := hSw; go_simp)); (try simp only [List.getElem_toArray, List.getElem_cons_succ, List.getElem_cons_zero, Act.put, List.setIfInBounds_toArray, List.set_cons_zero, List.set_cons_succ])
    refine wpAnyH_take (i := 19) (v := .slice a l.length cap) rfl (by kernel_rfl) (by kernel_rfl) (by kernel_rfl) (fun _ _ _ h => h) (Or.inl ⟨by rfl, ?_⟩) hHeld ?_; (focus (intro W' hSw; obtain ⟨c0, c1, c2⟩ := hSw; go_simp)); (try simp only [List.getElem_toArray, List.getElem_cons_succ, List.getElem_cons_zero, Act.put, List.setIfInBounds_toArray, List.set_cons_zero, List.set_cons_succ])
    refine wpAnyH_take (i := 20) (v := .string X) rfl (by kernel_rfl) (by kernel_rfl) (by kernel_rfl) (fun _ _ _ h => h) (Or.inl ⟨by rfl, ?_⟩) hHeld ?_; (focus (intro W' hSw; obtain ⟨c0, c1, c2⟩ := hSw; go_simp)); (try simp only [List.getElem_toArray, List.getElem_cons_succ, List.getElem_cons_zero, Act.put, List.setIfInBounds_toArray, List.set_cons_zero, List.set_cons_succ])
    refine wpAnyH_take (i := 21) (v := .bool false) rfl (by kernel_rfl) (by kernel_rfl) (by kernel_rfl) (fun _ _ _ h => h) (Or.inl ⟨by rfl, ?_⟩) hHeld ?_; (focus (intro W' hSw; obtain ⟨c0, c1, c2⟩ := hSw; go_simp)); (try simp only [List.getElem_toArray, List.getElem_cons_succ, List.getElem_cons_zero, Act.put, List.setIfInBounds_toArray, List.set_cons_zero, List.set_cons_succ])
    refine wpAnyH_take (i := 22) (v := .bool false) rfl (by kernel_rfl) (by kernel_rfl) (by kernel_rfl) (fun _ _ _ h => h) (Or.inl ⟨by rfl, ?_⟩) hHeld ?_; (focus (intro W' hSw; obtain ⟨c0, c1, c2⟩ := hSw; go_simp)); (try simp only [List.getElem_toArray, List.getElem_cons_succ, List.getElem_cons_zero, Act.put, List.setIfInBounds_toArray, List.set_cons_zero, List.set_cons_succ])
    refine wpAnyH_done (by kernel_rfl) ?_ _
    have k2 : w5.drew.cell? ⟨q, 2, none⟩ = some (.int .i64 0) := g2
    clear g0 g1 hcv hcw k14
    go_wp2_with fail
    go_ret
    exact ⟨rfl, B5.out.drew⟩
   | false =>
    have hSz : ((⟨#[115, 47, 120, 47]⟩ : ByteArray) ++ D ++ ⟨#[47]⟩).size ≤ 4000 := by
     rw [ByteArray.size_append, ByteArray.size_append, show (⟨#[115, 47, 120, 47]⟩ : ByteArray).size = 4 from rfl, show (⟨#[47]⟩ : ByteArray).size = 1 from rfl]
     omega
    have hSl : ((⟨#[115, 47, 120, 47]⟩ : ByteArray) ++ D ++ ⟨#[47]⟩).data.toList = sText l false := by
     simp only [ByteArray.data_append, Array.toList_append]
     rw [← hD, txt_list]
     unfold sText
     simp
    have hC := kparse_0 false ((⟨#[115, 47, 120, 47]⟩ : ByteArray) ++ D ++ ⟨#[47]⟩) wr hSz (HG.out.up HB.out) (HP.out.up HB.out)
    rw [hSl] at hC
    clear hSz hSl
    go_upto_region 18 with fail; refine wp_region_list ?_; refine wpList_plain rfl (fun K hK => ?_); go_simp; refine hK _ _ ?_; clear hK K; (try simp only [List.getElem_toArray, List.getElem_cons_succ, List.getElem_cons_zero, Act.put, List.setIfInBounds_toArray, List.set_cons_zero, List.set_cons_succ]); refine wpList_plain rfl (fun K hK => ?_); go_simp; rw [if_neg (by first | omega | (simp only [ByteArray.size_append]; omega) | (simp; omega))]; go_simp; refine hK _ _ ?_; clear hK K; (try simp only [List.getElem_toArray, List.getElem_cons_succ, List.getElem_cons_zero, Act.put, List.setIfInBounds_toArray, List.set_cons_zero, List.set_cons_succ]); refine wpList_plain rfl (fun K hK => ?_); go_simp; rw [if_neg (by first | omega | (simp only [ByteArray.size_append]; omega) | (simp; omega))]; go_simp; refine hK _ _ ?_; clear hK K; (try simp only [List.getElem_toArray, List.getElem_cons_succ, List.getElem_cons_zero, Act.put, List.setIfInBounds_toArray, List.set_cons_zero, List.set_cons_succ]); refine wpList_plain rfl (fun K hK => ?_); go_simp; go_at_call 7; refine hC.mono ?_; clear hC; rintro e w4 h4; obtain ⟨b4, c, ta, tb, ts, q, pc, mv, k, rfl, hone, hql, hqc⟩ := s_ans l HNE.out false h4; refine hK _ _ ?_; clear hK K; (try simp only [List.getElem_toArray, List.getElem_cons_succ, List.getElem_cons_zero, Act.put, List.setIfInBounds_toArray, List.set_cons_zero, List.set_cons_succ]); refine wpList_plain rfl (fun K hK => ?_); go_simp; refine hK _ _ ?_; clear hK K; (try simp only [List.getElem_toArray, List.getElem_cons_succ, List.getElem_cons_zero, Act.put, List.setIfInBounds_toArray, List.set_cons_zero, List.set_cons_succ]); refine wpList_plain rfl (fun K hK => ?_); go_simp; refine hK _ _ ?_; clear hK K; (try simp only [List.getElem_toArray, List.getElem_cons_succ, List.getElem_cons_zero, Act.put, List.setIfInBounds_toArray, List.set_cons_zero, List.set_cons_succ]); refine wpList_plain rfl (fun K hK => ?_); go_simp; refine hK _ _ ?_; clear hK K; (try simp only [List.getElem_toArray, List.getElem_cons_succ, List.getElem_cons_zero, Act.put, List.setIfInBounds_toArray, List.set_cons_zero, List.set_cons_succ]); refine wpList_plain rfl (fun K hK => ?_); go_simp; refine hK _ _ ?_; clear hK K; (try simp only [List.getElem_toArray, List.getElem_cons_succ, List.getElem_cons_zero, Act.put, List.setIfInBounds_toArray, List.set_cons_zero, List.set_cons_succ]); refine wpList_plain rfl (fun K hK => ?_); go_simp; refine hK _ _ ?_; clear hK K; (try simp only [List.getElem_toArray, List.getElem_cons_succ, List.getElem_cons_zero, Act.put, List.setIfInBounds_toArray, List.set_cons_zero, List.set_cons_succ]); refine wpList_plain rfl (fun K hK => ?_); go_simp; generalize hA : (w4).alloc _ = wy; refine hK _ _ ?_; clear hK K; (try simp only [List.getElem_toArray, List.getElem_cons_succ, List.getElem_cons_zero, Act.put, List.setIfInBounds_toArray, List.set_cons_zero, List.set_cons_succ]); refine wpList_store_row rfl 35 _ _ rfl (World.heap w4).size (cmdC c ta tb ts (.slice (some ⟨q, 0, none⟩) (sParts l false).length pc)) rfl rfl 35 cmdZ (blkOfAlloc hA) (by kernel_rfl) rfl (hone) ?_; (try simp only [List.getElem_toArray, List.getElem_cons_succ, List.getElem_cons_zero, Act.put, List.setIfInBounds_toArray, List.set_cons_zero, List.set_cons_succ]); have hbx := boxOf (cs := cmdC c ta tb ts (.slice (some ⟨q, 0, none⟩) (sParts l false).length pc)) hA; generalize wy.setRow (World.heap w4).size _ = w5 at hbx ⊢; clear hA; refine wpList_plain rfl (fun K hK => ?_); go_simp; refine hK _ _ ?_; clear hK K; (try simp only [List.getElem_toArray, List.getElem_cons_succ, List.getElem_cons_zero, Act.put, List.setIfInBounds_toArray, List.set_cons_zero, List.set_cons_succ]); refine wpList_plain rfl (fun K hK => ?_); go_simp; refine hK _ _ ?_; clear hK K; (try simp only [List.getElem_toArray, List.getElem_cons_succ, List.getElem_cons_zero, Act.put, List.setIfInBounds_toArray, List.set_cons_zero, List.set_cons_succ]); refine wpList_plain rfl (fun K hK => ?_); go_simp; refine hK _ _ ?_; clear hK K; (try simp only [List.getElem_toArray, List.getElem_cons_succ, List.getElem_cons_zero, Act.put, List.setIfInBounds_toArray, List.set_cons_zero, List.set_cons_succ]); refine wpList_nil ?_; obtain ⟨b5, Q5⟩ := hbx; (have B5 := Lib.hid ((HB.out.trans (b4.mono HB.out.size)).trans (b5.mono (HB.out.trans (b4.mono HB.out.size)).size))); obtain ⟨g, hg⟩ : ∃ g, w4.heap.size = g := ⟨_, rfl⟩; (have g0 : w5.cell? ⟨q, 0, none⟩ = some (.int .i64 (-1)) := (b5.cell (p := ⟨q, 0, none⟩) hql).trans (hqc 0 _ rfl)); (have g1 : w5.cell? ⟨q, 1, none⟩ = some (.string (txt l)) := (b5.cell (p := ⟨q, 1, none⟩) hql).trans (hqc 1 _ rfl)); skip; rw [hg] at Q5 ⊢; (have k14 : w5.cell? ⟨g, 14, none⟩ = some (.slice (some ⟨q, 0, none⟩) 1 pc) := (Q5.cell 14).trans rfl); (have hcv := brow_conv (HR.out.below B5.out) HL.out.2 cap); (have hcw := brow_conv (HR.out.below B5.out.drew) HL.out.2 cap); clear b4 b5 Q5 hg hone hql hqc h4 hts hD
    generalize txt l = X at g1 hcv hcw
    go_upto_region 20 with fail
    have hmix : Tryz.prog.follows .mixedOrders = true := by kernel_rfl
    refine wp_region_held_drew (S := fun W' : World => W'.cell? ⟨q, 0, none⟩ = some (.int .i64 (-1)) ∧ W'.cell? ⟨q, 1, none⟩ = some (.string X) ∧ (convert 22 9 (.slice a l.length cap)).run Tryz.prog W' = .ok (.string X) W') hmix ⟨g0, g1, hcw⟩ (fun hHeld => ?_)
    refine wpAnyH_take (i := 0) (v := .int .i64 0) rfl (by kernel_rfl) (by kernel_rfl) (by kernel_rfl) (fun _ _ _ h => h) (Or.inl ⟨by rfl, ?_⟩) hHeld ?_; (focus (intro W' hSw; obtain ⟨c0, c1, c2⟩ := hSw; go_simp)); (try simp only [List.getElem_toArray, List.getElem_cons_succ, List.getElem_cons_zero, Act.put, List.setIfInBounds_toArray, List.set_cons_zero, List.set_cons_succ])
    refine wpAnyH_take (i := 1) (v := .bool false) rfl (by kernel_rfl) (by kernel_rfl) (by kernel_rfl) (fun _ _ _ h => h) (Or.inl ⟨by rfl, ?_⟩) hHeld ?_; (focus (intro W' hSw; obtain ⟨c0, c1, c2⟩ := hSw; go_simp)); (try simp only [List.getElem_toArray, List.getElem_cons_succ, List.getElem_cons_zero, Act.put, List.setIfInBounds_toArray, List.set_cons_zero, List.set_cons_succ])
    refine wpAnyH_take (i := 2) (v := .bool false) rfl (by kernel_rfl) (by kernel_rfl) (by kernel_rfl) (fun _ _ _ h => h) (Or.inl ⟨by rfl, ?_⟩) hHeld ?_; (focus (intro W' hSw; obtain ⟨c0, c1, c2⟩ := hSw; go_simp)); (try simp only [List.getElem_toArray, List.getElem_cons_succ, List.getElem_cons_zero, Act.put, List.setIfInBounds_toArray, List.set_cons_zero, List.set_cons_succ])
    refine wpAnyH_take (i := 3) (v := .slice (some ⟨q, 0, none⟩) 1 pc) rfl (by kernel_rfl) (by kernel_rfl) (by kernel_rfl) (fun _ _ _ h => h) (Or.inl ⟨by rfl, ?_⟩) hHeld ?_; (focus (intro W' hSw; obtain ⟨c0, c1, c2⟩ := hSw; go_simp)); (try simp only [List.getElem_toArray, List.getElem_cons_succ, List.getElem_cons_zero, Act.put, List.setIfInBounds_toArray, List.set_cons_zero, List.set_cons_succ])
    refine wpAnyH_take (i := 4) (v := .int .i64 1) rfl (by kernel_rfl) (by kernel_rfl) (by kernel_rfl) (fun _ _ _ h => h) (Or.inl ⟨by rfl, ?_⟩) hHeld ?_; (focus (intro W' hSw; obtain ⟨c0, c1, c2⟩ := hSw; go_simp)); (try simp only [List.getElem_toArray, List.getElem_cons_succ, List.getElem_cons_zero, Act.put, List.setIfInBounds_toArray, List.set_cons_zero, List.set_cons_succ])
    refine wpAnyH_take (i := 5) (v := .bool false) rfl (by kernel_rfl) (by kernel_rfl) (by kernel_rfl) (fun _ _ _ h => h) (Or.inl ⟨by rfl, ?_⟩) hHeld ?_; (focus (intro W' hSw; obtain ⟨c0, c1, c2⟩ := hSw; go_simp)); (try simp only [List.getElem_toArray, List.getElem_cons_succ, List.getElem_cons_zero, Act.put, List.setIfInBounds_toArray, List.set_cons_zero, List.set_cons_succ])
    refine wpAnyH_take (i := 6) (v := .bool false) rfl (by kernel_rfl) (by kernel_rfl) (by kernel_rfl) (fun _ _ _ h => h) (Or.inl ⟨by rfl, ?_⟩) hHeld ?_; (focus (intro W' hSw; obtain ⟨c0, c1, c2⟩ := hSw; go_simp)); (try simp only [List.getElem_toArray, List.getElem_cons_succ, List.getElem_cons_zero, Act.put, List.setIfInBounds_toArray, List.set_cons_zero, List.set_cons_succ])
    refine wpAnyH_take (i := 7) (v := .bool false) rfl (by kernel_rfl) (by kernel_rfl) (by kernel_rfl) (fun _ _ _ h => h) (Or.inl ⟨by rfl, ?_⟩) hHeld ?_; (focus (intro W' hSw; obtain ⟨c0, c1, c2⟩ := hSw; go_simp)); (try simp only [List.getElem_toArray, List.getElem_cons_succ, List.getElem_cons_zero, Act.put, List.setIfInBounds_toArray, List.set_cons_zero, List.set_cons_succ])
    refine wpAnyH_take (i := 8) (v := .slice (some ⟨q, 0, none⟩) 1 pc) rfl (by kernel_rfl) (by kernel_rfl) (by kernel_rfl) (fun _ _ _ h => h) (Or.inl ⟨by rfl, ?_⟩) hHeld ?_; (focus (intro W' hSw; obtain ⟨c0, c1, c2⟩ := hSw; go_simp)); (try simp only [List.getElem_toArray, List.getElem_cons_succ, List.getElem_cons_zero, Act.put, List.setIfInBounds_toArray, List.set_cons_zero, List.set_cons_succ])
    refine wpAnyH_take (i := 9) (v := .pointer (some ⟨q, 0, none⟩)) rfl (by kernel_rfl) (by kernel_rfl) (by kernel_rfl) (fun _ _ _ h => h) (Or.inl ⟨by rfl, ?_⟩) hHeld ?_; (focus (intro W' hSw; obtain ⟨c0, c1, c2⟩ := hSw; go_simp)); (try simp only [List.getElem_toArray, List.getElem_cons_succ, List.getElem_cons_zero, Act.put, List.setIfInBounds_toArray, List.set_cons_zero, List.set_cons_succ])
    refine wpAnyH_take (i := 10) (v := .pointer (some ⟨q, 0, none⟩)) rfl (by kernel_rfl) (by kernel_rfl) (by kernel_rfl) (fun _ _ _ h => h) (Or.inl ⟨by rfl, ?_⟩) hHeld ?_; (focus (intro W' hSw; obtain ⟨c0, c1, c2⟩ := hSw; go_simp)); (try simp only [List.getElem_toArray, List.getElem_cons_succ, List.getElem_cons_zero, Act.put, List.setIfInBounds_toArray, List.set_cons_zero, List.set_cons_succ])
    refine wpAnyH_take (i := 11) (v := .int .i64 (-1)) rfl (by kernel_rfl) (by kernel_rfl) (by kernel_rfl) (fun _ _ _ h => h) (Or.inl ⟨by rfl, ?_⟩) hHeld ?_; (focus (intro W' hSw; obtain ⟨c0, c1, c2⟩ := hSw; go_simp)); (try simp only [List.getElem_toArray, List.getElem_cons_succ, List.getElem_cons_zero, Act.put, List.setIfInBounds_toArray, List.set_cons_zero, List.set_cons_succ])
    refine wpAnyH_take (i := 12) (v := .bool false) rfl (by kernel_rfl) (by kernel_rfl) (by kernel_rfl) (fun _ _ _ h => h) (Or.inl ⟨by rfl, ?_⟩) hHeld ?_; (focus (intro W' hSw; obtain ⟨c0, c1, c2⟩ := hSw; go_simp)); (try simp only [List.getElem_toArray, List.getElem_cons_succ, List.getElem_cons_zero, Act.put, List.setIfInBounds_toArray, List.set_cons_zero, List.set_cons_succ])
    refine wpAnyH_take (i := 13) (v := .bool false) rfl (by kernel_rfl) (by kernel_rfl) (by kernel_rfl) (fun _ _ _ h => h) (Or.inl ⟨by rfl, ?_⟩) hHeld ?_; (focus (intro W' hSw; obtain ⟨c0, c1, c2⟩ := hSw; go_simp)); (try simp only [List.getElem_toArray, List.getElem_cons_succ, List.getElem_cons_zero, Act.put, List.setIfInBounds_toArray, List.set_cons_zero, List.set_cons_succ])
    refine wpAnyH_take (i := 14) (v := .bool false) rfl (by kernel_rfl) (by kernel_rfl) (by kernel_rfl) (fun _ _ _ h => h) (Or.inl ⟨by rfl, ?_⟩) hHeld ?_; (focus (intro W' hSw; obtain ⟨c0, c1, c2⟩ := hSw; go_simp)); (try simp only [List.getElem_toArray, List.getElem_cons_succ, List.getElem_cons_zero, Act.put, List.setIfInBounds_toArray, List.set_cons_zero, List.set_cons_succ])
    refine wpAnyH_take (i := 15) (v := .slice (some ⟨q, 0, none⟩) 1 pc) rfl (by kernel_rfl) (by kernel_rfl) (by kernel_rfl) (fun _ _ _ h => h) (Or.inl ⟨by rfl, ?_⟩) hHeld ?_; (focus (intro W' hSw; obtain ⟨c0, c1, c2⟩ := hSw; go_simp)); (try simp only [List.getElem_toArray, List.getElem_cons_succ, List.getElem_cons_zero, Act.put, List.setIfInBounds_toArray, List.set_cons_zero, List.set_cons_succ])
    refine wpAnyH_take (i := 16) (v := .pointer (some ⟨q, 0, none⟩)) rfl (by kernel_rfl) (by kernel_rfl) (by kernel_rfl) (fun _ _ _ h => h) (Or.inl ⟨by rfl, ?_⟩) hHeld ?_; (focus (intro W' hSw; obtain ⟨c0, c1, c2⟩ := hSw; go_simp)); (try simp only [List.getElem_toArray, List.getElem_cons_succ, List.getElem_cons_zero, Act.put, List.setIfInBounds_toArray, List.set_cons_zero, List.set_cons_succ])
    refine wpAnyH_take (i := 17) (v := .pointer (some ⟨q, 1, none⟩)) rfl (by kernel_rfl) (by kernel_rfl) (by kernel_rfl) (fun _ _ _ h => h) (Or.inl ⟨by rfl, ?_⟩) hHeld ?_; (focus (intro W' hSw; obtain ⟨c0, c1, c2⟩ := hSw; go_simp)); (try simp only [List.getElem_toArray, List.getElem_cons_succ, List.getElem_cons_zero, Act.put, List.setIfInBounds_toArray, List.set_cons_zero, List.set_cons_succ])
    refine wpAnyH_take (i := 18) (v := .string X) rfl (by kernel_rfl) (by kernel_rfl) (by kernel_rfl) (fun _ _ _ h => h) (Or.inl ⟨by rfl, ?_⟩) hHeld ?_; (focus (intro W' hSw; obtain ⟨c0, c1, c2⟩ := hSw; go_simp)); (try simp only [List.getElem_toArray, List.getElem_cons_succ, List.getElem_cons_zero, Act.put, List.setIfInBounds_toArray, List.set_cons_zero, List.set_cons_succ])
    refine wpAnyH_take (i := 19) (v := .slice a l.length cap) rfl (by kernel_rfl) (by kernel_rfl) (by kernel_rfl) (fun _ _ _ h => h) (Or.inl ⟨by rfl, ?_⟩) hHeld ?_; (focus (intro W' hSw; obtain ⟨c0, c1, c2⟩ := hSw; go_simp)); (try simp only [List.getElem_toArray, List.getElem_cons_succ, List.getElem_cons_zero, Act.put, List.setIfInBounds_toArray, List.set_cons_zero, List.set_cons_succ])
    refine wpAnyH_take (i := 20) (v := .string X) rfl (by kernel_rfl) (by kernel_rfl) (by kernel_rfl) (fun _ _ _ h => h) (Or.inl ⟨by rfl, ?_⟩) hHeld ?_; (focus (intro W' hSw; obtain ⟨c0, c1, c2⟩ := hSw; go_simp)); (try simp only [List.getElem_toArray, List.getElem_cons_succ, List.getElem_cons_zero, Act.put, List.setIfInBounds_toArray, List.set_cons_zero, List.set_cons_succ])
    refine wpAnyH_take (i := 21) (v := .bool false) rfl (by kernel_rfl) (by kernel_rfl) (by kernel_rfl) (fun _ _ _ h => h) (Or.inl ⟨by rfl, ?_⟩) hHeld ?_; (focus (intro W' hSw; obtain ⟨c0, c1, c2⟩ := hSw; go_simp)); (try simp only [List.getElem_toArray, List.getElem_cons_succ, List.getElem_cons_zero, Act.put, List.setIfInBounds_toArray, List.set_cons_zero, List.set_cons_succ])
    refine wpAnyH_take (i := 22) (v := .bool false) rfl (by kernel_rfl) (by kernel_rfl) (by kernel_rfl) (fun _ _ _ h => h) (Or.inl ⟨by rfl, ?_⟩) hHeld ?_; (focus (intro W' hSw; obtain ⟨c0, c1, c2⟩ := hSw; go_simp)); (try simp only [List.getElem_toArray, List.getElem_cons_succ, List.getElem_cons_zero, Act.put, List.setIfInBounds_toArray, List.set_cons_zero, List.set_cons_succ])
    refine wpAnyH_done (by kernel_rfl) ?_ _
    clear g0 g1 hcv hcw k14
    go_wp2_with fail
    go_ret
    exact ⟨rfl, B5.out.drew⟩
theorem repls_any (a0 : Option Addr) (n0 c0 : Nat) (z0 : List Int) {w0 : World} (r0 : IsRow .u8 w0 a0 n0 c0 z0) (whole : Bool) (w : World) (hG : Gl w) (hP : GP w) (h0 : w0 = w := by rfl) :
  Calls Tryz.prog 4 #[.slice a0 n0 c0, .bool whole] w fun e w' => e = .returned (.bool true) ∧ Below w.heap.size w w' := by
 subst h0
 obtain ⟨l0, rfl, b0, _⟩ := isrow_b r0
 exact repls_law a0 c0 l0 whole _ b0 hG hP
end Go.Proofs.YtbgfankoojjejaaGreatDoor
namespace Go.Proofs.YtbgfankoojjejaaGreatDoor
open Go.ChangeShapes Go.WideShapes Go.ChangeAt Go.RowKit
theorem gTab : Tryz.prog.globalNamed "math/bits.deBruijn64tab" = some 5 := by kernel_rfl
theorem gTabType : (Tryz.prog.globals[5]?).map (·.type) = some 256 := by kernel_rfl
theorem cellsTab : Tryz.prog.cellsOf 256 = 64 := by kernel_rfl
theorem cellsU8 : Tryz.prog.cellsOf 5 = 1 := by kernel_rfl
theorem gOpn : Tryz.prog.globalNamed "placket/bracket.openers" = some 4 := by kernel_rfl
theorem gOpnType : (Tryz.prog.globals[4]?).map (·.type) = some 248 := by kernel_rfl
theorem cellsOpn : Tryz.prog.cellsOf 248 = 3 := by kernel_rfl
theorem gAhd : Tryz.prog.globalNamed "placket/piece.ahead" = some 0 := by kernel_rfl
theorem gAhdType : (Tryz.prog.globals[0]?).map (·.type) = some 197 := by kernel_rfl
theorem cellsAhd : Tryz.prog.cellsOf 197 = 2 := by kernel_rfl
theorem block_of_cell {W : World} (b : Nat) (v : Value) (hv : W.cell? ⟨b, 0, none⟩ = some v) : b < W.heap.size := by
 cases hh : W.heap[b]? with
 | none => simp [World.cell?, hh] at hv
 | some o => exact (Array.getElem?_eq_some_iff.1 hh).1
theorem g12_of {W : World} (h : laidMetH Tryz.prog [("math/bits.deBruijn64tab", Rows.laid_math_bits_deBruijn64tab), ("unicode/utf8.acceptRanges", Rows.laid_unicode_utf8_acceptRanges), ("placket/bracket.openers", Rows.laid_placket_bracket_openers), ("placket/piece.ahead", Rows.laid_placket_piece_ahead), ("unicode/utf8.first", Rows.laid_unicode_utf8_first)] W) (hsh : W.ShapedOpen Tryz.prog) : Gl W ∧ GP W := by
 have h0 : laidMet Tryz.prog [("math/bits.deBruijn64tab", Rows.laid_math_bits_deBruijn64tab), ("unicode/utf8.acceptRanges", Rows.laid_unicode_utf8_acceptRanges), ("placket/bracket.openers", Rows.laid_placket_bracket_openers), ("placket/piece.ahead", Rows.laid_placket_piece_ahead), ("unicode/utf8.first", Rows.laid_unicode_utf8_first)] W := h
 have h2 := laidMet.tail (laidMet.tail h0)
 have hT : Lib.TabIs Tryz.prog W "math/bits.deBruijn64tab" .u8 (Lib.deBruijn64tab.map Int.ofNat) :=
  Lib.tabIs_of_head gTab gTabType Tryz.underlying256 Tryz.underlying5 cellsU8 cellsTab h0
 have hO : Lib.TabIs Tryz.prog W "placket/bracket.openers" .u8 [58, 61, 46] :=
  Lib.tabIs_of_head gOpn gOpnType Tryz.underlying248 Tryz.underlying5 cellsU8 cellsOpn h2
 have hH : Lib.TabIs Tryz.prog W "placket/piece.ahead" .u8 [94, 93] :=
  Lib.tabIs_of_head gAhd gAhdType Tryz.underlying197 Tryz.underlying5 cellsU8 cellsAhd (laidMet.tail h2)
 obtain ⟨m, hm⟩ : ∃ m, W.cell? ⟨1, 0, none⟩ = some (.int .i64 m) :=
  cell_of_shapedOpen_int (t := 3) (zero := #[.int .i64 0]) hsh (of_decide_eq_true (by kernel_rfl)) (by kernel_rfl) rfl (by kernel_rfl) (by kernel_rfl) Tryz.underlying3
 refine ⟨⟨fun j hj => ?_, hO.cell gOpn 0 (by decide), hO.cell gOpn 1 (by decide), hO.cell gOpn 2 (by decide), ⟨m, hm⟩, ?_⟩, hH.cell gAhd 0 (by decide), hH.cell gAhd 1 (by decide), block_of_cell _ _ (hH.cell gAhd 0 (by decide))⟩
 ·rw [hT.cell gTab j (by rw [List.length_map]; exact hj)]
  simp only [List.getD, List.getElem?_map]
  rw [List.getElem?_eq_getElem hj]
  rfl
 ·exact Nat.max_lt.2 ⟨Nat.max_lt.2 ⟨block_of_cell _ _ (hT.cell gTab 0 (by decide)), block_of_cell _ _ (hO.cell gOpn 0 (by decide))⟩, block_of_cell _ _ hm⟩
def layCells (cs : Array Value) : Obj → Obj
 | .cells _ t frozen => .cells cs t frozen
 | o => o
noncomputable def laidWorld (os : Os) : World :=
 { World.holding Tryz.prog os ⟨#[], #[], []⟩ with heap := (((((World.holding Tryz.prog os ⟨#[], #[], []⟩).heap.modify 5 (layCells (Lib.deBruijn64tab.map fun n => Value.int .u8 (Int.ofNat n)).toArray)).modify 4 (layCells #[.int .u8 58, .int .u8 61, .int .u8 46])).modify 0 (layCells #[.int .u8 94, .int .u8 93])).modify 3 (layCells (([128, 191, 160, 191, 128, 159, 144, 191, 128, 143, 0, 0, 0, 0, 0, 0, 0, 0, 0, 0, 0, 0, 0, 0, 0, 0, 0, 0, 0, 0, 0, 0] : List Nat).map fun n => Value.int .u8 (Int.ofNat n)).toArray)).modify 2 (layCells (Go.Pinned.utf8FirstZ.map fun n => Value.int .u8 (Int.ofNat n)).toArray) }
end Go.Proofs.YtbgfankoojjejaaGreatDoor
