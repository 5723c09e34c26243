/- The proof's texts AdWm, AdGlob: what the claim reaches of them. -/
import Derived.Test.YtmpihhhjkkokfaaGreatDoorAd229
import Derived.Test.YtmpihhhjkkokfaaGreatDoorAd230
import Derived.Test.YtmpihhhjkkokfaaGreatDoorAd231
import Derived.Laws.BytesArg
import Derived.Test.YtmpihhhjkkokfaaGreatDoorAd225
import Derived.Test.YtmpihhhjkkokfaaGreatDoorAd208
import Derived.Test.YtmpihhhjkkokfaaGreatDoorCards
import Derived.Test.YtmpihhhjkkokfaaGreatDoorTie
import Derived.ShutString
import Derived.OpenShut
import Derived.Deep.DeepHandedRow
import Derived.Lib.LaidTab
import Derived.Stop.LaidErr
import Derived.Shelf.Vars
namespace Go.Proofs.YtmpihhhjkkokfaaGreatDoor
open Go Go.RowKit
theorem trx_leaf3 {F : Nat → Prop} {w : World} {t : Tr} (h : t.parts = []) : TrX F w t none 0 := TrRw.up (by rw [h]; exact TrRw.nil _ _ _ _ (Nat.zero_le _))
theorem sconv1 (W : World) (x : Int) : (convert 65 9 (.slice (some ⟨W.heap.size, 0, none⟩) 1 1)).run Tryz.prog (W.alloc (.cells #[.int .u8 x] 5)) = .ok (.string (strOfNums [x])) (W.alloc (.cells #[.int .u8 x] 5)) :=
 run_convert_bytes_arg _ 65 5 Tryz.underlying65 Tryz.underlying5 _ 0 1 1 [x] rfl (fun i hi => by
  rw [(Blk.new W _ _ _ rfl).cell]
  match i, hi with
  | 0, _ => rfl) _ Tryz.underlying9
set_option linter.unusedVariables false in
set_option linter.unusedSimpArgs false in
set_option maxRecDepth 100000 in
set_option maxHeartbeats 4000000 in
theorem rbyte_any (w : World) : Calls Tryz.prog 22 #[.int .u8 97] w fun e w' => e = .returned (.agg #[.int .i64 1, .int .u64 (ow (oSpan 97 97) 0), .int .u64 (ow (oSpan 97 97) 1), .int .u64 (ow (oSpan 97 97) 2), .int .u64 (ow (oSpan 97 97) 3), .slice none 0 0, .int .i64 0, .int .i64 0, .int .i64 0]) ∧ Below w.heap.size w w' := by
 have hA := (Below.refl w.heap.size w).alloc (Nat.le_refl _) (.cells zC 38)
 have hP0 := Blk.new w zC 38 w.heap.size rfl
 obtain ⟨W, hW⟩ : ∃ W, w.alloc (.cells zC 38) = W := ⟨_, rfl⟩
 rw [hW] at hA hP0
 have hS := rspan_any 97 97 W (by decide) (by decide) (by decide) (by decide)
 have HA := Lib.hid hA
 have HP := Lib.hid hP0
 clear hA hP0
 go_enter Tryz.func22, Tryz.ntmps22
 go_wp2_with (go_at_call 40; refine hS.mono ?_; clear hS; rintro e w1 ⟨rfl, b1⟩; have B1 := Lib.hid (HA.out.trans (b1.mono HA.out.size)); have K1 := Lib.hid (HP.out.below b1 HP.out.lt); clear b1; obtain ⟨⟨z0, z1, z2, z3, z4, z5, z6, z7, z8⟩, v0, v1, v2, v3, v4, v5, v6, v7, v8, hz⟩ := blk9v K1.out)
 with_reducible refine post9v B1.out K1.out (Nat.le_refl _) ?_
 intro w9 hB9 hk9 hs9 hz9
 clear z0 z1 z2 z3 z4 z5 z6 z7 z8 v0 v1 v2 v3 v4 v5 v6 v7 v8 hz
 obtain ⟨⟨z0, z1, z2, z3, z4, z5, z6, z7, z8⟩, _⟩ := blk9v hk9
 refine bodyPost_ret (v := .agg #[.int .i64 1, .int .u64 (ow (oSpan 97 97) 0), .int .u64 (ow (oSpan 97 97) 1), .int .u64 (ow (oSpan 97 97) 2), .int .u64 (ow (oSpan 97 97) 3), .slice none 0 0, .int .i64 0, .int .i64 0, .int .i64 0]) (by simp [results, Tryz.results22, go_sem, tV, bT, Tr.kind, Tr.set, Tr.parts, Tr.mn, Tr.mx, Tr.num, z0, z1, z2, z3, z4, z5, z6, z7, z8]) rfl ⟨rfl, hB9⟩
theorem dl_szs : ∀ k : Fin 11, ((List.replicate k.val bT).flatMap tjpart).length ≤ 4000000 ∧ nsize (canon (tjoin (List.replicate k.val bT))) ≤ 4000000 := by decide +kernel
theorem dl_sz (k : Nat) (h : k ≤ 10) : ((List.replicate k bT).flatMap tjpart).length ≤ 4000000 ∧ nsize (canon (tjoin (List.replicate k bT))) ≤ 4000000 := dl_szs ⟨k, by omega⟩
theorem padr_0 (ext second : Bool) (s : ByteArray) (w : World) (hs : s.size ≤ 4000000) (hG : Gl w) (hP : GP w) :
  Calls Tryz.prog 9 #[.string s, .int .i64 0, .bool ext, .bool second] w fun e w' => AdA w (adM ext second s.data.toList 0) e w' := padr_at ext second s 0 w hs (Nat.zero_le _) hG hP
theorem as_list (k : Nat) (h : k ≤ 10) : ((ByteArray.mk #[97, 97, 97, 97, 97, 97, 97, 97, 97, 97]).extract 0 k).data.toList = List.replicate k 97 := by
 have : ∀ k : Fin 11, ((ByteArray.mk #[97, 97, 97, 97, 97, 97, 97, 97, 97, 97]).extract 0 k.val).data.toList = List.replicate k.val 97 := by decide +kernel
 exact this ⟨k, by omega⟩
set_option linter.unusedVariables false in
set_option linter.unusedSimpArgs false in
set_option maxRecDepth 100000 in
set_option maxHeartbeats 4000000 in
theorem dels_any (d n : UInt8) (w : World) (hG : Gl w) (hP : GP w) :
  Calls Tryz.prog 6 #[.int .u8 d.toNat, .int .u8 n.toNat] w fun e w' => e = .returned (.bool true) ∧ Below w.heap.size w w' := by
 have hA := awake12_any w hG hP
 have hA2 := fun w1 (b1 : Below w.heap.size w w1) => awake12_any w1 (hG.up b1) (hP.up b1)
 by_cases h92 : d = 92
 ·have q92 : ((d.toNat : Int) == 92) = true := by rw [h92]; rfl
  clear hG hP h92
  go_enter Tryz.func6, Tryz.ntmps6
  go_wp2_with (first
   | (go_at_call 8; refine hA.mono ?_; clear hA; rintro e w1 ⟨rfl, b1⟩; have hA3 := hA2 w1 b1; clear hA2)
   | (go_at_call 8; refine hA3.mono ?_; clear hA3; rintro e w2 ⟨rfl, b2⟩))
  go_ret
  exact ⟨rfl, b1.trans (b2.mono b1.size)⟩
 have q92 : ((d.toNat : Int) == 92) = false := u8_ne (n := 92) (by decide) h92
 by_cases h10 : d = 10
 ·have q10 : ((d.toNat : Int) == 10) = true := by rw [h10]; rfl
  clear hG hP h92 h10
  go_enter Tryz.func6, Tryz.ntmps6
  go_wp2_with (first
   | (go_at_call 8; refine hA.mono ?_; clear hA; rintro e w1 ⟨rfl, b1⟩; have hA3 := hA2 w1 b1; clear hA2)
   | (go_at_call 8; refine hA3.mono ?_; clear hA3; rintro e w2 ⟨rfl, b2⟩))
  go_ret
  exact ⟨rfl, b1.trans (b2.mono b1.size)⟩
 have q10 : ((d.toNat : Int) == 10) = false := u8_ne (n := 10) (by decide) h10
 by_cases h97 : d = 97
 ·have q97 : ((d.toNat : Int) == 97) = true := by rw [h97]; rfl
  clear hG hP h92 h10 h97
  go_enter Tryz.func6, Tryz.ntmps6
  go_wp2_with (first
   | (go_at_call 8; refine hA.mono ?_; clear hA; rintro e w1 ⟨rfl, b1⟩; have hA3 := hA2 w1 b1; clear hA2)
   | (go_at_call 8; refine hA3.mono ?_; clear hA3; rintro e w2 ⟨rfl, b2⟩))
  go_ret
  exact ⟨rfl, b1.trans (b2.mono b1.size)⟩
 have q97 : ((d.toNat : Int) == 97) = false := u8_ne (n := 97) (by decide) h97
 clear hA2
 obtain ⟨j, hj⟩ : ∃ j, n.toNat % 10 = j := ⟨_, rfl⟩
 obtain ⟨k, hk⟩ : ∃ k, 1 + j = k := ⟨_, rfl⟩
 have hk1 : 1 ≤ k := by omega
 have hk10 : k ≤ 10 := by omega
 obtain ⟨ext, hext⟩ : ∃ ext, decide (n.toNat % 2 = 0) = ext := ⟨_, rfl⟩
 obtain ⟨D, hD, hnm, hnz⟩ := ad_delim ext d k h92 h10 h97 hk1 hk10
 have hlt := n.toNat_lt
 have hm0 : IntKind.i64.wrap (n.toNat : Int) = (n.toNat : Int) := IntWalk.i64_in _ (by omega)
 have hm1 : (n.toNat : Int) % 10 = (j : Int) := by omega
 have hm2 : (n.toNat : Int).tmod 10 = (j : Int) := by rw [Int.tmod_eq_emod_of_nonneg (by omega)]; omega
 have hm3 : IntKind.i64.wrap (1 + (j : Int)) = (k : Int) := by rw [IntWalk.i64_in _ (by omega)]; omega
 have he1 : (((n.toNat : Int) % 2) == 0) = ext := by
  rw [← hext]
  by_cases h : n.toNat % 2 = 0
  ·rw [decide_eq_true h]; simp; omega
  ·rw [decide_eq_false h]; simp; omega
 have hk0 : (0 : Int) ≤ (k : Int) := by omega
 have hkk : (k : Int) ≤ 10 := by omega
 have HD := Lib.hid (And.intro hD (And.intro hnm hnz))
 have HK := Lib.hid (And.intro hk1 hk10)
 have hcv := fun W => sconv1 W (d.toNat : Int)
 have hds : strOfNums [(d.toNat : Int)] = ⟨#[d]⟩ := by
  rw [show strOfNums [(d.toNat : Int)] = ⟨#[UInt8.ofNat d.toNat]⟩ from rfl]
  simp
 rw [hds] at hcv
 have HG := Lib.hid hG
 have HPP := Lib.hid hP
 clear hG hP h92 h10 h97 hk hj hlt hk1 hk10 hext hD hnm hnz hds
 go_enter Tryz.func6, Tryz.ntmps6
 go_upto_region 4 with (go_at_call 8; refine hA.mono ?_; clear hA; rintro e w1 ⟨rfl, b1⟩)
 obtain ⟨E, hE⟩ : ∃ E, (ByteArray.mk #[97, 97, 97, 97, 97, 97, 97, 97, 97, 97]).extract 0 k = E := ⟨_, rfl⟩
 have hEs : E.size = k := by rw [← hE, ByteArray.size_extract]; show min k 10 - 0 = k; have := HK.out.2; omega
 have hEl : E.data.toList = List.replicate k 97 := by rw [← hE]; exact as_list k HK.out.2
 rw [hE]
 clear hE
 go_upto_region 5 with fail
 generalize hW2 : w1.alloc _ = w2
 have B2 := Lib.hid (b1.trans ((belowOfAlloc hW2).mono b1.size))
 clear b1 hW2 hcv
 have hSz : ((⟨#[92]⟩ : ByteArray) ++ ⟨#[d]⟩ ++ E ++ ⟨#[d]⟩ ++ ⟨#[112]⟩).size ≤ 4000000 := by
  rw [ByteArray.size_append, ByteArray.size_append, ByteArray.size_append, ByteArray.size_append, show (⟨#[92]⟩ : ByteArray).size = 1 from rfl, show (⟨#[d]⟩ : ByteArray).size = 1 from rfl, show (⟨#[112]⟩ : ByteArray).size = 1 from rfl, hEs]
  have := HK.out.2
  omega
 have hSl : ((⟨#[92]⟩ : ByteArray) ++ ⟨#[d]⟩ ++ E ++ ⟨#[d]⟩ ++ ⟨#[112]⟩).data.toList = 92 :: d :: (List.replicate k 97 ++ d :: [112]) := by
  simp only [ByteArray.data_append, Array.toList_append, hEl]
  simp
 have hC := padr_0 ext false ((⟨#[92]⟩ : ByteArray) ++ ⟨#[d]⟩ ++ E ++ ⟨#[d]⟩ ++ ⟨#[112]⟩) w2 hSz (HG.out.up B2.out) (HPP.out.up B2.out)
 rw [hSl, HD.out.1] at hC
 obtain ⟨k3, hk3⟩ : ∃ k3, k + 3 = k3 := ⟨_, rfl⟩
 have hET : txt (List.replicate k 97) = E := by
  rw [← hEl]
  unfold txt
  simp
 simp only [AdA, hk3, hET, List.length_nil] at hC
 have Ws : IntKind.i64.wrap ((k : Int) + 3) = (k3 : Int) := by rw [IntWalk.i64_in _ (by omega)]; omega
 have hEi : (E.size : Int) = (k : Int) := by omega
 have hE10 : E.size ≤ 10 := by have := HK.out.2; omega
 clear hSz hSl hET hk3 hEl
 go_upto_region 6 with (go_at_call 9; refine hC.mono ?_; clear hC; rintro e w3 ⟨b3, tv, ma, mc, rfl, ht, _⟩; have hsh := TrO.shape ht; have HT3 := Lib.hid (tro_all ht); have B3 := Lib.hid (B2.out.trans (b3.mono B2.out.size)); clear b3 ht; rcases hsh with ⟨T9, q9, rfl⟩ | rfl)
 all_goals
  generalize hW4 : w3.alloc _ = w4
  have B4 := Lib.hid (B3.out.trans ((belowOfAlloc hW4).mono B3.out.size))
  have X4 := Lib.hid (blkOfAlloc hW4)
  have T4 := Lib.hid (tro_up (belowOfAlloc hW4) HT3.out)
  have Hx4 := Lib.hid (blkOfAlloc hW4).lt
  obtain ⟨x, hx⟩ : ∃ x, w3.heap.size = x := ⟨_, rfl⟩
  rw [hx] at X4 Hx4 ⊢
  clear hW4 hx
  have hE4 := own_empty (base := w4.heap.size) w4 38 9 w4.heap.size rfl (Nat.le_refl _)
  go_upto_region 7 with fail
  generalize hW5 : w4.alloc _ = w5
  have hb5 := belowOfAlloc hW5
  rw [hW5] at hE4
  have HO5 := Lib.hid (show TOwn (fun _ => True) w4.heap.size w5 (List.replicate 0 bT) (.slice (some ⟨w4.heap.size, 0, none⟩) 0 0) [] from ⟨hE4, rfl⟩)
  obtain ⟨i0, hi, hz0, hz1, hz2⟩ := t_info
  obtain ⟨g, hg⟩ : ∃ g, w4.heap.size = g := ⟨_, rfl⟩
  have Hg5 := Lib.hid (show g ≤ w5.heap.size by rw [← hg]; exact hb5.size)
  have B5 := Lib.hid (show Below g w4 w5 by rw [← hg]; exact hb5)
  rw [hg] at HO5 Hx4 ⊢
  have Hg4 := Lib.hid (show w.heap.size ≤ g by rw [← hg]; exact B4.out.size)
  have HG4 := Lib.hid (show w4.heap.size = g from hg)
  clear hE4 hb5 hW5 hg
  go_wp2_with fail
  go_loopw [11, 54] (fun vv i wr => ∃ (j2 : Nat) (us : List Value), j2 ≤ k ∧ i = .int .i64 j2 ∧ TOwn (fun _ => True) g wr (List.replicate j2 bT) vv us ∧ Below g w4 wr) (fun _ i _ => k - (intOf i).toNat)
  case atStart => exact ⟨0, [], by omega, rfl, HO5.out, B5.out⟩
  case round =>
   obtain ⟨j2, us, hj2, rfl, hO, hbr⟩ := hrel
   by_cases hlt2 : j2 < k
   ·have hji : (j2 : Int) < (k : Int) := by omega
    have Wj : IntKind.i64.wrap ((j2 : Int) + 1) = (j2 : Int) + 1 := IntWalk.i64_in _ (by omega)
    have HO := Lib.hid hO
    have HB := Lib.hid hbr
    have hv := own_form' hO.1
    obtain ⟨pa, pc, hv⟩ := hv
    rw [List.length_replicate] at hv
    subst hv
    have hI := rbyte_any wr
    have hk10 := HK.out.2
    have hm1 : j2 + 1 ≤ maxLen := by unfold maxLen; omega
    have hm2 : (j2 + 1) * 88 ≤ 140737488355328 := by omega
    have Hm1 := Lib.hid hm1
    have Hm2 := Lib.hid hm2
    clear hO hbr hk10 hm1 hm2
    go_wp2_with fail
    refine hI.mono ?_
    clear hI
    rintro e w6 ⟨rfl, b6⟩
    have hO6 := HO.out.below b6
    have hB6 := HB.out.trans (b6.mono (show g ≤ wr.heap.size by have := HB.out.size; have := HG4.out; omega))
    have hch : Chunks (fun b => True ∧ OffV (.slice pa j2 pc) b) w6 [bT] (tC bT none 0).toList := Chunks.single (trx_leaf3 rfl)
    have hA := (Below.refl w6.heap.size w6).alloc (Nat.le_refl _) (.cells #[.int .i64 1, .int .u64 (ow (oSpan 97 97) 0), .int .u64 (ow (oSpan 97 97) 1), .int .u64 (ow (oSpan 97 97) 2), .int .u64 (ow (oSpan 97 97) 3), .slice none 0 0, .int .i64 0, .int .i64 0, .int .i64 0] 38)
    have hOA := hO6.below hA
    have hg6 : g ≤ w6.heap.size := by have := hB6.size; have := HG4.out; omega
    have hchA : Chunks (fun b => True ∧ OffV (.slice pa j2 pc) b) (w6.alloc (.cells #[.int .i64 1, .int .u64 (ow (oSpan 97 97) 0), .int .u64 (ow (oSpan 97 97) 1), .int .u64 (ow (oSpan 97 97) 2), .int .u64 (ow (oSpan 97 97) 3), .slice none 0 0, .int .i64 0, .int .i64 0, .int .i64 0] 38)) [bT] (tC bT none 0).toList := hch.keep hA.size (fun b hf hl => ⟨hf, fun o => hA.cell (p := ⟨b, o, none⟩) hl⟩)
    have hnw : ∀ j u, (tC bT none 0).toList[j]? = some u → (w6.alloc (.cells #[.int .i64 1, .int .u64 (ow (oSpan 97 97) 0), .int .u64 (ow (oSpan 97 97) 1), .int .u64 (ow (oSpan 97 97) 2), .int .u64 (ow (oSpan 97 97) 3), .slice none 0 0, .int .i64 0, .int .i64 0, .int .i64 0] 38)).cell? ((⟨w6.heap.size, 0, none⟩ : Addr).add j) = some u := news_new w6 bT none 0 38 w6.heap.size rfl
    have hv1 := hch.one
    have hBA := hB6.alloc hg6 (.cells #[.int .i64 1, .int .u64 (ow (oSpan 97 97) 0), .int .u64 (ow (oSpan 97 97) 1), .int .u64 (ow (oSpan 97 97) 2), .int .u64 (ow (oSpan 97 97) 3), .slice none 0 0, .int .i64 0, .int .i64 0, .int .i64 0] 38)
    have HBA := Lib.hid hBA
    have HOA := Lib.hid hOA
    have how := hOA.1
    rw [List.length_replicate] at how
    have HOW := Lib.hid how
    clear how
    have HCH := Lib.hid hchA
    have Hg6 := Lib.hid hg6
    clear b6 hO6 hB6 hch hA hOA hchA hBA hg6
    go_wp2_with (at_builtin; go_loud (refine wpList_append_any _ rfl _ _ 36 rfl g 38 i0 (.agg zC) 9 88 Tryz.underlying36 hi hz0 hz1 hz2 rfl (by decide) _ _ _ rfl HOW.out (some ⟨w6.heap.size, 0, none⟩) 1 1 (tC bT none 0).toList rfl rfl (fun _ => ⟨_, rfl, hnw⟩) hv1 Hm1.out Hm2.out (by have := Hg6.out; simp; omega) ?_; intro v7 w7 hown7 hgrow7 hat7))
    have hO7 := HOA.out.push HCH.out (by rw [List.length_replicate]; exact hown7) hgrow7 hat7
    have hB7 := HBA.out.grown hgrow7 (by have := HBA.out.size; have := HG4.out; omega) (fun q hq => own_of HOA.out.1 q hq)
    have HF := Lib.hid (And.intro (show TOwn (fun _ => True) g w7 (List.replicate (j2 + 1) bT) v7 (us ++ (tC bT none 0).toList) by rw [List.replicate_succ']; exact hO7) hB7)
    obtain ⟨v7a, v7c, rfl⟩ := own_form' hown7
    clear hown7 hgrow7 hat7 hO7 hB7 hnw hv1
    go_wp2_with fail
    go_roundw
    case rel => exact ⟨j2 + 1, _, by omega, by go_num, HF.out.1, HF.out.2⟩
    case measure => simp [intOf]; omega
   ·obtain rfl : k = j2 := by omega
    obtain ⟨ra, rc, hv, hR⟩ := hO.row
    rw [List.length_replicate] at hv
    subst hv
    have hbr' : Below w4.heap.size w4 wr := by rw [HG4.out]; exact hbr
    have hJ' := fun (w' : World) (hb : Below wr.heap.size wr w') => rjoin_any (List.replicate k bT) ra rc w' (TrRw.below hb hR) (dl_sz k HK.out.2).1 (by have := HK.out.2; simp; omega)
    simp only [List.length_replicate] at hJ'
    have B9 := Lib.hid (B4.out.trans (hbr'.mono B4.out.size))
    have X9 := Lib.hid (X4.out.below hbr' (by rw [HG4.out]; exact Hx4.out))
    have T9' := Lib.hid (tro_up hbr' T4.out)
    have hsz := Lib.hid (dl_sz k HK.out.2).2
    clear hR hO hbr hbr'
    obtain ⟨x0, x1, x2, x3, _, _, _, _, hxl⟩ := blk4 X9.out
    obtain ⟨J, hJe⟩ : ∃ J, tjoin (List.replicate k bT) = J := ⟨_, rfl⟩
    rw [hJe] at hsz
    simp only [hJe] at hJ'
    have hnm := HD.out.2.1
    rw [hJe] at hnm
    have HNM := Lib.hid hnm
    clear hnm hJe
    have q1 : ((k3 : Int) == (k3 : Int)) = true := by simp
    have q2 : (E.toList == E.toList) = true := beq_self_eq_true _
    go_wp2_with fail
    have hmix : Tryz.prog.follows .mixedOrders = true := by kernel_rfl
    obtain ⟨tvv, htv, hS0⟩ : ∃ tvv, wr.cell? ⟨x, 3, none⟩ = some tvv ∧ ∀ W' : World, W' = wr ∨ Below wr.heap.size wr W' → (fun W' : World => W'.cell? ⟨x, 0, none⟩ = some (.int .i64 3) ∧ W'.cell? ⟨x, 1, none⟩ = some (.int .i64 0) ∧ W'.cell? ⟨x, 2, none⟩ = some (.string E) ∧ W'.cell? ⟨x, 3, none⟩ = some tvv ∧ True) W' := ⟨_, x3, fun W' hW => by
     rcases hW with rfl | hW
     ·exact ⟨x0, x1, x2, x3, trivial⟩
     ·exact ⟨(hW.cell (p := ⟨x, 0, none⟩) hxl).trans x0, (hW.cell (p := ⟨x, 1, none⟩) hxl).trans x1, (hW.cell (p := ⟨x, 2, none⟩) hxl).trans x2, (hW.cell (p := ⟨x, 3, none⟩) hxl).trans x3, trivial⟩⟩
    have htve := Option.some.inj (htv.symm.trans x3)
    clear x0 x1 x2 x3 htv
    refine wp_region_held_drew (S := fun W' : World => W'.cell? ⟨x, 0, none⟩ = some (.int .i64 3) ∧ W'.cell? ⟨x, 1, none⟩ = some (.int .i64 0) ∧ W'.cell? ⟨x, 2, none⟩ = some (.string E) ∧ W'.cell? ⟨x, 3, none⟩ = some tvv ∧ True) hmix (hS0 _ (.inr (Below.drew (Below.refl _ _)))) (fun hHeld => ?_)
    refine wpAnyH_take (i := 0) (v := ?_) rfl (by kernel_rfl) (by kernel_rfl) (by kernel_rfl) (fun _ _ _ h => h) (Or.inl ⟨by rfl, ?_⟩) (by assumption) ?_
    rotate_left
    ·intro W' hSw; obtain ⟨c0, c1, c2, c3, _⟩ := hSw; (try go_simp); try with_reducible rfl
    try simp only [List.getElem_toArray, List.getElem_cons_succ, List.getElem_cons_zero, Act.put, List.setIfInBounds_toArray, List.set_cons_zero, List.set_cons_succ]
    refine wpAnyH_take (i := 1) (v := ?_) rfl (by kernel_rfl) (by kernel_rfl) (by kernel_rfl) (fun _ _ _ h => h) (Or.inl ⟨by rfl, ?_⟩) (by assumption) ?_
    rotate_left
    ·intro W' hSw; obtain ⟨c0, c1, c2, c3, _⟩ := hSw; (try go_simp); try with_reducible rfl
    try simp only [List.getElem_toArray, List.getElem_cons_succ, List.getElem_cons_zero, Act.put, List.setIfInBounds_toArray, List.set_cons_zero, List.set_cons_succ]
    refine wpAnyH_take (i := 2) (v := ?_) rfl (by kernel_rfl) (by kernel_rfl) (by kernel_rfl) (fun _ _ _ h => h) (Or.inl ⟨by rfl, ?_⟩) (by assumption) ?_
    rotate_left
    ·intro W' hSw; obtain ⟨c0, c1, c2, c3, _⟩ := hSw; (try go_simp); try with_reducible rfl
    try simp only [List.getElem_toArray, List.getElem_cons_succ, List.getElem_cons_zero, Act.put, List.setIfInBounds_toArray, List.set_cons_zero, List.set_cons_succ]
    refine wpAnyH_take (i := 3) (v := ?_) rfl (by kernel_rfl) (by kernel_rfl) (by kernel_rfl) (fun _ _ _ h => h) (Or.inl ⟨by rfl, ?_⟩) (by assumption) ?_
    rotate_left
    ·intro W' hSw; obtain ⟨c0, c1, c2, c3, _⟩ := hSw; (try go_simp); try with_reducible rfl
    try simp only [List.getElem_toArray, List.getElem_cons_succ, List.getElem_cons_zero, Act.put, List.setIfInBounds_toArray, List.set_cons_zero, List.set_cons_succ]
    refine wpAnyH_take (i := 4) (v := ?_) rfl (by kernel_rfl) (by kernel_rfl) (by kernel_rfl) (fun _ _ _ h => h) (Or.inl ⟨by rfl, ?_⟩) (by assumption) ?_
    rotate_left
    ·intro W' hSw; obtain ⟨c0, c1, c2, c3, _⟩ := hSw; (try go_simp); try with_reducible rfl
    try simp only [List.getElem_toArray, List.getElem_cons_succ, List.getElem_cons_zero, Act.put, List.setIfInBounds_toArray, List.set_cons_zero, List.set_cons_succ]
    refine wpAnyH_take (i := 5) (v := ?_) rfl (by kernel_rfl) (by kernel_rfl) (by kernel_rfl) (fun _ _ _ h => h) (Or.inl ⟨by rfl, ?_⟩) (by assumption) ?_
    rotate_left
    ·intro W' hSw; obtain ⟨c0, c1, c2, c3, _⟩ := hSw; (try go_simp); try with_reducible rfl
    try simp only [List.getElem_toArray, List.getElem_cons_succ, List.getElem_cons_zero, Act.put, List.setIfInBounds_toArray, List.set_cons_zero, List.set_cons_succ]
    refine wpAnyH_take (i := 6) (v := ?_) rfl (by kernel_rfl) (by kernel_rfl) (by kernel_rfl) (fun _ _ _ h => h) (Or.inl ⟨by rfl, ?_⟩) (by assumption) ?_
    rotate_left
    ·intro W' hSw; obtain ⟨c0, c1, c2, c3, _⟩ := hSw; (try go_simp); try with_reducible rfl
    try simp only [List.getElem_toArray, List.getElem_cons_succ, List.getElem_cons_zero, Act.put, List.setIfInBounds_toArray, List.set_cons_zero, List.set_cons_succ]
    refine wpAnyH_take (i := 7) (v := ?_) rfl (by kernel_rfl) (by kernel_rfl) (by kernel_rfl) (fun _ _ _ h => h) (Or.inl ⟨by rfl, ?_⟩) (by assumption) ?_
    rotate_left
    ·intro W' hSw; obtain ⟨c0, c1, c2, c3, _⟩ := hSw; (try go_simp); try with_reducible rfl
    try simp only [List.getElem_toArray, List.getElem_cons_succ, List.getElem_cons_zero, Act.put, List.setIfInBounds_toArray, List.set_cons_zero, List.set_cons_succ]
    refine wpAnyH_take (i := 8) (v := ?_) rfl (by kernel_rfl) (by kernel_rfl) (by kernel_rfl) (fun _ _ _ h => h) (Or.inl ⟨by rfl, ?_⟩) (by assumption) ?_
    rotate_left
    ·intro W' hSw; obtain ⟨c0, c1, c2, c3, _⟩ := hSw; (try go_simp); try with_reducible rfl
    try simp only [List.getElem_toArray, List.getElem_cons_succ, List.getElem_cons_zero, Act.put, List.setIfInBounds_toArray, List.set_cons_zero, List.set_cons_succ]
    refine wpAnyH_take (i := 9) (v := ?_) rfl (by kernel_rfl) (by kernel_rfl) (by kernel_rfl) (fun _ _ _ h => h) (Or.inl ⟨by rfl, ?_⟩) (by assumption) ?_
    rotate_left
    ·intro W' hSw; obtain ⟨c0, c1, c2, c3, _⟩ := hSw; (try go_simp); try with_reducible rfl
    try simp only [List.getElem_toArray, List.getElem_cons_succ, List.getElem_cons_zero, Act.put, List.setIfInBounds_toArray, List.set_cons_zero, List.set_cons_succ]
    refine wpAnyH_take (i := 10) (v := ?_) rfl (by kernel_rfl) (by kernel_rfl) (by kernel_rfl) (fun _ _ _ h => h) (Or.inl ⟨by rfl, ?_⟩) (by assumption) ?_
    rotate_left
    ·intro W' hSw; obtain ⟨c0, c1, c2, c3, _⟩ := hSw; (try go_simp); try with_reducible rfl
    try simp only [List.getElem_toArray, List.getElem_cons_succ, List.getElem_cons_zero, Act.put, List.setIfInBounds_toArray, List.set_cons_zero, List.set_cons_succ]
    refine wpAnyH_take (i := 11) (v := ?_) rfl (by kernel_rfl) (by kernel_rfl) (by kernel_rfl) (fun _ _ _ h => h) (Or.inl ⟨by rfl, ?_⟩) (by assumption) ?_
    rotate_left
    ·intro W' hSw; obtain ⟨c0, c1, c2, c3, _⟩ := hSw; (try go_simp); try with_reducible rfl
    try simp only [List.getElem_toArray, List.getElem_cons_succ, List.getElem_cons_zero, Act.put, List.setIfInBounds_toArray, List.set_cons_zero, List.set_cons_succ]
    refine wpAnyH_take (i := 12) (v := ?_) rfl (by kernel_rfl) (by kernel_rfl) (by kernel_rfl) (fun _ _ _ h => h) (Or.inl ⟨by rfl, ?_⟩) (by assumption) ?_
    rotate_left
    ·intro W' hSw; obtain ⟨c0, c1, c2, c3, _⟩ := hSw; (try go_simp); try with_reducible rfl
    try simp only [List.getElem_toArray, List.getElem_cons_succ, List.getElem_cons_zero, Act.put, List.setIfInBounds_toArray, List.set_cons_zero, List.set_cons_succ]
    refine wpAnyH_take (i := 13) (v := ?_) rfl (by kernel_rfl) (by kernel_rfl) (by kernel_rfl) (fun _ _ _ h => h) (Or.inl ⟨by rfl, ?_⟩) (by assumption) ?_
    rotate_left
    ·intro W' hSw; obtain ⟨c0, c1, c2, c3, _⟩ := hSw; (try go_simp); try with_reducible rfl
    try simp only [List.getElem_toArray, List.getElem_cons_succ, List.getElem_cons_zero, Act.put, List.setIfInBounds_toArray, List.set_cons_zero, List.set_cons_succ]
    refine wpAnyH_take (i := 14) (v := ?_) rfl (by kernel_rfl) (by kernel_rfl) (by kernel_rfl) (fun _ _ _ h => h) (Or.inl ⟨by rfl, ?_⟩) (by assumption) ?_
    rotate_left
    ·intro W' hSw; obtain ⟨c0, c1, c2, c3, _⟩ := hSw; (try go_simp); try with_reducible rfl
    try simp only [List.getElem_toArray, List.getElem_cons_succ, List.getElem_cons_zero, Act.put, List.setIfInBounds_toArray, List.set_cons_zero, List.set_cons_succ]
    refine wpAnyH_take (i := 15) (v := ?_) rfl (by kernel_rfl) (by kernel_rfl) (by kernel_rfl) (fun _ _ _ h => h) (Or.inl ⟨by rfl, ?_⟩) (by assumption) ?_
    rotate_left
    ·intro W' hSw; obtain ⟨c0, c1, c2, c3, _⟩ := hSw; (try go_simp); try with_reducible rfl
    try simp only [List.getElem_toArray, List.getElem_cons_succ, List.getElem_cons_zero, Act.put, List.setIfInBounds_toArray, List.set_cons_zero, List.set_cons_succ]
    refine wpAnyH_take (i := 16) (v := ?_) rfl (by kernel_rfl) (by kernel_rfl) (by kernel_rfl) (fun _ _ _ h => h) (Or.inl ⟨by rfl, ?_⟩) (by assumption) ?_
    rotate_left
    ·intro W' hSw; obtain ⟨c0, c1, c2, c3, _⟩ := hSw; (try go_simp); try with_reducible rfl
    try simp only [List.getElem_toArray, List.getElem_cons_succ, List.getElem_cons_zero, Act.put, List.setIfInBounds_toArray, List.set_cons_zero, List.set_cons_succ]
    refine wpAnyH_take (i := 17) (v := ?_) rfl (by kernel_rfl) (by kernel_rfl) (by kernel_rfl) (fun _ _ _ h => h) (Or.inl ⟨by rfl, ?_⟩) (by assumption) ?_
    rotate_left
    ·intro W' hSw; obtain ⟨c0, c1, c2, c3, _⟩ := hSw; (try go_simp); try with_reducible rfl
    try simp only [List.getElem_toArray, List.getElem_cons_succ, List.getElem_cons_zero, Act.put, List.setIfInBounds_toArray, List.set_cons_zero, List.set_cons_succ]
    refine wpAnyH_take (i := 18) (v := ?_) rfl (by kernel_rfl) (by kernel_rfl) (by kernel_rfl) (fun _ _ _ h => h) (Or.inl ⟨by rfl, ?_⟩) (by assumption) ?_
    rotate_left
    ·intro W' hSw; obtain ⟨c0, c1, c2, c3, _⟩ := hSw; (try go_simp); try with_reducible rfl
    try simp only [List.getElem_toArray, List.getElem_cons_succ, List.getElem_cons_zero, Act.put, List.setIfInBounds_toArray, List.set_cons_zero, List.set_cons_succ]
    refine wpAnyH_take (i := 19) (v := ?_) rfl (by kernel_rfl) (by kernel_rfl) (by kernel_rfl) (fun _ _ _ h => h) (Or.inl ⟨by rfl, ?_⟩) (by assumption) ?_
    rotate_left
    ·intro W' hSw; obtain ⟨c0, c1, c2, c3, _⟩ := hSw; (try go_simp); try with_reducible rfl
    try simp only [List.getElem_toArray, List.getElem_cons_succ, List.getElem_cons_zero, Act.put, List.setIfInBounds_toArray, List.set_cons_zero, List.set_cons_succ]
    refine wpAnyH_take (i := 20) (v := ?_) rfl (by kernel_rfl) (by kernel_rfl) (by kernel_rfl) (fun _ _ _ h => h) (Or.inl ⟨by rfl, ?_⟩) (by assumption) ?_
    rotate_left
    ·intro W' hSw; obtain ⟨c0, c1, c2, c3, _⟩ := hSw; (try go_simp); try with_reducible rfl
    try simp only [List.getElem_toArray, List.getElem_cons_succ, List.getElem_cons_zero, Act.put, List.setIfInBounds_toArray, List.set_cons_zero, List.set_cons_succ]
    refine wpAnyH_take (i := 21) (v := ?_) rfl (by kernel_rfl) (by kernel_rfl) (by kernel_rfl) (fun _ _ _ h => h) (Or.inl ⟨by rfl, ?_⟩) (by assumption) ?_
    rotate_left
    ·intro W' hSw; obtain ⟨c0, c1, c2, c3, _⟩ := hSw; (try go_simp); try with_reducible rfl
    try simp only [List.getElem_toArray, List.getElem_cons_succ, List.getElem_cons_zero, Act.put, List.setIfInBounds_toArray, List.set_cons_zero, List.set_cons_succ]
    refine wpAnyH_take (i := 22) (v := ?_) rfl (by kernel_rfl) (by kernel_rfl) (by kernel_rfl) (fun _ _ _ h => h) (Or.inl ⟨by rfl, ?_⟩) (by assumption) ?_
    rotate_left
    ·intro W' hSw; obtain ⟨c0, c1, c2, c3, _⟩ := hSw; (try go_simp); try with_reducible rfl
    try simp only [List.getElem_toArray, List.getElem_cons_succ, List.getElem_cons_zero, Act.put, List.setIfInBounds_toArray, List.set_cons_zero, List.set_cons_succ]
    refine wpAnyH_take (i := 23) (v := ?_) rfl (by kernel_rfl) (by kernel_rfl) (by kernel_rfl) (fun _ _ _ h => h) (Or.inl ⟨by rfl, ?_⟩) (by assumption) ?_
    rotate_left
    ·intro W' hSw; obtain ⟨c0, c1, c2, c3, _⟩ := hSw; (try go_simp); try with_reducible rfl
    try simp only [List.getElem_toArray, List.getElem_cons_succ, List.getElem_cons_zero, Act.put, List.setIfInBounds_toArray, List.set_cons_zero, List.set_cons_succ]
    refine wpAnyH_take (i := 24) (v := ?_) rfl (by kernel_rfl) (by kernel_rfl) (by kernel_rfl) (fun _ _ _ h => h) (Or.inl ⟨by rfl, ?_⟩) (by assumption) ?_
    rotate_left
    ·intro W' hSw; obtain ⟨c0, c1, c2, c3, _⟩ := hSw; (try go_simp); try with_reducible rfl
    try simp only [List.getElem_toArray, List.getElem_cons_succ, List.getElem_cons_zero, Act.put, List.setIfInBounds_toArray, List.set_cons_zero, List.set_cons_succ]
    refine wpAnyH_take (i := 25) (v := ?_) rfl (by kernel_rfl) (by kernel_rfl) (by kernel_rfl) (fun _ _ _ h => h) (Or.inl ⟨by rfl, ?_⟩) (by assumption) ?_
    rotate_left
    ·intro W' hSw; obtain ⟨c0, c1, c2, c3, _⟩ := hSw; (try go_simp); try with_reducible rfl
    try simp only [List.getElem_toArray, List.getElem_cons_succ, List.getElem_cons_zero, Act.put, List.setIfInBounds_toArray, List.set_cons_zero, List.set_cons_succ]
    refine wpAnyH_take (i := 26) (v := ?_) rfl (by kernel_rfl) (by kernel_rfl) (by kernel_rfl) (fun _ _ _ h => h) (Or.inl ⟨by rfl, ?_⟩) (by assumption) ?_
    rotate_left
    ·intro W' hSw; obtain ⟨c0, c1, c2, c3, _⟩ := hSw; (try go_simp); try with_reducible rfl
    try simp only [List.getElem_toArray, List.getElem_cons_succ, List.getElem_cons_zero, Act.put, List.setIfInBounds_toArray, List.set_cons_zero, List.set_cons_succ]
    refine wpAnyH_take (i := 27) (v := ?_) rfl (by kernel_rfl) (by kernel_rfl) (by kernel_rfl) (fun _ _ _ h => h) (Or.inl ⟨by rfl, ?_⟩) (by assumption) ?_
    rotate_left
    ·intro W' hSw; obtain ⟨c0, c1, c2, c3, _⟩ := hSw; (try go_simp); try with_reducible rfl
    try simp only [List.getElem_toArray, List.getElem_cons_succ, List.getElem_cons_zero, Act.put, List.setIfInBounds_toArray, List.set_cons_zero, List.set_cons_succ]
    refine wpAnyH_take (i := 28) (v := ?_) rfl (by kernel_rfl) (by kernel_rfl) (by kernel_rfl) (fun _ _ _ h => h) (Or.inl ⟨by rfl, ?_⟩) (by assumption) ?_
    rotate_left
    ·intro W' hSw; obtain ⟨c0, c1, c2, c3, _⟩ := hSw; (try go_simp); try with_reducible rfl
    try simp only [List.getElem_toArray, List.getElem_cons_succ, List.getElem_cons_zero, Act.put, List.setIfInBounds_toArray, List.set_cons_zero, List.set_cons_succ]
    subst htve
    refine wpAnyH_ready (rs := [29]) (by kernel_rfl) (by simp) ?_
    refine AllReadyH.cons rfl (fun K hK => ?_) AllReadyH.nil
    go_simp
    go_wp2_with (go_at_call 25; go_loud (refine (hJ' _ (by first | exact Below.refl _ _ | exact (Below.refl _ _).drew)).mono ?_; rintro e w7 ⟨a7, c7, rfl, hx7, b7⟩))
    obtain ⟨N, hN⟩ := hx7.trd
    have hRl := lreal_any N J a7 c7 w7 hN hsz.out
    have b7' := Below.trans (by first | exact Below.refl _ _ | exact (Below.refl _ _).drew : Below wr.heap.size wr _) b7
    have T7 := Lib.hid (tro_up b7' T9'.out)
    have B7 := Lib.hid (B9.out.trans (b7'.mono B9.out.size))
    refine hK.out _ _ (hS0 _ (.inr b7')) (fun hHeld2 => ?_)
    clear hK K hHeld
    try simp only [List.getElem_toArray, List.getElem_cons_succ, List.getElem_cons_zero, Act.put, List.setIfInBounds_toArray, List.set_cons_zero, List.set_cons_succ]
    refine wpAnyH_ready (rs := [30]) (by kernel_rfl) (by simp) ?_
    refine AllReadyH.cons rfl (fun K hK => ?_) AllReadyH.nil
    go_simp
    go_wp2_with (go_at_call 24; go_loud (refine hRl.mono ?_; rintro e w8 ⟨T, v, rfl, hd8, b8⟩))
    have hS := psame_any D (canon J) _ (.iface T v) w8 (tro_up b8 T7.out) (NdX.keep (F := fun b => w7.heap.size ≤ b) (Nat.le_refl _) (fun b _ hl => ⟨hl, fun _ => rfl⟩) ⟨_, hd8⟩) HD.out.2.2
    rw [HNM.out] at hS
    have b8' := b7'.trans (b8.mono b7'.size)
    have B8 := Lib.hid (B9.out.trans (b8'.mono B9.out.size))
    refine hK.out _ _ (hS0 _ (.inr b8')) (fun hHeld3 => ?_)
    clear hK K hHeld2 hRl
    try simp only [List.getElem_toArray, List.getElem_cons_succ, List.getElem_cons_zero, Act.put, List.setIfInBounds_toArray, List.set_cons_zero, List.set_cons_succ]
    refine wpAnyH_ready (rs := [31]) (by kernel_rfl) (by simp) ?_
    refine AllReadyH.cons rfl (fun K hK => ?_) AllReadyH.nil
    go_simp
    go_wp2_with (go_at_call 23; go_loud (refine hS.mono ?_; rintro e w9 ⟨rfl, b9⟩))
    refine hK.out _ _ (hS0 _ (.inr (b8'.trans (b9.mono b8'.size)))) (fun hHeld4 => ?_)
    clear hK K hHeld3 hS
    try simp only [List.getElem_toArray, List.getElem_cons_succ, List.getElem_cons_zero, Act.put, List.setIfInBounds_toArray, List.set_cons_zero, List.set_cons_succ]
    refine wpAnyH_take (i := 32) (v := ?_) rfl (by kernel_rfl) (by kernel_rfl) (by kernel_rfl) (fun _ _ _ h => h) (Or.inl ⟨by rfl, ?_⟩) (by assumption) ?_
    rotate_left
    ·intro W' hSw; obtain ⟨c0, c1, c2, c3, _⟩ := hSw; (try go_simp); try with_reducible rfl
    try simp only [List.getElem_toArray, List.getElem_cons_succ, List.getElem_cons_zero, Act.put, List.setIfInBounds_toArray, List.set_cons_zero, List.set_cons_succ]
    refine wpAnyH_take (i := 33) (v := ?_) rfl (by kernel_rfl) (by kernel_rfl) (by kernel_rfl) (fun _ _ _ h => h) (Or.inl ⟨by rfl, ?_⟩) (by assumption) ?_
    rotate_left
    ·intro W' hSw; obtain ⟨c0, c1, c2, c3, _⟩ := hSw; (try go_simp); try with_reducible rfl
    try simp only [List.getElem_toArray, List.getElem_cons_succ, List.getElem_cons_zero, Act.put, List.setIfInBounds_toArray, List.set_cons_zero, List.set_cons_succ]
    refine wpAnyH_done (by kernel_rfl) ?_ _
    go_wp2_with fail
    go_ret
    exact ⟨rfl, B8.out.trans (b9.mono B8.out.size)⟩
end Go.Proofs.YtmpihhhjkkokfaaGreatDoor
namespace Go.Proofs.YtmpihhhjkkokfaaGreatDoor
open Go.ChangeShapes Go.WideShapes Go.ChangeAt Go.RowKit
theorem gTab : Tryz.prog.globalNamed "math/bits.deBruijn64tab" = some 5 := by kernel_rfl
theorem gTabType : (Tryz.prog.globals[5]?).map (·.type) = some 280 := by kernel_rfl
theorem cellsTab : Tryz.prog.cellsOf 280 = 64 := by kernel_rfl
theorem cellsU8 : Tryz.prog.cellsOf 5 = 1 := by kernel_rfl
theorem gOpn : Tryz.prog.globalNamed "placket/bracket.openers" = some 4 := by kernel_rfl
theorem gOpnType : (Tryz.prog.globals[4]?).map (·.type) = some 272 := by kernel_rfl
theorem cellsOpn : Tryz.prog.cellsOf 272 = 3 := by kernel_rfl
theorem gAhd : Tryz.prog.globalNamed "placket/piece.ahead" = some 0 := by kernel_rfl
theorem gAhdType : (Tryz.prog.globals[0]?).map (·.type) = some 207 := by kernel_rfl
theorem cellsAhd : Tryz.prog.cellsOf 207 = 2 := by kernel_rfl
theorem block_of_cell {W : World} (b : Nat) (v : Value) (hv : W.cell? ⟨b, 0, none⟩ = some v) : b < W.heap.size := by
 cases hh : W.heap[b]? with
 | none => simp [World.cell?, hh] at hv
 | some o => exact (Array.getElem?_eq_some_iff.1 hh).1
theorem g12_of {W : World} (h : laidMetH Tryz.prog [("math/bits.deBruijn64tab", Rows.laid_math_bits_deBruijn64tab), ("unicode/utf8.acceptRanges", Rows.laid_unicode_utf8_acceptRanges), ("placket/bracket.openers", Rows.laid_placket_bracket_openers), ("placket/piece.ahead", Rows.laid_placket_piece_ahead), ("unicode/utf8.first", Rows.laid_unicode_utf8_first)] W) (hsh : W.ShapedOpen Tryz.prog) : Gl W ∧ GP W := by
 have h0 : laidMet Tryz.prog [("math/bits.deBruijn64tab", Rows.laid_math_bits_deBruijn64tab), ("unicode/utf8.acceptRanges", Rows.laid_unicode_utf8_acceptRanges), ("placket/bracket.openers", Rows.laid_placket_bracket_openers), ("placket/piece.ahead", Rows.laid_placket_piece_ahead), ("unicode/utf8.first", Rows.laid_unicode_utf8_first)] W := h
 have h2 := laidMet.tail (laidMet.tail h0)
 have hT : Lib.TabIs Tryz.prog W "math/bits.deBruijn64tab" .u8 (Lib.deBruijn64tab.map Int.ofNat) :=
  Lib.tabIs_of_head gTab gTabType Tryz.underlying280 Tryz.underlying5 cellsU8 cellsTab h0
 have hO : Lib.TabIs Tryz.prog W "placket/bracket.openers" .u8 [58, 61, 46] :=
  Lib.tabIs_of_head gOpn gOpnType Tryz.underlying272 Tryz.underlying5 cellsU8 cellsOpn h2
 have hH : Lib.TabIs Tryz.prog W "placket/piece.ahead" .u8 [94, 93] :=
  Lib.tabIs_of_head gAhd gAhdType Tryz.underlying207 Tryz.underlying5 cellsU8 cellsAhd (laidMet.tail h2)
 obtain ⟨m, hm⟩ : ∃ m, W.cell? ⟨3, 0, none⟩ = some (.int .i64 m) :=
  cell_of_shapedOpen_int (t := 3) (zero := #[.int .i64 0]) hsh (of_decide_eq_true (by kernel_rfl)) (by kernel_rfl) rfl (by kernel_rfl) (by kernel_rfl) Tryz.underlying3
 refine ⟨⟨fun j hj => ?_, hO.cell gOpn 0 (by decide), hO.cell gOpn 1 (by decide), hO.cell gOpn 2 (by decide), ⟨m, hm⟩, ?_⟩, hH.cell gAhd 0 (by decide), hH.cell gAhd 1 (by decide), block_of_cell _ _ (hH.cell gAhd 0 (by decide))⟩
 ·rw [hT.cell gTab j (by rw [List.length_map]; exact hj)]
  simp only [List.getD, List.getElem?_map]
  rw [List.getElem?_eq_getElem hj]
  rfl
 ·exact Nat.max_lt.2 ⟨Nat.max_lt.2 ⟨block_of_cell _ _ (hT.cell gTab 0 (by decide)), block_of_cell _ _ (hO.cell gOpn 0 (by decide))⟩, block_of_cell _ _ hm⟩
def layCells (cs : Array Value) : Obj → Obj
 | .cells _ t frozen => .cells cs t frozen
 | o => o
noncomputable def laidWorld (os : Os) : World :=
 { World.holding Tryz.prog os ⟨#[], #[], []⟩ with heap := (((((World.holding Tryz.prog os ⟨#[], #[], []⟩).heap.modify 5 (layCells (Lib.deBruijn64tab.map fun n => Value.int .u8 (Int.ofNat n)).toArray)).modify 4 (layCells #[.int .u8 58, .int .u8 61, .int .u8 46])).modify 0 (layCells #[.int .u8 94, .int .u8 93])).modify 2 (layCells (([128, 191, 160, 191, 128, 159, 144, 191, 128, 143, 0, 0, 0, 0, 0, 0, 0, 0, 0, 0, 0, 0, 0, 0, 0, 0, 0, 0, 0, 0, 0, 0] : List Nat).map fun n => Value.int .u8 (Int.ofNat n)).toArray)).modify 1 (layCells (Go.Pinned.utf8FirstZ.map fun n => Value.int .u8 (Int.ofNat n)).toArray) }
end Go.Proofs.YtmpihhhjkkokfaaGreatDoor
