/- The proof's texts CmTb, CmLt, CmLb, AdGlob: what the claim reaches of them. -/
import Derived.Test.YtbgfankoojjejaaGreatDoorTb37
import Derived.Test.YtbgfankoojjejaaGreatDoorTb34
import Derived.Test.YtbgfankoojjejaaGreatDoorTb31
import Derived.Laws.BytesArg
import Derived.OpenShut
import Derived.Deep.DeepCutAuto
import Derived.Test.YtbgfankoojjejaaGreatDoorTb35
import Derived.Test.YtbgfankoojjejaaGreatDoorTb26
import Derived.Test.YtbgfankoojjejaaGreatDoorTb08
import Derived.Test.YtbgfankoojjejaaGreatDoorCards
import Derived.Test.YtbgfankoojjejaaGreatDoorTie
import Derived.ShutString
import Derived.Deep.DeepHandedRow
import Derived.Lib.LaidTab
import Derived.Stop.LaidErr
import Derived.Shelf.Vars
namespace Go.Proofs.YtbgfankoojjejaaGreatDoor
set_option linter.unusedVariables false
theorem toldK_snoc (k : UInt8 → Bool) (l : List UInt8) (b : UInt8) : toldK k (l ++ [b]) = toldK k l ++ told1 k b := by simp [toldK]
theorem told1_len (k : UInt8 → Bool) (b : UInt8) : (told1 k b).length ≤ 2 := by
 unfold told1
 split
 ·exact Nat.le_refl _
 ·split
  ·exact Nat.le_refl _
  ·exact Nat.le_succ _
theorem toldK_len (k : UInt8 → Bool) : ∀ l : List UInt8, (toldK k l).length ≤ 2 * l.length
 | [] => Nat.le_refl _
 | b :: l => by
  have h1 := told1_len k b
  have h2 := toldK_len k l
  rw [toldK_cons, List.length_append, List.length_cons]
  omega
def yText (fr tl : List UInt8) : List UInt8 := 121 :: 47 :: (toldK kY fr ++ 47 :: (toldK kY tl ++ [47]))
theorem takes_is {ext : Bool} {L : List UInt8} {st : CS} {b : UInt8} (hb : st.c.name = b) : cmTakes ext L st = if b = 123 ∨ b = 125 then (0, st) else if b = 58 then cmLabel L st else if b = 98 ∨ b = 116 ∨ b = 84 then cmPer L st else if b = 97 ∨ b = 105 ∨ b = 99 then cmText L st else if b = 114 ∨ b = 119 then cmFileA L st else if b = 115 then cmSub ext L st else if b = 121 then cmTbl L st else cmEnd L st := by
 subst hb
 rfl
theorem then_zero (s : CS) (f : CS → CO) : CO.then (0, s) f = f s := rfl
theorem end_at {L : List UInt8} {st : CS} (h : L.length ≤ st.k) : cmEnd L st = (0, st.go st.k) := by
 unfold cmEnd
 have hd : L.drop st.k = [] := List.drop_eq_nil_of_le h
 have hb : pcBlk L st.k = st.k := by unfold pcBlk; rw [hd]; rfl
 rw [hb, hd]
theorem yText_len (fr tl : List UInt8) : (yText fr tl).length = (toldK kY fr).length + (toldK kY tl).length + 4 := by
 unfold yText
 simp only [List.length_cons, List.length_append, List.length_nil]
 omega
theorem y_math (fr tl : List UInt8) :
  cmM false (yText fr tl) 0 = if (tbOf (some fr) (some tl)).2 = 0
   then .ok (⟨0, gdNone, 121, [], sb0, (tbOf (some fr) (some tl)).1⟩, [], (yText fr tl).length)
   else .error ((tbOf (some fr) (some tl)).2, 2 + (toldK kY fr).length + 1) := by
 have hlen := yText_len fr tl
 obtain ⟨L, hL⟩ : ∃ L, yText fr tl = L := ⟨_, rfl⟩
 have h0 : L.drop 0 = 121 :: 47 :: (toldK kY fr ++ 47 :: (toldK kY tl ++ [47])) := by rw [← hL]; rfl
 have h1 : L.drop 1 = 47 :: (toldK kY fr ++ 47 :: (toldK kY tl ++ [47])) := by rw [← hL]; rfl
 have h2 : L.drop 2 = toldK kY fr ++ 47 :: (toldK kY tl ++ [47]) := by rw [← hL]; rfl
 have h3 : L.drop (2 + (toldK kY fr).length + 1) = toldK kY tl ++ 47 :: [] := by
  have h := drop_more (toldK kY fr) h2
  rw [← List.drop_drop, h]
  rfl
 rw [hL] at hlen ⊢
 have e1 := between_told kY rfl rfl (L := L) (t := toldK kY tl ++ [47]) fr 2 (by omega) h2
 have e2 := between_told kY rfl rfl (L := L) (t := []) tl (2 + (toldK kY fr).length + 1) (by omega) h3
 unfold cmM
 rw [gd_plain (b := 121) rfl false h0]
 show cmAns (cmWhole false L (cmNew gdNone [] 0)) = _
 have hn : cmName L (cmNew gdNone [] 0) = (0, (cmNew gdNone [] 0).name 121) := by
  unfold cmName
  rw [show (cmNew gdNone [] 0).k = 0 from rfl, h0]
  rfl
 unfold cmWhole
 rw [hn, then_zero, takes_is (b := 121) rfl, if_neg (by decide), if_neg (by decide), if_neg (by decide), if_neg (by decide), if_neg (by decide), if_neg (by decide), if_pos rfl]
 have hdl : cmDel L ((cmNew gdNone [] 0).name 121) = (47, 0, ((cmNew gdNone [] 0).name 121).go 2) := by
  unfold cmDel
  rw [show ((cmNew gdNone [] 0).name 121).k = 1 from rfl, h1]
  rfl
 unfold cmTbl
 rw [hdl, then_zero, show ((((cmNew gdNone [] 0).name 121).go 2).k : Int) = ((2 : Nat) : Int) from rfl]
 show cmAns (cmTblA L 47 (((cmNew gdNone [] 0).name 121).go 2) (pcBetween L ((2 : Nat) : Int) 47 false)) = _
 rw [e1]
 unfold cmTblA
 simp only
 rw [if_pos trivial, e2]
 unfold cmTblB
 simp only
 rw [if_pos trivial]
 have hc : cmTab (btwK kY fr) (btwK kY tl) = tbOf (some fr) (some tl) := by
  unfold cmTab
  rw [list_btw, list_btw]
  rfl
 rw [hc]
 generalize tbOf (some fr) (some tl) = q
 by_cases hq : q.2 = 0
 ·rw [if_pos hq, if_pos hq, end_at (by show L.length ≤ 2 + (toldK kY fr).length + 1 + (toldK kY tl).length + 1; omega)]
  rw [show L.length = 2 + (toldK kY fr).length + 1 + (toldK kY tl).length + 1 by omega]
  rfl
 ·rw [if_neg hq, if_neg hq]
  unfold cmAns
  rw [if_neg hq]
  rfl
end Go.Proofs.YtbgfankoojjejaaGreatDoor
namespace Go.Proofs.YtbgfankoojjejaaGreatDoor
open Go Go.RowKit
def BRow (w : World) (a : Option Addr) (l : List UInt8) : Prop := ∀ i (h : i < l.length), ∃ b o, a = some ⟨b, o, none⟩ ∧ b < w.heap.size ∧ w.cell? ⟨b, o + i, none⟩ = some (.int .u8 (l[i].toNat : Int))
theorem BRow.below {w w' : World} {a : Option Addr} {l : List UInt8} (h : BRow w a l) (hb : Below w.heap.size w w') : BRow w' a l := fun i hi => by
 obtain ⟨b, o, ha, hl, hc⟩ := h i hi
 exact ⟨b, o, ha, Nat.lt_of_lt_of_le hl hb.size, (hb.cell (p := ⟨b, o + i, none⟩) hl).trans hc⟩
theorem kconv1 (W : World) (x : Int) : (convert 22 9 (.slice (some ⟨W.heap.size, 0, none⟩) 1 1)).run Tryz.prog (W.alloc (.cells #[.int .u8 x] 5)) = .ok (.string (strOfNums [x])) (W.alloc (.cells #[.int .u8 x] 5)) :=
 run_convert_bytes_arg _ 22 5 Tryz.underlying22 Tryz.underlying5 _ 0 1 1 [x] rfl (fun i hi => by
  rw [(Blk.new W _ _ _ rfl).cell]
  match i, hi with
  | 0, _ => rfl) _ Tryz.underlying9
theorem knums1 (d : UInt8) : strOfNums [(d.toNat : Int)] = ⟨#[d]⟩ := by
 rw [show strOfNums [(d.toNat : Int)] = ⟨#[UInt8.ofNat d.toNat]⟩ from rfl]
 simp
set_option linter.unusedVariables false in
set_option linter.unusedSimpArgs false in
set_option maxRecDepth 100000 in
set_option maxHeartbeats 4000000 in
theorem told_any (a : Option Addr) (cap : Nat) (l : List UInt8) (w : World) (hr : BRow w a l) (hl : l.length ≤ 100) :
  Calls Tryz.prog 8 #[.slice a l.length cap] w fun e w' => e = .returned (.string (txt (toldK kY l))) ∧ Below w.heap.size w w' := by
 have HR := Lib.hid hr
 clear hr
 go_enter Tryz.func8, Tryz.ntmps8
 go_wp2_with fail
 go_loopw [3, 8] (fun t i wr => ∃ j : Nat, j ≤ l.length ∧ t = .string (txt (toldK kY (l.take j))) ∧ i = .int .i64 j ∧ Below w.heap.size w wr) (fun _ i _ => l.length - (intOf i).toNat)
 case atStart => exact ⟨0, by omega, rfl, rfl, Below.refl _ _⟩
 case round =>
  obtain ⟨j, hj, rfl, rfl, hb⟩ := hrel
  have HB := Lib.hid hb
  have hts : (txt (toldK kY (l.take j))).size ≤ 200 := by
   rw [txt_size]
   have := toldK_len kY (l.take j)
   rw [List.length_take] at this
   omega
  clear hb
  by_cases hlt : j < l.length
  ·have hji : (j : Int) < (l.length : Int) := by omega
   have hy0 : (0 : Int) ≤ (j : Int) := by omega
   have Wj : IntKind.i64.wrap ((j : Int) + 1) = (j : Int) + 1 := IntWalk.i64_in _ (by omega)
   obtain ⟨b, o, rfl, _, hc⟩ := (HR.out.below HB.out) j hlt
   have hst : txt (toldK kY (l.take j)) ++ txt (told1 kY l[j]) = txt (toldK kY (l.take (j + 1))) := by
    rw [txt_append, ← toldK_snoc, List.take_succ_eq_append_getElem hlt]
   obtain ⟨x, hx⟩ : ∃ x, l[j] = x := ⟨_, rfl⟩
   rw [hx] at hc hst
   clear hx
   obtain ⟨E, hE⟩ : ∃ E, txt (toldK kY (l.take (j + 1))) = E := ⟨_, rfl⟩
   rw [hE] at hst
   obtain ⟨D, hD⟩ : ∃ D, txt (toldK kY (l.take j)) = D := ⟨_, rfl⟩
   rw [hD] at hts hst ⊢
   have HE := Lib.hid hE
   clear hE hD
   by_cases h10 : x = 10
   ·have q10 : ((x.toNat : Int) == 10) = true := by rw [h10]; rfl
    have HS := Lib.hid (show D ++ ⟨#[92, 110]⟩ = E by rw [← hst, h10]; rfl)
    clear hst h10
    go_wp2_with fail
    go_roundw
    case rel => exact ⟨j + 1, by omega, by rw [HE.out, ← HS.out], by go_num, HB.out⟩
    case measure => simp [intOf]; omega
   ·have q10 : ((x.toNat : Int) == 10) = false := cmu_ne (c := 10) h10
    have hcv := kconv1 wr (x.toNat : Int)
    rw [knums1] at hcv
    have HA := Lib.hid (HB.out.alloc HB.out.size (.cells #[.int .u8 (x.toNat : Int)] 5))
    by_cases hk : kY x = true
    ·have HS := Lib.hid (show D ++ (⟨#[92]⟩ ++ ⟨#[x]⟩) = E by rw [← hst]; unfold told1; rw [if_neg h10, if_pos hk]; rfl)
     have h2 : x = 92 ∨ x = 47 := by simpa [kY] using hk
     clear hst h10
     rcases h2 with h2 | h2
     ·have q92 : ((x.toNat : Int) == 92) = true := by rw [h2]; rfl
      clear h2 hk
      go_wp2_with fail
      go_roundw
      case rel => exact ⟨j + 1, by omega, by rw [HE.out, ← HS.out], by go_num, HA.out⟩
      case measure => simp [intOf]; omega
     ·have q92 : ((x.toNat : Int) == 92) = false := by rw [h2]; rfl
      have q47 : ((x.toNat : Int) == 47) = true := by rw [h2]; rfl
      clear h2 hk
      go_wp2_with fail
      go_roundw
      case rel => exact ⟨j + 1, by omega, by rw [HE.out, ← HS.out], by go_num, HA.out⟩
      case measure => simp [intOf]; omega
    ·have HS := Lib.hid (show D ++ ⟨#[x]⟩ = E by rw [← hst]; unfold told1; rw [if_neg h10, if_neg hk]; rfl)
     have q92 : ((x.toNat : Int) == 92) = false := cmu_ne (c := 92) fun e => hk (by rw [e]; rfl)
     have q47 : ((x.toNat : Int) == 47) = false := cmu_ne (c := 47) fun e => hk (by rw [e]; rfl)
     clear hst h10 hk
     go_wp2_with fail
     go_roundw
     case rel => exact ⟨j + 1, by omega, by rw [HE.out, ← HS.out], by go_num, HA.out⟩
     case measure => simp [intOf]; omega
  ·obtain rfl : j = l.length := by omega
   rw [List.take_of_length_le (Nat.le_refl _)]
   clear hts
   go_wp2_with fail
   go_ret
   exact ⟨rfl, HB.out⟩
end Go.Proofs.YtbgfankoojjejaaGreatDoor
namespace Go.Proofs.YtbgfankoojjejaaGreatDoor
open Go Go.RowKit
theorem isrow_b {w : World} {a : Option Addr} {len cap : Nat} {zs : List Int} (h : IsRow .u8 w a len cap zs) : ∃ l : List UInt8, l.length = len ∧ BRow w a l ∧ l.length ≤ cap := by
 by_cases h0 : len = 0
 ·refine ⟨[], h0.symm, fun i hi => absurd hi (Nat.not_lt_zero _), Nat.zero_le _⟩
 ·rcases h with ⟨_, h2, _, _⟩ | ⟨ad, rfl, hlc, _, hzl, hc, hwf⟩
  ·exact absurd h2 h0
  ·obtain ⟨b, o, rfl, hc2⟩ := ints_at hc (by omega)
   have hb := World.block_lt_of_cell? w _ (hc2 0 (by omega))
   have hll : ((zs.take len).map fun z => UInt8.ofNat z.toNat).length = len := by rw [List.length_map, List.length_take]; omega
   refine ⟨(zs.take len).map fun z => UInt8.ofNat z.toNat, hll, fun i hi => ⟨b, o, rfl, hb, ?_⟩, by omega⟩
   have hi2 : i < len := by omega
   have hr := range_u8 hwf i
   rw [hc2 i (by omega), List.getElem_map, List.getElem_take]
   simp only [List.getD]
   rw [List.getElem?_eq_getElem (by omega)] at hr ⊢
   simp only [Option.getD_some] at hr ⊢
   rw [UInt8.toNat_ofNat']
   congr 2
   omega
theorem tbAll_at (x : UInt8) : tbAll[x.toNat]? = some x := by
 unfold tbAll
 rw [List.getElem?_map, List.getElem?_range x.toNat_lt]
 simp
theorem tbAll_len : tbAll.length = 256 := by unfold tbAll; rw [List.length_map, List.length_range]
def OneA (w : World) (T : List UInt8) (E : Nat) (e : Ending) (w' : World) : Prop := Below w.heap.size w w' ∧ ∃ c ta tb ts pv mv q, e = .returned (.tuple #[.agg (cmdC c ta tb ts pv), mv, .int .i64 q, .int .i64 (E : Int)]) ∧ (cmdC c ta tb ts pv).all (·.oneCell') = true ∧ c.table = T
theorem y_ans (fr tl : List UInt8) {w w' : World} {e : Ending} (h : CmdA w (cmM false (yText fr tl) 0) e w') : OneA w (if (tbOf (some fr) (some tl)).2 = 0 then (tbOf (some fr) (some tl)).1 else []) (tbOf (some fr) (some tl)).2 e w' := by
 rw [y_math] at h
 generalize tbOf (some fr) (some tl) = q at h ⊢
 by_cases hq : q.2 = 0
 ·rw [if_pos hq] at h ⊢
  obtain ⟨hb, ta, tb, ts, pa, pc, ma, mc, rfl, hta, htb, hts, _⟩ := h
  refine ⟨hb, ⟨0, gdNone, 121, [], sb0, q.1⟩, ta, tb, ts, .slice pa 0 pc, .slice ma 0 mc, ((yText fr tl).length : Int), ?_, cmd_one _ _ _ _ _ (shape_one hta.shape) (shape_one htb.shape) (shape_one hts.shape) rfl, rfl⟩
  rw [hq]
  rfl
 ·rw [if_neg hq] at h ⊢
  obtain ⟨hb, rfl⟩ := h
  exact ⟨hb, ⟨0, gdNone, 0, [], sb0, []⟩, .nilIface, .nilIface, .nilIface, .slice none 0 0, .slice none 0 0, _, rfl, cmd_one _ _ _ _ _ rfl rfl rfl rfl, rfl⟩
set_option linter.unusedVariables false in
set_option linter.unusedSimpArgs false in
set_option maxRecDepth 100000 in
set_option maxHeartbeats 8000000 in
theorem tables_law (a0 : Option Addr) (c0 : Nat) (l0 : List UInt8) (a1 : Option Addr) (c1 : Nat) (l1 : List UInt8) (x : UInt8) (w : World) (r0 : BRow w a0 l0) (r1 : BRow w a1 l1) (k0 : l0.length ≤ c0) (hG : Gl w) (hP : GP w) :
  Calls Tryz.prog 3 #[.slice a0 l0.length c0, .slice a1 l1.length c1, .int .u8 (x.toNat : Int)] w fun e w' => e = .returned (.bool true) ∧ Below w.heap.size w w' := by
 have hA := awake13_any w hG hP
 by_cases h0 : (30 : Int) < (l0.length : Int) ∨ (30 : Int) < (l1.length : Int)
 ·have hA2 := fun w1 (b1 : Below w.heap.size w w1) => awake13_any w1 (hG.up b1) (hP.up b1)
  clear hG hP r0 r1 k0
  by_cases h1 : (30 : Int) < (l0.length : Int)
  ·clear h0
   go_enter Tryz.func3, Tryz.ntmps3
   go_wp2_with (first
    | (go_at_call 6; refine hA.mono ?_; clear hA; rintro e w1 ⟨rfl, b1⟩; have hA3 := hA2 w1 b1; clear hA2)
    | (go_at_call 6; refine hA3.mono ?_; clear hA3; rintro e w2 ⟨rfl, b2⟩))
   go_ret
   exact ⟨rfl, b1.trans (b2.mono b1.size)⟩
  ·have h2 : (30 : Int) < (l1.length : Int) := h0.resolve_left h1
   clear h0
   go_enter Tryz.func3, Tryz.ntmps3
   go_wp2_with (first
    | (go_at_call 6; refine hA.mono ?_; clear hA; rintro e w1 ⟨rfl, b1⟩; have hA3 := hA2 w1 b1; clear hA2)
    | (go_at_call 6; refine hA3.mono ?_; clear hA3; rintro e w2 ⟨rfl, b2⟩))
   go_ret
   exact ⟨rfl, b1.trans (b2.mono b1.size)⟩
 have h1 : ¬ (30 : Int) < (l0.length : Int) := fun h => h0 (.inl h)
 have h2 : ¬ (30 : Int) < (l1.length : Int) := fun h => h0 (.inr h)
 have hl0 : l0.length ≤ 30 := by omega
 have hl1 : l1.length ≤ 30 := by omega
 have hT0 := fun W (h : Below w.heap.size w W) => told_any a0 c0 l0 W (r0.below h) (by omega)
 have hT1 := fun W (h : Below w.heap.size w W) => told_any a1 c1 l1 W (r1.below h) (by omega)
 obtain ⟨D0, hD0⟩ : ∃ D, txt (toldK kY l0) = D := ⟨_, rfl⟩
 obtain ⟨D1, hD1⟩ : ∃ D, txt (toldK kY l1) = D := ⟨_, rfl⟩
 have hs0 : D0.size ≤ 60 := by rw [← hD0, txt_size]; have := toldK_len kY l0; omega
 have hs1 : D1.size ≤ 60 := by rw [← hD1, txt_size]; have := toldK_len kY l1; omega
 have hSz : ((⟨#[121, 47]⟩ : ByteArray) ++ D0 ++ ⟨#[47]⟩ ++ D1 ++ ⟨#[47]⟩).size ≤ 4000 := by
  rw [ByteArray.size_append, ByteArray.size_append, ByteArray.size_append, ByteArray.size_append, show (⟨#[121, 47]⟩ : ByteArray).size = 2 from rfl, show (⟨#[47]⟩ : ByteArray).size = 1 from rfl]
  omega
 have hSl : ((⟨#[121, 47]⟩ : ByteArray) ++ D0 ++ ⟨#[47]⟩ ++ D1 ++ ⟨#[47]⟩).data.toList = yText l0 l1 := by
  simp only [ByteArray.data_append, Array.toList_append]
  rw [← hD0, ← hD1, txt_list, txt_list]
  unfold yText
  simp
 have hC := fun W (h : Below w.heap.size w W) => kparse_0 false ((⟨#[121, 47]⟩ : ByteArray) ++ D0 ++ ⟨#[47]⟩ ++ D1 ++ ⟨#[47]⟩) W hSz (hG.up h) (hP.up h)
 rw [hSl] at hC
 rw [hD0] at hT0
 rw [hD1] at hT1
 have HR0 := Lib.hid r0
 have HR1 := Lib.hid r1
 clear hSl hSz hD0 hD1 h0 hG hP r0 r1
 go_enter Tryz.func3, Tryz.ntmps3
 go_upto_region 3 with (go_at_call 6; refine hA.mono ?_; clear hA; rintro e w1 ⟨rfl, b1⟩)
 refine wp_region_list ?_
 refine wpList_plain rfl (fun K hK => ?_); go_simp; refine hK _ _ ?_; clear hK K; (try simp only [List.getElem_toArray, List.getElem_cons_succ, List.getElem_cons_zero, Act.put, List.setIfInBounds_toArray, List.set_cons_zero, List.set_cons_succ])
 refine wpList_plain rfl (fun K hK => ?_); go_simp; go_at_call 8; refine (hT0 w1 b1).mono ?_; clear hT0; rintro e w2 ⟨rfl, b2⟩; have b2 := b1.trans (b2.mono b1.size); refine hK _ _ ?_; clear hK K; (try simp only [List.getElem_toArray, List.getElem_cons_succ, List.getElem_cons_zero, Act.put, List.setIfInBounds_toArray, List.set_cons_zero, List.set_cons_succ])
 refine wpList_plain rfl (fun K hK => ?_); go_simp; rw [if_neg (by first | omega | (simp only [ByteArray.size_append]; omega) | (simp; omega))]; go_simp; refine hK _ _ ?_; clear hK K; (try simp only [List.getElem_toArray, List.getElem_cons_succ, List.getElem_cons_zero, Act.put, List.setIfInBounds_toArray, List.set_cons_zero, List.set_cons_succ])
 refine wpList_plain rfl (fun K hK => ?_); go_simp; rw [if_neg (by first | omega | (simp only [ByteArray.size_append]; omega) | (simp; omega))]; go_simp; refine hK _ _ ?_; clear hK K; (try simp only [List.getElem_toArray, List.getElem_cons_succ, List.getElem_cons_zero, Act.put, List.setIfInBounds_toArray, List.set_cons_zero, List.set_cons_succ])
 refine wpList_plain rfl (fun K hK => ?_); go_simp; refine hK _ _ ?_; clear hK K; (try simp only [List.getElem_toArray, List.getElem_cons_succ, List.getElem_cons_zero, Act.put, List.setIfInBounds_toArray, List.set_cons_zero, List.set_cons_succ])
 refine wpList_plain rfl (fun K hK => ?_); go_simp; go_at_call 8; refine (hT1 w2 b2).mono ?_; clear hT1; rintro e w3 ⟨rfl, b3⟩; have b3 := b2.trans (b3.mono b2.size); refine hK _ _ ?_; clear hK K; (try simp only [List.getElem_toArray, List.getElem_cons_succ, List.getElem_cons_zero, Act.put, List.setIfInBounds_toArray, List.set_cons_zero, List.set_cons_succ])
 refine wpList_plain rfl (fun K hK => ?_); go_simp; rw [if_neg (by first | omega | (simp only [ByteArray.size_append]; omega) | (simp; omega))]; go_simp; refine hK _ _ ?_; clear hK K; (try simp only [List.getElem_toArray, List.getElem_cons_succ, List.getElem_cons_zero, Act.put, List.setIfInBounds_toArray, List.set_cons_zero, List.set_cons_succ])
 refine wpList_plain rfl (fun K hK => ?_); go_simp; rw [if_neg (by first | omega | (simp only [ByteArray.size_append]; omega) | (simp; omega))]; go_simp; refine hK _ _ ?_; clear hK K; (try simp only [List.getElem_toArray, List.getElem_cons_succ, List.getElem_cons_zero, Act.put, List.setIfInBounds_toArray, List.set_cons_zero, List.set_cons_succ])
 refine wpList_plain rfl (fun K hK => ?_); go_simp; go_at_call 7; refine (hC w3 b3).mono ?_; clear hC; rintro e w4 h4; obtain ⟨b4, c, ta, tb, ts, pv, mv, q, rfl, hone, htab⟩ := y_ans l0 l1 h4; have b4 := b3.trans (b4.mono b3.size); refine hK _ _ ?_; clear hK K; (try simp only [List.getElem_toArray, List.getElem_cons_succ, List.getElem_cons_zero, Act.put, List.setIfInBounds_toArray, List.set_cons_zero, List.set_cons_succ])
 refine wpList_plain rfl (fun K hK => ?_); go_simp; refine hK _ _ ?_; clear hK K; (try simp only [List.getElem_toArray, List.getElem_cons_succ, List.getElem_cons_zero, Act.put, List.setIfInBounds_toArray, List.set_cons_zero, List.set_cons_succ])
 refine wpList_plain rfl (fun K hK => ?_); go_simp; refine hK _ _ ?_; clear hK K; (try simp only [List.getElem_toArray, List.getElem_cons_succ, List.getElem_cons_zero, Act.put, List.setIfInBounds_toArray, List.set_cons_zero, List.set_cons_succ])
 refine wpList_plain rfl (fun K hK => ?_); go_simp; refine hK _ _ ?_; clear hK K; (try simp only [List.getElem_toArray, List.getElem_cons_succ, List.getElem_cons_zero, Act.put, List.setIfInBounds_toArray, List.set_cons_zero, List.set_cons_succ])
 refine wpList_plain rfl (fun K hK => ?_); go_simp; refine hK _ _ ?_; clear hK K; (try simp only [List.getElem_toArray, List.getElem_cons_succ, List.getElem_cons_zero, Act.put, List.setIfInBounds_toArray, List.set_cons_zero, List.set_cons_succ])
 refine wpList_plain rfl (fun K hK => ?_); go_simp; refine hK _ _ ?_; clear hK K; (try simp only [List.getElem_toArray, List.getElem_cons_succ, List.getElem_cons_zero, Act.put, List.setIfInBounds_toArray, List.set_cons_zero, List.set_cons_succ])
 refine wpList_plain rfl (fun K hK => ?_); go_simp; generalize hA : (w4).alloc _ = wy; refine hK _ _ ?_; clear hK K; (try simp only [List.getElem_toArray, List.getElem_cons_succ, List.getElem_cons_zero, Act.put, List.setIfInBounds_toArray, List.set_cons_zero, List.set_cons_succ]); refine wpList_store_row rfl 35 _ _ rfl (World.heap w4).size (cmdC c ta tb ts pv) rfl rfl 35 cmdZ (blkOfAlloc hA) (by kernel_rfl) rfl (hone) ?_; (try simp only [List.getElem_toArray, List.getElem_cons_succ, List.getElem_cons_zero, Act.put, List.setIfInBounds_toArray, List.set_cons_zero, List.set_cons_succ]); have hbx := boxOf (cs := cmdC c ta tb ts pv) hA; generalize wy.setRow (World.heap w4).size _ = w5 at hbx ⊢; clear hA
 refine wpList_plain rfl (fun K hK => ?_); go_simp; refine hK _ _ ?_; clear hK K; (try simp only [List.getElem_toArray, List.getElem_cons_succ, List.getElem_cons_zero, Act.put, List.setIfInBounds_toArray, List.set_cons_zero, List.set_cons_succ])
 refine wpList_plain rfl (fun K hK => ?_); go_simp; refine hK _ _ ?_; clear hK K; (try simp only [List.getElem_toArray, List.getElem_cons_succ, List.getElem_cons_zero, Act.put, List.setIfInBounds_toArray, List.set_cons_zero, List.set_cons_succ])
 refine wpList_plain rfl (fun K hK => ?_); go_simp; refine hK _ _ ?_; clear hK K; (try simp only [List.getElem_toArray, List.getElem_cons_succ, List.getElem_cons_zero, Act.put, List.setIfInBounds_toArray, List.set_cons_zero, List.set_cons_succ])
 refine wpList_nil ?_
 obtain ⟨b5, Q5⟩ := hbx
 have B5 := Lib.hid (b4.trans (b5.mono b4.size))
 obtain ⟨g, hg⟩ : ∃ g, w4.heap.size = g := ⟨_, rfl⟩
 rw [hg] at Q5 ⊢
 obtain ⟨E, hE⟩ : ∃ E, (tbOf (some l0) (some l1)).2 = E := ⟨_, rfl⟩
 rw [hE] at htab ⊢
 have k19 : w5.cell? ⟨g, 19, none⟩ = some (.string (txt c.table)) := (Q5.cell 19).trans rfl
 have HE := Lib.hid hE
 have HTab := Lib.hid htab
 clear b1 b2 b3 b4 b5 hg Q5 hone h4 htab hE hs0 hs1
 by_cases hln : l0.length = l1.length
 ·have hle : ((l0.length : Int) != (l1.length : Int)) = false := by simp [hln]
  obtain ⟨R, hR⟩ : ∃ R, tbRun l0 l1 [] tbAll = R := ⟨_, rfl⟩
  have hTZ : tbOf (some l0) (some l1) = tbZ R := by
   rw [← hR]
   unfold tbOf tbZ
   simp only
   rw [if_pos hln]
   cases tbRun l0 l1 [] tbAll <;> rfl
  have HE2 := Lib.hid (show (tbZ R).2 = E by rw [← hTZ]; exact HE.out)
  have HT2 := Lib.hid (show c.table = if E = 0 then (tbZ R).1 else [] by rw [← hTZ]; exact HTab.out)
  have HR := Lib.hid hR
  have HL := Lib.hid hln
  have C0 := Lib.hid (HR0.out.below B5.out)
  have C1 := Lib.hid (HR1.out.below B5.out)
  have K0 := Lib.hid k0
  have HS0 := Lib.hid (And.intro hl0 hl1)
  clear hTZ hR hln HE HTab HR0 HR1 k0 hl0 hl1 h1 h2
  go_wp2_with fail
  go_loop [11, 53] (fun wv i => ∃ (j : Nat) (T seen : List UInt8) (v : UInt8), j ≤ l0.length ∧ i = .int .i64 j ∧ wv = .int .u8 (v.toNat : Int) ∧ tbRun (l0.drop j) (l1.drop j) seen T = R ∧ (∀ b, b ∈ seen ↔ b ∈ l0.take j) ∧ T.length = 256 ∧ T[x.toNat]? = some v) (fun _ i => l0.length - (intOf i).toNat)
  case atStart => exact ⟨0, _, [], x, by omega, rfl, rfl, HR.out, by simp, tbAll_len, tbAll_at x⟩
  case round =>
   obtain ⟨j, T, seen, v, hj, rfl, rfl, hT, hsn, hTl, hTx⟩ := hrel
   have HT := Lib.hid hT
   have HSN := Lib.hid hsn
   have HTL := Lib.hid (And.intro hTl hTx)
   have hs30 := HS0.out
   clear hT hsn hTl hTx
   by_cases hlt : j < l0.length
   ·have hji : (j : Int) < (l0.length : Int) := by omega
    have hy0 : (0 : Int) ≤ (j : Int) := by omega
    have Wj : IntKind.i64.wrap ((j : Int) + 1) = (j : Int) + 1 := IntWalk.i64_in _ (by omega)
    have hlv : j < l1.length := by rw [← HL.out]; exact hlt
    have hjv : (j : Int) < (l1.length : Int) := by omega
    have hjc : (j : Int) ≤ (c0 : Int) := by have := K0.out; omega
    obtain ⟨p0, o0, rfl, _, ck⟩ := C0.out j hlt
    obtain ⟨p1, o1, rfl, _, cv⟩ := C1.out j hlv
    have HAT := Lib.hid (fun m (hm : m < j) => C0.out m (Nat.lt_trans hm hlt))
    obtain ⟨y, hy⟩ : ∃ y, l0[j] = y := ⟨_, rfl⟩
    obtain ⟨z, hz⟩ : ∃ z, l1[j] = z := ⟨_, rfl⟩
    rw [hy] at ck
    rw [hz] at cv
    have HY := Lib.hid (And.intro hy hz)
    clear hy hz
    have HT3 := Lib.hid (show (if y ∈ seen then none else tbRun (l0.drop (j + 1)) (l1.drop (j + 1)) (y :: seen) (T.set y.toNat z)) = R by
     have h9 := HT.out
     rw [drop_get hlt, drop_get hlv, tbRun_cons] at h9
     simp only [List.tail_cons, List.headD_cons] at h9
     rw [HY.out.1, HY.out.2] at h9
     exact h9)
    clear HT
    go_wp2_with fail
    go_loop [62] (fun i => ∃ m : Nat, m ≤ j ∧ i = .int .i64 m ∧ ∀ n, n < m → ¬ l0[n]? = some y) (fun i => j - (intOf i).toNat)
    case atStart => exact ⟨0, Nat.zero_le _, rfl, fun n hn => absurd hn (Nat.not_lt_zero _)⟩
    case round =>
     obtain ⟨m, hm, rfl, hno⟩ := hrel
     have HNO := Lib.hid hno
     clear hno
     by_cases hmj : m < j
     ·have hmi : (m : Int) < (j : Int) := by omega
      have hm0 : (0 : Int) ≤ (m : Int) := by omega
      have Wm : IntKind.i64.wrap ((m : Int) + 1) = (m : Int) + 1 := IntWalk.i64_in _ (by omega)
      obtain ⟨p', o', hp, _, cm⟩ := HAT.out m hmj
      obtain ⟨rfl, rfl⟩ : p' = p0 ∧ o' = o0 := by injection hp with hp; injection hp with h1 h2; exact ⟨h1.symm, h2.symm⟩
      obtain ⟨u, hu⟩ : ∃ u, l0[m]'(Nat.lt_trans hmj hlt) = u := ⟨_, rfl⟩
      rw [hu] at cm
      have hu2 : l0[m]? = some u := by rw [List.getElem?_eq_getElem (Nat.lt_trans hmj hlt), hu]
      by_cases hyu : y = u
      ·have quy : ((y.toNat : Int) == (u.toNat : Int)) = true := by rw [hyu]; simp
       obtain rfl : 15 = E := by
        have hs : y ∈ seen := (HSN.out y).2 (List.mem_take_iff_getElem.2 ⟨m, by omega, by rw [hu, hyu]⟩)
        have h9 := HT3.out
        rw [if_pos hs] at h9
        rw [← HE2.out, ← h9]
        rfl
       clear hyu hu hu2 hp
       go_wp2_with fail
       go_ret
       exact ⟨rfl, B5.out⟩
      ·have quy : ((y.toNat : Int) == (u.toNat : Int)) = false := cmu_ne hyu
       have HNO2 := Lib.hid (show ∀ n, n < m + 1 → ¬ l0[n]? = some y from fun n hn => by
        by_cases e : n = m
        ·subst e
         rw [hu2]
         exact fun e => hyu (Option.some.inj e).symm
        ·exact HNO.out n (by omega))
       clear hyu hu hu2 hp HNO
       go_wp2_with fail
       go_round
       case rel => exact ⟨m + 1, by omega, by go_num, HNO2.out⟩
       case measure => simp [intOf]; omega
     ·obtain rfl : m = j := by omega
      have hmi : ¬ ((m : Nat) : Int) < (m : Int) := by omega
      have hns : ¬ y ∈ seen := fun h => by
       obtain ⟨n, hn, e⟩ := List.mem_take_iff_getElem.1 ((HSN.out y).1 h)
       exact HNO.out n (by omega) (by rw [List.getElem?_eq_getElem (by omega), e])
      have HT4 := Lib.hid (show tbRun (l0.drop (m + 1)) (l1.drop (m + 1)) (y :: seen) (T.set y.toNat z) = R by
       have h9 := HT3.out
       rwa [if_neg hns] at h9)
      have HS4 := Lib.hid (show ∀ b, b ∈ y :: seen ↔ b ∈ l0.take (m + 1) from fun b => by
       rw [List.take_succ_eq_append_getElem hlt, List.mem_append, List.mem_cons, HSN.out b, HY.out.1, List.mem_singleton]
       exact Or.comm)
      have HTL4 := Lib.hid (show (T.set y.toNat z).length = 256 by rw [List.length_set]; exact HTL.out.1)
      have HX4 := Lib.hid (show (T.set y.toNat z)[x.toNat]? = some (if y = x then z else v) by
       rw [List.getElem?_set]
       by_cases e : y = x
       ·rw [if_pos (by rw [e]), if_pos (by rw [HTL.out.1]; exact y.toNat_lt), if_pos e]
       ·rw [if_neg (fun h => e (UInt8.toNat_inj.1 h)), if_neg e]
        exact HTL.out.2)
      clear hns HT3 HSN HNO
      by_cases hyx : y = x
      ·have qyx : ((y.toNat : Int) == (x.toNat : Int)) = true := by rw [hyx]; simp
       have HX5 := Lib.hid (show (T.set y.toNat z)[x.toNat]? = some z by have h9 := HX4.out; rwa [if_pos hyx] at h9)
       clear hyx HX4
       go_wp2_with fail
       go_round
       case rel => exact ⟨m + 1, _, _, z, by omega, by go_num, rfl, HT4.out, HS4.out, HTL4.out, HX5.out⟩
       case measure => simp [intOf]; omega
      ·have qyx : ((y.toNat : Int) == (x.toNat : Int)) = false := cmu_ne hyx
       have HX5 := Lib.hid (show (T.set y.toNat z)[x.toNat]? = some v by have h9 := HX4.out; rwa [if_neg hyx] at h9)
       clear hyx HX4
       go_wp2_with fail
       go_round
       case rel => exact ⟨m + 1, _, _, v, by omega, by go_num, rfl, HT4.out, HS4.out, HTL4.out, HX5.out⟩
       case measure => simp [intOf]; omega
   ·obtain rfl : j = l0.length := by omega
    have hji : ¬ ((l0.length : Nat) : Int) < (l0.length : Int) := by omega
    have hRT : some T = R := by
     have h9 := HT.out
     rwa [List.drop_eq_nil_of_le (Nat.le_refl _), tbRun] at h9
    obtain rfl : 0 = E := by rw [← HE2.out, ← hRT]; rfl
    have htab : c.table = T := by have h9 := HT2.out; rw [← hRT] at h9; exact h9
    rw [htab] at k19
    obtain ⟨S, hS⟩ : ∃ S, txt T = S := ⟨_, rfl⟩
    have hSs : S.size = 256 := by rw [← hS, txt_size]; exact HTL.out.1
    have hx256 := x.toNat_lt
    have hxs : x.toNat < S.size := by omega
    have hSx : S[x.toNat]'hxs = v := by
     have h1 := drop_at S x.toNat hxs
     have h2 : S.data.toList = T := by rw [← hS]; rfl
     have h3 := HTL.out.2
     rw [h2] at h1
     have h4 := congrArg List.head? h1
     rw [List.head?_drop, h3] at h4
     exact (Option.some.inj h4).symm
    rw [hS] at k19
    have hx0 : (0 : Int) ≤ (x.toNat : Int) := by omega
    have hx1 : (x.toNat : Int) < (S.size : Int) := by omega
    have hS2 : ((S.size : Int) == 256) = true := by rw [hSs]; rfl
    clear hRT htab hS HT HSN HTL hs30
    go_wp2_with fail
    go_ret
    exact ⟨rfl, B5.out⟩
 ·have hle : ((l0.length : Int) != (l1.length : Int)) = true := by simp; omega
  obtain rfl : 18 = E := by
   rw [← HE.out]
   unfold tbOf
   simp only
   rw [if_neg hln]
  clear hln HE HTab k19
  go_wp2_with fail
  go_ret
  exact ⟨rfl, B5.out⟩
theorem tables_any (a0 : Option Addr) (n0 c0 : Nat) (z0 : List Int) {w0 : World} (r0 : IsRow .u8 w0 a0 n0 c0 z0) (a1 : Option Addr) (n1 c1 : Nat) (z1 : List Int) {w1 : World} (r1 : IsRow .u8 w1 a1 n1 c1 z1) (x : UInt8) (w : World) (hG : Gl w) (hP : GP w) (h0 : w0 = w := by rfl) (h1 : w1 = w := by rfl) :
  Calls Tryz.prog 3 #[.slice a0 n0 c0, .slice a1 n1 c1, .int .u8 (x.toNat : Int)] w fun e w' => e = .returned (.bool true) ∧ Below w.heap.size w w' := by
 subst h0 h1
 obtain ⟨l0, rfl, b0, k0⟩ := isrow_b r0
 obtain ⟨l1, rfl, b1, _⟩ := isrow_b r1
 exact tables_law a0 c0 l0 a1 c1 l1 x _ b0 b1 k0 hG hP
end Go.Proofs.YtbgfankoojjejaaGreatDoor
namespace Go.Proofs.YtbgfankoojjejaaGreatDoor
open Go.ChangeShapes Go.WideShapes Go.ChangeAt Go.RowKit
theorem gTab : Tryz.prog.globalNamed "math/bits.deBruijn64tab" = some 5 := by kernel_rfl
theorem gTabType : (Tryz.prog.globals[5]?).map (·.type) = some 256 := by kernel_rfl
theorem cellsTab : Tryz.prog.cellsOf 256 = 64 := by kernel_rfl
theorem cellsU8 : Tryz.prog.cellsOf 5 = 1 := by kernel_rfl
theorem gOpn : Tryz.prog.globalNamed "placket/bracket.openers" = some 4 := by kernel_rfl
theorem gOpnType : (Tryz.prog.globals[4]?).map (·.type) = some 248 := by kernel_rfl
theorem cellsOpn : Tryz.prog.cellsOf 248 = 3 := by kernel_rfl
theorem gAhd : Tryz.prog.globalNamed "placket/piece.ahead" = some 0 := by kernel_rfl
theorem gAhdType : (Tryz.prog.globals[0]?).map (·.type) = some 197 := by kernel_rfl
theorem cellsAhd : Tryz.prog.cellsOf 197 = 2 := by kernel_rfl
theorem block_of_cell {W : World} (b : Nat) (v : Value) (hv : W.cell? ⟨b, 0, none⟩ = some v) : b < W.heap.size := by
 cases hh : W.heap[b]? with
 | none => simp [World.cell?, hh] at hv
 | some o => exact (Array.getElem?_eq_some_iff.1 hh).1
theorem g12_of {W : World} (h : laidMetH Tryz.prog [("math/bits.deBruijn64tab", Rows.laid_math_bits_deBruijn64tab), ("unicode/utf8.acceptRanges", Rows.laid_unicode_utf8_acceptRanges), ("placket/bracket.openers", Rows.laid_placket_bracket_openers), ("placket/piece.ahead", Rows.laid_placket_piece_ahead), ("unicode/utf8.first", Rows.laid_unicode_utf8_first)] W) (hsh : W.ShapedOpen Tryz.prog) : Gl W ∧ GP W := by
 have h0 : laidMet Tryz.prog [("math/bits.deBruijn64tab", Rows.laid_math_bits_deBruijn64tab), ("unicode/utf8.acceptRanges", Rows.laid_unicode_utf8_acceptRanges), ("placket/bracket.openers", Rows.laid_placket_bracket_openers), ("placket/piece.ahead", Rows.laid_placket_piece_ahead), ("unicode/utf8.first", Rows.laid_unicode_utf8_first)] W := h
 have h2 := laidMet.tail (laidMet.tail h0)
 have hT : Lib.TabIs Tryz.prog W "math/bits.deBruijn64tab" .u8 (Lib.deBruijn64tab.map Int.ofNat) :=
  Lib.tabIs_of_head gTab gTabType Tryz.underlying256 Tryz.underlying5 cellsU8 cellsTab h0
 have hO : Lib.TabIs Tryz.prog W "placket/bracket.openers" .u8 [58, 61, 46] :=
  Lib.tabIs_of_head gOpn gOpnType Tryz.underlying248 Tryz.underlying5 cellsU8 cellsOpn h2
 have hH : Lib.TabIs Tryz.prog W "placket/piece.ahead" .u8 [94, 93] :=
  Lib.tabIs_of_head gAhd gAhdType Tryz.underlying197 Tryz.underlying5 cellsU8 cellsAhd (laidMet.tail h2)
 obtain ⟨m, hm⟩ : ∃ m, W.cell? ⟨1, 0, none⟩ = some (.int .i64 m) :=
  cell_of_shapedOpen_int (t := 3) (zero := #[.int .i64 0]) hsh (of_decide_eq_true (by kernel_rfl)) (by kernel_rfl) rfl (by kernel_rfl) (by kernel_rfl) Tryz.underlying3
 refine ⟨⟨fun j hj => ?_, hO.cell gOpn 0 (by decide), hO.cell gOpn 1 (by decide), hO.cell gOpn 2 (by decide), ⟨m, hm⟩, ?_⟩, hH.cell gAhd 0 (by decide), hH.cell gAhd 1 (by decide), block_of_cell _ _ (hH.cell gAhd 0 (by decide))⟩
 ·rw [hT.cell gTab j (by rw [List.length_map]; exact hj)]
  simp only [List.getD, List.getElem?_map]
  rw [List.getElem?_eq_getElem hj]
  rfl
 ·exact Nat.max_lt.2 ⟨Nat.max_lt.2 ⟨block_of_cell _ _ (hT.cell gTab 0 (by decide)), block_of_cell _ _ (hO.cell gOpn 0 (by decide))⟩, block_of_cell _ _ hm⟩
def layCells (cs : Array Value) : Obj → Obj
 | .cells _ t frozen => .cells cs t frozen
 | o => o
noncomputable def laidWorld (os : Os) : World :=
 { World.holding Tryz.prog os ⟨#[], #[], []⟩ with heap := (((((World.holding Tryz.prog os ⟨#[], #[], []⟩).heap.modify 5 (layCells (Lib.deBruijn64tab.map fun n => Value.int .u8 (Int.ofNat n)).toArray)).modify 4 (layCells #[.int .u8 58, .int .u8 61, .int .u8 46])).modify 0 (layCells #[.int .u8 94, .int .u8 93])).modify 3 (layCells (([128, 191, 160, 191, 128, 159, 144, 191, 128, 143, 0, 0, 0, 0, 0, 0, 0, 0, 0, 0, 0, 0, 0, 0, 0, 0, 0, 0, 0, 0, 0, 0] : List Nat).map fun n => Value.int .u8 (Int.ofNat n)).toArray)).modify 2 (layCells (Go.Pinned.utf8FirstZ.map fun n => Value.int .u8 (Int.ofNat n)).toArray) }
end Go.Proofs.YtbgfankoojjejaaGreatDoor
