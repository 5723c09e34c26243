/- BtB: The statements' question whether a node is just some bytes, walked.
   BtP: The statement BrePlain, walked. -/
import Derived.Test.YtbbcjclkklmoaaaDoorBtMQ
import Derived.Test.YtbbcjclkklmoaaaDoorNdPrS
import Derived.Test.YtbbcjclkklmoaaaDoorMaA
import Derived.Test.YtbbcjclkklmoaaaDoorBreAwake
import Derived.Test.YtbbcjclkklmoaaaDoorOctOpen
import Derived.OpenShut
namespace Go.Proofs.YtbbcjclkklmoaaaDoor
open Go Go.RowKit

def oneZ (z : Int) : Nd := .one (oSpan z z)
theorem ones_all (zs : List Int) : (zs.map oneZ).all inCat = true := by
  induction zs with
  | nil => rfl
  | cons z zs ih => rw [List.map_cons, List.all_cons, ih]; rfl
theorem ofl_oneZ (z : Int) (h : 0 ≤ z) : ofl [z] = oSpan z z := by
  obtain ⟨n, rfl⟩ : ∃ n : Nat, z = n := ⟨z.toNat, by omega⟩
  exact ofl_one n
theorem take_map (zs : List Int) (k : Nat) (h : k < zs.length) : (zs.take (k + 1)).map oneZ = (zs.take k).map oneZ ++ [oneZ (zs.getD k 0)] := by
  rw [List.take_succ_eq_append_getElem h, List.map_append]
  simp [List.getD, List.getElem?_eq_getElem h]
set_option linter.unusedSimpArgs false in
set_option maxRecDepth 100000 in
set_option maxHeartbeats 1000000 in
theorem bytes_any (zs : List Int) (b o cap : Nat) (d : Nd) (v : Value) (w : World) (hn : NdX (fun k => k < w.heap.size) w d v) (hd : nsize d ≤ 4000000) (hb : b < w.heap.size) (hl : zs.length ≤ 100) (hc : ∀ i, i < zs.length → w.cell? ⟨b, o + i, none⟩ = some (.int .u8 (zs.getD i 0))) (hr : ∀ i, 0 ≤ zs.getD i 0 ∧ zs.getD i 0 ≤ 255) :
    Calls Tryd.prog 12 #[v, .slice (some ⟨b, o, none⟩) zs.length cap] w fun e w' => e = .returned (.bool (nsame d (njoin (zs.map oneZ)))) ∧ Below w.heap.size w w' := by
  obtain ⟨i0, hi, hz0, hz1, hz2⟩ := node_info
  obtain ⟨R, hR⟩ : ∃ R, R = nsame d (njoin (zs.map oneZ)) := ⟨_, rfl⟩
  rw [← hR]
  have HR := Lib.hid hR
  have HN := Lib.hid hn
  have HC := Lib.hid hc
  have HRg := Lib.hid hr
  have HD := Lib.hid hd
  clear hR hn hc hr hd
  go_enter Tryd.func12, Tryd.ntmps12
  go_wp2_with fail
  go_loopw [5, 10] (fun av i wr => ∃ (k : Nat) (us : List Value) (pv : Value), k ≤ zs.length ∧ i = .int .i64 k ∧ pv = av ∧ NdOw (fun _ => True) w.heap.size wr ((zs.take k).map oneZ) pv us ∧ Below w.heap.size w wr) (fun _ i _ => zs.length - (intOf i).toNat)
  case atStart => exact ⟨0, [], _, by omega, rfl, rfl, NdOw.nil _ _ _, Below.refl _ _⟩
  case round =>
    obtain ⟨k, us, pv, hk, rfl, hpv, hN, hW⟩ := hrel
    subst hpv
    by_cases hlt : k < zs.length
    · have hce := (hW.cell (p := ⟨b, o + k, none⟩) hb).trans (HC.out k hlt)
      have hrg := HRg.out k
      have Htk := Lib.hid (take_map zs k hlt)
      have hml : ((zs.take k).map oneZ).length = k := by rw [List.length_map, List.length_take]; omega
      have hrow := hN.row
      rw [hml] at hrow
      have HN1 := Lib.hid hN
      have hW2 := hW.size
      generalize zs.getD k 0 = z at *
      have hof := of_one z hrg.1 hrg.2 wr wr.heap.size rfl
      rw [ofl_oneZ z hrg.1] at hof
      have HML := Lib.hid hml
      have HRow := Lib.hid hrow
      have HRG := Lib.hid hrg
      clear hN hml hrow hrg
      go_wp2_with fail
      refine hof.mono ?_
      rintro e w2 ⟨rfl, b2⟩
      have hN2 := HN1.out.mem b2 hW2
      have hrow2 := hN2.row
      rw [HML.out] at hrow2
      have HN2 := Lib.hid hN2
      have hsz2 : w.heap.size ≤ w2.heap.size := Nat.le_trans hW2 b2.size
      have hm1 : k + 1 ≤ maxLen := by unfold maxLen; omega
      have hm2 : (k + 1) * 16 ≤ 140737488355328 := by omega
      have HB2 := Lib.hid b2
      clear hof hce b2 hN2
      go_wp2_with (at_builtin; refine wpList_append_any _ rfl _ _ 63 rfl w.heap.size 25 i0 .nilIface 1 16 Tryd.underlying63 hi hz0 hz1 hz2 rfl (by decide) _ _ _ rfl (hrow2.alloc _) (some ⟨w2.heap.size, 0, none⟩) 1 1 [_] rfl rfl (fun _ => ⟨_, rfl, cell_one_at (by simp) _ _⟩) (by intro y hy; simp at hy; subst hy; rfl) hm1 hm2 (by simp; omega) ?_; intro v3 w3 hown hgrow hat)
      have HO := Lib.hid hown
      have hb3 : Below w.heap.size w2 w3 := ((Below.refl _ w2).alloc hsz2 _).grown hgrow (by simp; omega) (own_low hrow2)
      have HB3 := Lib.hid hb3
      clear hown hgrow hat hb3
      go_roundw
      case rel =>
        exact ⟨k + 1, us ++ [.iface 80 (.agg #[.int .u64 (ow (oSpan z z) 0), .int .u64 (ow (oSpan z z) 1), .int .u64 (ow (oSpan z z) 2), .int .u64 (ow (oSpan z z) 3)])], _, by omega, by go_num, rfl, by rw [Htk.out]; exact HN2.out.push HB3.out rfl (fun i h1 h2 => by simp at h1; subst h1; exact ⟨1, rfl⟩) (by intro y hy; simp at hy; subst hy; rfl) (by rw [HML.out]; exact HO.out), (hW.trans (HB2.out.mono hW2)).trans HB3.out⟩
      case measure => simp [intOf]; omega
    · obtain rfl : k = zs.length := by omega
      rw [List.take_length] at hN
      obtain ⟨a3, c3, rfl, hp⟩ := hN.parts
      have hjf : (jflat (zs.map oneZ)).length ≤ 4000000 := by rw [jflat_all _ (ones_all zs), List.length_map]; omega
      have hj := pjoin_any (zs.map oneZ) a3 c3 wr hp hjf
      rw [List.length_map] at hj
      have hnr := ndx_in (HN.out.keep hW.size (fun b hb _ => ⟨hb, fun o => hW.cell (p := ⟨b, o, none⟩) hb⟩) : NdX (fun k => k < w.heap.size) wr d v)
      have HNR := Lib.hid hnr
      have HJl := Lib.hid (show (zs.map oneZ).length = zs.length by simp)
      clear hN hp hjf hnr
      go_wp2_with fail
      refine hj.mono ?_
      rintro e w4 ⟨jv, rfl, hjn, b4⟩
      have hs := psame_any d (njoin (zs.map oneZ)) v jv w4 (ndx_in (HNR.out.below b4)) hjn HD.out
      rw [← HR.out] at hs
      have hW4 := hW.trans (b4.mono hW.size)
      clear hj hjn b4
      go_wp2_with fail
      refine hs.mono ?_
      rintro e w5 ⟨rfl, b5⟩
      have hW5 := hW4.trans (b5.mono hW4.size)
      clear hs b5
      go_wp2_with fail
      go_ret
      exact ⟨rfl, hW5⟩
end Go.Proofs.YtbbcjclkklmoaaaDoor
namespace Go.Proofs.YtbbcjclkklmoaaaDoor
open Go Go.RowKit Go.Shelf

set_option linter.unusedSimpArgs false in
set_option maxRecDepth 100000 in
set_option maxHeartbeats 1000000 in
theorem plain_short (a : Option Addr) (len cap : Nat) (w : World) (hG : Gl w) (h : len = 0 ∨ 100 < len) :
    Calls Tryd.prog 6 #[.slice a len cap] w fun e w' => e = .returned (.bool true) ∧ Below w.heap.size w w' := by
  have haw := awake4_any w hG
  rcases h with rfl | h
  · go_enter Tryd.func6, Tryd.ntmps6
    go_wp2_with fail
    refine haw.mono ?_
    rintro e w1 ⟨rfl, hW⟩
    have haw2 := awake4_any w1 (hG.up hW)
    clear haw hG
    go_wp2_with fail
    refine haw2.mono ?_
    rintro e w2 ⟨rfl, b2⟩
    have hW2 := hW.trans (b2.mono hW.size)
    clear haw2 b2
    go_wp2_with fail
    go_ret
    exact ⟨rfl, hW2⟩
  · have e0 : ((len : Int) == 0) = false := by rw [beq_eq_false_iff_ne]; omega
    have e1 : decide ((100 : Int) < (len : Int)) = true := by first | (simp; done) | (simp; omega)
    have e2 : decide (100 < len) = true := decide_eq_true h
    clear h
    go_enter Tryd.func6, Tryd.ntmps6
    go_wp2_with fail
    refine haw.mono ?_
    rintro e w1 ⟨rfl, hW⟩
    have haw2 := awake4_any w1 (hG.up hW)
    clear haw hG
    go_wp2_with fail
    refine haw2.mono ?_
    rintro e w2 ⟨rfl, b2⟩
    have hW2 := hW.trans (b2.mono hW.size)
    clear haw2 b2
    go_wp2_with fail
    go_ret
    exact ⟨rfl, hW2⟩
theorem nsizes_ones (zs : List Int) : nsizes (zs.map oneZ) = zs.length := by
  induction zs with
  | nil => rfl
  | cons z zs ih => rw [List.map_cons, nsizes, ih, List.length_cons, show nsize (oneZ z) = 1 from rfl]; omega
theorem nsize_ones (zs : List Int) : nsize (njoin (zs.map oneZ)) ≤ 1 + zs.length := by
  have hf := jflat_all _ (ones_all zs)
  have hs := nsizes_ones zs
  unfold njoin
  rw [hf]
  cases h : zs.map oneZ with
  | nil => simp [nsize]
  | cons d ds =>
    rw [h] at hs
    cases ds with
    | nil => simp only [nsizes] at hs; simp only; omega
    | cons d2 ds => simp only [nsize]; omega
theorem nums_map (zs : List Int) (hr : ∀ i, 0 ≤ zs.getD i 0 ∧ zs.getD i 0 ≤ 255) : ((zs.map fun n => UInt8.ofNat n.toNat).map UInt8.toNat).map oneOf = zs.map oneZ := by
  rw [List.map_map, List.map_map]
  apply List.map_congr_left
  intro z hz
  obtain ⟨i, hi, rfl⟩ := List.mem_iff_getElem.1 hz
  have h := hr i
  rw [List.getD_eq_getElem?_getD, List.getElem?_eq_getElem hi, Option.getD_some] at h
  show oneOf (UInt8.ofNat (zs[i]).toNat).toNat = oneZ zs[i]
  have h2 : (UInt8.ofNat (zs[i]).toNat).toNat = (zs[i]).toNat := by simp; omega
  rw [h2]
  unfold oneOf oneZ
  rw [show (((zs[i]).toNat : Nat) : Int) = zs[i] by omega]
theorem nums_byt (zs : List Int) (hr : ∀ i, 0 ≤ zs.getD i 0 ∧ zs.getD i 0 ≤ 255) (k : Nat) (hk : k < zs.length) : byt (zs.map fun n => UInt8.ofNat n.toNat) k = (zs.getD k 0).toNat := by
  have h := hr k
  unfold byt
  rw [List.getD_eq_getElem?_getD, List.getElem?_map, List.getElem?_eq_getElem hk, Option.map_some, Option.getD_some]
  rw [List.getD_eq_getElem?_getD, List.getElem?_eq_getElem hk, Option.getD_some] at h ⊢
  simp
  omega
theorem plain_parse (zs : List Int) (hr : ∀ i, 0 ≤ zs.getD i 0 ∧ zs.getD i 0 ≤ 255) (hl : zs.length ≤ 100) (hp : ∀ k, k < zs.length → ohas punctSet (zs.getD k 0).toNat = false) (w : World) (hG : Gl w) :
    Calls Tryd.prog 10 #[.string (strOfNums zs)] w fun e w' => ∃ v ma mc, e = .returned (.tuple #[v, .slice ma 0 mc, .int .i64 0, .int .i64 0]) ∧ NdX (fun k => k < w'.heap.size) w' (njoin (zs.map oneZ)) v ∧ Below w.heap.size w w' := by
  refine (bparse_any (strOfNums zs) w hG).mono ?_
  rw [show (strOfNums zs).data.toList = zs.map fun n => UInt8.ofNat n.toNat from rfl, parse_plain_bytes _ (by rw [List.length_map]; omega) (fun k hk => by rw [List.length_map] at hk; rw [nums_byt zs hr k hk]; exact hp k hk), nums_map zs hr]
  rintro e w' ⟨hb, v, mv, rfl, hn, hm⟩
  obtain ⟨ma, mc, rfl⟩ := own_form' hm
  exact ⟨v, ma, mc, rfl, ndx_in hn, hb⟩
set_option linter.unusedSimpArgs false in
set_option maxRecDepth 100000 in
set_option maxHeartbeats 1000000 in
theorem plain_law (zs : List Int) (b o cap : Nat) (w : World) (hG : Gl w) (hb : b < w.heap.size) (h1 : 0 < zs.length) (hl : zs.length ≤ 100) (hc : ∀ i, i < zs.length → w.cell? ⟨b, o + i, none⟩ = some (.int .u8 (zs.getD i 0))) (hr : ∀ i, 0 ≤ zs.getD i 0 ∧ zs.getD i 0 ≤ 255) :
    Calls Tryd.prog 6 #[.slice (some ⟨b, o, none⟩) zs.length cap] w fun e w' => e = .returned (.bool true) ∧ Below w.heap.size w w' := by
  have haw := awake4_any w hG
  have e0 : ((zs.length : Int) == 0) = false := by rw [beq_eq_false_iff_ne]; omega
  have e1 : decide ((100 : Int) < (zs.length : Int)) = false := by first | (simp; done) | (simp; omega)
  have e2 : decide (100 < zs.length) = false := by simp; omega
  have hne : zs ≠ [] := by intro h; rw [h] at h1; simp at h1
  have e3 : zs.isEmpty = false := by cases zs with | nil => exact (hne rfl).elim | cons _ _ => rfl
  have HC := Lib.hid hc
  have HRg := Lib.hid hr
  have HGl := Lib.hid hG
  have HL := Lib.hid hl
  clear hc hr h1 hl hne
  go_enter Tryd.func6, Tryd.ntmps6
  go_wp2_with fail
  refine haw.mono ?_
  rintro e w1 ⟨rfl, hW⟩
  have hcl := class_any ⟨#[112, 117, 110, 99, 116]⟩ w1
  rw [ByteArray.toList_eq, show clsSet (ByteArray.mk #[112, 117, 110, 99, 116]).data.toList = punctSet from rfl] at hcl
  generalize clsOk (ByteArray.mk #[112, 117, 110, 99, 116]).data.toList = ok at hcl
  clear haw hG
  go_wp2_with fail
  refine hcl.mono ?_
  rintro e w2 ⟨rfl, b2⟩
  have hW2 := hW.trans (b2.mono hW.size)
  have hB := Blk.new w2 #[.int .u64 (ow punctSet 0), .int .u64 (ow punctSet 1), .int .u64 (ow punctSet 2), .int .u64 (ow punctSet 3)] 57 w2.heap.size rfl
  have hW3 := hW2.alloc hW2.size (.cells #[.int .u64 (ow punctSet 0), .int .u64 (ow punctSet 1), .int .u64 (ow punctSet 2), .int .u64 (ow punctSet 3)] 57)
  have HB := Lib.hid hB
  have HW3 := Lib.hid hW3
  clear hcl b2 hW hW2 hB hW3
  go_wp2_with fail
  go_loopw [30] (fun i wr => ∃ k : Nat, k ≤ zs.length ∧ i = .int .i64 k ∧ (∀ j, j < k → ohas punctSet (zs.getD j 0).toNat = false) ∧ Blk wr w2.heap.size #[.int .u64 (ow punctSet 0), .int .u64 (ow punctSet 1), .int .u64 (ow punctSet 2), .int .u64 (ow punctSet 3)] 57 ∧ Below w.heap.size w wr) (fun i _ => zs.length - (intOf i).toNat)
  case atStart => exact ⟨0, by omega, rfl, fun j hj => absurd hj (by omega), HB.out, HW3.out⟩
  case round =>
    obtain ⟨k, hk, rfl, hno, hBr, hWr⟩ := hrel
    have HNo := Lib.hid hno
    have HBr := Lib.hid hBr
    have HWr := Lib.hid hWr
    clear hno hWr
    have hl100 := HL.out
    by_cases hlt : k < zs.length
    · have hce := (HWr.out.cell (p := ⟨b, o + k, none⟩) hb).trans (HC.out k hlt)
      have hrg := HRg.out k
      obtain ⟨y0, y1, y2, y3, x0, x1, x2, x3, xl⟩ := blk_four hBr
      have hhas := has_any punctSet (zs.getD k 0) hrg.1 hrg.2 wr
      have HG9 := Lib.hid (show ∀ j, j < k + 1 → ohas punctSet (zs.getD k 0).toNat = false → ohas punctSet (zs.getD j 0).toNat = false from fun j hj hz => by
        by_cases h : j < k
        · exact HNo.out j h
        · obtain rfl : j = k := by omega
          exact hz)
      generalize hz : zs.getD k 0 = z at *
      clear hz hrg hBr
      cases hhv : ohas punctSet z.toNat with
      | true =>
        rw [hhv] at hhas
        clear hhv
        go_wp2_with fail
        refine hhas.mono ?_
        rintro e w4 ⟨rfl, b4⟩
        have hW4 := HWr.out.trans (b4.mono HWr.out.size)
        clear hhas b4 hce y0 y1 y2 y3 x0 x1 x2 x3
        go_wp2_with fail
        go_ret
        exact ⟨rfl, hW4⟩
      | false =>
        rw [hhv] at hhas
        have HV := Lib.hid hhv
        clear hhv
        go_wp2_with fail
        refine hhas.mono ?_
        rintro e w4 ⟨rfl, b4⟩
        have HW4 := Lib.hid (HWr.out.trans (b4.mono HWr.out.size))
        have HB4 := Lib.hid (HBr.out.below b4 xl)
        clear hhas b4 hce y0 y1 y2 y3 x0 x1 x2 x3
        go_wp2_with fail
        go_roundw
        case rel => exact ⟨k + 1, by omega, by go_num, fun j hj => HG9.out j hj HV.out, HB4.out, HW4.out⟩
        case measure => simp [intOf]; omega
    · obtain rfl : k = zs.length := by omega
      have hce := fun i (hi : i < zs.length) => (HWr.out.cell (p := ⟨b, o + i, none⟩) hb).trans (HC.out i hi)
      have hcv := run_convert_bytes_arg (P := Tryd.prog) wr 22 5 Tryd.underlying22 Tryd.underlying5 b o zs.length cap zs rfl hce 9 Tryd.underlying9
      have hpp := plain_parse zs HRg.out HL.out HNo.out wr (HGl.out.up HWr.out)
      have HCe := Lib.hid hce
      clear hce hBr hlt
      generalize strOfNums zs = str at *
      go_wp2_with fail
      refine hpp.mono ?_
      rintro e w5 ⟨v, ma, mc, rfl, hn, b5⟩
      have hW5 := HWr.out.trans (b5.mono HWr.out.size)
      have hby := bytes_any zs b o cap (njoin (zs.map oneZ)) v w5 hn (Nat.le_trans (nsize_ones zs) (by have := HL.out; omega)) (Nat.lt_of_lt_of_le hb hW5.size) HL.out (fun i hi => (hW5.cell (p := ⟨b, o + i, none⟩) hb).trans (HC.out i hi)) HRg.out
      rw [nsame_refl] at hby
      clear hpp hcv hn b5
      go_wp2_with fail
      refine hby.mono ?_
      rintro e w6 ⟨rfl, b6⟩
      have hW6 := hW5.trans (b6.mono hW5.size)
      clear hby b6
      go_wp2_with fail
      go_ret
      exact ⟨rfl, hW6⟩
theorem plain_any (a : Option Addr) (len cap : Nat) (zs : List Int) {w0 : World} (hrow : IsRow .u8 w0 a len cap zs) (w : World) (hG : Gl w) (hw : w0 = w := by rfl) :
    Calls Tryd.prog 6 #[.slice a len cap] w fun e w' => e = .returned (.bool true) ∧ Below w.heap.size w w' := by
  subst hw
  by_cases hs : len = 0 ∨ 100 < len
  · exact plain_short a len cap w0 hG hs
  · rcases hrow with ⟨_, h2, _, _⟩ | ⟨ad, rfl, hlc, _, hzl, hc, hwf⟩
    · exact (hs (.inl h2)).elim
    · obtain ⟨b, o, rfl, hc2⟩ := ints_at hc (by omega)
      have hb := World.block_lt_of_cell? w0 _ (hc2 0 (by omega))
      have hlen : (zs.take len).length = len := by rw [List.length_take]; omega
      have hcs : ∀ i, i < (zs.take len).length → w0.cell? ⟨b, o + i, none⟩ = some (.int .u8 ((zs.take len).getD i 0)) := fun i hi => by
        rw [hc2 i (by omega)]
        simp only [List.getD]
        rw [List.getElem?_take_of_lt (by omega)]
      have hrs : ∀ i, 0 ≤ (zs.take len).getD i 0 ∧ (zs.take len).getD i 0 ≤ 255 := fun i => by
        simp only [List.getD]
        by_cases hi : i < len
        · rw [List.getElem?_take_of_lt hi]
          have := range_u8 hwf i
          exact this
        · rw [List.getElem?_eq_none (by omega)]; simp
      have h := plain_law (zs.take len) b o cap w0 hG hb (by omega) (by omega) hcs hrs
      rw [hlen] at h
      exact h
end Go.Proofs.YtbbcjclkklmoaaaDoor
