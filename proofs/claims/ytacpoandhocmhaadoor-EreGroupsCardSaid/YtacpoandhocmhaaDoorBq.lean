/- BqQ: The statements' quoted bytes, walked.
   BqP: The statement BreQuotes, walked. -/
import Derived.Test.YtacpoandhocmhaaDoorBt
import Derived.Test.YtacpoandhocmhaaDoorOctRClass
import Derived.Test.YtacpoandhocmhaaDoorIdx
import Derived.Test.YtacpoandhocmhaaDoorCmn
namespace Go.Proofs.YtacpoandhocmhaaDoor
open Go Go.RowKit Go.Shelf

/-- How a byte is told, in a basic regex or an extended one. -/
def qzg (ere : Bool) (b : Nat) : List UInt8 := if b = 10 then [92, 110] else if !ere && qPlain b then [UInt8.ofNat b] else if ohas punctSet b then [92, UInt8.ofNat b] else [UInt8.ofNat b]
theorem qzg_len (ere : Bool) (b : Nat) : (qzg ere b).length ≤ 2 := by
  unfold qzg
  repeat (split; · simp)
  simp
def quotedG (ere : Bool) (l : List Nat) : List UInt8 := l.flatMap (qzg ere)
theorem quotedG_bre (l : List Nat) : quotedG false l = quoted l := by
  unfold quotedG quoted
  congr 1
theorem quotedG_len (ere : Bool) (l : List Nat) : (quotedG ere l).length ≤ 2 * l.length := by
  induction l with
  | nil => simp [quotedG]
  | cons b l ih =>
    have h := qzg_len ere b
    unfold quotedG at ih ⊢
    rw [List.flatMap_cons, List.length_append, List.length_cons]
    omega
theorem quotedG_snoc (ere : Bool) (zs : List Int) (k : Nat) (h : k < zs.length) : quotedG ere ((zs.take (k + 1)).map Int.toNat) = quotedG ere ((zs.take k).map Int.toNat) ++ qzg ere (zs.getD k 0).toNat := by
  rw [List.take_succ_eq_append_getElem h, List.map_append]
  unfold quotedG
  rw [List.flatMap_append]
  simp [List.getD, List.getElem?_eq_getElem h]
theorem qzg_ten (ere : Bool) : qzg ere 10 = [92, 110] := rfl
theorem qzg_esc (ere : Bool) (b : Nat) (h10 : b ≠ 10) (hq : ere = true ∨ qPlain b = false) (hp : ohas punctSet b = true) : qzg ere b = [92, UInt8.ofNat b] := by
  unfold qzg
  rw [if_neg h10, if_neg (by rcases hq with rfl | h <;> simp_all), if_pos hp]
theorem qzg_self (ere : Bool) (b : Nat) (h10 : b ≠ 10) (hp : ohas punctSet b = false) : qzg ere b = [UInt8.ofNat b] := by
  unfold qzg
  rw [if_neg h10]
  split
  · rfl
  · rw [if_neg (by simp [hp])]
set_option linter.unusedSimpArgs false in
set_option maxRecDepth 100000 in
set_option maxHeartbeats 4000000 in
theorem quoted_bre (zs : List Int) (b o cap : Nat) (w : World) (hb : b < w.heap.size) (hl : zs.length ≤ 100) (hc : ∀ i, i < zs.length → w.cell? ⟨b, o + i, none⟩ = some (.int .u8 (zs.getD i 0))) (hr : ∀ i, 0 ≤ zs.getD i 0 ∧ zs.getD i 0 ≤ 255) :
    Calls Tryd.prog 7 #[.slice (some ⟨b, o, none⟩) zs.length cap, .bool false] w fun e w' => ∃ t : ByteArray, e = .returned (.string t) ∧ t.data.toList = quotedG false (zs.map Int.toNat) ∧ Below w.heap.size w w' := by
  have hcl := rclass_any ⟨#[112, 117, 110, 99, 116]⟩ w
  rw [ByteArray.toList_eq, show clsSet (ByteArray.mk #[112, 117, 110, 99, 116]).data.toList = punctSet from rfl] at hcl
  generalize clsOk (ByteArray.mk #[112, 117, 110, 99, 116]).data.toList = ok at hcl
  have HC := Lib.hid hc
  have HRg := Lib.hid hr
  have HL := Lib.hid hl
  clear hc hr hl
  go_enter Tryd.func7, Tryd.ntmps7
  go_wp2_with fail
  refine hcl.mono ?_
  rintro e w2 ⟨rfl, hW2⟩
  have hB := Blk.new w2 #[.int .u64 (ow punctSet 0), .int .u64 (ow punctSet 1), .int .u64 (ow punctSet 2), .int .u64 (ow punctSet 3)] 56 w2.heap.size rfl
  have HB := Lib.hid hB
  have HW3 := Lib.hid (hW2.alloc hW2.size (.cells #[.int .u64 (ow punctSet 0), .int .u64 (ow punctSet 1), .int .u64 (ow punctSet 2), .int .u64 (ow punctSet 3)] 56))
  clear hcl hB hW2
  go_wp2_with fail
  go_loopw [7, 16] (fun sv i wr => ∃ (k : Nat) (S : ByteArray), k ≤ zs.length ∧ i = .int .i64 k ∧ sv = .string S ∧ S.data.toList = quotedG false ((zs.take k).map Int.toNat) ∧ Blk wr w2.heap.size #[.int .u64 (ow punctSet 0), .int .u64 (ow punctSet 1), .int .u64 (ow punctSet 2), .int .u64 (ow punctSet 3)] 56 ∧ Below w.heap.size w wr) (fun _ i _ => zs.length - (intOf i).toNat)
  case atStart => exact ⟨0, _, by omega, rfl, rfl, rfl, HB.out, HW3.out⟩
  case round =>
    obtain ⟨k, S, hk, rfl, rfl, hS, hBr, hW⟩ := hrel
    have HBr := Lib.hid hBr
    have hSz : S.size ≤ 200 := by
      rw [← plist_size, hS]
      have := quotedG_len false ((zs.take k).map Int.toNat)
      rw [List.length_map, List.length_take] at this
      have := HL.out
      omega
    by_cases hlt : k < zs.length
    · have hz := HRg.out k
      have c9 := (hW.cell (p := ⟨b, o + k, none⟩) hb).trans (HC.out k hlt)
      have Hs := Lib.hid (quotedG_snoc false zs k hlt)
      generalize zs.getD k 0 = z at hz c9 Hs
      have HS := Lib.hid hS
      have HW := Lib.hid hW
      have hl100 := HL.out
      clear hS
      by_cases h10 : z = 10
      · subst h10
        have HZ := Lib.hid (show qzg false (Int.toNat 10) = [92, 110] from rfl)
        clear hW
        go_wp2_with fail
        (go_roundw; (case rel => exact ⟨k + 1, _, by omega, by go_num, rfl, by rw [Hs.out, HZ.out, ← HS.out]; simp [strOfNums, ByteArray.data_append], by repeat (first | (with_reducible exact HBr.out) | refine Blk.alloc ?_ _), by repeat (first | (with_reducible exact HW.out) | refine Below.alloc ?_ (by have := HW.out.size; simp; omega) _)⟩); (case measure => simp [intOf]; omega))
      have hhas := rhas_any punctSet z hz.1 hz.2 wr
      obtain ⟨y0, y1, y2, y3, x0, x1, x2, x3, xl⟩ := blk_four hBr
      clear hW
      by_cases hq : qPlain z.toNat = true
      · have hq2 := hq
        unfold qPlain at hq2
        simp only [Bool.or_eq_true, decide_eq_true_eq] at hq2
        clear hhas
        have hq3 : z = 40 ∨ z = 41 ∨ z = 123 ∨ z = 124 ∨ z = 43 ∨ z = 63 := by omega
        clear hq2 hq h10
        rcases hq3 with hzz | hzz | hzz | hzz | hzz | hzz
        · (subst hzz; have HZ := Lib.hid (show qzg false (Int.toNat 40) = [UInt8.ofNat 40] from rfl); have kc := pconv1 wr 40; have hB1 : (strOfNums [(40 : Int)]).size ≤ 1 := by rw [strOfNums_size]; simp); go_wp2_with fail; (go_roundw; (case rel => exact ⟨k + 1, _, by omega, by go_num, rfl, by rw [Hs.out, HZ.out, ← HS.out]; simp [strOfNums, ByteArray.data_append], by repeat (first | (with_reducible exact HBr.out) | refine Blk.alloc ?_ _), by repeat (first | (with_reducible exact HW.out) | refine Below.alloc ?_ (by have := HW.out.size; simp; omega) _)⟩); (case measure => simp [intOf]; omega))
        · (subst hzz; have HZ := Lib.hid (show qzg false (Int.toNat 41) = [UInt8.ofNat 41] from rfl); have kc := pconv1 wr 41; have hB1 : (strOfNums [(41 : Int)]).size ≤ 1 := by rw [strOfNums_size]; simp); go_wp2_with fail; (go_roundw; (case rel => exact ⟨k + 1, _, by omega, by go_num, rfl, by rw [Hs.out, HZ.out, ← HS.out]; simp [strOfNums, ByteArray.data_append], by repeat (first | (with_reducible exact HBr.out) | refine Blk.alloc ?_ _), by repeat (first | (with_reducible exact HW.out) | refine Below.alloc ?_ (by have := HW.out.size; simp; omega) _)⟩); (case measure => simp [intOf]; omega))
        · (subst hzz; have HZ := Lib.hid (show qzg false (Int.toNat 123) = [UInt8.ofNat 123] from rfl); have kc := pconv1 wr 123; have hB1 : (strOfNums [(123 : Int)]).size ≤ 1 := by rw [strOfNums_size]; simp); go_wp2_with fail; (go_roundw; (case rel => exact ⟨k + 1, _, by omega, by go_num, rfl, by rw [Hs.out, HZ.out, ← HS.out]; simp [strOfNums, ByteArray.data_append], by repeat (first | (with_reducible exact HBr.out) | refine Blk.alloc ?_ _), by repeat (first | (with_reducible exact HW.out) | refine Below.alloc ?_ (by have := HW.out.size; simp; omega) _)⟩); (case measure => simp [intOf]; omega))
        · (subst hzz; have HZ := Lib.hid (show qzg false (Int.toNat 124) = [UInt8.ofNat 124] from rfl); have kc := pconv1 wr 124; have hB1 : (strOfNums [(124 : Int)]).size ≤ 1 := by rw [strOfNums_size]; simp); go_wp2_with fail; (go_roundw; (case rel => exact ⟨k + 1, _, by omega, by go_num, rfl, by rw [Hs.out, HZ.out, ← HS.out]; simp [strOfNums, ByteArray.data_append], by repeat (first | (with_reducible exact HBr.out) | refine Blk.alloc ?_ _), by repeat (first | (with_reducible exact HW.out) | refine Below.alloc ?_ (by have := HW.out.size; simp; omega) _)⟩); (case measure => simp [intOf]; omega))
        · (subst hzz; have HZ := Lib.hid (show qzg false (Int.toNat 43) = [UInt8.ofNat 43] from rfl); have kc := pconv1 wr 43; have hB1 : (strOfNums [(43 : Int)]).size ≤ 1 := by rw [strOfNums_size]; simp); go_wp2_with fail; (go_roundw; (case rel => exact ⟨k + 1, _, by omega, by go_num, rfl, by rw [Hs.out, HZ.out, ← HS.out]; simp [strOfNums, ByteArray.data_append], by repeat (first | (with_reducible exact HBr.out) | refine Blk.alloc ?_ _), by repeat (first | (with_reducible exact HW.out) | refine Below.alloc ?_ (by have := HW.out.size; simp; omega) _)⟩); (case measure => simp [intOf]; omega))
        · (subst hzz; have HZ := Lib.hid (show qzg false (Int.toNat 63) = [UInt8.ofNat 63] from rfl); have kc := pconv1 wr 63; have hB1 : (strOfNums [(63 : Int)]).size ≤ 1 := by rw [strOfNums_size]; simp); go_wp2_with fail; (go_roundw; (case rel => exact ⟨k + 1, _, by omega, by go_num, rfl, by rw [Hs.out, HZ.out, ← HS.out]; simp [strOfNums, ByteArray.data_append], by repeat (first | (with_reducible exact HBr.out) | refine Blk.alloc ?_ _), by repeat (first | (with_reducible exact HW.out) | refine Below.alloc ?_ (by have := HW.out.size; simp; omega) _)⟩); (case measure => simp [intOf]; omega))
      · rw [Bool.not_eq_true] at hq
        have hq2 := hq
        unfold qPlain at hq2
        simp only [Bool.or_eq_false_iff, decide_eq_false_iff_not] at hq2
        obtain ⟨⟨⟨⟨⟨g1, g2⟩, g3⟩, g4⟩, g5⟩, g6⟩ := hq2
        have f0 : (z == 10) = false := by rw [beq_eq_false_iff_ne]; exact h10
        have f1 : (z == 40) = false := by rw [beq_eq_false_iff_ne]; omega
        have f2 : (z == 41) = false := by rw [beq_eq_false_iff_ne]; omega
        have f3 : (z == 123) = false := by rw [beq_eq_false_iff_ne]; omega
        have f4 : (z == 124) = false := by rw [beq_eq_false_iff_ne]; omega
        have f5 : (z == 43) = false := by rw [beq_eq_false_iff_ne]; omega
        have f6 : (z == 63) = false := by rw [beq_eq_false_iff_ne]; omega
        cases hp : ohas punctSet z.toNat with
        | true =>
          have HZ := Lib.hid (qzg_esc false z.toNat (by omega) (.inr hq) hp)
          rw [hp] at hhas
          clear hp hq g1 g2 g3 g4 g5 g6 h10
          go_wp2_with fail
          refine hhas.mono ?_
          rintro e w3 ⟨rfl, b3⟩
          have hW := HW.out.trans (b3.mono HW.out.size)
          have HW := Lib.hid hW
          have HBr := Lib.hid (HBr.out.below b3 xl)
          have kc := pconv2 w3 92 z
          have hB1 : (strOfNums [92, z]).size ≤ 2 := by rw [strOfNums_size]; simp
          clear hhas b3 c9 hW y0 y1 y2 y3 x0 x1 x2 x3
          go_wp2_with fail
          (go_roundw; (case rel => exact ⟨k + 1, _, by omega, by go_num, rfl, by rw [Hs.out, HZ.out, ← HS.out]; simp [strOfNums, ByteArray.data_append], by repeat (first | (with_reducible exact HBr.out) | refine Blk.alloc ?_ _), by repeat (first | (with_reducible exact HW.out) | refine Below.alloc ?_ (by have := HW.out.size; simp; omega) _)⟩); (case measure => simp [intOf]; omega))
        | false =>
          have HZ := Lib.hid (qzg_self false z.toNat (by omega) hp)
          rw [hp] at hhas
          clear hp hq g1 g2 g3 g4 g5 g6 h10
          go_wp2_with fail
          refine hhas.mono ?_
          rintro e w3 ⟨rfl, b3⟩
          have hW := HW.out.trans (b3.mono HW.out.size)
          have HW := Lib.hid hW
          have HBr := Lib.hid (HBr.out.below b3 xl)
          have kc := pconv1 w3 z
          have hB1 : (strOfNums [z]).size ≤ 1 := by rw [strOfNums_size]; simp
          clear hhas b3 c9 hW y0 y1 y2 y3 x0 x1 x2 x3
          go_wp2_with fail
          (go_roundw; (case rel => exact ⟨k + 1, _, by omega, by go_num, rfl, by rw [Hs.out, HZ.out, ← HS.out]; simp [strOfNums, ByteArray.data_append], by repeat (first | (with_reducible exact HBr.out) | refine Blk.alloc ?_ _), by repeat (first | (with_reducible exact HW.out) | refine Below.alloc ?_ (by have := HW.out.size; simp; omega) _)⟩); (case measure => simp [intOf]; omega))
    · obtain rfl : k = zs.length := by omega
      rw [List.take_length] at hS
      clear hBr
      go_wp2_with fail
      go_ret
      exact ⟨_, rfl, hS, hW⟩
end Go.Proofs.YtacpoandhocmhaaDoor
namespace Go.Proofs.YtacpoandhocmhaaDoor
open Go Go.RowKit Go.Shelf

end Go.Proofs.YtacpoandhocmhaaDoor
