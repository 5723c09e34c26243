/- The statement EreQuotes, walked, from what ere.Parse answers (EParses); the statements' fixed fact of layer 5. -/
import Derived.Test.YtacpoandhocmhaaDoorCmn
import Derived.Test.YtacpoandhocmhaaDoorEqM
import Derived.Test.YtacpoandhocmhaaDoorBq
namespace Go.Proofs.YtacpoandhocmhaaDoor
open Go Go.RowKit Go.Shelf

/-- What ere.Parse answers, whatever the text. -/
def EParses : Prop := ∀ (s : ByteArray) (w : World), Gl w → Calls Tryd.prog 6 #[.string s] w fun e w' => PAns (parseM true s.data.toList) w e w'
theorem ndx_alt_form {F : Nat → Prop} {w : World} {l : List Nd} {v : Value} (h : NdX F w (.alt l) v) : ∃ a cap, v = .iface 40 (.agg #[.slice a l.length cap]) := by
  obtain ⟨n, h⟩ := h
  cases n with
  | zero => exact h.elim
  | succ n => obtain ⟨a, cap, h1, _⟩ := h; exact ⟨a, cap, h1⟩
theorem ereEx1 (hP : EParses) (w : World) (hG : Gl w) : Calls Tryd.prog 6 #[.string ⟨#[97, 124, 40, 98, 41, 43]⟩] w fun e w' => ∃ a c ma mc, e = .returned (.tuple #[.iface 40 (.agg #[.slice a 2 c]), .slice ma 0 mc, .int .i64 0, .int .i64 0]) ∧ NdX (fun k => k < w'.heap.size) w' ereN1 (.iface 40 (.agg #[.slice a 2 c])) ∧ Below w.heap.size w w' := by
  refine (hP ⟨#[97, 124, 40, 98, 41, 43]⟩ w hG).mono ?_
  rw [show (ByteArray.mk #[97, 124, 40, 98, 41, 43]).data.toList = [97, 124, 40, 98, 41, 43] from rfl, ere_ex1]
  rintro e w' ⟨hb, v, mv, rfl, hn, hm⟩
  obtain ⟨a, c, rfl⟩ := ndx_alt_form hn
  obtain ⟨ma, mc, rfl⟩ := own_form' hm
  exact ⟨a, c, ma, mc, rfl, ndx_in hn, hb⟩
theorem ereEx2 (hP : EParses) (w : World) (hG : Gl w) : Calls Tryd.prog 6 #[.string ⟨#[42, 97]⟩] w fun e w' => e = .returned (.tuple #[.nilIface, .slice none 0 0, .int .i64 0, .int .i64 10]) ∧ Below w.heap.size w w' := by
  refine (hP ⟨#[42, 97]⟩ w hG).mono ?_
  rw [show (ByteArray.mk #[42, 97]).data.toList = [42, 97] from rfl, ere_ex2]
  rintro e w' ⟨hb, rfl⟩
  exact ⟨rfl, hb⟩
set_option linter.unusedSimpArgs false in
set_option maxRecDepth 100000 in
set_option maxHeartbeats 1000000 in
theorem awake5_any (hP : EParses) (w : World) (hG : Gl w) : Calls Tryd.prog 5 #[] w fun e w' => e = .returned (.bool true) ∧ Below w.heap.size w w' := by
  go_enter Tryd.func5, Tryd.ntmps5
  go_wp2_with fail
  refine (ereEx1 hP w hG).mono ?_
  rintro e w1 ⟨a, c, ma, mc, rfl, hn1, hW⟩
  have hA := (Below.refl w1.heap.size w1).alloc (Nat.le_refl _) (.cells #[.slice a 2 c] 40)
  have hG1 := (hG.up hW).up hA
  have hn1' := NdX.below hA hn1
  have hW1 := hW.trans (hA.mono hW.size)
  have hC := Blk.new w1 #[.slice a 2 c] 40 w1.heap.size rfl
  clear hn1 hW hA
  have HE2 := ereEx2 hP _ hG1
  clear hG1
  go_wp2_with fail
  refine HE2.mono ?_
  rintro e w2 ⟨rfl, b2⟩
  have hn3 := NdX.below b2 hn1'
  have hC2 := hC.below b2 hC.lt
  have hW2 := hW1.trans (b2.mono hW1.size)
  have hgr := pgroups_any ereN1 _ w2 (ndx_in hn3) ere_size1
  rw [ere_groups1] at hgr
  have k0 : w2.cell? ⟨w1.heap.size, 0, none⟩ = some (.slice a 2 c) := (hC2.cell 0).trans rfl
  clear hn1' hW1 hC hn3 hC2 b2 HE2
  go_wp2_with fail
  refine hgr.mono ?_
  rintro e w3 ⟨rfl, b3⟩
  have hW3 := hW2.trans (b3.mono hW2.size)
  clear hgr b3 k0
  go_wp2_with fail
  go_ret
  exact ⟨rfl, hW3⟩
set_option linter.unusedSimpArgs false in
set_option maxRecDepth 100000 in
set_option maxHeartbeats 4000000 in
theorem quoted_ere (zs : List Int) (b o cap : Nat) (w : World) (hb : b < w.heap.size) (hl : zs.length ≤ 100) (hc : ∀ i, i < zs.length → w.cell? ⟨b, o + i, none⟩ = some (.int .u8 (zs.getD i 0))) (hr : ∀ i, 0 ≤ zs.getD i 0 ∧ zs.getD i 0 ≤ 255) :
    Calls Tryd.prog 7 #[.slice (some ⟨b, o, none⟩) zs.length cap, .bool true] w fun e w' => ∃ t : ByteArray, e = .returned (.string t) ∧ t.data.toList = quotedG true (zs.map Int.toNat) ∧ Below w.heap.size w w' := by
  have hcl := rclass_any ⟨#[112, 117, 110, 99, 116]⟩ w
  rw [ByteArray.toList_eq, show clsSet (ByteArray.mk #[112, 117, 110, 99, 116]).data.toList = punctSet from rfl] at hcl
  generalize clsOk (ByteArray.mk #[112, 117, 110, 99, 116]).data.toList = ok at hcl
  have HC := Lib.hid hc
  have HRg := Lib.hid hr
  have HL := Lib.hid hl
  clear hc hr hl
  go_enter Tryd.func7, Tryd.ntmps7
  go_wp2_with fail
  refine hcl.mono ?_
  rintro e w2 ⟨rfl, hW2⟩
  have hB := Blk.new w2 #[.int .u64 (ow punctSet 0), .int .u64 (ow punctSet 1), .int .u64 (ow punctSet 2), .int .u64 (ow punctSet 3)] 56 w2.heap.size rfl
  have HB := Lib.hid hB
  have HW3 := Lib.hid (hW2.alloc hW2.size (.cells #[.int .u64 (ow punctSet 0), .int .u64 (ow punctSet 1), .int .u64 (ow punctSet 2), .int .u64 (ow punctSet 3)] 56))
  clear hcl hB hW2
  go_wp2_with fail
  go_loopw [7, 16] (fun sv i wr => ∃ (k : Nat) (S : ByteArray), k ≤ zs.length ∧ i = .int .i64 k ∧ sv = .string S ∧ S.data.toList = quotedG true ((zs.take k).map Int.toNat) ∧ Blk wr w2.heap.size #[.int .u64 (ow punctSet 0), .int .u64 (ow punctSet 1), .int .u64 (ow punctSet 2), .int .u64 (ow punctSet 3)] 56 ∧ Below w.heap.size w wr) (fun _ i _ => zs.length - (intOf i).toNat)
  case atStart => exact ⟨0, _, by omega, rfl, rfl, rfl, HB.out, HW3.out⟩
  case round =>
    obtain ⟨k, S, hk, rfl, rfl, hS, hBr, hW⟩ := hrel
    have HBr := Lib.hid hBr
    have hSz : S.size ≤ 200 := by
      rw [← plist_size, hS]
      have := quotedG_len true ((zs.take k).map Int.toNat)
      rw [List.length_map, List.length_take] at this
      have := HL.out
      omega
    by_cases hlt : k < zs.length
    · have hz := HRg.out k
      have c9 := (hW.cell (p := ⟨b, o + k, none⟩) hb).trans (HC.out k hlt)
      have Hs := Lib.hid (quotedG_snoc true zs k hlt)
      generalize zs.getD k 0 = z at hz c9 Hs
      have HS := Lib.hid hS
      have HW := Lib.hid hW
      have hl100 := HL.out
      clear hS
      by_cases h10 : z = 10
      · subst h10
        have HZ := Lib.hid (show qzg true (Int.toNat 10) = [92, 110] from rfl)
        clear hW
        go_wp2_with fail
        (go_roundw; (case rel => exact ⟨k + 1, _, by omega, by go_num, rfl, by rw [Hs.out, HZ.out, ← HS.out]; simp [strOfNums, ByteArray.data_append], by repeat (first | (with_reducible exact HBr.out) | refine Blk.alloc ?_ _), by repeat (first | (with_reducible exact HW.out) | refine Below.alloc ?_ (by have := HW.out.size; simp; omega) _)⟩); (case measure => simp [intOf]; omega))
      have hhas := rhas_any punctSet z hz.1 hz.2 wr
      obtain ⟨y0, y1, y2, y3, x0, x1, x2, x3, xl⟩ := blk_four hBr
      clear hW
      have f0 : (z == 10) = false := by rw [beq_eq_false_iff_ne]; exact h10
      cases hp : ohas punctSet z.toNat with
      | true =>
        have HZ := Lib.hid (qzg_esc true z.toNat (by omega) (.inl rfl) hp)
        rw [hp] at hhas
        clear hp h10
        go_wp2_with fail
        refine hhas.mono ?_
        rintro e w3 ⟨rfl, b3⟩
        have hW := HW.out.trans (b3.mono HW.out.size)
        have HW := Lib.hid hW
        have HBr := Lib.hid (HBr.out.below b3 xl)
        have kc := pconv2 w3 92 z
        have hB1 : (strOfNums [92, z]).size ≤ 2 := by rw [strOfNums_size]; simp
        clear hhas b3 c9 hW y0 y1 y2 y3 x0 x1 x2 x3
        go_wp2_with fail
        (go_roundw; (case rel => exact ⟨k + 1, _, by omega, by go_num, rfl, by rw [Hs.out, HZ.out, ← HS.out]; simp [strOfNums, ByteArray.data_append], by repeat (first | (with_reducible exact HBr.out) | refine Blk.alloc ?_ _), by repeat (first | (with_reducible exact HW.out) | refine Below.alloc ?_ (by have := HW.out.size; simp; omega) _)⟩); (case measure => simp [intOf]; omega))
      | false =>
        have HZ := Lib.hid (qzg_self true z.toNat (by omega) hp)
        rw [hp] at hhas
        clear hp h10
        go_wp2_with fail
        refine hhas.mono ?_
        rintro e w3 ⟨rfl, b3⟩
        have hW := HW.out.trans (b3.mono HW.out.size)
        have HW := Lib.hid hW
        have HBr := Lib.hid (HBr.out.below b3 xl)
        have kc := pconv1 w3 z
        have hB1 : (strOfNums [z]).size ≤ 1 := by rw [strOfNums_size]; simp
        clear hhas b3 c9 hW y0 y1 y2 y3 x0 x1 x2 x3
        go_wp2_with fail
        (go_roundw; (case rel => exact ⟨k + 1, _, by omega, by go_num, rfl, by rw [Hs.out, HZ.out, ← HS.out]; simp [strOfNums, ByteArray.data_append], by repeat (first | (with_reducible exact HBr.out) | refine Blk.alloc ?_ _), by repeat (first | (with_reducible exact HW.out) | refine Below.alloc ?_ (by have := HW.out.size; simp; omega) _)⟩); (case measure => simp [intOf]; omega))
    · obtain rfl : k = zs.length := by omega
      rw [List.take_length] at hS
      clear hBr
      go_wp2_with fail
      go_ret
      exact ⟨_, rfl, hS, hW⟩
set_option linter.unusedSimpArgs false in
set_option maxRecDepth 100000 in
set_option maxHeartbeats 1000000 in
theorem equotes_short (hP : EParses) (a : Option Addr) (len cap : Nat) (w : World) (hG : Gl w) (h : len = 0 ∨ 100 < len) :
    Calls Tryd.prog 3 #[.slice a len cap] w fun e w' => e = .returned (.bool true) ∧ Below w.heap.size w w' := by
  have haw := awake5_any hP w hG
  rcases h with rfl | h
  · go_enter Tryd.func3, Tryd.ntmps3
    go_wp2_with fail
    refine haw.mono ?_
    rintro e w1 ⟨rfl, hW⟩
    have haw2 := awake5_any hP w1 (hG.up hW)
    clear haw hG
    go_wp2_with fail
    refine haw2.mono ?_
    rintro e w2 ⟨rfl, b2⟩
    have hW2 := hW.trans (b2.mono hW.size)
    clear haw2 b2
    go_wp2_with fail
    go_ret
    exact ⟨rfl, hW2⟩
  · have e0 : ((len : Int) == 0) = false := by rw [beq_eq_false_iff_ne]; omega
    have e1 : decide ((100 : Int) < (len : Int)) = true := by first | (simp; done) | (simp; omega)
    have e2 : decide (100 < len) = true := decide_eq_true h
    clear h
    go_enter Tryd.func3, Tryd.ntmps3
    go_wp2_with fail
    refine haw.mono ?_
    rintro e w1 ⟨rfl, hW⟩
    have haw2 := awake5_any hP w1 (hG.up hW)
    clear haw hG
    go_wp2_with fail
    refine haw2.mono ?_
    rintro e w2 ⟨rfl, b2⟩
    have hW2 := hW.trans (b2.mono hW.size)
    clear haw2 b2
    go_wp2_with fail
    go_ret
    exact ⟨rfl, hW2⟩
theorem equotes_parse (hP : EParses) (zs : List Int) (t : ByteArray) (ht : t.data.toList = quotedG true (zs.map Int.toNat)) (hr : ∀ i, 0 ≤ zs.getD i 0 ∧ zs.getD i 0 ≤ 255) (hl : zs.length ≤ 100) (w : World) (hG : Gl w) :
    Calls Tryd.prog 6 #[.string t] w fun e w' => ∃ v ma mc, e = .returned (.tuple #[v, .slice ma 0 mc, .int .i64 0, .int .i64 0]) ∧ NdX (fun k => k < w'.heap.size) w' (njoin (zs.map oneZ)) v ∧ Below w.heap.size w w' := by
  have hlen := quotedG_len true (zs.map Int.toNat)
  rw [List.length_map] at hlen
  have hall : ∀ b ∈ zs.map Int.toNat, b < 256 := by
    intro b hb
    obtain ⟨z, hz, rfl⟩ := List.mem_map.1 hb
    obtain ⟨i, hi, rfl⟩ := List.mem_iff_getElem.1 hz
    have h := hr i
    rw [List.getD_eq_getElem?_getD, List.getElem?_eq_getElem hi, Option.getD_some] at h
    omega
  refine (hP t w hG).mono ?_
  rw [ht, parse_equoted _ hall (by omega), nums_ones zs hr]
  rintro e w' ⟨hb, v, mv, rfl, hn, hm⟩
  obtain ⟨ma, mc, rfl⟩ := own_form' hm
  exact ⟨v, ma, mc, rfl, ndx_in hn, hb⟩
set_option linter.unusedSimpArgs false in
set_option maxRecDepth 100000 in
set_option maxHeartbeats 1000000 in
theorem equotes_law (hP : EParses) (zs : List Int) (b o cap : Nat) (w : World) (hG : Gl w) (hb : b < w.heap.size) (h1 : 0 < zs.length) (hl : zs.length ≤ 100) (hc : ∀ i, i < zs.length → w.cell? ⟨b, o + i, none⟩ = some (.int .u8 (zs.getD i 0))) (hr : ∀ i, 0 ≤ zs.getD i 0 ∧ zs.getD i 0 ≤ 255) :
    Calls Tryd.prog 3 #[.slice (some ⟨b, o, none⟩) zs.length cap] w fun e w' => e = .returned (.bool true) ∧ Below w.heap.size w w' := by
  have haw := awake5_any hP w hG
  have e0 : ((zs.length : Int) == 0) = false := by rw [beq_eq_false_iff_ne]; omega
  have e1 : decide ((100 : Int) < (zs.length : Int)) = false := by first | (simp; done) | (simp; omega)
  have e2 : decide (100 < zs.length) = false := by simp; omega
  have hne : zs ≠ [] := by intro h; rw [h] at h1; simp at h1
  have e3 : zs.isEmpty = false := by cases zs with | nil => exact (hne rfl).elim | cons _ _ => rfl
  have HC := Lib.hid hc
  have HRg := Lib.hid hr
  have HGl := Lib.hid hG
  have HL := Lib.hid hl
  clear hc hr h1 hl hne
  go_enter Tryd.func3, Tryd.ntmps3
  go_wp2_with fail
  refine haw.mono ?_
  rintro e w1 ⟨rfl, hW⟩
  have hq := quoted_ere zs b o cap w1 (Nat.lt_of_lt_of_le hb hW.size) HL.out (fun i hi => (hW.cell (p := ⟨b, o + i, none⟩) hb).trans (HC.out i hi)) HRg.out
  clear haw hG
  go_wp2_with fail
  refine hq.mono ?_
  rintro e w2 ⟨t, rfl, ht, b2⟩
  have hW2 := hW.trans (b2.mono hW.size)
  have hpp := equotes_parse hP zs t ht HRg.out HL.out w2 (HGl.out.up hW2)
  clear hq b2 hW ht
  go_wp2_with fail
  refine hpp.mono ?_
  rintro e w5 ⟨v, ma, mc, rfl, hn, b5⟩
  have hW5 := hW2.trans (b5.mono hW2.size)
  have hby := bytes_any zs b o cap (njoin (zs.map oneZ)) v w5 hn (Nat.le_trans (nsize_ones zs) (by have := HL.out; omega)) (Nat.lt_of_lt_of_le hb hW5.size) HL.out (fun i hi => (hW5.cell (p := ⟨b, o + i, none⟩) hb).trans (HC.out i hi)) HRg.out
  rw [nsame_refl] at hby
  clear hpp hn b5 hW2
  go_wp2_with fail
  refine hby.mono ?_
  rintro e w6 ⟨rfl, b6⟩
  have hW6 := hW5.trans (b6.mono hW5.size)
  clear hby b6
  go_wp2_with fail
  go_ret
  exact ⟨rfl, hW6⟩
theorem equotes_any (hP : EParses) (a : Option Addr) (len cap : Nat) (zs : List Int) {w0 : World} (hrow : IsRow .u8 w0 a len cap zs) (w : World) (hG : Gl w) (hw : w0 = w := by rfl) :
    Calls Tryd.prog 3 #[.slice a len cap] w fun e w' => e = .returned (.bool true) ∧ Below w.heap.size w w' := by
  subst hw
  by_cases hs : len = 0 ∨ 100 < len
  · exact equotes_short hP a len cap w0 hG hs
  · rcases hrow with ⟨_, h2, _, _⟩ | ⟨ad, rfl, hlc, _, hzl, hc, hwf⟩
    · exact (hs (.inl h2)).elim
    · obtain ⟨b, o, rfl, hc2⟩ := ints_at hc (by omega)
      have hb := World.block_lt_of_cell? w0 _ (hc2 0 (by omega))
      have hlen : (zs.take len).length = len := by rw [List.length_take]; omega
      have hcs : ∀ i, i < (zs.take len).length → w0.cell? ⟨b, o + i, none⟩ = some (.int .u8 ((zs.take len).getD i 0)) := fun i hi => by
        rw [hc2 i (by omega)]
        simp only [List.getD]
        rw [List.getElem?_take_of_lt (by omega)]
      have hrs : ∀ i, 0 ≤ (zs.take len).getD i 0 ∧ (zs.take len).getD i 0 ≤ 255 := fun i => by
        simp only [List.getD]
        by_cases hi : i < len
        · rw [List.getElem?_take_of_lt hi]
          have := range_u8 hwf i
          exact this
        · rw [List.getElem?_eq_none (by omega)]; simp
      have h := equotes_law hP (zs.take len) b o cap w0 hG hb (by omega) (by omega) hcs hrs
      rw [hlen] at h
      exact h
end Go.Proofs.YtacpoandhocmhaaDoor
