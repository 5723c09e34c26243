/- The statement BreQuotes, walked. -/
import Derived.Test.YtbbcjclkklmoaaaDoorBqQ
namespace Go.Proofs.YtbbcjclkklmoaaaDoor
open Go Go.RowKit Go.Shelf

set_option linter.unusedSimpArgs false in
set_option maxRecDepth 100000 in
set_option maxHeartbeats 1000000 in
theorem quotes_short (a : Option Addr) (len cap : Nat) (w : World) (hG : Gl w) (h : len = 0 ∨ 100 < len) :
    Calls Tryd.prog 3 #[.slice a len cap] w fun e w' => e = .returned (.bool true) ∧ Below w.heap.size w w' := by
  have haw := awake4_any w hG
  rcases h with rfl | h
  · go_enter Tryd.func3, Tryd.ntmps3
    go_wp2_with fail
    refine haw.mono ?_
    rintro e w1 ⟨rfl, hW⟩
    have haw2 := awake4_any w1 (hG.up hW)
    clear haw hG
    go_wp2_with fail
    refine haw2.mono ?_
    rintro e w2 ⟨rfl, b2⟩
    have hW2 := hW.trans (b2.mono hW.size)
    clear haw2 b2
    go_wp2_with fail
    go_ret
    exact ⟨rfl, hW2⟩
  · have e0 : ((len : Int) == 0) = false := by rw [beq_eq_false_iff_ne]; omega
    have e1 : decide ((100 : Int) < (len : Int)) = true := by first | (simp; done) | (simp; omega)
    have e2 : decide (100 < len) = true := decide_eq_true h
    clear h
    go_enter Tryd.func3, Tryd.ntmps3
    go_wp2_with fail
    refine haw.mono ?_
    rintro e w1 ⟨rfl, hW⟩
    have haw2 := awake4_any w1 (hG.up hW)
    clear haw hG
    go_wp2_with fail
    refine haw2.mono ?_
    rintro e w2 ⟨rfl, b2⟩
    have hW2 := hW.trans (b2.mono hW.size)
    clear haw2 b2
    go_wp2_with fail
    go_ret
    exact ⟨rfl, hW2⟩
theorem nums_ones (zs : List Int) (hr : ∀ i, 0 ≤ zs.getD i 0 ∧ zs.getD i 0 ≤ 255) : (zs.map Int.toNat).map oneOf = zs.map oneZ := by
  rw [List.map_map]
  apply List.map_congr_left
  intro z hz
  obtain ⟨i, hi, rfl⟩ := List.mem_iff_getElem.1 hz
  have h := hr i
  rw [List.getD_eq_getElem?_getD, List.getElem?_eq_getElem hi, Option.getD_some] at h
  show oneOf (zs[i]).toNat = oneZ zs[i]
  unfold oneOf oneZ
  rw [show (((zs[i]).toNat : Nat) : Int) = zs[i] by omega]
theorem quotes_parse (zs : List Int) (t : ByteArray) (ht : t.data.toList = quotedG false (zs.map Int.toNat)) (hr : ∀ i, 0 ≤ zs.getD i 0 ∧ zs.getD i 0 ≤ 255) (hl : zs.length ≤ 100) (w : World) (hG : Gl w) :
    Calls Tryd.prog 10 #[.string t] w fun e w' => ∃ v ma mc, e = .returned (.tuple #[v, .slice ma 0 mc, .int .i64 0, .int .i64 0]) ∧ NdX (fun k => k < w'.heap.size) w' (njoin (zs.map oneZ)) v ∧ Below w.heap.size w w' := by
  have hlen := quotedG_len false (zs.map Int.toNat)
  rw [List.length_map, quotedG_bre] at hlen
  have hall : ∀ b ∈ zs.map Int.toNat, b < 256 := by
    intro b hb
    obtain ⟨z, hz, rfl⟩ := List.mem_map.1 hb
    obtain ⟨i, hi, rfl⟩ := List.mem_iff_getElem.1 hz
    have h := hr i
    rw [List.getD_eq_getElem?_getD, List.getElem?_eq_getElem hi, Option.getD_some] at h
    omega
  refine (bparse_any t w hG).mono ?_
  rw [ht, quotedG_bre, parse_quoted _ hall (by omega), nums_ones zs hr]
  rintro e w' ⟨hb, v, mv, rfl, hn, hm⟩
  obtain ⟨ma, mc, rfl⟩ := own_form' hm
  exact ⟨v, ma, mc, rfl, ndx_in hn, hb⟩
set_option linter.unusedSimpArgs false in
set_option maxRecDepth 100000 in
set_option maxHeartbeats 1000000 in
theorem quotes_law (zs : List Int) (b o cap : Nat) (w : World) (hG : Gl w) (hb : b < w.heap.size) (h1 : 0 < zs.length) (hl : zs.length ≤ 100) (hc : ∀ i, i < zs.length → w.cell? ⟨b, o + i, none⟩ = some (.int .u8 (zs.getD i 0))) (hr : ∀ i, 0 ≤ zs.getD i 0 ∧ zs.getD i 0 ≤ 255) :
    Calls Tryd.prog 3 #[.slice (some ⟨b, o, none⟩) zs.length cap] w fun e w' => e = .returned (.bool true) ∧ Below w.heap.size w w' := by
  have haw := awake4_any w hG
  have e0 : ((zs.length : Int) == 0) = false := by rw [beq_eq_false_iff_ne]; omega
  have e1 : decide ((100 : Int) < (zs.length : Int)) = false := by first | (simp; done) | (simp; omega)
  have e2 : decide (100 < zs.length) = false := by simp; omega
  have hne : zs ≠ [] := by intro h; rw [h] at h1; simp at h1
  have e3 : zs.isEmpty = false := by cases zs with | nil => exact (hne rfl).elim | cons _ _ => rfl
  have HC := Lib.hid hc
  have HRg := Lib.hid hr
  have HGl := Lib.hid hG
  have HL := Lib.hid hl
  clear hc hr h1 hl hne
  go_enter Tryd.func3, Tryd.ntmps3
  go_wp2_with fail
  refine haw.mono ?_
  rintro e w1 ⟨rfl, hW⟩
  have hq := quoted_bre zs b o cap w1 (Nat.lt_of_lt_of_le hb hW.size) HL.out (fun i hi => (hW.cell (p := ⟨b, o + i, none⟩) hb).trans (HC.out i hi)) HRg.out
  clear haw hG
  go_wp2_with fail
  refine hq.mono ?_
  rintro e w2 ⟨t, rfl, ht, b2⟩
  have hW2 := hW.trans (b2.mono hW.size)
  have hpp := quotes_parse zs t ht HRg.out HL.out w2 (HGl.out.up hW2)
  clear hq b2 hW ht
  go_wp2_with fail
  refine hpp.mono ?_
  rintro e w5 ⟨v, ma, mc, rfl, hn, b5⟩
  have hW5 := hW2.trans (b5.mono hW2.size)
  have hby := bytes_any zs b o cap (njoin (zs.map oneZ)) v w5 hn (Nat.le_trans (nsize_ones zs) (by have := HL.out; omega)) (Nat.lt_of_lt_of_le hb hW5.size) HL.out (fun i hi => (hW5.cell (p := ⟨b, o + i, none⟩) hb).trans (HC.out i hi)) HRg.out
  rw [nsame_refl] at hby
  clear hpp hn b5 hW2
  go_wp2_with fail
  refine hby.mono ?_
  rintro e w6 ⟨rfl, b6⟩
  have hW6 := hW5.trans (b6.mono hW5.size)
  clear hby b6
  go_wp2_with fail
  go_ret
  exact ⟨rfl, hW6⟩
theorem quotes_any (a : Option Addr) (len cap : Nat) (zs : List Int) {w0 : World} (hrow : IsRow .u8 w0 a len cap zs) (w : World) (hG : Gl w) (hw : w0 = w := by rfl) :
    Calls Tryd.prog 3 #[.slice a len cap] w fun e w' => e = .returned (.bool true) ∧ Below w.heap.size w w' := by
  subst hw
  by_cases hs : len = 0 ∨ 100 < len
  · exact quotes_short a len cap w0 hG hs
  · rcases hrow with ⟨_, h2, _, _⟩ | ⟨ad, rfl, hlc, _, hzl, hc, hwf⟩
    · exact (hs (.inl h2)).elim
    · obtain ⟨b, o, rfl, hc2⟩ := ints_at hc (by omega)
      have hb := World.block_lt_of_cell? w0 _ (hc2 0 (by omega))
      have hlen : (zs.take len).length = len := by rw [List.length_take]; omega
      have hcs : ∀ i, i < (zs.take len).length → w0.cell? ⟨b, o + i, none⟩ = some (.int .u8 ((zs.take len).getD i 0)) := fun i hi => by
        rw [hc2 i (by omega)]
        simp only [List.getD]
        rw [List.getElem?_take_of_lt (by omega)]
      have hrs : ∀ i, 0 ≤ (zs.take len).getD i 0 ∧ (zs.take len).getD i 0 ≤ 255 := fun i => by
        simp only [List.getD]
        by_cases hi : i < len
        · rw [List.getElem?_take_of_lt hi]
          have := range_u8 hwf i
          exact this
        · rw [List.getElem?_eq_none (by omega)]; simp
      have h := quotes_law (zs.take len) b o cap w0 hG hb (by omega) (by omega) hcs hrs
      rw [hlen] at h
      exact h
end Go.Proofs.YtbbcjclkklmoaaaDoor
