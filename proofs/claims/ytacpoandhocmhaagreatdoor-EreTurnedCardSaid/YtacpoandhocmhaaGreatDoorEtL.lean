/- The statement EreTurned, walked. -/
import Derived.Test.YtacpoandhocmhaaGreatDoorEtM
import Derived.Test.YtacpoandhocmhaaGreatDoorEqA
import Derived.Test.YtacpoandhocmhaaGreatDoorOctOpen
import Derived.Test.YtacpoandhocmhaaGreatDoorNdPrS
import Derived.Test.YtacpoandhocmhaaGreatDoorIdx
import Derived.Test.YtacpoandhocmhaaGreatDoorEmST
import Derived.Test.YtacpoandhocmhaaGreatDoorRdMP
namespace Go.Proofs.YtacpoandhocmhaaGreatDoor
open Go Go.RowKit Go.Shelf

/-- Whatever may follow. -/
def InvT (ts : List Tk) (f : Bool) (d : Nat) : Prop := ∀ r, wfT f d r = true → wfT true 0 (ts ++ r) = true
theorem InvT.snoc {ts : List Tk} {f f' : Bool} {d d' : Nat} {t : Tk} (h : InvT ts f d) (hs : ∀ r, wfT f' d' r = true → wfT f d (t :: r) = true) : InvT (ts ++ [t]) f' d' := fun r hr => by rw [List.append_assoc]; exact h (t :: r) (hs r hr)
theorem encs_snoc (ere : Bool) (ts : List Tk) (t : Tk) : encs ere (ts ++ [t]) = encs ere ts ++ t.enc ere := by unfold encs; rw [List.flatMap_append]; simp
theorem encs_len (ere : Bool) (ts : List Tk) : (encs ere ts).length ≤ 7 * ts.length := by
  induction ts with
  | nil => exact Nat.zero_le _
  | cons t ts ih =>
    rw [encs_cons, List.length_append, List.length_cons]
    have : (t.enc ere).length ≤ 7 := by cases t <;> cases ere <;> decide
    omega
theorem str_snoc {S x : ByteArray} {ere : Bool} {ts : List Tk} {t : Tk} (h : S.data.toList = encs ere ts) (hx : x.data.toList = t.enc ere) : (S ++ x).data.toList = encs ere (ts ++ [t]) := by
  rw [encs_snoc, ← h, ← hx]
  simp [ByteArray.data_append]
theorem str_same {S x : ByteArray} {ere : Bool} {ts : List Tk} (h : S.data.toList = encs ere ts) (hx : x.data.toList = []) : (S ++ x).data.toList = encs ere ts := by
  rw [← h]
  simp [ByteArray.data_append, hx]
def TurnR (w : World) (zs : List Int) (sv tv dv fv i : Value) (wr : World) : Prop := ∃ (k : Nat) (S T : ByteArray) (ts : List Tk) (dp : Nat) (fr : Bool), k ≤ zs.length ∧ i = .int .i64 k ∧ sv = .string S ∧ tv = .string T ∧ dv = .int .i64 dp ∧ fv = .bool fr ∧ S.data.toList = encs false ts ∧ T.data.toList = encs true ts ∧ dp ≤ 12 ∧ ts.length ≤ k ∧ InvT ts fr dp ∧ Below w.heap.size w wr
def TurnE (w : World) (dp : Nat) (sv tv i : Value) (wr : World) : Prop := ∃ (j : Nat) (S T : ByteArray) (ts : List Tk) (fr : Bool), j ≤ dp ∧ i = .int .i64 j ∧ sv = .string S ∧ tv = .string T ∧ S.data.toList = encs false ts ∧ T.data.toList = encs true ts ∧ ts.length ≤ 40 + j ∧ InvT ts fr (dp - j) ∧ Below w.heap.size w wr
set_option linter.unusedSimpArgs false in
set_option maxRecDepth 100000 in
set_option maxHeartbeats 8000000 in
theorem eturned_law (a : Option Addr) (zs : List Int) (cap : Nat) (w : World) (hG : Gl w) (hl : zs.length ≤ 40) (hc : ∀ k, k < zs.length → ∃ b o, a = some ⟨b, o, none⟩ ∧ b < w.heap.size ∧ w.cell? ⟨b, o + k, none⟩ = some (.int .u8 (zs.getD k 0))) (hr : ∀ i, 0 ≤ zs.getD i 0 ∧ zs.getD i 0 ≤ 255) :
    Calls Tryz.prog 5 #[.slice a zs.length cap] w fun e w' => e = .returned (.bool true) ∧ Below w.heap.size w w' := by
  have haw := awake5_any (fun s w hG => eparse_any s w hG) w hG
  have e1 : decide ((40 : Int) < (zs.length : Int)) = false := by first | (simp; done) | (simp; omega)
  have e2 : decide (40 < zs.length) = false := by simp; omega
  have HC := Lib.hid hc
  have HRg := Lib.hid hr
  have HGl := Lib.hid hG
  have HL := Lib.hid hl
  clear hc hr hl hG
  go_enter Tryz.func5, Tryz.ntmps5
  go_wp2_with fail
  refine haw.mono ?_
  rintro e w1 ⟨rfl, hW1⟩
  have HW1 := Lib.hid hW1
  clear haw hW1
  go_wp2_with fail
  go_loopw [3, 4, 5, 6, 29] (fun sv tv dv fv i wr => TurnR w zs sv tv dv fv i wr) (fun _ _ _ _ i _ => zs.length - (intOf i).toNat)
  case atStart => exact ⟨0, _, _, [], 0, true, Nat.zero_le _, rfl, rfl, rfl, rfl, rfl, rfl, rfl, Nat.zero_le _, Nat.le_refl _, fun r h => h, HW1.out⟩
  case round =>
    obtain ⟨k, S, T, ts, dp, fr, hk, rfl, rfl, rfl, rfl, rfl, hS, hT, hdp, htl, hI, hW⟩ := hrel
    have hSz : S.size ≤ 280 := by
      rw [← plist_size, hS]
      have := encs_len false ts
      have := HL.out
      omega
    have hTz : T.size ≤ 280 := by
      rw [← plist_size, hT]
      have := encs_len true ts
      have := HL.out
      omega
    have HS := Lib.hid hS
    have HT := Lib.hid hT
    have HI := Lib.hid hI
    have HTL := Lib.hid htl
    have HDP := Lib.hid hdp
    have HW := Lib.hid hW
    clear hS hT hI htl
    by_cases hlt : k < zs.length
    · obtain ⟨b, o, rfl, hb, hcell⟩ := HC.out k hlt
      have hz := HRg.out k
      have c9 := (hW.cell (p := ⟨b, o + k, none⟩) hb).trans hcell
      obtain ⟨r, hr0, hr9, T1⟩ : ∃ r : Int, 0 ≤ r ∧ r ≤ 9 ∧ Int.tmod (zs.getD k 0) 10 = r := ⟨_, by rw [Int.tmod_eq_emod_of_nonneg hz.1]; omega, by rw [Int.tmod_eq_emod_of_nonneg hz.1]; omega, rfl⟩
      generalize zs.getD k 0 = z at *
      have hl40 := HL.out
      clear hW hcell
      have hcases : r = 0 ∨ r = 1 ∨ r = 2 ∨ r = 3 ∨ r = 4 ∨ r = 5 ∨ r = 6 ∨ r = 7 ∨ r = 8 ∨ r = 9 := by omega
      clear hr0 hr9
      rcases hcases with rfl | rfl | rfl | rfl | rfl | rfl | rfl | rfl | rfl | rfl
      · go_wp2_with fail
        go_roundw
        case rel => exact ⟨k + 1, _, _, ts ++ [.a], dp, false, by omega, by go_num, rfl, rfl, rfl, rfl, str_snoc HS.out rfl, str_snoc HT.out rfl, HDP.out, by have := HTL.out; simp; omega, HI.out.snoc (t := .a) (fun r h => h), HW.out⟩
        case measure => simp [intOf]; omega
      · go_wp2_with fail
        go_roundw
        case rel => exact ⟨k + 1, _, _, ts ++ [.a], dp, false, by omega, by go_num, rfl, rfl, rfl, rfl, str_snoc HS.out rfl, str_snoc HT.out rfl, HDP.out, by have := HTL.out; simp; omega, HI.out.snoc (t := .a) (fun r h => h), HW.out⟩
        case measure => simp [intOf]; omega
      · go_wp2_with fail
        go_roundw
        case rel => exact ⟨k + 1, _, _, ts ++ [.b], dp, false, by omega, by go_num, rfl, rfl, rfl, rfl, str_snoc HS.out rfl, str_snoc HT.out rfl, HDP.out, by have := HTL.out; simp; omega, HI.out.snoc (t := .b) (fun r h => h), HW.out⟩
        case measure => simp [intOf]; omega
      · by_cases hd : dp < 12
        · have d1 : decide ((dp : Int) < 12) = true := by simp; omega
          have d2 : decide (dp < 12) = true := decide_eq_true hd
          have W1 : IntKind.i64.wrap ((dp : Int) + 1) = ((dp + 1 : Nat) : Int) := by rw [IntWalk.i64_in _ (by omega)]; omega
          go_wp2_with fail
          go_roundw
          case rel => exact ⟨k + 1, _, _, ts ++ [.opn], dp + 1, true, by omega, by go_num, rfl, rfl, (by first | rfl | simp), rfl, str_snoc HS.out rfl, str_snoc HT.out rfl, hd, by have := HTL.out; simp; omega, HI.out.snoc (t := .opn) (fun r h => by show (decide (dp < 12) && wfT true (dp + 1) r) = true; rw [h, decide_eq_true hd]; rfl), HW.out⟩
          case measure => simp [intOf]; omega
        · have d1 : decide ((dp : Int) < 12) = false := by simp; omega
          have d2 : decide (dp < 12) = false := decide_eq_false hd
          go_wp2_with fail
          go_roundw
          case rel => exact ⟨k + 1, _, _, ts, dp, fr, by omega, by go_num, rfl, rfl, rfl, rfl, (by first | exact HS.out | exact str_same HS.out rfl), (by first | exact HT.out | exact str_same HT.out rfl), HDP.out, by have := HTL.out; omega, HI.out, HW.out⟩
          case measure => simp [intOf]; omega
      · obtain hd | ⟨e, he⟩ : dp = 0 ∨ ∃ e, dp = e + 1 := by cases dp with
          | zero => exact .inl rfl
          | succ e => exact .inr ⟨e, rfl⟩
        · subst hd
          go_wp2_with fail
          go_roundw
          case rel => exact ⟨k + 1, _, _, ts, 0, fr, by omega, by go_num, rfl, rfl, rfl, rfl, (by first | exact HS.out | exact str_same HS.out rfl), (by first | exact HT.out | exact str_same HT.out rfl), HDP.out, by have := HTL.out; omega, HI.out, HW.out⟩
          case measure => simp [intOf]; omega
        · have d1 : decide ((0 : Int) < (dp : Int)) = true := by simp; omega
          have d2 : decide (0 < dp) = true := by simp; omega
          have W1 : IntKind.i64.wrap ((dp : Int) - 1) = (e : Int) := by rw [IntWalk.i64_in _ (by omega)]; omega
          have d3 : 0 < dp := by omega
          have HE := Lib.hid he
          clear he
          go_wp2_with fail
          go_roundw
          case rel => exact ⟨k + 1, _, _, ts ++ [.cls], e, false, by omega, by go_num, rfl, rfl, (by first | rfl | simp), rfl, str_snoc HS.out rfl, str_snoc HT.out rfl, by have := HE.out; have := HDP.out; omega, by have := HTL.out; simp; omega, HI.out.snoc (t := .cls) (fun r h => by show (decide (0 < dp) && wfT false (dp - 1) r) = true; rw [show dp - 1 = e by rw [HE.out]; rfl, h, d2]; rfl), HW.out⟩
          case measure => simp [intOf]; omega
      · go_wp2_with fail
        go_roundw
        case rel => exact ⟨k + 1, _, _, ts ++ [.bar], dp, true, by omega, by go_num, rfl, rfl, rfl, rfl, str_snoc HS.out rfl, str_snoc HT.out rfl, HDP.out, by have := HTL.out; simp; omega, HI.out.snoc (t := .bar) (fun r h => h), HW.out⟩
        case measure => simp [intOf]; omega
      · cases fr with
        | true =>
          go_wp2_with fail
          go_roundw
          case rel => exact ⟨k + 1, _, _, ts, dp, true, by omega, by go_num, rfl, rfl, rfl, rfl, (by first | exact HS.out | exact str_same HS.out rfl), (by first | exact HT.out | exact str_same HT.out rfl), HDP.out, by have := HTL.out; omega, HI.out, HW.out⟩
          case measure => simp [intOf]; omega
        | false =>
          go_wp2_with fail
          go_roundw
          case rel => exact ⟨k + 1, _, _, ts ++ [.star], dp, false, by omega, by go_num, rfl, rfl, rfl, rfl, str_snoc HS.out rfl, str_snoc HT.out rfl, HDP.out, by have := HTL.out; simp; omega, HI.out.snoc (t := .star) (fun r h => h), HW.out⟩
          case measure => simp [intOf]; omega
      · cases fr with
        | true =>
          go_wp2_with fail
          go_roundw
          case rel => exact ⟨k + 1, _, _, ts, dp, true, by omega, by go_num, rfl, rfl, rfl, rfl, (by first | exact HS.out | exact str_same HS.out rfl), (by first | exact HT.out | exact str_same HT.out rfl), HDP.out, by have := HTL.out; omega, HI.out, HW.out⟩
          case measure => simp [intOf]; omega
        | false =>
          go_wp2_with fail
          go_roundw
          case rel => exact ⟨k + 1, _, _, ts ++ [.plus], dp, false, by omega, by go_num, rfl, rfl, rfl, rfl, str_snoc HS.out rfl, str_snoc HT.out rfl, HDP.out, by have := HTL.out; simp; omega, HI.out.snoc (t := .plus) (fun r h => h), HW.out⟩
          case measure => simp [intOf]; omega
      · cases fr with
        | true =>
          go_wp2_with fail
          go_roundw
          case rel => exact ⟨k + 1, _, _, ts, dp, true, by omega, by go_num, rfl, rfl, rfl, rfl, (by first | exact HS.out | exact str_same HS.out rfl), (by first | exact HT.out | exact str_same HT.out rfl), HDP.out, by have := HTL.out; omega, HI.out, HW.out⟩
          case measure => simp [intOf]; omega
        | false =>
          go_wp2_with fail
          go_roundw
          case rel => exact ⟨k + 1, _, _, ts ++ [.ivl], dp, false, by omega, by go_num, rfl, rfl, rfl, rfl, str_snoc HS.out rfl, str_snoc HT.out rfl, HDP.out, by have := HTL.out; simp; omega, HI.out.snoc (t := .ivl) (fun r h => h), HW.out⟩
          case measure => simp [intOf]; omega
      · go_wp2_with fail
        go_roundw
        case rel => exact ⟨k + 1, _, _, ts ++ [.dot], dp, false, by omega, by go_num, rfl, rfl, rfl, rfl, str_snoc HS.out rfl, str_snoc HT.out rfl, HDP.out, by have := HTL.out; simp; omega, HI.out.snoc (t := .dot) (fun r h => h), HW.out⟩
        case measure => simp [intOf]; omega
    · obtain rfl : k = zs.length := by omega
      have HS0 := Lib.hid hSz
      go_wp2_with fail
      go_loopw [3, 4, 74] (fun sv tv i wr => TurnE w dp sv tv i wr) (fun _ _ i _ => dp - (intOf i).toNat)
      case atStart => exact ⟨0, _, _, ts, fr, Nat.zero_le _, rfl, rfl, rfl, HS.out, HT.out, by have := HTL.out; have := HL.out; omega, HI.out, HW.out⟩
      case round =>
        clear hSz hTz HS HT HI HTL HW HS0
        obtain ⟨j, S, T, ts, fr, hj, rfl, rfl, rfl, hS, hT, htl, hI, hW⟩ := hrel
        have hSz : S.size ≤ 400 := by
          rw [← plist_size, hS]
          have := encs_len false ts
          omega
        have hTz : T.size ≤ 400 := by
          rw [← plist_size, hT]
          have := encs_len true ts
          omega
        have HS := Lib.hid hS
        have HT := Lib.hid hT
        have HI := Lib.hid hI
        have HTL := Lib.hid htl
        have HW := Lib.hid hW
        clear hS hT hI htl hW
        by_cases hlt2 : j < dp
        · have d1 : decide ((j : Int) < (dp : Int)) = true := by simp; omega
          have d2 : decide (j < dp) = true := decide_eq_true hlt2
          go_wp2_with fail
          go_roundw
          case rel => exact ⟨j + 1, _, _, ts ++ [.cls], false, by omega, by go_num, rfl, rfl, str_snoc HS.out rfl, str_snoc HT.out rfl, by have := HTL.out; simp; omega, HI.out.snoc (t := .cls) (fun r h => by show (decide (0 < dp - j) && wfT false (dp - j - 1) r) = true; rw [show dp - j - 1 = dp - (j + 1) by omega, h, decide_eq_true (by omega)]; rfl), HW.out⟩
          case measure => simp [intOf]; omega
        · obtain rfl : j = dp := by omega
          have d1 : decide ((j : Int) < (j : Int)) = false := by simp
          have hw0 : wfT true 0 ts = true := by
            have := HI.out [] (by simp [wfT])
            simpa using this
          have hsz : S.data.toList.length = S.size := by simp
          by_cases h250 : 250 < S.size
          · have d2 : decide ((250 : Int) < (S.size : Int)) = true := by simp; omega
            have d3 : decide (250 < S.size) = true := decide_eq_true h250
            clear hw0 hsz
            go_wp2_with fail
            go_ret
            exact ⟨rfl, HW.out⟩
          · have d2 : decide ((250 : Int) < (S.size : Int)) = false := by simp; omega
            have d3 : decide (250 < S.size) = false := decide_eq_false h250
            obtain ⟨stB, stE, d, hpB, hpE, hmk⟩ := turned_parse ts hw0 (by rw [← HS.out, hsz]; omega)
            have hbp := fun w' (hb : Below w.heap.size w w') => bparse_any S w' (HGl.out.up hb)
            have hep := fun w' (hb : Below w.heap.size w w') => eparse_any T w' (HGl.out.up hb)
            rw [HS.out, hpB] at hbp
            rw [HT.out, hpE] at hep
            have HD := Lib.hid (whole_size hpB)
            have HBP := Lib.hid hbp
            have HEP := Lib.hid hep
            have HMK := Lib.hid hmk
            clear hw0 hsz hpB hpE hbp hep hmk h250
            go_wp2_with fail
            refine (HBP.out _ HW.out).mono ?_
            rintro e w2 ⟨b2, v2, mv2, rfl, hn2, hm2⟩
            obtain ⟨ma2, mc2, rfl⟩ := own_form' hm2
            have HW2 := Lib.hid (HW.out.trans (b2.mono HW.out.size))
            have HN2 := Lib.hid hn2
            clear hn2 hm2 b2
            go_wp2_with fail
            refine (HEP.out _ HW2.out).mono ?_
            rintro e w3 ⟨b3, v3, mv3, rfl, hn3, hm3⟩
            rw [HMK.out] at hm3
            obtain ⟨ma3, mc3, rfl⟩ := own_form' hm3
            have HW3 := Lib.hid (HW2.out.trans (b3.mono HW2.out.size))
            have hsm := psame_any d d v2 v3 w3 (ndx_in (NdX.below b3 HN2.out)) (ndx_in hn3) (Nat.le_trans HD.out (by decide))
            rw [nsame_refl] at hsm
            clear hn3 hm3 b3
            go_wp2_with fail
            refine hsm.mono ?_
            rintro e w4 ⟨rfl, b4⟩
            have HW4 := Lib.hid (HW3.out.trans (b4.mono HW3.out.size))
            clear hsm b4
            go_wp2_with fail
            go_ret
            exact ⟨rfl, HW4.out⟩
set_option linter.unusedSimpArgs false in
set_option maxRecDepth 100000 in
set_option maxHeartbeats 1000000 in
theorem eturned_over (a : Option Addr) (len cap : Nat) (w : World) (hG : Gl w) (h : 40 < len) :
    Calls Tryz.prog 5 #[.slice a len cap] w fun e w' => e = .returned (.bool true) ∧ Below w.heap.size w w' := by
  have haw := awake5_any (fun s w hG => eparse_any s w hG) w hG
  have e1 : decide ((40 : Int) < (len : Int)) = true := by first | (simp; done) | (simp; omega)
  have e2 : decide (40 < len) = true := decide_eq_true h
  clear h
  go_enter Tryz.func5, Tryz.ntmps5
  go_wp2_with fail
  refine haw.mono ?_
  rintro e w1 ⟨rfl, hW⟩
  have haw2 := awake5_any (fun s w hG => eparse_any s w hG) w1 (hG.up hW)
  clear haw hG
  go_wp2_with fail
  refine haw2.mono ?_
  rintro e w2 ⟨rfl, b2⟩
  have hW2 := hW.trans (b2.mono hW.size)
  clear haw2 b2
  go_wp2_with fail
  go_ret
  exact ⟨rfl, hW2⟩
theorem eturned_any (a : Option Addr) (len cap : Nat) (zs : List Int) {w0 : World} (hrow : IsRow .u8 w0 a len cap zs) (w : World) (hG : Gl w) (hw : w0 = w := by rfl) :
    Calls Tryz.prog 5 #[.slice a len cap] w fun e w' => e = .returned (.bool true) ∧ Below w.heap.size w w' := by
  subst hw
  by_cases hs : 40 < len
  · exact eturned_over a len cap w0 hG hs
  · rcases hrow with ⟨h1, h2, _, _⟩ | ⟨ad, rfl, hlc, _, hzl, hc, hwf⟩
    · subst h2
      exact eturned_law a [] cap w0 hG (by simp) (fun k hk => absurd hk (Nat.not_lt_zero _)) (fun i => by simp)
    · have hlen : (zs.take len).length = len := by rw [List.length_take]; omega
      have hrs : ∀ i, 0 ≤ (zs.take len).getD i 0 ∧ (zs.take len).getD i 0 ≤ 255 := fun i => by
        simp only [List.getD]
        by_cases hi : i < len
        · rw [List.getElem?_take_of_lt hi]
          have := range_u8 hwf i
          exact this
        · rw [List.getElem?_eq_none (by omega)]; simp
      have h := eturned_law (some ad) (zs.take len) cap w0 hG (by omega) (fun k hk => by
        obtain ⟨b, o, rfl, hc2⟩ := ints_at hc (by omega)
        have hb := World.block_lt_of_cell? w0 _ (hc2 0 (by omega))
        refine ⟨b, o, rfl, hb, ?_⟩
        rw [hc2 k (by omega)]
        simp only [List.getD]
        rw [List.getElem?_take_of_lt (by omega)]) hrs
      rw [hlen] at h
      exact h
end Go.Proofs.YtacpoandhocmhaaGreatDoor
