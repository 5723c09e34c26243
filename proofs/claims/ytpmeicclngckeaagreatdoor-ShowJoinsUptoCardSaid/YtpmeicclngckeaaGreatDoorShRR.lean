/- ShR: The document's sets as texts (placketref06), walked: text, punct, end, ends.
   ShRS: The document's sets as texts (placketref06), walked: Set. -/
import Derived.Test.YtpmeicclngckeaaGreatDoorShPq
import Derived.Test.YtpmeicclngckeaaGreatDoorOctRClass
import Derived.Test.YtpmeicclngckeaaGreatDoorIdx
import Derived.Deep.RegionHeld3
import Derived.Deep.DeepCutAuto
import Derived.BigQuiet
namespace Go.Proofs.YtpmeicclngckeaaGreatDoor
open Go Go.RowKit

theorem rshtext_any (x : Nat) (w : World) : Calls Tryz.prog 29 #[.int .u8 (x : Int)] w fun e w' => (∃ S : ByteArray, e = .returned (.string S) ∧ S.data.toList = [UInt8.ofNat x]) ∧ Below w.heap.size w w' := by
  have kc := pconv1 w (x : Int)
  go_enter Tryz.func29, Tryz.ntmps29
  go_wp2_with fail
  go_ret
  exact ⟨⟨_, rfl, nums_one x⟩, (Below.refl _ w).alloc (Nat.le_refl _) _⟩
set_option maxHeartbeats 1000000 in
theorem rshpunct_any (x : Int) (h0 : 0 ≤ x) (h1 : x ≤ 255) (w : World) : Calls Tryz.prog 28 #[.int .u8 x] w fun e w' => e = .returned (.bool (ohas punctSet x.toNat)) ∧ Below w.heap.size w w' := by
  have hcl := rclass_any ⟨#[112, 117, 110, 99, 116]⟩ w
  rw [ByteArray.toList_eq, show clsSet (ByteArray.mk #[112, 117, 110, 99, 116]).data.toList = punctSet from rfl, show clsOk (ByteArray.mk #[112, 117, 110, 99, 116]).data.toList = true from rfl] at hcl
  go_enter Tryz.func28, Tryz.ntmps28
  go_wp2_with fail
  refine hcl.mono ?_
  rintro e w1 ⟨rfl, b1⟩
  have hB := Blk.new w1 (oc punctSet) 24 _ rfl
  obtain ⟨c0, c1, c2, c3⟩ := oblk_cells hB
  unfold oc at c0 c1 c2 c3
  clear hcl
  go_wp2_with fail
  refine (rhas_any punctSet x h0 h1 _).mono ?_
  rintro e w2 ⟨rfl, b2⟩
  go_wp2
  go_ret
  exact ⟨rfl, (b1.alloc b1.size _).trans (b2.mono (by simp; have := b1.size; omega))⟩
set_option maxHeartbeats 1000000 in
theorem rshend_any (x : Nat) (hx : x < 256) (w : World) : Calls Tryz.prog 33 #[.int .u8 (x : Int)] w fun e w' => (∃ S : ByteArray, e = .returned (.string S) ∧ S.data.toList = endT x) ∧ Below w.heap.size w w' := by
  have hp := rshpunct_any (x : Int) (by omega) (by omega) w
  rw [Int.toNat_natCast] at hp
  cases h : ohas punctSet x with
  | false =>
    have HE := Lib.hid (show endT x = [UInt8.ofNat x] by unfold endT; rw [h]; rfl)
    rw [h] at hp
    go_enter Tryz.func33, Tryz.ntmps33
    go_wp2_with fail
    refine hp.mono ?_
    rintro e w1 ⟨rfl, b1⟩
    clear hp
    go_wp2_with fail
    refine (rshtext_any x w1).mono ?_
    rintro e w2 ⟨⟨S, rfl, hS⟩, b2⟩
    go_wp2_with fail
    go_ret
    exact ⟨⟨S, rfl, by rw [HE.out]; exact hS⟩, b1.trans (b2.mono b1.size)⟩
  | true =>
    have HE := Lib.hid (show endT x = [91, 46] ++ [UInt8.ofNat x] ++ [46, 93] by unfold endT; rw [h]; rfl)
    rw [h] at hp
    go_enter Tryz.func33, Tryz.ntmps33
    go_wp2_with fail
    refine hp.mono ?_
    rintro e w1 ⟨rfl, b1⟩
    clear hp
    go_wp2_with fail
    refine (rshtext_any x w1).mono ?_
    rintro e w2 ⟨⟨S, rfl, hS⟩, b2⟩
    have hSz : S.size = 1 := by have h1 : S.data.toList.length = S.size := by simp
                                rw [← h1, hS]; rfl
    have HS := Lib.hid hS
    clear hS
    go_wp2_with fail
    go_ret
    exact ⟨⟨_, rfl, by rw [HE.out, ← HS.out]; simp [ByteArray.data_append]⟩, b1.trans (b2.mono b1.size)⟩
/-- Is the line's end at an end of a span, of a set or of the others? -/
def endsD (s : OSet) : Bool := (ohas s 9 != ohas s 10) || (ohas s 11 != ohas s 10)
set_option maxRecDepth 100000 in
set_option maxHeartbeats 2000000 in
theorem rshends_t (s : OSet) (hg : (ohas s 9 == ohas s 10) = false) (w : World) : Calls Tryz.prog 31 #[.agg #[.int .u64 (ow s 0), .int .u64 (ow s 1), .int .u64 (ow s 2), .int .u64 (ow s 3)]] w fun e w' => e = .returned (.bool (endsD s)) ∧ Below w.heap.size w w' := by
  have hall := (heldo_new w s 24).all
  unfold oc at hall
  have HE := Lib.hid (show endsD s = (!(ohas s 9 == ohas s 10) || !(ohas s 11 == ohas s 10)) from rfl)
  have HG := Lib.hid hg
  generalize endsD s = ed at *
  generalize hw1 : w.alloc (.cells #[.int .u64 (ow s 0), .int .u64 (ow s 1), .int .u64 (ow s 2), .int .u64 (ow s 3)] 24) = W1 at hall
  go_enter Tryz.func31, Tryz.ntmps31
  go_upto_region 1 with fail
  clear hw1
  obtain ⟨⟨c0, c1, c2, c3⟩, hH⟩ := id hall
  replace hall := reado_drew hall
  go_region_law (first | (go_simp; go_at_call 30; refine (rhas_any s _ (by decide) (by decide) _).mono ?_; rintro e w' ⟨rfl, hbX⟩; replace hall := reado_step hbX hall; clear hbX c0 c1 c2 c3 hH; obtain ⟨⟨c0, c1, c2, c3⟩, hH⟩ := id hall))
  all_goals
    go_wp2
    go_ret
    exact ⟨ret_bool (by rw [HE.out, HG.out]; rfl), HeldO.below (by assumption)⟩
set_option maxRecDepth 100000 in
set_option maxHeartbeats 2000000 in
theorem rshends_f (s : OSet) (hg : (ohas s 9 == ohas s 10) = true) (w : World) : Calls Tryz.prog 31 #[.agg #[.int .u64 (ow s 0), .int .u64 (ow s 1), .int .u64 (ow s 2), .int .u64 (ow s 3)]] w fun e w' => e = .returned (.bool (endsD s)) ∧ Below w.heap.size w w' := by
  have hall := (heldo_new w s 24).all
  unfold oc at hall
  have HE := Lib.hid (show endsD s = (!(ohas s 9 == ohas s 10) || !(ohas s 11 == ohas s 10)) from rfl)
  have HG := Lib.hid hg
  generalize endsD s = ed at *
  generalize hw1 : w.alloc (.cells #[.int .u64 (ow s 0), .int .u64 (ow s 1), .int .u64 (ow s 2), .int .u64 (ow s 3)] 24) = W1 at hall
  go_enter Tryz.func31, Tryz.ntmps31
  go_upto_region 1 with fail
  clear hw1
  go_region_held3 (fun w' => (w'.cell? ⟨w.heap.size, 0, none⟩ = some (.int .u64 (ow s 0)) ∧ w'.cell? ⟨w.heap.size, 1, none⟩ = some (.int .u64 (ow s 1)) ∧ w'.cell? ⟨w.heap.size, 2, none⟩ = some (.int .u64 (ow s 2)) ∧ w'.cell? ⟨w.heap.size, 3, none⟩ = some (.int .u64 (ow s 3))) ∧ HeldO w w.heap.size s 24 w') (first | with_reducible exact hall | with_reducible exact reado_step hbX (by assumption) | with_reducible exact reado_drew (by assumption)) (first | (go_at_call 30; refine (rhas_any s _ (by decide) (by decide) _).mono ?_; rintro e w' ⟨rfl, hbX⟩))
  go_wp2
  go_ret
  go_split_ands
  exact ⟨ret_bool (by rw [HE.out, HG.out]; simp), HeldO.below (by assumption)⟩
theorem rshends_any (s : OSet) (w : World) : Calls Tryz.prog 31 #[.agg #[.int .u64 (ow s 0), .int .u64 (ow s 1), .int .u64 (ow s 2), .int .u64 (ow s 3)]] w fun e w' => e = .returned (.bool (endsD s)) ∧ Below w.heap.size w w' := by
  cases hg : (ohas s 9 == ohas s 10) with
  | true => exact rshends_f s hg w
  | false => exact rshends_t s hg w
end Go.Proofs.YtpmeicclngckeaaGreatDoor
namespace Go.Proofs.YtpmeicclngckeaaGreatDoor
open Go Go.RowKit

theorem lst_first (s : OSet) (h : 0 < (sps s).length) : ((sps s)[0]).1 = lst s := by
  unfold lst
  generalize sps s = l at h
  cases l with
  | nil => simp at h
  | cons p l => rfl
theorem one_spans (s : OSet) (h : olen s = 1) : 0 < (sps s).length := by
  obtain ⟨c, hc, hl, hs⟩ := olen_one s h
  have := (lst_one c hc).1
  rw [← hs] at this
  exact List.length_pos_iff.2 this
/-- What the document's Set answers. -/
def RSet (w : World) (x : List UInt8) (e : Ending) (w' : World) : Prop := (∃ S : ByteArray, e = .returned (.string S) ∧ S.data.toList = x) ∧ Below w.heap.size w w'
set_option maxRecDepth 100000 in
set_option maxHeartbeats 1000000 in
theorem rshset_full (s : OSet) (h : olen s = 256) (w : World) : Calls Tryz.prog 10 #[.agg #[.int .u64 (ow s 0), .int .u64 (ow s 1), .int .u64 (ow s 2), .int .u64 (ow s 3)]] w (RSet w (setT s)) := by
  have hall := (heldo_new w s 24).all
  unfold oc at hall
  obtain ⟨⟨c0, c1, c2, c3⟩, hH⟩ := id hall
  have HE := Lib.hid (show setT s = [46] by unfold setT; rw [if_pos h])
  have e1 : ((olen s : Int) == 256) = true := by rw [h]; rfl
  clear h
  go_enter Tryz.func10, Tryz.ntmps10
  go_wp2_with fail
  refine (rlen_any s _).mono ?_
  rintro e w2 ⟨rfl, b2⟩
  go_wp2_with fail
  go_ret
  exact ⟨⟨_, rfl, by rw [HE.out]⟩, hH.below.trans (b2.mono hH.below.size)⟩
set_option maxRecDepth 100000 in
set_option maxHeartbeats 1000000 in
theorem rshset_one (s : OSet) (h : olen s = 1) (w : World) : Calls Tryz.prog 10 #[.agg #[.int .u64 (ow s 0), .int .u64 (ow s 1), .int .u64 (ow s 2), .int .u64 (ow s 3)]] w (RSet w (setT s)) := by
  have hall := (heldo_new w s 24).all
  unfold oc at hall
  obtain ⟨⟨c0, c1, c2, c3⟩, hH⟩ := id hall
  have HE := Lib.hid (show setT s = byT (lst s) by unfold setT; rw [if_neg (by omega), if_pos h])
  have e1 : ((olen s : Int) == 256) = false := by rw [h]; rfl
  have e2 : ((olen s : Int) == 1) = true := by rw [h]; rfl
  have h0 := one_spans s h
  have hf := lst_first s h0
  have hle := sps_le s _ (List.getElem_mem h0)
  clear h
  go_enter Tryz.func10, Tryz.ntmps10
  go_wp2_with fail
  refine (rlen_any s _).mono ?_
  rintro e w2 ⟨rfl, b2⟩
  replace hall := reado_step b2 hall
  clear c0 c1 c2 c3 hH b2
  obtain ⟨⟨c0, c1, c2, c3⟩, hH⟩ := id hall
  go_wp2_with fail
  refine (rspans_any s _).mono ?_
  rintro e w3 ⟨v, rfl, hown, b3⟩
  obtain ⟨sa, sc, sg, rfl, hy1, hy2, hy3⟩ := own_form hown
  clear hy1 hy2 hy3 sg
  obtain ⟨g, rfl, hcap, cx, cy⟩ := own_pair hown 0 h0
  have hB3 := hH.below.trans (b3.mono hH.below.size)
  rw [hf] at cx
  simp only [Nat.zero_mul] at cx
  have hx : lst s < 256 := by rw [← hf]; omega
  clear hown cy hle hf hall c0 c1 c2 c3 hH b3
  generalize lst s = x at cx hx HE
  by_cases h10 : x = 10
  · have HX := Lib.hid (show byT x = [92, 110] by rw [h10]; rfl)
    have e3 : ((x : Int) == 10) = true := by rw [h10]; rfl
    clear h10
    go_wp2_with fail
    go_ret
    exact ⟨⟨_, rfl, by rw [HE.out, HX.out]⟩, hB3⟩
  · have e3 : ((x : Int) == 10) = false := by simp; omega
    have hp := rshpunct_any (x : Int) (by omega) (by omega) w3
    rw [Int.toNat_natCast] at hp
    cases hpp : ohas punctSet x with
    | false =>
      have HX := Lib.hid (show byT x = [UInt8.ofNat x] by unfold byT; rw [if_neg h10, hpp]; rfl)
      rw [hpp] at hp
      clear h10 hpp
      go_wp2_with fail
      refine hp.mono ?_
      rintro e w4 ⟨rfl, b4⟩
      clear hp cx
      go_wp2_with fail
      refine (rshtext_any x w4).mono ?_
      rintro e w5 ⟨⟨S, rfl, hS⟩, b5⟩
      go_wp2_with fail
      go_ret
      exact ⟨⟨S, rfl, by rw [HE.out, HX.out]; exact hS⟩, (hB3.trans (b4.mono hB3.size)).trans (b5.mono (Nat.le_trans hB3.size b4.size))⟩
    | true =>
      have HX := Lib.hid (show byT x = [92] ++ [UInt8.ofNat x] by unfold byT; rw [if_neg h10, hpp]; rfl)
      rw [hpp] at hp
      clear h10 hpp
      go_wp2_with fail
      refine hp.mono ?_
      rintro e w4 ⟨rfl, b4⟩
      clear hp cx
      go_wp2_with fail
      refine (rshtext_any x w4).mono ?_
      rintro e w5 ⟨⟨S, rfl, hS⟩, b5⟩
      have hSz : S.size = 1 := by
        have h1 : S.data.toList.length = S.size := by simp
        rw [← h1, hS]; rfl
      have HS := Lib.hid hS
      clear hS
      go_wp2_with fail
      go_ret
      exact ⟨⟨_, rfl, by rw [HE.out, HX.out, ← HS.out]; simp [ByteArray.data_append]⟩, (hB3.trans (b4.mono hB3.size)).trans (b5.mono (Nat.le_trans hB3.size b4.size))⟩
set_option maxRecDepth 100000 in
set_option maxHeartbeats 2000000 in
theorem rshset_more (s : OSet) (h256 : olen s ≠ 256) (h1 : olen s ≠ 1) (w : World) : Calls Tryz.prog 10 #[.agg #[.int .u64 (ow s 0), .int .u64 (ow s 1), .int .u64 (ow s 2), .int .u64 (ow s 3)]] w (RSet w (setT s)) := by
  have hall := (heldo_new w s 24).all
  unfold oc at hall
  obtain ⟨⟨c0, c1, c2, c3⟩, hH⟩ := id hall
  have HE := Lib.hid (show setT s = (if othD s then brT true (~~~s) else brT false s) by unfold setT; rw [if_neg h256, if_neg h1, oth_doc])
  have e1 : ((olen s : Int) == 256) = false := by simp; omega
  have e2 : ((olen s : Int) == 1) = false := by simp; omega
  clear h256 h1
  have HD := Lib.hid (show othD s = (if ((decide (128 < olen s) || decide (olen s = 0)) != ohas s 10) && endsD s then !(decide (128 < olen s) || decide (olen s = 0)) else (decide (128 < olen s) || decide (olen s = 0))) from rfl)
  go_enter Tryz.func10, Tryz.ntmps10
  go_wp2_with fail
  refine (rlen_any s _).mono ?_
  rintro e w2 ⟨rfl, b2⟩
  replace hall := reado_step b2 hall
  clear c0 c1 c2 c3 hH b2
  obtain ⟨⟨c0, c1, c2, c3⟩, hH⟩ := id hall
  go_wp2_with fail
  refine (rspans_any s _).mono ?_
  rintro e w3 ⟨v, rfl, hown, b3⟩
  obtain ⟨sa, sc, sg, rfl, hy1, hy2, hy3⟩ := own_form hown
  clear hy1 hy2 hy3 sg
  replace hall := reado_step b3 hall
  have HO := Lib.hid hown
  clear c0 c1 c2 c3 hH b3 hown
  obtain ⟨⟨c0, c1, c2, c3⟩, hH⟩ := id hall
  go_upto_region 12 with fail
  generalize hO : (decide (128 < olen s) || decide (olen s = 0)) = O at HD
  have HOO := Lib.hid hO
  clear hO
  go_cut [6] from 32 to 37 (fun o wx => o = .bool O ∧ wx = w3)
  case first =>
    by_cases hb : 128 < olen s
    · have e3 : decide ((128 : Int) < (olen s : Int)) = true := by simp; omega
      have hO : O = true := by rw [← HOO.out, decide_eq_true hb]; rfl
      clear hb
      go_wp2_with fail
      go_meet
      exact ⟨by rw [hO], rfl⟩
    · have e3 : decide ((128 : Int) < (olen s : Int)) = false := by simp; omega
      have hO : O = decide (olen s = 0) := by rw [← HOO.out, decide_eq_false hb]; rfl
      clear hb
      by_cases hz : olen s = 0
      · have e4 : ((olen s : Int) == 0) = true := by rw [hz]; rfl
        rw [decide_eq_true hz] at hO
        clear hz
        go_wp2_with fail
        go_meet
        exact ⟨by rw [hO], rfl⟩
      · have e4 : ((olen s : Int) == 0) = false := by simp; omega
        rw [decide_eq_false hz] at hO
        clear hz
        go_wp2_with fail
        go_meet
        exact ⟨by rw [hO], rfl⟩
  obtain ⟨rfl, rfl⟩ := hcut
  generalize hC : (O != ohas s 10 && endsD s) = Cd at HD
  have HC := Lib.hid hC
  have HW0 := Lib.hid (Below.refl wc.heap.size wc)
  clear hC
  go_upto_region 13 with fail
  go_cut [45] from 38 to 45 (fun c wx => c = .bool Cd ∧ ReadO w w.heap.size s 24 wx ∧ Below wc.heap.size wc wx)
  case first =>
    have hW := HW0.out
    cases hg : (O == ohas s 10) with
    | true =>
      have hCd : Cd = false := by
        rw [← HC.out]
        have h2 : (O != ohas s 10) = false := by unfold bne; rw [hg]; rfl
        rw [h2]; rfl
      go_wp2_with (first | (go_at_call 30; refine (rhas_any s _ (by decide) (by decide) _).mono ?_; rintro e w' ⟨rfl, hbX⟩; replace hall := reado_step hbX hall; replace hW := hW.trans (hbX.mono hW.size); clear hbX; obtain ⟨⟨c0, c1, c2, c3⟩, hH⟩ := id hall))
      go_meet
      exact ⟨by rw [hCd], hall, hW⟩
    | false =>
      have hCd : Cd = endsD s := by
        rw [← HC.out]
        have h2 : (O != ohas s 10) = true := by unfold bne; rw [hg]; rfl
        rw [h2]; rfl
      go_wp2_with (first | (go_at_call 30; refine (rhas_any s _ (by decide) (by decide) _).mono ?_; rintro e w' ⟨rfl, hbX⟩; replace hall := reado_step hbX hall; replace hW := hW.trans (hbX.mono hW.size); clear hbX; obtain ⟨⟨c0, c1, c2, c3⟩, hH⟩ := id hall) | (go_at_call 31; refine (rshends_any s _).mono ?_; rintro e w' ⟨rfl, hbX⟩; replace hall := reado_step hbX hall; replace hW := hW.trans (hbX.mono hW.size); clear hbX; obtain ⟨⟨c0, c1, c2, c3⟩, hH⟩ := id hall))
      go_meet
      exact ⟨by rw [hCd], hall, hW⟩
  obtain ⟨rfl, hall, hW⟩ := hcut
  obtain ⟨⟨c0, c1, c2, c3⟩, hH⟩ := id hall
  have HO2 := Lib.hid (own_below HO.out hW)
  go_upto_if 45 with fail
  go_cut [6] from 45 to 47 (fun o wx => o = .bool (othD s) ∧ wx = wc)
  case first =>
    cases hCd : Cd with
    | true =>
      have HE3 := HD.out
      rw [hCd, if_pos rfl] at HE3
      go_wp2_with fail
      go_meet
      exact ⟨by rw [HE3], rfl⟩
    | false =>
      have HE3 := HD.out
      rw [hCd, if_neg (by decide)] at HE3
      go_wp2_with fail
      go_meet
      exact ⟨by rw [HE3], rfl⟩
  obtain ⟨rfl, rfl⟩ := hcut
  clear HO hall hW HD HC HOO HW0
  cases hoth : othD s with
  | true =>
    have HY := Lib.hid (show setT s = [91, 94] ++ (sps (~~~s)).flatMap spT ++ [93] by rw [HE.out, hoth, if_pos rfl]; unfold brT; simp)
    clear HE HO2
    go_wp2_with fail
    refine (rnot_any s _).mono ?_
    rintro e w5 ⟨rfl, b5⟩
    clear c0 c1 c2 c3
    go_wp2_with fail
    refine (rspans_any (~~~s) _).mono ?_
    rintro e w6 ⟨v, rfl, hown, b6⟩
    obtain ⟨sa6, sc6, sg6, rfl, hy1, hy2, hy3⟩ := own_form hown
    clear hy1 hy2 hy3 sg6
    have HO := Lib.hid hown
    have HB5 := Lib.hid ((hH.below.trans (b5.mono hH.below.size)).trans (b6.mono (Nat.le_trans hH.below.size b5.size)))
    generalize w5.heap.size + 1 = C at HO
    clear hown b5 b6 hH
    generalize hnn : (sps (~~~s)).length = n at *
    have HNN := Lib.hid hnn
    have hn256 : n ≤ 256 := by rw [← hnn]; exact spTo_len (~~~s) 256
    clear hnn
    go_wp2_with fail
    go_loopw [7, 54] (fun o i wr => ∃ (k : Nat) (S : ByteArray), k ≤ n ∧ i = .int .i64 k ∧ o = .string S ∧ S.data.toList = [91, 94] ++ ((sps (~~~s)).take k).flatMap spT ∧ Below w.heap.size w wr ∧ wr.ownsRow C 62 2 (.slice sa6 n sc6) n (flat (sps (~~~s)))) (fun _ i _ => n - (intOf i).toNat)
    case atStart => exact ⟨0, _, by omega, rfl, rfl, by simp, HB5.out, HO.out⟩
    case round =>
      obtain ⟨k, S, hk, rfl, rfl, hS, hW, hok⟩ := hrel
      have hpl := spT_part (sps (~~~s)) k
      have hSz : S.size ≤ 2900 := by
        have h1 : S.data.toList.length = S.size := by simp
        rw [← h1, hS, List.length_append]
        have h2 : ([91, 94] : List UInt8).length ≤ 2 := by decide
        have h3 : (sps (~~~s)).length ≤ 256 := spTo_len (~~~s) 256
        omega
      by_cases hlt : k < n
      · have hlt2 : k < (sps (~~~s)).length := by have := HNN.out; omega
        obtain ⟨g, rfl, hcap, cx, cy⟩ := own_pair (by rw [HNN.out]; exact hok) k hlt2
        have hle := sps_le (~~~s) _ (List.getElem_mem hlt2)
        have Hs := Lib.hid (spT_snoc (sps (~~~s)) k hlt2)
        generalize (sps (~~~s))[k] = q at cx cy hle Hs
        obtain ⟨x, y⟩ := q
        simp only at cx cy hle
        rw [HNN.out] at hcap
        have HS := Lib.hid hS
        have HOK := Lib.hid hok
        have hg : g < wr.heap.size := by
          rcases hok.2 with ⟨h, _⟩ | ⟨g', cap, cur, h, _, hh, _⟩
          · cases h
          · injection h with h _ _
            injection h with h
            injection h with h _ _
            subst h
            exact (Array.getElem?_eq_some_iff.1 hh).1
        have HW := Lib.hid hW
        clear hS hok hpl hW hlt2
        go_wp2_with fail
        refine (rshend_any x (by omega) wr).mono ?_
        rintro e w6 ⟨⟨X, rfl, hX⟩, b6⟩
        have hXz : X.size ≤ 5 := by
          have h1 : X.data.toList.length = X.size := by simp
          rw [← h1, hX]; exact endT_le x
        have HX := Lib.hid hX
        have HW6 := Lib.hid (HW.out.trans (b6.mono HW.out.size))
        have HOK6 := Lib.hid (own_below HOK.out b6)
        have cx6 := (b6.cell (p := ⟨g, k * 2, none⟩) hg).trans cx
        have cy6 := (b6.cell (p := ⟨g, k * 2 + 1, none⟩) hg).trans cy
        have hg6 : g < w6.heap.size := Nat.lt_of_lt_of_le hg b6.size
        clear hX cx cy b6
        go_upto_region 23 with fail
        by_cases hxy : x < y
        · have e3 : decide ((x : Int) < (y : Int)) = true := by simp; omega
          have HZ := Lib.hid (show spT (x, y) = endT x ++ 45 :: endT y by unfold spT; rw [if_pos hxy])
          go_quiet (fail)
          obtain ⟨W6, hW6⟩ : ∃ W, W = w6.drewN nq := ⟨_, rfl⟩
          have cy7 : W6.cell? ⟨g, k * 2 + 1, none⟩ = some (.int .u8 (y : Int)) := by rw [hW6]; exact cy6
          have hB6 : Below w6.heap.size w6 W6 := by rw [hW6]; exact ⟨rfl, rfl, rfl, Nat.le_refl _, fun _ _ => rfl⟩
          rw [← hW6]
          clear cx6 cy6 hW6
          go_wp2_with fail
          refine (rshend_any y (by omega) _).mono ?_
          rintro e w7 ⟨⟨Y, rfl, hY⟩, b7⟩
          have hYz : Y.size ≤ 5 := by
            have h1 : Y.data.toList.length = Y.size := by simp
            rw [← h1, hY]; exact endT_le y
          have HYY := Lib.hid hY
          have HW7 := Lib.hid ((HW6.out.trans (hB6.mono HW6.out.size)).trans (b7.mono (Nat.le_trans HW6.out.size hB6.size)))
          have HOK7 := Lib.hid (own_below (own_below HOK6.out hB6) b7)
          clear hY b7 cy7 hB6
          go_wp2_with fail
          go_roundw
          case rel => exact ⟨k + 1, _, by omega, by go_num, rfl, by rw [Hs.out, HZ.out, ← List.append_assoc, ← HS.out, ← HX.out, ← HYY.out]; simp [ByteArray.data_append], HW7.out, HOK7.out⟩
          case measure => simp [intOf]; omega
        · have e3 : decide ((x : Int) < (y : Int)) = false := by simp; omega
          have HZ := Lib.hid (show spT (x, y) = endT x by unfold spT; rw [if_neg hxy]; simp)
          go_quiet (fail)
          obtain ⟨W6, hW6⟩ : ∃ W, W = w6.drewN nq := ⟨_, rfl⟩
          have hB6 : Below w6.heap.size w6 W6 := by rw [hW6]; exact ⟨rfl, rfl, rfl, Nat.le_refl _, fun _ _ => rfl⟩
          have HW7 := Lib.hid (HW6.out.trans (hB6.mono HW6.out.size))
          have HOK7 := Lib.hid (own_below HOK6.out hB6)
          rw [← hW6]
          clear cx6 cy6 hW6 hB6
          go_wp2_with fail
          go_roundw
          case rel => exact ⟨k + 1, _, by omega, by go_num, rfl, by rw [Hs.out, HZ.out, ← List.append_assoc, ← HS.out, ← HX.out]; simp [ByteArray.data_append], HW7.out, HOK7.out⟩
          case measure => simp [intOf]; omega
      · obtain rfl : k = n := by omega
        have hS2 : S.data.toList ++ [93] = setT s := by rw [HY.out, hS, ← HNN.out, List.take_length]
        clear hok hpl hS
        go_wp2_with fail
        go_ret
        exact ⟨⟨_, rfl, by rw [← hS2]; simp [ByteArray.data_append]⟩, hW⟩
  | false =>
    have HY := Lib.hid (show setT s = [91] ++ (sps s).flatMap spT ++ [93] by rw [HE.out, hoth, if_neg (by decide)]; unfold brT; simp)
    clear HE c0 c1 c2 c3
    have HO := HO2
    have HB5 := Lib.hid hH.below
    generalize w2.heap.size + 1 = C at HO
    clear HO2 hH
    generalize hnn : (sps s).length = n at *
    have HNN := Lib.hid hnn
    have hn256 : n ≤ 256 := by rw [← hnn]; exact spTo_len s 256
    clear hnn
    go_wp2_with fail
    go_loopw [7, 54] (fun o i wr => ∃ (k : Nat) (S : ByteArray), k ≤ n ∧ i = .int .i64 k ∧ o = .string S ∧ S.data.toList = [91] ++ ((sps s).take k).flatMap spT ∧ Below w.heap.size w wr ∧ wr.ownsRow C 62 2 (.slice sa n sc) n (flat (sps s))) (fun _ i _ => n - (intOf i).toNat)
    case atStart => exact ⟨0, _, by omega, rfl, rfl, by simp, HB5.out, HO.out⟩
    case round =>
      obtain ⟨k, S, hk, rfl, rfl, hS, hW, hok⟩ := hrel
      have hpl := spT_part (sps s) k
      have hSz : S.size ≤ 2900 := by
        have h1 : S.data.toList.length = S.size := by simp
        rw [← h1, hS, List.length_append]
        have h2 : ([91] : List UInt8).length ≤ 2 := by decide
        have h3 : (sps s).length ≤ 256 := spTo_len s 256
        omega
      by_cases hlt : k < n
      · have hlt2 : k < (sps s).length := by have := HNN.out; omega
        obtain ⟨g, rfl, hcap, cx, cy⟩ := own_pair (by rw [HNN.out]; exact hok) k hlt2
        have hle := sps_le s _ (List.getElem_mem hlt2)
        have Hs := Lib.hid (spT_snoc (sps s) k hlt2)
        generalize (sps s)[k] = q at cx cy hle Hs
        obtain ⟨x, y⟩ := q
        simp only at cx cy hle
        rw [HNN.out] at hcap
        have HS := Lib.hid hS
        have HOK := Lib.hid hok
        have hg : g < wr.heap.size := by
          rcases hok.2 with ⟨h, _⟩ | ⟨g', cap, cur, h, _, hh, _⟩
          · cases h
          · injection h with h _ _
            injection h with h
            injection h with h _ _
            subst h
            exact (Array.getElem?_eq_some_iff.1 hh).1
        have HW := Lib.hid hW
        clear hS hok hpl hW hlt2
        go_wp2_with fail
        refine (rshend_any x (by omega) wr).mono ?_
        rintro e w6 ⟨⟨X, rfl, hX⟩, b6⟩
        have hXz : X.size ≤ 5 := by
          have h1 : X.data.toList.length = X.size := by simp
          rw [← h1, hX]; exact endT_le x
        have HX := Lib.hid hX
        have HW6 := Lib.hid (HW.out.trans (b6.mono HW.out.size))
        have HOK6 := Lib.hid (own_below HOK.out b6)
        have cx6 := (b6.cell (p := ⟨g, k * 2, none⟩) hg).trans cx
        have cy6 := (b6.cell (p := ⟨g, k * 2 + 1, none⟩) hg).trans cy
        have hg6 : g < w6.heap.size := Nat.lt_of_lt_of_le hg b6.size
        clear hX cx cy b6
        go_upto_region 23 with fail
        by_cases hxy : x < y
        · have e3 : decide ((x : Int) < (y : Int)) = true := by simp; omega
          have HZ := Lib.hid (show spT (x, y) = endT x ++ 45 :: endT y by unfold spT; rw [if_pos hxy])
          go_quiet (fail)
          obtain ⟨W6, hW6⟩ : ∃ W, W = w6.drewN nq := ⟨_, rfl⟩
          have cy7 : W6.cell? ⟨g, k * 2 + 1, none⟩ = some (.int .u8 (y : Int)) := by rw [hW6]; exact cy6
          have hB6 : Below w6.heap.size w6 W6 := by rw [hW6]; exact ⟨rfl, rfl, rfl, Nat.le_refl _, fun _ _ => rfl⟩
          rw [← hW6]
          clear cx6 cy6 hW6
          go_wp2_with fail
          refine (rshend_any y (by omega) _).mono ?_
          rintro e w7 ⟨⟨Y, rfl, hY⟩, b7⟩
          have hYz : Y.size ≤ 5 := by
            have h1 : Y.data.toList.length = Y.size := by simp
            rw [← h1, hY]; exact endT_le y
          have HYY := Lib.hid hY
          have HW7 := Lib.hid ((HW6.out.trans (hB6.mono HW6.out.size)).trans (b7.mono (Nat.le_trans HW6.out.size hB6.size)))
          have HOK7 := Lib.hid (own_below (own_below HOK6.out hB6) b7)
          clear hY b7 cy7 hB6
          go_wp2_with fail
          go_roundw
          case rel => exact ⟨k + 1, _, by omega, by go_num, rfl, by rw [Hs.out, HZ.out, ← List.append_assoc, ← HS.out, ← HX.out, ← HYY.out]; simp [ByteArray.data_append], HW7.out, HOK7.out⟩
          case measure => simp [intOf]; omega
        · have e3 : decide ((x : Int) < (y : Int)) = false := by simp; omega
          have HZ := Lib.hid (show spT (x, y) = endT x by unfold spT; rw [if_neg hxy]; simp)
          go_quiet (fail)
          obtain ⟨W6, hW6⟩ : ∃ W, W = w6.drewN nq := ⟨_, rfl⟩
          have hB6 : Below w6.heap.size w6 W6 := by rw [hW6]; exact ⟨rfl, rfl, rfl, Nat.le_refl _, fun _ _ => rfl⟩
          have HW7 := Lib.hid (HW6.out.trans (hB6.mono HW6.out.size))
          have HOK7 := Lib.hid (own_below HOK6.out hB6)
          rw [← hW6]
          clear cx6 cy6 hW6 hB6
          go_wp2_with fail
          go_roundw
          case rel => exact ⟨k + 1, _, by omega, by go_num, rfl, by rw [Hs.out, HZ.out, ← List.append_assoc, ← HS.out, ← HX.out]; simp [ByteArray.data_append], HW7.out, HOK7.out⟩
          case measure => simp [intOf]; omega
      · obtain rfl : k = n := by omega
        have hS2 : S.data.toList ++ [93] = setT s := by rw [HY.out, hS, ← HNN.out, List.take_length]
        clear hok hpl hS
        go_wp2_with fail
        go_ret
        exact ⟨⟨_, rfl, by rw [← hS2]; simp [ByteArray.data_append]⟩, hW⟩
theorem rshset_any (s : OSet) (w : World) : Calls Tryz.prog 10 #[.agg #[.int .u64 (ow s 0), .int .u64 (ow s 1), .int .u64 (ow s 2), .int .u64 (ow s 3)]] w (RSet w (setT s)) := by
  by_cases h1 : olen s = 256
  · exact rshset_full s h1 w
  · by_cases h2 : olen s = 1
    · exact rshset_one s h2 w
    · exact rshset_more s h1 h2 w
end Go.Proofs.YtpmeicclngckeaaGreatDoor
