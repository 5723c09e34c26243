/- The document's own names (layer 11), walked. -/
import Derived.Test.YtbhmpdbcjchdfaaDoorPcS
namespace Go.Proofs.YtbhmpdbcjchdfaaDoor
open Go.RowKit

/-- What stands between two places, without the blanks at its ends: told by its two ends. -/
theorem trim_is {x cs : List UInt8} {a b : Nat} (hab : a ≤ b) (hb : b ≤ x.length) (h1 : ∀ (j : Nat) c, j < a → x[j]? = some c → cs.contains c = true) (h2 : ∀ (j : Nat) c, b ≤ j → x[j]? = some c → cs.contains c = true)
    (h3 : a < b → ∀ c, x[a]? = some c → cs.contains c = false) (h4 : a < b → ∀ c, x[b - 1]? = some c → cs.contains c = false) : Lib.trimS x cs = (x.take b).drop a := by
  unfold Lib.trimS
  by_cases h : a < b
  · rw [Lib.trimRightS_take x cs b hb h2 (fun c _ hc => h4 h c hc)]
    refine Lib.trimLeftS_drop _ cs a (by rw [List.length_take]; omega) (fun j c hj hc => ?_) (fun c hc => ?_)
    · rw [List.getElem?_take_of_lt (by omega)] at hc; exact h1 j c hj hc
    · rw [List.getElem?_take_of_lt (by omega)] at hc; exact h3 h c hc
  · obtain rfl : a = b := by omega
    have hall : ∀ (j : Nat) c, x[j]? = some c → cs.contains c = true := fun j c hc => by
      by_cases hj : j < a
      · exact h1 j c hj hc
      · exact h2 j c (by omega) hc
    rw [Lib.trimRightS_take x cs 0 (Nat.zero_le _) (fun j c _ hc => hall j c hc) (fun c h0 => absurd h0 (by omega))]
    rw [List.take_zero, List.drop_eq_nil_of_le (by rw [List.length_take]; omega)]
    rfl

def pcBlank (x : UInt8) : Bool := ([32, 9] : List UInt8).contains x
theorem blank_iff (x : UInt8) : pcBlank x = ((x.toNat : Int) == 32 || (x.toNat : Int) == 9) := by
  have h : ∀ x : Fin 256, pcBlank (UInt8.ofNat x.val) = (((UInt8.ofNat x.val).toNat : Int) == 32 || ((UInt8.ofNat x.val).toNat : Int) == 9) := by decide +kernel
  have := h ⟨x.toNat, x.toNat_lt⟩
  simpa using this
theorem ender_iff (label : Bool) (x : UInt8) : pcEnder label x = ((x.toNat : Int) == 10 || (label && (x.toNat : Int) == 59)) := by
  have h : ∀ (label : Bool) (x : Fin 256), pcEnder label (UInt8.ofNat x.val) = (((UInt8.ofNat x.val).toNat : Int) == 10 || (label && ((UInt8.ofNat x.val).toNat : Int) == 59)) := by decide +kernel
  have := h label ⟨x.toNat, x.toNat_lt⟩
  simpa using this
theorem blank_not_ender (label : Bool) (x : UInt8) (h : pcBlank x = true) : pcEnder label x = false := by
  have h' : ∀ (label : Bool) (x : Fin 256), pcBlank (UInt8.ofNat x.val) = true → pcEnder label (UInt8.ofNat x.val) = false := by decide +kernel
  have := h' label ⟨x.toNat, x.toNat_lt⟩
  simp only [UInt8.ofNat_toNat] at this
  exact this h

/-- Blanks end ahead of a name's end. -/
theorem blanks_le_end (label : Bool) : ∀ l : List UInt8, pcIs [32, 9] l ≤ pcEnd label l
  | [] => Nat.le_refl _
  | c :: l => by
    cases h : pcBlank c with
    | true =>
      unfold pcIs pcEnd
      rw [pcLen_yes (p := fun b => ([32, 9] : List UInt8).contains b) h, pcLen_yes (p := fun b => !pcEnder label b) (by rw [blank_not_ender label c h]; rfl)]
      exact Nat.succ_le_succ (blanks_le_end label l)
    | false =>
      unfold pcIs
      rw [pcLen_no (p := fun b => ([32, 9] : List UInt8).contains b) h]
      exact Nat.zero_le _

set_option maxHeartbeats 8000000 in
set_option maxRecDepth 1000000 in
theorem rname_at (s : ByteArray) (k : Nat) (label : Bool) (w : World) (hs : s.size ≤ 4000000) (hk : k ≤ s.size) :
    Calls Tryd.prog 18 #[.string s, .int .i64 k, .bool label] w fun e w' => e = pcA (pcName s.data.toList k label) ∧ Below w.heap.size w w' := by
  have hP := over_no s k w hk
  have hle : k + pcEnd label (s.data.toList.drop k) ≤ s.size := pcLen_dropLe (fun b => !pcEnder label b) s k hk
  have hbe := blanks_le_end label (s.data.toList.drop k)
  obtain ⟨F, hF⟩ : ∃ F, k + pcIs [32, 9] (s.data.toList.drop k) = F := ⟨_, rfl⟩
  obtain ⟨E, hE⟩ : ∃ E, k + pcEnd label (s.data.toList.drop k) = E := ⟨_, rfl⟩
  have hFE : F ≤ E := by omega
  have hEs : E ≤ s.size := by omega
  have hkF : k ≤ F := by omega
  have hB : ∀ w, Calls Tryd.prog 12 #[.string s, .int .i64 k] w fun e w' => e = .returned (.int .i64 (F : Int)) ∧ Below w.heap.size w w' := fun w => by
    have := rblanks_any s k w hs
    rw [pcBehind_at _ _ _ (by rw [← size_list]; exact hk), hF] at this
    exact this
  obtain ⟨R, hR⟩ : ∃ R, pcName s.data.toList k label = R := ⟨_, rfl⟩
  have hans : ∀ q, F ≤ q → q ≤ E → (∀ (j : Nat) b, q ≤ j → j < E → s.data.toList[j]? = some b → pcBlank b = true) → (F < q → ∀ c, s.data.toList[q - 1]? = some c → pcBlank c = false) →
      R = if q = F then ([], k, 14) else if 40 < q - F then ([], k, 3) else ((s.extract F q).data.toList, E, 0) := fun q h1 h2 h3 h4 => by
    have hx : ∀ (j : Nat), j < E - k → ((s.data.toList.drop k).take (E - k))[j]? = s.data.toList[k + j]? := fun j hj => by rw [List.getElem?_take_of_lt hj, List.getElem?_drop]
    have hlenx : ((s.data.toList.drop k).take (E - k)).length = E - k := by rw [List.length_take, List.length_drop, ← size_list]; omega
    have hbf := pcLen_before (fun b => ([32, 9] : List UInt8).contains b) (s.data.toList.drop k)
    have hat := pcLen_at (fun b => ([32, 9] : List UInt8).contains b) (s.data.toList.drop k)
    have hFk : pcLen (fun b => ([32, 9] : List UInt8).contains b) (s.data.toList.drop k) = F - k := by unfold pcIs at hF; omega
    rw [hFk] at hbf hat
    have hn : Lib.trimS ((s.data.toList.drop k).take (E - k)) [32, 9] = (s.extract F q).data.toList := by
      rw [trim_is (a := F - k) (b := q - k) (by omega) (by rw [hlenx]; omega)]
      · rw [extract_list2, List.take_take, List.drop_take, List.drop_drop, show min (q - k) (E - k) - (F - k) = q - F by omega, show k + (F - k) = F by omega]
      · intro j c hj hc
        rw [hx j (by omega)] at hc
        exact hbf j c hj (by rw [List.getElem?_drop]; exact hc)
      · intro j c hj hc
        have hjl : j < E - k := by
          have := (List.getElem?_eq_some_iff.1 hc).1
          rw [hlenx] at this; exact this
        rw [hx j hjl] at hc
        exact h3 (k + j) c (by omega) (by omega) hc
      · intro hlt c hc
        rw [hx _ (by omega)] at hc
        exact hat c (by rw [List.getElem?_drop]; exact hc)
      · intro hlt c hc
        rw [hx _ (by omega)] at hc
        exact h4 (by omega) c (by rw [show q - 1 = k + (q - k - 1) by omega]; exact hc)
    have hnl : (s.extract F q).data.toList.length = q - F := by rw [← size_list]; simp; omega
    rw [← hR]
    unfold pcName
    rw [hE, show pcEnd label (s.data.toList.drop k) = E - k by omega, hn]
    unfold pcNameOf
    rw [hnl]
    by_cases hq : q = F
    · rw [if_pos hq, if_pos (List.length_eq_zero_iff.1 (by omega))]
    · rw [if_neg hq, if_neg (fun h => by rw [h] at hnl; simp at hnl; omega)]
  rw [hR]
  have HE0 := Lib.hid hE
  clear hR hF hE hbe hle
  go_enter Tryd.func18, Tryd.ntmps18
  go_wp2_with (go_at_call 23; refine hP.mono ?_; rintro e w' ⟨rfl, rfl⟩)
  clear hP
  go_loopw [9] (fun a wr => ∃ p : Nat, p ≤ s.size ∧ a = .int .i64 p ∧ p + pcEnd label (s.data.toList.drop p) = E ∧ w' = wr) (fun a _ => s.size - (intOf a).toNat)
  case atStart => exact ⟨k, hk, rfl, HE0.out, rfl⟩
  case round =>
    obtain ⟨p, hp, rfl, hpE, rfl⟩ := hrel
    have HE := Lib.hid hpE
    clear hpE
    have hmin : min (F : Int) (E : Int) = (F : Int) := by omega
    by_cases hlt : p < s.size
    · have hlti : (p : Int) < (s.size : Int) := by omega
      have hen := ender_iff label s[p]
      have Wp : IntKind.i64.wrap ((p : Int) + 1) = (p : Int) + 1 := IntWalk.i64_in _ (by omega)
      cases q10 : ((s[p].toNat : Int) == 10) with
      | true =>
        have q10' : ((s[p].toNat : Int) != 10) = false := by rw [bne, q10]; rfl
        have Hs := Lib.hid (show pcEnd label (s.data.toList.drop p) = 0 from pcLen_atNo (p := fun b => !pcEnder label b) hlt (by rw [hen, q10]; rfl))
        clear hen
        obtain rfl : E = p := by have := HE.out; rw [Hs.out] at this; omega
        go_wp2_with (go_at_call 12; refine (hB w').mono ?_; rintro e w1 ⟨rfl, b1⟩)
        go_loopw [11] (fun t wr => ∃ q : Nat, F ≤ q ∧ q ≤ E ∧ t = .int .i64 q ∧ Below w'.heap.size w' wr ∧ Hid (∀ (j : Nat) b, q ≤ j → j < E → s.data.toList[j]? = some b → pcBlank b = true)) (fun t _ => (intOf t).toNat)
        case atStart => exact ⟨E, hFE, Nat.le_refl _, rfl, b1, Lib.hid (fun j b h1 h2 => absurd h2 (by omega))⟩
        case round =>
          obtain ⟨q, hFq, hqE, rfl, hbw, Hq⟩ := hrel
          have hqs : q ≤ s.size := by omega
          by_cases hlt : F < q
          · have hlti : (F : Int) < (q : Int) := by omega
            obtain ⟨r, hr⟩ : ∃ r, q = r + 1 := ⟨q - 1, by omega⟩
            have hm1 : IntKind.i64.wrap ((q : Int) - 1) = (r : Int) := by rw [IntWalk.i64_in _ (by omega)]; omega
            have hi0 : (r : Int) < (s.size : Int) := by omega
            have hi1 : r < s.size := by omega
            have hbl := blank_iff s[r]
            have Hx := Lib.hid (Lib.data_getElem? s r hi1)
            have Hr := Lib.hid hr
            cases q32 : ((s[r].toNat : Int) == 32) with
            | true =>
              have HB := Lib.hid (show pcBlank s[r] = true by rw [hbl, q32]; rfl)
              clear hbl hr
              go_wp2
              go_roundw
              case rel =>
                refine ⟨r, by have := Hr.out; omega, by have := Hr.out; omega, rfl, hbw, Lib.hid fun j b h1 h2 hb => ?_⟩
                by_cases hj : j = r
                · rw [hj, Hx.out] at hb; cases hb; exact HB.out
                · exact Hq.out j b (by have := Hr.out; omega) h2 hb
              case measure => have := Hr.out; simp [intOf]; omega
            | false =>
              cases q9 : ((s[r].toNat : Int) == 9) with
              | true =>
                have HB := Lib.hid (show pcBlank s[r] = true by rw [hbl, q32, q9]; rfl)
                clear hbl hr
                go_wp2
                go_roundw
                case rel =>
                  refine ⟨r, by have := Hr.out; omega, by have := Hr.out; omega, rfl, hbw, Lib.hid fun j b h1 h2 hb => ?_⟩
                  by_cases hj : j = r
                  · rw [hj, Hx.out] at hb; cases hb; exact HB.out
                  · exact Hq.out j b (by have := Hr.out; omega) h2 hb
                case measure => have := Hr.out; simp [intOf]; omega
              | false =>
                have HB := Lib.hid (show pcBlank s[r] = false by rw [hbl, q32, q9]; rfl)
                have Hans := Lib.hid (hans q hFq hqE Hq.out (fun _ c hc => by rw [show q - 1 = r by omega, Hx.out] at hc; cases hc; exact HB.out))
                have qe : ((q : Int) == (F : Int)) = false := beq_eq_false_iff_ne.2 (by omega)
                have hsub : IntKind.i64.wrap ((q : Int) - (F : Int)) = ((q - F : Nat) : Int) := by rw [IntWalk.i64_in _ (by omega)]; omega
                clear hbl hr hB b1
                by_cases h40 : 40 < q - F
                · have h40' : (40 : Int) < ((q - F : Nat) : Int) := by omega
                  go_wp2
                  go_ret3
                  refine ⟨?_, hbw⟩
                  rw [Hans.out, if_neg (by omega), if_pos h40]
                  rfl
                · have h40' : ¬ (40 : Int) < ((q - F : Nat) : Int) := by omega
                  have hFs : (F : Int) ≤ (q : Int) := by omega
                  have hqi : (q : Int) ≤ (s.size : Int) := by omega
                  go_wp2
                  go_ret3
                  refine ⟨?_, hbw⟩
                  rw [Hans.out, if_neg (by omega), if_neg h40]
                  exact pcA_mk (txt_of _).symm rfl rfl
          · have hlti : ¬ (F : Int) < (q : Int) := by omega
            have qe : ((q : Int) == (F : Int)) = true := beq_iff_eq.2 (by omega)
            have Hans := Lib.hid (hans q hFq hqE Hq.out (fun h => absurd h hlt))
            have hqF : q = F := by omega
            have HqF := Lib.hid hqF
            clear hqF hB b1
            go_wp2
            go_ret3
            refine ⟨?_, hbw⟩
            rw [Hans.out, if_pos HqF.out]
            rfl
      | false =>
        have q10' : ((s[p].toNat : Int) != 10) = true := by rw [bne, q10]; rfl
        cases label with
        | false =>
          have Hs := Lib.hid (show pcEnd false (s.data.toList.drop p) = pcEnd false (s.data.toList.drop (p + 1)) + 1 from pcLen_atYes (p := fun b => !pcEnder false b) hlt (by rw [hen, q10]; rfl))
          clear hen
          go_wp2
          go_roundw
          case rel => exact ⟨p + 1, by omega, by go_num, by have := HE.out; rw [Hs.out] at this; omega, by first | rfl | trivial⟩
          case measure => simp [intOf]; omega
        | true =>
          cases q59 : ((s[p].toNat : Int) == 59) with
          | true =>
            have Hs := Lib.hid (show pcEnd true (s.data.toList.drop p) = 0 from pcLen_atNo (p := fun b => !pcEnder true b) hlt (by rw [hen, q10, q59]; rfl))
            clear hen
            obtain rfl : E = p := by have := HE.out; rw [Hs.out] at this; omega
            go_wp2_with (go_at_call 12; refine (hB w').mono ?_; rintro e w1 ⟨rfl, b1⟩)
            go_loopw [11] (fun t wr => ∃ q : Nat, F ≤ q ∧ q ≤ E ∧ t = .int .i64 q ∧ Below w'.heap.size w' wr ∧ Hid (∀ (j : Nat) b, q ≤ j → j < E → s.data.toList[j]? = some b → pcBlank b = true)) (fun t _ => (intOf t).toNat)
            case atStart => exact ⟨E, hFE, Nat.le_refl _, rfl, b1, Lib.hid (fun j b h1 h2 => absurd h2 (by omega))⟩
            case round =>
              obtain ⟨q, hFq, hqE, rfl, hbw, Hq⟩ := hrel
              have hqs : q ≤ s.size := by omega
              by_cases hlt : F < q
              · have hlti : (F : Int) < (q : Int) := by omega
                obtain ⟨r, hr⟩ : ∃ r, q = r + 1 := ⟨q - 1, by omega⟩
                have hm1 : IntKind.i64.wrap ((q : Int) - 1) = (r : Int) := by rw [IntWalk.i64_in _ (by omega)]; omega
                have hi0 : (r : Int) < (s.size : Int) := by omega
                have hi1 : r < s.size := by omega
                have hbl := blank_iff s[r]
                have Hx := Lib.hid (Lib.data_getElem? s r hi1)
                have Hr := Lib.hid hr
                cases q32 : ((s[r].toNat : Int) == 32) with
                | true =>
                  have HB := Lib.hid (show pcBlank s[r] = true by rw [hbl, q32]; rfl)
                  clear hbl hr
                  go_wp2
                  go_roundw
                  case rel =>
                    refine ⟨r, by have := Hr.out; omega, by have := Hr.out; omega, rfl, hbw, Lib.hid fun j b h1 h2 hb => ?_⟩
                    by_cases hj : j = r
                    · rw [hj, Hx.out] at hb; cases hb; exact HB.out
                    · exact Hq.out j b (by have := Hr.out; omega) h2 hb
                  case measure => have := Hr.out; simp [intOf]; omega
                | false =>
                  cases q9 : ((s[r].toNat : Int) == 9) with
                  | true =>
                    have HB := Lib.hid (show pcBlank s[r] = true by rw [hbl, q32, q9]; rfl)
                    clear hbl hr
                    go_wp2
                    go_roundw
                    case rel =>
                      refine ⟨r, by have := Hr.out; omega, by have := Hr.out; omega, rfl, hbw, Lib.hid fun j b h1 h2 hb => ?_⟩
                      by_cases hj : j = r
                      · rw [hj, Hx.out] at hb; cases hb; exact HB.out
                      · exact Hq.out j b (by have := Hr.out; omega) h2 hb
                    case measure => have := Hr.out; simp [intOf]; omega
                  | false =>
                    have HB := Lib.hid (show pcBlank s[r] = false by rw [hbl, q32, q9]; rfl)
                    have Hans := Lib.hid (hans q hFq hqE Hq.out (fun _ c hc => by rw [show q - 1 = r by omega, Hx.out] at hc; cases hc; exact HB.out))
                    have qe : ((q : Int) == (F : Int)) = false := beq_eq_false_iff_ne.2 (by omega)
                    have hsub : IntKind.i64.wrap ((q : Int) - (F : Int)) = ((q - F : Nat) : Int) := by rw [IntWalk.i64_in _ (by omega)]; omega
                    clear hbl hr hB b1
                    by_cases h40 : 40 < q - F
                    · have h40' : (40 : Int) < ((q - F : Nat) : Int) := by omega
                      go_wp2
                      go_ret3
                      refine ⟨?_, hbw⟩
                      rw [Hans.out, if_neg (by omega), if_pos h40]
                      rfl
                    · have h40' : ¬ (40 : Int) < ((q - F : Nat) : Int) := by omega
                      have hFs : (F : Int) ≤ (q : Int) := by omega
                      have hqi : (q : Int) ≤ (s.size : Int) := by omega
                      go_wp2
                      go_ret3
                      refine ⟨?_, hbw⟩
                      rw [Hans.out, if_neg (by omega), if_neg h40]
                      exact pcA_mk (txt_of _).symm rfl rfl
              · have hlti : ¬ (F : Int) < (q : Int) := by omega
                have qe : ((q : Int) == (F : Int)) = true := beq_iff_eq.2 (by omega)
                have Hans := Lib.hid (hans q hFq hqE Hq.out (fun h => absurd h hlt))
                have hqF : q = F := by omega
                have HqF := Lib.hid hqF
                clear hqF hB b1
                go_wp2
                go_ret3
                refine ⟨?_, hbw⟩
                rw [Hans.out, if_pos HqF.out]
                rfl
          | false =>
            have Hs := Lib.hid (show pcEnd true (s.data.toList.drop p) = pcEnd true (s.data.toList.drop (p + 1)) + 1 from pcLen_atYes (p := fun b => !pcEnder true b) hlt (by rw [hen, q10, q59]; rfl))
            clear hen
            go_wp2
            go_roundw
            case rel => exact ⟨p + 1, by omega, by go_num, by have := HE.out; rw [Hs.out] at this; omega, by first | rfl | trivial⟩
            case measure => simp [intOf]; omega
    · have hlti : ¬ (p : Int) < (s.size : Int) := by omega
      have Hs := Lib.hid (show pcEnd label (s.data.toList.drop p) = 0 from pcLen_atEnd (fun b => !pcEnder label b) (by omega))
      obtain rfl : E = p := by have := HE.out; rw [Hs.out] at this; omega
      go_wp2_with (go_at_call 12; refine (hB w').mono ?_; rintro e w1 ⟨rfl, b1⟩)
      go_loopw [11] (fun t wr => ∃ q : Nat, F ≤ q ∧ q ≤ E ∧ t = .int .i64 q ∧ Below w'.heap.size w' wr ∧ Hid (∀ (j : Nat) b, q ≤ j → j < E → s.data.toList[j]? = some b → pcBlank b = true)) (fun t _ => (intOf t).toNat)
      case atStart => exact ⟨E, hFE, Nat.le_refl _, rfl, b1, Lib.hid (fun j b h1 h2 => absurd h2 (by omega))⟩
      case round =>
        obtain ⟨q, hFq, hqE, rfl, hbw, Hq⟩ := hrel
        have hqs : q ≤ s.size := by omega
        by_cases hlt : F < q
        · have hlti : (F : Int) < (q : Int) := by omega
          obtain ⟨r, hr⟩ : ∃ r, q = r + 1 := ⟨q - 1, by omega⟩
          have hm1 : IntKind.i64.wrap ((q : Int) - 1) = (r : Int) := by rw [IntWalk.i64_in _ (by omega)]; omega
          have hi0 : (r : Int) < (s.size : Int) := by omega
          have hi1 : r < s.size := by omega
          have hbl := blank_iff s[r]
          have Hx := Lib.hid (Lib.data_getElem? s r hi1)
          have Hr := Lib.hid hr
          cases q32 : ((s[r].toNat : Int) == 32) with
          | true =>
            have HB := Lib.hid (show pcBlank s[r] = true by rw [hbl, q32]; rfl)
            clear hbl hr
            go_wp2
            go_roundw
            case rel =>
              refine ⟨r, by have := Hr.out; omega, by have := Hr.out; omega, rfl, hbw, Lib.hid fun j b h1 h2 hb => ?_⟩
              by_cases hj : j = r
              · rw [hj, Hx.out] at hb; cases hb; exact HB.out
              · exact Hq.out j b (by have := Hr.out; omega) h2 hb
            case measure => have := Hr.out; simp [intOf]; omega
          | false =>
            cases q9 : ((s[r].toNat : Int) == 9) with
            | true =>
              have HB := Lib.hid (show pcBlank s[r] = true by rw [hbl, q32, q9]; rfl)
              clear hbl hr
              go_wp2
              go_roundw
              case rel =>
                refine ⟨r, by have := Hr.out; omega, by have := Hr.out; omega, rfl, hbw, Lib.hid fun j b h1 h2 hb => ?_⟩
                by_cases hj : j = r
                · rw [hj, Hx.out] at hb; cases hb; exact HB.out
                · exact Hq.out j b (by have := Hr.out; omega) h2 hb
              case measure => have := Hr.out; simp [intOf]; omega
            | false =>
              have HB := Lib.hid (show pcBlank s[r] = false by rw [hbl, q32, q9]; rfl)
              have Hans := Lib.hid (hans q hFq hqE Hq.out (fun _ c hc => by rw [show q - 1 = r by omega, Hx.out] at hc; cases hc; exact HB.out))
              have qe : ((q : Int) == (F : Int)) = false := beq_eq_false_iff_ne.2 (by omega)
              have hsub : IntKind.i64.wrap ((q : Int) - (F : Int)) = ((q - F : Nat) : Int) := by rw [IntWalk.i64_in _ (by omega)]; omega
              clear hbl hr hB b1
              by_cases h40 : 40 < q - F
              · have h40' : (40 : Int) < ((q - F : Nat) : Int) := by omega
                go_wp2
                go_ret3
                refine ⟨?_, hbw⟩
                rw [Hans.out, if_neg (by omega), if_pos h40]
                rfl
              · have h40' : ¬ (40 : Int) < ((q - F : Nat) : Int) := by omega
                have hFs : (F : Int) ≤ (q : Int) := by omega
                have hqi : (q : Int) ≤ (s.size : Int) := by omega
                go_wp2
                go_ret3
                refine ⟨?_, hbw⟩
                rw [Hans.out, if_neg (by omega), if_neg h40]
                exact pcA_mk (txt_of _).symm rfl rfl
        · have hlti : ¬ (F : Int) < (q : Int) := by omega
          have qe : ((q : Int) == (F : Int)) = true := beq_iff_eq.2 (by omega)
          have Hans := Lib.hid (hans q hFq hqE Hq.out (fun h => absurd h hlt))
          have hqF : q = F := by omega
          have HqF := Lib.hid hqF
          clear hqF hB b1
          go_wp2
          go_ret3
          refine ⟨?_, hbw⟩
          rw [Hans.out, if_pos HqF.out]
          rfl
theorem rname_no (s : ByteArray) (a : Int) (label : Bool) (w : World) (h : ¬ (0 ≤ a ∧ a ≤ (s.size : Int))) :
    Calls Tryd.prog 18 #[.string s, .int .i64 a, .bool label] w fun e w' => e = pcA ([], 0, 1) ∧ Below w.heap.size w w' := by
  have hP := over_yes s a w h
  clear h
  go_enter Tryd.func18, Tryd.ntmps18
  go_wp2_with (go_at_call 23; refine hP.mono ?_; rintro e w' ⟨rfl, rfl⟩)
  go_ret3
  exact ⟨rfl, Below.refl _ _⟩
end Go.Proofs.YtbhmpdbcjchdfaaDoor
