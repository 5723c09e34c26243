/- Layer 11: a number's digits: the statement's walk. -/
import Derived.Test.YtbhmpdbcjchdfaaDoorPcX
import Derived.Outline
namespace Go.Proofs.YtbhmpdbcjchdfaaDoor
open Go.RowKit

/-- One digit out of the ten. -/
def tenS : ByteArray := ⟨#[48, 49, 50, 51, 52, 53, 54, 55, 56, 57]⟩
theorem ten_digit (c : Nat) (h : c < 10) : tenS.extract c (c + 1) = txt [UInt8.ofNat (48 + c)] := by
  have : ∀ c : Fin 10, tenS.extract c.val (c.val + 1) = txt [UInt8.ofNat (48 + c.val)] := by decide +kernel
  exact this ⟨c, h⟩
theorem digit_is (c : Nat) (h : c < 10) : pcDigits.contains (UInt8.ofNat (48 + c)) = true ∧ (UInt8.ofNat (48 + c)).toNat - 48 = c := by
  have : ∀ c : Fin 10, pcDigits.contains (UInt8.ofNat (48 + c.val)) = true ∧ (UInt8.ofNat (48 + c.val)).toNat - 48 = c.val := by decide +kernel
  exact this ⟨c, h⟩

set_option maxHeartbeats 4000000 in
set_option maxRecDepth 100000 in
theorem pnumbers_any (N M : Nat) (hN : N < 4294967296) (hM : M < 256) (s : ByteArray) (w : World) (hG : GP w) :
    Calls Tryd.prog 7 #[.int .u32 N, .int .u8 M, .string s] w fun e w' => e = .returned (.bool true) ∧ Below w.heap.size w w' := by
  have hA := fun w' (h : GP w') => awake11_any w' h
  go_enter Tryd.func7, Tryd.ntmps7
  by_cases hs : (50 : Int) < (s.size : Int)
  · go_wp2_with (go_at_call 8; refine (hA _ hG).mono ?_)
    rintro e w1 ⟨rfl, b1⟩
    go_wp2_with (go_at_call 8; refine (hA w1 (hG.up b1)).mono ?_)
    rintro e w2 ⟨rfl, b2⟩
    go_wp2
    go_ret
    exact ⟨rfl, b1.trans (b2.mono b1.size)⟩
  have hs' : s.size ≤ 50 := by omega
  go_wp2_with (go_at_call 8; refine (hA _ hG).mono ?_; rintro e w1 ⟨rfl, b1⟩)
  clear hA hG
  go_loopw [7, 8] (fun t k wx => ∃ (K : Nat) (T : List UInt8), k = .int .u32 (K : Int) ∧ t = .string (txt T) ∧ T.length ≤ 5 ∧ K < 10 ^ (5 - T.length) ∧ Hid (pcFold K T = N % 100000 ∧ ∀ b ∈ T, pcDigits.contains b = true) ∧ w1 = wx) (fun _ k _ => (intOf k).toNat)
  case atStart => exact ⟨N % 100000, [], congrArg (Value.int .u32) (by omega), rfl, by simp, by simp; omega, Lib.hid ⟨rfl, by simp⟩, rfl⟩
  case round =>
    obtain ⟨K, T, rfl, rfl, hT5, hK, HT, rfl⟩ := hrel
    have hts := txt_size T
    have hK5 : K < 100000 := by
      have h2 : 10 ^ (5 - T.length) ≤ 10 ^ 5 := Nat.pow_le_pow_right (by omega) (by omega)
      omega
    by_cases hk0 : 0 < K
    · have hk0i : (0 : Int) < (K : Int) := by omega
      have hT4 : T.length ≤ 4 := by
        by_cases h : T.length = 5
        · rw [h] at hK; simp at hK; omega
        · omega
      obtain ⟨c, hc⟩ : ∃ c, K % 10 = c := ⟨_, rfl⟩
      have hc10 : c < 10 := by omega
      have hci : (K : Int) % 10 = (c : Int) := by omega
      have Wc : IntKind.u32.wrap ((c : Int) + 1) = (c : Int) + 1 := IntWalk.u32_in _ (by omega)
      have Hd := Lib.hid (digit_is c hc10)
      have Hex := Lib.hid (ten_digit c hc10)
      have hex : (tenS.extract c (c + 1)).size = 1 := by rw [Hex.out, txt_size]; rfl
      have Hc := Lib.hid hc
      have Hkc := Lib.hid (show K = K / 10 * 10 + c by omega)
      clear hc
      have Hp := Lib.hid (show K / 10 < 10 ^ (5 - (T.length + 1)) by
        rw [show 5 - T.length = (5 - (T.length + 1)) + 1 by omega, Nat.pow_succ] at hK
        omega)
      go_wp2
      go_roundw
      case rel =>
        refine ⟨K / 10, UInt8.ofNat (48 + c) :: T, congrArg (Value.int .u32) (by omega), ?_, by simp; omega, by rw [List.length_cons]; exact Hp.out, Lib.hid ⟨?_, fun b hb => ?_⟩, by first | rfl | trivial⟩
        · rw [show (⟨#[48, 49, 50, 51, 52, 53, 54, 55, 56, 57]⟩ : ByteArray) = tenS from rfl, Hex.out, txt_append]; rfl
        · rw [pcFold_cons, Hd.out.2, ← Hkc.out]; exact HT.out.1
        · rcases List.mem_cons.1 hb with h | h
          · rw [h]; exact Hd.out.1
          · exact HT.out.2 b h
      case measure => simp [intOf]; omega
    · have hk0i : ¬ (0 : Int) < (K : Int) := by omega
      obtain rfl : K = 0 := by omega
      obtain ⟨m, hm⟩ : ∃ m, N % 100000 = m := ⟨_, rfl⟩
      rw [hm] at HT
      have hmi : (N : Int) % 100000 = (m : Int) := by omega
      obtain ⟨q, hq⟩ : ∃ q, 1 + M % 4 = q := ⟨_, rfl⟩
      have hq4 : q ≤ 4 := by omega
      have hq1 : 1 ≤ q := by omega
      have hMi : (M : Int) % 4 = (q : Int) - 1 := by omega
      have Wq : IntKind.u8.wrap (1 + ((q : Int) - 1)) = (q : Int) := by rw [IntWalk.u8_in _ (by omega)]; omega
      have Wq2 : IntKind.u8.wrap (1 + (M : Int) % 4) = (q : Int) := by rw [IntWalk.u8_in _ (by omega)]; omega
      have HF : Hid (pcFold 0 T = m ∧ ∀ b ∈ T, pcDigits.contains b = true) := HT
      clear HT hK hK5 hm hq hk0i
      go_wp2
      go_loopg [7, 37] q (fun g t j wx => ∃ (i : Nat) (U : List UInt8), i + g = q ∧ j = .int .u8 (i : Int) ∧ t = .string (txt U) ∧ U.length = T.length + i ∧ Hid (pcFold 0 U = m ∧ ∀ b ∈ U, pcDigits.contains b = true) ∧ w1 = wx)
      case atStart => exact ⟨0, T, by omega, rfl, rfl, rfl, HF, rfl⟩
      case round =>
        obtain ⟨i, U, hig, rfl, rfl, hU, HU, rfl⟩ := hrel
        have htu := txt_size U
        cases gk with
        | succ g =>
          have hiq : (i : Int) < (q : Int) := by omega
          have Wi : IntKind.u8.wrap ((i : Int) + 1) = (i : Int) + 1 := IntWalk.u8_in _ (by omega)
          go_wp2
          go_roundg g
          case measure => omega
          case rel =>
            refine ⟨i + 1, 48 :: U, by omega, by go_num, ?_, by simp; omega, Lib.hid ⟨?_, fun b hb => ?_⟩, by first | rfl | trivial⟩
            · rw [show (⟨#[48]⟩ : ByteArray) = txt [48] from rfl, txt_append]; rfl
            · rw [pcFold_cons]; exact HU.out.1
            · rcases List.mem_cons.1 hb with h | h
              · rw [h]; rfl
              · exact HU.out.2 b h
        | zero =>
          obtain rfl : i = q := by omega
          have hiq : ¬ (i : Int) < (i : Int) := by omega
          have hxs : (⟨#[120]⟩ ++ txt U : ByteArray).size = U.length + 1 := by rw [show (⟨#[120]⟩ : ByteArray) = txt [120] from rfl, txt_append, txt_size]; simp
          have hUl : U.length ≤ 9 := by omega
          have hnum : (∀ b, s.data.toList[0]? = some b → pcDigits.contains b = false) → Calls Tryd.prog 9 #[.string (⟨#[120]⟩ ++ txt U ++ s), .int .i64 1] w1 fun e w' => e = .returned (.tuple #[.int .i64 (m : Int), .int .i64 (((txt U).size : Int) + 1), .int .i64 0]) ∧ Below w1.heap.size w1 w' := fun hr => by
            have hl : (⟨#[120]⟩ ++ txt U ++ s : ByteArray) = txt (120 :: (U ++ s.data.toList)) := by
              rw [show (⟨#[120]⟩ : ByteArray) = txt [120] from rfl, txt_append, ← txt_of s, txt_append]; simp [txt_of]
            have h := pnumber_any (txt (120 :: (U ++ s.data.toList))) 1 w1 (by rw [txt_size]; simp; omega)
            rw [txt_list, num_digits U s.data.toList m HU.out.2 hr (by omega) (by omega) HU.out.1] at h
            rw [hl]
            refine h.mono fun e w' ⟨he, hb⟩ => ⟨?_, hb⟩
            rw [he]
            exact (ans3_mk rfl (by rw [htu]; show (U.length : Int) + 1 = ((1 + U.length : Nat) : Int); omega) rfl).symm
          have Wt : IntKind.i64.wrap (((txt U).size : Int) + 1) = ((txt U).size : Int) + 1 := IntWalk.i64_in _ (by omega)
          clear HU HF hU
          generalize txt U = TU at *
          by_cases h0 : s.size = 0
          · have hnil : s.data.toList = [] := List.length_eq_zero_iff.1 (by rw [← size_list]; exact h0)
            have hC := hnum (fun b hb => by rw [hnil] at hb; simp at hb)
            have c1 : s.toList.isEmpty = true := by rw [ByteArray.toList_eq, hnil]; rfl
            have c2 : s.toList = [] := List.isEmpty_iff.1 c1
            have c0 : (s.toList == []) = true := by rw [c2]; rfl
            have c3 : (s.toList != []) = false := by rw [c2]; rfl
            clear hnum hnil
            go_wp2_with (go_at_call 9; refine hC.mono ?_; rintro e w2 ⟨rfl, b2⟩)
            go_ret
            exact ⟨rfl, b1.trans (b2.mono b1.size)⟩
          · have c1 : s.toList.isEmpty = false := by
              rw [ByteArray.toList_eq]
              cases h : s.data.toList with
              | nil => rw [size_list, h] at h0; exact absurd rfl h0
              | cons _ _ => rfl
            have c2 : ¬ s.toList = [] := fun h => by rw [h] at c1; cases c1
            have c0 : (s.toList == []) = false := beq_eq_false_iff_ne.2 c2
            have c3 : (s.toList != []) = true := bne_iff_ne.2 c2
            have hp : 0 < s.size := by omega
            have hpi : (0 : Int) < (s.size : Int) := by omega
            have hx := Lib.data_getElem? s 0 hp
            have hdg := pcDigits_iff s[0]
            have hC := fun h => hnum (fun b hb => by rw [hx] at hb; cases hb; exact h)
            clear hnum hx
            by_cases g1 : (48 : Int) ≤ (s[0].toNat : Int)
            · by_cases g2 : (s[0].toNat : Int) ≤ 57
              · clear hC hdg
                go_wp2
                go_ret
                exact ⟨rfl, b1⟩
              · have hC := hC (by rw [hdg, decide_eq_false (by omega : ¬ s[0].toNat ≤ 57), Bool.and_false])
                clear hdg
                go_wp2_with (go_at_call 9; refine hC.mono ?_; rintro e w2 ⟨rfl, b2⟩)
                go_ret
                exact ⟨rfl, b1.trans (b2.mono b1.size)⟩
            · have hC := hC (by rw [hdg, decide_eq_false (by omega : ¬ 48 ≤ s[0].toNat), Bool.false_and])
              clear hdg
              go_wp2_with (go_at_call 9; refine hC.mono ?_; rintro e w2 ⟨rfl, b2⟩)
              go_ret
              exact ⟨rfl, b1.trans (b2.mono b1.size)⟩
end Go.Proofs.YtbhmpdbcjchdfaaDoor
