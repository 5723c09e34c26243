/- Ito: strconv.Itoa by the library's contract, laid by hand.
   ShTi: Numbers and repetitions as texts, walked: of the program (strconv.Itoa, times) and of the document (Digits, times). -/
import Derived.Test.YtpmeicclngckeaaGreatDoorShMa
import Derived.Shelf.Strconv.Itoa3
import Derived.Lib.AppendIntMem
namespace Go.Proofs.YtpmeicclngckeaaGreatDoor
open Go Go.RowKit Go.Shelf

def cren : Go.Shelf.Ren := ⟨fun | 129 => 148 | 171 => 69 | 243 => 103 | 246 => 121 | 283 => 139 | 284 => 140 | 285 => 141 | 286 => 142 | 317 => 147 | 318 => 149 | 319 => 150 | 320 => 151 | 337 => 155 | 338 => 78 | n => n, fun | 0 => 0 | 2 => 2 | 3 => 3 | 4 => 4 | 5 => 5 | 9 => 9 | 20 => 20 | 37 => 52 | 46 => 180 | 51 => 200 | 53 => 22 | 171 => 203 | 173 => 205 | 212 => 216 | 213 => 217 | 232 => 227 | 233 => 181 | n => n, fun | 17 => 1 | 18 => 3 | 19 => 0 | n => n⟩
set_option maxRecDepth 100000 in
theorem clays : Go.Proofs.LaysM.n171 Tryz.prog cren := {
  mixed := by kernel_rfl
  f129 := Tryz.func148.trans (congrArg some (by kernel_rfl))
  f171 := Tryz.func69.trans (congrArg some (by kernel_rfl))
  f243 := Tryz.func103.trans (congrArg some (by kernel_rfl))
  f246 := Tryz.func121.trans (congrArg some (by kernel_rfl))
  f283 := Tryz.func139.trans (congrArg some (by kernel_rfl))
  f284 := Tryz.func140.trans (congrArg some (by kernel_rfl))
  f285 := Tryz.func141.trans (congrArg some (by kernel_rfl))
  f286 := Tryz.func142.trans (congrArg some (by kernel_rfl))
  f317 := Tryz.func147.trans (congrArg some (by kernel_rfl))
  f318 := Tryz.func149.trans (congrArg some (by kernel_rfl))
  f319 := Tryz.func150.trans (congrArg some (by kernel_rfl))
  f320 := Tryz.func151.trans (congrArg some (by kernel_rfl))
  f337 := Tryz.func155.trans (congrArg some (by kernel_rfl))
  f338 := Tryz.func78.trans (congrArg some (by kernel_rfl))
  t0 := Tryz.underlying0
  a0 := Tryz.isAgg0
  z0 := Tryz.sizeOf0
  v0 := Tryz.zeroValue0
  t2 := Tryz.underlying2
  a2 := Tryz.isAgg2
  z2 := Tryz.sizeOf2
  v2 := Tryz.zeroValue2
  t3 := Tryz.underlying3
  a3 := Tryz.isAgg3
  z3 := Tryz.sizeOf3
  v3 := Tryz.zeroValue3
  t4 := Tryz.underlying4
  a4 := Tryz.isAgg4
  z4 := Tryz.sizeOf4
  v4 := Tryz.zeroValue4
  t5 := Tryz.underlying5
  a5 := Tryz.isAgg5
  z5 := Tryz.sizeOf5
  v5 := Tryz.zeroValue5
  t9 := Tryz.underlying9
  a9 := Tryz.isAgg9
  z9 := Tryz.sizeOf9
  v9 := Tryz.zeroValue9
  t20 := Tryz.underlying20
  a20 := Tryz.isAgg20
  z20 := Tryz.sizeOf20
  v20 := Tryz.zeroValue20
  t37 := Tryz.underlying52
  a37 := Tryz.isAgg52
  z37 := Tryz.sizeOf52
  v37 := Tryz.zeroValue52
  t46 := Tryz.underlying180
  a46 := Tryz.isAgg180
  z46 := Tryz.sizeOf180
  v46 := Tryz.zeroValue180
  t51 := Tryz.underlying200
  a51 := Tryz.isAgg200
  z51 := Tryz.sizeOf200
  v51 := Tryz.zeroValue200
  t53 := Tryz.underlying22
  a53 := Tryz.isAgg22
  z53 := Tryz.sizeOf22
  v53 := Tryz.zeroValue22
  t171 := Tryz.underlying203
  a171 := Tryz.isAgg203
  z171 := Tryz.sizeOf203
  v171 := Tryz.zeroValue203
  t173 := Tryz.underlying205
  a173 := Tryz.isAgg205
  z173 := Tryz.sizeOf205
  v173 := Tryz.zeroValue205
  t212 := Tryz.underlying216
  a212 := Tryz.isAgg216
  z212 := Tryz.sizeOf216
  v212 := Tryz.zeroValue216
  t213 := Tryz.underlying217
  a213 := Tryz.isAgg217
  z213 := Tryz.sizeOf217
  t232 := Tryz.underlying227
  a232 := Tryz.isAgg227
  z232 := Tryz.sizeOf227
  v232 := Tryz.zeroValue227
  t233 := Tryz.underlying181
  a233 := Tryz.isAgg181
  z233 := Tryz.sizeOf181
  v233 := Tryz.zeroValue181
  g17 := by kernel_rfl
  g18 := by kernel_rfl
  g19 := by kernel_rfl
  i0 := by kernel_rfl
  i2 := by kernel_rfl
  i3 := by kernel_rfl
  i4 := by kernel_rfl
  i5 := by kernel_rfl
  i9 := by kernel_rfl
  i20 := by kernel_rfl
  i37 := by kernel_rfl
  i46 := by kernel_rfl
  i51 := by kernel_rfl
  i53 := by kernel_rfl
  i171 := by kernel_rfl
  i173 := by kernel_rfl
  i212 := by kernel_rfl
  i232 := by kernel_rfl
  i233 := by kernel_rfl
  m17 := by kernel_rfl
  m18 := by kernel_rfl
  m19 := by kernel_rfl
}
theorem digits_dec (n : Nat) : Lib.decDigits n = dec n := by
  induction n using Nat.strongRecOn with
  | ind n ih =>
    rw [Lib.decDigits]
    by_cases h : n < 10
    · rw [dif_pos h, dec_small n h]
    · rw [dif_neg h, dec_big n h, ih (n / 10) (by omega)]
/-- A number's digits. -/
theorem itoa_any (n : Int) (h0 : 0 ≤ n) (h1 : n ≤ 1000000) (w : World) (htab : Lib.TabIs Tryz.prog w "internal/strconv.uint64pow10" .u64 Lib.pow10Tab) :
    Calls Tryz.prog 69 #[.int .i64 n] w fun e w' => e = .returned (.string ⟨(dec n.toNat).toArray⟩) ∧ Below w.heap.size w w' := by
  refine (Go.Proofs.Any.strconv_Itoa clays n (by omega) (by omega) w htab).mono ?_
  rintro e w' ⟨rfl, k, os, rfl⟩
  refine ⟨?_, Lib.below_grow _ _ (Nat.le_refl _) _ _⟩
  have e : Lib.itoa n = dec n.toNat := by unfold Lib.itoa; rw [if_neg (by omega), digits_dec]
  rw [e]
end Go.Proofs.YtpmeicclngckeaaGreatDoor
namespace Go.Proofs.YtpmeicclngckeaaGreatDoor
open Go Go.RowKit

theorem ba_len (S : ByteArray) : S.data.toList.length = S.size := by simp
/-- A text that is answered. -/
def RTxt (w : World) (x : List UInt8) (e : Ending) (w' : World) : Prop := (∃ S : ByteArray, e = .returned (.string S) ∧ S.data.toList = x) ∧ Below w.heap.size w w'
/-- The library's table of powers of ten. -/
def Pow (w : World) : Prop := Lib.TabIs Tryz.prog w "internal/strconv.uint64pow10" .u64 Lib.pow10Tab
theorem pow_g : Tryz.prog.globalNamed "internal/strconv.uint64pow10" = some 1 := by kernel_rfl
theorem pow_lt {w : World} (h : Pow w) : 1 < w.heap.size := by
  unfold Pow Lib.TabIs World.var? at h
  rw [pow_g] at h
  simp only [Option.bind_some] at h
  cases hh : w.heap[1]? with
  | none => rw [hh] at h; cases h
  | some o => exact (Array.getElem?_eq_some_iff.1 hh).1
theorem pow_below {B : Nat} {w w' : World} (h : Pow w) (hb : Below B w w') (hB : 1 < B) : Pow w' := by
  unfold Pow Lib.TabIs World.var? at h ⊢
  rw [pow_g] at h ⊢
  simp only [Option.bind_some] at h ⊢
  rw [hb.block _ hB]
  exact h
theorem itoa_s (n : Int) (h0 : 0 ≤ n) (h1 : n ≤ 1000000) (w : World) (hp : Pow w) : Calls Tryz.prog 69 #[.int .i64 n] w (RTxt w (dec n.toNat)) :=
  (itoa_any n h0 h1 w hp).mono fun _ _ ⟨h, hb⟩ => ⟨⟨_, h, rfl⟩, hb⟩
theorem digit_text (d : Nat) (hd : d < 10) : ((ByteArray.mk #[48, 49, 50, 51, 52, 53, 54, 55, 56, 57]).extract d (d + 1)).data.toList = [UInt8.ofNat (48 + d)] := by
  have h : ∀ d : Fin 10, ((ByteArray.mk #[48, 49, 50, 51, 52, 53, 54, 55, 56, 57]).extract d.val (d.val + 1)).data.toList = [UInt8.ofNat (48 + d.val)] := by decide +kernel
  exact h ⟨d, hd⟩
set_option maxRecDepth 100000 in
set_option maxHeartbeats 1000000 in
theorem rdigits_any (n : Nat) (h1 : n ≤ 1000000) (w : World) : Calls Tryz.prog 72 #[.int .i64 (n : Int)] w (RTxt w (dec n)) := by
  have hn := dec_le7 n h1
  go_enter Tryz.func72, Tryz.ntmps72
  go_wp2_with fail
  go_loopw [0, 3] (fun m s wr => ∃ (k : Nat) (S : ByteArray), k ≤ n ∧ m = .int .i64 k ∧ s = .string S ∧ dec k ++ S.data.toList = dec n ∧ Below w.heap.size w wr) (fun m _ _ => (intOf m).toNat)
  case atStart => exact ⟨n, ⟨#[]⟩, Nat.le_refl _, rfl, rfl, by simp, Below.refl _ _⟩
  case round =>
    obtain ⟨k, S, hk, rfl, rfl, hS, hW⟩ := hrel
    have hSz : S.size ≤ 7 := by rw [← ba_len, ← Nat.add_le_add_iff_left (n := (dec k).length), ← List.length_append, hS]; omega
    by_cases h10 : 10 ≤ k
    · have e1 : decide ((10 : Int) ≤ (k : Int)) = true := by simp; omega
      obtain ⟨d, hd⟩ : ∃ d, d = k % 10 := ⟨_, rfl⟩
      obtain ⟨q, hq⟩ : ∃ q, q = k / 10 := ⟨_, rfl⟩
      have hd10 : d < 10 := by omega
      have hq0 : q < k := by omega
      have HX := Lib.hid (digit_text d hd10)
      have HD := Lib.hid (dec_big k (by omega))
      rw [← hd, ← hq] at HD
      have HS := Lib.hid hS
      have e2 : (k : Int) % 10 = (d : Int) := by omega
      have e3 : (k : Int) / 10 = (q : Int) := by omega
      have hk20 : k ≤ 1000000 := by omega
      clear hd hq hS
      go_wp2_with fail
      exact ⟨⟨q, _, by omega, rfl, rfl, by rw [ByteArray.data_append, Array.toList_append, HX.out, ← List.append_assoc, ← HD.out, HS.out], hW⟩, by simp [intOf]; omega⟩
    · have e1 : decide ((10 : Int) ≤ (k : Int)) = false := by simp; omega
      have HX := Lib.hid (digit_text k (by omega))
      have HD := Lib.hid (dec_small k (by omega))
      have HS := Lib.hid hS
      have hk10 : k < 10 := by omega
      clear hS
      go_wp2_with fail
      go_ret
      exact ⟨⟨_, rfl, by rw [ByteArray.data_append, Array.toList_append, HX.out, ← HD.out, HS.out]⟩, hW⟩
theorem rdigits_s (n : Int) (h0 : 0 ≤ n) (h1 : n ≤ 1000000) (w : World) : Calls Tryz.prog 72 #[.int .i64 n] w (RTxt w (dec n.toNat)) := by
  have h := rdigits_any n.toNat (by omega) w
  rwa [Int.toNat_of_nonneg h0] at h
set_option maxRecDepth 100000 in
set_option maxHeartbeats 1000000 in
theorem shtimes_star (mn mx : Int) (h0 : mn = 0) (h1 : mx = -1) (w : World) : Calls Tryz.prog 68 #[.int .i64 mn, .int .i64 mx] w (RTxt w (timesT mn mx)) := by
  have HT := Lib.hid (show timesT mn mx = [42] by unfold timesT; rw [if_pos ⟨h0, h1⟩])
  subst h0 h1
  go_enter Tryz.func68, Tryz.ntmps68
  go_wp2_with fail
  go_ret
  exact ⟨⟨_, rfl, by rw [HT.out]⟩, Below.refl _ _⟩
set_option maxRecDepth 100000 in
set_option maxHeartbeats 1000000 in
theorem shtimes_plus (mn mx : Int) (h0 : mn = 1) (h1 : mx = -1) (w : World) : Calls Tryz.prog 68 #[.int .i64 mn, .int .i64 mx] w (RTxt w (timesT mn mx)) := by
  have HT := Lib.hid (show timesT mn mx = [43] by unfold timesT; rw [if_neg (by omega), if_pos ⟨h0, h1⟩])
  subst h0 h1
  go_enter Tryz.func68, Tryz.ntmps68
  go_wp2_with fail
  go_ret
  exact ⟨⟨_, rfl, by rw [HT.out]⟩, Below.refl _ _⟩
set_option maxRecDepth 100000 in
set_option maxHeartbeats 1000000 in
theorem shtimes_opt (mn mx : Int) (h0 : mn = 0) (h1 : mx = 1) (w : World) : Calls Tryz.prog 68 #[.int .i64 mn, .int .i64 mx] w (RTxt w (timesT mn mx)) := by
  have HT := Lib.hid (show timesT mn mx = [63] by unfold timesT; rw [if_neg (by omega), if_neg (by omega), if_pos ⟨h0, h1⟩])
  subst h0 h1
  go_enter Tryz.func68, Tryz.ntmps68
  go_wp2_with fail
  go_ret
  exact ⟨⟨_, rfl, by rw [HT.out]⟩, Below.refl _ _⟩
set_option maxRecDepth 100000 in
set_option maxHeartbeats 1000000 in
theorem shtimes_eq0 (mn mx : Int) (h0 : mn = 0) (h1 : mn = mx) (w : World) (hp : Pow w) : Calls Tryz.prog 68 #[.int .i64 mn, .int .i64 mx] w (RTxt w (timesT mn mx)) := by
  have HT := Lib.hid (show timesT mn mx = 123 :: (dec mn.toNat ++ ([] ++ [125])) by unfold timesT; rw [if_neg (by omega), if_neg (by omega), if_neg (by omega), if_pos h1])
  subst h1
  subst h0
  have hlen := dec_le7 (0 : Int).toNat (by omega)
  go_enter Tryz.func68, Tryz.ntmps68
  go_wp2_with fail
  with_reducible refine (itoa_s 0 (by omega) (by omega) w hp).mono ?_
  rintro e w1 ⟨⟨S, rfl, hS⟩, b1⟩
  have hSz : S.size ≤ 7 := by rw [← ba_len, hS]; exact hlen
  have HS := Lib.hid hS
  clear hS
  go_wp2_with fail
  go_ret
  exact ⟨⟨_, rfl, by rw [HT.out, ← HS.out]; simp [ByteArray.data_append]⟩, b1⟩
set_option maxRecDepth 100000 in
set_option maxHeartbeats 1000000 in
theorem shtimes_eq1 (mn mx : Int) (h0 : mn = 1) (h1 : mn = mx) (w : World) (hp : Pow w) : Calls Tryz.prog 68 #[.int .i64 mn, .int .i64 mx] w (RTxt w (timesT mn mx)) := by
  have HT := Lib.hid (show timesT mn mx = 123 :: (dec mn.toNat ++ ([] ++ [125])) by unfold timesT; rw [if_neg (by omega), if_neg (by omega), if_neg (by omega), if_pos h1])
  subst h1
  subst h0
  have hlen := dec_le7 (1 : Int).toNat (by omega)
  go_enter Tryz.func68, Tryz.ntmps68
  go_wp2_with fail
  with_reducible refine (itoa_s 1 (by omega) (by omega) w hp).mono ?_
  rintro e w1 ⟨⟨S, rfl, hS⟩, b1⟩
  have hSz : S.size ≤ 7 := by rw [← ba_len, hS]; exact hlen
  have HS := Lib.hid hS
  clear hS
  go_wp2_with fail
  go_ret
  exact ⟨⟨_, rfl, by rw [HT.out, ← HS.out]; simp [ByteArray.data_append]⟩, b1⟩
set_option maxRecDepth 100000 in
set_option maxHeartbeats 1000000 in
theorem shtimes_eqn (mn mx : Int) (h0 : 1 < mn) (h9 : mn ≤ 255) (h1 : mn = mx) (w : World) (hp : Pow w) : Calls Tryz.prog 68 #[.int .i64 mn, .int .i64 mx] w (RTxt w (timesT mn mx)) := by
  have HT := Lib.hid (show timesT mn mx = 123 :: (dec mn.toNat ++ ([] ++ [125])) by unfold timesT; rw [if_neg (by omega), if_neg (by omega), if_neg (by omega), if_pos h1])
  subst h1
  have e0 : (mn == 0) = false := by simp; omega
  have e1 : (mn == 1) = false := by simp; omega
  have e2 : (mn == -1) = false := by simp; omega
  have hlen := dec_le7 mn.toNat (by omega)
  go_enter Tryz.func68, Tryz.ntmps68
  go_wp2_with fail
  with_reducible refine (itoa_s mn (by omega) (by omega) w hp).mono ?_
  rintro e w1 ⟨⟨S, rfl, hS⟩, b1⟩
  have hSz : S.size ≤ 7 := by rw [← ba_len, hS]; exact hlen
  have HS := Lib.hid hS
  clear hS
  go_wp2_with fail
  go_ret
  exact ⟨⟨_, rfl, by rw [HT.out, ← HS.out]; simp [ByteArray.data_append]⟩, b1⟩
set_option maxRecDepth 100000 in
set_option maxHeartbeats 1000000 in
theorem shtimes_from (mn mx : Int) (h0 : 1 < mn) (h9 : mn ≤ 255) (h1 : mx = -1) (w : World) (hp : Pow w) : Calls Tryz.prog 68 #[.int .i64 mn, .int .i64 mx] w (RTxt w (timesT mn mx)) := by
  have HT := Lib.hid (show timesT mn mx = 123 :: (dec mn.toNat ++ ([44] ++ [125])) by unfold timesT; rw [if_neg (by omega), if_neg (by omega), if_neg (by omega), if_neg (by omega), if_pos h1])
  subst h1
  have e0 : (mn == 0) = false := by simp; omega
  have e1 : (mn == 1) = false := by simp; omega
  have e2 : (mn == -1) = false := by simp; omega
  have hlen := dec_le7 mn.toNat (by omega)
  go_enter Tryz.func68, Tryz.ntmps68
  go_wp2_with fail
  with_reducible refine (itoa_s mn (by omega) (by omega) w hp).mono ?_
  rintro e w1 ⟨⟨S, rfl, hS⟩, b1⟩
  have hSz : S.size ≤ 7 := by rw [← ba_len, hS]; exact hlen
  have HS := Lib.hid hS
  clear hS
  go_wp2_with fail
  go_ret
  exact ⟨⟨_, rfl, by rw [HT.out, ← HS.out]; simp [ByteArray.data_append]⟩, b1⟩
set_option maxRecDepth 100000 in
set_option maxHeartbeats 1000000 in
theorem shtimes_to0 (mn mx : Int) (h0 : mn = 0) (h3 : 1 < mx) (h5 : mx ≤ 255) (w : World) (hp : Pow w) : Calls Tryz.prog 68 #[.int .i64 mn, .int .i64 mx] w (RTxt w (timesT mn mx)) := by
  have HT := Lib.hid (show timesT mn mx = 123 :: (dec mn.toNat ++ (44 :: dec mx.toNat ++ [125])) by unfold timesT; rw [if_neg (by omega), if_neg (by omega), if_neg (by omega), if_neg (by omega), if_neg (by omega)])
  subst h0
  have e2 : (mx == -1) = false := by simp; omega
  have e3 : (mx == 1) = false := by simp; omega
  have e4 : ((0 : Int) == mx) = false := by simp; omega
  have hlen := dec_le7 (0 : Int).toNat (by omega)
  have hlen2 := dec_le7 mx.toNat (by omega)
  go_enter Tryz.func68, Tryz.ntmps68
  go_wp2_with fail
  with_reducible refine (itoa_s 0 (by omega) (by omega) w hp).mono ?_
  rintro e w1 ⟨⟨S, rfl, hS⟩, b1⟩
  have hSz : S.size ≤ 7 := by rw [← ba_len, hS]; exact hlen
  have HS := Lib.hid hS
  clear hS
  have hp1 := pow_below hp b1 (pow_lt hp)
  go_wp2_with fail
  with_reducible refine (itoa_s mx (by omega) (by omega) w1 hp1).mono ?_
  rintro e w2 ⟨⟨X, rfl, hX⟩, b2⟩
  have hXz : X.size ≤ 7 := by rw [← ba_len, hX]; exact hlen2
  have HX := Lib.hid hX
  clear hX
  go_wp2_with fail
  go_ret
  exact ⟨⟨_, rfl, by rw [HT.out, ← HS.out, ← HX.out]; simp [ByteArray.data_append]⟩, b1.trans (b2.mono b1.size)⟩
set_option maxRecDepth 100000 in
set_option maxHeartbeats 1000000 in
theorem shtimes_to1 (mn mx : Int) (h0 : mn = 1) (h3 : 1 < mx) (h5 : mx ≤ 255) (w : World) (hp : Pow w) : Calls Tryz.prog 68 #[.int .i64 mn, .int .i64 mx] w (RTxt w (timesT mn mx)) := by
  have HT := Lib.hid (show timesT mn mx = 123 :: (dec mn.toNat ++ (44 :: dec mx.toNat ++ [125])) by unfold timesT; rw [if_neg (by omega), if_neg (by omega), if_neg (by omega), if_neg (by omega), if_neg (by omega)])
  subst h0
  have e2 : (mx == -1) = false := by simp; omega
  have e3 : (mx == 1) = false := by simp; omega
  have e4 : ((1 : Int) == mx) = false := by simp; omega
  have hlen := dec_le7 (1 : Int).toNat (by omega)
  have hlen2 := dec_le7 mx.toNat (by omega)
  go_enter Tryz.func68, Tryz.ntmps68
  go_wp2_with fail
  with_reducible refine (itoa_s 1 (by omega) (by omega) w hp).mono ?_
  rintro e w1 ⟨⟨S, rfl, hS⟩, b1⟩
  have hSz : S.size ≤ 7 := by rw [← ba_len, hS]; exact hlen
  have HS := Lib.hid hS
  clear hS
  have hp1 := pow_below hp b1 (pow_lt hp)
  go_wp2_with fail
  with_reducible refine (itoa_s mx (by omega) (by omega) w1 hp1).mono ?_
  rintro e w2 ⟨⟨X, rfl, hX⟩, b2⟩
  have hXz : X.size ≤ 7 := by rw [← ba_len, hX]; exact hlen2
  have HX := Lib.hid hX
  clear hX
  go_wp2_with fail
  go_ret
  exact ⟨⟨_, rfl, by rw [HT.out, ← HS.out, ← HX.out]; simp [ByteArray.data_append]⟩, b1.trans (b2.mono b1.size)⟩
set_option maxRecDepth 100000 in
set_option maxHeartbeats 1000000 in
theorem shtimes_ton (mn mx : Int) (h0 : 1 < mn) (h9 : mn ≤ 255) (h3 : mn < mx) (h5 : mx ≤ 255) (w : World) (hp : Pow w) : Calls Tryz.prog 68 #[.int .i64 mn, .int .i64 mx] w (RTxt w (timesT mn mx)) := by
  have HT := Lib.hid (show timesT mn mx = 123 :: (dec mn.toNat ++ (44 :: dec mx.toNat ++ [125])) by unfold timesT; rw [if_neg (by omega), if_neg (by omega), if_neg (by omega), if_neg (by omega), if_neg (by omega)])
  have e0 : (mn == 0) = false := by simp; omega
  have e1 : (mn == 1) = false := by simp; omega
  have e2 : (mx == -1) = false := by simp; omega
  have e3 : (mx == 1) = false := by simp; omega
  have e4 : (mn == mx) = false := by simp; omega
  have hlen := dec_le7 mn.toNat (by omega)
  have hlen2 := dec_le7 mx.toNat (by omega)
  go_enter Tryz.func68, Tryz.ntmps68
  go_wp2_with fail
  with_reducible refine (itoa_s mn (by omega) (by omega) w hp).mono ?_
  rintro e w1 ⟨⟨S, rfl, hS⟩, b1⟩
  have hSz : S.size ≤ 7 := by rw [← ba_len, hS]; exact hlen
  have HS := Lib.hid hS
  clear hS
  have hp1 := pow_below hp b1 (pow_lt hp)
  go_wp2_with fail
  with_reducible refine (itoa_s mx (by omega) (by omega) w1 hp1).mono ?_
  rintro e w2 ⟨⟨X, rfl, hX⟩, b2⟩
  have hXz : X.size ≤ 7 := by rw [← ba_len, hX]; exact hlen2
  have HX := Lib.hid hX
  clear hX
  go_wp2_with fail
  go_ret
  exact ⟨⟨_, rfl, by rw [HT.out, ← HS.out, ← HX.out]; simp [ByteArray.data_append]⟩, b1.trans (b2.mono b1.size)⟩
theorem shtimes_any (mn mx : Int) (ho : okRep mn mx = true) (w : World) (hp : Pow w) : Calls Tryz.prog 68 #[.int .i64 mn, .int .i64 mx] w (RTxt w (timesT mn mx)) := by
  unfold okRep at ho
  simp only [Bool.and_eq_true, Bool.or_eq_true, decide_eq_true_eq] at ho
  by_cases h0 : mn = 0
  · by_cases h1 : mx = -1
    · exact shtimes_star mn mx h0 h1 w
    · by_cases h2 : mx = 1
      · exact shtimes_opt mn mx h0 h2 w
      · by_cases h3 : mn = mx
        · exact shtimes_eq0 mn mx h0 h3 w hp
        · exact shtimes_to0 mn mx h0 (by omega) (by omega) w hp
  · by_cases h1 : mn = 1
    · by_cases h2 : mx = -1
      · exact shtimes_plus mn mx h1 h2 w
      · by_cases h3 : mn = mx
        · exact shtimes_eq1 mn mx h1 h3 w hp
        · exact shtimes_to1 mn mx h1 (by omega) (by omega) w hp
    · by_cases h2 : mx = -1
      · exact shtimes_from mn mx (by omega) (by omega) h2 w hp
      · by_cases h3 : mn = mx
        · exact shtimes_eqn mn mx (by omega) (by omega) h3 w hp
        · exact shtimes_ton mn mx (by omega) (by omega) (by omega) (by omega) w hp
set_option maxRecDepth 100000 in
set_option maxHeartbeats 1000000 in
theorem rshtimes_star (mn mx : Int) (h0 : mn = 0) (h1 : mx = -1) (w : World) : Calls Tryz.prog 71 #[.int .i64 mn, .int .i64 mx] w (RTxt w (timesT mn mx)) := by
  have HT := Lib.hid (show timesT mn mx = [42] by unfold timesT; rw [if_pos ⟨h0, h1⟩])
  subst h0 h1
  go_enter Tryz.func71, Tryz.ntmps71
  go_wp2_with fail
  go_ret
  exact ⟨⟨_, rfl, by rw [HT.out]⟩, Below.refl _ _⟩
set_option maxRecDepth 100000 in
set_option maxHeartbeats 1000000 in
theorem rshtimes_plus (mn mx : Int) (h0 : mn = 1) (h1 : mx = -1) (w : World) : Calls Tryz.prog 71 #[.int .i64 mn, .int .i64 mx] w (RTxt w (timesT mn mx)) := by
  have HT := Lib.hid (show timesT mn mx = [43] by unfold timesT; rw [if_neg (by omega), if_pos ⟨h0, h1⟩])
  subst h0 h1
  go_enter Tryz.func71, Tryz.ntmps71
  go_wp2_with fail
  go_ret
  exact ⟨⟨_, rfl, by rw [HT.out]⟩, Below.refl _ _⟩
set_option maxRecDepth 100000 in
set_option maxHeartbeats 1000000 in
theorem rshtimes_opt (mn mx : Int) (h0 : mn = 0) (h1 : mx = 1) (w : World) : Calls Tryz.prog 71 #[.int .i64 mn, .int .i64 mx] w (RTxt w (timesT mn mx)) := by
  have HT := Lib.hid (show timesT mn mx = [63] by unfold timesT; rw [if_neg (by omega), if_neg (by omega), if_pos ⟨h0, h1⟩])
  subst h0 h1
  go_enter Tryz.func71, Tryz.ntmps71
  go_wp2_with fail
  go_ret
  exact ⟨⟨_, rfl, by rw [HT.out]⟩, Below.refl _ _⟩
set_option maxRecDepth 100000 in
set_option maxHeartbeats 1000000 in
theorem rshtimes_eq0 (mn mx : Int) (h0 : mn = 0) (h1 : mn = mx) (w : World) : Calls Tryz.prog 71 #[.int .i64 mn, .int .i64 mx] w (RTxt w (timesT mn mx)) := by
  have HT := Lib.hid (show timesT mn mx = 123 :: (dec mn.toNat ++ ([] ++ [125])) by unfold timesT; rw [if_neg (by omega), if_neg (by omega), if_neg (by omega), if_pos h1])
  subst h1
  subst h0
  have hlen := dec_le7 (0 : Int).toNat (by omega)
  go_enter Tryz.func71, Tryz.ntmps71
  go_wp2_with fail
  with_reducible refine (rdigits_s 0 (by omega) (by omega) w).mono ?_
  rintro e w1 ⟨⟨S, rfl, hS⟩, b1⟩
  have hSz : S.size ≤ 7 := by rw [← ba_len, hS]; exact hlen
  have HS := Lib.hid hS
  clear hS
  go_wp2_with fail
  go_ret
  exact ⟨⟨_, rfl, by rw [HT.out, ← HS.out]; simp [ByteArray.data_append]⟩, b1⟩
set_option maxRecDepth 100000 in
set_option maxHeartbeats 1000000 in
theorem rshtimes_eq1 (mn mx : Int) (h0 : mn = 1) (h1 : mn = mx) (w : World) : Calls Tryz.prog 71 #[.int .i64 mn, .int .i64 mx] w (RTxt w (timesT mn mx)) := by
  have HT := Lib.hid (show timesT mn mx = 123 :: (dec mn.toNat ++ ([] ++ [125])) by unfold timesT; rw [if_neg (by omega), if_neg (by omega), if_neg (by omega), if_pos h1])
  subst h1
  subst h0
  have hlen := dec_le7 (1 : Int).toNat (by omega)
  go_enter Tryz.func71, Tryz.ntmps71
  go_wp2_with fail
  with_reducible refine (rdigits_s 1 (by omega) (by omega) w).mono ?_
  rintro e w1 ⟨⟨S, rfl, hS⟩, b1⟩
  have hSz : S.size ≤ 7 := by rw [← ba_len, hS]; exact hlen
  have HS := Lib.hid hS
  clear hS
  go_wp2_with fail
  go_ret
  exact ⟨⟨_, rfl, by rw [HT.out, ← HS.out]; simp [ByteArray.data_append]⟩, b1⟩
set_option maxRecDepth 100000 in
set_option maxHeartbeats 1000000 in
theorem rshtimes_eqn (mn mx : Int) (h0 : 1 < mn) (h9 : mn ≤ 255) (h1 : mn = mx) (w : World) : Calls Tryz.prog 71 #[.int .i64 mn, .int .i64 mx] w (RTxt w (timesT mn mx)) := by
  have HT := Lib.hid (show timesT mn mx = 123 :: (dec mn.toNat ++ ([] ++ [125])) by unfold timesT; rw [if_neg (by omega), if_neg (by omega), if_neg (by omega), if_pos h1])
  subst h1
  have e0 : (mn == 0) = false := by simp; omega
  have e1 : (mn == 1) = false := by simp; omega
  have e2 : (mn == -1) = false := by simp; omega
  have hlen := dec_le7 mn.toNat (by omega)
  go_enter Tryz.func71, Tryz.ntmps71
  go_wp2_with fail
  with_reducible refine (rdigits_s mn (by omega) (by omega) w).mono ?_
  rintro e w1 ⟨⟨S, rfl, hS⟩, b1⟩
  have hSz : S.size ≤ 7 := by rw [← ba_len, hS]; exact hlen
  have HS := Lib.hid hS
  clear hS
  go_wp2_with fail
  go_ret
  exact ⟨⟨_, rfl, by rw [HT.out, ← HS.out]; simp [ByteArray.data_append]⟩, b1⟩
set_option maxRecDepth 100000 in
set_option maxHeartbeats 1000000 in
theorem rshtimes_from (mn mx : Int) (h0 : 1 < mn) (h9 : mn ≤ 255) (h1 : mx = -1) (w : World) : Calls Tryz.prog 71 #[.int .i64 mn, .int .i64 mx] w (RTxt w (timesT mn mx)) := by
  have HT := Lib.hid (show timesT mn mx = 123 :: (dec mn.toNat ++ ([44] ++ [125])) by unfold timesT; rw [if_neg (by omega), if_neg (by omega), if_neg (by omega), if_neg (by omega), if_pos h1])
  subst h1
  have e0 : (mn == 0) = false := by simp; omega
  have e1 : (mn == 1) = false := by simp; omega
  have e2 : (mn == -1) = false := by simp; omega
  have hlen := dec_le7 mn.toNat (by omega)
  go_enter Tryz.func71, Tryz.ntmps71
  go_wp2_with fail
  with_reducible refine (rdigits_s mn (by omega) (by omega) w).mono ?_
  rintro e w1 ⟨⟨S, rfl, hS⟩, b1⟩
  have hSz : S.size ≤ 7 := by rw [← ba_len, hS]; exact hlen
  have HS := Lib.hid hS
  clear hS
  go_wp2_with fail
  go_ret
  exact ⟨⟨_, rfl, by rw [HT.out, ← HS.out]; simp [ByteArray.data_append]⟩, b1⟩
set_option maxRecDepth 100000 in
set_option maxHeartbeats 1000000 in
theorem rshtimes_to0 (mn mx : Int) (h0 : mn = 0) (h3 : 1 < mx) (h5 : mx ≤ 255) (w : World) : Calls Tryz.prog 71 #[.int .i64 mn, .int .i64 mx] w (RTxt w (timesT mn mx)) := by
  have HT := Lib.hid (show timesT mn mx = 123 :: (dec mn.toNat ++ (44 :: dec mx.toNat ++ [125])) by unfold timesT; rw [if_neg (by omega), if_neg (by omega), if_neg (by omega), if_neg (by omega), if_neg (by omega)])
  subst h0
  have e2 : (mx == -1) = false := by simp; omega
  have e3 : (mx == 1) = false := by simp; omega
  have e4 : ((0 : Int) == mx) = false := by simp; omega
  have hlen := dec_le7 (0 : Int).toNat (by omega)
  have hlen2 := dec_le7 mx.toNat (by omega)
  go_enter Tryz.func71, Tryz.ntmps71
  go_wp2_with fail
  with_reducible refine (rdigits_s 0 (by omega) (by omega) w).mono ?_
  rintro e w1 ⟨⟨S, rfl, hS⟩, b1⟩
  have hSz : S.size ≤ 7 := by rw [← ba_len, hS]; exact hlen
  have HS := Lib.hid hS
  clear hS
  go_wp2_with fail
  with_reducible refine (rdigits_s mx (by omega) (by omega) w1).mono ?_
  rintro e w2 ⟨⟨X, rfl, hX⟩, b2⟩
  have hXz : X.size ≤ 7 := by rw [← ba_len, hX]; exact hlen2
  have HX := Lib.hid hX
  clear hX
  go_wp2_with fail
  go_ret
  exact ⟨⟨_, rfl, by rw [HT.out, ← HS.out, ← HX.out]; simp [ByteArray.data_append]⟩, b1.trans (b2.mono b1.size)⟩
set_option maxRecDepth 100000 in
set_option maxHeartbeats 1000000 in
theorem rshtimes_to1 (mn mx : Int) (h0 : mn = 1) (h3 : 1 < mx) (h5 : mx ≤ 255) (w : World) : Calls Tryz.prog 71 #[.int .i64 mn, .int .i64 mx] w (RTxt w (timesT mn mx)) := by
  have HT := Lib.hid (show timesT mn mx = 123 :: (dec mn.toNat ++ (44 :: dec mx.toNat ++ [125])) by unfold timesT; rw [if_neg (by omega), if_neg (by omega), if_neg (by omega), if_neg (by omega), if_neg (by omega)])
  subst h0
  have e2 : (mx == -1) = false := by simp; omega
  have e3 : (mx == 1) = false := by simp; omega
  have e4 : ((1 : Int) == mx) = false := by simp; omega
  have hlen := dec_le7 (1 : Int).toNat (by omega)
  have hlen2 := dec_le7 mx.toNat (by omega)
  go_enter Tryz.func71, Tryz.ntmps71
  go_wp2_with fail
  with_reducible refine (rdigits_s 1 (by omega) (by omega) w).mono ?_
  rintro e w1 ⟨⟨S, rfl, hS⟩, b1⟩
  have hSz : S.size ≤ 7 := by rw [← ba_len, hS]; exact hlen
  have HS := Lib.hid hS
  clear hS
  go_wp2_with fail
  with_reducible refine (rdigits_s mx (by omega) (by omega) w1).mono ?_
  rintro e w2 ⟨⟨X, rfl, hX⟩, b2⟩
  have hXz : X.size ≤ 7 := by rw [← ba_len, hX]; exact hlen2
  have HX := Lib.hid hX
  clear hX
  go_wp2_with fail
  go_ret
  exact ⟨⟨_, rfl, by rw [HT.out, ← HS.out, ← HX.out]; simp [ByteArray.data_append]⟩, b1.trans (b2.mono b1.size)⟩
set_option maxRecDepth 100000 in
set_option maxHeartbeats 1000000 in
theorem rshtimes_ton (mn mx : Int) (h0 : 1 < mn) (h9 : mn ≤ 255) (h3 : mn < mx) (h5 : mx ≤ 255) (w : World) : Calls Tryz.prog 71 #[.int .i64 mn, .int .i64 mx] w (RTxt w (timesT mn mx)) := by
  have HT := Lib.hid (show timesT mn mx = 123 :: (dec mn.toNat ++ (44 :: dec mx.toNat ++ [125])) by unfold timesT; rw [if_neg (by omega), if_neg (by omega), if_neg (by omega), if_neg (by omega), if_neg (by omega)])
  have e0 : (mn == 0) = false := by simp; omega
  have e1 : (mn == 1) = false := by simp; omega
  have e2 : (mx == -1) = false := by simp; omega
  have e3 : (mx == 1) = false := by simp; omega
  have e4 : (mn == mx) = false := by simp; omega
  have hlen := dec_le7 mn.toNat (by omega)
  have hlen2 := dec_le7 mx.toNat (by omega)
  go_enter Tryz.func71, Tryz.ntmps71
  go_wp2_with fail
  with_reducible refine (rdigits_s mn (by omega) (by omega) w).mono ?_
  rintro e w1 ⟨⟨S, rfl, hS⟩, b1⟩
  have hSz : S.size ≤ 7 := by rw [← ba_len, hS]; exact hlen
  have HS := Lib.hid hS
  clear hS
  go_wp2_with fail
  with_reducible refine (rdigits_s mx (by omega) (by omega) w1).mono ?_
  rintro e w2 ⟨⟨X, rfl, hX⟩, b2⟩
  have hXz : X.size ≤ 7 := by rw [← ba_len, hX]; exact hlen2
  have HX := Lib.hid hX
  clear hX
  go_wp2_with fail
  go_ret
  exact ⟨⟨_, rfl, by rw [HT.out, ← HS.out, ← HX.out]; simp [ByteArray.data_append]⟩, b1.trans (b2.mono b1.size)⟩
theorem rshtimes_any (mn mx : Int) (ho : okRep mn mx = true) (w : World) : Calls Tryz.prog 71 #[.int .i64 mn, .int .i64 mx] w (RTxt w (timesT mn mx)) := by
  unfold okRep at ho
  simp only [Bool.and_eq_true, Bool.or_eq_true, decide_eq_true_eq] at ho
  by_cases h0 : mn = 0
  · by_cases h1 : mx = -1
    · exact rshtimes_star mn mx h0 h1 w
    · by_cases h2 : mx = 1
      · exact rshtimes_opt mn mx h0 h2 w
      · by_cases h3 : mn = mx
        · exact rshtimes_eq0 mn mx h0 h3 w
        · exact rshtimes_to0 mn mx h0 (by omega) (by omega) w
  · by_cases h1 : mn = 1
    · by_cases h2 : mx = -1
      · exact rshtimes_plus mn mx h1 h2 w
      · by_cases h3 : mn = mx
        · exact rshtimes_eq1 mn mx h1 h3 w
        · exact rshtimes_to1 mn mx h1 (by omega) (by omega) w
    · by_cases h2 : mx = -1
      · exact rshtimes_from mn mx (by omega) (by omega) h2 w
      · by_cases h3 : mn = mx
        · exact rshtimes_eqn mn mx (by omega) (by omega) h3 w
        · exact rshtimes_ton mn mx (by omega) (by omega) (by omega) (by omega) w
end Go.Proofs.YtpmeicclngckeaaGreatDoor
