/- The proof's texts ShIT, OctOpen, TrWk, TrCaught, NdAlike: what the claim reaches of them. -/
import Derived.Test.YtpmeicclngckeaaGreatDoorBk08
import Derived.Shelf.Strconv.Itoa3
import Derived.Lib.AppendIntMem
import Derived.Test.YtpmeicclngckeaaGreatDoorRows
import Derived.Test.YtpmeicclngckeaaGreatDoorBk01
import Derived.WalkKit
import Derived.ProofKit
import Derived.OpenShut
import Derived.Test.YtpmeicclngckeaaGreatDoorBk02
import Derived.Deep.Slices
import Derived.Lib.LaidTab
import Derived.Lib.Hide
import Derived.ChangeKeysEq
import Derived.Deep.RegionHeld3
import Derived.Deep.DeepCutAuto
import Derived.Deep.RegionWith
import Derived.Deep.QuietTactic
import Derived.Test.YtpmeicclngckeaaGreatDoorBk09
import Derived.Defers
import Derived.Recover
import Derived.Tactics2
namespace Go.Proofs.YtpmeicclngckeaaGreatDoor
open Go Go.RowKit Go.Shelf
def cren : Go.Shelf.Ren := ⟨fun | 129 => 148 | 171 => 69 | 243 => 103 | 246 => 121 | 283 => 139 | 284 => 140 | 285 => 141 | 286 => 142 | 317 => 147 | 318 => 149 | 319 => 150 | 320 => 151 | 337 => 155 | 338 => 78 | n => n, fun | 0 => 0 | 2 => 2 | 3 => 3 | 4 => 4 | 5 => 5 | 9 => 9 | 20 => 20 | 37 => 52 | 46 => 180 | 51 => 200 | 53 => 22 | 171 => 203 | 173 => 205 | 212 => 216 | 213 => 217 | 232 => 227 | 233 => 181 | n => n, fun | 17 => 1 | 18 => 3 | 19 => 0 | n => n⟩
set_option maxRecDepth 100000 in
theorem clays : Go.Proofs.LaysM.n171 Tryz.prog cren := {
  mixed := by kernel_rfl
  f129 := Tryz.func148.trans (congrArg some (by kernel_rfl))
  f171 := Tryz.func69.trans (congrArg some (by kernel_rfl))
  f243 := Tryz.func103.trans (congrArg some (by kernel_rfl))
  f246 := Tryz.func121.trans (congrArg some (by kernel_rfl))
  f283 := Tryz.func139.trans (congrArg some (by kernel_rfl))
  f284 := Tryz.func140.trans (congrArg some (by kernel_rfl))
  f285 := Tryz.func141.trans (congrArg some (by kernel_rfl))
  f286 := Tryz.func142.trans (congrArg some (by kernel_rfl))
  f317 := Tryz.func147.trans (congrArg some (by kernel_rfl))
  f318 := Tryz.func149.trans (congrArg some (by kernel_rfl))
  f319 := Tryz.func150.trans (congrArg some (by kernel_rfl))
  f320 := Tryz.func151.trans (congrArg some (by kernel_rfl))
  f337 := Tryz.func155.trans (congrArg some (by kernel_rfl))
  f338 := Tryz.func78.trans (congrArg some (by kernel_rfl))
  t0 := Tryz.underlying0
  a0 := Tryz.isAgg0
  z0 := Tryz.sizeOf0
  v0 := Tryz.zeroValue0
  t2 := Tryz.underlying2
  a2 := Tryz.isAgg2
  z2 := Tryz.sizeOf2
  v2 := Tryz.zeroValue2
  t3 := Tryz.underlying3
  a3 := Tryz.isAgg3
  z3 := Tryz.sizeOf3
  v3 := Tryz.zeroValue3
  t4 := Tryz.underlying4
  a4 := Tryz.isAgg4
  z4 := Tryz.sizeOf4
  v4 := Tryz.zeroValue4
  t5 := Tryz.underlying5
  a5 := Tryz.isAgg5
  z5 := Tryz.sizeOf5
  v5 := Tryz.zeroValue5
  t9 := Tryz.underlying9
  a9 := Tryz.isAgg9
  z9 := Tryz.sizeOf9
  v9 := Tryz.zeroValue9
  t20 := Tryz.underlying20
  a20 := Tryz.isAgg20
  z20 := Tryz.sizeOf20
  v20 := Tryz.zeroValue20
  t37 := Tryz.underlying52
  a37 := Tryz.isAgg52
  z37 := Tryz.sizeOf52
  v37 := Tryz.zeroValue52
  t46 := Tryz.underlying180
  a46 := Tryz.isAgg180
  z46 := Tryz.sizeOf180
  v46 := Tryz.zeroValue180
  t51 := Tryz.underlying200
  a51 := Tryz.isAgg200
  z51 := Tryz.sizeOf200
  v51 := Tryz.zeroValue200
  t53 := Tryz.underlying22
  a53 := Tryz.isAgg22
  z53 := Tryz.sizeOf22
  v53 := Tryz.zeroValue22
  t171 := Tryz.underlying203
  a171 := Tryz.isAgg203
  z171 := Tryz.sizeOf203
  v171 := Tryz.zeroValue203
  t173 := Tryz.underlying205
  a173 := Tryz.isAgg205
  z173 := Tryz.sizeOf205
  v173 := Tryz.zeroValue205
  t212 := Tryz.underlying216
  a212 := Tryz.isAgg216
  z212 := Tryz.sizeOf216
  v212 := Tryz.zeroValue216
  t213 := Tryz.underlying217
  a213 := Tryz.isAgg217
  z213 := Tryz.sizeOf217
  t232 := Tryz.underlying227
  a232 := Tryz.isAgg227
  z232 := Tryz.sizeOf227
  v232 := Tryz.zeroValue227
  t233 := Tryz.underlying181
  a233 := Tryz.isAgg181
  z233 := Tryz.sizeOf181
  v233 := Tryz.zeroValue181
  g17 := by kernel_rfl
  g18 := by kernel_rfl
  g19 := by kernel_rfl
  i0 := by kernel_rfl
  i2 := by kernel_rfl
  i3 := by kernel_rfl
  i4 := by kernel_rfl
  i5 := by kernel_rfl
  i9 := by kernel_rfl
  i20 := by kernel_rfl
  i37 := by kernel_rfl
  i46 := by kernel_rfl
  i51 := by kernel_rfl
  i53 := by kernel_rfl
  i171 := by kernel_rfl
  i173 := by kernel_rfl
  i212 := by kernel_rfl
  i232 := by kernel_rfl
  i233 := by kernel_rfl
  m17 := by kernel_rfl
  m18 := by kernel_rfl
  m19 := by kernel_rfl
}
theorem digits_dec (n : Nat) : Lib.decDigits n = dec n := by
  induction n using Nat.strongRecOn with
  | ind n ih =>
    rw [Lib.decDigits]
    by_cases h : n < 10
    · rw [dif_pos h, dec_small n h]
    · rw [dif_neg h, dec_big n h, ih (n / 10) (by omega)]
theorem itoa_any (n : Int) (h0 : 0 ≤ n) (h1 : n ≤ 1000000) (w : World) (htab : Lib.TabIs Tryz.prog w "internal/strconv.uint64pow10" .u64 Lib.pow10Tab) :
    Calls Tryz.prog 69 #[.int .i64 n] w fun e w' => e = .returned (.string ⟨(dec n.toNat).toArray⟩) ∧ Below w.heap.size w w' := by
  refine (Go.Proofs.Any.strconv_Itoa clays n (by omega) (by omega) w htab).mono ?_
  rintro e w' ⟨rfl, k, os, rfl⟩
  refine ⟨?_, Lib.below_grow _ _ (Nat.le_refl _) _ _⟩
  have e : Lib.itoa n = dec n.toNat := by unfold Lib.itoa; rw [if_neg (by omega), digits_dec]
  rw [e]
end Go.Proofs.YtpmeicclngckeaaGreatDoor
namespace Go.Proofs.YtpmeicclngckeaaGreatDoor
open Go Go.RowKit
theorem ba_len (S : ByteArray) : S.data.toList.length = S.size := by simp
def RTxt (w : World) (x : List UInt8) (e : Ending) (w' : World) : Prop := (∃ S : ByteArray, e = .returned (.string S) ∧ S.data.toList = x) ∧ Below w.heap.size w w'
def Pow (w : World) : Prop := Lib.TabIs Tryz.prog w "internal/strconv.uint64pow10" .u64 Lib.pow10Tab
theorem pow_g : Tryz.prog.globalNamed "internal/strconv.uint64pow10" = some 1 := by kernel_rfl
theorem pow_lt {w : World} (h : Pow w) : 1 < w.heap.size := by
  unfold Pow Lib.TabIs World.var? at h
  rw [pow_g] at h
  simp only [Option.bind_some] at h
  cases hh : w.heap[1]? with
  | none => rw [hh] at h; cases h
  | some o => exact (Array.getElem?_eq_some_iff.1 hh).1
theorem pow_below {B : Nat} {w w' : World} (h : Pow w) (hb : Below B w w') (hB : 1 < B) : Pow w' := by
  unfold Pow Lib.TabIs World.var? at h ⊢
  rw [pow_g] at h ⊢
  simp only [Option.bind_some] at h ⊢
  rw [hb.block _ hB]
  exact h
theorem itoa_s (n : Int) (h0 : 0 ≤ n) (h1 : n ≤ 1000000) (w : World) (hp : Pow w) : Calls Tryz.prog 69 #[.int .i64 n] w (RTxt w (dec n.toNat)) :=
  (itoa_any n h0 h1 w hp).mono fun _ _ ⟨h, hb⟩ => ⟨⟨_, h, rfl⟩, hb⟩
set_option maxRecDepth 100000 in
set_option maxHeartbeats 1000000 in
theorem shtimes_star (mn mx : Int) (h0 : mn = 0) (h1 : mx = -1) (w : World) : Calls Tryz.prog 68 #[.int .i64 mn, .int .i64 mx] w (RTxt w (timesT mn mx)) := by
  have HT := Lib.hid (show timesT mn mx = [42] by unfold timesT; rw [if_pos ⟨h0, h1⟩])
  subst h0 h1
  go_enter Tryz.func68, Tryz.ntmps68
  go_wp2_with fail
  go_ret
  exact ⟨⟨_, rfl, by rw [HT.out]⟩, Below.refl _ _⟩
set_option maxRecDepth 100000 in
set_option maxHeartbeats 1000000 in
theorem shtimes_plus (mn mx : Int) (h0 : mn = 1) (h1 : mx = -1) (w : World) : Calls Tryz.prog 68 #[.int .i64 mn, .int .i64 mx] w (RTxt w (timesT mn mx)) := by
  have HT := Lib.hid (show timesT mn mx = [43] by unfold timesT; rw [if_neg (by omega), if_pos ⟨h0, h1⟩])
  subst h0 h1
  go_enter Tryz.func68, Tryz.ntmps68
  go_wp2_with fail
  go_ret
  exact ⟨⟨_, rfl, by rw [HT.out]⟩, Below.refl _ _⟩
set_option maxRecDepth 100000 in
set_option maxHeartbeats 1000000 in
theorem shtimes_opt (mn mx : Int) (h0 : mn = 0) (h1 : mx = 1) (w : World) : Calls Tryz.prog 68 #[.int .i64 mn, .int .i64 mx] w (RTxt w (timesT mn mx)) := by
  have HT := Lib.hid (show timesT mn mx = [63] by unfold timesT; rw [if_neg (by omega), if_neg (by omega), if_pos ⟨h0, h1⟩])
  subst h0 h1
  go_enter Tryz.func68, Tryz.ntmps68
  go_wp2_with fail
  go_ret
  exact ⟨⟨_, rfl, by rw [HT.out]⟩, Below.refl _ _⟩
set_option maxRecDepth 100000 in
set_option maxHeartbeats 1000000 in
theorem shtimes_eq0 (mn mx : Int) (h0 : mn = 0) (h1 : mn = mx) (w : World) (hp : Pow w) : Calls Tryz.prog 68 #[.int .i64 mn, .int .i64 mx] w (RTxt w (timesT mn mx)) := by
  have HT := Lib.hid (show timesT mn mx = 123 :: (dec mn.toNat ++ ([] ++ [125])) by unfold timesT; rw [if_neg (by omega), if_neg (by omega), if_neg (by omega), if_pos h1])
  subst h1
  subst h0
  have hlen := dec_le7 (0 : Int).toNat (by omega)
  go_enter Tryz.func68, Tryz.ntmps68
  go_wp2_with fail
  with_reducible refine (itoa_s 0 (by omega) (by omega) w hp).mono ?_
  rintro e w1 ⟨⟨S, rfl, hS⟩, b1⟩
  have hSz : S.size ≤ 7 := by rw [← ba_len, hS]; exact hlen
  have HS := Lib.hid hS
  clear hS
  go_wp2_with fail
  go_ret
  exact ⟨⟨_, rfl, by rw [HT.out, ← HS.out]; simp [ByteArray.data_append]⟩, b1⟩
set_option maxRecDepth 100000 in
set_option maxHeartbeats 1000000 in
theorem shtimes_eq1 (mn mx : Int) (h0 : mn = 1) (h1 : mn = mx) (w : World) (hp : Pow w) : Calls Tryz.prog 68 #[.int .i64 mn, .int .i64 mx] w (RTxt w (timesT mn mx)) := by
  have HT := Lib.hid (show timesT mn mx = 123 :: (dec mn.toNat ++ ([] ++ [125])) by unfold timesT; rw [if_neg (by omega), if_neg (by omega), if_neg (by omega), if_pos h1])
  subst h1
  subst h0
  have hlen := dec_le7 (1 : Int).toNat (by omega)
  go_enter Tryz.func68, Tryz.ntmps68
  go_wp2_with fail
  with_reducible refine (itoa_s 1 (by omega) (by omega) w hp).mono ?_
  rintro e w1 ⟨⟨S, rfl, hS⟩, b1⟩
  have hSz : S.size ≤ 7 := by rw [← ba_len, hS]; exact hlen
  have HS := Lib.hid hS
  clear hS
  go_wp2_with fail
  go_ret
  exact ⟨⟨_, rfl, by rw [HT.out, ← HS.out]; simp [ByteArray.data_append]⟩, b1⟩
set_option maxRecDepth 100000 in
set_option maxHeartbeats 1000000 in
theorem shtimes_eqn (mn mx : Int) (h0 : 1 < mn) (h9 : mn ≤ 255) (h1 : mn = mx) (w : World) (hp : Pow w) : Calls Tryz.prog 68 #[.int .i64 mn, .int .i64 mx] w (RTxt w (timesT mn mx)) := by
  have HT := Lib.hid (show timesT mn mx = 123 :: (dec mn.toNat ++ ([] ++ [125])) by unfold timesT; rw [if_neg (by omega), if_neg (by omega), if_neg (by omega), if_pos h1])
  subst h1
  have e0 : (mn == 0) = false := by simp; omega
  have e1 : (mn == 1) = false := by simp; omega
  have e2 : (mn == -1) = false := by simp; omega
  have hlen := dec_le7 mn.toNat (by omega)
  go_enter Tryz.func68, Tryz.ntmps68
  go_wp2_with fail
  with_reducible refine (itoa_s mn (by omega) (by omega) w hp).mono ?_
  rintro e w1 ⟨⟨S, rfl, hS⟩, b1⟩
  have hSz : S.size ≤ 7 := by rw [← ba_len, hS]; exact hlen
  have HS := Lib.hid hS
  clear hS
  go_wp2_with fail
  go_ret
  exact ⟨⟨_, rfl, by rw [HT.out, ← HS.out]; simp [ByteArray.data_append]⟩, b1⟩
set_option maxRecDepth 100000 in
set_option maxHeartbeats 1000000 in
theorem shtimes_from (mn mx : Int) (h0 : 1 < mn) (h9 : mn ≤ 255) (h1 : mx = -1) (w : World) (hp : Pow w) : Calls Tryz.prog 68 #[.int .i64 mn, .int .i64 mx] w (RTxt w (timesT mn mx)) := by
  have HT := Lib.hid (show timesT mn mx = 123 :: (dec mn.toNat ++ ([44] ++ [125])) by unfold timesT; rw [if_neg (by omega), if_neg (by omega), if_neg (by omega), if_neg (by omega), if_pos h1])
  subst h1
  have e0 : (mn == 0) = false := by simp; omega
  have e1 : (mn == 1) = false := by simp; omega
  have e2 : (mn == -1) = false := by simp; omega
  have hlen := dec_le7 mn.toNat (by omega)
  go_enter Tryz.func68, Tryz.ntmps68
  go_wp2_with fail
  with_reducible refine (itoa_s mn (by omega) (by omega) w hp).mono ?_
  rintro e w1 ⟨⟨S, rfl, hS⟩, b1⟩
  have hSz : S.size ≤ 7 := by rw [← ba_len, hS]; exact hlen
  have HS := Lib.hid hS
  clear hS
  go_wp2_with fail
  go_ret
  exact ⟨⟨_, rfl, by rw [HT.out, ← HS.out]; simp [ByteArray.data_append]⟩, b1⟩
set_option maxRecDepth 100000 in
set_option maxHeartbeats 1000000 in
theorem shtimes_to0 (mn mx : Int) (h0 : mn = 0) (h3 : 1 < mx) (h5 : mx ≤ 255) (w : World) (hp : Pow w) : Calls Tryz.prog 68 #[.int .i64 mn, .int .i64 mx] w (RTxt w (timesT mn mx)) := by
  have HT := Lib.hid (show timesT mn mx = 123 :: (dec mn.toNat ++ (44 :: dec mx.toNat ++ [125])) by unfold timesT; rw [if_neg (by omega), if_neg (by omega), if_neg (by omega), if_neg (by omega), if_neg (by omega)])
  subst h0
  have e2 : (mx == -1) = false := by simp; omega
  have e3 : (mx == 1) = false := by simp; omega
  have e4 : ((0 : Int) == mx) = false := by simp; omega
  have hlen := dec_le7 (0 : Int).toNat (by omega)
  have hlen2 := dec_le7 mx.toNat (by omega)
  go_enter Tryz.func68, Tryz.ntmps68
  go_wp2_with fail
  with_reducible refine (itoa_s 0 (by omega) (by omega) w hp).mono ?_
  rintro e w1 ⟨⟨S, rfl, hS⟩, b1⟩
  have hSz : S.size ≤ 7 := by rw [← ba_len, hS]; exact hlen
  have HS := Lib.hid hS
  clear hS
  have hp1 := pow_below hp b1 (pow_lt hp)
  go_wp2_with fail
  with_reducible refine (itoa_s mx (by omega) (by omega) w1 hp1).mono ?_
  rintro e w2 ⟨⟨X, rfl, hX⟩, b2⟩
  have hXz : X.size ≤ 7 := by rw [← ba_len, hX]; exact hlen2
  have HX := Lib.hid hX
  clear hX
  go_wp2_with fail
  go_ret
  exact ⟨⟨_, rfl, by rw [HT.out, ← HS.out, ← HX.out]; simp [ByteArray.data_append]⟩, b1.trans (b2.mono b1.size)⟩
set_option maxRecDepth 100000 in
set_option maxHeartbeats 1000000 in
theorem shtimes_to1 (mn mx : Int) (h0 : mn = 1) (h3 : 1 < mx) (h5 : mx ≤ 255) (w : World) (hp : Pow w) : Calls Tryz.prog 68 #[.int .i64 mn, .int .i64 mx] w (RTxt w (timesT mn mx)) := by
  have HT := Lib.hid (show timesT mn mx = 123 :: (dec mn.toNat ++ (44 :: dec mx.toNat ++ [125])) by unfold timesT; rw [if_neg (by omega), if_neg (by omega), if_neg (by omega), if_neg (by omega), if_neg (by omega)])
  subst h0
  have e2 : (mx == -1) = false := by simp; omega
  have e3 : (mx == 1) = false := by simp; omega
  have e4 : ((1 : Int) == mx) = false := by simp; omega
  have hlen := dec_le7 (1 : Int).toNat (by omega)
  have hlen2 := dec_le7 mx.toNat (by omega)
  go_enter Tryz.func68, Tryz.ntmps68
  go_wp2_with fail
  with_reducible refine (itoa_s 1 (by omega) (by omega) w hp).mono ?_
  rintro e w1 ⟨⟨S, rfl, hS⟩, b1⟩
  have hSz : S.size ≤ 7 := by rw [← ba_len, hS]; exact hlen
  have HS := Lib.hid hS
  clear hS
  have hp1 := pow_below hp b1 (pow_lt hp)
  go_wp2_with fail
  with_reducible refine (itoa_s mx (by omega) (by omega) w1 hp1).mono ?_
  rintro e w2 ⟨⟨X, rfl, hX⟩, b2⟩
  have hXz : X.size ≤ 7 := by rw [← ba_len, hX]; exact hlen2
  have HX := Lib.hid hX
  clear hX
  go_wp2_with fail
  go_ret
  exact ⟨⟨_, rfl, by rw [HT.out, ← HS.out, ← HX.out]; simp [ByteArray.data_append]⟩, b1.trans (b2.mono b1.size)⟩
set_option maxRecDepth 100000 in
set_option maxHeartbeats 1000000 in
theorem shtimes_ton (mn mx : Int) (h0 : 1 < mn) (h9 : mn ≤ 255) (h3 : mn < mx) (h5 : mx ≤ 255) (w : World) (hp : Pow w) : Calls Tryz.prog 68 #[.int .i64 mn, .int .i64 mx] w (RTxt w (timesT mn mx)) := by
  have HT := Lib.hid (show timesT mn mx = 123 :: (dec mn.toNat ++ (44 :: dec mx.toNat ++ [125])) by unfold timesT; rw [if_neg (by omega), if_neg (by omega), if_neg (by omega), if_neg (by omega), if_neg (by omega)])
  have e0 : (mn == 0) = false := by simp; omega
  have e1 : (mn == 1) = false := by simp; omega
  have e2 : (mx == -1) = false := by simp; omega
  have e3 : (mx == 1) = false := by simp; omega
  have e4 : (mn == mx) = false := by simp; omega
  have hlen := dec_le7 mn.toNat (by omega)
  have hlen2 := dec_le7 mx.toNat (by omega)
  go_enter Tryz.func68, Tryz.ntmps68
  go_wp2_with fail
  with_reducible refine (itoa_s mn (by omega) (by omega) w hp).mono ?_
  rintro e w1 ⟨⟨S, rfl, hS⟩, b1⟩
  have hSz : S.size ≤ 7 := by rw [← ba_len, hS]; exact hlen
  have HS := Lib.hid hS
  clear hS
  have hp1 := pow_below hp b1 (pow_lt hp)
  go_wp2_with fail
  with_reducible refine (itoa_s mx (by omega) (by omega) w1 hp1).mono ?_
  rintro e w2 ⟨⟨X, rfl, hX⟩, b2⟩
  have hXz : X.size ≤ 7 := by rw [← ba_len, hX]; exact hlen2
  have HX := Lib.hid hX
  clear hX
  go_wp2_with fail
  go_ret
  exact ⟨⟨_, rfl, by rw [HT.out, ← HS.out, ← HX.out]; simp [ByteArray.data_append]⟩, b1.trans (b2.mono b1.size)⟩
theorem shtimes_any (mn mx : Int) (ho : okRep mn mx = true) (w : World) (hp : Pow w) : Calls Tryz.prog 68 #[.int .i64 mn, .int .i64 mx] w (RTxt w (timesT mn mx)) := by
  unfold okRep at ho
  simp only [Bool.and_eq_true, Bool.or_eq_true, decide_eq_true_eq] at ho
  by_cases h0 : mn = 0
  · by_cases h1 : mx = -1
    · exact shtimes_star mn mx h0 h1 w
    · by_cases h2 : mx = 1
      · exact shtimes_opt mn mx h0 h2 w
      · by_cases h3 : mn = mx
        · exact shtimes_eq0 mn mx h0 h3 w hp
        · exact shtimes_to0 mn mx h0 (by omega) (by omega) w hp
  · by_cases h1 : mn = 1
    · by_cases h2 : mx = -1
      · exact shtimes_plus mn mx h1 h2 w
      · by_cases h3 : mn = mx
        · exact shtimes_eq1 mn mx h1 h3 w hp
        · exact shtimes_to1 mn mx h1 (by omega) (by omega) w hp
    · by_cases h2 : mx = -1
      · exact shtimes_from mn mx (by omega) (by omega) h2 w hp
      · by_cases h3 : mn = mx
        · exact shtimes_eqn mn mx (by omega) (by omega) h3 w hp
        · exact shtimes_ton mn mx (by omega) (by omega) (by omega) (by omega) w hp
end Go.Proofs.YtpmeicclngckeaaGreatDoor
namespace Go.Proofs.YtpmeicclngckeaaGreatDoor
open Go.ChangeShapes Go.WideShapes Go.ChangeAt Go.RowKit
theorem array4_list (cs : Array Value) (h : cs.size = 4) : ∃ a b c d, cs = #[a, b, c, d] := by
  match cs, h with
  | ⟨[a, b, c, d]⟩, _ => exact ⟨a, b, c, d, rfl⟩
theorem open_set_at {H : Type} {enc : TypeId × Value → H} {P : Program} {w : World} {r : Reach} {b0 base : Nat} {spare : Nat → Bool} {held : Bool} {t e : TypeId} {v : Value} {d : DataW H} {p : List MemPlace}
    (ht : P.underlying t = some (.array 4 e)) (he : P.underlying e = some (.int .u64)) (hct : P.cellsOf t = 4) (hce : P.cellsOf e = 1)
    (hv : Value.okWide P w r b0 t v) (h : DataW.Trod enc P w base spare held t v d p) : ∃ s : OSet, v = .agg #[.int .u64 (ow s 0), .int .u64 (ow s 1), .int .u64 (ow s 2), .int .u64 (ow s 3)] := by
  simp only [Value.okWide, ht] at hv
  obtain ⟨cs, rfl, hsz, _⟩ := hv
  rw [hct] at hsz
  obtain ⟨a, b, c, d', rfl⟩ := array4_list cs hsz
  obtain ⟨fuel, hf⟩ := h
  obtain ⟨xs, m, _, _, _, hxl, hx⟩ := DataW.trod_array ht hf
  rw [hce] at hx
  have hat : ∀ i, i < 4 → ∃ n, (([a, b, c, d'] : List Value).drop (i * 1)).take 1 = [.int .u64 n] ∧ (Lit.int .u64 n).wf = true := by
    intro i hi
    have h1 := hx i hi
    rw [List.getElem?_eq_getElem (by omega)] at h1
    obtain ⟨n, e1, _, e2⟩ := DataW.trod_int he h1
    exact ⟨n, e1, e2⟩
  obtain ⟨n0, e0, w0⟩ := hat 0 (by decide)
  obtain ⟨n1, e1, w1⟩ := hat 1 (by decide)
  obtain ⟨n2, e2, w2⟩ := hat 2 (by decide)
  obtain ⟨n3, e3, w3⟩ := hat 3 (by decide)
  simp at e0 e1 e2 e3
  subst e0 e1 e2 e3
  have b0 := bounds_u64 w0
  have b1 := bounds_u64 w1
  have b2 := bounds_u64 w2
  have b3 := bounds_u64 w3
  obtain ⟨s, rfl, rfl, rfl, rfl⟩ := oset_of n0 n1 n2 n3 b0.1 (by omega) b1.1 (by omega) b2.1 (by omega) b3.1 (by omega)
  exact ⟨s, rfl⟩
set_option maxRecDepth 100000 in
theorem open_set {H : Type} {enc : TypeId × Value → H} {w : World} {r : Reach} {b0 base : Nat} {spare : Nat → Bool} {held : Bool} {v : Value} {d : DataW H} {p : List MemPlace}
    (hv : Value.okWide Tryz.prog w r b0 24 v) (h : DataW.Trod enc Tryz.prog w base spare held 24 v d p) : ∃ s : OSet, v = .agg #[.int .u64 (ow s 0), .int .u64 (ow s 1), .int .u64 (ow s 2), .int .u64 (ow s 3)] :=
  open_set_at Tryz.underlying24 Tryz.underlying22 (by kernel_rfl) (by kernel_rfl) hv h
theorem own : ownKnob Tryz.prog.godebug = none := by kernel_rfl
theorem laidOut : laidOutB Tryz.prog = true := by kernel_rfl
end Go.Proofs.YtpmeicclngckeaaGreatDoor
namespace Go.Proofs.YtpmeicclngckeaaGreatDoor
open Go.ChangeShapes Go.WideShapes Go.ChangeAt Go.RowKit
end Go.Proofs.YtpmeicclngckeaaGreatDoor
namespace Go.Proofs.YtpmeicclngckeaaGreatDoor
open Go.RowKit
end Go.Proofs.YtpmeicclngckeaaGreatDoor
namespace Go.Proofs.YtpmeicclngckeaaGreatDoor
open Go.RowKit
end Go.Proofs.YtpmeicclngckeaaGreatDoor
namespace Go.Proofs.YtpmeicclngckeaaGreatDoor
open Go.RowKit
end Go.Proofs.YtpmeicclngckeaaGreatDoor
namespace Go.Proofs.YtpmeicclngckeaaGreatDoor
open Go.RowKit
theorem rpart0 (a b c d : Int) (w : World) : (part 22 #[.int .u64 a, .int .u64 b, .int .u64 c, .int .u64 d] (0 * 1)).run Tryz.prog w = .ok (.int .u64 a) w := by kernel_rfl
theorem rpart1 (a b c d : Int) (w : World) : (part 22 #[.int .u64 a, .int .u64 b, .int .u64 c, .int .u64 d] 1).run Tryz.prog w = .ok (.int .u64 b) w := by kernel_rfl
theorem rpart2 (a b c d : Int) (w : World) : (part 22 #[.int .u64 a, .int .u64 b, .int .u64 c, .int .u64 d] 2).run Tryz.prog w = .ok (.int .u64 c) w := by kernel_rfl
theorem rpart3 (a b c d : Int) (w : World) : (part 22 #[.int .u64 a, .int .u64 b, .int .u64 c, .int .u64 d] 3).run Tryz.prog w = .ok (.int .u64 d) w := by kernel_rfl
set_option linter.unusedSimpArgs false in
theorem req_items (a b c d a' b' c' d' : Int) (w : World) : (Op.eqItems 9999 22 1 #[.int .u64 a, .int .u64 b, .int .u64 c, .int .u64 d] #[.int .u64 a', .int .u64 b', .int .u64 c', .int .u64 d'] [0, 1, 2, 3]).run Tryz.prog w = .ok (a == a' && (b == b' && (c == c' && d == d'))) w := by
  have h := fun (x y : Int) (w : World) => (run_equalIn_int (P := Tryz.prog) w 9998 22 .u64 .u64 x y Tryz.underlying22 : (Op.equalIn 9999 22 (.int .u64 x) (.int .u64 y)).run Tryz.prog w = _)
  simp only [Op.eqItems, Sem.run_bind, rpart0, h, Result.andThen_ok]
  cases ha : a == a' <;> cases hb : b == b' <;> cases hc : c == c' <;> cases hd : d == d' <;> simp [ha, hb, hc, hd, h, rpart1, rpart2, rpart3]
theorem rset_beq (s t : OSet) : (ow s 0 == ow t 0 && (ow s 1 == ow t 1 && (ow s 2 == ow t 2 && ow s 3 == ow t 3))) = decide (s = t) := by
  by_cases h : s = t
  · subst h; simp
  · have h2 := oset_ne h
    rw [decide_eq_false h]
    cases hx : (ow s 0 == ow t 0 && (ow s 1 == ow t 1 && (ow s 2 == ow t 2 && ow s 3 == ow t 3)))
    · rfl
    · exfalso
      simp only [Bool.and_eq_true, beq_iff_eq] at hx
      exact h2 hx
end Go.Proofs.YtpmeicclngckeaaGreatDoor
namespace Go.Proofs.YtpmeicclngckeaaGreatDoor
open Go Go.RowKit
def nholds (d : Nd) (s : OSet) : Bool := match d with
  | .one t => decide (t = s)
  | _ => false
theorem hset_eql (s t : OSet) (w : World) : (Op.equalIn 10000 27 (.agg #[.int .u64 (ow s 0), .int .u64 (ow s 1), .int .u64 (ow s 2), .int .u64 (ow s 3)]) (.agg #[.int .u64 (ow t 0), .int .u64 (ow t 1), .int .u64 (ow t 2), .int .u64 (ow t 3)])).run Tryz.prog w = .ok (decide (s = t)) w := by
  have hc : Tryz.prog.cellsOf 22 = 1 := by kernel_rfl
  have hi0 : (Tryz.prog.info? 22).isSome = true := by kernel_rfl
  obtain ⟨i, hi⟩ := Option.isSome_iff_exists.1 hi0
  rw [run_equalIn_array w 9999 (e := 22) (n := 4) _ _ Tryz.underlying27 hi]
  rw [hc, show List.range 4 = [0, 1, 2, 3] from rfl, req_items, rset_beq]
set_option linter.unusedSimpArgs false in
set_option maxRecDepth 100000 in
set_option maxHeartbeats 2000000 in
theorem holds_any {F : Nat → Prop} (d : Nd) (v : Value) (t : OSet) (w : World) (h : NdX F w d v) : Calls Tryz.prog 12 #[v, .agg #[.int .u64 (ow t 0), .int .u64 (ow t 1), .int .u64 (ow t 2), .int .u64 (ow t 3)]] w fun e w' => e = .returned (.bool (nholds d t)) ∧ Below w.heap.size w w' := by
  have hq := hset_eql
  rcases nd_kinds h with ⟨rfl, rfl | rfl⟩ | ⟨s, rfl, rfl⟩ | ⟨l, a, cap, rfl, rfl, hr⟩ | ⟨l, a, cap, rfl, rfl, hr⟩ | ⟨d', mn, mx, u, rfl, rfl, hu⟩ | ⟨num, d', u, rfl, rfl, hu⟩ | ⟨num, rfl, rfl⟩ | ⟨rfl, rfl⟩ | ⟨rfl, rfl⟩
  all_goals
    go_enter Tryz.func12, Tryz.ntmps12
    go_wp2_with fail
    go_ret
    refine ⟨rfl, ?_⟩
    repeat (first | (with_reducible exact Below.refl _ _) | refine Below.drew ?_ | refine Below.setCell ?_ (by first | omega | (simp; omega) | simp) _ | refine Below.alloc ?_ (by first | omega | (simp; omega) | simp) _)
end Go.Proofs.YtpmeicclngckeaaGreatDoor
namespace Go.Proofs.YtpmeicclngckeaaGreatDoor
open Go Go.RowKit
def nemp : Nd → Bool
  | .empty => true
  | _ => false
def ncat : Nd → Bool
  | .cat _ => true
  | _ => false
def nrep : Nd → Bool
  | .rep _ _ _ => true
  | _ => false
def nsta : Nd → Bool
  | .start => true
  | _ => false
def nend : Nd → Bool
  | .fin => true
  | _ => false
set_option linter.unusedSimpArgs false in
set_option maxRecDepth 100000 in
set_option maxHeartbeats 1000000 in
theorem isempty_any {F : Nat → Prop} (d : Nd) (v : Value) (w : World) (h : NdX F w d v) : Calls Tryz.prog 107 #[v] w fun e w' => e = .returned (.bool (nemp d)) ∧ Below w.heap.size w w' := by
  rcases nd_kinds h with ⟨rfl, rfl | rfl⟩ | ⟨s, rfl, rfl⟩ | ⟨l, a, cap, rfl, rfl, hr⟩ | ⟨l, a, cap, rfl, rfl, hr⟩ | ⟨d', mn, mx, u, rfl, rfl, hu⟩ | ⟨num, d', u, rfl, rfl, hu⟩ | ⟨num, rfl, rfl⟩ | ⟨rfl, rfl⟩ | ⟨rfl, rfl⟩
  all_goals
    go_enter Tryz.func107, Tryz.ntmps107
    go_wp2_with fail
    go_ret
    exact ⟨rfl, Below.refl _ _⟩
theorem assert_cat {F : Nat → Prop} {w0 : World} {d : Nd} {v : Value} (h : NdX F w0 d v) : ∃ a n c, ∀ w, (Instr.typeAssert v 31 92 true).run Tryz.prog w = .ok (.tuple #[.agg #[.slice a n c], .bool (ncat d)]) w := by
  rcases nd_kinds h with ⟨rfl, rfl | rfl⟩ | ⟨s, rfl, rfl⟩ | ⟨l, a, cap, rfl, rfl, hr⟩ | ⟨l, a, cap, rfl, rfl, hr⟩ | ⟨d', mn, mx, u, rfl, rfl, hu⟩ | ⟨num, d', u, rfl, rfl, hu⟩ | ⟨num, rfl, rfl⟩ | ⟨rfl, rfl⟩ | ⟨rfl, rfl⟩
  · exact ⟨none, 0, 0, ta_Empty_Cat _⟩
  · exact ⟨none, 0, 0, ta_nil_Cat⟩
  · exact ⟨none, 0, 0, ta_One_Cat _⟩
  · exact ⟨_, _, _, ta_Cat_Cat _⟩
  · exact ⟨none, 0, 0, ta_Alt_Cat _⟩
  · exact ⟨none, 0, 0, ta_Rep_Cat _⟩
  · exact ⟨none, 0, 0, ta_Group_Cat _⟩
  · exact ⟨none, 0, 0, ta_Back_Cat _⟩
  · exact ⟨none, 0, 0, ta_Start_Cat _⟩
  · exact ⟨none, 0, 0, ta_End_Cat _⟩
theorem assert_rep {F : Nat → Prop} {w0 : World} {d : Nd} {v : Value} (h : NdX F w0 d v) : ∃ u mn mx, ((∃ T q, u = .iface T q) ∨ u = .nilIface) ∧ (∀ w, (Instr.typeAssert v 31 95 true).run Tryz.prog w = .ok (.tuple #[.agg #[u, .int .i64 mn, .int .i64 mx], .bool (nrep d)]) w) ∧ ∀ d' a b, d = .rep d' a b → mn = a ∧ mx = b := by
  rcases nd_kinds h with ⟨rfl, rfl | rfl⟩ | ⟨s, rfl, rfl⟩ | ⟨l, a, cap, rfl, rfl, hr⟩ | ⟨l, a, cap, rfl, rfl, hr⟩ | ⟨d', mn, mx, u, rfl, rfl, hu⟩ | ⟨num, d', u, rfl, rfl, hu⟩ | ⟨num, rfl, rfl⟩ | ⟨rfl, rfl⟩ | ⟨rfl, rfl⟩
  · exact ⟨.nilIface, 0, 0, .inr rfl, ta_Empty_Rep _, fun _ _ _ h => by cases h⟩
  · exact ⟨.nilIface, 0, 0, .inr rfl, ta_nil_Rep, fun _ _ _ h => by cases h⟩
  · exact ⟨.nilIface, 0, 0, .inr rfl, ta_One_Rep _, fun _ _ _ h => by cases h⟩
  · exact ⟨.nilIface, 0, 0, .inr rfl, ta_Cat_Rep _, fun _ _ _ h => by cases h⟩
  · exact ⟨.nilIface, 0, 0, .inr rfl, ta_Alt_Rep _, fun _ _ _ h => by cases h⟩
  · exact ⟨u, mn, mx, hu.elim fun _ h => nd_shape h, ta_Rep_Rep _, fun _ _ _ h => by cases h; exact ⟨rfl, rfl⟩⟩
  · exact ⟨.nilIface, 0, 0, .inr rfl, ta_Group_Rep _, fun _ _ _ h => by cases h⟩
  · exact ⟨.nilIface, 0, 0, .inr rfl, ta_Back_Rep _, fun _ _ _ h => by cases h⟩
  · exact ⟨.nilIface, 0, 0, .inr rfl, ta_Start_Rep _, fun _ _ _ h => by cases h⟩
  · exact ⟨.nilIface, 0, 0, .inr rfl, ta_End_Rep _, fun _ _ _ h => by cases h⟩
theorem assert_backn {F : Nat → Prop} {w0 : World} {d : Nd} {v : Value} (h : NdX F w0 d v) : ∃ num : Int, (∀ w, (Instr.typeAssert v 31 99 true).run Tryz.prog w = .ok (.tuple #[.agg #[.int .i64 num], .bool (nbck d)]) w) ∧ ∀ n, d = .back n → num = n := by
  rcases nd_kinds h with ⟨rfl, rfl | rfl⟩ | ⟨s, rfl, rfl⟩ | ⟨l, a, cap, rfl, rfl, hr⟩ | ⟨l, a, cap, rfl, rfl, hr⟩ | ⟨d', mn, mx, u, rfl, rfl, hu⟩ | ⟨num, d', u, rfl, rfl, hu⟩ | ⟨num, rfl, rfl⟩ | ⟨rfl, rfl⟩ | ⟨rfl, rfl⟩
  · exact ⟨0, ta_Empty_Back _, fun _ h => by cases h⟩
  · exact ⟨0, ta_nil_Back, fun _ h => by cases h⟩
  · exact ⟨0, ta_One_Back _, fun _ h => by cases h⟩
  · exact ⟨0, ta_Cat_Back _, fun _ h => by cases h⟩
  · exact ⟨0, ta_Alt_Back _, fun _ h => by cases h⟩
  · exact ⟨0, ta_Rep_Back _, fun _ h => by cases h⟩
  · exact ⟨0, ta_Group_Back _, fun _ h => by cases h⟩
  · exact ⟨num, ta_Back_Back _, fun _ h => by cases h; rfl⟩
  · exact ⟨0, ta_Start_Back _, fun _ h => by cases h⟩
  · exact ⟨0, ta_End_Back _, fun _ h => by cases h⟩
theorem assert_start {F : Nat → Prop} {w0 : World} {d : Nd} {v : Value} (h : NdX F w0 d v) : ∀ w, (Instr.typeAssert v 31 101 true).run Tryz.prog w = .ok (.tuple #[.agg #[], .bool (nsta d)]) w := by
  rcases nd_kinds h with ⟨rfl, rfl | rfl⟩ | ⟨s, rfl, rfl⟩ | ⟨l, a, cap, rfl, rfl, hr⟩ | ⟨l, a, cap, rfl, rfl, hr⟩ | ⟨d', mn, mx, u, rfl, rfl, hu⟩ | ⟨num, d', u, rfl, rfl, hu⟩ | ⟨num, rfl, rfl⟩ | ⟨rfl, rfl⟩ | ⟨rfl, rfl⟩
  · exact ta_Empty_Start _
  · exact ta_nil_Start
  · exact ta_One_Start _
  · exact ta_Cat_Start _
  · exact ta_Alt_Start _
  · exact ta_Rep_Start _
  · exact ta_Group_Start _
  · exact ta_Back_Start _
  · exact ta_Start_Start _
  · exact ta_End_Start _
theorem assert_end {F : Nat → Prop} {w0 : World} {d : Nd} {v : Value} (h : NdX F w0 d v) : ∀ w, (Instr.typeAssert v 31 102 true).run Tryz.prog w = .ok (.tuple #[.agg #[], .bool (nend d)]) w := by
  rcases nd_kinds h with ⟨rfl, rfl | rfl⟩ | ⟨s, rfl, rfl⟩ | ⟨l, a, cap, rfl, rfl, hr⟩ | ⟨l, a, cap, rfl, rfl, hr⟩ | ⟨d', mn, mx, u, rfl, rfl, hu⟩ | ⟨num, d', u, rfl, rfl, hu⟩ | ⟨num, rfl, rfl⟩ | ⟨rfl, rfl⟩ | ⟨rfl, rfl⟩
  · exact ta_Empty_End _
  · exact ta_nil_End
  · exact ta_One_End _
  · exact ta_Cat_End _
  · exact ta_Alt_End _
  · exact ta_Rep_End _
  · exact ta_Group_End _
  · exact ta_Back_End _
  · exact ta_Start_End _
  · exact ta_End_End _
theorem head_empty (e : Nd) : nhead .empty e = nemp e := by cases e <;> rfl
theorem head_one (s : OSet) (e : Nd) : nhead (.one s) e = nholds e s := by cases e <;> first | rfl | exact decide_eq_decide.2 ⟨Eq.symm, Eq.symm⟩
theorem head_cat (l : List Nd) (e : Nd) : nhead (.cat l) e = ncat e := by cases e <;> rfl
theorem head_alt (l : List Nd) (e : Nd) : nhead (.alt l) e = !inAlt e := by cases e <;> rfl
theorem head_start (e : Nd) : nhead .start e = nsta e := by cases e <;> rfl
theorem head_end (e : Nd) : nhead .fin e = nend e := by cases e <;> rfl
theorem head_rep (d : Nd) (mn mx : Int) (e : Nd) (p q : Int) (h : ∀ d' a b, e = .rep d' a b → p = a ∧ q = b) : nhead (.rep d mn mx) e = (nrep e && (mn == p) && (mx == q)) := by
  cases e with
  | rep e a b => obtain ⟨rfl, rfl⟩ := h _ _ _ rfl; rfl
  | _ => rfl
theorem head_group (d : Nd) (n : Int) (e : Nd) (p : Int) (h : ∀ k d', e = .group k d' → p = k) : nhead (.group n d) e = (ngrp e && (n == p)) := by
  cases e with
  | group k e => obtain rfl := h _ _ rfl; rfl
  | _ => rfl
theorem head_back (n : Int) (e : Nd) (p : Int) (h : ∀ k, e = .back k → p = k) : nhead (.back n) e = (nbck e && (n == p)) := by
  cases e with
  | back k => obtain rfl := h _ rfl; rfl
  | _ => rfl
set_option linter.unusedSimpArgs false in
set_option maxRecDepth 100000 in
set_option maxHeartbeats 4000000 in
theorem alike_any {F : Nat → Prop} (d e : Nd) (v y : Value) (w : World) (h : NdX F w d v) (k : NdX F w e y) : Calls Tryz.prog 76 #[v, y] w fun r w' => r = .returned (.bool (nhead d e)) ∧ Below w.heap.size w w' := by
  rcases nd_kinds h with ⟨rfl, rfl | rfl⟩ | ⟨s, rfl, rfl⟩ | ⟨l, a, cap, rfl, rfl, hr⟩ | ⟨l, a, cap, rfl, rfl, hr⟩ | ⟨d', mn, mx, u, rfl, rfl, hu⟩ | ⟨num, d', u, rfl, rfl, hu⟩ | ⟨num, rfl, rfl⟩ | ⟨rfl, rfl⟩ | ⟨rfl, rfl⟩
  · rw [head_empty]
    have hC := isempty_any e y w k
    generalize nemp e = R at hC ⊢
    go_enter Tryz.func76, Tryz.ntmps76
    go_wp2_with (go_at_call 107; refine hC.mono ?_; rintro r w2 ⟨rfl, b2⟩)
    go_ret
    exact ⟨rfl, b2⟩
  · rw [head_empty]
    have hC := isempty_any e y w k
    generalize nemp e = R at hC ⊢
    go_enter Tryz.func76, Tryz.ntmps76
    go_wp2_with (go_at_call 107; refine hC.mono ?_; rintro r w2 ⟨rfl, b2⟩)
    go_ret
    exact ⟨rfl, b2⟩
  · rw [head_one]
    have hB := (Below.refl w.heap.size w).alloc (Nat.le_refl _) (.cells #[.int .u64 (ow s 0), .int .u64 (ow s 1), .int .u64 (ow s 2), .int .u64 (ow s 3)] 80)
    have hC := holds_any e y s _ (k.below hB)
    generalize nholds e s = R at hC ⊢
    go_enter Tryz.func76, Tryz.ntmps76
    go_wp2_with (go_at_call 12; refine hC.mono ?_; rintro r w2 ⟨rfl, b2⟩)
    go_ret
    exact ⟨rfl, hB.trans (b2.mono hB.size)⟩
  · rw [head_cat]
    obtain ⟨a2, n2, c2, hTA⟩ := assert_cat k
    generalize ncat e = R at hTA ⊢
    go_enter Tryz.func76, Tryz.ntmps76
    go_wp2_with fail
    go_ret
    refine ⟨rfl, ?_⟩
    repeat (first | (with_reducible exact hW) | (with_reducible exact Below.refl _ _) | refine Below.drew ?_ | refine Below.setCell ?_ (by first | omega | (simp; omega) | simp) _ | refine Below.alloc ?_ (by first | omega | (simp; omega) | simp) _)
  · rw [head_alt]
    have hB := (Below.refl w.heap.size w).alloc (Nat.le_refl _) (.cells #[.slice a l.length cap] 93)
    have hC := isalt_any e y _ (k.below hB)
    generalize (!inAlt e) = R at hC ⊢
    go_enter Tryz.func76, Tryz.ntmps76
    go_wp2_with (go_at_call 98; refine hC.mono ?_; rintro r w2 ⟨rfl, b2⟩)
    go_ret
    exact ⟨rfl, hB.trans (b2.mono hB.size)⟩
  · obtain ⟨u2, p, q, hu2, hTA, hpq⟩ := assert_rep k
    rw [head_rep d' mn mx e p q hpq]
    have hu1 : (∃ T q, u = .iface T q) ∨ u = .nilIface := hu.elim fun _ h => nd_shape h
    generalize nrep e = R at hTA ⊢
    clear hpq k h hu
    rcases hu1 with ⟨T, q1, rfl⟩ | rfl
    all_goals
      rcases hu2 with ⟨T2, q2, rfl⟩ | rfl
      all_goals
        cases R
        · go_enter Tryz.func76, Tryz.ntmps76
          go_wp2_with fail
          go_ret
          refine ⟨rfl, ?_⟩
          repeat (first | (with_reducible exact hW) | (with_reducible exact Below.refl _ _) | refine Below.drew ?_ | refine Below.setCell ?_ (by first | omega | (simp; omega) | simp) _ | refine Below.alloc ?_ (by first | omega | (simp; omega) | simp) _)
        · cases hE : mn == p
          · go_enter Tryz.func76, Tryz.ntmps76
            go_wp2_with fail
            go_ret
            refine ⟨rfl, ?_⟩
            repeat (first | (with_reducible exact hW) | (with_reducible exact Below.refl _ _) | refine Below.drew ?_ | refine Below.setCell ?_ (by first | omega | (simp; omega) | simp) _ | refine Below.alloc ?_ (by first | omega | (simp; omega) | simp) _)
          · go_enter Tryz.func76, Tryz.ntmps76
            go_wp2_with fail
            go_ret
            refine ⟨rfl, ?_⟩
            repeat (first | (with_reducible exact hW) | (with_reducible exact Below.refl _ _) | refine Below.drew ?_ | refine Below.setCell ?_ (by first | omega | (simp; omega) | simp) _ | refine Below.alloc ?_ (by first | omega | (simp; omega) | simp) _)
  · obtain ⟨p, u2, hu2, hTA, hpq⟩ := assert_group k
    rw [head_group d' num e p hpq]
    have hu1 : (∃ T q, u = .iface T q) ∨ u = .nilIface := hu.elim fun _ h => nd_shape h
    generalize ngrp e = R at hTA ⊢
    clear hpq k h hu
    rcases hu1 with ⟨T, q1, rfl⟩ | rfl
    all_goals
      rcases hu2 with ⟨T2, q2, rfl⟩ | rfl
      all_goals
        cases R
        all_goals
          go_enter Tryz.func76, Tryz.ntmps76
          go_wp2_with fail
          go_ret
          refine ⟨rfl, ?_⟩
          repeat (first | (with_reducible exact hW) | (with_reducible exact Below.refl _ _) | refine Below.drew ?_ | refine Below.setCell ?_ (by first | omega | (simp; omega) | simp) _ | refine Below.alloc ?_ (by first | omega | (simp; omega) | simp) _)
  · obtain ⟨p, hTA, hpq⟩ := assert_backn k
    rw [head_back num e p hpq]
    generalize nbck e = R at hTA ⊢
    clear hpq k h
    cases R
    all_goals
      go_enter Tryz.func76, Tryz.ntmps76
      go_wp2_with fail
      go_ret
      refine ⟨rfl, ?_⟩
      repeat (first | (with_reducible exact hW) | (with_reducible exact Below.refl _ _) | refine Below.drew ?_ | refine Below.setCell ?_ (by first | omega | (simp; omega) | simp) _ | refine Below.alloc ?_ (by first | omega | (simp; omega) | simp) _)
  · have hTA := assert_start k
    rw [head_start]
    generalize nsta e = R at hTA ⊢
    go_enter Tryz.func76, Tryz.ntmps76
    go_wp2_with fail
    go_ret
    refine ⟨rfl, ?_⟩
    repeat (first | (with_reducible exact hW) | (with_reducible exact Below.refl _ _) | refine Below.drew ?_ | refine Below.setCell ?_ (by first | omega | (simp; omega) | simp) _ | refine Below.alloc ?_ (by first | omega | (simp; omega) | simp) _)
  · have hTA := assert_end k
    rw [head_end]
    generalize nend e = R at hTA ⊢
    go_enter Tryz.func76, Tryz.ntmps76
    go_wp2_with fail
    go_ret
    refine ⟨rfl, ?_⟩
    repeat (first | (with_reducible exact hW) | (with_reducible exact Below.refl _ _) | refine Below.drew ?_ | refine Below.setCell ?_ (by first | omega | (simp; omega) | simp) _ | refine Below.alloc ?_ (by first | omega | (simp; omega) | simp) _)
end Go.Proofs.YtpmeicclngckeaaGreatDoor
