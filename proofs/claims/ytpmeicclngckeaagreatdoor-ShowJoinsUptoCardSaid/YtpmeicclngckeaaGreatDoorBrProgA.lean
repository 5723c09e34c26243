/- The program's bracket expressions, walked: the small calls: dashStands, spanOf, named. -/
import Derived.Test.YtpmeicclngckeaaGreatDoorOctW
import Derived.Test.YtpmeicclngckeaaGreatDoorSp
import Derived.Test.YtpmeicclngckeaaGreatDoorMaC
import Derived.BigQuiet
import Derived.Deep.QuietTactic
import Derived.Deep.DeepCutAuto
import Derived.Outline
namespace Go.Proofs.YtpmeicclngckeaaGreatDoor
open Go.RowKit

theorem pbyt_at (s : ByteArray) (k : Nat) (h : k < s.size) : byt s.data.toList k = s[k].toNat := by
  unfold byt
  rw [List.getD_eq_getElem?_getD, List.getElem?_eq_getElem (by simpa using h)]
  rfl
theorem plist_size (s : ByteArray) : s.data.toList.length = s.size := by simp
theorem pu8a (b : UInt8) : (0 : Int) ≤ (b.toNat : Int) := Int.natCast_nonneg _
theorem pu8b (b : UInt8) : (b.toNat : Int) ≤ 255 := by have := b.toNat_lt; omega

/-- Does a - stand at a place that makes a range? -/
def dsh (s : List UInt8) (k : Nat) : Bool := decide (k + 1 < s.length) && decide (byt s k = 45) && !decide (byt s (k + 1) = 93)
set_option linter.unusedSimpArgs false in
set_option maxRecDepth 100000 in
set_option maxHeartbeats 1000000 in
theorem dash_any (s : ByteArray) (k : Nat) (w : World) (hs : s.size ≤ 35184372088832) (hk : k ≤ s.size) :
    Calls Tryz.prog 145 #[.string s, .int .i64 (k : Int)] w fun e w' => e = .returned (.bool (dsh s.data.toList k)) ∧ Below w.heap.size w w' := by
  have Wn : IntKind.i64.wrap ((k : Int) + 1) = (k : Int) + 1 := IntWalk.i64_in _ (by omega)
  by_cases q1 : k + 1 < s.size
  · have Hd := Lib.hid (show dsh s.data.toList k = (decide (s[k].toNat = 45) && !decide (s[k + 1].toNat = 93)) by
      unfold dsh; rw [plist_size, pbyt_at s k (by omega), pbyt_at s (k + 1) q1, decide_eq_true q1, Bool.true_and])
    have r1 : decide ((k : Int) + 1 < (s.size : Int)) = true := by simp; omega
    by_cases q2 : s[k].toNat = 45
    · have r2 : ((s[k].toNat : Int) == 45) = true := by simp; omega
      have Q2 := Lib.hid q2
      clear q2
      by_cases q3 : s[k + 1].toNat = 93
      · have r3 : ((s[k + 1].toNat : Int) != 93) = false := by simp; omega
        have Q3 := Lib.hid q3
        clear q3
        go_enter Tryz.func145, Tryz.ntmps145
        go_wp2_with fail
        go_ret
        exact ⟨ret_bool (by rw [Hd.out, Q2.out, Q3.out]; rfl), Below.refl _ _⟩
      · have r3 : ((s[k + 1].toNat : Int) != 93) = true := by simp; omega
        have Q3 := Lib.hid q3
        clear q3
        go_enter Tryz.func145, Tryz.ntmps145
        go_wp2_with fail
        go_ret
        exact ⟨ret_bool (by rw [Hd.out, Q2.out, decide_eq_false Q3.out]; rfl), Below.refl _ _⟩
    · have r2 : ((s[k].toNat : Int) == 45) = false := by simp; omega
      have Q2 := Lib.hid q2
      clear q2
      go_enter Tryz.func145, Tryz.ntmps145
      go_wp2_with fail
      go_ret
      exact ⟨ret_bool (by rw [Hd.out, decide_eq_false Q2.out]; rfl), Below.refl _ _⟩
  · have r1 : decide ((k : Int) + 1 < (s.size : Int)) = false := by simp; omega
    have Hd := Lib.hid (show dsh s.data.toList k = false by
      unfold dsh; rw [plist_size, decide_eq_false q1]; rfl)
    go_enter Tryz.func145, Tryz.ntmps145
    go_wp2_with fail
    go_ret
    exact ⟨ret_bool (by rw [Hd.out]), Below.refl _ _⟩
theorem iblk_cells {w : World} {a : Nat} {s : OSet} {m : Bool} {T : TypeId} (h : Blk w a #[.int .u64 (ow s 0), .int .u64 (ow s 1), .int .u64 (ow s 2), .int .u64 (ow s 3), .bool m] T) :
    w.cell? ⟨a, 0, none⟩ = some (.int .u64 (ow s 0)) ∧ w.cell? ⟨a, 1, none⟩ = some (.int .u64 (ow s 1)) ∧ w.cell? ⟨a, 2, none⟩ = some (.int .u64 (ow s 2)) ∧ w.cell? ⟨a, 3, none⟩ = some (.int .u64 (ow s 3)) ∧ w.cell? ⟨a, 4, none⟩ = some (.bool m) :=
  ⟨(h.cell 0).trans rfl, (h.cell 1).trans rfl, (h.cell 2).trans rfl, (h.cell 3).trans rfl, (h.cell 4).trans rfl⟩
theorem oz_val : (.agg #[.int .u64 (ow oz 0), .int .u64 (ow oz 1), .int .u64 (ow oz 2), .int .u64 (ow oz 3)] : Value) = .agg #[.int .u64 0, .int .u64 0, .int .u64 0, .int .u64 0] := by rw [ow_zero, ow_zero, ow_zero, ow_zero]
theorem least_one (b : Nat) (hb : b < 256) (w : World) (hT : TabIn w) (hg : 0 < w.heap.size) :
    Calls Tryz.prog 51 #[.agg #[.int .u64 (ow (oSpan b b) 0), .int .u64 (ow (oSpan b b) 1), .int .u64 (ow (oSpan b b) 2), .int .u64 (ow (oSpan b b) 3)]] w fun e w' => e = .returned (.tuple #[.int .u8 (b : Int), .bool true]) ∧ Below w.heap.size w w' :=
  least_some (oSpan b b) b hb (by rw [one_has b b hb]; simp) (fun c hc => by rw [one_has b c hb]; simp; omega) w hT hg
/-- What a range has, from one item to another one. -/
def spn (A B : OSet) (ma mb : Bool) : OSet := if ma && mb then oSpan (lst A) (lst B) else oz
set_option linter.unusedSimpArgs false in
set_option maxRecDepth 100000 in
set_option maxHeartbeats 2000000 in
theorem pspan_any (A B : OSet) (ma mb : Bool) (hA : ma = true → ∃ b : Nat, b < 256 ∧ A = oSpan b b) (hB : mb = true → ∃ b : Nat, b < 256 ∧ B = oSpan b b) (w : World) (hT : TabIn w) (hg : 0 < w.heap.size) :
    Calls Tryz.prog 146 #[.agg #[.int .u64 (ow A 0), .int .u64 (ow A 1), .int .u64 (ow A 2), .int .u64 (ow A 3), .bool ma], .agg #[.int .u64 (ow B 0), .int .u64 (ow B 1), .int .u64 (ow B 2), .int .u64 (ow B 3), .bool mb]] w fun e w' => e = .returned (.agg #[.int .u64 (ow (spn A B ma mb) 0), .int .u64 (ow (spn A B ma mb) 1), .int .u64 (ow (spn A B ma mb) 2), .int .u64 (ow (spn A B ma mb) 3)]) ∧ Below w.heap.size w w' := by
  have hW := (((Below.refl w.heap.size w).alloc (Nat.le_refl _) (.cells #[.int .u64 (ow A 0), .int .u64 (ow A 1), .int .u64 (ow A 2), .int .u64 (ow A 3), .bool ma] 209)).alloc (by simp) (.cells #[.int .u64 (ow B 0), .int .u64 (ow B 1), .int .u64 (ow B 2), .int .u64 (ow B 3), .bool mb] 209)).alloc (by simp; omega) (.cells #[.int .u64 0, .int .u64 0, .int .u64 0, .int .u64 0] 27)
  cases ma
  · go_enter Tryz.func146, Tryz.ntmps146
    go_wp2_with fail
    refine bodyPost_ret (v := .agg #[.int .u64 0, .int .u64 0, .int .u64 0, .int .u64 0]) (by simp [results, Tryz.results146, go_sem]) rfl ⟨by rw [show spn A B false mb = oz from rfl, oz_val], hW⟩
  · cases mb
    · go_enter Tryz.func146, Tryz.ntmps146
      go_wp2_with fail
      refine bodyPost_ret (v := .agg #[.int .u64 0, .int .u64 0, .int .u64 0, .int .u64 0]) (by simp [results, Tryz.results146, go_sem]) rfl ⟨by rw [show spn A B true false = oz from rfl, oz_val], hW⟩
    · obtain ⟨a, ha, rfl⟩ := hA rfl
      obtain ⟨b, hb, rfl⟩ := hB rfl
      have hs : spn (oSpan a a) (oSpan b b) true true = oSpan a b := by
        unfold spn
        rw [(lst_one a ha).2, (lst_one b hb).2]
        rfl
      rw [hs]
      have hb2 := (((Blk.new w #[.int .u64 (ow (oSpan a a) 0), .int .u64 (ow (oSpan a a) 1), .int .u64 (ow (oSpan a a) 2), .int .u64 (ow (oSpan a a) 3), .bool true] 209 _ rfl).alloc (.cells #[.int .u64 (ow (oSpan b b) 0), .int .u64 (ow (oSpan b b) 1), .int .u64 (ow (oSpan b b) 2), .int .u64 (ow (oSpan b b) 3), .bool true] 209)).alloc (.cells #[.int .u64 0, .int .u64 0, .int .u64 0, .int .u64 0] 27))
      have hb3 := ((Blk.new (w.alloc (.cells #[.int .u64 (ow (oSpan a a) 0), .int .u64 (ow (oSpan a a) 1), .int .u64 (ow (oSpan a a) 2), .int .u64 (ow (oSpan a a) 3), .bool true] 209)) #[.int .u64 (ow (oSpan b b) 0), .int .u64 (ow (oSpan b b) 1), .int .u64 (ow (oSpan b b) 2), .int .u64 (ow (oSpan b b) 3), .bool true] 209 _ rfl).alloc (.cells #[.int .u64 0, .int .u64 0, .int .u64 0, .int .u64 0] 27))
      have hb4 := Blk.new ((w.alloc (.cells #[.int .u64 (ow (oSpan a a) 0), .int .u64 (ow (oSpan a a) 1), .int .u64 (ow (oSpan a a) 2), .int .u64 (ow (oSpan a a) 3), .bool true] 209)).alloc (.cells #[.int .u64 (ow (oSpan b b) 0), .int .u64 (ow (oSpan b b) 1), .int .u64 (ow (oSpan b b) 2), .int .u64 (ow (oSpan b b) 3), .bool true] 209)) #[.int .u64 0, .int .u64 0, .int .u64 0, .int .u64 0] 27 _ rfl
      simp only [World.size_alloc] at hb3 hb4
      have hT2 := tabIn_below hT hW hg
      go_enter Tryz.func146, Tryz.ntmps146
      go_wp2_with fail
      refine (least_one a ha _ hT2 (Nat.lt_of_lt_of_le hg hW.size)).mono ?_
      rintro e w1 ⟨rfl, b1⟩
      replace hW := hW.trans (b1.mono hW.size)
      replace hb3 := hb3.below b1 hb3.lt
      replace hb4 := hb4.below b1 hb4.lt
      clear hT2 hb2 b1
      have hT3 := tabIn_below hT hW hg
      obtain ⟨c0, c1, c2, c3, c4⟩ := iblk_cells hb3
      go_wp2_with fail
      refine (least_one b hb _ hT3 (Nat.lt_of_lt_of_le hg hW.size)).mono ?_
      rintro e w2 ⟨rfl, b2⟩
      replace hW := hW.trans (b2.mono hW.size)
      replace hb4 := hb4.below b2 hb4.lt
      clear c0 c1 c2 c3 c4 hb3 b2 hT3
      go_wp2_with fail
      refine (span_any a b _ (by omega) (by omega) (by omega) (by omega)).mono ?_
      rintro e w3 ⟨rfl, b3⟩
      replace hW := hW.trans (b3.mono hW.size)
      replace hb4 := hb4.below b3 hb4.lt
      clear b3
      obtain ⟨d0, d1, d2, d3⟩ := zblk_cells hb4
      have f0 := hb4.frozen 0
      have f1 := hb4.frozen 1
      have f2 := hb4.frozen 2
      have f3 := hb4.frozen 3
      have hlB := hb4.lt
      go_wp2_with fail
      refine bodyPost_ret (v := .agg #[.int .u64 (ow (oSpan a b) 0), .int .u64 (ow (oSpan a b) 1), .int .u64 (ow (oSpan a b) 2), .int .u64 (ow (oSpan a b) 3)]) (by simp [results, Tryz.results146, go_sem, d0, d1, d2, d3, hlB]) rfl ⟨rfl, ?_⟩
      repeat (first | exact hW | refine Below.setCell ?_ (by first | omega | (simp; omega) | simp) _)
end Go.Proofs.YtpmeicclngckeaaGreatDoor
