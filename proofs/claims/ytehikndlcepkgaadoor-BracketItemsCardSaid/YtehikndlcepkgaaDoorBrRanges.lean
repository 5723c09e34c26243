/- The statement BracketRanges, walked. -/
import Derived.Test.YtehikndlcepkgaaDoorBrAwake
import Derived.Test.YtehikndlcepkgaaDoorBrHold
namespace Go.Proofs.YtehikndlcepkgaaDoor
open Go.RowKit

/-- Two bytes, each between [. and .], with a - between. -/
def rgL (a b : UInt8) : List UInt8 := [91, 46, a, 46, 93, 45, 91, 46, b, 46, 93, 93]
theorem itm_dot (s : List UInt8) (k : Nat) (hl : k + 4 < s.length) (h0 : byt s k = 91) (h1 : byt s (k + 1) = 46) (h3 : byt s (k + 3) = 46) (h4 : byt s (k + 4) = 93) :
    itm s k = ⟨oSpan (byt s (k + 2)) (byt s (k + 2)), true, k + 5, 0, 0⟩ := by
  unfold itm
  have ho : opens s k = true := by unfold opens; rw [h0, h1, decide_eq_true (show k + 1 < s.length by omega)]; rfl
  have hf : from1 s k = k + 3 := by unfold from1; rw [h1]; rfl
  rw [if_neg (by omega), if_pos ho, hf, h1, fnd_here s 46 (k + 3) (by omega) ⟨h3, h4⟩]
  simp only
  unfold boxed
  rw [h1, if_neg (by decide), if_pos rfl]
  rfl
theorem prs_rg (a b : UInt8) : prs (rgL a b) 0 = if b.toNat < a.toNat then (oz, 0, 1) else (oSpan a.toNat b.toNat, 12, 0) := by
  have h1 : itm (rgL a b) 0 = ⟨oSpan a.toNat a.toNat, true, 5, 0, 0⟩ := itm_dot (rgL a b) 0 (by decide : 0 + 4 < 12) rfl rfl rfl rfl
  have h2 : itm (rgL a b) 6 = ⟨oSpan b.toNat b.toNat, true, 11, 0, 0⟩ := itm_dot (rgL a b) 6 (by decide : 6 + 4 < 12) rfl rfl rfl rfl
  have he : elm (rgL a b) 0 = if a.toNat ≤ b.toNat then .ok (oSpan a.toNat b.toNat, 11) else .error (1, 0) := by
    unfold elm
    simp only [h1]
    rw [if_neg (by decide), if_pos ⟨(by decide : (5 + 1 < 12)), rfl, (by decide : 91 ≠ 93)⟩]
    simp only [h2]
    rw [if_neg (by decide), (lst_one a.toNat a.toNat_lt).2, (lst_one b.toNat b.toNat_lt).2]
    simp only [Bool.and_self, Bool.true_and, decide_eq_true_eq]
  by_cases hab : b.toNat < a.toNat
  · rw [if_pos hab]
    rw [if_neg (by omega)] at he
    exact prs_err (rgL a b) 0 (by decide : 0 ≤ 12) 1 0 (rst_err _ _ _ _ _ (by simp) he)
  · rw [if_neg hab]
    rw [if_pos (by omega)] at he
    have hr : rst (rgL a b) true 0 oz = .ok (oz ||| oSpan a.toNat b.toNat, 12) := by
      rw [rst_ok _ _ _ _ _ _ (by simp) he, rst, if_pos ⟨rfl, (by decide : 11 < 12), rfl⟩]
    have := prs_ok (rgL a b) 0 (by decide : 0 ≤ 12) _ 12 hr
    rw [show oz ||| oSpan (a.toNat : Int) b.toNat = oSpan a.toNat b.toNat by unfold oz; simp] at this
    exact this
theorem rg_str (a b : Int) : (({ data := #[91, 46] } : ByteArray) ++ strOfNums [a] ++ { data := #[46, 93, 45, 91, 46] } ++ strOfNums [b] ++ { data := #[46, 93, 93] }).data.toList = rgL (UInt8.ofNat a.toNat) (UInt8.ofNat b.toNat) := by
  simp [strOfNums, rgL, ByteArray.data_append]
set_option linter.unusedSimpArgs false in
set_option maxRecDepth 100000 in
set_option maxHeartbeats 2000000 in
theorem ranges_any (a : Int) (ha0 : 0 ≤ a) (ha1 : a ≤ 255) (b : Int) (hb0 : 0 ≤ b) (hb1 : b ≤ 255) (w : World) (hG : Gl w) :
    Calls Tryd.prog 7 #[.int .u8 a, .int .u8 b] w fun e w' => e = .returned (.bool true) ∧ Below w.heap.size w w' := by
  go_enter Tryd.func7, Tryd.ntmps7
  go_wp2_with fail
  refine (awake_any _ hG).mono ?_
  rintro e w1 ⟨rfl, hW⟩
  have kc := pconv1 w1 a
  have kc2 := pconv1 (w1.alloc (.cells #[.int .u8 a] 5)) b
  simp only [World.size_alloc] at kc2
  go_wp2_with fail
  have hL := rg_str a b
  generalize (({ data := #[91, 46] } : ByteArray) ++ strOfNums [a] ++ { data := #[46, 93, 45, 91, 46] } ++ strOfNums [b] ++ { data := #[46, 93, 93] }) = S at hL ⊢
  have hz : S.size = 12 := by rw [← plist_size, hL]; rfl
  have hn1 : (UInt8.ofNat a.toNat).toNat = a.toNat := by simp; omega
  have hn2 : (UInt8.ofNat b.toNat).toNat = b.toNat := by simp; omega
  have hG2 := (hG.up hW).up (((Below.refl w1.heap.size w1).alloc (Nat.le_refl _) (.cells #[.int .u8 a] 5)).alloc (by simp) (.cells #[.int .u8 b] 5))
  have hp := parse_any S 0 _ (by omega) hG2
  rw [hL, prs_rg, hn1, hn2, show ((a.toNat : Nat) : Int) = a by omega, show ((b.toNat : Nat) : Int) = b by omega] at hp
  have hW2 := (hW.alloc hW.size (.cells #[.int .u8 a] 5)).alloc (Nat.le_trans hW.size (by simp)) (.cells #[.int .u8 b] 5)
  clear kc kc2 hG2 hL hn1 hn2
  refine hp.mono ?_
  clear hp
  rintro e w2 ⟨rfl, b2⟩
  replace hW := hW2.trans (b2.mono hW2.size)
  clear b2 hW2
  have Hz := Lib.hid hz
  by_cases hab : b < a
  · rw [if_pos (by omega)]
    have e1 : decide (b < a) = true := decide_eq_true hab
    have hq := oset_eqz oz
    unfold prV
    go_wp2_with fail
    go_ret
    exact ⟨rfl, hW.alloc hW.size _⟩
  · rw [if_neg (by omega)]
    have e1 : decide (b < a) = false := decide_eq_false hab
    have hq := fun w => (oset_eql (oSpan a b) (oSpan a b) w).trans (by rw [decide_eq_true rfl])
    have hS := Blk.new w2 (oc (oSpan a b)) 25 _ rfl
    replace hW := hW.alloc hW.size (.cells (oc (oSpan a b)) 25)
    unfold prV
    go_wp2_with fail
    have hall := Hold2.all (w0 := w) (a := w2.heap.size) (b := w2.heap.size) (s := oSpan a b) (t := oSpan a b) (T := 25) (U := 25) (w' := w2.alloc (.cells (oc (oSpan a b)) 25)) ⟨hW, hS, hS⟩
    clear hS hW
    go_region_held3 (fun w' => (w'.cell? ⟨w2.heap.size, 0, none⟩ = some (.int .u64 (ow (oSpan a b) 0)) ∧ w'.cell? ⟨w2.heap.size, 1, none⟩ = some (.int .u64 (ow (oSpan a b) 1)) ∧ w'.cell? ⟨w2.heap.size, 2, none⟩ = some (.int .u64 (ow (oSpan a b) 2)) ∧ w'.cell? ⟨w2.heap.size, 3, none⟩ = some (.int .u64 (ow (oSpan a b) 3))) ∧ (w'.cell? ⟨w2.heap.size, 0, none⟩ = some (.int .u64 (ow (oSpan a b) 0)) ∧ w'.cell? ⟨w2.heap.size, 1, none⟩ = some (.int .u64 (ow (oSpan a b) 1)) ∧ w'.cell? ⟨w2.heap.size, 2, none⟩ = some (.int .u64 (ow (oSpan a b) 2)) ∧ w'.cell? ⟨w2.heap.size, 3, none⟩ = some (.int .u64 (ow (oSpan a b) 3))) ∧ Hold2 w w2.heap.size w2.heap.size (oSpan a b) (oSpan a b) 25 25 w')
      (first | exact hall | exact readH2_step hbX (by assumption) | exact readH2_drew (by assumption))
      (first | (go_at_call 14; refine (span_any a b _ ha0 ha1 hb0 hb1).mono ?_; rintro e w' ⟨rfl, hbX⟩))
    go_wp2_with fail
    go_ret
    go_split_ands
    exact ⟨rfl, Hold2.below (by assumption)⟩
end Go.Proofs.YtehikndlcepkgaaDoor
