/- The proof's texts RfI: what the claim reaches of them. -/
import Derived.Test.YtkejeiopfblkgaaGreatDoorBp07
namespace Go.Proofs.YtkejeiopfblkgaaGreatDoor
open Go Go.RowKit
def rivAns (r : Option (Int × Int × Nat)) : Ending := match r with
 | some q => .returned (.tuple #[.int .i64 q.1, .int .i64 q.2.1, .int .i64 (q.2.2 : Int), .bool true])
 | none => .returned (.tuple #[.int .i64 0, .int .i64 0, .int .i64 0, .bool false])
theorem rivans_some {r : Option (Int × Int × Nat)} {a b : Int} {j : Nat} (h : r = some (a, b, j)) : Ending.returned (.tuple #[.int .i64 a, .int .i64 b, .int .i64 (j : Int), .bool true]) = rivAns r := by subst h; rfl
theorem rivans_none {r : Option (Int × Int × Nat)} (h : r = none) : Ending.returned (.tuple #[.int .i64 0, .int .i64 0, .int .i64 0, .bool false]) = rivAns r := by subst h; rfl
def ivEnd (ere : Bool) (s : List UInt8) (m : Nat) (n : Int) (a : Nat) : Option (Int × Int × Nat) :=
 if opAt ere s a 125 && !(decide (0 ≤ n) && decide (n < (m : Int))) then some ((m : Int), n, a + opLen ere) else none
theorem ba_ext {s t : ByteArray} (h : s.data.toList = t.data.toList) : s = t := by
 cases s with
 | mk a => cases t with
  | mk b => congr 1; exact Array.toList_inj.1 h
theorem opL_ba {t : ByteArray} {ere : Bool} (h : t.data.toList = opL ere 125) : t = if ere then ⟨#[125]⟩ else ⟨#[92, 125]⟩ := by
 apply ba_ext
 rw [h]
 cases ere <;> rfl
theorem rf_res4 {fn : Func} {t u v x : Tmp} (h : fn.results = #[.tmp t, .tmp u, .tmp v, .tmp x]) (tmps : Array Value) (P : Program) (w : World) :
  (results fn tmps).run P w = .ok (.tuple #[tmps.getD t undef, tmps.getD u undef, tmps.getD v undef, tmps.getD x undef]) w := by
 simp [results, h]
theorem ext_one_eq (s : ByteArray) (a b : Nat) (c : UInt8) (hb : b = a + 1) (h : a < s.size) : ((s.extract a b).toList = [c]) ↔ chAt s.data.toList a c.toNat = true := by
 have hl : a < s.data.toList.length := by simpa using h
 rw [ByteArray.toList_eq, ext_take, hb, take_one _ _ hl]
 unfold chAt byt
 rw [decide_eq_true hl]
 simp [UInt8.toNat_inj]
theorem ext_two_eq (s : ByteArray) (a b : Nat) (c : UInt8) (hb : b = a + 2) (h : a + 1 < s.size) : ((s.extract a b).toList = [92, c]) ↔ esAt s.data.toList a c.toNat = true := by
 have hl : a + 1 < s.data.toList.length := by simpa using h
 rw [ByteArray.toList_eq, ext_take, hb, take_two _ _ hl]
 unfold esAt byt
 rw [decide_eq_true hl]
 simp [← UInt8.toNat_inj]
set_option linter.unusedSimpArgs false in
set_option maxRecDepth 100000 in
set_option maxHeartbeats 4000000 in
theorem riv_plain (s : ByteArray) (ere : Bool) (at' op : Nat) (cv mv : Value) (er pl : Int) (k : Nat) (w : World) (hk : k ≤ 260) (hc : ∃ a l c, cv = .slice a l c) (hm : ∃ a l c, mv = .slice a l c) (m j : Nat) (hn : numAt s.data.toList k = (m, j)) (hj : j ≠ 0) (hj3 : j ≤ 3) (h44 : chAt s.data.toList (k + j) 44 = false) :
  Calls Tryz.prog 95 #[.agg (rfC s ere at' op cv mv er pl), .int .i64 (k : Int)] w fun e w' => e = rivAns (ivEnd ere s.data.toList m (m : Int) (k + j)) ∧ Below w.heap.size w w' := by
 obtain ⟨ca, cl, cc, rfl⟩ := hc
 obtain ⟨ma, ml, mc, rfl⟩ := hm
 have hsl : s.data.toList.length = s.size := by simp
 have hnum := fun w => rnumber_any s k w hk
 rw [hn] at hnum
 simp only at hnum
 have e0 : ((j : Int) == 0) = false := by rw [beq_eq_false_iff_ne]; omega
 obtain ⟨a, ha⟩ : ∃ a, a = k + j := ⟨_, rfl⟩
 have Wa : IntKind.i64.wrap ((k : Int) + (j : Int)) = (a : Int) := by rw [IntWalk.i64_in _ (by omega)]; omega
 rw [← ha] at h44 ⊢
 have HR := Lib.hid (fun w => rop_any s ere at' op (.slice ca cl cc) (.slice ma ml mc) er pl 125 w)
 have hb := (Below.refl w.heap.size w).alloc (Nat.le_refl _) (.cells (rfC s ere at' op (.slice ca cl cc) (.slice ma ml mc) er pl) 87)
 have HB := Lib.hid hb
 have f1 : decide ((0 : Int) ≤ (m : Int)) = true := by simp
 have f2 : decide ((m : Int) < (m : Int)) = false := by simp
 have HG : Hid ((!(decide ((0 : Int) ≤ (m : Int)) && decide ((m : Int) < (m : Int)))) = true) := Lib.hid (by rw [f1, f2]; rfl)
 have ha260 : a ≤ 263 := by omega
 clear hb hn ha
 by_cases hlt : a < s.size
 ·have c1 : decide ((a : Int) < (s.size : Int)) = true := by simp; omega
  have c1' : decide (a < s.size) = true := decide_eq_true hlt
  have i1 : (a : Int) < (s.size : Int) := by omega
  have hb0 := pbyt_at s a hlt
  have e44 : ((s[a].toNat : Int) == 44) = false := by
   rw [← hb0, beq_eq_false_iff_ne]
   intro h
   have : chAt s.data.toList a 44 = true := by unfold chAt; rw [decide_eq_true (by omega), decide_eq_true (by omega)]; rfl
   rw [h44] at this
   cases this
  clear h44 hb0
  go_enter Tryz.func95, Tryz.ntmps95
  go_wp2_with fail
  refine (hnum _).mono ?_
  rintro e w2 ⟨rfl, rfl⟩
  clear hnum
  go_wp2_with fail
  refine (HR.out _).mono ?_
  rintro e w3 ⟨t, rfl, ht, b3⟩
  have ht := opL_ba ht
  subst ht
  have hK := ((Blk.new w (rfC s ere at' op (.slice ca cl cc) (.slice ma ml mc) er pl) 87 w.heap.size rfl).below b3 (by simp))
  have q0 : w3.cell? ⟨w.heap.size, 0, none⟩ = some (.string s) := (hK.cell 0).trans rfl
  have HB3 := Lib.hid (HB.out.trans (b3.mono (by simp)))
  clear b3 hK ht HB HR
  cases ere with
  | true =>
   obtain ⟨a2, ha2⟩ : ∃ a2, a2 = a + 1 := ⟨_, rfl⟩
   have W2 : IntKind.i64.wrap ((a : Int) + 1) = (a2 : Int) := by rw [IntWalk.i64_in _ (by omega)]; omega
   by_cases hov : s.size < a2
   ·have d1 : decide ((s.size : Int) < (a2 : Int)) = true := by simp; omega
    have d1' : decide (s.size < a2) = true := decide_eq_true hov
    have HF := Lib.hid (show ivEnd true s.data.toList m ((m : Int)) a = none by
     unfold ivEnd
     cases ho : opAt true s.data.toList a 125 with
     | false => rfl
     | true =>
      have h9 : a + 1 ≤ s.data.toList.length := op_len ho
      omega)
    clear ha2 hov hsl
    go_wp2_with fail
    (try simp only [Exit.inBlock, Exit.then]); refine bodyPost_ret (rf_res4 rfl _ _ _) rfl ?_
    exact ⟨rivans_none HF.out, HB3.out⟩
   ·have d1 : decide ((s.size : Int) < (a2 : Int)) = false := by simp; omega
    have d1' : decide (s.size < a2) = false := decide_eq_false hov
    have j1 : (a : Int) ≤ (a2 : Int) := by omega
    have j2 : a ≤ a2 := by omega
    have j3 : (a2 : Int) ≤ (s.size : Int) := by omega
    have j4 : a2 ≤ s.size := by omega
    have hiff := ext_one_eq s a a2 125 ha2 (by omega)
    have HA2 := Lib.hid ha2
    by_cases hE : (s.extract a a2).toList = [125]
    ·have ho : opAt true s.data.toList a 125 = true := hiff.1 hE
     have HO := Lib.hid ho
     clear ha2 hov hsl hiff ho
     have HF := Lib.hid (show ivEnd true s.data.toList m ((m : Int)) a = some ((m : Int), ((m : Int)), a2) by unfold ivEnd; rw [HO.out, HG.out, HA2.out]; rfl)
     go_wp2_with fail
     (try simp only [Exit.inBlock, Exit.then]); refine bodyPost_ret (rf_res4 rfl _ _ _) rfl ?_
     exact ⟨rivans_some HF.out, HB3.out⟩
    ·have ho : opAt true s.data.toList a 125 = false := by
      cases h9 : opAt true s.data.toList a 125 with
      | false => rfl
      | true => exact absurd (hiff.2 h9) hE
     have HF := Lib.hid (show ivEnd true s.data.toList m ((m : Int)) a = none by unfold ivEnd; rw [ho]; rfl)
     clear ha2 hov hsl hiff ho
     go_wp2_with fail
     (try simp only [Exit.inBlock, Exit.then]); refine bodyPost_ret (rf_res4 rfl _ _ _) rfl ?_
     exact ⟨rivans_none HF.out, HB3.out⟩
  | false =>
   obtain ⟨a2, ha2⟩ : ∃ a2, a2 = a + 2 := ⟨_, rfl⟩
   have W2 : IntKind.i64.wrap ((a : Int) + 2) = (a2 : Int) := by rw [IntWalk.i64_in _ (by omega)]; omega
   by_cases hov : s.size < a2
   ·have d1 : decide ((s.size : Int) < (a2 : Int)) = true := by simp; omega
    have d1' : decide (s.size < a2) = true := decide_eq_true hov
    have HF := Lib.hid (show ivEnd false s.data.toList m ((m : Int)) a = none by
     unfold ivEnd
     cases ho : opAt false s.data.toList a 125 with
     | false => rfl
     | true =>
      have h9 : a + 2 ≤ s.data.toList.length := op_len ho
      omega)
    clear ha2 hov hsl
    go_wp2_with fail
    (try simp only [Exit.inBlock, Exit.then]); refine bodyPost_ret (rf_res4 rfl _ _ _) rfl ?_
    exact ⟨rivans_none HF.out, HB3.out⟩
   ·have d1 : decide ((s.size : Int) < (a2 : Int)) = false := by simp; omega
    have d1' : decide (s.size < a2) = false := decide_eq_false hov
    have j1 : (a : Int) ≤ (a2 : Int) := by omega
    have j2 : a ≤ a2 := by omega
    have j3 : (a2 : Int) ≤ (s.size : Int) := by omega
    have j4 : a2 ≤ s.size := by omega
    have hiff := ext_two_eq s a a2 125 ha2 (by omega)
    have HA2 := Lib.hid ha2
    by_cases hE : (s.extract a a2).toList = [92, 125]
    ·have ho : opAt false s.data.toList a 125 = true := hiff.1 hE
     have HO := Lib.hid ho
     clear ha2 hov hsl hiff ho
     have HF := Lib.hid (show ivEnd false s.data.toList m ((m : Int)) a = some ((m : Int), ((m : Int)), a2) by unfold ivEnd; rw [HO.out, HG.out, HA2.out]; rfl)
     go_wp2_with fail
     (try simp only [Exit.inBlock, Exit.then]); refine bodyPost_ret (rf_res4 rfl _ _ _) rfl ?_
     exact ⟨rivans_some HF.out, HB3.out⟩
    ·have ho : opAt false s.data.toList a 125 = false := by
      cases h9 : opAt false s.data.toList a 125 with
      | false => rfl
      | true => exact absurd (hiff.2 h9) hE
     have HF := Lib.hid (show ivEnd false s.data.toList m ((m : Int)) a = none by unfold ivEnd; rw [ho]; rfl)
     clear ha2 hov hsl hiff ho
     go_wp2_with fail
     (try simp only [Exit.inBlock, Exit.then]); refine bodyPost_ret (rf_res4 rfl _ _ _) rfl ?_
     exact ⟨rivans_none HF.out, HB3.out⟩
 ·have c1 : decide ((a : Int) < (s.size : Int)) = false := by simp; omega
  have c1' : decide (a < s.size) = false := decide_eq_false hlt
  clear h44
  go_enter Tryz.func95, Tryz.ntmps95
  go_wp2_with fail
  refine (hnum _).mono ?_
  rintro e w2 ⟨rfl, rfl⟩
  clear hnum
  go_wp2_with fail
  refine (HR.out _).mono ?_
  rintro e w3 ⟨t, rfl, ht, b3⟩
  have ht := opL_ba ht
  subst ht
  have hK := ((Blk.new w (rfC s ere at' op (.slice ca cl cc) (.slice ma ml mc) er pl) 87 w.heap.size rfl).below b3 (by simp))
  have q0 : w3.cell? ⟨w.heap.size, 0, none⟩ = some (.string s) := (hK.cell 0).trans rfl
  have HB3 := Lib.hid (HB.out.trans (b3.mono (by simp)))
  clear b3 hK ht HB HR
  cases ere with
  | true =>
   obtain ⟨a2, ha2⟩ : ∃ a2, a2 = a + 1 := ⟨_, rfl⟩
   have W2 : IntKind.i64.wrap ((a : Int) + 1) = (a2 : Int) := by rw [IntWalk.i64_in _ (by omega)]; omega
   by_cases hov : s.size < a2
   ·have d1 : decide ((s.size : Int) < (a2 : Int)) = true := by simp; omega
    have d1' : decide (s.size < a2) = true := decide_eq_true hov
    have HF := Lib.hid (show ivEnd true s.data.toList m ((m : Int)) a = none by
     unfold ivEnd
     cases ho : opAt true s.data.toList a 125 with
     | false => rfl
     | true =>
      have h9 : a + 1 ≤ s.data.toList.length := op_len ho
      omega)
    clear ha2 hov hsl
    go_wp2_with fail
    (try simp only [Exit.inBlock, Exit.then]); refine bodyPost_ret (rf_res4 rfl _ _ _) rfl ?_
    exact ⟨rivans_none HF.out, HB3.out⟩
   ·have d1 : decide ((s.size : Int) < (a2 : Int)) = false := by simp; omega
    have d1' : decide (s.size < a2) = false := decide_eq_false hov
    have j1 : (a : Int) ≤ (a2 : Int) := by omega
    have j2 : a ≤ a2 := by omega
    have j3 : (a2 : Int) ≤ (s.size : Int) := by omega
    have j4 : a2 ≤ s.size := by omega
    have hiff := ext_one_eq s a a2 125 ha2 (by omega)
    have HA2 := Lib.hid ha2
    by_cases hE : (s.extract a a2).toList = [125]
    ·have ho : opAt true s.data.toList a 125 = true := hiff.1 hE
     have HO := Lib.hid ho
     clear ha2 hov hsl hiff ho
     have HF := Lib.hid (show ivEnd true s.data.toList m ((m : Int)) a = some ((m : Int), ((m : Int)), a2) by unfold ivEnd; rw [HO.out, HG.out, HA2.out]; rfl)
     go_wp2_with fail
     (try simp only [Exit.inBlock, Exit.then]); refine bodyPost_ret (rf_res4 rfl _ _ _) rfl ?_
     exact ⟨rivans_some HF.out, HB3.out⟩
    ·have ho : opAt true s.data.toList a 125 = false := by
      cases h9 : opAt true s.data.toList a 125 with
      | false => rfl
      | true => exact absurd (hiff.2 h9) hE
     have HF := Lib.hid (show ivEnd true s.data.toList m ((m : Int)) a = none by unfold ivEnd; rw [ho]; rfl)
     clear ha2 hov hsl hiff ho
     go_wp2_with fail
     (try simp only [Exit.inBlock, Exit.then]); refine bodyPost_ret (rf_res4 rfl _ _ _) rfl ?_
     exact ⟨rivans_none HF.out, HB3.out⟩
  | false =>
   obtain ⟨a2, ha2⟩ : ∃ a2, a2 = a + 2 := ⟨_, rfl⟩
   have W2 : IntKind.i64.wrap ((a : Int) + 2) = (a2 : Int) := by rw [IntWalk.i64_in _ (by omega)]; omega
   by_cases hov : s.size < a2
   ·have d1 : decide ((s.size : Int) < (a2 : Int)) = true := by simp; omega
    have d1' : decide (s.size < a2) = true := decide_eq_true hov
    have HF := Lib.hid (show ivEnd false s.data.toList m ((m : Int)) a = none by
     unfold ivEnd
     cases ho : opAt false s.data.toList a 125 with
     | false => rfl
     | true =>
      have h9 : a + 2 ≤ s.data.toList.length := op_len ho
      omega)
    clear ha2 hov hsl
    go_wp2_with fail
    (try simp only [Exit.inBlock, Exit.then]); refine bodyPost_ret (rf_res4 rfl _ _ _) rfl ?_
    exact ⟨rivans_none HF.out, HB3.out⟩
   ·have d1 : decide ((s.size : Int) < (a2 : Int)) = false := by simp; omega
    have d1' : decide (s.size < a2) = false := decide_eq_false hov
    have j1 : (a : Int) ≤ (a2 : Int) := by omega
    have j2 : a ≤ a2 := by omega
    have j3 : (a2 : Int) ≤ (s.size : Int) := by omega
    have j4 : a2 ≤ s.size := by omega
    have hiff := ext_two_eq s a a2 125 ha2 (by omega)
    have HA2 := Lib.hid ha2
    by_cases hE : (s.extract a a2).toList = [92, 125]
    ·have ho : opAt false s.data.toList a 125 = true := hiff.1 hE
     have HO := Lib.hid ho
     clear ha2 hov hsl hiff ho
     have HF := Lib.hid (show ivEnd false s.data.toList m ((m : Int)) a = some ((m : Int), ((m : Int)), a2) by unfold ivEnd; rw [HO.out, HG.out, HA2.out]; rfl)
     go_wp2_with fail
     (try simp only [Exit.inBlock, Exit.then]); refine bodyPost_ret (rf_res4 rfl _ _ _) rfl ?_
     exact ⟨rivans_some HF.out, HB3.out⟩
    ·have ho : opAt false s.data.toList a 125 = false := by
      cases h9 : opAt false s.data.toList a 125 with
      | false => rfl
      | true => exact absurd (hiff.2 h9) hE
     have HF := Lib.hid (show ivEnd false s.data.toList m ((m : Int)) a = none by unfold ivEnd; rw [ho]; rfl)
     clear ha2 hov hsl hiff ho
     go_wp2_with fail
     (try simp only [Exit.inBlock, Exit.then]); refine bodyPost_ret (rf_res4 rfl _ _ _) rfl ?_
     exact ⟨rivans_none HF.out, HB3.out⟩
set_option linter.unusedSimpArgs false in
set_option maxRecDepth 100000 in
set_option maxHeartbeats 4000000 in
theorem riv_open (s : ByteArray) (ere : Bool) (at' op : Nat) (cv mv : Value) (er pl : Int) (k : Nat) (w : World) (hs : s.size ≤ 250) (hk : k ≤ 255) (hc : ∃ a l c, cv = .slice a l c) (hm : ∃ a l c, mv = .slice a l c) (m j : Nat) (hn : numAt s.data.toList k = (m, j)) (hj : j ≠ 0) (hj3 : j ≤ 3) (h44 : chAt s.data.toList (k + j) 44 = true) (x : Nat) (h0 : numAt s.data.toList (k + j + 1) = (x, 0)) :
  Calls Tryz.prog 95 #[.agg (rfC s ere at' op cv mv er pl), .int .i64 (k : Int)] w fun e w' => e = rivAns (ivEnd ere s.data.toList m (-1) (k + j + 1)) ∧ Below w.heap.size w w' := by
 obtain ⟨ca, cl, cc, rfl⟩ := hc
 obtain ⟨ma, ml, mc, rfl⟩ := hm
 have hsl : s.data.toList.length = s.size := by simp
 have hnum := fun w => rnumber_any s k w (by omega)
 rw [hn] at hnum
 simp only at hnum
 have e0 : ((j : Int) == 0) = false := by rw [beq_eq_false_iff_ne]; omega
 have hlt0 := (ch_byt h44).1
 have h440 := (ch_byt h44).2
 have hnum2 := fun w => rnumber_any s (k + j + 1) w (by omega)
 rw [h0] at hnum2
 simp only at hnum2
 obtain ⟨a0, ha0⟩ : ∃ a, a = k + j := ⟨_, rfl⟩
 obtain ⟨a1, ha1⟩ : ∃ a, a = k + j + 1 := ⟨_, rfl⟩
 have Wa0 : IntKind.i64.wrap ((k : Int) + (j : Int)) = (a0 : Int) := by rw [IntWalk.i64_in _ (by omega)]; omega
 have Wa1 : IntKind.i64.wrap ((a0 : Int) + 1) = (a1 : Int) := by rw [IntWalk.i64_in _ (by omega)]; omega
 obtain ⟨a, ha⟩ : ∃ a, a = a1 := ⟨_, rfl⟩
 rw [← ha] at ha1 Wa1
 rw [← ha1]
 rw [← ha1] at hnum2
 rw [← ha0] at hlt0 h440
 have hlt : a0 < s.size := by omega
 have c1 : decide ((a0 : Int) < (s.size : Int)) = true := by simp; omega
 have c1' : decide (a0 < s.size) = true := decide_eq_true hlt
 have i1 : (a0 : Int) < (s.size : Int) := by omega
 have hb0 := pbyt_at s a0 hlt
 have e44 : ((s[a0].toNat : Int) == 44) = true := by rw [← hb0, h440]; rfl
 have HR := Lib.hid (fun w => rop_any s ere at' op (.slice ca cl cc) (.slice ma ml mc) er pl 125 w)
 have hb := (Below.refl w.heap.size w).alloc (Nat.le_refl _) (.cells (rfC s ere at' op (.slice ca cl cc) (.slice ma ml mc) er pl) 87)
 have HB := Lib.hid hb
 have ha260 : a ≤ 263 := by omega
 clear hb hn ha0 ha1 ha hlt0 h440 h44 hb0 hs
 obtain ⟨HG, _⟩ : Hid ((!(decide ((0 : Int) ≤ (-1 : Int)) && decide ((-1 : Int) < (m : Int)))) = true) ∧ True := ⟨Lib.hid (by simp), trivial⟩
 go_enter Tryz.func95, Tryz.ntmps95
 go_wp2_with fail
 refine (hnum _).mono ?_
 rintro e w2 ⟨rfl, rfl⟩
 clear hnum
 go_wp2_with fail
 refine (hnum2 _).mono ?_
 rintro e w2 ⟨rfl, rfl⟩
 clear hnum2
 go_wp2_with fail
 refine (HR.out _).mono ?_
 rintro e w3 ⟨t, rfl, ht, b3⟩
 have ht := opL_ba ht
 subst ht
 have hK := ((Blk.new w (rfC s ere at' op (.slice ca cl cc) (.slice ma ml mc) er pl) 87 w.heap.size rfl).below b3 (by simp))
 have q0 : w3.cell? ⟨w.heap.size, 0, none⟩ = some (.string s) := (hK.cell 0).trans rfl
 have HB3 := Lib.hid (HB.out.trans (b3.mono (by simp)))
 clear b3 hK ht HB HR
 cases ere with
 | true =>
  obtain ⟨a2, ha2⟩ : ∃ a2, a2 = a + 1 := ⟨_, rfl⟩
  have W2 : IntKind.i64.wrap ((a : Int) + 1) = (a2 : Int) := by rw [IntWalk.i64_in _ (by omega)]; omega
  by_cases hov : s.size < a2
  ·have d1 : decide ((s.size : Int) < (a2 : Int)) = true := by simp; omega
   have d1' : decide (s.size < a2) = true := decide_eq_true hov
   have HF := Lib.hid (show ivEnd true s.data.toList m (-1) a = none by
    unfold ivEnd
    cases ho : opAt true s.data.toList a 125 with
    | false => rfl
    | true =>
     have h9 : a + 1 ≤ s.data.toList.length := op_len ho
     omega)
   clear ha2 hov hsl
   go_wp2_with fail
   (try simp only [Exit.inBlock, Exit.then]); refine bodyPost_ret (rf_res4 rfl _ _ _) rfl ?_
   exact ⟨rivans_none HF.out, HB3.out⟩
  ·have d1 : decide ((s.size : Int) < (a2 : Int)) = false := by simp; omega
   have d1' : decide (s.size < a2) = false := decide_eq_false hov
   have j1 : (a : Int) ≤ (a2 : Int) := by omega
   have j2 : a ≤ a2 := by omega
   have j3 : (a2 : Int) ≤ (s.size : Int) := by omega
   have j4 : a2 ≤ s.size := by omega
   have hiff := ext_one_eq s a a2 125 ha2 (by omega)
   have HA2 := Lib.hid ha2
   by_cases hE : (s.extract a a2).toList = [125]
   ·have ho : opAt true s.data.toList a 125 = true := hiff.1 hE
    have HO := Lib.hid ho
    clear ha2 hov hsl hiff ho
    have HF := Lib.hid (show ivEnd true s.data.toList m (-1) a = some ((m : Int), (-1), a2) by unfold ivEnd; rw [HO.out, HG.out, HA2.out]; rfl)
    go_wp2_with fail
    (try simp only [Exit.inBlock, Exit.then]); refine bodyPost_ret (rf_res4 rfl _ _ _) rfl ?_
    exact ⟨rivans_some HF.out, HB3.out⟩
   ·have ho : opAt true s.data.toList a 125 = false := by
     cases h9 : opAt true s.data.toList a 125 with
     | false => rfl
     | true => exact absurd (hiff.2 h9) hE
    have HF := Lib.hid (show ivEnd true s.data.toList m (-1) a = none by unfold ivEnd; rw [ho]; rfl)
    clear ha2 hov hsl hiff ho
    go_wp2_with fail
    (try simp only [Exit.inBlock, Exit.then]); refine bodyPost_ret (rf_res4 rfl _ _ _) rfl ?_
    exact ⟨rivans_none HF.out, HB3.out⟩
 | false =>
  obtain ⟨a2, ha2⟩ : ∃ a2, a2 = a + 2 := ⟨_, rfl⟩
  have W2 : IntKind.i64.wrap ((a : Int) + 2) = (a2 : Int) := by rw [IntWalk.i64_in _ (by omega)]; omega
  by_cases hov : s.size < a2
  ·have d1 : decide ((s.size : Int) < (a2 : Int)) = true := by simp; omega
   have d1' : decide (s.size < a2) = true := decide_eq_true hov
   have HF := Lib.hid (show ivEnd false s.data.toList m (-1) a = none by
    unfold ivEnd
    cases ho : opAt false s.data.toList a 125 with
    | false => rfl
    | true =>
     have h9 : a + 2 ≤ s.data.toList.length := op_len ho
     omega)
   clear ha2 hov hsl
   go_wp2_with fail
   (try simp only [Exit.inBlock, Exit.then]); refine bodyPost_ret (rf_res4 rfl _ _ _) rfl ?_
   exact ⟨rivans_none HF.out, HB3.out⟩
  ·have d1 : decide ((s.size : Int) < (a2 : Int)) = false := by simp; omega
   have d1' : decide (s.size < a2) = false := decide_eq_false hov
   have j1 : (a : Int) ≤ (a2 : Int) := by omega
   have j2 : a ≤ a2 := by omega
   have j3 : (a2 : Int) ≤ (s.size : Int) := by omega
   have j4 : a2 ≤ s.size := by omega
   have hiff := ext_two_eq s a a2 125 ha2 (by omega)
   have HA2 := Lib.hid ha2
   by_cases hE : (s.extract a a2).toList = [92, 125]
   ·have ho : opAt false s.data.toList a 125 = true := hiff.1 hE
    have HO := Lib.hid ho
    clear ha2 hov hsl hiff ho
    have HF := Lib.hid (show ivEnd false s.data.toList m (-1) a = some ((m : Int), (-1), a2) by unfold ivEnd; rw [HO.out, HG.out, HA2.out]; rfl)
    go_wp2_with fail
    (try simp only [Exit.inBlock, Exit.then]); refine bodyPost_ret (rf_res4 rfl _ _ _) rfl ?_
    exact ⟨rivans_some HF.out, HB3.out⟩
   ·have ho : opAt false s.data.toList a 125 = false := by
     cases h9 : opAt false s.data.toList a 125 with
     | false => rfl
     | true => exact absurd (hiff.2 h9) hE
    have HF := Lib.hid (show ivEnd false s.data.toList m (-1) a = none by unfold ivEnd; rw [ho]; rfl)
    clear ha2 hov hsl hiff ho
    go_wp2_with fail
    (try simp only [Exit.inBlock, Exit.then]); refine bodyPost_ret (rf_res4 rfl _ _ _) rfl ?_
    exact ⟨rivans_none HF.out, HB3.out⟩
set_option linter.unusedSimpArgs false in
set_option maxRecDepth 100000 in
set_option maxHeartbeats 4000000 in
theorem riv_two (s : ByteArray) (ere : Bool) (at' op : Nat) (cv mv : Value) (er pl : Int) (k : Nat) (w : World) (hs : s.size ≤ 250) (hk : k ≤ 255) (hc : ∃ a l c, cv = .slice a l c) (hm : ∃ a l c, mv = .slice a l c) (m j : Nat) (hn : numAt s.data.toList k = (m, j)) (hj : j ≠ 0) (hj3 : j ≤ 3) (h44 : chAt s.data.toList (k + j) 44 = true) (x y : Nat) (h0 : numAt s.data.toList (k + j + 1) = (x, y)) (hy : y ≠ 0) (hy3 : y ≤ 3) :
  Calls Tryz.prog 95 #[.agg (rfC s ere at' op cv mv er pl), .int .i64 (k : Int)] w fun e w' => e = rivAns (ivEnd ere s.data.toList m ((x : Int)) (k + j + 1 + y)) ∧ Below w.heap.size w w' := by
 obtain ⟨ca, cl, cc, rfl⟩ := hc
 obtain ⟨ma, ml, mc, rfl⟩ := hm
 have hsl : s.data.toList.length = s.size := by simp
 have hnum := fun w => rnumber_any s k w (by omega)
 rw [hn] at hnum
 simp only at hnum
 have e0 : ((j : Int) == 0) = false := by rw [beq_eq_false_iff_ne]; omega
 have hlt0 := (ch_byt h44).1
 have h440 := (ch_byt h44).2
 have hnum2 := fun w => rnumber_any s (k + j + 1) w (by omega)
 rw [h0] at hnum2
 simp only at hnum2
 obtain ⟨a0, ha0⟩ : ∃ a, a = k + j := ⟨_, rfl⟩
 obtain ⟨a1, ha1⟩ : ∃ a, a = k + j + 1 := ⟨_, rfl⟩
 have Wa0 : IntKind.i64.wrap ((k : Int) + (j : Int)) = (a0 : Int) := by rw [IntWalk.i64_in _ (by omega)]; omega
 have Wa1 : IntKind.i64.wrap ((a0 : Int) + 1) = (a1 : Int) := by rw [IntWalk.i64_in _ (by omega)]; omega
 obtain ⟨a, ha⟩ : ∃ a, a = a1 + y := ⟨_, rfl⟩
 have Wa : IntKind.i64.wrap ((a1 : Int) + (y : Int)) = (a : Int) := by rw [IntWalk.i64_in _ (by omega)]; omega
 have y0 : decide ((0 : Int) < (y : Int)) = true := by simp; omega
 have y0' : decide (0 < y) = true := by simp; omega
 rw [← ha1, ← ha]
 rw [← ha1] at hnum2
 rw [← ha0] at hlt0 h440
 have hlt : a0 < s.size := by omega
 have c1 : decide ((a0 : Int) < (s.size : Int)) = true := by simp; omega
 have c1' : decide (a0 < s.size) = true := decide_eq_true hlt
 have i1 : (a0 : Int) < (s.size : Int) := by omega
 have hb0 := pbyt_at s a0 hlt
 have e44 : ((s[a0].toNat : Int) == 44) = true := by rw [← hb0, h440]; rfl
 have HR := Lib.hid (fun w => rop_any s ere at' op (.slice ca cl cc) (.slice ma ml mc) er pl 125 w)
 have hb := (Below.refl w.heap.size w).alloc (Nat.le_refl _) (.cells (rfC s ere at' op (.slice ca cl cc) (.slice ma ml mc) er pl) 87)
 have HB := Lib.hid hb
 have ha260 : a ≤ 263 := by omega
 clear hb hn ha0 ha1 ha hlt0 h440 h44 hb0 hs
 have f1 : decide ((0 : Int) ≤ (x : Int)) = true := by simp
 by_cases hx : x < m
 ·have f2 : decide ((x : Int) < (m : Int)) = true := by simp; omega
  have f2' : decide (x < m) = true := decide_eq_true hx
  have HG : Hid ((!(decide ((0 : Int) ≤ (x : Int)) && decide ((x : Int) < (m : Int)))) = false) := Lib.hid (by rw [f1, f2]; rfl)
  clear hx
  go_enter Tryz.func95, Tryz.ntmps95
  go_wp2_with fail
  refine (hnum _).mono ?_
  rintro e w2 ⟨rfl, rfl⟩
  clear hnum
  go_wp2_with fail
  refine (hnum2 _).mono ?_
  rintro e w2 ⟨rfl, rfl⟩
  clear hnum2
  go_wp2_with fail
  refine (HR.out _).mono ?_
  rintro e w3 ⟨t, rfl, ht, b3⟩
  have ht := opL_ba ht
  subst ht
  have hK := ((Blk.new w (rfC s ere at' op (.slice ca cl cc) (.slice ma ml mc) er pl) 87 w.heap.size rfl).below b3 (by simp))
  have q0 : w3.cell? ⟨w.heap.size, 0, none⟩ = some (.string s) := (hK.cell 0).trans rfl
  have HB3 := Lib.hid (HB.out.trans (b3.mono (by simp)))
  clear b3 hK ht HB HR
  cases ere with
  | true =>
   obtain ⟨a2, ha2⟩ : ∃ a2, a2 = a + 1 := ⟨_, rfl⟩
   have W2 : IntKind.i64.wrap ((a : Int) + 1) = (a2 : Int) := by rw [IntWalk.i64_in _ (by omega)]; omega
   by_cases hov : s.size < a2
   ·have d1 : decide ((s.size : Int) < (a2 : Int)) = true := by simp; omega
    have d1' : decide (s.size < a2) = true := decide_eq_true hov
    have HF := Lib.hid (show ivEnd true s.data.toList m ((x : Int)) a = none by
     unfold ivEnd
     cases ho : opAt true s.data.toList a 125 with
     | false => rfl
     | true =>
      have h9 : a + 1 ≤ s.data.toList.length := op_len ho
      omega)
    clear ha2 hov hsl
    go_wp2_with fail
    (try simp only [Exit.inBlock, Exit.then]); refine bodyPost_ret (rf_res4 rfl _ _ _) rfl ?_
    exact ⟨rivans_none HF.out, HB3.out⟩
   ·have d1 : decide ((s.size : Int) < (a2 : Int)) = false := by simp; omega
    have d1' : decide (s.size < a2) = false := decide_eq_false hov
    have j1 : (a : Int) ≤ (a2 : Int) := by omega
    have j2 : a ≤ a2 := by omega
    have j3 : (a2 : Int) ≤ (s.size : Int) := by omega
    have j4 : a2 ≤ s.size := by omega
    have hiff := ext_one_eq s a a2 125 ha2 (by omega)
    have HA2 := Lib.hid ha2
    by_cases hE : (s.extract a a2).toList = [125]
    ·have ho : opAt true s.data.toList a 125 = true := hiff.1 hE
     have HO := Lib.hid ho
     clear ha2 hov hsl hiff ho
     have HF := Lib.hid (show ivEnd true s.data.toList m ((x : Int)) a = none by unfold ivEnd; rw [HO.out, HG.out]; rfl)
     go_wp2_with fail
     (try simp only [Exit.inBlock, Exit.then]); refine bodyPost_ret (rf_res4 rfl _ _ _) rfl ?_
     exact ⟨rivans_none HF.out, HB3.out⟩
    ·have ho : opAt true s.data.toList a 125 = false := by
      cases h9 : opAt true s.data.toList a 125 with
      | false => rfl
      | true => exact absurd (hiff.2 h9) hE
     have HF := Lib.hid (show ivEnd true s.data.toList m ((x : Int)) a = none by unfold ivEnd; rw [ho]; rfl)
     clear ha2 hov hsl hiff ho
     go_wp2_with fail
     (try simp only [Exit.inBlock, Exit.then]); refine bodyPost_ret (rf_res4 rfl _ _ _) rfl ?_
     exact ⟨rivans_none HF.out, HB3.out⟩
  | false =>
   obtain ⟨a2, ha2⟩ : ∃ a2, a2 = a + 2 := ⟨_, rfl⟩
   have W2 : IntKind.i64.wrap ((a : Int) + 2) = (a2 : Int) := by rw [IntWalk.i64_in _ (by omega)]; omega
   by_cases hov : s.size < a2
   ·have d1 : decide ((s.size : Int) < (a2 : Int)) = true := by simp; omega
    have d1' : decide (s.size < a2) = true := decide_eq_true hov
    have HF := Lib.hid (show ivEnd false s.data.toList m ((x : Int)) a = none by
     unfold ivEnd
     cases ho : opAt false s.data.toList a 125 with
     | false => rfl
     | true =>
      have h9 : a + 2 ≤ s.data.toList.length := op_len ho
      omega)
    clear ha2 hov hsl
    go_wp2_with fail
    (try simp only [Exit.inBlock, Exit.then]); refine bodyPost_ret (rf_res4 rfl _ _ _) rfl ?_
    exact ⟨rivans_none HF.out, HB3.out⟩
   ·have d1 : decide ((s.size : Int) < (a2 : Int)) = false := by simp; omega
    have d1' : decide (s.size < a2) = false := decide_eq_false hov
    have j1 : (a : Int) ≤ (a2 : Int) := by omega
    have j2 : a ≤ a2 := by omega
    have j3 : (a2 : Int) ≤ (s.size : Int) := by omega
    have j4 : a2 ≤ s.size := by omega
    have hiff := ext_two_eq s a a2 125 ha2 (by omega)
    have HA2 := Lib.hid ha2
    by_cases hE : (s.extract a a2).toList = [92, 125]
    ·have ho : opAt false s.data.toList a 125 = true := hiff.1 hE
     have HO := Lib.hid ho
     clear ha2 hov hsl hiff ho
     have HF := Lib.hid (show ivEnd false s.data.toList m ((x : Int)) a = none by unfold ivEnd; rw [HO.out, HG.out]; rfl)
     go_wp2_with fail
     (try simp only [Exit.inBlock, Exit.then]); refine bodyPost_ret (rf_res4 rfl _ _ _) rfl ?_
     exact ⟨rivans_none HF.out, HB3.out⟩
    ·have ho : opAt false s.data.toList a 125 = false := by
      cases h9 : opAt false s.data.toList a 125 with
      | false => rfl
      | true => exact absurd (hiff.2 h9) hE
     have HF := Lib.hid (show ivEnd false s.data.toList m ((x : Int)) a = none by unfold ivEnd; rw [ho]; rfl)
     clear ha2 hov hsl hiff ho
     go_wp2_with fail
     (try simp only [Exit.inBlock, Exit.then]); refine bodyPost_ret (rf_res4 rfl _ _ _) rfl ?_
     exact ⟨rivans_none HF.out, HB3.out⟩
 ·have f2 : decide ((x : Int) < (m : Int)) = false := by simp; omega
  have f2' : decide (x < m) = false := decide_eq_false hx
  have HG : Hid ((!(decide ((0 : Int) ≤ (x : Int)) && decide ((x : Int) < (m : Int)))) = true) := Lib.hid (by rw [f1, f2]; rfl)
  clear hx
  go_enter Tryz.func95, Tryz.ntmps95
  go_wp2_with fail
  refine (hnum _).mono ?_
  rintro e w2 ⟨rfl, rfl⟩
  clear hnum
  go_wp2_with fail
  refine (hnum2 _).mono ?_
  rintro e w2 ⟨rfl, rfl⟩
  clear hnum2
  go_wp2_with fail
  refine (HR.out _).mono ?_
  rintro e w3 ⟨t, rfl, ht, b3⟩
  have ht := opL_ba ht
  subst ht
  have hK := ((Blk.new w (rfC s ere at' op (.slice ca cl cc) (.slice ma ml mc) er pl) 87 w.heap.size rfl).below b3 (by simp))
  have q0 : w3.cell? ⟨w.heap.size, 0, none⟩ = some (.string s) := (hK.cell 0).trans rfl
  have HB3 := Lib.hid (HB.out.trans (b3.mono (by simp)))
  clear b3 hK ht HB HR
  cases ere with
  | true =>
   obtain ⟨a2, ha2⟩ : ∃ a2, a2 = a + 1 := ⟨_, rfl⟩
   have W2 : IntKind.i64.wrap ((a : Int) + 1) = (a2 : Int) := by rw [IntWalk.i64_in _ (by omega)]; omega
   by_cases hov : s.size < a2
   ·have d1 : decide ((s.size : Int) < (a2 : Int)) = true := by simp; omega
    have d1' : decide (s.size < a2) = true := decide_eq_true hov
    have HF := Lib.hid (show ivEnd true s.data.toList m ((x : Int)) a = none by
     unfold ivEnd
     cases ho : opAt true s.data.toList a 125 with
     | false => rfl
     | true =>
      have h9 : a + 1 ≤ s.data.toList.length := op_len ho
      omega)
    clear ha2 hov hsl
    go_wp2_with fail
    (try simp only [Exit.inBlock, Exit.then]); refine bodyPost_ret (rf_res4 rfl _ _ _) rfl ?_
    exact ⟨rivans_none HF.out, HB3.out⟩
   ·have d1 : decide ((s.size : Int) < (a2 : Int)) = false := by simp; omega
    have d1' : decide (s.size < a2) = false := decide_eq_false hov
    have j1 : (a : Int) ≤ (a2 : Int) := by omega
    have j2 : a ≤ a2 := by omega
    have j3 : (a2 : Int) ≤ (s.size : Int) := by omega
    have j4 : a2 ≤ s.size := by omega
    have hiff := ext_one_eq s a a2 125 ha2 (by omega)
    have HA2 := Lib.hid ha2
    by_cases hE : (s.extract a a2).toList = [125]
    ·have ho : opAt true s.data.toList a 125 = true := hiff.1 hE
     have HO := Lib.hid ho
     clear ha2 hov hsl hiff ho
     have HF := Lib.hid (show ivEnd true s.data.toList m ((x : Int)) a = some ((m : Int), ((x : Int)), a2) by unfold ivEnd; rw [HO.out, HG.out, HA2.out]; rfl)
     go_wp2_with fail
     (try simp only [Exit.inBlock, Exit.then]); refine bodyPost_ret (rf_res4 rfl _ _ _) rfl ?_
     exact ⟨rivans_some HF.out, HB3.out⟩
    ·have ho : opAt true s.data.toList a 125 = false := by
      cases h9 : opAt true s.data.toList a 125 with
      | false => rfl
      | true => exact absurd (hiff.2 h9) hE
     have HF := Lib.hid (show ivEnd true s.data.toList m ((x : Int)) a = none by unfold ivEnd; rw [ho]; rfl)
     clear ha2 hov hsl hiff ho
     go_wp2_with fail
     (try simp only [Exit.inBlock, Exit.then]); refine bodyPost_ret (rf_res4 rfl _ _ _) rfl ?_
     exact ⟨rivans_none HF.out, HB3.out⟩
  | false =>
   obtain ⟨a2, ha2⟩ : ∃ a2, a2 = a + 2 := ⟨_, rfl⟩
   have W2 : IntKind.i64.wrap ((a : Int) + 2) = (a2 : Int) := by rw [IntWalk.i64_in _ (by omega)]; omega
   by_cases hov : s.size < a2
   ·have d1 : decide ((s.size : Int) < (a2 : Int)) = true := by simp; omega
    have d1' : decide (s.size < a2) = true := decide_eq_true hov
    have HF := Lib.hid (show ivEnd false s.data.toList m ((x : Int)) a = none by
     unfold ivEnd
     cases ho : opAt false s.data.toList a 125 with
     | false => rfl
     | true =>
      have h9 : a + 2 ≤ s.data.toList.length := op_len ho
      omega)
    clear ha2 hov hsl
    go_wp2_with fail
    (try simp only [Exit.inBlock, Exit.then]); refine bodyPost_ret (rf_res4 rfl _ _ _) rfl ?_
    exact ⟨rivans_none HF.out, HB3.out⟩
   ·have d1 : decide ((s.size : Int) < (a2 : Int)) = false := by simp; omega
    have d1' : decide (s.size < a2) = false := decide_eq_false hov
    have j1 : (a : Int) ≤ (a2 : Int) := by omega
    have j2 : a ≤ a2 := by omega
    have j3 : (a2 : Int) ≤ (s.size : Int) := by omega
    have j4 : a2 ≤ s.size := by omega
    have hiff := ext_two_eq s a a2 125 ha2 (by omega)
    have HA2 := Lib.hid ha2
    by_cases hE : (s.extract a a2).toList = [92, 125]
    ·have ho : opAt false s.data.toList a 125 = true := hiff.1 hE
     have HO := Lib.hid ho
     clear ha2 hov hsl hiff ho
     have HF := Lib.hid (show ivEnd false s.data.toList m ((x : Int)) a = some ((m : Int), ((x : Int)), a2) by unfold ivEnd; rw [HO.out, HG.out, HA2.out]; rfl)
     go_wp2_with fail
     (try simp only [Exit.inBlock, Exit.then]); refine bodyPost_ret (rf_res4 rfl _ _ _) rfl ?_
     exact ⟨rivans_some HF.out, HB3.out⟩
    ·have ho : opAt false s.data.toList a 125 = false := by
      cases h9 : opAt false s.data.toList a 125 with
      | false => rfl
      | true => exact absurd (hiff.2 h9) hE
     have HF := Lib.hid (show ivEnd false s.data.toList m ((x : Int)) a = none by unfold ivEnd; rw [ho]; rfl)
     clear ha2 hov hsl hiff ho
     go_wp2_with fail
     (try simp only [Exit.inBlock, Exit.then]); refine bodyPost_ret (rf_res4 rfl _ _ _) rfl ?_
     exact ⟨rivans_none HF.out, HB3.out⟩
set_option linter.unusedSimpArgs false in
set_option maxRecDepth 100000 in
set_option maxHeartbeats 1000000 in
theorem riv_none (s : ByteArray) (ere : Bool) (at' op : Nat) (cv mv : Value) (er pl : Int) (k : Nat) (w : World) (hk : k ≤ 260) (hc : ∃ a l c, cv = .slice a l c) (hm : ∃ a l c, mv = .slice a l c) (h0 : (numAt s.data.toList k).2 = 0) :
  Calls Tryz.prog 95 #[.agg (rfC s ere at' op cv mv er pl), .int .i64 (k : Int)] w fun e w' => e = rivAns none ∧ Below w.heap.size w w' := by
 obtain ⟨ca, cl, cc, rfl⟩ := hc
 obtain ⟨ma, ml, mc, rfl⟩ := hm
 have hnum := fun w => rnumber_any s k w hk
 rw [h0] at hnum
 have hb := (Below.refl w.heap.size w).alloc (Nat.le_refl _) (.cells (rfC s ere at' op (.slice ca cl cc) (.slice ma ml mc) er pl) 87)
 have HB := Lib.hid hb
 clear hb h0
 go_enter Tryz.func95, Tryz.ntmps95
 go_wp2_with fail
 refine (hnum _).mono ?_
 rintro e w2 ⟨rfl, rfl⟩
 clear hnum
 go_wp2_with fail
 (try simp only [Exit.inBlock, Exit.then]); refine bodyPost_ret (rf_res4 rfl _ _ _) rfl ?_
 exact ⟨rfl, HB.out⟩
theorem digs_le (s : List UInt8) : ∀ (n k v : Nat), (digs s n k v).1 ≤ n := by
 intro n
 induction n with
 | zero => intro k v; exact Nat.le_refl _
 | succ n ih =>
  intro k v
  rw [digs]
  split
  ·exact Nat.succ_le_succ (ih _ _)
  ·exact Nat.zero_le _
theorem num_three (s : List UInt8) (k : Nat) : (numAt s k).2 ≤ 3 := by
 unfold numAt
 split
 ·exact digs_le s 3 k 0
 ·exact Nat.zero_le _
theorem rinterval_any (s : ByteArray) (ere : Bool) (at' op : Nat) (cv mv : Value) (er pl : Int) (k : Nat) (w : World) (hs : s.size ≤ 250) (hk : k ≤ 255) (hc : ∃ a l c, cv = .slice a l c) (hm : ∃ a l c, mv = .slice a l c) :
  Calls Tryz.prog 95 #[.agg (rfC s ere at' op cv mv er pl), .int .i64 (k : Int)] w fun e w' => e = rivAns (intv ere s.data.toList k) ∧ Below w.heap.size w w' := by
 obtain ⟨m, j, hn⟩ : ∃ m j, numAt s.data.toList k = (m, j) := ⟨_, _, rfl⟩
 have h3 := num_three s.data.toList k
 rw [hn] at h3
 by_cases hj : j = 0
 ·have he : intv ere s.data.toList k = none := by unfold intv; rw [hn]; simp only; rw [if_pos hj]
  rw [he]
  exact riv_none s ere at' op cv mv er pl k w (by omega) hc hm (by rw [hn]; exact hj)
 ·cases h44 : chAt s.data.toList (k + j) 44 with
  | false =>
   have he : intv ere s.data.toList k = ivEnd ere s.data.toList m (m : Int) (k + j) := by unfold intv ivEnd; rw [hn]; simp only; rw [if_neg hj, h44]; rfl
   rw [he]
   exact riv_plain s ere at' op cv mv er pl k w (by omega) hc hm m j hn hj h3 h44
  | true =>
   obtain ⟨x, y, hx⟩ : ∃ x y, numAt s.data.toList (k + j + 1) = (x, y) := ⟨_, _, rfl⟩
   have hy3 := num_three s.data.toList (k + j + 1)
   rw [hx] at hy3
   by_cases hy : y = 0
   ·subst hy
    have he : intv ere s.data.toList k = ivEnd ere s.data.toList m (-1) (k + j + 1) := by unfold intv ivEnd; rw [hn]; simp only; rw [if_neg hj, h44, hx]; rfl
    rw [he]
    exact riv_open s ere at' op cv mv er pl k w hs hk hc hm m j hn hj h3 h44 x hx
   ·have he : intv ere s.data.toList k = ivEnd ere s.data.toList m (x : Int) (k + j + 1 + y) := by unfold intv ivEnd; rw [hn]; simp only; rw [if_neg hj, h44, hx]; simp only [if_true]; rw [if_neg hy]
    rw [he]
    exact riv_two s ere at' op cv mv er pl k w hs hk hc hm m j hn hj h3 h44 x y hx hy hy3
end Go.Proofs.YtkejeiopfblkgaaGreatDoor
