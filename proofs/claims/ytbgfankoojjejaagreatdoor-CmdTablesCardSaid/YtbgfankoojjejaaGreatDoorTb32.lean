/- The proof's texts CmWf, CmWg, CmBd: what the claim reaches of them. -/
import Derived.Test.YtbgfankoojjejaaGreatDoorTb31
import Derived.Deep.LoopGhost
import Derived.Test.YtbgfankoojjejaaGreatDoorTb29
import Derived.Test.YtbgfankoojjejaaGreatDoorTb25
import Derived.Test.YtbgfankoojjejaaGreatDoorTb06
import Derived.Shelf.Strings.BuilderK
import Derived.Deep.DeepCutAuto
namespace Go.Proofs.YtbgfankoojjejaaGreatDoor
open Go Go.RowKit
theorem CmSt.arg {w : World} {p : Nat} {s : ByteArray} {ext : Bool} {st : CS} {ta tb ts : Value} {pa : Option Addr} {pc : Nat} {ma : Option Addr} {mc : Nat} {W : World} (h : CmSt w p s ext st ta tb ts pa pc ma mc W) (t : List UInt8) (k : Nat) : CmSt w p s ext (st.arg t k) ta tb ts pa pc ma mc ((W.setCell ⟨p, 14, none⟩ (.string (txt t))).setCell ⟨p, 2, none⟩ (.int .i64 (k : Int))) :=
 (h.put 14 (.string (txt t)) { st with c := { st.c with arg := t } } rfl rfl rfl rfl fun _ _ => rfl).go k
theorem CmSt.file {w : World} {p : Nat} {s : ByteArray} {ext : Bool} {st : CS} {ta tb ts : Value} {pa : Option Addr} {pc : Nat} {ma : Option Addr} {mc : Nat} {W : World} (h : CmSt w p s ext st ta tb ts pa pc ma mc W) (t : List UInt8) (k : Nat) : CmSt w p s ext (st.file t k) ta tb ts pa pc ma mc ((W.setCell ⟨p, 21, none⟩ (.string (txt t))).setCell ⟨p, 2, none⟩ (.int .i64 (k : Int))) :=
 (h.put 21 (.string (txt t)) { st with c := { st.c with sub := { st.c.sub with file := t } } } rfl rfl rfl rfl fun _ _ => rfl).go k
set_option linter.unusedVariables false in
set_option linter.unusedSimpArgs false in
set_option maxRecDepth 100000 in
set_option maxHeartbeats 4000000 in
theorem klabel_any (w : World) (p : Nat) (s : ByteArray) (ext : Bool) (st : CS) (W : World) (h : CmR w p s ext st W) (hs : s.size ≤ 4000000) (hk : st.k ≤ s.size) :
  Calls Tryz.prog 18 #[.pointer (some ⟨p, 0, none⟩)] W fun e W' => e = .returned (.int .i64 ((cmLabel s.data.toList st).1 : Int)) ∧ CmR w p s ext (cmLabel s.data.toList st).2 W' := by
 obtain ⟨ta, tb, ts, pa, pc, ma, mc, h⟩ := h
 have hN := fun w1 => pname_at s st.k true w1 hs hk
 unfold cmLabel
 obtain ⟨⟨t, q, e0⟩, hR⟩ : ∃ R, pcName s.data.toList st.k true = R := ⟨_, rfl⟩
 rw [hR] at hN ⊢
 have hN : ∀ w1, Calls Tryz.prog 37 #[.string s, .int .i64 (st.k : Int), .bool true] w1 fun e w' => e = .returned (.tuple #[.string (txt t), .int .i64 (q : Int), .int .i64 (e0 : Int)]) ∧ Below w1.heap.size w1 w' := hN
 have HH := Lib.hid h
 have k0 : W.cell? ⟨p, 0, none⟩ = some (.string s) := (h.q.cell 0).trans rfl
 have k2 : W.cell? ⟨p, 2, none⟩ = some (.int .i64 (st.k : Int)) := (h.q.cell 2).trans rfl
 clear h hR
 simp only
 go_enter Tryz.func18, Tryz.ntmps18
 go_upto_region 1 with fail
 go_region_held3 (fun w' => w'.cell? ⟨p, 0, none⟩ = some (.string s) ∧ w'.cell? ⟨p, 2, none⟩ = some (.int .i64 (st.k : Int))) (first | exact ⟨k0, k2⟩ | (refine ⟨?_, ?_⟩ <;> assumption)) (first | (go_at_call 37; refine (hN _).mono ?_; rintro e w1 ⟨rfl, b1⟩; have H1 := Lib.hid (by first | exact HH.out.step b1 | exact HH.out.drew.step b1 : CmSt w p s ext st ta tb ts pa pc ma mc w1); have m0 : (w1).cell? ⟨p, 0, none⟩ = some (.string s) := (H1.out.q.cell 0).trans rfl; have m2 : (w1).cell? ⟨p, 2, none⟩ = some (.int .i64 (st.k : Int)) := (H1.out.q.cell 2).trans rfl; clear b1))
 all_goals
  clear k0 k2 m0
  have k14 : w1.cell? ⟨p, 14, none⟩ = some (.string (txt st.c.arg)) := (H1.out.q.cell 14).trans rfl
  have f2 := H1.out.q.frozen 2
  have f14 := H1.out.q.frozen 14
  have H2 := Lib.hid (H1.out.arg t q)
  go_wp2_with fail
  go_ret
  exact ⟨rfl, H2.out.R⟩
set_option linter.unusedVariables false in
set_option linter.unusedSimpArgs false in
set_option maxRecDepth 100000 in
set_option maxHeartbeats 4000000 in
theorem kper_any (w : World) (p : Nat) (s : ByteArray) (ext : Bool) (st : CS) (W : World) (h : CmR w p s ext st W) (hs : s.size ≤ 4000000) (hk : st.k ≤ s.size) :
  Calls Tryz.prog 19 #[.pointer (some ⟨p, 0, none⟩)] W fun e W' => e = .returned (.int .i64 ((cmPer s.data.toList st).1 : Int)) ∧ CmR w p s ext (cmPer s.data.toList st).2 W' := by
 have hL := klabel_any w p s ext st W h hs hk
 have hB := pblk_of s st.k hs hk
 obtain ⟨ta, tb, ts, pa, pc, ma, mc, h⟩ := h
 have k2 : W.cell? ⟨p, 2, none⟩ = some (.int .i64 (st.k : Int)) := (h.q.cell 2).trans rfl
 unfold cmPer
 obtain ⟨⟨e0, st1⟩, hR⟩ : ∃ R, cmLabel s.data.toList st = R := ⟨_, rfl⟩
 rw [hR] at hL ⊢
 obtain ⟨K, hK⟩ : ∃ K, pcBlk s.data.toList st.k = K := ⟨_, rfl⟩
 rw [hK] at hB ⊢
 clear h hR hK
 simp only at hL ⊢
 by_cases he : e0 = 14
 ·rw [if_pos he]
  have ce : ((e0 : Int) == 14) = true := by simp [he]
  clear he
  go_enter Tryz.func19, Tryz.ntmps19
  go_upto_region 4 with (go_at_call 18; refine hL.mono ?_; clear hL; rintro e w1 ⟨rfl, h1⟩)
  obtain ⟨ta, tb, ts, pa, pc, ma, mc, h1⟩ := h1
  have H1 := Lib.hid h1
  have j0 : w1.cell? ⟨p, 0, none⟩ = some (.string s) := (h1.q.cell 0).trans rfl
  clear k2 h1
  go_wp2_with (go_at_call 32; refine (hB _).mono ?_; rintro e w2 ⟨rfl, b2⟩; have H2 := Lib.hid (H1.out.step b2); have j2 : w2.cell? ⟨p, 2, none⟩ = some (.int .i64 (st1.k : Int)) := (H2.out.q.cell 2).trans rfl; have f2 := H2.out.q.frozen 2; have H3 := Lib.hid (H2.out.go K); clear b2)
  go_ret
  exact ⟨rfl, H3.out.R⟩
 ·rw [if_neg he]
  have ce : ((e0 : Int) == 14) = false := by simp; omega
  clear he
  go_enter Tryz.func19, Tryz.ntmps19
  go_wp2_with (go_at_call 18; refine hL.mono ?_; clear hL; rintro e w1 ⟨rfl, h1⟩)
  go_ret
  exact ⟨rfl, h1⟩
set_option linter.unusedVariables false in
set_option linter.unusedSimpArgs false in
set_option maxRecDepth 100000 in
set_option maxHeartbeats 4000000 in
theorem kfileA_any (w : World) (p : Nat) (s : ByteArray) (ext : Bool) (st : CS) (W : World) (h : CmR w p s ext st W) (hs : s.size ≤ 4000000) (hk : st.k ≤ s.size) :
  Calls Tryz.prog 21 #[.pointer (some ⟨p, 0, none⟩), .pointer (some ⟨p, 14, none⟩)] W fun e W' => e = .returned (.int .i64 ((cmFileA s.data.toList st).1 : Int)) ∧ CmR w p s ext (cmFileA s.data.toList st).2 W' := by
 obtain ⟨ta, tb, ts, pa, pc, ma, mc, h⟩ := h
 have hN := fun w1 => pname_at s st.k false w1 hs hk
 have hB := pblk_of s st.k hs hk
 unfold cmFileA
 obtain ⟨⟨t, q, e0⟩, hR⟩ : ∃ R, pcName s.data.toList st.k false = R := ⟨_, rfl⟩
 rw [hR] at hN ⊢
 obtain ⟨K, hK⟩ : ∃ K, pcBlk s.data.toList st.k = K := ⟨_, rfl⟩
 rw [hK] at hB ⊢
 have hN : ∀ w1, Calls Tryz.prog 37 #[.string s, .int .i64 (st.k : Int), .bool false] w1 fun e w' => e = .returned (.tuple #[.string (txt t), .int .i64 (q : Int), .int .i64 (e0 : Int)]) ∧ Below w1.heap.size w1 w' := hN
 have HH := Lib.hid h
 have k0 : W.cell? ⟨p, 0, none⟩ = some (.string s) := (h.q.cell 0).trans rfl
 have k2 : W.cell? ⟨p, 2, none⟩ = some (.int .i64 (st.k : Int)) := (h.q.cell 2).trans rfl
 clear h hR hK
 simp only
 by_cases he : K = st.k
 ·rw [if_pos he]
  have ce : ((K : Int) == (st.k : Int)) = true := by simp [he]
  clear he
  go_enter Tryz.func21, Tryz.ntmps21
  go_upto_region 1 with fail
  go_region_held3 (fun w' => w'.cell? ⟨p, 0, none⟩ = some (.string s) ∧ w'.cell? ⟨p, 2, none⟩ = some (.int .i64 (st.k : Int))) (first | exact ⟨k0, k2⟩ | (refine ⟨?_, ?_⟩ <;> assumption)) (first | (go_at_call 32; refine (hB _).mono ?_; rintro e w1 ⟨rfl, b1⟩; have H1 := Lib.hid (by first | exact HH.out.step b1 | exact HH.out.drew.step b1 : CmSt w p s ext st ta tb ts pa pc ma mc w1); have m0 : (w1).cell? ⟨p, 0, none⟩ = some (.string s) := (H1.out.q.cell 0).trans rfl; have m2 : (w1).cell? ⟨p, 2, none⟩ = some (.int .i64 (st.k : Int)) := (H1.out.q.cell 2).trans rfl; clear b1))
  all_goals
   go_wp2_with fail
   go_ret
   exact ⟨rfl, H1.out.R⟩
 ·rw [if_neg he]
  have ce : ((K : Int) == (st.k : Int)) = false := by simp; omega
  clear he
  go_enter Tryz.func21, Tryz.ntmps21
  go_upto_region 1 with fail
  go_region_held3 (fun w' => w'.cell? ⟨p, 0, none⟩ = some (.string s) ∧ w'.cell? ⟨p, 2, none⟩ = some (.int .i64 (st.k : Int))) (first | exact ⟨k0, k2⟩ | (refine ⟨?_, ?_⟩ <;> assumption)) (first | (go_at_call 32; refine (hB _).mono ?_; rintro e w1 ⟨rfl, b1⟩; have H1 := Lib.hid (by first | exact HH.out.step b1 | exact HH.out.drew.step b1 : CmSt w p s ext st ta tb ts pa pc ma mc w1); have m0 : (w1).cell? ⟨p, 0, none⟩ = some (.string s) := (H1.out.q.cell 0).trans rfl; have m2 : (w1).cell? ⟨p, 2, none⟩ = some (.int .i64 (st.k : Int)) := (H1.out.q.cell 2).trans rfl; clear b1))
  all_goals
   go_upto_region 3 with fail
   clear k0 k2
   have k0 := m0
   have k2 := m2
   clear m0 m2
   go_region_held3 (fun w' => w'.cell? ⟨p, 0, none⟩ = some (.string s) ∧ w'.cell? ⟨p, 2, none⟩ = some (.int .i64 (st.k : Int))) (first | exact ⟨k0, k2⟩ | (refine ⟨?_, ?_⟩ <;> assumption)) (first | (go_at_call 37; refine (hN _).mono ?_; rintro e w2 ⟨rfl, b1⟩; have H2 := Lib.hid (by first | exact H1.out.step b1 | exact H1.out.drew.step b1 : CmSt w p s ext st ta tb ts pa pc ma mc w2); have m0 : (w2).cell? ⟨p, 0, none⟩ = some (.string s) := (H2.out.q.cell 0).trans rfl; have m2 : (w2).cell? ⟨p, 2, none⟩ = some (.int .i64 (st.k : Int)) := (H2.out.q.cell 2).trans rfl; clear b1))
   all_goals
    clear k0 k2 m0
    have k14 : w2.cell? ⟨p, 14, none⟩ = some (.string (txt st.c.arg)) := (H2.out.q.cell 14).trans rfl
    have f2 := H2.out.q.frozen 2
    have f14 := H2.out.q.frozen 14
    have H3 := Lib.hid (H2.out.arg t q)
    go_wp2_with fail
    go_ret
    exact ⟨rfl, H3.out.R⟩
set_option linter.unusedVariables false in
set_option linter.unusedSimpArgs false in
set_option maxRecDepth 100000 in
set_option maxHeartbeats 4000000 in
theorem kfileS_any (w : World) (p : Nat) (s : ByteArray) (ext : Bool) (st : CS) (W : World) (h : CmR w p s ext st W) (hs : s.size ≤ 4000000) (hk : st.k ≤ s.size) :
  Calls Tryz.prog 21 #[.pointer (some ⟨p, 0, none⟩), .pointer (some ⟨p, 21, none⟩)] W fun e W' => e = .returned (.int .i64 ((cmFileS s.data.toList st).1 : Int)) ∧ CmR w p s ext (cmFileS s.data.toList st).2 W' := by
 obtain ⟨ta, tb, ts, pa, pc, ma, mc, h⟩ := h
 have hN := fun w1 => pname_at s st.k false w1 hs hk
 have hB := pblk_of s st.k hs hk
 unfold cmFileS
 obtain ⟨⟨t, q, e0⟩, hR⟩ : ∃ R, pcName s.data.toList st.k false = R := ⟨_, rfl⟩
 rw [hR] at hN ⊢
 obtain ⟨K, hK⟩ : ∃ K, pcBlk s.data.toList st.k = K := ⟨_, rfl⟩
 rw [hK] at hB ⊢
 have hN : ∀ w1, Calls Tryz.prog 37 #[.string s, .int .i64 (st.k : Int), .bool false] w1 fun e w' => e = .returned (.tuple #[.string (txt t), .int .i64 (q : Int), .int .i64 (e0 : Int)]) ∧ Below w1.heap.size w1 w' := hN
 have HH := Lib.hid h
 have k0 : W.cell? ⟨p, 0, none⟩ = some (.string s) := (h.q.cell 0).trans rfl
 have k2 : W.cell? ⟨p, 2, none⟩ = some (.int .i64 (st.k : Int)) := (h.q.cell 2).trans rfl
 clear h hR hK
 simp only
 by_cases he : K = st.k
 ·rw [if_pos he]
  have ce : ((K : Int) == (st.k : Int)) = true := by simp [he]
  clear he
  go_enter Tryz.func21, Tryz.ntmps21
  go_upto_region 1 with fail
  go_region_held3 (fun w' => w'.cell? ⟨p, 0, none⟩ = some (.string s) ∧ w'.cell? ⟨p, 2, none⟩ = some (.int .i64 (st.k : Int))) (first | exact ⟨k0, k2⟩ | (refine ⟨?_, ?_⟩ <;> assumption)) (first | (go_at_call 32; refine (hB _).mono ?_; rintro e w1 ⟨rfl, b1⟩; have H1 := Lib.hid (by first | exact HH.out.step b1 | exact HH.out.drew.step b1 : CmSt w p s ext st ta tb ts pa pc ma mc w1); have m0 : (w1).cell? ⟨p, 0, none⟩ = some (.string s) := (H1.out.q.cell 0).trans rfl; have m2 : (w1).cell? ⟨p, 2, none⟩ = some (.int .i64 (st.k : Int)) := (H1.out.q.cell 2).trans rfl; clear b1))
  all_goals
   go_wp2_with fail
   go_ret
   exact ⟨rfl, H1.out.R⟩
 ·rw [if_neg he]
  have ce : ((K : Int) == (st.k : Int)) = false := by simp; omega
  clear he
  go_enter Tryz.func21, Tryz.ntmps21
  go_upto_region 1 with fail
  go_region_held3 (fun w' => w'.cell? ⟨p, 0, none⟩ = some (.string s) ∧ w'.cell? ⟨p, 2, none⟩ = some (.int .i64 (st.k : Int))) (first | exact ⟨k0, k2⟩ | (refine ⟨?_, ?_⟩ <;> assumption)) (first | (go_at_call 32; refine (hB _).mono ?_; rintro e w1 ⟨rfl, b1⟩; have H1 := Lib.hid (by first | exact HH.out.step b1 | exact HH.out.drew.step b1 : CmSt w p s ext st ta tb ts pa pc ma mc w1); have m0 : (w1).cell? ⟨p, 0, none⟩ = some (.string s) := (H1.out.q.cell 0).trans rfl; have m2 : (w1).cell? ⟨p, 2, none⟩ = some (.int .i64 (st.k : Int)) := (H1.out.q.cell 2).trans rfl; clear b1))
  all_goals
   go_upto_region 3 with fail
   clear k0 k2
   have k0 := m0
   have k2 := m2
   clear m0 m2
   go_region_held3 (fun w' => w'.cell? ⟨p, 0, none⟩ = some (.string s) ∧ w'.cell? ⟨p, 2, none⟩ = some (.int .i64 (st.k : Int))) (first | exact ⟨k0, k2⟩ | (refine ⟨?_, ?_⟩ <;> assumption)) (first | (go_at_call 37; refine (hN _).mono ?_; rintro e w2 ⟨rfl, b1⟩; have H2 := Lib.hid (by first | exact H1.out.step b1 | exact H1.out.drew.step b1 : CmSt w p s ext st ta tb ts pa pc ma mc w2); have m0 : (w2).cell? ⟨p, 0, none⟩ = some (.string s) := (H2.out.q.cell 0).trans rfl; have m2 : (w2).cell? ⟨p, 2, none⟩ = some (.int .i64 (st.k : Int)) := (H2.out.q.cell 2).trans rfl; clear b1))
   all_goals
    clear k0 k2 m0
    have k14 : w2.cell? ⟨p, 21, none⟩ = some (.string (txt st.c.sub.file)) := (H2.out.q.cell 21).trans rfl
    have f2 := H2.out.q.frozen 2
    have f14 := H2.out.q.frozen 21
    have H3 := Lib.hid (H2.out.file t q)
    go_wp2_with fail
    go_ret
    exact ⟨rfl, H3.out.R⟩
end Go.Proofs.YtbgfankoojjejaaGreatDoor
namespace Go.Proofs.YtbgfankoojjejaaGreatDoor
open Go Go.RowKit
theorem pcNum_gt {L : List UInt8} {k : Nat} (h : (pcNum L k).2.2 = 0) : k < (pcNum L k).2.1 := by
 unfold pcNum at h ⊢
 simp only at h ⊢
 split at h
 ·cases h
 ·split at h
  ·cases h
  ·rename_i h1 h2
   rw [if_neg h1, if_neg h2]
   simp only
   omega
theorem flags_nil {L : List UInt8} {n : Nat} {st : CS} (h : L.drop st.k = []) : cmFlags L (n + 1) st = (0, st) := by
 rw [cmFlags, h]
theorem flags_yes {L t : List UInt8} {n : Nat} {st : CS} {b : UInt8} {r : CO} (h : L.drop st.k = b :: t) (hf : cmFlag L b st = some r) : cmFlags L (n + 1) st = if r.1 = 0 then cmFlags L n r.2 else r := by
 rw [cmFlags, h]
 simp only [hf]
theorem flags_no {L t : List UInt8} {n : Nat} {st : CS} {b : UInt8} (h : L.drop st.k = b :: t) (hf : cmFlag L b st = none) : cmFlags L (n + 1) st = if b = 119 then cmFileS L (st.go (st.k + 1)) else cmEnd L st := by
 rw [cmFlags, h]
 simp only [hf]
set_option linter.unusedVariables false in
set_option linter.unusedSimpArgs false in
set_option maxRecDepth 100000 in
set_option maxHeartbeats 8000000 in
theorem kflags_any (w : World) (p : Nat) (s : ByteArray) (ext : Bool) (st : CS) (W : World) (h : CmR w p s ext st W) (hs : s.size ≤ 4000000) (hk : st.k ≤ s.size) (hl : st.ms.length ≤ 100000) :
  Calls Tryz.prog 42 #[.pointer (some ⟨p, 0, none⟩)] W fun e W' => e = .returned (.int .i64 ((cmFlags s.data.toList (s.size + 1) st).1 : Int)) ∧ CmR w p s ext (cmFlags s.data.toList (s.size + 1) st).2 W' := by
 obtain ⟨R, hR⟩ : ∃ R, cmFlags s.data.toList (s.size + 1) st = R := ⟨_, rfl⟩
 rw [hR]
 have HR := Lib.hid hR
 have H0 := Lib.hid h
 clear hR h
 go_enter Tryz.func42, Tryz.ntmps42
 go_wp2_with fail
 go_loopg [] (s.size + 1) (fun gk wr => ∃ st' : CS, CmR w p s ext st' wr ∧ cmFlags s.data.toList gk st' = R ∧ s.size - st'.k < gk ∧ st'.k ≤ s.size ∧ st'.ms.length ≤ 100000)
 case atStart => exact ⟨st, H0.out, HR.out, by omega, hk, hl⟩
 case round =>
  obtain ⟨st', hc, hf, hgk, hk', hl'⟩ := hrel
  clear HR H0
  obtain ⟨m, rfl⟩ : ∃ m, gk = m + 1 := ⟨gk - 1, by omega⟩
  have HC := Lib.hid hc
  obtain ⟨ta, tb, ts, pa, pc, ma, mc, h1⟩ := hc
  have HH := Lib.hid h1
  have k0 : wr.cell? ⟨p, 0, none⟩ = some (.string s) := (h1.q.cell 0).trans rfl
  have k2 : wr.cell? ⟨p, 2, none⟩ = some (.int .i64 (st'.k : Int)) := (h1.q.cell 2).trans rfl
  clear h1
  by_cases hz : st'.k = s.size
  ·rw [flags_nil (drop_end s st'.k (by omega))] at hf
   have hE : ¬ (st'.k : Int) < (s.size : Int) := by omega
   have HF := Lib.hid hf
   clear hz hf
   go_upto_region 2 with fail
   go_quiet (fail)
   generalize nq = n1
   go_wp2_with fail
   go_ret
   rw [← HF.out]
   exact ⟨rfl, (HH.out.drewN n1).R⟩
  ·have hlt : st'.k < s.size := by omega
   have hE : (st'.k : Int) < (s.size : Int) := by omega
   have hy0 : (0 : Int) ≤ (st'.k : Int) := by omega
   have hd := drop_at s st'.k hlt
   obtain ⟨b, hb⟩ : ∃ b, s[st'.k] = b := ⟨_, rfl⟩
   have hsx : s[st'.k]'hlt = b := hb
   rw [hb] at hd
   have Hd := Lib.hid hd
   clear hz hd hb
   go_upto_region 2 with fail
   go_quiet (fail)
   generalize nq = n1
   go_upto_region 4 with fail
   go_quiet (fail)
   have H4 := Lib.hid (HH.out.drewN (n1 + nq))
   generalize nq = n2 at H4 ⊢
   by_cases h103 : b = 103
   ·have q103 : ((b.toNat : Int) == 103) = true := by rw [h103]; rfl
    have hX := kall_any w p s ext st' _ H4.out.R hs hk'
    rw [flags_yes Hd.out (show cmFlag s.data.toList b st' = some (cmAll st') by unfold cmFlag; rw [if_pos h103])] at hf
    have hg : (cmAll st').1 = 0 → st'.k < (cmAll st').2.k ∧ (cmAll st').2.k ≤ s.size ∧ (cmAll st').2.ms = st'.ms := fun h => by
     unfold cmAll at h ⊢
     split at h
     ·cases h
     ·rename_i h1; rw [if_neg h1]; exact ⟨Nat.lt_succ_self _, by show st'.k + 1 ≤ s.size; omega, rfl⟩
    have hdc : pcDigits.contains b = false := by rw [h103]; rfl
    clear h103
    obtain ⟨⟨e1, s1⟩, hr⟩ : ∃ r, cmAll st' = r := ⟨_, rfl⟩
    rw [hr] at hX hf hg
    simp only at hX hf hg
    by_cases he : e1 = 0
    ·subst he
     rw [if_pos rfl] at hf
     obtain ⟨g1, g2, g3⟩ := hg rfl
     have HF := Lib.hid hf
     have HG := Lib.hid (And.intro g1 (And.intro g2 g3))
     clear hf hg hr g1 g2 g3
     go_wp2_with (first | (go_at_call 59; refine (kdigit_any _ _).mono ?_; rintro e w5 ⟨rfl, hw5⟩; have hw5' := hw5.symm; subst hw5'; rw [hdc]) | (go_at_call 58; refine hX.mono ?_; clear hX; rintro e w6 ⟨rfl, h6⟩))
     go_roundg m
     case rel => exact ⟨s1, h6, HF.out, by have := HG.out; omega, HG.out.2.1, by rw [HG.out.2.2]; exact hl'⟩
     case measure => omega
    ·rw [if_neg he] at hf
     have ce : ((e1 : Int) != 0) = true := by simpa using he
     have HF := Lib.hid hf
     clear hf hg hr he
     go_wp2_with (first | (go_at_call 59; refine (kdigit_any _ _).mono ?_; rintro e w5 ⟨rfl, hw5⟩; have hw5' := hw5.symm; subst hw5'; rw [hdc]) | (go_at_call 58; refine hX.mono ?_; clear hX; rintro e w6 ⟨rfl, h6⟩))
     go_ret
     rw [← HF.out]
     exact ⟨rfl, h6⟩
   ·have q103 : ((b.toNat : Int) == 103) = false := cmu_ne (c := 103) h103
    by_cases h112 : b = 112
    ·have q112 : ((b.toNat : Int) == 112) = true := by rw [h112]; rfl
     have hX := kprt_any w p s ext st' _ H4.out.R hs hk'
     rw [flags_yes Hd.out (show cmFlag s.data.toList b st' = some (cmPrt st') by unfold cmFlag; rw [if_neg h103, if_pos h112])] at hf
     have hg : (cmPrt st').1 = 0 → st'.k < (cmPrt st').2.k ∧ (cmPrt st').2.k ≤ s.size ∧ (cmPrt st').2.ms = st'.ms := fun h => by
      unfold cmPrt at h ⊢
      split at h
      ·cases h
      ·rename_i h1; rw [if_neg h1]; exact ⟨Nat.lt_succ_self _, by show st'.k + 1 ≤ s.size; omega, rfl⟩
     have hdc : pcDigits.contains b = false := by rw [h112]; rfl
     clear h103 h112
     obtain ⟨⟨e1, s1⟩, hr⟩ : ∃ r, cmPrt st' = r := ⟨_, rfl⟩
     rw [hr] at hX hf hg
     simp only at hX hf hg
     by_cases he : e1 = 0
     ·subst he
      rw [if_pos rfl] at hf
      obtain ⟨g1, g2, g3⟩ := hg rfl
      have HF := Lib.hid hf
      have HG := Lib.hid (And.intro g1 (And.intro g2 g3))
      clear hf hg hr g1 g2 g3
      go_wp2_with (first | (go_at_call 59; refine (kdigit_any _ _).mono ?_; rintro e w5 ⟨rfl, hw5⟩; have hw5' := hw5.symm; subst hw5'; rw [hdc]) | (go_at_call 58; refine hX.mono ?_; clear hX; rintro e w6 ⟨rfl, h6⟩))
      go_roundg m
      case rel => exact ⟨s1, h6, HF.out, by have := HG.out; omega, HG.out.2.1, by rw [HG.out.2.2]; exact hl'⟩
      case measure => omega
     ·rw [if_neg he] at hf
      have ce : ((e1 : Int) != 0) = true := by simpa using he
      have HF := Lib.hid hf
      clear hf hg hr he
      go_wp2_with (first | (go_at_call 59; refine (kdigit_any _ _).mono ?_; rintro e w5 ⟨rfl, hw5⟩; have hw5' := hw5.symm; subst hw5'; rw [hdc]) | (go_at_call 58; refine hX.mono ?_; clear hX; rintro e w6 ⟨rfl, h6⟩))
      go_ret
      rw [← HF.out]
      exact ⟨rfl, h6⟩
    ·have q112 : ((b.toNat : Int) == 112) = false := cmu_ne (c := 112) h112
     by_cases hdg : pcDigits.contains b = true
     ·have hdc := hdg
      have hX := knth_any w p s ext st' _ H4.out.R hs hk'
      rw [flags_yes Hd.out (show cmFlag s.data.toList b st' = some (cmNth s.data.toList st') by unfold cmFlag; rw [if_neg h103, if_neg h112, if_pos hdg])] at hf
      have hg : (cmNth s.data.toList st').1 = 0 → st'.k < (cmNth s.data.toList st').2.k ∧ (cmNth s.data.toList st').2.k ≤ s.size ∧ (cmNth s.data.toList st').2.ms = st'.ms := fun h => by
       have hle := pcNum_le s.data.toList st'.k (by rw [← size_list]; exact hk')
       have hgt := pcNum_gt (L := s.data.toList) (k := st'.k)
       unfold cmNth cmNthOf at h ⊢
       split at h
       ·rename_i h1
        rw [if_pos h1]
        split at h
        ·rename_i h2
         rw [if_pos h2]
         split at h
         ·cases h
         ·rename_i h3
          rw [if_neg h3]
          exact ⟨hgt h1, by rw [size_list]; exact hle.2, rfl⟩
        ·cases h
       ·rename_i h1
        exact absurd h h1
      clear h103 h112 hdg
      obtain ⟨⟨e1, s1⟩, hr⟩ : ∃ r, cmNth s.data.toList st' = r := ⟨_, rfl⟩
      rw [hr] at hX hf hg
      simp only at hX hf hg
      by_cases he : e1 = 0
      ·subst he
       rw [if_pos rfl] at hf
       obtain ⟨g1, g2, g3⟩ := hg rfl
       have HF := Lib.hid hf
       have HG := Lib.hid (And.intro g1 (And.intro g2 g3))
       clear hf hg hr g1 g2 g3
       go_wp2_with (first | (go_at_call 59; refine (kdigit_any _ _).mono ?_; rintro e w5 ⟨rfl, hw5⟩; have hw5' := hw5.symm; subst hw5'; rw [hdc]) | (go_at_call 60; refine hX.mono ?_; clear hX; rintro e w6 ⟨rfl, h6⟩))
       go_roundg m
       case rel => exact ⟨s1, h6, HF.out, by have := HG.out; omega, HG.out.2.1, by rw [HG.out.2.2]; exact hl'⟩
       case measure => omega
      ·rw [if_neg he] at hf
       have ce : ((e1 : Int) != 0) = true := by simpa using he
       have HF := Lib.hid hf
       clear hf hg hr he
       go_wp2_with (first | (go_at_call 59; refine (kdigit_any _ _).mono ?_; rintro e w5 ⟨rfl, hw5⟩; have hw5' := hw5.symm; subst hw5'; rw [hdc]) | (go_at_call 60; refine hX.mono ?_; clear hX; rintro e w6 ⟨rfl, h6⟩))
       go_ret
       rw [← HF.out]
       exact ⟨rfl, h6⟩
     ·have hdc : pcDigits.contains b = false := by simpa using hdg
      rw [flags_no Hd.out (show cmFlag s.data.toList b st' = none by unfold cmFlag; rw [if_neg h103, if_neg h112, if_neg hdg])] at hf
      by_cases h119 : b = 119
      ·have q119 : ((b.toNat : Int) == 119) = true := by rw [h119]; rfl
       rw [if_pos h119] at hf
       have Wk : IntKind.i64.wrap ((st'.k : Int) + 1) = ((st'.k + 1 : Nat) : Int) := by rw [IntWalk.i64_in _ (by omega)]; omega
       have f2 := HH.out.q.frozen 2
       have hX := kfileS_any w p s ext (st'.go (st'.k + 1)) _ (H4.out.go (st'.k + 1)).R hs (by show st'.k + 1 ≤ s.size; omega)
       have HF := Lib.hid hf
       clear h103 h112 hdg h119 hf
       go_wp2_with (first | (go_at_call 59; refine (kdigit_any _ _).mono ?_; rintro e w5 ⟨rfl, hw5⟩; have hw5' := hw5.symm; subst hw5'; rw [hdc]) | (go_at_call 21; refine hX.mono ?_; clear hX; rintro e w6 ⟨rfl, h6⟩))
       go_ret
       rw [← HF.out]
       exact ⟨rfl, h6⟩
      ·have q119 : ((b.toNat : Int) == 119) = false := cmu_ne (c := 119) h119
       rw [if_neg h119] at hf
       have hX := kend_any w p s ext st' _ H4.out.R hs hk' hl'
       have HF := Lib.hid hf
       clear h103 h112 hdg h119 hf
       go_wp2_with (first | (go_at_call 59; refine (kdigit_any _ _).mono ?_; rintro e w5 ⟨rfl, hw5⟩; have hw5' := hw5.symm; subst hw5'; rw [hdc]) | (go_at_call 24; refine hX.mono ?_; clear hX; rintro e w6 ⟨rfl, h6⟩))
       go_ret
       rw [← HF.out]
       exact ⟨rfl, h6⟩
end Go.Proofs.YtbgfankoojjejaaGreatDoor
namespace Go.Proofs.YtbgfankoojjejaaGreatDoor
open Go Go.RowKit
structure MkS (B b : Nat) (ps : List Cp) (t : List UInt8) (pv av bv : Value) (W : World) : Prop where
 q : Blk W b #[pv, av, bv] 158
 bb : B ≤ b
 a : av = .pointer none ∨ av = .pointer (some ⟨b, 1, none⟩)
 pr : W.ownsRow B 43 2 pv ps.length (cpC ps)
 br : W.ownsRowF B 5 1 bv t.length (Lib.byteCells t)
theorem rowF_same {w w' : World} {base : Nat} {e : TypeId} {size n : Nat} {v : Value} {xs : List Value} (h : w.ownsRowF base e size v n xs) (hb : ∀ g, v.ownBlock = some g → w'.heap[g]? = w.heap[g]?) : w'.ownsRowF base e size v n xs := by
 refine ⟨h.1, ?_⟩
 rcases h.2 with hn | ⟨g, cap, cur, fz, rfl, hb0, hg, rest⟩
 ·exact .inl hn
 ·exact .inr ⟨g, cap, cur, fz, rfl, hb0, (hb g rfl).trans hg, rest⟩
theorem own_ne {w : World} {B : Nat} {e T : TypeId} {v : Value} {size n : Nat} {xs : List Value} {b : Nat} {cs : Array Value} {fr : Nat × Nat} (hown : w.ownsRow B e size v n xs) (hb : w.heap[b]? = some (.cells cs T fr)) (hTe : T ≠ e) : v.ownBlock ≠ some b := by
 rcases hown.2 with ⟨rfl, _⟩ | ⟨g, cap, cur, rfl, _, hg, _⟩
 ·simp [Value.ownBlock]
 ·intro h
  simp only [Value.ownBlock, Option.some.injEq] at h
  subst h
  rw [hg] at hb
  simp only [Option.some.injEq, Obj.cells.injEq] at hb
  exact hTe hb.2.1.symm
theorem MkS.np {B b : Nat} {ps : List Cp} {t : List UInt8} {pv av bv : Value} {W : World} (h : MkS B b ps t pv av bv W) : pv.ownBlock ≠ some b := own_ne h.pr h.q (by decide)
theorem MkS.nb {B b : Nat} {ps : List Cp} {t : List UInt8} {pv av bv : Value} {W : World} (h : MkS B b ps t pv av bv W) : bv.ownBlock ≠ some b := Lib.ownBlock_neF h.br h.q (by decide)
theorem MkS.npb {B b : Nat} {ps : List Cp} {t : List UInt8} {pv av bv : Value} {W : World} (h : MkS B b ps t pv av bv W) : ∀ g, pv.ownBlock = some g → bv.ownBlock ≠ some g := fun g hg => by
 rcases h.pr.2 with ⟨h1, _⟩ | ⟨g', cap, cur, h1, _, hg', _⟩
 ·rw [h1] at hg; simp [Value.ownBlock] at hg
 ·rw [h1] at hg
  simp only [Value.ownBlock, Option.some.injEq] at hg
  subst hg
  exact Lib.ownBlock_neF h.br hg' (by decide)
theorem MkS.own {B b : Nat} {ps : List Cp} {t : List UInt8} {pv av bv : Value} {W W' : World} (h : MkS B b ps t pv av bv W) {av' : Value} (ha : av' = .pointer none ∨ av' = .pointer (some ⟨b, 1, none⟩)) (hq : Blk W' b #[pv, av', bv] 158) (hk : ∀ k, k ≠ b → W'.heap[k]? = W.heap[k]?) : MkS B b ps t pv av' bv W' :=
 ⟨hq, h.bb, ha, own_row_same h.pr fun g hg => hk g fun e => h.np (by rw [hg, e]), rowF_same h.br fun g hg => hk g fun e => h.nb (by rw [hg, e])⟩
theorem builder_size2 : (Tryz.prog.info? 102).map (·.size) = some 2 := by kernel_rfl
theorem maker_lies : liesAt Tryz.prog Tryz.prog.depth 158 (3 / Tryz.prog.cellsOf 158) 1 102 1 = true := by kernel_rfl
theorem blk3_shape {w : World} {b : Nat} {T : TypeId} {v0 v1 v2 : Value} (h : Blk w b #[v0, v1, v2] T) : w.shape? b = some (T, 3) := by
 unfold Blk at h
 simp [World.shape?, h]
theorem set_far (W : World) (b j : Nat) (v : Value) : ∀ k, k ≠ b → (W.setCell ⟨b, j, none⟩ v).heap[k]? = W.heap[k]? := fun _ hk => Below.heap_setCell _ _ _ _ (fun e => hk e)
set_option linter.unusedVariables false in
set_option linter.unusedSimpArgs false in
set_option maxRecDepth 100000 in
set_option maxHeartbeats 2000000 in
theorem mcopy_any {B b : Nat} {ps : List Cp} {t : List UInt8} {pv av bv : Value} {W : World} (h : MkS B b ps t pv av bv W) :
  Calls Tryz.prog 79 #[.pointer (some ⟨b, 1, none⟩)] W fun e W' => e = .returned (.tuple #[]) ∧ MkS B b ps t pv (.pointer (some ⟨b, 1, none⟩)) bv W' ∧ Below B W W' ∧ W'.heap.size = W.heap.size := by
 obtain ⟨j, hj, hjs⟩ := Option.map_eq_some_iff.1 builder_size2
 have hf := h.q.frozen 1
 have hsh := blk3_shape h.q
 rcases h.a with rfl | rfl
 ·have h0 : W.cell? ⟨b, 1, none⟩ = some (.pointer none) := (h.q.cell 1).trans rfl
  have hF := Lib.hid (h.own (W' := W.setCell ⟨b, 1, none⟩ (.pointer (some ⟨b, 1, none⟩))) (.inr rfl) (h.q.set 1 _) (set_far _ _ _ _))
  have hB := Lib.hid ((Below.refl B W).setCell (p := ⟨b, 1, none⟩) h.bb (.pointer (some ⟨b, 1, none⟩)))
  clear h
  go_enter Tryz.func79, Tryz.ntmps79
  go_wp2
  rw [Lib.run_to_unsafe W ⟨b, 1, none⟩ Tryz.underlying100 Tryz.underlying188 hj (by rw [hjs]; decide) hsh (Nat.succ_lt_succ (Nat.zero_lt_succ 1))]
  simp only [Result.andThen]
  rw [Oper.upon_value]
  go_wp2
  rw [run_callFunc_extern Tryz.func97 (by kernel_rfl) (by kernel_rfl) (by kernel_rfl) (e := Extern.AbiNoEscape.same) (by kernel_rfl)]
  rw [Lib.run_noEscape]
  simp only [Result.andThen]
  rw [Oper.upon_value]
  go_wp2
  rw [Lib.run_from_unsafe W ⟨b, 1, none⟩ Tryz.underlying188 Tryz.underlying100 hj hsh maker_lies]
  simp only [Result.andThen]
  rw [Oper.upon_value]
  go_wp2
  go_end0
  exact ⟨rfl, hF.out, hB.out, by simp [World.setCell]⟩
 ·have h0 : W.cell? ⟨b, 1, none⟩ = some (.pointer (some ⟨b, 1, none⟩)) := (h.q.cell 1).trans rfl
  have hF := Lib.hid h
  clear h
  go_enter Tryz.func79, Tryz.ntmps79
  go_wp2
  rw [Lib.run_neq_ptr_same W _ Tryz.underlying100 hj]
  go_wp2
  go_end0
  exact ⟨rfl, hF.out, Below.refl B _, rfl⟩
theorem cu8_info : ∃ i, Tryz.prog.info? 5 = some i ∧ i.zero = some (.int .u8 0) ∧ i.size = 1 ∧ i.bytes = 1 := by
 have h : (Tryz.prog.info? 5).map (fun i => (i.zero, i.size, i.bytes)) = some (some (.int .u8 0), 1, 1) := by kernel_rfl
 obtain ⟨i, hi, he⟩ := Option.map_eq_some_iff.1 h
 injection he with h1 h2
 injection h2 with h2 h3
 exact ⟨i, hi, h1, h2, h3⟩
theorem one_new (w : World) (v : Value) (t : TypeId) : ∀ j u, [v][j]? = some u → (w.alloc (.cells #[v] t)).cell? ((⟨w.heap.size, 0, none⟩ : Addr).add j) = some u := by
 intro j u hu
 cases j with
 | zero =>
  have e : v = u := by simpa using hu
  subst e
  rw [Go.WideShapes.add_plain, Nat.add_zero]
  have hb := Blk.new w #[v] t w.heap.size rfl
  exact (hb.cell 0).trans rfl
 | succ j => simp at hu
theorem byteCells_snoc (t : List UInt8) (c : UInt8) : Lib.byteCells (t ++ [c]) = Lib.byteCells t ++ [.int .u8 (c.toNat : Int)] := by simp [Lib.byteCells]
set_option linter.unusedVariables false in
set_option linter.unusedSimpArgs false in
set_option maxRecDepth 100000 in
set_option maxHeartbeats 2000000 in
/-- A byte is written. -/
theorem mwbyte_any {B b : Nat} {ps : List Cp} {t : List UInt8} {pv av bv : Value} {W : World} (c : UInt8) (h : MkS B b ps t pv av bv W) (hl : t.length ≤ 4000000) (hBw : B ≤ W.heap.size) :
  Calls Tryz.prog 54 #[.pointer (some ⟨b, 1, none⟩), .int .u8 (c.toNat : Int)] W fun e W' => e = .returned .nilIface ∧ (∃ bv', MkS B b ps (t ++ [c]) pv (.pointer (some ⟨b, 1, none⟩)) bv' W') ∧ Below B W W' := by
 obtain ⟨i0, hi, hz0, hz1, hz2⟩ := cu8_info
 have hcp := mcopy_any h
 clear h
 go_enter Tryz.func54, Tryz.ntmps54
 go_wp2_with fail
 refine hcp.mono ?_
 rintro e w1 ⟨rfl, h1, hb1, hs1⟩
 have H1 := Lib.hid h1
 have HB1 := Lib.hid hb1
 have hbs : B ≤ w1.heap.size := by omega
 clear hs1
 have hlt := h1.q.lt
 have c2 : w1.cell? ⟨b, 2, none⟩ = some bv := (h1.q.cell 2).trans rfl
 have hm1 : t.length + 1 ≤ maxLen := by unfold maxLen; omega
 have hnw : ∀ j u, [Value.int .u8 (c.toNat : Int)][j]? = some u → (w1.alloc (.cells #[.int .u8 (c.toNat : Int)] 5)).cell? ((⟨w1.heap.size, 0, none⟩ : Addr).add j) = some u := one_new w1 _ _
 have hbl := (Below.refl w1.heap.size w1).alloc (Nat.le_refl _) (.cells #[.int .u8 (c.toNat : Int)] 5)
 have hbr := rowF_same h1.br (fun g hg => hbl.block g (h1.br.lt g hg).2)
 have HBL := Lib.hid hbl
 clear h1 hb1 hcp hbl
 go_wp2_with (at_builtin; refine wpList_append_ownF _ rfl _ _ 22 rfl B 5 i0 (.int .u8 0) 1 1 Tryz.underlying22 hi hz0 hz1 hz2 rfl (by decide) _ _ _ rfl hbr ⟨w1.heap.size, 0, none⟩ 1 1 [.int .u8 (c.toNat : Int)] rfl rfl hnw (by intro u hu; simp at hu; subst hu; rfl) hm1 (by omega) (by simp; omega) ?_)
 intro v' w2 hown' hgrow _
 have hne := H1.out.nb
 have hq2 := blkGrownR (H1.out.q.below HBL.out H1.out.q.lt) hgrow hne
 have d2 : w2.cell? ⟨b, 2, none⟩ = some bv := (hq2.cell 2).trans rfl
 have f2 := hq2.frozen 2
 obtain ⟨g, cap, rfl⟩ : ∃ g cap, v' = .slice (some ⟨g, 0, none⟩) (t.length + 1) cap := by
  rcases hown'.2 with ⟨_, h0⟩ | ⟨g, cap, cur, fz, hv, _⟩
  ·omega
  ·exact ⟨g, cap, hv⟩
 have hpr2 : w2.ownsRow B 43 2 pv ps.length (cpC ps) := own_row_same H1.out.pr (fun k hk => (hgrow.block k (by have := own_lt' H1.out.pr k hk; have := HBL.out.size; omega) (fun e => H1.out.npb k hk e.symm)).trans (HBL.out.block k (own_lt' H1.out.pr k hk)))
 have hnp := H1.out.np
 have hB2 : Below B W w2 := (HB1.out.trans (HBL.out.mono (by omega))).grown hgrow (by simp; omega) (fun k hk => (H1.out.br.lt k hk).1)
 have hnb' : (Value.slice (some ⟨g, 0, none⟩) (t.length + 1) cap).ownBlock ≠ some b := Lib.ownBlock_neF hown' hq2 (by decide)
 have HF := Lib.hid (show MkS B b ps (t ++ [c]) pv (.pointer (some ⟨b, 1, none⟩)) (.slice (some ⟨g, 0, none⟩) (t.length + 1) cap) (w2.setCell ⟨b, 2, none⟩ (.slice (some ⟨g, 0, none⟩) (t.length + 1) cap)) from
  ⟨hq2.set 2 _, H1.out.bb, .inr rfl, own_row_same hpr2 fun k hk => set_far _ _ _ _ k fun e => hnp (by rw [hk, e]), by
   rw [byteCells_snoc, List.length_append]
   exact rowF_same hown' fun k hk => set_far _ _ _ _ k fun e => hnb' (by rw [hk, e])⟩)
 have HB2 := Lib.hid (hB2.setCell (p := ⟨b, 2, none⟩) H1.out.bb (.slice (some ⟨g, 0, none⟩) (t.length + 1) cap))
 clear hown' hgrow hq2 hpr2 hB2
 go_wp2
 go_ret
 exact ⟨rfl, ⟨_, HF.out⟩, HB2.out⟩
set_option linter.unusedVariables false in
set_option linter.unusedSimpArgs false in
set_option maxRecDepth 100000 in
theorem mlen_any {B b : Nat} {ps : List Cp} {t : List UInt8} {pv av bv : Value} {W : World} (h : MkS B b ps t pv av bv W) :
  Calls Tryz.prog 98 #[.pointer (some ⟨b, 1, none⟩)] W fun e W' => e = .returned (.int .i64 (t.length : Int)) ∧ W' = W := by
 have c2 : W.cell? ⟨b, 2, none⟩ = some bv := (h.q.cell 2).trans rfl
 obtain ⟨a, k, rfl⟩ : ∃ a k, bv = .slice a t.length k := by
  rcases h.br.2 with ⟨rfl, h0⟩ | ⟨g, cap, cur, fz, hv, _⟩
  ·exact ⟨none, 0, by rw [h0]⟩
  ·exact ⟨_, cap, hv⟩
 clear h
 go_enter Tryz.func98, Tryz.ntmps98
 go_wp2_with fail
 go_ret
 exact ⟨rfl, rfl⟩
set_option linter.unusedVariables false in
set_option linter.unusedSimpArgs false in
set_option maxRecDepth 100000 in
theorem mreset_any {B b : Nat} {ps : List Cp} {pv av bv : Value} {W : World} (hq : Blk W b #[pv, av, bv] 158) (hb : B ≤ b) (hp : W.ownsRow B 43 2 pv ps.length (cpC ps)) :
  Calls Tryz.prog 99 #[.pointer (some ⟨b, 1, none⟩)] W fun e W' => e = .returned (.tuple #[]) ∧ MkS B b ps [] pv (.pointer none) (.slice none 0 0) W' ∧ Below B W W' := by
 have c1 : W.cell? ⟨b, 1, none⟩ = some av := (hq.cell 1).trans rfl
 have c2 : W.cell? ⟨b, 2, none⟩ = some bv := (hq.cell 2).trans rfl
 have f1 := hq.frozen 1
 have f2 := hq.frozen 2
 have hnp := own_ne hp hq (by decide)
 have HF := Lib.hid (show MkS B b ps [] pv (.pointer none) (.slice none 0 0) ((W.setCell ⟨b, 1, none⟩ (.pointer none)).setCell ⟨b, 2, none⟩ (.slice none 0 0)) from
  ⟨(hq.set 1 _).set 2 _, hb, .inl rfl, own_row_same hp fun k hk => (set_far _ _ _ _ k fun e => hnp (by rw [hk, e])).trans (set_far _ _ _ _ k fun e => hnp (by rw [hk, e])), World.ownsRowF_nil _ _ _ _⟩)
 have HB := Lib.hid (((Below.refl B W).setCell (p := ⟨b, 1, none⟩) hb (.pointer none)).setCell (p := ⟨b, 2, none⟩) hb (.slice none 0 0))
 clear hq hp hnp
 go_enter Tryz.func99, Tryz.ntmps99
 go_wp2_with fail
 go_end0
 exact ⟨rfl, HF.out, HB.out⟩
end Go.Proofs.YtbgfankoojjejaaGreatDoor
