/- CodeShaped, walked. -/
import Derived.Test.YtjjhkagpoicimaaCoMl
import Derived.Test.YtjjhkagpoicimaaClS
import Derived.Maps.OwnOps
import Derived.Maps.OwnSet
import Derived.Maps.Views
import Derived.Deep.RegionHeld3
namespace Go.Proofs.Ytjjhkagpoicimaa
open Go Go.RowKit

/-- The map of the loops that were entered: 0 to m, each once. -/
structure EntD (D : DataW Unit) (m : Nat) : Prop where
  at' : ∀ k : Int, D.atKey (.int .i64 k) (.lit (.int .i64 0)) = .lit (.int .i64 (if 0 ≤ k ∧ k < (m : Int) then 1 else 0))
  has : ∀ k : Int, Maps.has D (.int .i64 k) = decide (0 ≤ k ∧ k < (m : Int))
  size : Maps.size D = m
def EntAt (w : World) (b m : Nat) : Prop := ∃ D : DataW Unit, w.ownsMap Try.prog 3 (plainElem Try.prog 3) b m D ∧ EntD D m
theorem EntAt.kept {w w' : World} {b m : Nat} {row : Option Nat} (h : EntAt w b m) (hg : w.grownBy w' row) (hne : some b ≠ row) : EntAt w' b m := by
  obtain ⟨D, h1, h2⟩ := h
  exact ⟨D, h1.kept hg hne, h2⟩
theorem EntAt.made (w : World) : EntAt (w.alloc (.map #[] 0)) w.heap.size 0 :=
  ⟨.map [], World.ownsMap_made _ _ _ _, ⟨fun k => by
    rw [if_neg (by omega)]; rfl, fun k => by
    rw [decide_eq_false (by omega)]; rfl, rfl⟩⟩
theorem ent_put {D : DataW Unit} {m : Nat} (h : EntD D m) (ht : Maps.Tidy D) : EntD (D.put (.int .i64 (m : Int)) (.lit (.int .i64 1))) (m + 1) := by
  have hk : WideAt.IsKeyLit (.int .i64 (m : Int)) := by simp [WideAt.IsKeyLit]
  have hne : ∀ k : Int, k ≠ (m : Int) → (Lit.int .i64 k) ≠ .int .i64 (m : Int) := fun k h e => by injection e with _ e; exact h e
  refine ⟨fun k => ?_, fun k => ?_, ?_⟩
  · by_cases hkm : k = (m : Int)
    · subst hkm
      rw [Maps.atKey_put_same ht.isMap hk, if_pos (by omega)]
    · rw [Maps.atKey_put_other (hne k hkm), h.at' k]
      by_cases h2 : 0 ≤ k ∧ k < (m : Int)
      · rw [if_pos h2, if_pos (by omega)]
      · rw [if_neg h2, if_neg (by omega)]
  · by_cases hkm : k = (m : Int)
    · subst hkm
      rw [Maps.has_put_same ht.isMap hk, decide_eq_true (by omega)]
    · rw [Maps.has_put_other (hne k hkm), h.has k]
      exact decide_eq_decide.2 (by omega)
  · rw [Maps.size_put ht, h.has, decide_eq_false (by omega), h.size]; rfl
theorem zero_int (w : World) : (zeroValue 3).run Try.prog w = .ok (.int .i64 0) w := by kernel_rfl
theorem lit_i64 {n : Int} (h0 : -1000000000 ≤ n) (h1 : n ≤ 1000000000) : (Lit.int .i64 n).wf = true := by
  simp [Lit.wf, IntKind.min, IntKind.max, IntKind.bits, IntKind.signed]; omega
theorem key_i64 {n : Int} (h0 : -1000000000 ≤ n) (h1 : n ≤ 1000000000) : keyOf Try.prog 3 (.int .i64 n) = some (.int .i64 n) := Go.Maps.keyOf_int_mk Try.underlying3 (lit_i64 h0 h1)
theorem ent_look {D : DataW Unit} {m : Nat} (h : EntD D m) {k c : Int} (hc : D.atKey (.int .i64 k) (.lit (.int .i64 0)) = .lit (.int .i64 c)) : c = if 0 ≤ k ∧ k < (m : Int) then 1 else 0 := by
  rw [h.at' k] at hc
  injection hc with hc
  injection hc with _ hc
  exact hc.symm
end Go.Proofs.Ytjjhkagpoicimaa
namespace Go.Proofs.Ytjjhkagpoicimaa
open Go Go.RowKit

theorem en_next {op : Int} {st : OSet} {X Y : Int} {l : List Inn} {m M : Nat} (h : enW (⟨op, st, X, Y⟩ :: l) m = some M) : (op = 7 → X = (m : Int) ∧ enW l (m + 1) = some M) ∧ (op = 8 → 0 ≤ X ∧ X < (m : Int) ∧ enW l m = some M) ∧ (op ≠ 7 → op ≠ 8 → enW l m = some M) := by
  rw [enW] at h
  refine ⟨fun e => ?_, fun e => ?_, fun e1 e2 => ?_⟩
  · rw [if_pos e] at h
    split at h
    · rename_i h2; exact ⟨h2, h⟩
    · cases h
  · rw [if_neg (by simp only; omega), if_pos e] at h
    split at h
    · rename_i h2; exact ⟨h2.1, h2.2, h⟩
    · cases h
  · rwa [if_neg e1, if_neg e2] at h
/-- Between two rounds. -/
structure ShI (L : List Inn) (M bm : Nat) (W : World) (k m : Nat) (wr : World) : Prop where
  ent : EntAt wr bm m
  le : m ≤ k
  en : enW (L.drop k) m = some M
  gr : W.grownBy wr (some bm)
theorem ShI.step {L : List Inn} {M bm : Nat} {W wr : World} {k m : Nat} (h : ShI L M bm W k m wr) (o : Obj) (he : enW (L.drop (k + 1)) m = some M) : ShI L M bm W (k + 1) m (wr.alloc o) :=
  ⟨h.ent.kept (World.grownBy_alloc wr o none) (by simp), by have := h.le; omega, he, h.gr.trans (World.grownBy_alloc wr o (some bm))⟩
set_option linter.unusedSimpArgs false in
set_option linter.unusedVariables false in
set_option maxRecDepth 100000 in
set_option maxHeartbeats 4000000 in
theorem shaped7_all (n : Nat) (t : Tr) (a : Option Addr) (ca : Nat) (w : World) (ht : TrAt n w t a ca) (h1 : tall t ≤ 1048576) :
    Calls Try.prog 4 #[tV t a ca] w fun e w' => e = .returned (.bool true) ∧ Below w.heap.size w w' := by
  have hT := Blk.new w (tC t a ca) 27 _ rfl
  have hB := (Below.refl w.heap.size w).alloc (Nat.le_refl _) (.cells (tC t a ca) 27)
  have hF := fun (w' : World) (hb : Below w.heap.size w w') => lfew_any n t a ca 100 w' (TrAt.below hb _ _ _ _ ht) (by omega)
  obtain ⟨N, hN⟩ := trd7 ht
  have HN := Lib.hid hN
  clear ht hN
  obtain ⟨f1, hf1⟩ : ∃ f1, (decide (tall t ≤ 100) && tknown t) = f1 := ⟨_, rfl⟩
  rw [hf1] at hF
  have Hf1 := Lib.hid hf1
  clear hf1 h1
  unfold tV at hF ⊢
  go_enter Try.func4, Try.ntmps4
  go_wp2_with fail
  refine (awake7_any _).mono ?_
  rintro e w1 ⟨rfl, b1⟩
  replace hB := hB.trans (b1.mono hB.size)
  replace hT := hT.below b1 hT.lt
  have hc := blk9 hT
  clear b1
  cases f1
  · obtain ⟨c0, c1, c2, c3, c4, c5, c6, c7, c8⟩ := hc
    go_wp2_with (first
      | (go_at_call 8; refine (hF _ hB).mono ?_; clear hF; rintro e w2 ⟨rfl, b2⟩; replace hB := hB.trans (b2.mono hB.size))
      | (go_at_call 7; refine (awake7_any _).mono ?_; rintro e w3 ⟨rfl, b3⟩))
    go_ret
    exact ⟨rfl, hB.trans (b3.mono hB.size)⟩
  · obtain ⟨hs1, hs2⟩ := few_small Hf1.out
    have hz := nsize_tall t
    have Hz := Lib.hid (show nsize (canon t) ≤ 200 by omega)
    have hRl := fun (w' : World) (hb : Below w.heap.size w w') => real7 (HN.out.below hb) (by have := Hz.out; omega)
    unfold tV at hRl
    have HRl := Lib.hid hRl
    clear hs1 hs2 hz
    obtain ⟨c0, c1, c2, c3, c4, c5, c6, c7, c8⟩ := hc
    go_upto_region 4 with (first
      | (go_at_call 8; refine (hF _ hB).mono ?_; clear hF; rintro e w2 ⟨rfl, b2⟩; replace hB := hB.trans (b2.mono hB.size); replace hT := hT.below b2 hT.lt; clear c0 c1 c2 c3 c4 c5 c6 c7 c8 b2; obtain ⟨c0, c1, c2, c3, c4, c5, c6, c7, c8⟩ := blk9 hT)
      | (go_at_call 10; refine (hRl _ hB).mono ?_; clear hRl; rintro e w6 ⟨T, v, rfl, hd6, b6⟩; replace hB := hB.trans (b6.mono hB.size); replace hT := hT.below b6 hT.lt; clear c0 c1 c2 c3 c4 c5 c6 c7 c8 b6; have hC6 := compile_any (canon t) _ w6 hd6 (by have := Hz.out; omega); clear hd6)
      | (go_at_call 9; refine hC6.mono ?_; clear hC6; rintro e w7 ⟨b7, h7⟩; replace hB := hB.trans (b7.mono hB.size); replace hT := hT.below b7 hT.lt; clear b7; (rcases h7 with ⟨_, rfl⟩ | ⟨_, _, rfl⟩ | ⟨hr7, hl7, iv, rfl, ho⟩) <;> (try (obtain ⟨q, c, rfl, hqB, hq, hqc, hcm, hcell⟩ := inst_cells ho (by rw [prg_len]; omega)))))
    · go_wp2_with fail
      go_ret
      exact ⟨rfl, hB.alloc hB.size _⟩
    · go_wp2_with fail
      go_ret
      exact ⟨rfl, hB.alloc hB.size _⟩
    obtain ⟨s1, s2, s3⟩ := prg_shape (canon t) hr7
    have hgr := ngroups_size (canon t)
    have hzz := Hz.out
    obtain ⟨D, hD⟩ : ∃ D, canon t = D := ⟨_, rfl⟩
    have HD := Lib.hid hD
    rw [hD] at s1 s2 s3 hcell hqc hl7 hgr hzz ⊢
    obtain ⟨L, hL⟩ : ∃ L, prg D = L := ⟨_, rfl⟩
    obtain ⟨C, hC⟩ : ∃ C, L.length = C := ⟨_, rfl⟩
    have hCz : C = csz D + 3 := by rw [← hC, ← hL, prg_len]
    obtain ⟨Z, hZ⟩ : ∃ Z, csz D = Z := ⟨_, rfl⟩
    obtain ⟨G, hG⟩ : ∃ G, ngroups D = G := ⟨_, rfl⟩
    obtain ⟨M, hM⟩ : ∃ M, clp D = M := ⟨_, rfl⟩
    obtain ⟨bk, hbk⟩ : ∃ bk, nbacks D = bk := ⟨_, rfl⟩
    rw [hG] at hgr
    have hG2 : G ≤ 200 := by omega
    rw [hZ] at hCz hl7 s1 s3
    rw [hM] at s2
    rw [hG, hbk] at s1
    rw [hL] at s1 s2 s3 hcell hqc
    rw [hL, hM, hG, hbk]
    rw [hC] at hqc
    rw [hC]
    have HG := Lib.hid hG
    have HS1 := Lib.hid s1
    have HS3 := Lib.hid s3
    have HCell := Lib.hid hcell
    have HC := Lib.hid hC
    clear s1 s3 hcell hC hL hZ hG hM hbk hD ho hr7 hqB
    have hmm := @run_makeMap Try.prog
    have hTl := hT.lt
    obtain ⟨R, hR⟩ : ∃ R, w7.heap.size = R := ⟨_, rfl⟩
    rw [hR] at hTl
    obtain ⟨W7, hW7⟩ : ∃ W7, w7.alloc (.cells #[.slice (some ⟨q, 0, none⟩) C c, .int .i64 (G : Int), .int .i64 (M : Int), .bool bk] 32) = W7 := ⟨_, rfl⟩
    have hP := Blk.new w7 #[.slice (some ⟨q, 0, none⟩) C c, .int .i64 (G : Int), .int .i64 (M : Int), .bool bk] 32 R hR.symm
    have hb7 : Below w7.heap.size w7 W7 := by rw [← hW7]; exact (Below.refl _ _).alloc (Nat.le_refl _) _
    have hs7 : W7.heap.size = R + 1 := by rw [← hW7, World.size_alloc, hR]
    rw [hW7] at hP ⊢
    replace hB := hB.trans (hb7.mono hB.size)
    replace hT := hT.below hb7 hT.lt
    have HC7 := Lib.hid (fun j (hj : j < L.length) i (hi : i < 7) => (hb7.cell (p := ⟨q, j * 7 + i, none⟩) hq).trans (HCell.out j hj i hi))
    have hqR : q < R := by omega
    rw [hR]
    obtain ⟨W8, hW8⟩ : ∃ W8, W7.alloc (.map #[] 0) = W8 := ⟨_, rfl⟩
    have hb8 : Below W7.heap.size W7 W8 := by rw [← hW8]; exact (Below.refl _ _).alloc (Nat.le_refl _) _
    have hE8 := EntAt.made W7
    rw [hW8, hs7] at hE8
    have hP8 := hP.below hb8 hP.lt
    replace hB := hB.trans (hb8.mono hB.size)
    replace hT := hT.below hb8 hT.lt
    have HC8 := Lib.hid (fun j (hj : j < L.length) i (hi : i < 7) => (hb8.cell (p := ⟨q, j * 7 + i, none⟩) (show q < W7.heap.size by omega)).trans (HC7.out j hj i hi))
    have hs8 : W8.heap.size = R + 2 := by rw [← hW8, World.size_alloc, hs7]
    clear hW7 hb7 HCell hR hq hb8 HC7 hP
    obtain ⟨p0, p1, p2, p3, _⟩ := blk4 hP8
    have hCw : (C : Int) ≤ 3000 := by omega
    have h0C : (0 : Int) ≤ (C : Int) := by omega
    have hI0 : ShI L M (R + 1) W8 0 0 W8 := ⟨hE8, Nat.le_refl _, s2, World.grownBy.refl _ _⟩
    have HCz := Lib.hid hCz
    clear hCz
    have HB := Lib.hid hB
    have HT := Lib.hid hT
    have HP8 := Lib.hid hP8
    have HI0 := Lib.hid hI0
    clear s2 hE8 hB hT hP8 hI0 hzz hgr
    go_upto_region 7 with fail
    clear hs7 hW8
    go_wp2_with fail
    go_loopw [33] (fun i wr => ∃ (k m : Nat), k ≤ C ∧ i = .int .i64 k ∧ ShI L M (R + 1) W8 k m wr) (fun i _ => C - (intOf i).toNat)
    case atStart => exact ⟨0, 0, by omega, rfl, HI0.out⟩
    case round =>
      obtain ⟨k, m, hk, rfl, hI⟩ := hrel
      have hcl : ∀ b, b < R + 1 → wr.heap[b]? = W8.heap[b]? := fun b hb => hI.gr.block b (by omega) (fun e => by injection e with e; omega)
      have hsw := hI.gr.size
      have r0 := (World.cell?_of_block (w := W8) (a := ⟨R, 0, none⟩) (hcl R (by omega))).trans p0
      have r1 := (World.cell?_of_block (w := W8) (a := ⟨R, 1, none⟩) (hcl R (by omega))).trans p1
      have r2 := (World.cell?_of_block (w := W8) (a := ⟨R, 2, none⟩) (hcl R (by omega))).trans p2
      have r3 := (World.cell?_of_block (w := W8) (a := ⟨R, 3, none⟩) (hcl R (by omega))).trans p3
      have hRw : R + 1 < wr.heap.size := by omega
      have hal := fun o => (Below.refl wr.heap.size wr).alloc (Nat.le_refl _) o
      have a0 := fun o => ((hal o).cell (p := ⟨R, 0, none⟩) (show R < wr.heap.size by omega)).trans r0
      have a1 := fun o => ((hal o).cell (p := ⟨R, 1, none⟩) (show R < wr.heap.size by omega)).trans r1
      have a3 := fun o => ((hal o).cell (p := ⟨R, 3, none⟩) (show R < wr.heap.size by omega)).trans r3
      clear hal
      have HI := Lib.hid hI
      by_cases hlt : k < C
      · have hCk : k < L.length := by rw [HC.out]; exact hlt
        have hlti : (k : Int) < (C : Int) := by omega
        have hx := fun i hi => (World.cell?_of_block (w := W8) (a := ⟨q, k * 7 + i, none⟩) (hcl q (by omega))).trans (HC8.out k hCk i hi)
        have hen := hI.en
        rw [List.drop_eq_getElem_cons hCk] at hen
        have hsh := HS1.out k hCk
        have hls := HS3.out
        have hml := hI.le
        obtain ⟨D0, hown, hEn⟩ := hI.ent
        have Wk : IntKind.i64.wrap ((k : Int) + 1) = (k : Int) + 1 := IntWalk.i64_in _ (by omega)
        obtain ⟨C1, hC1⟩ : ∃ C1, C - 1 = C1 := ⟨_, rfl⟩
        have WC : IntKind.i64.wrap ((C : Int) - 1) = (C1 : Int) := by rw [IntWalk.i64_in _ (by omega)]; omega
        have HOwn := Lib.hid hown
        have HEn := Lib.hid hEn
        by_cases hlast : k + 1 = C
        · have hxe : L[k] = ins 9 0 0 := by
            have hZk : Z + 2 = k := by have := HCz.out; omega
            subst hZk
            exact hls hCk
          rw [hxe] at hen hx
          obtain ⟨_, _, hn⟩ := en_next hen
          have hstep := fun o => ShI.step HI.out o (hn (by decide) (by decide))
          have Hstep := Lib.hid hstep
          have x0 : wr.cell? ⟨q, k * 7, none⟩ = some (.int .i64 9) := hx 0 (by omega)
          have x1 : wr.cell? ⟨q, k * 7 + 1, none⟩ = some (.int .u64 (ow (0 : OSet) 0)) := hx 1 (by omega)
          have x2 : wr.cell? ⟨q, k * 7 + 2, none⟩ = some (.int .u64 (ow (0 : OSet) 1)) := hx 2 (by omega)
          have x3 : wr.cell? ⟨q, k * 7 + 3, none⟩ = some (.int .u64 (ow (0 : OSet) 2)) := hx 3 (by omega)
          have x4 : wr.cell? ⟨q, k * 7 + 4, none⟩ = some (.int .u64 (ow (0 : OSet) 3)) := hx 4 (by omega)
          have x5 : wr.cell? ⟨q, k * 7 + 5, none⟩ = some (.int .i64 0) := hx 5 (by omega)
          have x6 : wr.cell? ⟨q, k * 7 + 6, none⟩ = some (.int .i64 0) := hx 6 (by omega)
          have e0 : ((k : Int) == (C1 : Int)) = true := by simp; omega
          clear hx hen hn hsh hls hxe hstep hI hcl hown hEn hlast
          go_wp2_with fail
          go_roundw
          case rel => exact ⟨k + 1, m, by omega, by go_num, Hstep.out _⟩
          case measure => simp [intOf]; omega
        · have hsh := hsh (by rw [HC.out]; omega)
          have e0 : ((k : Int) == (C1 : Int)) = false := by simp; omega
          generalize L[k] = x at hx hen hsh
          obtain ⟨op, st, X, Y⟩ := x
          obtain ⟨n7, n8, nn⟩ := en_next hen
          obtain ⟨h9, hs1, hs2, hs3, hs4⟩ := hsh
          have h9 : ¬ op = 9 := h9
          have e9 : (op == 9) = false := by simp [h9]
          have x0 : wr.cell? ⟨q, k * 7, none⟩ = some (.int .i64 op) := hx 0 (by omega)
          have x1 : wr.cell? ⟨q, k * 7 + 1, none⟩ = some (.int .u64 (ow st 0)) := hx 1 (by omega)
          have x2 : wr.cell? ⟨q, k * 7 + 2, none⟩ = some (.int .u64 (ow st 1)) := hx 2 (by omega)
          have x3 : wr.cell? ⟨q, k * 7 + 3, none⟩ = some (.int .u64 (ow st 2)) := hx 3 (by omega)
          have x4 : wr.cell? ⟨q, k * 7 + 4, none⟩ = some (.int .u64 (ow st 3)) := hx 4 (by omega)
          have x5 : wr.cell? ⟨q, k * 7 + 5, none⟩ = some (.int .i64 X) := hx 5 (by omega)
          have x6 : wr.cell? ⟨q, k * 7 + 6, none⟩ = some (.int .i64 Y) := hx 6 (by omega)
          have HN7 := Lib.hid n7
          have HN8 := Lib.hid n8
          have HNN := Lib.hid nn
          have HS := Lib.hid (And.intro hs1 (And.intro hs2 (And.intro hs3 hs4)))
          clear hx hen hls hI hcl hown hEn hlast n7 n8 nn hs1 hs2 hs3 hs4 h9
          by_cases hk1 : op = 1
          · have e1 : (op == 1) = true := by simp [hk1]
            have e2 : (op == 2) = false := by simp [hk1]
            have e3 : (op == 3) = false := by simp [hk1]
            have e4 : (op == 4) = false := by simp [hk1]
            have e7 : (op == 7) = false := by simp [hk1]
            have e8 : (op == 8) = false := by simp [hk1]
            have hq := HS.out.1 hk1
            have f1 : (X != (k : Int) + 1) = false := by simp; have := hq.1; simp only at this; omega
            have f2 : ¬ Y ≤ (k : Int) := by have := hq.2.1; simp only at this; omega
            have f3 : ¬ (C : Int) ≤ Y := by have := hq.2.2; have := HCz.out; simp only at *; omega
            have Hstep := Lib.hid (fun o => ShI.step HI.out o (HNN.out (by omega) (by omega)))
            clear hq hk1
            go_wp2_with fail
            go_roundw
            case rel => exact ⟨k + 1, m, by omega, by go_num, Hstep.out _⟩
            case measure => simp [intOf]; omega
          have hn1 := hk1
          clear hk1
          by_cases hk2 : op = 2
          · have e1 : (op == 1) = false := by simp [hk2]
            have e2 : (op == 2) = true := by simp [hk2]
            have e3 : (op == 3) = false := by simp [hk2]
            have e4 : (op == 4) = false := by simp [hk2]
            have e7 : (op == 7) = false := by simp [hk2]
            have e8 : (op == 8) = false := by simp [hk2]
            have hq := HS.out.2.1 hk2
            have f1 : ¬ X < 0 := by have := hq.1; simp only at this; omega
            have f2 : ¬ (C : Int) ≤ X := by have := hq.2.1; have := HCz.out; simp only at *; omega
            have f3 : (X == (k : Int)) = false := by have := hq.2.2; simp only at this; simp; omega
            have Hstep := Lib.hid (fun o => ShI.step HI.out o (HNN.out (by omega) (by omega)))
            clear hq hk2
            go_wp2_with fail
            go_roundw
            case rel => exact ⟨k + 1, m, by omega, by go_num, Hstep.out _⟩
            case measure => simp [intOf]; omega
          have hn2 := hk2
          clear hk2
          by_cases hk3 : op = 3
          · have e1 : (op == 1) = false := by simp [hk3]
            have e2 : (op == 2) = false := by simp [hk3]
            have e3 : (op == 3) = true := by simp [hk3]
            have e4 : (op == 4) = false := by simp [hk3]
            have e7 : (op == 7) = false := by simp [hk3]
            have e8 : (op == 8) = false := by simp [hk3]
            have hq := HS.out.2.2.1 hk3
            have f1 : ¬ X < 0 := by have := hq.1; simp only at this; omega
            have f2 : ¬ 2 * (G : Int) + 1 < X := by have := hq.2; simp only at this; omega
            have W1 : IntKind.i64.wrap (2 * (G : Int)) = 2 * (G : Int) := IntWalk.i64_in _ (by omega)
            have W2 : IntKind.i64.wrap (2 * (G : Int) + 1) = 2 * (G : Int) + 1 := IntWalk.i64_in _ (by omega)
            have Hstep := Lib.hid (fun o => ShI.step HI.out o (HNN.out (by omega) (by omega)))
            clear hq hk3
            go_wp2_with fail
            go_roundw
            case rel => exact ⟨k + 1, m, by omega, by go_num, Hstep.out _⟩
            case measure => simp [intOf]; omega
          have hn3 := hk3
          clear hk3
          by_cases hk4 : op = 4
          · have e1 : (op == 1) = false := by simp [hk4]
            have e2 : (op == 2) = false := by simp [hk4]
            have e3 : (op == 3) = false := by simp [hk4]
            have e4 : (op == 4) = true := by simp [hk4]
            have e7 : (op == 7) = false := by simp [hk4]
            have e8 : (op == 8) = false := by simp [hk4]
            have hq := HS.out.2.2.2 hk4
            have f1 : ¬ X < 1 := by have := hq.1; simp only at this; omega
            have f2 : ¬ (G : Int) < X := by have := hq.2.1; simp only at this; omega
            have f3 : bk = true := hq.2.2
            have Hstep := Lib.hid (fun o => ShI.step HI.out o (HNN.out (by omega) (by omega)))
            clear hq hk4
            go_wp2_with fail
            go_roundw
            case rel => exact ⟨k + 1, m, by omega, by go_num, Hstep.out _⟩
            case measure => simp [intOf]; omega
          have hn4 := hk4
          clear hk4
          by_cases hk7 : op = 7
          · have e1 : (op == 1) = false := by simp [hk7]
            have e2 : (op == 2) = false := by simp [hk7]
            have e3 : (op == 3) = false := by simp [hk7]
            have e4 : (op == 4) = false := by simp [hk7]
            have e7 : (op == 7) = true := by simp [hk7]
            have e8 : (op == 8) = false := by simp [hk7]
            obtain ⟨rfl, hen⟩ := HN7.out hk7
            have hkey := key_i64 (n := (m : Int)) (by omega) (by omega)
            have HKey := Lib.hid hkey
            have Wm : IntKind.i64.wrap ((m : Int) + 1 - 1) = (m : Int) := by rw [IntWalk.i64_in _ (by omega)]; omega
            have Wm2 : IntKind.i64.wrap (m : Int) = (m : Int) := IntWalk.i64_in _ (by omega)
            have Hen := Lib.hid hen
            clear hkey hen hk7
            go_wp2_with (first
              | (at_lookup; refine wpList_lookup_own_int _ rfl _ _ 51 rfl 3 3 .i64 (Go.Maps.int_keyed Try.underlying3) Try.underlying51 Try.underlying3 (zero_int _) (R + 1) m D0 rfl (HOwn.out.alloc _) _ _ rfl HKey.out ?_; intro c0 hat hwc; have hc0 := ent_look HEn.out hat; clear hat hwc; rw [if_neg (by omega)] at hc0; subst hc0)
              | (at_mapUpdate; refine wpList_mapUpdate_own _ rfl _ _ _ 51 rfl 3 3 (Go.Maps.int_keyed Try.underlying3) Try.underlying51 _ (R + 1) m D0 rfl (HOwn.out.alloc _) (by unfold maxLen; omega) _ _ _ rfl rfl HKey.out (.lit (.int .i64 1)) [] (plainElem_int Try.underlying3 (by decide)) ?_; intro w9 hown9 hg9; have y5 := (World.cell?_of_block (w := wr.alloc _) (a := ⟨wr.heap.size, 5, none⟩) (hg9.block wr.heap.size (by simp) (fun e => by injection e with e; omega))).trans ((Blk.new wr #[.int .i64 op, .int .u64 (ow st 0), .int .u64 (ow st 1), .int .u64 (ow st 2), .int .u64 (ow st 3), .int .i64 (m : Int), .int .i64 Y] 49 wr.heap.size rfl).cell 5); have hsz9 : Maps.size (D0.put (.int .i64 (m : Int)) (.lit (.int .i64 1))) = m + 1 := (ent_put HEn.out (HOwn.out.tidy (Go.Maps.int_keyed Try.underlying3))).size; have hlen9 := fun ty => (hown9.len (t := 51) (e := 3) Try.underlying51 ty).trans (by rw [hsz9]); have H9 := Lib.hid (And.intro hown9 hg9); clear hown9 hg9))
            go_roundw
            case rel => exact ⟨k + 1, m + 1, by omega, by go_num, ⟨⟨_, H9.out.1, ent_put HEn.out (HOwn.out.tidy (Go.Maps.int_keyed Try.underlying3))⟩, by have := HI.out.le; omega, Hen.out, HI.out.gr.trans ((World.grownBy_alloc wr _ (some (R + 1))).trans H9.out.2)⟩⟩
            case measure => simp [intOf]; omega
          have hn7 := hk7
          clear hk7
          by_cases hk8 : op = 8
          · have e1 : (op == 1) = false := by simp [hk8]
            have e2 : (op == 2) = false := by simp [hk8]
            have e3 : (op == 3) = false := by simp [hk8]
            have e4 : (op == 4) = false := by simp [hk8]
            have e7 : (op == 7) = false := by simp [hk8]
            have e8 : (op == 8) = true := by simp [hk8]
            obtain ⟨hX0, hXm, hen⟩ := HN8.out hk8
            have hkey := key_i64 (n := X) (by omega) (by omega)
            have HX := Lib.hid (And.intro hX0 hXm)
            have HKey := Lib.hid hkey
            have Hen := Lib.hid hen
            have Hstep := Lib.hid (fun o => ShI.step HI.out o Hen.out)
            clear hX0 hXm hkey hen hk8
            go_wp2_with (at_lookup; refine wpList_lookup_own_int _ rfl _ _ 51 rfl 3 3 .i64 (Go.Maps.int_keyed Try.underlying3) Try.underlying51 Try.underlying3 (zero_int _) (R + 1) m D0 rfl (HOwn.out.alloc _) _ _ rfl HKey.out ?_; intro c0 hat hwc; have hc0 := ent_look HEn.out hat; clear hat hwc; rw [if_pos HX.out] at hc0; subst hc0)
            go_roundw
            case rel => exact ⟨k + 1, m, by omega, by go_num, Hstep.out _⟩
            case measure => simp [intOf]; omega
          have hn8 := hk8
          clear hk8
          have e1 : (op == 1) = false := by simp [hn1]
          have e2 : (op == 2) = false := by simp [hn2]
          have e3 : (op == 3) = false := by simp [hn3]
          have e4 : (op == 4) = false := by simp [hn4]
          have e7 : (op == 7) = false := by simp [hn7]
          have e8 : (op == 8) = false := by simp [hn8]
          have Hstep := Lib.hid (fun o => ShI.step HI.out o (HNN.out hn7 hn8))
          clear hn1 hn2 hn3 hn4 hn7 hn8
          go_wp2_with fail
          go_roundw
          case rel => exact ⟨k + 1, m, by omega, by go_num, Hstep.out _⟩
          case measure => simp [intOf]; omega
      · obtain rfl : C = k := by omega
        have hen := hI.en
        rw [← HC.out, List.drop_length, enW] at hen
        have hmM : m = M := by injection hen
        subst hmM
        obtain ⟨D0, hown, hEn⟩ := hI.ent
        have hsz0 : Maps.size D0 = m := hEn.size
        have hTw := blk_like HT.out (hcl w.heap.size (by omega))
        obtain ⟨c0, c1, c2, c3, c4, c5, c6, c7, c8⟩ := blk9 hTw
        have hBw : Below w.heap.size w wr := HB.out.trans ⟨hI.gr.os, hI.gr.tape, hI.gr.output, hI.gr.size, fun b hb => hcl b (by omega)⟩
        have hwl : w.heap.size < wr.heap.size := by omega
        have hmix : Try.prog.follows .mixedOrders = true := by kernel_rfl
        have hRl := HRl.out wr.drew (hBw.trans (Below.drew (Below.refl _ _)))
        have hGr := fun (w' : World) (v : Value) (hd : NdX (fun b => b < w'.heap.size) w' (canon t) v) => pgroups_any (canon t) v w' hd (by have := Hz.out; omega)
        rw [HD.out, HG.out] at hGr
        have HBw := Lib.hid hBw
        clear hI hcl hen a0 a1 a3 r3 hTw hBw hEn HC HS1 HS3 HC8
        go_upto_region 34 with fail
        have hS0 : ∀ W' : World, Below wr.heap.size wr W' → (fun W' : World => W'.cell? ⟨R, 1, none⟩ = some (.int .i64 (G : Int)) ∧ W'.cell? ⟨R, 2, none⟩ = some (.int .i64 (m : Int)) ∧ (W'.cell? ⟨w.heap.size, 0, none⟩ = some (.int .i64 t.kind) ∧ W'.cell? ⟨w.heap.size, 1, none⟩ = some (.int .u64 (ow t.set 0)) ∧ W'.cell? ⟨w.heap.size, 2, none⟩ = some (.int .u64 (ow t.set 1)) ∧ W'.cell? ⟨w.heap.size, 3, none⟩ = some (.int .u64 (ow t.set 2)) ∧ W'.cell? ⟨w.heap.size, 4, none⟩ = some (.int .u64 (ow t.set 3)) ∧ W'.cell? ⟨w.heap.size, 5, none⟩ = some (.slice a t.parts.length ca) ∧ W'.cell? ⟨w.heap.size, 6, none⟩ = some (.int .i64 t.mn) ∧ W'.cell? ⟨w.heap.size, 7, none⟩ = some (.int .i64 t.mx) ∧ W'.cell? ⟨w.heap.size, 8, none⟩ = some (.int .i64 t.num)) ∧ (∀ ty, (Builtin.len_ #[51] ty #[.map (some (R + 1))]).run Try.prog W' = .ok (.int .i64 (m : Int)) W')) W' := fun W' hW => ⟨(hW.cell (p := ⟨R, 1, none⟩) (show R < wr.heap.size by omega)).trans r1, (hW.cell (p := ⟨R, 2, none⟩) (show R < wr.heap.size by omega)).trans r2, ⟨(hW.cell (p := ⟨w.heap.size, 0, none⟩) hwl).trans c0, (hW.cell (p := ⟨w.heap.size, 1, none⟩) hwl).trans c1, (hW.cell (p := ⟨w.heap.size, 2, none⟩) hwl).trans c2, (hW.cell (p := ⟨w.heap.size, 3, none⟩) hwl).trans c3, (hW.cell (p := ⟨w.heap.size, 4, none⟩) hwl).trans c4, (hW.cell (p := ⟨w.heap.size, 5, none⟩) hwl).trans c5, (hW.cell (p := ⟨w.heap.size, 6, none⟩) hwl).trans c6, (hW.cell (p := ⟨w.heap.size, 7, none⟩) hwl).trans c7, (hW.cell (p := ⟨w.heap.size, 8, none⟩) hwl).trans c8⟩, fun ty => ((hown.kept (w' := W') (row := none) ⟨hW.os, hW.tape, hW.output, hW.size, fun b hb _ => hW.block b hb⟩ (by simp)).len (t := 51) (e := 3) Try.underlying51 ty).trans (by rw [hsz0])⟩
        refine wp_region_held_drew (S := fun W' : World => W'.cell? ⟨R, 1, none⟩ = some (.int .i64 (G : Int)) ∧ W'.cell? ⟨R, 2, none⟩ = some (.int .i64 (m : Int)) ∧ (W'.cell? ⟨w.heap.size, 0, none⟩ = some (.int .i64 t.kind) ∧ W'.cell? ⟨w.heap.size, 1, none⟩ = some (.int .u64 (ow t.set 0)) ∧ W'.cell? ⟨w.heap.size, 2, none⟩ = some (.int .u64 (ow t.set 1)) ∧ W'.cell? ⟨w.heap.size, 3, none⟩ = some (.int .u64 (ow t.set 2)) ∧ W'.cell? ⟨w.heap.size, 4, none⟩ = some (.int .u64 (ow t.set 3)) ∧ W'.cell? ⟨w.heap.size, 5, none⟩ = some (.slice a t.parts.length ca) ∧ W'.cell? ⟨w.heap.size, 6, none⟩ = some (.int .i64 t.mn) ∧ W'.cell? ⟨w.heap.size, 7, none⟩ = some (.int .i64 t.mx) ∧ W'.cell? ⟨w.heap.size, 8, none⟩ = some (.int .i64 t.num)) ∧ (∀ ty, (Builtin.len_ #[51] ty #[.map (some (R + 1))]).run Try.prog W' = .ok (.int .i64 (m : Int)) W')) hmix (hS0 _ (Below.drew (Below.refl _ _))) (fun hHeld => ?_)
        refine wpAnyH_take (i := 0) (v := ?_) rfl (by kernel_rfl) (by kernel_rfl) (by kernel_rfl) (fun _ _ _ h => h) (Or.inl ⟨by rfl, ?_⟩) (by assumption) ?_
        rotate_left
        · intro W' hSw; obtain ⟨d1, d2, ⟨t0, t1, t2, t3, t4, t5, t6, t7, t8⟩, dl⟩ := hSw; go_simp; try with_reducible rfl
        try simp only [Act.put, List.setIfInBounds_toArray, List.set_cons_zero, List.set_cons_succ]
        refine wpAnyH_take (i := 1) (v := ?_) rfl (by kernel_rfl) (by kernel_rfl) (by kernel_rfl) (fun _ _ _ h => h) (Or.inl ⟨by rfl, ?_⟩) (by assumption) ?_
        rotate_left
        · intro W' hSw; obtain ⟨d1, d2, ⟨t0, t1, t2, t3, t4, t5, t6, t7, t8⟩, dl⟩ := hSw; go_simp; try with_reducible rfl
        try simp only [Act.put, List.setIfInBounds_toArray, List.set_cons_zero, List.set_cons_succ]
        refine wpAnyH_take (i := 2) (v := ?_) rfl (by kernel_rfl) (by kernel_rfl) (by kernel_rfl) (fun _ _ _ h => h) (Or.inl ⟨by rfl, ?_⟩) (by assumption) ?_
        rotate_left
        · intro W' hSw; obtain ⟨d1, d2, ⟨t0, t1, t2, t3, t4, t5, t6, t7, t8⟩, dl⟩ := hSw; go_simp; try with_reducible rfl
        try simp only [Act.put, List.setIfInBounds_toArray, List.set_cons_zero, List.set_cons_succ]
        refine wpAnyH_take (i := 3) (v := ?_) rfl (by kernel_rfl) (by kernel_rfl) (by kernel_rfl) (fun _ _ _ h => h) (Or.inl ⟨by rfl, ?_⟩) (by assumption) ?_
        rotate_left
        · intro W' hSw; obtain ⟨d1, d2, ⟨t0, t1, t2, t3, t4, t5, t6, t7, t8⟩, dl⟩ := hSw; go_simp; try with_reducible rfl
        try simp only [Act.put, List.setIfInBounds_toArray, List.set_cons_zero, List.set_cons_succ]
        refine wpAnyH_take (i := 4) (v := .bool true) rfl (by kernel_rfl) (by kernel_rfl) (by kernel_rfl) (fun _ _ _ h => h) (Or.inl ⟨by rfl, ?_⟩) (by assumption) ?_
        · intro W' hSw; obtain ⟨d1, d2, ⟨t0, t1, t2, t3, t4, t5, t6, t7, t8⟩, dl⟩ := hSw; go_simp; try with_reducible rfl
        try simp only [Act.put, List.setIfInBounds_toArray, List.set_cons_zero, List.set_cons_succ]
        refine wpAnyH_take (i := 5) (v := .bool true) rfl (by kernel_rfl) (by kernel_rfl) (by kernel_rfl) (fun _ _ _ h => h) (Or.inl ⟨by rfl, ?_⟩) (by assumption) ?_
        · intro W' hSw; obtain ⟨d1, d2, ⟨t0, t1, t2, t3, t4, t5, t6, t7, t8⟩, dl⟩ := hSw; go_simp; try with_reducible rfl
        try simp only [Act.put, List.setIfInBounds_toArray, List.set_cons_zero, List.set_cons_succ]
        refine wpAnyH_take (i := 6) (v := ?_) rfl (by kernel_rfl) (by kernel_rfl) (by kernel_rfl) (fun _ _ _ h => h) (Or.inl ⟨by kernel_rfl, ?_⟩) (by assumption) ?_
        rotate_left
        · intro W' hSw; obtain ⟨d1, d2, ⟨t0, t1, t2, t3, t4, t5, t6, t7, t8⟩, dl⟩ := hSw; go_simp; try with_reducible rfl
        try simp only [Act.put, List.setIfInBounds_toArray, List.set_cons_zero, List.set_cons_succ]
        refine wpAnyH_take (i := 7) (v := ?_) rfl (by kernel_rfl) (by kernel_rfl) (by kernel_rfl) (fun _ _ _ h => h) (Or.inl ⟨by kernel_rfl, ?_⟩) (by assumption) ?_
        rotate_left
        · intro W' hSw; obtain ⟨d1, d2, ⟨t0, t1, t2, t3, t4, t5, t6, t7, t8⟩, dl⟩ := hSw; go_simp; try with_reducible rfl
        try simp only [Act.put, List.setIfInBounds_toArray, List.set_cons_zero, List.set_cons_succ]
        refine wpAnyH_take (i := 8) (v := ?_) rfl (by kernel_rfl) (by kernel_rfl) (by kernel_rfl) (fun _ _ _ h => h) (Or.inl ⟨by kernel_rfl, ?_⟩) (by assumption) ?_
        rotate_left
        · intro W' hSw; obtain ⟨d1, d2, ⟨t0, t1, t2, t3, t4, t5, t6, t7, t8⟩, dl⟩ := hSw; go_simp; try with_reducible rfl
        try simp only [Act.put, List.setIfInBounds_toArray, List.set_cons_zero, List.set_cons_succ]
        refine wpAnyH_ready (rs := [9]) (by kernel_rfl) (by simp) ?_
        refine AllReadyH.cons rfl (fun K hK => ?_) AllReadyH.nil
        go_simp
        go_wp2_with (go_at_call 10; go_loud (refine hRl.mono ?_; rintro e w6 ⟨T2, v2, rfl, hd2, b6⟩))
        have b60 : Below wr.heap.size wr w6 := (Below.drew (Below.refl _ wr)).trans b6
        refine hK.out _ _ (hS0 _ b60) (fun hHeld2 => ?_)
        clear hK K hHeld
        try simp only [Act.put, List.setIfInBounds_toArray, List.set_cons_zero, List.set_cons_succ]
        refine wpAnyH_ready (rs := [10]) (by kernel_rfl) (by simp) ?_
        refine AllReadyH.cons rfl (fun K hK => ?_) AllReadyH.nil
        rw [HD.out] at hd2
        have hGc := hGr w6 _ hd2
        go_simp
        go_wp2_with (go_at_call 14; go_loud (refine hGc.mono ?_; rintro e w8 ⟨rfl, b8⟩))
        have b80 : Below wr.heap.size wr w8 := b60.trans (b8.mono b60.size)
        refine hK.out _ _ (hS0 _ b80) (fun hHeld3 => ?_)
        clear hK K hHeld2
        try simp only [Act.put, List.setIfInBounds_toArray, List.set_cons_zero, List.set_cons_succ]
        refine wpAnyH_take (i := 11) (v := .bool true) rfl (by kernel_rfl) (by kernel_rfl) (by kernel_rfl) (fun _ _ _ h => h) (Or.inl ⟨by kernel_rfl, ?_⟩) (by assumption) ?_
        · intro W' hSw; obtain ⟨d1, d2, ⟨t0, t1, t2, t3, t4, t5, t6, t7, t8⟩, dl⟩ := hSw; go_simp; try with_reducible rfl
        try simp only [List.getElem_toArray, List.getElem_cons_succ, List.getElem_cons_zero, Act.put, List.setIfInBounds_toArray, List.set_cons_zero, List.set_cons_succ]
        refine wpAnyH_take (i := 12) (v := .bool true) rfl (by kernel_rfl) (by kernel_rfl) (by kernel_rfl) (fun _ _ _ h => h) (Or.inl ⟨by kernel_rfl, ?_⟩) (by assumption) ?_
        · intro W' hSw; obtain ⟨d1, d2, ⟨t0, t1, t2, t3, t4, t5, t6, t7, t8⟩, dl⟩ := hSw; go_simp; try with_reducible rfl
        try simp only [List.getElem_toArray, List.getElem_cons_succ, List.getElem_cons_zero, Act.put, List.setIfInBounds_toArray, List.set_cons_zero, List.set_cons_succ]
        refine wpAnyH_take (i := 13) (v := .bool true) rfl (by kernel_rfl) (by kernel_rfl) (by kernel_rfl) (fun _ _ _ h => h) (Or.inl ⟨by rfl, ?_⟩) (by assumption) ?_
        · intro W' hSw; obtain ⟨d1, d2, ⟨t0, t1, t2, t3, t4, t5, t6, t7, t8⟩, dl⟩ := hSw; go_simp; try with_reducible rfl
        try simp only [List.getElem_toArray, List.getElem_cons_succ, List.getElem_cons_zero, Act.put, List.setIfInBounds_toArray, List.set_cons_zero, List.set_cons_succ]
        refine wpAnyH_done (by kernel_rfl) ?_ _
        go_wp2_with fail
        go_ret
        exact ⟨by first | kernel_rfl | simp, HBw.out.trans (b80.mono HBw.out.size)⟩
end Go.Proofs.Ytjjhkagpoicimaa
