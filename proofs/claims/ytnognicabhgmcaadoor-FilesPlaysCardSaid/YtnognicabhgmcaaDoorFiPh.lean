/- FilesPlays, walked. -/
import Derived.Test.YtnognicabhgmcaaDoorFiPg
namespace Go.Proofs.YtnognicabhgmcaaDoor
open Go Go.RowKit

/-- What is done, as it is read. -/
def ActRd (w : World) (a : Option Addr) (l : List (Int × ByteArray × ByteArray)) : Prop := 0 < l.length → ∃ g o, a = some ⟨g, o, none⟩ ∧ g < w.heap.size ∧ ∀ j (h : j < l.length), w.cell? ⟨g, o + j * 3, none⟩ = some (.int .u8 l[j].1) ∧ w.cell? ⟨g, o + j * 3 + 1, none⟩ = some (.string l[j].2.1) ∧ w.cell? ⟨g, o + j * 3 + 2, none⟩ = some (.string l[j].2.2)
theorem ActRd.below {w w' : World} {a : Option Addr} {l : List (Int × ByteArray × ByteArray)} (h : ActRd w a l) (hb : Below w.heap.size w w') : ActRd w' a l := fun h0 => by
  obtain ⟨g, o, ha, hg, h2⟩ := h h0
  exact ⟨g, o, ha, Nat.lt_of_lt_of_le hg hb.size, fun j hj => ⟨(hb.cell (p := ⟨g, o + j * 3, none⟩) hg).trans (h2 j hj).1, (hb.cell (p := ⟨g, o + j * 3 + 1, none⟩) hg).trans (h2 j hj).2.1, (hb.cell (p := ⟨g, o + j * 3 + 2, none⟩) hg).trans (h2 j hj).2.2⟩⟩
/-- A cell of lines just made may be written. -/
theorem ln_store {w w' : World} {R : List (List UInt8)} {v : Value} {n k : Nat} (h : LnNew w R v w') (hn : R.length = n) (hk : k < n) : ∃ g c, v = .slice (some ⟨g, 0, none⟩) n c ∧ w.heap.size ≤ g ∧ Below w.heap.size w w' ∧ (∃ s, w'.cell? ⟨g, k, none⟩ = some (.string s)) ∧ w'.frozen? ⟨g, k, none⟩ = false := by
  obtain ⟨⟨h1, h2⟩, hb⟩ := h
  subst hn
  rcases h2 with ⟨_, h0⟩ | ⟨g, cap, cur, rfl, hg, hh, hc, _, hs, htk⟩
  · omega
  · have hB : Blk w' g cur 9 := hh
    have h4 := lnC_get R k hk
    rw [← htk, List.getElem?_take] at h4
    split at h4
    · rw [Array.getElem?_toList] at h4
      exact ⟨g, cap, rfl, hg, hb, ⟨_, (hB.cell k).trans h4⟩, hB.frozen k⟩
    · cases h4
set_option linter.unusedVariables false in
set_option linter.unusedSimpArgs false in
set_option maxRecDepth 100000 in
set_option maxHeartbeats 40000000 in
theorem filesplays_any (fs : List Fl) (a : Option Addr) (c : Nat) (acts : List (Int × ByteArray × ByteArray)) (b : Option Addr) (d : Nat) (w : World) (hr : FsRd w a fs) (hm : fs.length ≤ maxLen) (ha : ActRd w b acts) (hk : ∀ x ∈ acts, 0 ≤ x.1 ∧ x.1 < 256) (hG : GM w) :
    Calls Tryd.prog 3 #[.slice a fs.length c, .slice b acts.length d] w fun e w' => e = .returned (.bool true) ∧ Below w.heap.size w w' := by
  have HG := Lib.hid hG
  have HR := Lib.hid hr
  have HACT := Lib.hid ha
  have HKK := Lib.hid hk
  have HA := Lib.hid (fun W (h : Below w.heap.size w W) => awake17_any W (HG.out.up h))
  have hF := fun W (h : Below w.heap.size w W) => few_any fs a c W (HR.out.below h) hm
  obtain ⟨FB, hFB⟩ : ∃ FB, fewB fs = FB := ⟨_, rfl⟩
  have HFB := Lib.hid hFB
  obtain ⟨n, hn⟩ : ∃ n, fs.length = n := ⟨_, rfl⟩
  have HN := Lib.hid hn
  obtain ⟨n2, hn2⟩ : ∃ n2, acts.length = n2 := ⟨_, rfl⟩
  have HN2 := Lib.hid hn2
  rw [hFB, hn] at hF
  have HF := Lib.hid hF
  have HB := Lib.hid (Below.refl w.heap.size w)
  rw [hn, hn2]
  clear hG hr hm ha hk hF hFB hn hn2
  go_enter Tryd.func3, Tryd.ntmps3
  go_upto_region 1 with fail
  cases FB with
  | false => go_wp2_with (first | (go_at_call 6; with_reducible refine (HA.out _ HB.out).mono ?_; rintro e w1 ⟨rfl, b1⟩; have HB := Lib.hid (HB.out.trans (b1.mono HB.out.size)); clear b1) | (go_at_call 7; with_reducible refine (HF.out _ HB.out).mono ?_; rintro e w1 ⟨rfl, b1⟩; have HB := Lib.hid (HB.out.trans (b1.mono HB.out.size)); clear b1)); go_ret; exact ⟨by first | rfl | trivial, HB.out⟩
  | true =>
    by_cases g1 : 40 < n2
    · have p1 : (40 : Int) < (n2 : Int) := by omega
      have p2 : decide ((40 : Int) < (n2 : Int)) = true := decide_eq_true p1
      clear g1
      go_wp2_with (first | (go_at_call 6; with_reducible refine (HA.out _ HB.out).mono ?_; rintro e w1 ⟨rfl, b1⟩; have HB := Lib.hid (HB.out.trans (b1.mono HB.out.size)); clear b1) | (go_at_call 7; with_reducible refine (HF.out _ HB.out).mono ?_; rintro e w1 ⟨rfl, b1⟩; have HB := Lib.hid (HB.out.trans (b1.mono HB.out.size)); clear b1)); go_ret; exact ⟨by first | rfl | trivial, HB.out⟩
    have p1 : ¬ (40 : Int) < (n2 : Int) := by omega
    have p2 : decide ((40 : Int) < (n2 : Int)) = false := decide_eq_false p1
    have hff := fewB_iff HFB.out
    have hRe := fun W (h : Below w.heap.size w W) => real_any fs a c W (HR.out.below h) hff (HG.out.up h)
    have hNe := fun W (h : Below w.heap.size w W) => rfnew_any fs a c W (HR.out.below h) hff
    have HL0 := Lib.hid (new_few hff)
    have HS0 := Lib.hid (new_sz hff)
    obtain ⟨L0, hL0⟩ : ∃ L0, fNew fs = L0 := ⟨_, rfl⟩
    rw [HN.out, hL0] at hRe
    rw [HN.out, hL0] at hNe
    rw [hL0] at HL0 HS0
    have HRE := Lib.hid hRe
    have HNE := Lib.hid hNe
    clear hRe hNe hff hL0
    go_upto_region 6 with (first
      | (go_at_call 6; with_reducible refine (HA.out _ HB.out).mono ?_; rintro e w1 ⟨rfl, b1⟩; have HB := Lib.hid (HB.out.trans (b1.mono HB.out.size)); clear b1) | (go_at_call 7; with_reducible refine (HF.out _ HB.out).mono ?_; rintro e w1 ⟨rfl, b1⟩; have HB := Lib.hid (HB.out.trans (b1.mono HB.out.size)); clear b1)
      | (go_at_call 8; with_reducible refine (HRE.out _ HB.out).mono ?_; rintro e w1 ⟨p0, rfl, h1, b1⟩; have HT1 := Lib.hid h1; have HBW := Lib.hid b1.size; have HBV := Lib.hid HB.out.size; clear h1; have HB := Lib.hid (HB.out.trans (b1.mono HB.out.size)); clear b1)
      | (go_at_call 9; with_reducible refine (HNE.out _ HB.out).mono ?_; rintro e w2 ⟨a0, c0, rfl, h2, b1⟩; have HP := Lib.hid (Play.made (B := w.heap.size) HT1.out HBV.out HBW.out h2 b1); clear h2; have HB := Lib.hid (HB.out.trans (b1.mono HB.out.size)); clear b1))
    clear p2
    go_wp2_with fail
    go_loopw [5, 6, 38] (fun pv rv i wr => ∃ (j p2 : Nat) (L : List Fl) (a2 : Option Addr) (c2 : Nat), j ≤ n2 ∧ i = .int .i64 j ∧ pv = .pointer (some ⟨p2, 0, none⟩) ∧ rv = .slice a2 L.length c2 ∧ Play w.heap.size (fun _ => False) p2 (10 + j) L L (.slice a2 L.length c2) wr ∧ LnFew (40000 + 300 * j) L ∧ LnSz 300 L ∧ Below w.heap.size w wr) (fun _ _ i _ => n2 - (intOf i).toNat)
    case atStart => exact ⟨0, p0, L0, a0, c0, by omega, rfl, rfl, rfl, HP.out, HL0.out, fun f hf x hx => Nat.le_trans (HS0.out f hf x hx) (by decide), HB.out⟩
    case round =>
      obtain ⟨j, p2, L, aT, cT, hj, rfl, rfl, rfl, hp, hlf, hls, hb⟩ := hrel
      have HP0 := Lib.hid hp
      have HLF := Lib.hid hlf
      have HLS := Lib.hid hls
      have HB := Lib.hid hb
      clear hp hlf hls hb
      by_cases hlt : j < n2
      · have hjl : j < acts.length := by rw [HN2.out]; exact hlt
        obtain ⟨g, o, rfl, hg, hcell⟩ := HACT.out (by omega)
        obtain ⟨h0, h1, h2⟩ := hcell j hjl
        have hk0 := HKK.out _ (List.getElem_mem hjl)
        generalize acts[j] = z at h0 h1 h2 hk0
        obtain ⟨k, na, ta⟩ := z
        simp only at h0 h1 h2 hk0
        have e0 := (HB.out.cell (p := ⟨g, o + j * 3, none⟩) hg).trans h0
        have e1 := (HB.out.cell (p := ⟨g, o + j * 3 + 1, none⟩) hg).trans h1
        have e2 := (HB.out.cell (p := ⟨g, o + j * 3 + 2, none⟩) hg).trans h2
        have hji : (j : Int) < (n2 : Int) := by omega
        have hj0 : (0 : Int) ≤ (j : Int) := by omega
        have Wj : IntKind.i64.wrap ((j : Int) + 1) = (j : Int) + 1 := IntWalk.i64_in _ (by omega)
        clear h0 h1 h2 hcell
        go_upto_region 9 with fail
        have hpr := HP0.out.protect (.cells #[.int .u8 k, .string na, .string ta] 30)
        have hbl : Below wr.heap.size wr (wr.alloc (.cells #[.int .u8 k, .string na, .string ta] 30)) := (Below.refl _ wr).alloc (Nat.le_refl _) _
        have hqb : Blk (wr.alloc (.cells #[.int .u8 k, .string na, .string ta] 30)) wr.heap.size #[.int .u8 k, .string na, .string ta] 30 := (MapKept.heap_alloc wr _).1
        obtain ⟨q, hq⟩ : ∃ q, wr.heap.size = q := ⟨_, rfl⟩
        rw [hq] at hpr hqb ⊢
        have HB := Lib.hid (HB.out.trans (hbl.mono HB.out.size))
        generalize wr.alloc _ = W3 at hpr hqb HB ⊢
        have HP := Lib.hid hpr
        have KQ := Lib.hid hqb
        clear hpr hqb hbl hq e0 e1 e2
        have c0 : _ = some (Value.int .u8 k) := (KQ.out.cell 0).trans rfl; have c1 : _ = some (Value.string na) := (KQ.out.cell 1).trans rfl; have c2 : _ = some (Value.string ta) := (KQ.out.cell 2).trans rfl
        by_cases g2 : 100 < na.size
        · have p3 : (100 : Int) < (na.size : Int) := by omega
          have p4 : decide ((100 : Int) < (na.size : Int)) = true := decide_eq_true p3
          clear g2
          go_wp2_with fail
          go_ret
          exact ⟨by first | rfl | trivial, HB.out⟩
        have p3 : ¬ (100 : Int) < (na.size : Int) := by omega
        have p4 : decide ((100 : Int) < (na.size : Int)) = false := decide_eq_false p3
        by_cases g3 : 200 < ta.size
        · have p5 : (200 : Int) < (ta.size : Int) := by omega
          have p6 : decide ((200 : Int) < (ta.size : Int)) = true := decide_eq_true p5
          clear g2 g3
          go_wp2_with fail
          go_ret
          exact ⟨by first | rfl | trivial, HB.out⟩
        have p5 : ¬ (200 : Int) < (ta.size : Int) := by omega
        have p6 : decide ((200 : Int) < (ta.size : Int)) = false := decide_eq_false p5
        have HNA := Lib.hid (show na.data.toList.length ≤ 1000 by rw [fi_size]; omega)
        have HTA := Lib.hid (show ta.size ≤ 200 by omega)
        have hm9 : k.tmod 3 = 0 ∨ k.tmod 3 = 1 ∨ k.tmod 3 = 2 := by rw [Int.tmod_eq_emod_of_nonneg hk0.1]; omega
        have HSR := Lib.hid HP.out.srt
        have HLN := Lib.hid HP.out.len
        clear g2 g3 hk0
        rcases hm9 with hm9 | hm9 | hm9
        · have hw9 : IntKind.u8.wrap 0 = 0 := by decide
          have hA := HP.out.add na.data.toList ta HNA.out (Nat.le_trans HTA.out (by decide)) (by omega) HLF.out (by omega) (HG.out.up HB.out)
          rw [txt_of] at hA
          go_upto_region 19 with (go_at_call 10; refine hA.mono ?_; clear hA; rintro e wA ⟨rfl, hp, hb, hk⟩; have HP := Lib.hid hp; have HB := Lib.hid (HB.out.trans hb); have KQ := Lib.hid (show Blk _ q #[.int .u8 k, .string na, .string ta] 30 from (hk q rfl).trans KQ.out); clear hp hb hk; have c0 : _ = some (Value.int .u8 k) := (KQ.out.cell 0).trans rfl; have c1 : _ = some (Value.string na) := (KQ.out.cell 1).trans rfl; have c2 : _ = some (Value.string ta) := (KQ.out.cell 2).trans rfl)
          have hR := HP.out.rfadd na ta (by have := HLN.out; omega) HLF.out (by omega) (Nat.le_trans HTA.out (by decide))
          go_upto_region 23 with (go_at_call 11; refine hR.mono ?_; clear hR; rintro e wB ⟨a3, c3, rfl, hp, b1⟩; have HP := Lib.hid hp; clear hp; have KQ := Lib.hid (show Blk _ q #[.int .u8 k, .string na, .string ta] 30 from (b1.block q KQ.out.lt).trans KQ.out); have HB := Lib.hid (HB.out.trans (b1.mono HB.out.size)); clear b1; have c0 : _ = some (Value.int .u8 k) := (KQ.out.cell 0).trans rfl; have c1 : _ = some (Value.string na) := (KQ.out.cell 1).trans rfl; have c2 : _ = some (Value.string ta) := (KQ.out.cell 2).trans rfl)
          have HLF := Lib.hid ((HLF.out.add HSR.out na.data.toList ta.data.toList).more (show 40000 + 300 * j + ta.data.toList.length + 1 ≤ 40000 + 300 * (j + 1) by have h : ta.data.toList.length = ta.size := rfl; rw [h]; have := HTA.out; omega))
          have HLS := Lib.hid (HLS.out.add HSR.out na.data.toList ta.data.toList (show ta.data.toList.length ≤ 300 from Nat.le_trans HTA.out (by decide)))
          generalize fAdd L na.data.toList ta.data.toList = LN at HP HLF HLS ⊢
          obtain ⟨p3, rfl⟩ : ∃ p3, p3 = p2 := ⟨_, rfl⟩
          have hlen : LN.length ≤ 1000 := by have := HP.out.len; omega
          have HLE := Lib.hid hlen
          have hLi := rflines_any LN a3 c3 na wB HP.out.rd hlen
          go_upto_region 24 with (go_at_call 15; refine hLi.mono ?_; clear hLi; rintro e wC ⟨vC, rfl, _, b1⟩; have HP := Lib.hid (HP.out.below b1); have KQ := Lib.hid (show Blk _ q #[.int .u8 k, .string na, .string ta] 30 from (b1.block q KQ.out.lt).trans KQ.out); have HB := Lib.hid (HB.out.trans (b1.mono HB.out.size)); clear b1; have c0 : _ = some (Value.int .u8 k) := (KQ.out.cell 0).trans rfl; have c1 : _ = some (Value.string na) := (KQ.out.cell 1).trans rfl; have c2 : _ = some (Value.string ta) := (KQ.out.cell 2).trans rfl)
          have hH := HP.out.has na.data.toList HNA.out
          rw [txt_of] at hH
          obtain ⟨bv, hbv⟩ : ∃ bv, (fLines LN na.data.toList).isSome = bv := ⟨_, rfl⟩
          rw [hbv] at hH ⊢
          have hbb : (bv != bv) = false := by cases bv <;> rfl
          have hL := HP.out.list (by omega) HLF.out (by omega)
          clear hlen hbv
          go_upto_region 26 with (first
            | (go_at_call 16; refine hH.mono ?_; clear hH; rintro e wD ⟨rfl, hd⟩; have hd' := hd.symm; subst hd')
            | (go_at_call 19; refine hL.mono ?_; clear hL; rintro e wE ⟨vE, rfl, hE, b1⟩; have hRf := ref_any LN vE wE hE HLE.out; clear hE; have HP := Lib.hid (HP.out.below b1); have KQ := Lib.hid (show Blk _ q #[.int .u8 k, .string na, .string ta] 30 from (b1.block q KQ.out.lt).trans KQ.out); have HB := Lib.hid (HB.out.trans (b1.mono HB.out.size)); clear b1; have c0 : _ = some (Value.int .u8 k) := (KQ.out.cell 0).trans rfl; have c1 : _ = some (Value.string na) := (KQ.out.cell 1).trans rfl; have c2 : _ = some (Value.string ta) := (KQ.out.cell 2).trans rfl)
            | (go_at_call 18; refine hRf.mono ?_; clear hRf; rintro e wF ⟨aF, cF, rfl, hFF, b1⟩; have HP := Lib.hid (HP.out.below b1); have KQ := Lib.hid (show Blk _ q #[.int .u8 k, .string na, .string ta] 30 from (b1.block q KQ.out.lt).trans KQ.out); have HB := Lib.hid (HB.out.trans (b1.mono HB.out.size)); clear b1; have c0 : _ = some (Value.int .u8 k) := (KQ.out.cell 0).trans rfl; have c1 : _ = some (Value.string na) := (KQ.out.cell 1).trans rfl; have c2 : _ = some (Value.string ta) := (KQ.out.cell 2).trans rfl; have hSm := rfsame_any LN aF a3 cF c3 wF hFF.rd HP.out.rd HLE.out HP.out.few; clear hFF)
            | (go_at_call 17; refine hSm.mono ?_; clear hSm; rintro e wG ⟨rfl, b1⟩; have HP := Lib.hid (HP.out.below b1); have KQ := Lib.hid (show Blk _ q #[.int .u8 k, .string na, .string ta] 30 from (b1.block q KQ.out.lt).trans KQ.out); have HB := Lib.hid (HB.out.trans (b1.mono HB.out.size)); clear b1; have c0 : _ = some (Value.int .u8 k) := (KQ.out.cell 0).trans rfl; have c1 : _ = some (Value.string na) := (KQ.out.cell 1).trans rfl; have c2 : _ = some (Value.string ta) := (KQ.out.cell 2).trans rfl))
          have hL2 := HP.out.list (by omega) HLF.out (by omega)
          have H9 := Lib.hid (And.intro HP.out (And.intro HB.out KQ.out))
          go_wp2_with (go_at_call 19; refine hL2.mono ?_; clear hL2; rintro e wH ⟨vH, rfl, hH1, b1⟩; obtain ⟨aH, cH, rfl⟩ := hH1.form; have HMU := Lib.hid (mut_of hH1 HLS.out); have HB1 := Lib.hid b1; clear hH1; have HP := Lib.hid (HP.out.below b1); have KQ := Lib.hid (show Blk _ q #[.int .u8 k, .string na, .string ta] 30 from (b1.block q KQ.out.lt).trans KQ.out); have HB := Lib.hid (HB.out.trans (b1.mono HB.out.size)); clear b1; have c0 : _ = some (Value.int .u8 k) := (KQ.out.cell 0).trans rfl; have c1 : _ = some (Value.string na) := (KQ.out.cell 1).trans rfl; have c2 : _ = some (Value.string ta) := (KQ.out.cell 2).trans rfl)
          obtain ⟨M, hM, hMut⟩ := HMU.out
          obtain ⟨n3, hn3⟩ : ∃ n3, LN.length = n3 := ⟨_, rfl⟩
          have HM := Lib.hid hM
          have hMl : M.length = n3 := by rw [← hn3, ← hM, List.length_map]
          have HML := Lib.hid hMl
          have HMT := Lib.hid hMut
          have HN3 := Lib.hid hn3
          rw [hn3]
          have hn3b : n3 ≤ 1000 := by have := HLE.out; omega
          clear hM hMl hMut hn3 c0 c1 c2 hbb
          go_loopw [112] (fun i wx => ∃ (j3 KK : Nat), j3 ≤ n3 ∧ i = .int .i64 j3 ∧ Below wG.heap.size wG wx ∧ KK ≤ 300 + j3 * 100000 ∧ (0 < M.length → ∃ g, aH = some ⟨g, 0, none⟩ ∧ MutS wG.heap.size g M KK wx)) (fun i _ => n3 - (intOf i).toNat)
          case atStart => exact ⟨0, 300, by omega, rfl, HB1.out, by omega, HMT.out⟩
          case round =>
            obtain ⟨j3, KK, hj3, rfl, hbx, hKK, hMx⟩ := hrel
            have HBX := Lib.hid hbx
            clear hbx
            by_cases hl3 : j3 < n3
            · obtain ⟨g3, rfl, hMS⟩ := hMx (by rw [HML.out]; omega)
              have hjm : j3 < M.length := by rw [HML.out]; exact hl3
              have e0 := (hMS.c j3 hjm).1
              have e1 := (hMS.c j3 hjm).2
              have hxm := List.getElem_mem hjm
              have hml : M[j3].1.2.length ≤ 100000 := Nat.le_trans (HLF.out _ (by rw [← HM.out]; exact List.mem_map_of_mem hxm)) (by omega)
              generalize M[j3] = x3 at e0 e1 hxm hml
              obtain ⟨⟨y3, ls3⟩, v3⟩ := x3
              simp only at e0 e1 hml
              obtain ⟨av, cv, hv3, _⟩ := hMS.r _ hxm
              simp only at hv3
              subst hv3
              obtain ⟨m, hmm⟩ : ∃ m, ls3.length = m := ⟨_, rfl⟩
              rw [hmm] at e1 hml
              obtain ⟨T3, hT3⟩ : ∃ T3, txt y3 = T3 := ⟨_, rfl⟩
              rw [hT3] at e0
              have HXM := Lib.hid hxm
              have HMM := Lib.hid hmm
              have HMS := Lib.hid hMS
              have hj3i : (j3 : Int) < (n3 : Int) := by omega
              have hj30 : (0 : Int) ≤ (j3 : Int) := by omega
              have Wj3 : IntKind.i64.wrap ((j3 : Int) + 1) = (j3 : Int) + 1 := IntWalk.i64_in _ (by omega)
              clear hMx hMS hxm hmm hT3
              go_upto_region 29 with fail
              have hbl : Below wr.heap.size wr (wr.alloc (.cells #[.string T3, .slice av m cv] 45)) := (Below.refl _ wr).alloc (Nat.le_refl _) _
              have hqb : Blk (wr.alloc (.cells #[.string T3, .slice av m cv] 45)) wr.heap.size #[.string T3, .slice av m cv] 45 := (MapKept.heap_alloc wr _).1
              obtain ⟨q3, hq3⟩ : ∃ q3, wr.heap.size = q3 := ⟨_, rfl⟩
              have HMS2 := Lib.hid (HMS.out.below hbl)
              have HBX2 := Lib.hid (HBX.out.trans (hbl.mono HBX.out.size))
              rw [hq3] at hqb ⊢
              generalize wr.alloc _ = W5 at hqb HMS2 HBX2 ⊢
              have k1 : W5.cell? ⟨q3, 1, none⟩ = some (.slice av m cv) := (hqb.cell 1).trans rfl
              have HQ3 := Lib.hid hqb
              clear hbl hqb hq3 e0 e1
              go_wp2_with fail
              go_loopw [119] (fun i wy => ∃ (k3 K3 : Nat), k3 ≤ m ∧ i = .int .i64 k3 ∧ Below wG.heap.size wG wy ∧ K3 ≤ 300 + j3 * 100000 + k3 ∧ MutS wG.heap.size g3 M K3 wy ∧ Blk wy q3 #[.string T3, .slice av m cv] 45) (fun i _ => m - (intOf i).toNat)
              case atStart => exact ⟨0, KK, by omega, rfl, HBX2.out, by omega, HMS2.out, HQ3.out⟩
              case round =>
                obtain ⟨k3, K3, hk3, rfl, hby, hK3, hMy, hQy⟩ := hrel
                have HBY := Lib.hid hby
                have HMY := Lib.hid hMy
                have HQY := Lib.hid hQy
                have k1 : wr.cell? ⟨q3, 1, none⟩ = some (.slice av m cv) := (hQy.cell 1).trans rfl
                clear hby
                by_cases hl4 : k3 < m
                · obtain ⟨a9, c9, hv9, h9⟩ := hMy.r _ HXM.out
                  simp only at hv9
                  rw [HMM.out] at hv9 h9
                  injection hv9 with hv9 hv7 hv8
                  subst hv8
                  clear hv7
                  obtain ⟨q9, cur, hq9, hlo, hqg, hB9, hcur⟩ := h9 (by omega)
                  obtain ⟨s, hs1, hs2⟩ := hcur k3 hl4
                  rw [hq9] at hv9
                  subst hv9
                  have r0 : wr.cell? ⟨q9, k3, none⟩ = some (.string s) := (hB9.cell k3).trans hs1
                  have f0 := hB9.frozen k3
                  have hq3n : q9 ≠ q3 := fun e => by
                    subst e
                    have h1 : wr.heap[q9]? = some (.cells cur 9) := hB9
                    have h2 : wr.heap[q9]? = some (.cells #[.string T3, .slice (some ⟨q9, 0, none⟩) m cv] 45) := hQy
                    rw [h1] at h2
                    injection h2 with h2
                    injection h2 with _ h2
                    exact absurd h2 (by decide)
                  have hszs : (s ++ ⟨#[63]⟩).size = s.size + 1 := by rw [ByteArray.size_append]; rfl
                  have HF := Lib.hid (show Below wG.heap.size wG (wr.setCell ⟨q9, k3, none⟩ (.string (s ++ ⟨#[63]⟩))) ∧ MutS wG.heap.size g3 M (K3 + 1) (wr.setCell ⟨q9, k3, none⟩ (.string (s ++ ⟨#[63]⟩))) ∧ Blk (wr.setCell ⟨q9, k3, none⟩ (.string (s ++ ⟨#[63]⟩))) q3 #[.string T3, .slice (some ⟨q9, 0, none⟩) m cv] 45 from
                    ⟨HBY.out.setCell (p := ⟨q9, k3, none⟩) hlo _, HMY.out.set hqg k3 (by rw [hszs]; omega), (Below.heap_setCell _ _ _ _ (fun e => hq3n e.symm)).trans HQY.out⟩)
                  have hsb : s.size ≤ 200000000 := by omega
                  have hk3i : (k3 : Int) < (m : Int) := by omega
                  have hk30 : (0 : Int) ≤ (k3 : Int) := by omega
                  have Wk3 : IntKind.i64.wrap ((k3 : Int) + 1) = (k3 : Int) + 1 := IntWalk.i64_in _ (by omega)
                  clear hMy hQy hq9 hB9 hcur hs1 hq3n hszs h9
                  go_wp2_with fail
                  go_roundw
                  case rel => exact ⟨k3 + 1, K3 + 1, by omega, by go_num, HF.out.1, by omega, HF.out.2.1, HF.out.2.2⟩
                  case measure => simp [intOf]; omega
                · obtain rfl : m = k3 := by omega
                  have hmn : ¬ (m : Int) < (m : Int) := by omega
                  clear hMy hQy
                  go_wp2_with fail
                  go_roundw
                  case rel => exact ⟨j3 + 1, K3, by omega, by go_num, HBY.out, by omega, fun _ => ⟨g3, rfl, HMY.out⟩⟩
                  case measure => simp [intOf]; omega
            · obtain rfl : n3 = j3 := by omega
              have hnn : ¬ (n3 : Int) < (n3 : Int) := by omega
              obtain ⟨wx, rfl⟩ : ∃ wx, wx = wr := ⟨_, rfl⟩
              have HP := Lib.hid (H9.out.1.below HBX.out)
              have HB := Lib.hid (H9.out.2.1.trans (HBX.out.mono H9.out.2.1.size))
              have KQ := Lib.hid (show Blk wx q #[.int .u8 k, .string na, .string ta] 30 from (HBX.out.block q H9.out.2.2.lt).trans H9.out.2.2)
              have c0 : _ = some (Value.int .u8 k) := (KQ.out.cell 0).trans rfl; have c1 : _ = some (Value.string na) := (KQ.out.cell 1).trans rfl; have c2 : _ = some (Value.string ta) := (KQ.out.cell 2).trans rfl
              have hL3 := HP.out.lines na.data.toList HNA.out HLF.out (by omega)
              rw [txt_of] at hL3
              have hgs := HLS.out.gl na.data.toList
              have hgl := HLF.out.gl na.data.toList
              obtain ⟨lx, hlx⟩ : ∃ lx, gl LN na.data.toList = lx := ⟨_, rfl⟩
              rw [hlx] at hL3 hgs hgl
              obtain ⟨n4, hn4⟩ : ∃ n4, lx.length = n4 := ⟨_, rfl⟩
              have HLX := Lib.hid hlx
              have HN4 := Lib.hid hn4
              have HGS := Lib.hid hgs
              rw [hn4] at hgl
              clear hMx hlx hn4 hgs
              go_wp2_with (go_at_call 20; refine hL3.mono ?_; clear hL3; rintro e wI ⟨vI, rfl, hI⟩; have b1 := hI.2; obtain ⟨aI, cI, rfl, _⟩ := fi_row_cells hI.1; have HI := Lib.hid (show LnRd wI (.slice aI n4 cI) lx by rw [← HN4.out]; exact hI.rd); rw [HN4.out]; clear hI; have HP := Lib.hid (HP.out.below b1); have KQ := Lib.hid (show Blk _ q #[.int .u8 k, .string na, .string ta] 30 from (b1.block q KQ.out.lt).trans KQ.out); have HB := Lib.hid (HB.out.trans (b1.mono HB.out.size)); clear b1; have c0 : _ = some (Value.int .u8 k) := (KQ.out.cell 0).trans rfl; have c1 : _ = some (Value.string na) := (KQ.out.cell 1).trans rfl; have c2 : _ = some (Value.string ta) := (KQ.out.cell 2).trans rfl)
              go_loopw [136] (fun i wy => ∃ (k4 : Nat), k4 ≤ n4 ∧ i = .int .i64 k4 ∧ Below wI.heap.size wI wy) (fun i _ => n4 - (intOf i).toNat)
              case atStart => exact ⟨0, by omega, rfl, Below.refl _ _⟩
              case round =>
                obtain ⟨k4, hk4, rfl, hby⟩ := hrel
                have HBY := Lib.hid hby
                have HPY := Lib.hid (HP.out.below hby)
                have HBYW := Lib.hid (HB.out.trans (hby.mono HB.out.size))
                have KQ := Lib.hid (show Blk wr q #[.int .u8 k, .string na, .string ta] 30 from (hby.block q KQ.out.lt).trans KQ.out)
                have c0 : _ = some (Value.int .u8 k) := (KQ.out.cell 0).trans rfl; have c1 : _ = some (Value.string na) := (KQ.out.cell 1).trans rfl; have c2 : _ = some (Value.string ta) := (KQ.out.cell 2).trans rfl
                clear hby
                by_cases hl5 : k4 < n4
                · obtain ⟨aJ, cJ, hvJ, hcJ⟩ := HI.out
                  injection hvJ with hvJ hx1 hx2
                  subst hx2
                  clear hx1
                  obtain ⟨g5, o5, hg5, hlt5, hc5⟩ := hcJ (by rw [HN4.out]; omega)
                  rw [hg5] at hvJ
                  subst hvJ
                  have hkl : k4 < lx.length := by rw [HN4.out]; exact hl5
                  have r0 := (HBY.out.cell (p := ⟨g5, o5 + k4, none⟩) hlt5).trans (hc5 k4 hkl)
                  have hsz := HGS.out _ (List.getElem_mem hkl)
                  generalize lx[k4] = y5 at r0 hsz
                  obtain ⟨S, hS⟩ : ∃ S, txt y5 = S := ⟨_, rfl⟩
                  have hSs : S.size ≤ 300 := by rw [← hS, txt_size]; exact hsz
                  rw [hS] at r0
                  have hL4 := HPY.out.lines na.data.toList HNA.out HLF.out (by omega)
                  rw [txt_of, HLX.out] at hL4
                  have hk5 : (k4 : Int) < (n4 : Int) := by omega
                  have hk50 : (0 : Int) ≤ (k4 : Int) := by omega
                  have Wk4 : IntKind.i64.wrap ((k4 : Int) + 1) = (k4 : Int) + 1 := IntWalk.i64_in _ (by omega)
                  clear hcJ hg5 hc5 hsz hS
                  go_wp2_with (go_at_call 20; refine hL4.mono ?_; clear hL4; rintro e wJ ⟨vJ, rfl, hJ⟩; obtain ⟨gJ, cJ2, rfl, hJ1, hJ2, ⟨sJ, hJ3⟩, hJ4⟩ := ln_store hJ HN4.out hl5; have HJ := Lib.hid (And.intro hJ1 hJ2); clear hJ hJ1 hJ2)
                  have HF := Lib.hid (show Below wI.heap.size wI (wJ.setCell ⟨gJ, k4, none⟩ (.string (S ++ ⟨#[63]⟩))) from (HBY.out.trans (HJ.out.2.mono HBY.out.size)).setCell (p := ⟨gJ, k4, none⟩) (Nat.le_trans HBY.out.size HJ.out.1) _)
                  clear hJ3 hJ4
                  go_roundw
                  case rel => exact ⟨k4 + 1, by omega, by go_num, HF.out⟩
                  case measure => simp [intOf]; omega
                · obtain rfl : n4 = k4 := by omega
                  have hnn4 : ¬ (n4 : Int) < (n4 : Int) := by omega
                  go_wp2_with fail
                  go_roundw
                  case rel => exact ⟨j + 1, p3, LN, a3, c3, by omega, by go_num, rfl, by rw [HN3.out], (HPY.out.free.more (by omega)), HLF.out, HLS.out, HBYW.out⟩
                  case measure => simp [intOf]; omega
        · have hw9 : IntKind.u8.wrap 1 = 1 := by decide
          have hA := HP.out.clear na.data.toList HNA.out (by omega)
          rw [txt_of] at hA
          go_upto_region 22 with (go_at_call 12; refine hA.mono ?_; clear hA; rintro e wA ⟨rfl, hp, hb, hk⟩; have HP := Lib.hid hp; have HB := Lib.hid (HB.out.trans hb); have KQ := Lib.hid (show Blk _ q #[.int .u8 k, .string na, .string ta] 30 from (hk q rfl).trans KQ.out); clear hp hb hk; have c0 : _ = some (Value.int .u8 k) := (KQ.out.cell 0).trans rfl; have c1 : _ = some (Value.string na) := (KQ.out.cell 1).trans rfl; have c2 : _ = some (Value.string ta) := (KQ.out.cell 2).trans rfl)
          have hR := HP.out.rfput na (by have := HLN.out; omega)
          go_upto_region 23 with (go_at_call 13; refine hR.mono ?_; clear hR; rintro e wB ⟨a3, c3, rfl, hp, b1⟩; have HP := Lib.hid hp; clear hp; have KQ := Lib.hid (show Blk _ q #[.int .u8 k, .string na, .string ta] 30 from (b1.block q KQ.out.lt).trans KQ.out); have HB := Lib.hid (HB.out.trans (b1.mono HB.out.size)); clear b1; have c0 : _ = some (Value.int .u8 k) := (KQ.out.cell 0).trans rfl; have c1 : _ = some (Value.string na) := (KQ.out.cell 1).trans rfl; have c2 : _ = some (Value.string ta) := (KQ.out.cell 2).trans rfl)
          have HLF := Lib.hid (show LnFew (40000 + 300 * (j + 1)) (fPut L na.data.toList []) by rw [fPut_put HSR.out]; exact (HLF.out.more (by omega)).put (by simp))
          have HLS := Lib.hid (show LnSz 300 (fPut L na.data.toList []) by rw [fPut_put HSR.out]; exact HLS.out.put fun y hy => by cases hy)
          generalize fPut L na.data.toList [] = LN at HP HLF HLS ⊢
          obtain ⟨p3, rfl⟩ : ∃ p3, p3 = p2 := ⟨_, rfl⟩
          have hlen : LN.length ≤ 1000 := by have := HP.out.len; omega
          have HLE := Lib.hid hlen
          have hLi := rflines_any LN a3 c3 na wB HP.out.rd hlen
          go_upto_region 24 with (go_at_call 15; refine hLi.mono ?_; clear hLi; rintro e wC ⟨vC, rfl, _, b1⟩; have HP := Lib.hid (HP.out.below b1); have KQ := Lib.hid (show Blk _ q #[.int .u8 k, .string na, .string ta] 30 from (b1.block q KQ.out.lt).trans KQ.out); have HB := Lib.hid (HB.out.trans (b1.mono HB.out.size)); clear b1; have c0 : _ = some (Value.int .u8 k) := (KQ.out.cell 0).trans rfl; have c1 : _ = some (Value.string na) := (KQ.out.cell 1).trans rfl; have c2 : _ = some (Value.string ta) := (KQ.out.cell 2).trans rfl)
          have hH := HP.out.has na.data.toList HNA.out
          rw [txt_of] at hH
          obtain ⟨bv, hbv⟩ : ∃ bv, (fLines LN na.data.toList).isSome = bv := ⟨_, rfl⟩
          rw [hbv] at hH ⊢
          have hbb : (bv != bv) = false := by cases bv <;> rfl
          have hL := HP.out.list (by omega) HLF.out (by omega)
          clear hlen hbv
          go_upto_region 26 with (first
            | (go_at_call 16; refine hH.mono ?_; clear hH; rintro e wD ⟨rfl, hd⟩; have hd' := hd.symm; subst hd')
            | (go_at_call 19; refine hL.mono ?_; clear hL; rintro e wE ⟨vE, rfl, hE, b1⟩; have hRf := ref_any LN vE wE hE HLE.out; clear hE; have HP := Lib.hid (HP.out.below b1); have KQ := Lib.hid (show Blk _ q #[.int .u8 k, .string na, .string ta] 30 from (b1.block q KQ.out.lt).trans KQ.out); have HB := Lib.hid (HB.out.trans (b1.mono HB.out.size)); clear b1; have c0 : _ = some (Value.int .u8 k) := (KQ.out.cell 0).trans rfl; have c1 : _ = some (Value.string na) := (KQ.out.cell 1).trans rfl; have c2 : _ = some (Value.string ta) := (KQ.out.cell 2).trans rfl)
            | (go_at_call 18; refine hRf.mono ?_; clear hRf; rintro e wF ⟨aF, cF, rfl, hFF, b1⟩; have HP := Lib.hid (HP.out.below b1); have KQ := Lib.hid (show Blk _ q #[.int .u8 k, .string na, .string ta] 30 from (b1.block q KQ.out.lt).trans KQ.out); have HB := Lib.hid (HB.out.trans (b1.mono HB.out.size)); clear b1; have c0 : _ = some (Value.int .u8 k) := (KQ.out.cell 0).trans rfl; have c1 : _ = some (Value.string na) := (KQ.out.cell 1).trans rfl; have c2 : _ = some (Value.string ta) := (KQ.out.cell 2).trans rfl; have hSm := rfsame_any LN aF a3 cF c3 wF hFF.rd HP.out.rd HLE.out HP.out.few; clear hFF)
            | (go_at_call 17; refine hSm.mono ?_; clear hSm; rintro e wG ⟨rfl, b1⟩; have HP := Lib.hid (HP.out.below b1); have KQ := Lib.hid (show Blk _ q #[.int .u8 k, .string na, .string ta] 30 from (b1.block q KQ.out.lt).trans KQ.out); have HB := Lib.hid (HB.out.trans (b1.mono HB.out.size)); clear b1; have c0 : _ = some (Value.int .u8 k) := (KQ.out.cell 0).trans rfl; have c1 : _ = some (Value.string na) := (KQ.out.cell 1).trans rfl; have c2 : _ = some (Value.string ta) := (KQ.out.cell 2).trans rfl))
          have hL2 := HP.out.list (by omega) HLF.out (by omega)
          have H9 := Lib.hid (And.intro HP.out (And.intro HB.out KQ.out))
          go_wp2_with (go_at_call 19; refine hL2.mono ?_; clear hL2; rintro e wH ⟨vH, rfl, hH1, b1⟩; obtain ⟨aH, cH, rfl⟩ := hH1.form; have HMU := Lib.hid (mut_of hH1 HLS.out); have HB1 := Lib.hid b1; clear hH1; have HP := Lib.hid (HP.out.below b1); have KQ := Lib.hid (show Blk _ q #[.int .u8 k, .string na, .string ta] 30 from (b1.block q KQ.out.lt).trans KQ.out); have HB := Lib.hid (HB.out.trans (b1.mono HB.out.size)); clear b1; have c0 : _ = some (Value.int .u8 k) := (KQ.out.cell 0).trans rfl; have c1 : _ = some (Value.string na) := (KQ.out.cell 1).trans rfl; have c2 : _ = some (Value.string ta) := (KQ.out.cell 2).trans rfl)
          obtain ⟨M, hM, hMut⟩ := HMU.out
          obtain ⟨n3, hn3⟩ : ∃ n3, LN.length = n3 := ⟨_, rfl⟩
          have HM := Lib.hid hM
          have hMl : M.length = n3 := by rw [← hn3, ← hM, List.length_map]
          have HML := Lib.hid hMl
          have HMT := Lib.hid hMut
          have HN3 := Lib.hid hn3
          rw [hn3]
          have hn3b : n3 ≤ 1000 := by have := HLE.out; omega
          clear hM hMl hMut hn3 c0 c1 c2 hbb
          go_loopw [112] (fun i wx => ∃ (j3 KK : Nat), j3 ≤ n3 ∧ i = .int .i64 j3 ∧ Below wG.heap.size wG wx ∧ KK ≤ 300 + j3 * 100000 ∧ (0 < M.length → ∃ g, aH = some ⟨g, 0, none⟩ ∧ MutS wG.heap.size g M KK wx)) (fun i _ => n3 - (intOf i).toNat)
          case atStart => exact ⟨0, 300, by omega, rfl, HB1.out, by omega, HMT.out⟩
          case round =>
            obtain ⟨j3, KK, hj3, rfl, hbx, hKK, hMx⟩ := hrel
            have HBX := Lib.hid hbx
            clear hbx
            by_cases hl3 : j3 < n3
            · obtain ⟨g3, rfl, hMS⟩ := hMx (by rw [HML.out]; omega)
              have hjm : j3 < M.length := by rw [HML.out]; exact hl3
              have e0 := (hMS.c j3 hjm).1
              have e1 := (hMS.c j3 hjm).2
              have hxm := List.getElem_mem hjm
              have hml : M[j3].1.2.length ≤ 100000 := Nat.le_trans (HLF.out _ (by rw [← HM.out]; exact List.mem_map_of_mem hxm)) (by omega)
              generalize M[j3] = x3 at e0 e1 hxm hml
              obtain ⟨⟨y3, ls3⟩, v3⟩ := x3
              simp only at e0 e1 hml
              obtain ⟨av, cv, hv3, _⟩ := hMS.r _ hxm
              simp only at hv3
              subst hv3
              obtain ⟨m, hmm⟩ : ∃ m, ls3.length = m := ⟨_, rfl⟩
              rw [hmm] at e1 hml
              obtain ⟨T3, hT3⟩ : ∃ T3, txt y3 = T3 := ⟨_, rfl⟩
              rw [hT3] at e0
              have HXM := Lib.hid hxm
              have HMM := Lib.hid hmm
              have HMS := Lib.hid hMS
              have hj3i : (j3 : Int) < (n3 : Int) := by omega
              have hj30 : (0 : Int) ≤ (j3 : Int) := by omega
              have Wj3 : IntKind.i64.wrap ((j3 : Int) + 1) = (j3 : Int) + 1 := IntWalk.i64_in _ (by omega)
              clear hMx hMS hxm hmm hT3
              go_upto_region 29 with fail
              have hbl : Below wr.heap.size wr (wr.alloc (.cells #[.string T3, .slice av m cv] 45)) := (Below.refl _ wr).alloc (Nat.le_refl _) _
              have hqb : Blk (wr.alloc (.cells #[.string T3, .slice av m cv] 45)) wr.heap.size #[.string T3, .slice av m cv] 45 := (MapKept.heap_alloc wr _).1
              obtain ⟨q3, hq3⟩ : ∃ q3, wr.heap.size = q3 := ⟨_, rfl⟩
              have HMS2 := Lib.hid (HMS.out.below hbl)
              have HBX2 := Lib.hid (HBX.out.trans (hbl.mono HBX.out.size))
              rw [hq3] at hqb ⊢
              generalize wr.alloc _ = W5 at hqb HMS2 HBX2 ⊢
              have k1 : W5.cell? ⟨q3, 1, none⟩ = some (.slice av m cv) := (hqb.cell 1).trans rfl
              have HQ3 := Lib.hid hqb
              clear hbl hqb hq3 e0 e1
              go_wp2_with fail
              go_loopw [119] (fun i wy => ∃ (k3 K3 : Nat), k3 ≤ m ∧ i = .int .i64 k3 ∧ Below wG.heap.size wG wy ∧ K3 ≤ 300 + j3 * 100000 + k3 ∧ MutS wG.heap.size g3 M K3 wy ∧ Blk wy q3 #[.string T3, .slice av m cv] 45) (fun i _ => m - (intOf i).toNat)
              case atStart => exact ⟨0, KK, by omega, rfl, HBX2.out, by omega, HMS2.out, HQ3.out⟩
              case round =>
                obtain ⟨k3, K3, hk3, rfl, hby, hK3, hMy, hQy⟩ := hrel
                have HBY := Lib.hid hby
                have HMY := Lib.hid hMy
                have HQY := Lib.hid hQy
                have k1 : wr.cell? ⟨q3, 1, none⟩ = some (.slice av m cv) := (hQy.cell 1).trans rfl
                clear hby
                by_cases hl4 : k3 < m
                · obtain ⟨a9, c9, hv9, h9⟩ := hMy.r _ HXM.out
                  simp only at hv9
                  rw [HMM.out] at hv9 h9
                  injection hv9 with hv9 hv7 hv8
                  subst hv8
                  clear hv7
                  obtain ⟨q9, cur, hq9, hlo, hqg, hB9, hcur⟩ := h9 (by omega)
                  obtain ⟨s, hs1, hs2⟩ := hcur k3 hl4
                  rw [hq9] at hv9
                  subst hv9
                  have r0 : wr.cell? ⟨q9, k3, none⟩ = some (.string s) := (hB9.cell k3).trans hs1
                  have f0 := hB9.frozen k3
                  have hq3n : q9 ≠ q3 := fun e => by
                    subst e
                    have h1 : wr.heap[q9]? = some (.cells cur 9) := hB9
                    have h2 : wr.heap[q9]? = some (.cells #[.string T3, .slice (some ⟨q9, 0, none⟩) m cv] 45) := hQy
                    rw [h1] at h2
                    injection h2 with h2
                    injection h2 with _ h2
                    exact absurd h2 (by decide)
                  have hszs : (s ++ ⟨#[63]⟩).size = s.size + 1 := by rw [ByteArray.size_append]; rfl
                  have HF := Lib.hid (show Below wG.heap.size wG (wr.setCell ⟨q9, k3, none⟩ (.string (s ++ ⟨#[63]⟩))) ∧ MutS wG.heap.size g3 M (K3 + 1) (wr.setCell ⟨q9, k3, none⟩ (.string (s ++ ⟨#[63]⟩))) ∧ Blk (wr.setCell ⟨q9, k3, none⟩ (.string (s ++ ⟨#[63]⟩))) q3 #[.string T3, .slice (some ⟨q9, 0, none⟩) m cv] 45 from
                    ⟨HBY.out.setCell (p := ⟨q9, k3, none⟩) hlo _, HMY.out.set hqg k3 (by rw [hszs]; omega), (Below.heap_setCell _ _ _ _ (fun e => hq3n e.symm)).trans HQY.out⟩)
                  have hsb : s.size ≤ 200000000 := by omega
                  have hk3i : (k3 : Int) < (m : Int) := by omega
                  have hk30 : (0 : Int) ≤ (k3 : Int) := by omega
                  have Wk3 : IntKind.i64.wrap ((k3 : Int) + 1) = (k3 : Int) + 1 := IntWalk.i64_in _ (by omega)
                  clear hMy hQy hq9 hB9 hcur hs1 hq3n hszs h9
                  go_wp2_with fail
                  go_roundw
                  case rel => exact ⟨k3 + 1, K3 + 1, by omega, by go_num, HF.out.1, by omega, HF.out.2.1, HF.out.2.2⟩
                  case measure => simp [intOf]; omega
                · obtain rfl : m = k3 := by omega
                  have hmn : ¬ (m : Int) < (m : Int) := by omega
                  clear hMy hQy
                  go_wp2_with fail
                  go_roundw
                  case rel => exact ⟨j3 + 1, K3, by omega, by go_num, HBY.out, by omega, fun _ => ⟨g3, rfl, HMY.out⟩⟩
                  case measure => simp [intOf]; omega
            · obtain rfl : n3 = j3 := by omega
              have hnn : ¬ (n3 : Int) < (n3 : Int) := by omega
              obtain ⟨wx, rfl⟩ : ∃ wx, wx = wr := ⟨_, rfl⟩
              have HP := Lib.hid (H9.out.1.below HBX.out)
              have HB := Lib.hid (H9.out.2.1.trans (HBX.out.mono H9.out.2.1.size))
              have KQ := Lib.hid (show Blk wx q #[.int .u8 k, .string na, .string ta] 30 from (HBX.out.block q H9.out.2.2.lt).trans H9.out.2.2)
              have c0 : _ = some (Value.int .u8 k) := (KQ.out.cell 0).trans rfl; have c1 : _ = some (Value.string na) := (KQ.out.cell 1).trans rfl; have c2 : _ = some (Value.string ta) := (KQ.out.cell 2).trans rfl
              have hL3 := HP.out.lines na.data.toList HNA.out HLF.out (by omega)
              rw [txt_of] at hL3
              have hgs := HLS.out.gl na.data.toList
              have hgl := HLF.out.gl na.data.toList
              obtain ⟨lx, hlx⟩ : ∃ lx, gl LN na.data.toList = lx := ⟨_, rfl⟩
              rw [hlx] at hL3 hgs hgl
              obtain ⟨n4, hn4⟩ : ∃ n4, lx.length = n4 := ⟨_, rfl⟩
              have HLX := Lib.hid hlx
              have HN4 := Lib.hid hn4
              have HGS := Lib.hid hgs
              rw [hn4] at hgl
              clear hMx hlx hn4 hgs
              go_wp2_with (go_at_call 20; refine hL3.mono ?_; clear hL3; rintro e wI ⟨vI, rfl, hI⟩; have b1 := hI.2; obtain ⟨aI, cI, rfl, _⟩ := fi_row_cells hI.1; have HI := Lib.hid (show LnRd wI (.slice aI n4 cI) lx by rw [← HN4.out]; exact hI.rd); rw [HN4.out]; clear hI; have HP := Lib.hid (HP.out.below b1); have KQ := Lib.hid (show Blk _ q #[.int .u8 k, .string na, .string ta] 30 from (b1.block q KQ.out.lt).trans KQ.out); have HB := Lib.hid (HB.out.trans (b1.mono HB.out.size)); clear b1; have c0 : _ = some (Value.int .u8 k) := (KQ.out.cell 0).trans rfl; have c1 : _ = some (Value.string na) := (KQ.out.cell 1).trans rfl; have c2 : _ = some (Value.string ta) := (KQ.out.cell 2).trans rfl)
              go_loopw [136] (fun i wy => ∃ (k4 : Nat), k4 ≤ n4 ∧ i = .int .i64 k4 ∧ Below wI.heap.size wI wy) (fun i _ => n4 - (intOf i).toNat)
              case atStart => exact ⟨0, by omega, rfl, Below.refl _ _⟩
              case round =>
                obtain ⟨k4, hk4, rfl, hby⟩ := hrel
                have HBY := Lib.hid hby
                have HPY := Lib.hid (HP.out.below hby)
                have HBYW := Lib.hid (HB.out.trans (hby.mono HB.out.size))
                have KQ := Lib.hid (show Blk wr q #[.int .u8 k, .string na, .string ta] 30 from (hby.block q KQ.out.lt).trans KQ.out)
                have c0 : _ = some (Value.int .u8 k) := (KQ.out.cell 0).trans rfl; have c1 : _ = some (Value.string na) := (KQ.out.cell 1).trans rfl; have c2 : _ = some (Value.string ta) := (KQ.out.cell 2).trans rfl
                clear hby
                by_cases hl5 : k4 < n4
                · obtain ⟨aJ, cJ, hvJ, hcJ⟩ := HI.out
                  injection hvJ with hvJ hx1 hx2
                  subst hx2
                  clear hx1
                  obtain ⟨g5, o5, hg5, hlt5, hc5⟩ := hcJ (by rw [HN4.out]; omega)
                  rw [hg5] at hvJ
                  subst hvJ
                  have hkl : k4 < lx.length := by rw [HN4.out]; exact hl5
                  have r0 := (HBY.out.cell (p := ⟨g5, o5 + k4, none⟩) hlt5).trans (hc5 k4 hkl)
                  have hsz := HGS.out _ (List.getElem_mem hkl)
                  generalize lx[k4] = y5 at r0 hsz
                  obtain ⟨S, hS⟩ : ∃ S, txt y5 = S := ⟨_, rfl⟩
                  have hSs : S.size ≤ 300 := by rw [← hS, txt_size]; exact hsz
                  rw [hS] at r0
                  have hL4 := HPY.out.lines na.data.toList HNA.out HLF.out (by omega)
                  rw [txt_of, HLX.out] at hL4
                  have hk5 : (k4 : Int) < (n4 : Int) := by omega
                  have hk50 : (0 : Int) ≤ (k4 : Int) := by omega
                  have Wk4 : IntKind.i64.wrap ((k4 : Int) + 1) = (k4 : Int) + 1 := IntWalk.i64_in _ (by omega)
                  clear hcJ hg5 hc5 hsz hS
                  go_wp2_with (go_at_call 20; refine hL4.mono ?_; clear hL4; rintro e wJ ⟨vJ, rfl, hJ⟩; obtain ⟨gJ, cJ2, rfl, hJ1, hJ2, ⟨sJ, hJ3⟩, hJ4⟩ := ln_store hJ HN4.out hl5; have HJ := Lib.hid (And.intro hJ1 hJ2); clear hJ hJ1 hJ2)
                  have HF := Lib.hid (show Below wI.heap.size wI (wJ.setCell ⟨gJ, k4, none⟩ (.string (S ++ ⟨#[63]⟩))) from (HBY.out.trans (HJ.out.2.mono HBY.out.size)).setCell (p := ⟨gJ, k4, none⟩) (Nat.le_trans HBY.out.size HJ.out.1) _)
                  clear hJ3 hJ4
                  go_roundw
                  case rel => exact ⟨k4 + 1, by omega, by go_num, HF.out⟩
                  case measure => simp [intOf]; omega
                · obtain rfl : n4 = k4 := by omega
                  have hnn4 : ¬ (n4 : Int) < (n4 : Int) := by omega
                  go_wp2_with fail
                  go_roundw
                  case rel => exact ⟨j + 1, p3, LN, a3, c3, by omega, by go_num, rfl, by rw [HN3.out], (HPY.out.free.more (by omega)), HLF.out, HLS.out, HBYW.out⟩
                  case measure => simp [intOf]; omega
        · have hw9 : IntKind.u8.wrap 2 = 2 := by decide
          have hC := HP.out.copy (by omega) HLF.out (by omega)
          go_upto_region 16 with (go_at_call 14; refine hC.mono ?_; clear hC; rintro e wA ⟨pC, rfl, b1, hw⟩; have HWA := Lib.hid hw; clear hw; have KQ := Lib.hid (show Blk _ q #[.int .u8 k, .string na, .string ta] 30 from (b1.block q KQ.out.lt).trans KQ.out); have HB := Lib.hid (HB.out.trans (b1.mono HB.out.size)); clear b1; have c0 : _ = some (Value.int .u8 k) := (KQ.out.cell 0).trans rfl; have c1 : _ = some (Value.string na) := (KQ.out.cell 1).trans rfl; have c2 : _ = some (Value.string ta) := (KQ.out.cell 2).trans rfl)
          have hA := HWA.out wA (Below.refl _ _) (HG.out.up HB.out) na.data.toList ⟨#[116, 117, 114, 110, 101, 100]⟩ HNA.out (by decide)
          rw [txt_of] at hA
          go_upto_region 23 with (go_at_call 10; refine hA.mono ?_; clear hA; rintro e wB ⟨rfl, hp, hb, hk⟩; have HP := Lib.hid hp; have HB := Lib.hid (HB.out.trans hb); have KQ := Lib.hid (show Blk _ q #[.int .u8 k, .string na, .string ta] 30 from (hk q rfl).trans KQ.out); clear hp hb hk; have c0 : _ = some (Value.int .u8 k) := (KQ.out.cell 0).trans rfl; have c1 : _ = some (Value.string na) := (KQ.out.cell 1).trans rfl; have c2 : _ = some (Value.string ta) := (KQ.out.cell 2).trans rfl)
          have HP := Lib.hid (HP.out.more (show 10 + j ≤ 10 + j + 1 by omega))
          have HLF := Lib.hid (HLF.out.more (show 40000 + 300 * j ≤ 40000 + 300 * (j + 1) by omega))
          obtain ⟨LN, rfl⟩ : ∃ LN, LN = L := ⟨_, rfl⟩
          obtain ⟨a3, rfl⟩ : ∃ a3, a3 = aT := ⟨_, rfl⟩
          obtain ⟨c3, rfl⟩ : ∃ c3, c3 = cT := ⟨_, rfl⟩
          obtain ⟨p3, rfl⟩ : ∃ p3, p3 = pC := ⟨_, rfl⟩
          have hlen : LN.length ≤ 1000 := by have := HP.out.len; omega
          have HLE := Lib.hid hlen
          have hLi := rflines_any LN a3 c3 na wB HP.out.rd hlen
          go_upto_region 24 with (go_at_call 15; refine hLi.mono ?_; clear hLi; rintro e wC ⟨vC, rfl, _, b1⟩; have HP := Lib.hid (HP.out.below b1); have KQ := Lib.hid (show Blk _ q #[.int .u8 k, .string na, .string ta] 30 from (b1.block q KQ.out.lt).trans KQ.out); have HB := Lib.hid (HB.out.trans (b1.mono HB.out.size)); clear b1; have c0 : _ = some (Value.int .u8 k) := (KQ.out.cell 0).trans rfl; have c1 : _ = some (Value.string na) := (KQ.out.cell 1).trans rfl; have c2 : _ = some (Value.string ta) := (KQ.out.cell 2).trans rfl)
          have hH := HP.out.has na.data.toList HNA.out
          rw [txt_of] at hH
          obtain ⟨bv, hbv⟩ : ∃ bv, (fLines LN na.data.toList).isSome = bv := ⟨_, rfl⟩
          rw [hbv] at hH ⊢
          have hbb : (bv != bv) = false := by cases bv <;> rfl
          have hL := HP.out.list (by omega) HLF.out (by omega)
          clear hlen hbv
          go_upto_region 26 with (first
            | (go_at_call 16; refine hH.mono ?_; clear hH; rintro e wD ⟨rfl, hd⟩; have hd' := hd.symm; subst hd')
            | (go_at_call 19; refine hL.mono ?_; clear hL; rintro e wE ⟨vE, rfl, hE, b1⟩; have hRf := ref_any LN vE wE hE HLE.out; clear hE; have HP := Lib.hid (HP.out.below b1); have KQ := Lib.hid (show Blk _ q #[.int .u8 k, .string na, .string ta] 30 from (b1.block q KQ.out.lt).trans KQ.out); have HB := Lib.hid (HB.out.trans (b1.mono HB.out.size)); clear b1; have c0 : _ = some (Value.int .u8 k) := (KQ.out.cell 0).trans rfl; have c1 : _ = some (Value.string na) := (KQ.out.cell 1).trans rfl; have c2 : _ = some (Value.string ta) := (KQ.out.cell 2).trans rfl)
            | (go_at_call 18; refine hRf.mono ?_; clear hRf; rintro e wF ⟨aF, cF, rfl, hFF, b1⟩; have HP := Lib.hid (HP.out.below b1); have KQ := Lib.hid (show Blk _ q #[.int .u8 k, .string na, .string ta] 30 from (b1.block q KQ.out.lt).trans KQ.out); have HB := Lib.hid (HB.out.trans (b1.mono HB.out.size)); clear b1; have c0 : _ = some (Value.int .u8 k) := (KQ.out.cell 0).trans rfl; have c1 : _ = some (Value.string na) := (KQ.out.cell 1).trans rfl; have c2 : _ = some (Value.string ta) := (KQ.out.cell 2).trans rfl; have hSm := rfsame_any LN aF a3 cF c3 wF hFF.rd HP.out.rd HLE.out HP.out.few; clear hFF)
            | (go_at_call 17; refine hSm.mono ?_; clear hSm; rintro e wG ⟨rfl, b1⟩; have HP := Lib.hid (HP.out.below b1); have KQ := Lib.hid (show Blk _ q #[.int .u8 k, .string na, .string ta] 30 from (b1.block q KQ.out.lt).trans KQ.out); have HB := Lib.hid (HB.out.trans (b1.mono HB.out.size)); clear b1; have c0 : _ = some (Value.int .u8 k) := (KQ.out.cell 0).trans rfl; have c1 : _ = some (Value.string na) := (KQ.out.cell 1).trans rfl; have c2 : _ = some (Value.string ta) := (KQ.out.cell 2).trans rfl))
          have hL2 := HP.out.list (by omega) HLF.out (by omega)
          have H9 := Lib.hid (And.intro HP.out (And.intro HB.out KQ.out))
          go_wp2_with (go_at_call 19; refine hL2.mono ?_; clear hL2; rintro e wH ⟨vH, rfl, hH1, b1⟩; obtain ⟨aH, cH, rfl⟩ := hH1.form; have HMU := Lib.hid (mut_of hH1 HLS.out); have HB1 := Lib.hid b1; clear hH1; have HP := Lib.hid (HP.out.below b1); have KQ := Lib.hid (show Blk _ q #[.int .u8 k, .string na, .string ta] 30 from (b1.block q KQ.out.lt).trans KQ.out); have HB := Lib.hid (HB.out.trans (b1.mono HB.out.size)); clear b1; have c0 : _ = some (Value.int .u8 k) := (KQ.out.cell 0).trans rfl; have c1 : _ = some (Value.string na) := (KQ.out.cell 1).trans rfl; have c2 : _ = some (Value.string ta) := (KQ.out.cell 2).trans rfl)
          obtain ⟨M, hM, hMut⟩ := HMU.out
          obtain ⟨n3, hn3⟩ : ∃ n3, LN.length = n3 := ⟨_, rfl⟩
          have HM := Lib.hid hM
          have hMl : M.length = n3 := by rw [← hn3, ← hM, List.length_map]
          have HML := Lib.hid hMl
          have HMT := Lib.hid hMut
          have HN3 := Lib.hid hn3
          rw [hn3]
          have hn3b : n3 ≤ 1000 := by have := HLE.out; omega
          clear hM hMl hMut hn3 c0 c1 c2 hbb
          go_loopw [112] (fun i wx => ∃ (j3 KK : Nat), j3 ≤ n3 ∧ i = .int .i64 j3 ∧ Below wG.heap.size wG wx ∧ KK ≤ 300 + j3 * 100000 ∧ (0 < M.length → ∃ g, aH = some ⟨g, 0, none⟩ ∧ MutS wG.heap.size g M KK wx)) (fun i _ => n3 - (intOf i).toNat)
          case atStart => exact ⟨0, 300, by omega, rfl, HB1.out, by omega, HMT.out⟩
          case round =>
            obtain ⟨j3, KK, hj3, rfl, hbx, hKK, hMx⟩ := hrel
            have HBX := Lib.hid hbx
            clear hbx
            by_cases hl3 : j3 < n3
            · obtain ⟨g3, rfl, hMS⟩ := hMx (by rw [HML.out]; omega)
              have hjm : j3 < M.length := by rw [HML.out]; exact hl3
              have e0 := (hMS.c j3 hjm).1
              have e1 := (hMS.c j3 hjm).2
              have hxm := List.getElem_mem hjm
              have hml : M[j3].1.2.length ≤ 100000 := Nat.le_trans (HLF.out _ (by rw [← HM.out]; exact List.mem_map_of_mem hxm)) (by omega)
              generalize M[j3] = x3 at e0 e1 hxm hml
              obtain ⟨⟨y3, ls3⟩, v3⟩ := x3
              simp only at e0 e1 hml
              obtain ⟨av, cv, hv3, _⟩ := hMS.r _ hxm
              simp only at hv3
              subst hv3
              obtain ⟨m, hmm⟩ : ∃ m, ls3.length = m := ⟨_, rfl⟩
              rw [hmm] at e1 hml
              obtain ⟨T3, hT3⟩ : ∃ T3, txt y3 = T3 := ⟨_, rfl⟩
              rw [hT3] at e0
              have HXM := Lib.hid hxm
              have HMM := Lib.hid hmm
              have HMS := Lib.hid hMS
              have hj3i : (j3 : Int) < (n3 : Int) := by omega
              have hj30 : (0 : Int) ≤ (j3 : Int) := by omega
              have Wj3 : IntKind.i64.wrap ((j3 : Int) + 1) = (j3 : Int) + 1 := IntWalk.i64_in _ (by omega)
              clear hMx hMS hxm hmm hT3
              go_upto_region 29 with fail
              have hbl : Below wr.heap.size wr (wr.alloc (.cells #[.string T3, .slice av m cv] 45)) := (Below.refl _ wr).alloc (Nat.le_refl _) _
              have hqb : Blk (wr.alloc (.cells #[.string T3, .slice av m cv] 45)) wr.heap.size #[.string T3, .slice av m cv] 45 := (MapKept.heap_alloc wr _).1
              obtain ⟨q3, hq3⟩ : ∃ q3, wr.heap.size = q3 := ⟨_, rfl⟩
              have HMS2 := Lib.hid (HMS.out.below hbl)
              have HBX2 := Lib.hid (HBX.out.trans (hbl.mono HBX.out.size))
              rw [hq3] at hqb ⊢
              generalize wr.alloc _ = W5 at hqb HMS2 HBX2 ⊢
              have k1 : W5.cell? ⟨q3, 1, none⟩ = some (.slice av m cv) := (hqb.cell 1).trans rfl
              have HQ3 := Lib.hid hqb
              clear hbl hqb hq3 e0 e1
              go_wp2_with fail
              go_loopw [119] (fun i wy => ∃ (k3 K3 : Nat), k3 ≤ m ∧ i = .int .i64 k3 ∧ Below wG.heap.size wG wy ∧ K3 ≤ 300 + j3 * 100000 + k3 ∧ MutS wG.heap.size g3 M K3 wy ∧ Blk wy q3 #[.string T3, .slice av m cv] 45) (fun i _ => m - (intOf i).toNat)
              case atStart => exact ⟨0, KK, by omega, rfl, HBX2.out, by omega, HMS2.out, HQ3.out⟩
              case round =>
                obtain ⟨k3, K3, hk3, rfl, hby, hK3, hMy, hQy⟩ := hrel
                have HBY := Lib.hid hby
                have HMY := Lib.hid hMy
                have HQY := Lib.hid hQy
                have k1 : wr.cell? ⟨q3, 1, none⟩ = some (.slice av m cv) := (hQy.cell 1).trans rfl
                clear hby
                by_cases hl4 : k3 < m
                · obtain ⟨a9, c9, hv9, h9⟩ := hMy.r _ HXM.out
                  simp only at hv9
                  rw [HMM.out] at hv9 h9
                  injection hv9 with hv9 hv7 hv8
                  subst hv8
                  clear hv7
                  obtain ⟨q9, cur, hq9, hlo, hqg, hB9, hcur⟩ := h9 (by omega)
                  obtain ⟨s, hs1, hs2⟩ := hcur k3 hl4
                  rw [hq9] at hv9
                  subst hv9
                  have r0 : wr.cell? ⟨q9, k3, none⟩ = some (.string s) := (hB9.cell k3).trans hs1
                  have f0 := hB9.frozen k3
                  have hq3n : q9 ≠ q3 := fun e => by
                    subst e
                    have h1 : wr.heap[q9]? = some (.cells cur 9) := hB9
                    have h2 : wr.heap[q9]? = some (.cells #[.string T3, .slice (some ⟨q9, 0, none⟩) m cv] 45) := hQy
                    rw [h1] at h2
                    injection h2 with h2
                    injection h2 with _ h2
                    exact absurd h2 (by decide)
                  have hszs : (s ++ ⟨#[63]⟩).size = s.size + 1 := by rw [ByteArray.size_append]; rfl
                  have HF := Lib.hid (show Below wG.heap.size wG (wr.setCell ⟨q9, k3, none⟩ (.string (s ++ ⟨#[63]⟩))) ∧ MutS wG.heap.size g3 M (K3 + 1) (wr.setCell ⟨q9, k3, none⟩ (.string (s ++ ⟨#[63]⟩))) ∧ Blk (wr.setCell ⟨q9, k3, none⟩ (.string (s ++ ⟨#[63]⟩))) q3 #[.string T3, .slice (some ⟨q9, 0, none⟩) m cv] 45 from
                    ⟨HBY.out.setCell (p := ⟨q9, k3, none⟩) hlo _, HMY.out.set hqg k3 (by rw [hszs]; omega), (Below.heap_setCell _ _ _ _ (fun e => hq3n e.symm)).trans HQY.out⟩)
                  have hsb : s.size ≤ 200000000 := by omega
                  have hk3i : (k3 : Int) < (m : Int) := by omega
                  have hk30 : (0 : Int) ≤ (k3 : Int) := by omega
                  have Wk3 : IntKind.i64.wrap ((k3 : Int) + 1) = (k3 : Int) + 1 := IntWalk.i64_in _ (by omega)
                  clear hMy hQy hq9 hB9 hcur hs1 hq3n hszs h9
                  go_wp2_with fail
                  go_roundw
                  case rel => exact ⟨k3 + 1, K3 + 1, by omega, by go_num, HF.out.1, by omega, HF.out.2.1, HF.out.2.2⟩
                  case measure => simp [intOf]; omega
                · obtain rfl : m = k3 := by omega
                  have hmn : ¬ (m : Int) < (m : Int) := by omega
                  clear hMy hQy
                  go_wp2_with fail
                  go_roundw
                  case rel => exact ⟨j3 + 1, K3, by omega, by go_num, HBY.out, by omega, fun _ => ⟨g3, rfl, HMY.out⟩⟩
                  case measure => simp [intOf]; omega
            · obtain rfl : n3 = j3 := by omega
              have hnn : ¬ (n3 : Int) < (n3 : Int) := by omega
              obtain ⟨wx, rfl⟩ : ∃ wx, wx = wr := ⟨_, rfl⟩
              have HP := Lib.hid (H9.out.1.below HBX.out)
              have HB := Lib.hid (H9.out.2.1.trans (HBX.out.mono H9.out.2.1.size))
              have KQ := Lib.hid (show Blk wx q #[.int .u8 k, .string na, .string ta] 30 from (HBX.out.block q H9.out.2.2.lt).trans H9.out.2.2)
              have c0 : _ = some (Value.int .u8 k) := (KQ.out.cell 0).trans rfl; have c1 : _ = some (Value.string na) := (KQ.out.cell 1).trans rfl; have c2 : _ = some (Value.string ta) := (KQ.out.cell 2).trans rfl
              have hL3 := HP.out.lines na.data.toList HNA.out HLF.out (by omega)
              rw [txt_of] at hL3
              have hgs := HLS.out.gl na.data.toList
              have hgl := HLF.out.gl na.data.toList
              obtain ⟨lx, hlx⟩ : ∃ lx, gl LN na.data.toList = lx := ⟨_, rfl⟩
              rw [hlx] at hL3 hgs hgl
              obtain ⟨n4, hn4⟩ : ∃ n4, lx.length = n4 := ⟨_, rfl⟩
              have HLX := Lib.hid hlx
              have HN4 := Lib.hid hn4
              have HGS := Lib.hid hgs
              rw [hn4] at hgl
              clear hMx hlx hn4 hgs
              go_wp2_with (go_at_call 20; refine hL3.mono ?_; clear hL3; rintro e wI ⟨vI, rfl, hI⟩; have b1 := hI.2; obtain ⟨aI, cI, rfl, _⟩ := fi_row_cells hI.1; have HI := Lib.hid (show LnRd wI (.slice aI n4 cI) lx by rw [← HN4.out]; exact hI.rd); rw [HN4.out]; clear hI; have HP := Lib.hid (HP.out.below b1); have KQ := Lib.hid (show Blk _ q #[.int .u8 k, .string na, .string ta] 30 from (b1.block q KQ.out.lt).trans KQ.out); have HB := Lib.hid (HB.out.trans (b1.mono HB.out.size)); clear b1; have c0 : _ = some (Value.int .u8 k) := (KQ.out.cell 0).trans rfl; have c1 : _ = some (Value.string na) := (KQ.out.cell 1).trans rfl; have c2 : _ = some (Value.string ta) := (KQ.out.cell 2).trans rfl)
              go_loopw [136] (fun i wy => ∃ (k4 : Nat), k4 ≤ n4 ∧ i = .int .i64 k4 ∧ Below wI.heap.size wI wy) (fun i _ => n4 - (intOf i).toNat)
              case atStart => exact ⟨0, by omega, rfl, Below.refl _ _⟩
              case round =>
                obtain ⟨k4, hk4, rfl, hby⟩ := hrel
                have HBY := Lib.hid hby
                have HPY := Lib.hid (HP.out.below hby)
                have HBYW := Lib.hid (HB.out.trans (hby.mono HB.out.size))
                have KQ := Lib.hid (show Blk wr q #[.int .u8 k, .string na, .string ta] 30 from (hby.block q KQ.out.lt).trans KQ.out)
                have c0 : _ = some (Value.int .u8 k) := (KQ.out.cell 0).trans rfl; have c1 : _ = some (Value.string na) := (KQ.out.cell 1).trans rfl; have c2 : _ = some (Value.string ta) := (KQ.out.cell 2).trans rfl
                clear hby
                by_cases hl5 : k4 < n4
                · obtain ⟨aJ, cJ, hvJ, hcJ⟩ := HI.out
                  injection hvJ with hvJ hx1 hx2
                  subst hx2
                  clear hx1
                  obtain ⟨g5, o5, hg5, hlt5, hc5⟩ := hcJ (by rw [HN4.out]; omega)
                  rw [hg5] at hvJ
                  subst hvJ
                  have hkl : k4 < lx.length := by rw [HN4.out]; exact hl5
                  have r0 := (HBY.out.cell (p := ⟨g5, o5 + k4, none⟩) hlt5).trans (hc5 k4 hkl)
                  have hsz := HGS.out _ (List.getElem_mem hkl)
                  generalize lx[k4] = y5 at r0 hsz
                  obtain ⟨S, hS⟩ : ∃ S, txt y5 = S := ⟨_, rfl⟩
                  have hSs : S.size ≤ 300 := by rw [← hS, txt_size]; exact hsz
                  rw [hS] at r0
                  have hL4 := HPY.out.lines na.data.toList HNA.out HLF.out (by omega)
                  rw [txt_of, HLX.out] at hL4
                  have hk5 : (k4 : Int) < (n4 : Int) := by omega
                  have hk50 : (0 : Int) ≤ (k4 : Int) := by omega
                  have Wk4 : IntKind.i64.wrap ((k4 : Int) + 1) = (k4 : Int) + 1 := IntWalk.i64_in _ (by omega)
                  clear hcJ hg5 hc5 hsz hS
                  go_wp2_with (go_at_call 20; refine hL4.mono ?_; clear hL4; rintro e wJ ⟨vJ, rfl, hJ⟩; obtain ⟨gJ, cJ2, rfl, hJ1, hJ2, ⟨sJ, hJ3⟩, hJ4⟩ := ln_store hJ HN4.out hl5; have HJ := Lib.hid (And.intro hJ1 hJ2); clear hJ hJ1 hJ2)
                  have HF := Lib.hid (show Below wI.heap.size wI (wJ.setCell ⟨gJ, k4, none⟩ (.string (S ++ ⟨#[63]⟩))) from (HBY.out.trans (HJ.out.2.mono HBY.out.size)).setCell (p := ⟨gJ, k4, none⟩) (Nat.le_trans HBY.out.size HJ.out.1) _)
                  clear hJ3 hJ4
                  go_roundw
                  case rel => exact ⟨k4 + 1, by omega, by go_num, HF.out⟩
                  case measure => simp [intOf]; omega
                · obtain rfl : n4 = k4 := by omega
                  have hnn4 : ¬ (n4 : Int) < (n4 : Int) := by omega
                  go_wp2_with fail
                  go_roundw
                  case rel => exact ⟨j + 1, p3, LN, a3, c3, by omega, by go_num, rfl, by rw [HN3.out], (HPY.out.free.more (by omega)), HLF.out, HLS.out, HBYW.out⟩
                  case measure => simp [intOf]; omega
      · obtain rfl : n2 = j := by omega
        have hnn : ¬ (n2 : Int) < (n2 : Int) := by omega
        have hlen2 : L.length ≤ 1000 := by have := HP0.out.len; omega
        have HLE := Lib.hid hlen2
        have hL := HP0.out.list (by omega) HLF.out (by omega)
        clear hlen2
        go_wp2_with (first
          | (go_at_call 19; refine hL.mono ?_; clear hL; rintro e wE ⟨vE, rfl, hE, b1⟩; have hRf := ref_any L vE wE hE HLE.out; clear hE; have HP0 := Lib.hid (HP0.out.below b1); have HB := Lib.hid (HB.out.trans (b1.mono HB.out.size)); clear b1)
          | (go_at_call 18; refine hRf.mono ?_; clear hRf; rintro e wF ⟨aF, cF, rfl, hFF, b1⟩; have HP0 := Lib.hid (HP0.out.below b1); have hSm := rfsame_any L aF aT cF cT wF hFF.rd HP0.out.rd HLE.out HP0.out.few; clear hFF; have HB := Lib.hid (HB.out.trans (b1.mono HB.out.size)); clear b1)
          | (go_at_call 17; refine hSm.mono ?_; clear hSm; rintro e wG ⟨rfl, b1⟩; have HB := Lib.hid (HB.out.trans (b1.mono HB.out.size)); clear b1))
        go_ret
        exact ⟨by first | rfl | trivial, HB.out⟩
end Go.Proofs.YtnognicabhgmcaaDoor
