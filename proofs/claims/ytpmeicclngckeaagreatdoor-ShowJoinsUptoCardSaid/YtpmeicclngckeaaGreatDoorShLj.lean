/- ShowJoins, walked. -/
import Derived.Test.YtpmeicclngckeaaGreatDoorShLt
import Derived.Test.YtpmeicclngckeaaGreatDoorNdJoin
import Derived.Deep.DeepCutAuto
import Derived.Deep.RegionWith
namespace Go.Proofs.YtpmeicclngckeaaGreatDoor
open Go Go.RowKit

/-- Two trees in their boxes. -/
structure Hold2 (w0 : World) (p q : Nat) (t u : Tr) (a b : Option Addr) (ca cb : Nat) (w' : World) : Prop where
  below : Below w0.heap.size w0 w'
  bt : Blk w' p (tC t a ca) 39
  bu : Blk w' q (tC u b cb) 39
theorem Hold2.step {w0 : World} {p q : Nat} {t u : Tr} {a b : Option Addr} {ca cb : Nat} {W W' : World} (hb : Below W.heap.size W W') (h : Hold2 w0 p q t u a b ca cb W) : Hold2 w0 p q t u a b ca cb W' := ⟨h.below.trans (hb.mono h.below.size), h.bt.below hb h.bt.lt, h.bu.below hb h.bu.lt⟩
theorem Hold2.drew {w0 : World} {p q : Nat} {t u : Tr} {a b : Option Addr} {ca cb : Nat} {W : World} (h : Hold2 w0 p q t u a b ca cb W) : Hold2 w0 p q t u a b ca cb W.drew := ⟨h.below.drew, h.bt, h.bu⟩
/-- The texts of two right trees without groups: chosen among, and joined. -/
theorem joins6 (D E : Nd) (rd : nrightB D = true) (re : nrightB E = true) (gd : ngroups D = 0) :
    ereT (nchoose [D, E]) = ereT D ++ 124 :: ereT E ∧ (inAlt D = true → inAlt E = true → ereT (njoin [D, E]) = ereT D ++ ereT E) := by
  have hD : ereT D = nT D := by unfold ereT; rw [rd]; rfl
  have hE : ereT E = nT E := by unfold ereT; rw [re]; rfl
  unfold nrightB at rd re
  obtain ⟨xa, ha⟩ := Option.isSome_iff_exists.1 rd
  obtain ⟨xb, hb⟩ := Option.isSome_iff_exists.1 re
  rw [hD, hE]
  refine ⟨?_, fun ia ib => ?_⟩
  · obtain ⟨h1, h2⟩ := choose_text D E xa xb ha hb gd
    unfold ereT
    rw [h2, h1]; rfl
  · obtain ⟨h1, h2⟩ := join_text D E xa xb ha hb gd ia ib
    unfold ereT
    rw [h2, h1]; rfl
theorem ba_app (x y : List UInt8) : (⟨(x ++ y).toArray⟩ : ByteArray) = ⟨x.toArray⟩ ++ ⟨y.toArray⟩ := by
  apply ByteArray.ext
  simp
theorem ereT_le (d : Nd) (hr : nrightB d = true) (hz : nsize d ≤ 300000) : (ereT d).length ≤ 3000 * nsize d := by
  unfold ereT
  rw [hr]
  unfold nrightB at hr
  obtain ⟨x, hx⟩ := Option.isSome_iff_exists.1 hr
  have := nT_le d (right_num d 0 [] x hx (by omega) (by simp) (by omega)).1
  simp only [if_true]
  omega
theorem ndrw_blk6 {F : Nat → Prop} {W : World} {b : Nat} {vs : List Value} {T : TypeId} {l : List Nd} (h : Blk W b vs.toArray T) (hl : vs.length = l.length) (hm : l.length ≤ maxLen) (hd : ∀ i (h1 : i < l.length) (h2 : i < vs.length), NdX F W l[i] vs[i]) (hF : F b) : NdRw F W l (some ⟨b, 0, none⟩) l.length :=
  ⟨Nat.le_refl _, hm, fun _ => ⟨b, 0, rfl, hF, h.lt, fun i hi => ⟨vs[i]'(by omega), by rw [Nat.zero_add, h.cell i]; simp, hd i hi (by omega)⟩⟩⟩
theorem ndx_wide6 {F : Nat → Prop} {w : World} {d : Nd} {v : Value} (h : NdX F w d v) : NdX (fun _ => True) w d v := h.keep (Nat.le_refl _) (fun _ _ _ => ⟨trivial, fun _ => rfl⟩)
theorem two_nd6 {w : World} {D E : Nd} {x y : Value} (hx : NdX (fun _ => True) w D x) (hy : NdX (fun _ => True) w E y) : ∀ i (_ : i < [D, E].length) (_ : i < [x, y].length), NdX (fun _ => True) w [D, E][i] [x, y][i]
  | 0, _, _ => hx
  | 1, _, _ => hy
/-- The row of the two nodes, just laid. -/
theorem row6 {W : World} {D E : Nd} {x y : Value} (hx : NdX (fun _ => True) W D x) (hy : NdX (fun _ => True) W E y) : NdRw (fun _ => True) (W.alloc (.cells #[x, y] 31)) [D, E] (some ⟨W.heap.size, 0, none⟩) 2 :=
  ndrw_blk6 (vs := [x, y]) (l := [D, E]) (Blk.new W #[x, y] 31 W.heap.size rfl) rfl (show 2 ≤ maxLen by decide) (two_nd6 (hx.below (Below.alloc (Below.refl W.heap.size W) (Nat.le_refl _) _)) (hy.below (Below.alloc (Below.refl W.heap.size W) (Nat.le_refl _) _))) trivial
set_option linter.unusedSimpArgs false in
set_option maxRecDepth 100000 in
set_option maxHeartbeats 4000000 in
theorem showjoins_any (n : Nat) (t : Tr) (a : Option Addr) (ca : Nat) (m : Nat) (u : Tr) (b : Option Addr) (cb : Nat) (w : World) (ht : TrAt n w t a ca) (zt : tall t ≤ 1048576) (hu : TrAt m w u b cb) (zu : tall u ≤ 1048576) (hG : G6 w) :
    Calls Tryz.prog 7 #[tV t a ca, tV u b cb] w fun e w' => e = .returned (.bool true) ∧ Below w.heap.size w w' := by
  have hH : Hold2 w w.heap.size (w.heap.size + 1) t u a b ca cb ((w.alloc (.cells (tC t a ca) 39)).alloc (.cells (tC u b cb) 39)) :=
    ⟨((Below.refl w.heap.size w).alloc (Nat.le_refl _) (.cells (tC t a ca) 39)).alloc (by simp) (.cells (tC u b cb) 39), (Blk.new w (tC t a ca) 39 _ rfl).alloc (.cells (tC u b cb) 39), Blk.new (w.alloc (.cells (tC t a ca) 39)) (tC u b cb) 39 (w.heap.size + 1) (by simp)⟩
  have haw := fun W (h : Hold2 w w.heap.size (w.heap.size + 1) t u a b ca cb W) => awake6_any W (hG.up h.below)
  obtain ⟨fa, hfa⟩ : ∃ fa, fa = (decide (tall t ≤ 60) && tknown t) := ⟨_, rfl⟩
  obtain ⟨fb, hfb⟩ : ∃ fb, fb = (decide (tall u ≤ 60) && tknown u) := ⟨_, rfl⟩
  obtain ⟨ra, hra⟩ : ∃ ra, ra = nrightB (canon t) := ⟨_, rfl⟩
  obtain ⟨rb, hrb⟩ : ∃ rb, rb = nrightB (canon u) := ⟨_, rfl⟩
  obtain ⟨ga, hga⟩ : ∃ ga, ga = ngroups (canon t) := ⟨_, rfl⟩
  obtain ⟨gb, hgb⟩ : ∃ gb, gb = ngroups (canon u) := ⟨_, rfl⟩
  have hF1 := fun W (h : Hold2 w w.heap.size (w.heap.size + 1) t u a b ca cb W) => lfew_any n t a ca 60 W (TrAt.below h.below _ _ _ _ ht) (by omega)
  have hF2 := fun W (h : Hold2 w w.heap.size (w.heap.size + 1) t u a b ca cb W) => lfew_any m u b cb 60 W (TrAt.below h.below _ _ _ _ hu) (by omega)
  have hN := trd_of6 ht
  have hM := trd_of6 hu
  have hs1 := nsize_tall t
  have hs2 := nsize_tall u
  have hg1 := ngroups_size (canon t)
  have hg2 := ngroups_size (canon u)
  have hT1 := fun (hk : tknown t = true) W (h : Hold2 w w.heap.size (w.heap.size + 1) t u a b ca cb W) => right6 _ t a ca W (hN.below h.below) hk (by omega)
  have hT2 := fun (hk : tknown u = true) W (h : Hold2 w w.heap.size (w.heap.size + 1) t u a b ca cb W) => right6 _ u b cb W (hM.below h.below) hk (by omega)
  have hQ1 := fun W (h : Hold2 w w.heap.size (w.heap.size + 1) t u a b ca cb W) => rgroups_any _ t a ca W (hN.below h.below) (by omega)
  have hQ2 := fun W (h : Hold2 w w.heap.size (w.heap.size + 1) t u a b ca cb W) => rgroups_any _ u b cb W (hM.below h.below) (by omega)
  have hR1 := fun W (h : Hold2 w w.heap.size (w.heap.size + 1) t u a b ca cb W) => lreal_any _ t a ca W (hN.below h.below) (by omega)
  have hR2 := fun W (h : Hold2 w w.heap.size (w.heap.size + 1) t u a b ca cb W) => lreal_any _ u b cb W (hM.below h.below) (by omega)
  have hGW := fun W (h : Below w.heap.size w W) => hG.up h
  rw [← hfa] at hF1
  rw [← hfb] at hF2
  rw [← hra] at hT1
  rw [← hrb] at hT2
  rw [← hga] at hQ1 hg1
  rw [← hgb] at hQ2 hg2
  have HFA := Lib.hid hfa
  have HFB := Lib.hid hfb
  have HRA := Lib.hid hra
  have HRB := Lib.hid hrb
  have HGA := Lib.hid hga
  have HGB := Lib.hid hgb
  have HS := Lib.hid (And.intro hs1 hs2)
  have HZ := Lib.hid (And.intro hg1 hg2)
  clear hfa hfb hra hrb hga hgb hs1 hs2 hg1 hg2 zt zu
  clear hN hM ht hu hG
  have hc := blk9c6 hH.bt
  have hd := blk9c6 hH.bu
  unfold tV at hF1 hF2 hT1 hT2 hQ1 hQ2 hR1 hR2 ⊢
  go_enter Tryz.func7, Tryz.ntmps7
  cases fa with
  | false =>
    clear hF2 hT1 hT2 hQ1 hQ2 hR1 hR2 hGW
    go_wp2_with fail
    go_region_law (first | (go_simp; go_at_call 8; refine (haw _ (by first | exact hH | exact Hold2.drew hH)).mono ?_; rintro e w1 ⟨rfl, bX⟩; replace hH : Hold2 w w.heap.size (w.heap.size + 1) t u a b ca cb w1 := (by first | exact Hold2.step bX hH | exact Hold2.step bX (Hold2.drew hH)); clear bX hc hd; have hc := blk9c6 hH.bt; have hd := blk9c6 hH.bu) | (go_simp; go_at_call_of 13 (Tr.kind t); refine (hF1 _ (by first | exact hH | exact Hold2.drew hH)).mono ?_; rintro e w2 ⟨rfl, bX⟩; replace hH : Hold2 w w.heap.size (w.heap.size + 1) t u a b ca cb w2 := (by first | exact Hold2.step bX hH | exact Hold2.step bX (Hold2.drew hH)); clear bX hc hd; have hc := blk9c6 hH.bt; have hd := blk9c6 hH.bu))
    all_goals (go_wp2_with fail; refine (haw _ (by first | exact hH | exact Hold2.drew hH)).mono ?_; rintro e w8 ⟨rfl, b8⟩; replace hH : Hold2 w w.heap.size (w.heap.size + 1) t u a b ca cb w8 := (by first | exact Hold2.step b8 hH | exact Hold2.step b8 (Hold2.drew hH)); go_wp2_with fail; go_ret; exact ⟨rfl, hH.below⟩)
  | true =>
    have hfa := HFA.out.symm
    rw [Bool.and_eq_true, decide_eq_true_eq] at hfa
    replace hT1 := hT1 hfa.2
    have HF1 := Lib.hid hfa
    clear hfa
    cases fb with
    | false =>
      clear hT1 hT2 hQ1 hQ2 hR1 hR2 hGW
      go_wp2_with fail
      go_region_law (first | (go_simp; go_at_call 8; refine (haw _ (by first | exact hH | exact Hold2.drew hH)).mono ?_; rintro e w1 ⟨rfl, bX⟩; replace hH : Hold2 w w.heap.size (w.heap.size + 1) t u a b ca cb w1 := (by first | exact Hold2.step bX hH | exact Hold2.step bX (Hold2.drew hH)); clear bX hc hd; have hc := blk9c6 hH.bt; have hd := blk9c6 hH.bu) | (go_simp; go_at_call_of 13 (Tr.kind t); refine (hF1 _ (by first | exact hH | exact Hold2.drew hH)).mono ?_; rintro e w2 ⟨rfl, bX⟩; replace hH : Hold2 w w.heap.size (w.heap.size + 1) t u a b ca cb w2 := (by first | exact Hold2.step bX hH | exact Hold2.step bX (Hold2.drew hH)); clear bX hc hd; have hc := blk9c6 hH.bt; have hd := blk9c6 hH.bu) | (go_simp; go_at_call_of 13 (Tr.kind u); refine (hF2 _ (by first | exact hH | exact Hold2.drew hH)).mono ?_; rintro e w3 ⟨rfl, bX⟩; replace hH : Hold2 w w.heap.size (w.heap.size + 1) t u a b ca cb w3 := (by first | exact Hold2.step bX hH | exact Hold2.step bX (Hold2.drew hH)); clear bX hc hd; have hc := blk9c6 hH.bt; have hd := blk9c6 hH.bu))
      all_goals (go_wp2_with fail; refine (haw _ (by first | exact hH | exact Hold2.drew hH)).mono ?_; rintro e w8 ⟨rfl, b8⟩; replace hH : Hold2 w w.heap.size (w.heap.size + 1) t u a b ca cb w8 := (by first | exact Hold2.step b8 hH | exact Hold2.step b8 (Hold2.drew hH)); go_wp2_with fail; go_ret; exact ⟨rfl, hH.below⟩)
    | true =>
      have hfb := HFB.out.symm
      rw [Bool.and_eq_true, decide_eq_true_eq] at hfb
      replace hT2 := hT2 hfb.2
      have HF2 := Lib.hid hfb
      clear hfb
      cases ra with
      | false =>
        clear hT2 hQ1 hQ2 hR1 hR2 hGW
        go_wp2_with fail
        go_region_law (first | (go_simp; go_at_call 8; refine (haw _ (by first | exact hH | exact Hold2.drew hH)).mono ?_; rintro e w1 ⟨rfl, bX⟩; replace hH : Hold2 w w.heap.size (w.heap.size + 1) t u a b ca cb w1 := (by first | exact Hold2.step bX hH | exact Hold2.step bX (Hold2.drew hH)); clear bX hc hd; have hc := blk9c6 hH.bt; have hd := blk9c6 hH.bu) | (go_simp; go_at_call_of 13 (Tr.kind t); refine (hF1 _ (by first | exact hH | exact Hold2.drew hH)).mono ?_; rintro e w2 ⟨rfl, bX⟩; replace hH : Hold2 w w.heap.size (w.heap.size + 1) t u a b ca cb w2 := (by first | exact Hold2.step bX hH | exact Hold2.step bX (Hold2.drew hH)); clear bX hc hd; have hc := blk9c6 hH.bt; have hd := blk9c6 hH.bu) | (go_simp; go_at_call_of 13 (Tr.kind u); refine (hF2 _ (by first | exact hH | exact Hold2.drew hH)).mono ?_; rintro e w3 ⟨rfl, bX⟩; replace hH : Hold2 w w.heap.size (w.heap.size + 1) t u a b ca cb w3 := (by first | exact Hold2.step bX hH | exact Hold2.step bX (Hold2.drew hH)); clear bX hc hd; have hc := blk9c6 hH.bt; have hd := blk9c6 hH.bu) | (go_simp; go_at_call_of 19 (Tr.kind t); refine (hT1 _ (by first | exact hH | exact Hold2.drew hH)).mono ?_; rintro e w4 ⟨rfl, bX⟩; replace hH : Hold2 w w.heap.size (w.heap.size + 1) t u a b ca cb w4 := (by first | exact Hold2.step bX hH | exact Hold2.step bX (Hold2.drew hH)); clear bX hc hd; have hc := blk9c6 hH.bt; have hd := blk9c6 hH.bu))
        all_goals (go_wp2_with fail; refine (haw _ (by first | exact hH | exact Hold2.drew hH)).mono ?_; rintro e w8 ⟨rfl, b8⟩; replace hH : Hold2 w w.heap.size (w.heap.size + 1) t u a b ca cb w8 := (by first | exact Hold2.step b8 hH | exact Hold2.step b8 (Hold2.drew hH)); go_wp2_with fail; go_ret; exact ⟨rfl, hH.below⟩)
      | true =>
        cases rb with
        | false =>
          clear hQ1 hQ2 hR1 hR2 hGW
          go_wp2_with fail
          go_region_law (first | (go_simp; go_at_call 8; refine (haw _ (by first | exact hH | exact Hold2.drew hH)).mono ?_; rintro e w1 ⟨rfl, bX⟩; replace hH : Hold2 w w.heap.size (w.heap.size + 1) t u a b ca cb w1 := (by first | exact Hold2.step bX hH | exact Hold2.step bX (Hold2.drew hH)); clear bX hc hd; have hc := blk9c6 hH.bt; have hd := blk9c6 hH.bu) | (go_simp; go_at_call_of 13 (Tr.kind t); refine (hF1 _ (by first | exact hH | exact Hold2.drew hH)).mono ?_; rintro e w2 ⟨rfl, bX⟩; replace hH : Hold2 w w.heap.size (w.heap.size + 1) t u a b ca cb w2 := (by first | exact Hold2.step bX hH | exact Hold2.step bX (Hold2.drew hH)); clear bX hc hd; have hc := blk9c6 hH.bt; have hd := blk9c6 hH.bu) | (go_simp; go_at_call_of 13 (Tr.kind u); refine (hF2 _ (by first | exact hH | exact Hold2.drew hH)).mono ?_; rintro e w3 ⟨rfl, bX⟩; replace hH : Hold2 w w.heap.size (w.heap.size + 1) t u a b ca cb w3 := (by first | exact Hold2.step bX hH | exact Hold2.step bX (Hold2.drew hH)); clear bX hc hd; have hc := blk9c6 hH.bt; have hd := blk9c6 hH.bu) | (go_simp; go_at_call_of 19 (Tr.kind t); refine (hT1 _ (by first | exact hH | exact Hold2.drew hH)).mono ?_; rintro e w4 ⟨rfl, bX⟩; replace hH : Hold2 w w.heap.size (w.heap.size + 1) t u a b ca cb w4 := (by first | exact Hold2.step bX hH | exact Hold2.step bX (Hold2.drew hH)); clear bX hc hd; have hc := blk9c6 hH.bt; have hd := blk9c6 hH.bu) | (go_simp; go_at_call_of 19 (Tr.kind u); refine (hT2 _ (by first | exact hH | exact Hold2.drew hH)).mono ?_; rintro e w5 ⟨rfl, bX⟩; replace hH : Hold2 w w.heap.size (w.heap.size + 1) t u a b ca cb w5 := (by first | exact Hold2.step bX hH | exact Hold2.step bX (Hold2.drew hH)); clear bX hc hd; have hc := blk9c6 hH.bt; have hd := blk9c6 hH.bu))
          all_goals (go_wp2_with fail; refine (haw _ (by first | exact hH | exact Hold2.drew hH)).mono ?_; rintro e w8 ⟨rfl, b8⟩; replace hH : Hold2 w w.heap.size (w.heap.size + 1) t u a b ca cb w8 := (by first | exact Hold2.step b8 hH | exact Hold2.step b8 (Hold2.drew hH)); go_wp2_with fail; go_ret; exact ⟨rfl, hH.below⟩)
        | true =>
          have hRA := HRA.out.symm
          have hRB := HRB.out.symm
          obtain ⟨D, hD⟩ : ∃ D, D = canon t := ⟨_, rfl⟩
          obtain ⟨E, hE⟩ : ∃ E, E = canon u := ⟨_, rfl⟩
          rw [← hD] at hRA hR1
          rw [← hE] at hRB hR2
          have hza := HS.out.1
          have hzb := HS.out.2
          rw [← hD] at hza
          rw [← hE] at hzb
          have hia := canon_inAlt t HF1.out.2
          have hib := canon_inAlt u HF2.out.2
          rw [← hD] at hia
          rw [← hE] at hib
          have hga := HGA.out
          have hgb := HGB.out
          rw [← hD] at hga
          rw [← hE] at hgb
          have hl1 := HF1.out.1
          have hl2 := HF2.out.1
          clear hD hE
          by_cases hgz : ga + gb = 0
          · obtain rfl : ga = 0 := by omega
            obtain rfl : gb = 0 := by omega
            have hj := joins6 D E hRA hRB hga.symm
            have hxs := ereT_le D hRA (by omega)
            have hys := ereT_le E hRB (by omega)
            obtain ⟨X, hX⟩ : ∃ X : ByteArray, X = ⟨(ereT D).toArray⟩ := ⟨_, rfl⟩
            obtain ⟨Y, hY⟩ : ∃ Y : ByteArray, Y = ⟨(ereT E).toArray⟩ := ⟨_, rfl⟩
            have hXs : X.size ≤ 400000 := by rw [hX]; simp [ByteArray.size]; omega
            have hYs : Y.size ≤ 400000 := by rw [hY]; simp [ByteArray.size]; omega
            have hEx := fun (W : World) (x : Value) (hW : Below w.heap.size w W) (h : NdX (fun _ => True) W D x) => shere_any D x W (ndx_in h) (by omega) (hGW W hW).tbl
            have hEy := fun (W : World) (y : Value) (hW : Below w.heap.size w W) (h : NdX (fun _ => True) W E y) => shere_any E y W (ndx_in h) (by omega) (hGW W hW).tbl
            have hzc := nsize_choose D E
            have hzj := nsize_join D E
            have hEc := fun (W : World) (c : Value) (hW : Below w.heap.size w W) (h : NdX (fun k => k < W.heap.size) W (nchoose [D, E]) c) => shere_any (nchoose [D, E]) c W h (by omega) (hGW W hW).tbl
            have hEj := fun (ia : inAlt D = true) (ib : inAlt E = true) (W : World) (c : Value) (hW : Below w.heap.size w W) (h : NdX (fun k => k < W.heap.size) W (njoin [D, E]) c) => (shere_any (njoin [D, E]) c W h (by omega) (hGW W hW).tbl).mono (R' := fun e w' => e = .returned (.string (X ++ Y)) ∧ Below W.heap.size W w') fun e w' ⟨he, hb⟩ => ⟨by rw [he, hj.2 ia ib, ba_app, ← hX, ← hY], hb⟩
            have h124 : (⟨(124 :: ereT E).toArray⟩ : ByteArray) = ⟨#[124]⟩ ++ Y := by rw [hY, ← ba_app]; rfl
            rw [hj.1, ba_app, ← hX, h124, ← ByteArray.append_assoc] at hEc
            rw [← hX] at hEx
            rw [← hY] at hEy
            have hja : (jflat [D, E]).length ≤ 4000000 := by have := jflat_len [D, E]; simp [nsizes] at this; omega
            have hjb : (cflat [D, E]).length ≤ 4000000 := by have := cflat_len [D, E]; simp [nsizes] at this; omega
            have hCh := fun (W : World) (x y : Value) (hx : NdX (fun _ => True) W D x) (hy : NdX (fun _ => True) W E y) => pchoose_any [D, E] _ _ _ (row6 hx hy) hjb
            have hJo := fun (W : World) (x y : Value) (hx : NdX (fun _ => True) W D x) (hy : NdX (fun _ => True) W E y) => pjoin_any [D, E] _ _ _ (row6 hx hy) hja
            replace hQ1 : ∀ W, Hold2 w w.heap.size (w.heap.size + 1) t u a b ca cb W → Calls Tryz.prog 20 _ W fun e w' => e = .returned (.int .i64 0) ∧ Below W.heap.size W w' := hQ1
            replace hQ2 : ∀ W, Hold2 w w.heap.size (w.heap.size + 1) t u a b ca cb W → Calls Tryz.prog 20 _ W fun e w' => e = .returned (.int .i64 0) ∧ Below W.heap.size W w' := hQ2
            clear hX hY h124 hj hRA hRB hgz hga hgb hza hzb hzc hzj hl1 hl2 hxs hys hja hjb hGW
            go_wp2_with fail
            go_cut [36] from 7 (fun x wx => x = .bool false ∧ Hold2 w w.heap.size (w.heap.size + 1) t u a b ca cb wx)
            case first =>
              clear hR1 hR2 hEx hEy hEc hEj hCh hJo hXs hYs hia hib
              go_region_law (first | (go_simp; go_at_call 8; refine (haw _ (by first | exact hH | exact Hold2.drew hH)).mono ?_; rintro e w1 ⟨rfl, bX⟩; replace hH : Hold2 w w.heap.size (w.heap.size + 1) t u a b ca cb w1 := (by first | exact Hold2.step bX hH | exact Hold2.step bX (Hold2.drew hH)); clear bX hc hd; have hc := blk9c6 hH.bt; have hd := blk9c6 hH.bu) | (go_simp; go_at_call_of 13 (Tr.kind t); refine (hF1 _ (by first | exact hH | exact Hold2.drew hH)).mono ?_; rintro e w2 ⟨rfl, bX⟩; replace hH : Hold2 w w.heap.size (w.heap.size + 1) t u a b ca cb w2 := (by first | exact Hold2.step bX hH | exact Hold2.step bX (Hold2.drew hH)); clear bX hc hd; have hc := blk9c6 hH.bt; have hd := blk9c6 hH.bu) | (go_simp; go_at_call_of 13 (Tr.kind u); refine (hF2 _ (by first | exact hH | exact Hold2.drew hH)).mono ?_; rintro e w3 ⟨rfl, bX⟩; replace hH : Hold2 w w.heap.size (w.heap.size + 1) t u a b ca cb w3 := (by first | exact Hold2.step bX hH | exact Hold2.step bX (Hold2.drew hH)); clear bX hc hd; have hc := blk9c6 hH.bt; have hd := blk9c6 hH.bu) | (go_simp; go_at_call_of 19 (Tr.kind t); refine (hT1 _ (by first | exact hH | exact Hold2.drew hH)).mono ?_; rintro e w4 ⟨rfl, bX⟩; replace hH : Hold2 w w.heap.size (w.heap.size + 1) t u a b ca cb w4 := (by first | exact Hold2.step bX hH | exact Hold2.step bX (Hold2.drew hH)); clear bX hc hd; have hc := blk9c6 hH.bt; have hd := blk9c6 hH.bu) | (go_simp; go_at_call_of 19 (Tr.kind u); refine (hT2 _ (by first | exact hH | exact Hold2.drew hH)).mono ?_; rintro e w5 ⟨rfl, bX⟩; replace hH : Hold2 w w.heap.size (w.heap.size + 1) t u a b ca cb w5 := (by first | exact Hold2.step bX hH | exact Hold2.step bX (Hold2.drew hH)); clear bX hc hd; have hc := blk9c6 hH.bt; have hd := blk9c6 hH.bu) | (go_simp; go_at_call_of 20 (Tr.kind t); refine (hQ1 _ (by first | exact hH | exact Hold2.drew hH)).mono ?_; rintro e w6 ⟨rfl, bX⟩; replace hH : Hold2 w w.heap.size (w.heap.size + 1) t u a b ca cb w6 := (by first | exact Hold2.step bX hH | exact Hold2.step bX (Hold2.drew hH)); clear bX hc hd; have hc := blk9c6 hH.bt; have hd := blk9c6 hH.bu) | (go_simp; go_at_call_of 20 (Tr.kind u); refine (hQ2 _ (by first | exact hH | exact Hold2.drew hH)).mono ?_; rintro e w7 ⟨rfl, bX⟩; replace hH : Hold2 w w.heap.size (w.heap.size + 1) t u a b ca cb w7 := (by first | exact Hold2.step bX hH | exact Hold2.step bX (Hold2.drew hH)); clear bX hc hd; have hc := blk9c6 hH.bt; have hd := blk9c6 hH.bu))
              all_goals go_wp2_with fail
              all_goals go_meet
              all_goals exact ⟨rfl, by first | exact hH | exact Hold2.drew hH⟩
            case rest =>
              obtain ⟨rfl, hH2⟩ := hcut
              clear hF1 hF2 hT1 hT2 hQ1 hQ2 haw hH hc hd
              have hc := blk9c6 hH2.bt
              have hd := blk9c6 hH2.bu
              go_upto_region 3 with fail
              go_cut [5, 6] from 7 (fun x y wx => ∃ Tx vx Ty vy, x = .iface Tx vx ∧ y = .iface Ty vy ∧ NdX (fun _ => True) wx D (.iface Tx vx) ∧ NdX (fun _ => True) wx E (.iface Ty vy) ∧ Hold2 w w.heap.size (w.heap.size + 1) t u a b ca cb wx)
              case first =>
                clear hEx hEy hEc hEj hCh hJo hXs hYs hia hib
                go_region_law (first
                  | (go_simp; go_at_call_of 15 (Tr.kind t); refine (hR1 _ (by first | exact hH2 | exact Hold2.drew hH2)).mono ?_; rintro r w8 ⟨Tx, vx, rfl, hn1, bX⟩; replace hH2 : Hold2 w w.heap.size (w.heap.size + 1) t u a b ca cb w8 := (by first | exact Hold2.step bX hH2 | exact Hold2.step bX (Hold2.drew hH2)); clear bX hc hd; have hc := blk9c6 hH2.bt; have hd := blk9c6 hH2.bu)
                  | (go_simp; go_at_call_of 15 (Tr.kind u); refine (hR2 _ (by first | exact hH2 | exact Hold2.drew hH2)).mono ?_; rintro r w9 ⟨Ty, vy, rfl, hn2, bX⟩; replace hH2 : Hold2 w w.heap.size (w.heap.size + 1) t u a b ca cb w9 := (by first | exact Hold2.step bX hH2 | exact Hold2.step bX (Hold2.drew hH2)); (first | have hn1' := NdX.below bX ⟨_, hn1⟩ | have hn1' := NdX.below bX (NdX.drew ⟨_, hn1⟩)); clear bX hc hd; have hc := blk9c6 hH2.bt; have hd := blk9c6 hH2.bu))
                all_goals go_wp2_with fail
                all_goals go_meet
                all_goals exact ⟨_, _, _, _, rfl, rfl, ndx_wide6 hn1', ndx_wide6 ⟨_, hn2⟩, hH2⟩
              case rest =>
                obtain ⟨Tx, vx, Ty, vy, rfl, rfl, hx, hy, hH3⟩ := hcut
                clear hR1 hR2 hH2 hc hd
                have hC := hCh wc _ _ hx hy
                have hal : Below wc.heap.size wc (wc.alloc (.cells #[.iface Tx vx, .iface Ty vy] 31)) := Below.alloc (Below.refl _ _) (Nat.le_refl _) _
                clear hCh
                go_wp2_with fail
                refine hC.mono ?_
                rintro e w1 ⟨c, rfl, hcn, b1⟩
                have b1' : Below wc.heap.size wc w1 := hal.trans (b1.mono hal.size)
                replace hH3 := Hold2.step b1' hH3
                replace hx := hx.below b1'
                replace hy := hy.below b1'
                have hE1 := hEc w1 c hH3.below hcn
                clear hC hal b1 b1' hcn hEc
                go_wp2_with fail
                refine hE1.mono ?_
                rintro e w2 ⟨rfl, b2⟩
                replace hH3 := Hold2.step b2 hH3
                replace hx := hx.below b2
                replace hy := hy.below b2
                have hE2 := hEx w2 _ hH3.below hx
                clear hE1 b2
                go_wp2_with fail
                refine hE2.mono ?_
                rintro e w3 ⟨rfl, b3⟩
                replace hH3 := Hold2.step b3 hH3
                replace hx := hx.below b3
                replace hy := hy.below b3
                have hE3 := hEy w3 _ hH3.below hy
                clear hE2 b3
                go_wp2_with fail
                refine hE3.mono ?_
                rintro e w4 ⟨rfl, b4⟩
                replace hH3 := Hold2.step b4 hH3
                replace hx := hx.below b4
                replace hy := hy.below b4
                clear hE3 b4
                have hc := blk9c6 hH3.bt
                have hd := blk9c6 hH3.bu
                by_cases kt : t.kind = 3
                · clear hEx hEy hEj hJo hx hy hia hib
                  go_wp2_with fail
                  go_ret
                  exact ⟨rfl, hH3.below⟩
                · by_cases ku : u.kind = 3
                  · clear hEx hEy hEj hJo hx hy hia hib
                    go_wp2_with fail
                    go_ret
                    exact ⟨rfl, hH3.below⟩
                  · have hJ := hJo w4 _ _ hx hy
                    have hal : Below w4.heap.size w4 (w4.alloc (.cells #[.iface Tx vx, .iface Ty vy] 31)) := Below.alloc (Below.refl _ _) (Nat.le_refl _) _
                    replace hEj := hEj (by rw [hia]; simp [kt]) (by rw [hib]; simp [ku])
                    clear hJo hia hib
                    go_wp2_with fail
                    refine hJ.mono ?_
                    rintro e w5 ⟨j, rfl, hjn, b5⟩
                    have b5' : Below w4.heap.size w4 w5 := hal.trans (b5.mono hal.size)
                    replace hH3 := Hold2.step b5' hH3
                    replace hx := hx.below b5'
                    replace hy := hy.below b5'
                    have hE1 := hEj w5 j hH3.below hjn
                    clear hJ hal b5 b5' hjn hEj hc hd
                    go_wp2_with fail
                    refine hE1.mono ?_
                    rintro e w6 ⟨rfl, b6⟩
                    replace hH3 := Hold2.step b6 hH3
                    replace hx := hx.below b6
                    replace hy := hy.below b6
                    have hE2 := hEx w6 _ hH3.below hx
                    clear hE1 b6 hEx
                    go_wp2_with fail
                    refine hE2.mono ?_
                    rintro e w7 ⟨rfl, b7⟩
                    replace hH3 := Hold2.step b7 hH3
                    replace hx := hx.below b7
                    replace hy := hy.below b7
                    have hE3 := hEy w7 _ hH3.below hy
                    clear hE2 b7 hEy
                    go_wp2_with fail
                    refine hE3.mono ?_
                    rintro e w8 ⟨rfl, b8⟩
                    replace hH3 := Hold2.step b8 hH3
                    clear hE3 b8
                    go_wp2_with fail
                    go_ret
                    exact ⟨rfl, hH3.below⟩
          · have hw1 : IntKind.i64.wrap ((ga : Int) + (gb : Int)) = (((ga + gb : Nat)) : Int) := by
              have := HZ.out
              have := HS.out
              rw [IntWalk.i64_in _ (by omega)]; omega
            obtain ⟨gs, hgs⟩ : ∃ gs : Int, gs = (((ga + gb : Nat)) : Int) := ⟨_, rfl⟩
            rw [← hgs] at hw1
            have hq : 0 < gs := by omega
            clear hgs hgz hga hgb hRA hRB hza hzb hl1 hl2 hia hib hR1 hR2 hGW
            go_wp2_with fail
            go_region_law (first | (go_simp; go_at_call 8; refine (haw _ (by first | exact hH | exact Hold2.drew hH)).mono ?_; rintro e w1 ⟨rfl, bX⟩; replace hH : Hold2 w w.heap.size (w.heap.size + 1) t u a b ca cb w1 := (by first | exact Hold2.step bX hH | exact Hold2.step bX (Hold2.drew hH)); clear bX hc hd; have hc := blk9c6 hH.bt; have hd := blk9c6 hH.bu) | (go_simp; go_at_call_of 13 (Tr.kind t); refine (hF1 _ (by first | exact hH | exact Hold2.drew hH)).mono ?_; rintro e w2 ⟨rfl, bX⟩; replace hH : Hold2 w w.heap.size (w.heap.size + 1) t u a b ca cb w2 := (by first | exact Hold2.step bX hH | exact Hold2.step bX (Hold2.drew hH)); clear bX hc hd; have hc := blk9c6 hH.bt; have hd := blk9c6 hH.bu) | (go_simp; go_at_call_of 13 (Tr.kind u); refine (hF2 _ (by first | exact hH | exact Hold2.drew hH)).mono ?_; rintro e w3 ⟨rfl, bX⟩; replace hH : Hold2 w w.heap.size (w.heap.size + 1) t u a b ca cb w3 := (by first | exact Hold2.step bX hH | exact Hold2.step bX (Hold2.drew hH)); clear bX hc hd; have hc := blk9c6 hH.bt; have hd := blk9c6 hH.bu) | (go_simp; go_at_call_of 19 (Tr.kind t); refine (hT1 _ (by first | exact hH | exact Hold2.drew hH)).mono ?_; rintro e w4 ⟨rfl, bX⟩; replace hH : Hold2 w w.heap.size (w.heap.size + 1) t u a b ca cb w4 := (by first | exact Hold2.step bX hH | exact Hold2.step bX (Hold2.drew hH)); clear bX hc hd; have hc := blk9c6 hH.bt; have hd := blk9c6 hH.bu) | (go_simp; go_at_call_of 19 (Tr.kind u); refine (hT2 _ (by first | exact hH | exact Hold2.drew hH)).mono ?_; rintro e w5 ⟨rfl, bX⟩; replace hH : Hold2 w w.heap.size (w.heap.size + 1) t u a b ca cb w5 := (by first | exact Hold2.step bX hH | exact Hold2.step bX (Hold2.drew hH)); clear bX hc hd; have hc := blk9c6 hH.bt; have hd := blk9c6 hH.bu) | (go_simp; go_at_call_of 20 (Tr.kind t); refine (hQ1 _ (by first | exact hH | exact Hold2.drew hH)).mono ?_; rintro e w6 ⟨rfl, bX⟩; replace hH : Hold2 w w.heap.size (w.heap.size + 1) t u a b ca cb w6 := (by first | exact Hold2.step bX hH | exact Hold2.step bX (Hold2.drew hH)); clear bX hc hd; have hc := blk9c6 hH.bt; have hd := blk9c6 hH.bu) | (go_simp; go_at_call_of 20 (Tr.kind u); refine (hQ2 _ (by first | exact hH | exact Hold2.drew hH)).mono ?_; rintro e w7 ⟨rfl, bX⟩; replace hH : Hold2 w w.heap.size (w.heap.size + 1) t u a b ca cb w7 := (by first | exact Hold2.step bX hH | exact Hold2.step bX (Hold2.drew hH)); clear bX hc hd; have hc := blk9c6 hH.bt; have hd := blk9c6 hH.bu))
            all_goals (go_wp2_with fail; refine (haw _ (by first | exact hH | exact Hold2.drew hH)).mono ?_; rintro e w8 ⟨rfl, b8⟩; replace hH : Hold2 w w.heap.size (w.heap.size + 1) t u a b ca cb w8 := (by first | exact Hold2.step b8 hH | exact Hold2.step b8 (Hold2.drew hH)); go_wp2_with fail; go_ret; exact ⟨rfl, hH.below⟩)
end Go.Proofs.YtpmeicclngckeaaGreatDoor
