/- The walk of OctetSpans: of any set and any two bytes it returns true; what was there stays as it was. -/
import Derived.Test.YtjjmkplicjkokaaDoorOctAwake
import Derived.Test.YtjjmkplicjkokaaDoorOctHeld
import Derived.Test.YtjjmkplicjkokaaDoorSpWalk
import Derived.Test.YtjjmkplicjkokaaDoorSpLeast
import Derived.BigQuiet
import Derived.Deep.QuietTactic
import Derived.Deep.DeepCutAuto
namespace Go.Proofs.YtjjmkplicjkokaaDoor
open Go.RowKit

theorem ppart0 (a b : Int) (w : World) : (part 5 #[.int .u8 a, .int .u8 b] (0 * 1)).run Tryd.prog w = .ok (.int .u8 a) w := by kernel_rfl
theorem ppart1 (a b : Int) (w : World) : (part 5 #[.int .u8 a, .int .u8 b] 1).run Tryd.prog w = .ok (.int .u8 b) w := by kernel_rfl
set_option linter.unusedSimpArgs false in
theorem peq_items (a b a' b' : Int) (w : World) : (Op.eqItems 9999 5 1 #[.int .u8 a, .int .u8 b] #[.int .u8 a', .int .u8 b'] [0, 1]).run Tryd.prog w = .ok (a == a' && b == b') w := by
  have h := fun (x y : Int) (w : World) => (run_equalIn_int (P := Tryd.prog) w 9998 5 .u8 .u8 x y Tryd.underlying5 : (Op.equalIn 9999 5 (.int .u8 x) (.int .u8 y)).run Tryd.prog w = _)
  simp only [Op.eqItems, Sem.run_bind, ppart0, h, Result.andThen_ok]
  cases ha : a == a' <;> cases hb : b == b' <;> simp [ha, hb, h, ppart1]
theorem pair_eql (a b : Int) (w : World) : (Op.equalIn 10000 32 (.agg #[.int .u8 a, .int .u8 b]) (.agg #[.int .u8 a, .int .u8 b])).run Tryd.prog w = .ok true w := by
  have hc : Tryd.prog.cellsOf 5 = 1 := by kernel_rfl
  have hi0 : (Tryd.prog.info? 5).isSome = true := by kernel_rfl
  obtain ⟨i, hi⟩ := Option.isSome_iff_exists.1 hi0
  rw [run_equalIn_array w 9999 (e := 5) (n := 2) _ _ Tryd.underlying32 hi]
  rw [hc, show List.range 2 = [0, 1] from rfl, peq_items]
  simp

/-- A row of spans in memory: its cells. -/
structure RowS (g : Nat) (l : List (Nat × Nat)) (w : World) : Prop where
  lt : 0 < l.length → g < w.heap.size
  c1 : ∀ i, ∀ h : i < l.length, w.cell? ⟨g, i * 2, none⟩ = some (.int .u8 ((l[i]).1 : Int))
  c2 : ∀ i, ∀ h : i < l.length, w.cell? ⟨g, i * 2 + 1, none⟩ = some (.int .u8 ((l[i]).2 : Int))
theorem RowS.below {g : Nat} {l : List (Nat × Nat)} {w w' : World} (h : RowS g l w) (hb : Below w.heap.size w w') : RowS g l w' :=
  ⟨fun h0 => Nat.lt_of_lt_of_le (h.lt h0) hb.size, fun i hi => (hb.cell (p := ⟨g, i * 2, none⟩) (h.lt (by omega))).trans (h.c1 i hi), fun i hi => (hb.cell (p := ⟨g, i * 2 + 1, none⟩) (h.lt (by omega))).trans (h.c2 i hi)⟩
theorem RowS.set {g : Nat} {l : List (Nat × Nat)} {w : World} (h : RowS g l w) (p : Addr) (hp : p.block ≠ g) (v : Value) : RowS g l (w.setCell p v) :=
  ⟨fun h0 => by simpa [World.setCell] using h.lt h0,
   fun i hi => (World.cell?_setCell_other w p ⟨g, i * 2, none⟩ v (fun e => hp (by rw [e]))).trans (h.c1 i hi),
   fun i hi => (World.cell?_setCell_other w p ⟨g, i * 2 + 1, none⟩ v (fun e => hp (by rw [e]))).trans (h.c2 i hi)⟩
theorem own_form {w : World} {B : Nat} {e : TypeId} {v : Value} {l : List (Nat × Nat)} (h : w.ownsRow B e 2 v l.length (flat l)) :
    ∃ a c g, v = .slice a l.length c ∧ (0 < l.length → a = some ⟨g, 0, none⟩) ∧ l.length ≤ c ∧ RowS g l w := by
  obtain ⟨_, h2⟩ := h
  rcases h2 with ⟨rfl, hz⟩ | ⟨g, cap, cur, rfl, hg, hh, hn, hcap, hcs, htk⟩
  · exact ⟨none, 0, 0, by rw [hz], fun h => by omega, by omega, ⟨fun h => by omega, fun i hi => by omega, fun i hi => by omega⟩⟩
  · refine ⟨_, cap, g, rfl, fun _ => rfl, hn, ⟨fun _ => (Array.getElem?_eq_some_iff.1 hh).1, fun i hi => ?_, fun i hi => ?_⟩⟩
    · have h1 : w.cell? ⟨g, i * 2, none⟩ = cur[i * 2]? := by simp [World.cell?, hh]
      have h2 := (flat_at l i hi).1
      rw [← htk, List.getElem?_take_of_lt (by omega)] at h2
      rw [h1]
      simpa using h2
    · have h1 : w.cell? ⟨g, i * 2 + 1, none⟩ = cur[i * 2 + 1]? := by simp [World.cell?, hh]
      have h2 := (flat_at l i hi).2
      rw [← htk, List.getElem?_take_of_lt (by omega)] at h2
      rw [h1]
      simpa using h2

/-- Two blocks that hold one set. -/
structure HeldS (w0 : World) (a b : Nat) (s : OSet) (T U : TypeId) (w' : World) : Prop where
  below : Below w0.heap.size w0 w'
  ba : Blk w' a (oc s) T
  bb : Blk w' b (oc s) U
abbrev ReadS (w0 : World) (a b : Nat) (s : OSet) (T U : TypeId) (w' : World) : Prop := (w'.cell? ⟨a, 0, none⟩ = some (.int .u64 (ow s 0)) ∧ w'.cell? ⟨a, 1, none⟩ = some (.int .u64 (ow s 1)) ∧ w'.cell? ⟨a, 2, none⟩ = some (.int .u64 (ow s 2)) ∧ w'.cell? ⟨a, 3, none⟩ = some (.int .u64 (ow s 3))) ∧ (w'.cell? ⟨b, 0, none⟩ = some (.int .u64 (ow s 0)) ∧ w'.cell? ⟨b, 1, none⟩ = some (.int .u64 (ow s 1)) ∧ w'.cell? ⟨b, 2, none⟩ = some (.int .u64 (ow s 2)) ∧ w'.cell? ⟨b, 3, none⟩ = some (.int .u64 (ow s 3))) ∧ HeldS w0 a b s T U w'
theorem HeldS.all {w0 : World} {a b : Nat} {s : OSet} {T U : TypeId} {w' : World} (h : HeldS w0 a b s T U w') : ReadS w0 a b s T U w' := ⟨oblk_cells h.ba, oblk_cells h.bb, h⟩
theorem readS_step {w0 : World} {a b : Nat} {s : OSet} {T U : TypeId} {W W' : World} (hb : Below W.heap.size W W') (h : ReadS w0 a b s T U W) : ReadS w0 a b s T U W' :=
  HeldS.all ⟨h.2.2.below.trans (hb.mono h.2.2.below.size), h.2.2.ba.below hb h.2.2.ba.lt, h.2.2.bb.below hb h.2.2.bb.lt⟩
theorem readS_out {w0 : World} {a b : Nat} {s : OSet} {T U : TypeId} {w' : World} (h : ReadS w0 a b s T U w') : HeldS w0 a b s T U w' := h.2.2
theorem readS_drew {w0 : World} {a b : Nat} {s : OSet} {T U : TypeId} {W : World} (h : ReadS w0 a b s T U W) : ReadS w0 a b s T U W.drew := HeldS.all ⟨h.2.2.below.drew, h.2.2.ba, h.2.2.bb⟩

/-- What stands at a round of the law's loop. -/
structure RoundS (w0 : World) (a b : Nat) (s : OSet) (T U : TypeId) (g1 g2 : Nat) (l : List (Nat × Nat)) (p : Nat) (t : OSet) (W : World) : Prop where
  held : HeldS w0 a b s T U W
  r1 : RowS g1 l W
  r2 : RowS g2 l W
  blk : Blk W p (oc t) U
theorem RoundS.step {w0 : World} {a b : Nat} {s : OSet} {T U : TypeId} {g1 g2 : Nat} {l : List (Nat × Nat)} {p : Nat} {t : OSet} {W W' : World} (hb : Below W.heap.size W W') (h : RoundS w0 a b s T U g1 g2 l p t W) : RoundS w0 a b s T U g1 g2 l p t W' :=
  ⟨readS_out (readS_step hb h.held.all), h.r1.below hb, h.r2.below hb, h.blk.below hb h.blk.lt⟩
theorem RoundS.drewN {w0 : World} {a b : Nat} {s : OSet} {T U : TypeId} {g1 g2 : Nat} {l : List (Nat × Nat)} {p : Nat} {t : OSet} {W : World} (h : RoundS w0 a b s T U g1 g2 l p t W) (n : Nat) : RoundS w0 a b s T U g1 g2 l p t (W.drewN n) :=
  ⟨⟨⟨h.held.below.os, h.held.below.tape, h.held.below.output, h.held.below.size, h.held.below.block⟩, h.held.ba, h.held.bb⟩, ⟨h.r1.lt, h.r1.c1, h.r1.c2⟩, ⟨h.r2.lt, h.r2.c1, h.r2.c2⟩, h.blk⟩
theorem RoundS.drew {w0 : World} {a b : Nat} {s : OSet} {T U : TypeId} {g1 g2 : Nat} {l : List (Nat × Nat)} {p : Nat} {t : OSet} {W : World} (h : RoundS w0 a b s T U g1 g2 l p t W) : RoundS w0 a b s T U g1 g2 l p t W.drew :=
  ⟨h.held.all |> readS_drew |> readS_out, ⟨h.r1.lt, h.r1.c1, h.r1.c2⟩, ⟨h.r2.lt, h.r2.c1, h.r2.c2⟩, h.blk⟩
theorem RoundS.store {w0 : World} {a b : Nat} {s : OSet} {T U : TypeId} {g1 g2 : Nat} {l : List (Nat × Nat)} {p : Nat} {t : OSet} {W : World} (h : RoundS w0 a b s T U g1 g2 l p t W) (h0 : w0.heap.size ≤ p) (ha : p ≠ a) (hb : p ≠ b) (h1 : p ≠ g1) (h2 : p ≠ g2) (t' : OSet) :
    RoundS w0 a b s T U g1 g2 l p t' ((((W.setCell ⟨p, 0, none⟩ (.int .u64 (ow t' 0))).setCell ⟨p, 1, none⟩ (.int .u64 (ow t' 1))).setCell ⟨p, 2, none⟩ (.int .u64 (ow t' 2))).setCell ⟨p, 3, none⟩ (.int .u64 (ow t' 3))) :=
  ⟨⟨(((h.held.below.setCell h0 _).setCell h0 _).setCell h0 _).setCell h0 _, (((h.held.ba.set_other _ ha _).set_other _ ha _).set_other _ ha _).set_other _ ha _, (((h.held.bb.set_other _ hb _).set_other _ hb _).set_other _ hb _).set_other _ hb _⟩,
   (((h.r1.set _ h1 _).set _ h1 _).set _ h1 _).set _ h1 _, (((h.r2.set _ h2 _).set _ h2 _).set _ h2 _).set _ h2 _, oblk_store h.blk t'⟩


set_option maxRecDepth 100000 in
set_option maxHeartbeats 4000000 in
theorem spanslaw_any (s : OSet) (lo hi : Int) (h0 : 0 ≤ lo) (h1 : lo ≤ 255) (h2 : 0 ≤ hi) (h3 : hi ≤ 255) (w : World) (hT : TabIn w) (hg0 : 0 < w.heap.size) :
    Calls Tryd.prog 3 #[.agg #[.int .u64 (ow s 0), .int .u64 (ow s 1), .int .u64 (ow s 2), .int .u64 (ow s 3)], .int .u8 lo, .int .u8 hi] w fun e w' => e = .returned (.bool true) ∧ Below w.heap.size w w' := by
  have hW0 := (Below.refl w.heap.size w).alloc (Nat.le_refl _) (.cells (oc s) 24)
  have hS := Blk.new w (oc s) 24 _ rfl
  go_enter Tryd.func3, Tryd.ntmps3
  go_wp2_with fail
  refine (awake_any _).mono ?_
  rintro e w1 ⟨rfl, b1⟩
  replace hS := hS.below b1 hS.lt
  have hW := hW0.trans (b1.mono hW0.size)
  clear hW0 b1
  obtain ⟨c0, c1, c2, c3⟩ := oblk_cells hS
  have l1 := hS.lt
  go_upto_region 4 with fail
  have h4 : HeldS w w.heap.size w1.heap.size s 24 26 (w1.alloc (.cells (oc s) 26)) := ⟨hW.alloc hW.size _, hS.alloc _, Blk.new _ _ _ _ rfl⟩
  clear c0 c1 c2 c3 hS hW
  go_cut [8, 9] (fun s8 s9 wx => ∃ B1 B2 : Nat, wx.ownsRow B1 32 2 s8 (sps s).length (flat (sps s)) ∧ wx.ownsRow B2 32 2 s9 (sps s).length (flat (sps s)) ∧ HeldS w w.heap.size w1.heap.size s 24 26 wx)
  case first =>
    have hall := h4.all
    go_region_held3 (fun w' => (w'.cell? ⟨w.heap.size, 0, none⟩ = some (.int .u64 (ow s 0)) ∧ w'.cell? ⟨w.heap.size, 1, none⟩ = some (.int .u64 (ow s 1)) ∧ w'.cell? ⟨w.heap.size, 2, none⟩ = some (.int .u64 (ow s 2)) ∧ w'.cell? ⟨w.heap.size, 3, none⟩ = some (.int .u64 (ow s 3))) ∧ (w'.cell? ⟨w1.heap.size, 0, none⟩ = some (.int .u64 (ow s 0)) ∧ w'.cell? ⟨w1.heap.size, 1, none⟩ = some (.int .u64 (ow s 1)) ∧ w'.cell? ⟨w1.heap.size, 2, none⟩ = some (.int .u64 (ow s 2)) ∧ w'.cell? ⟨w1.heap.size, 3, none⟩ = some (.int .u64 (ow s 3))) ∧ HeldS w w.heap.size w1.heap.size s 24 26 w')
      (first | with_reducible exact hall | with_reducible exact readS_step hbX (by assumption) | with_reducible exact readS_drew (by assumption) | exact readS_drew hall)
      (first | (go_at_call 5; refine (spans_any _ _).mono ?_; rintro e w' ⟨v, rfl, hown, hbX⟩) | (go_at_call 6; refine (rspans_any _ _).mono ?_; rintro e w' ⟨v, rfl, hown, hbX⟩))
    go_wp2_with fail
    go_meet
    exact ⟨_, _, own_below (by assumption) hbX, hown, readS_out (by assumption)⟩
  case rest =>
    obtain ⟨B1, B2, hown1, hown2, h5⟩ := hcut
    clear h4
    obtain ⟨a1, cap1, g1, rfl, ha1, hc1, hr1⟩ := own_form hown1
    obtain ⟨a2, cap2, g2, rfl, ha2, hc2, hr2⟩ := own_form hown2
    clear hown1 hown2
    have ok := spOk s 256
    have hun := unn_sps s
    have hfirst := sps_first s
    have hnone := sps_nil s
    have hnl := spTo_len s 256
    change SpOk s 256 (sps s) at ok
    change (sps s).length ≤ 256 at hnl
    generalize sps s = l at ha1 ha2 hc1 hc2 hr1 hr2 ok hun hfirst hnone hnl ⊢
    have q := oset_eql
    have hne : ((l.length : Int) != (l.length : Int)) = false := by simp
    go_wp2_with fail
    refine (span_any lo hi _ h0 h1 h2 h3).mono ?_
    rintro e w3 ⟨rfl, b3⟩
    replace h5 := readS_out (readS_step b3 h5.all)
    replace hr1 := hr1.below b3
    replace hr2 := hr2.below b3
    go_wp2_with fail
    refine (rspan_any lo hi _ h0 h1 h2 h3).mono ?_
    rintro e w4 ⟨rfl, b4⟩
    replace h5 := readS_out (readS_step b4 h5.all)
    replace hr1 := hr1.below b4
    replace hr2 := hr2.below b4
    clear b3 b4
    have hb7 := h5.bb.lt
    have hb3 := h5.ba.lt
    have hwz := h5.below.size
    have hga := hr1.lt
    have hgb := hr2.lt
    go_wp2
    go_loopw [37] (fun i wr => ∃ k : Nat, k ≤ l.length ∧ i = .int .i64 k ∧ RoundS w w.heap.size w1.heap.size s 24 26 g1 g2 l w4.heap.size (unn (l.take k)) wr) (fun i _ => l.length - (intOf i).toNat)
    case atStart =>
      have ba := (Below.refl w4.heap.size w4).alloc (Nat.le_refl _) (.cells #[.int .u64 0, .int .u64 0, .int .u64 0, .int .u64 0] 26)
      refine ⟨0, by omega, rfl, readS_out (readS_step ba h5.all), hr1.below ba, hr2.below ba, ?_⟩
      rw [show oc (unn (l.take 0)) = #[.int .u64 0, .int .u64 0, .int .u64 0, .int .u64 0] by
        rw [List.take_zero]; unfold oc unn; simp only [List.foldl_nil]; rw [ow_zero, ow_zero, ow_zero, ow_zero]]
      exact Blk.new _ _ _ _ rfl
    case round =>
      obtain ⟨k, hk, rfl, hR⟩ := hrel
      by_cases hlt : k < l.length
      · have HUN := Lib.hid hun
        have HF := Lib.hid hfirst
        have HN := Lib.hid hnone
        clear hun hfirst hnone hr1 hr2 h5
        have hpos : 0 < l.length := by omega
        obtain rfl := ha1 hpos
        obtain rfl := ha2 hpos
        replace hga := hga hpos
        replace hgb := hgb hpos
        have hk0 : (0 : Int) ≤ (k : Int) := by omega
        have hk1 : (k : Int) < (l.length : Int) := by omega
        have x1 := hR.r1.c1 k hlt
        have x2 := hR.r1.c2 k hlt
        have y1 := hR.r2.c1 k hlt
        have y2 := hR.r2.c2 k hlt
        have hle := ok.le l[k] (List.getElem_mem hlt)
        have hsn := unn_snoc l k hlt
        generalize hP : ((l[k]).1 : Int) = P at x1 y1 hsn
        generalize hQ : ((l[k]).2 : Int) = Q at x2 y2 hsn
        have Hsn := Lib.hid hsn
        clear hsn
        have hP0 : 0 ≤ P := by omega
        have hP1 : P ≤ 255 := by omega
        have hQ0 : 0 ≤ Q := by omega
        have hQ1 : Q ≤ 255 := by omega
        have f2 : decide (Q < P) = false := by simp; omega
        have f3 : (P != P) = false := by simp
        have f4 : (Q != Q) = false := by simp
        have p32 := pair_eql
        go_wp2_with fail
        by_cases hz : 0 < k
        · have f1 : decide ((0 : Int) < (k : Int)) = true := by simp; omega
          have x3 := hR.r1.c2 (k - 1) (by omega)
          have hap := ok.apart (k - 1) (by omega)
          have hke : k - 1 + 1 = k := by omega
          simp only [hke] at hap
          have hle2 := ok.le _ (List.getElem_mem (l := l) (n := k - 1) (by omega))
          generalize hR3 : ((l[k - 1]).2 : Int) = R at x3
          have f5 : IntKind.i64.wrap ((k : Int) - 1) = (k : Int) - 1 := IntWalk.i64_in _ (by omega)
          have f6 : IntKind.i64.wrap (R + 1) = R + 1 := IntWalk.i64_in _ (by omega)
          have f7 : decide (P ≤ R + 1) = false := by simp; omega
          have f8 : (0 : Int) ≤ (k : Int) - 1 := by omega
          have f9 : (k : Int) - 1 < (l.length : Int) := by omega
          have f10 : ((k : Int) - 1).toNat = k - 1 := by omega
          go_quiet (fail)
          go_wp2_with fail
          clear x1 x2 x3 y1 y2 f1 f2 f3 f4 f5 f6 f7 f8 f9 f10 p32 q
          replace hR := RoundS.drewN hR nq; generalize World.drewN wr nq = wq at hR ⊢; have hR' := hR.drew; obtain ⟨c0, c1, c2, c3⟩ := oblk_cells hR.blk; have z1 := hR.r1.c1 k hlt; have z2 := hR.r1.c2 k hlt; rw [hP] at z1; rw [hQ] at z2
          go_region_with (first | (go_at_call 7; refine (span_any P Q _ hP0 hP1 hQ0 hQ1).mono ?_; rintro e w' ⟨rfl, bX⟩; have hX := RoundS.step bX hR'; obtain ⟨d0, d1, d2, d3⟩ := oblk_cells hX.blk) | (go_at_call 9; refine (or_any _ _ _).mono ?_; rintro e w'' ⟨rfl, bY⟩; have hY := RoundS.step bY hX; have f0 := hY.blk.frozen 0; have f1 := hY.blk.frozen 1; have f2 := hY.blk.frozen 2; have f3 := hY.blk.frozen 3; obtain ⟨e0, e1, e2, e3⟩ := oblk_cells hY.blk))
          all_goals
            go_wp2_with fail
            go_roundw
            case rel => exact ⟨k + 1, by omega, by go_num, by rw [Hsn.out]; exact RoundS.store hY hwz (by omega) (by omega) (by omega) (by omega) _⟩
            case measure => simp [intOf]; omega
        · have f1 : decide ((0 : Int) < (k : Int)) = false := by simp; omega
          go_quiet (fail)
          go_wp2_with fail
          clear x1 x2 y1 y2 f1 f2 f3 f4 p32 q
          replace hR := RoundS.drewN hR nq; generalize World.drewN wr nq = wq at hR ⊢; have hR' := hR.drew; obtain ⟨c0, c1, c2, c3⟩ := oblk_cells hR.blk; have z1 := hR.r1.c1 k hlt; have z2 := hR.r1.c2 k hlt; rw [hP] at z1; rw [hQ] at z2
          go_region_with (first | (go_at_call 7; refine (span_any P Q _ hP0 hP1 hQ0 hQ1).mono ?_; rintro e w' ⟨rfl, bX⟩; have hX := RoundS.step bX hR'; obtain ⟨d0, d1, d2, d3⟩ := oblk_cells hX.blk) | (go_at_call 9; refine (or_any _ _ _).mono ?_; rintro e w'' ⟨rfl, bY⟩; have hY := RoundS.step bY hX; have f0 := hY.blk.frozen 0; have f1 := hY.blk.frozen 1; have f2 := hY.blk.frozen 2; have f3 := hY.blk.frozen 3; obtain ⟨e0, e1, e2, e3⟩ := oblk_cells hY.blk))
          all_goals
            go_wp2_with fail
            go_roundw
            case rel => exact ⟨k + 1, by omega, by go_num, by rw [Hsn.out]; exact RoundS.store hY hwz (by omega) (by omega) (by omega) (by omega) _⟩
            case measure => simp [intOf]; omega
      · have hkl : k = l.length := by omega
        subst hkl
        rw [List.take_length, hun] at hR
        clear hun hr1 hr2 h5 ok
        obtain ⟨c0, c1, c2, c3⟩ := oblk_cells hR.held.bb
        go_wp2_with fail
        have hT1 := tabIn_below hT hR.held.below hg0
        have hg1 := Nat.lt_of_lt_of_le hg0 hR.held.below.size
        rcases Nat.eq_zero_or_pos l.length with hz | hz
        · have hnil := List.length_eq_zero_iff.1 hz
          have hoz := hnone hnil
          rw [hz] at hnl ⊢
          clear hnil hnone hfirst ha1 ha2 hne hga hgb hlt hk hc1 hc2
          have q0 := oset_eql s oz
          rw [decide_eq_true hoz] at q0
          simp only [ow_zero] at q0
          refine (least_none s hoz _).mono ?_
          rintro e w5 ⟨rfl, b5⟩
          replace hR := hR.step b5
          clear c0 c1 c2 c3 q
          obtain ⟨c0, c1, c2, c3⟩ := oblk_cells hR.held.bb
          have hbl := hR.held.below
          clear hoz hnl hT1 b5 hR
          go_wp2_with fail
          go_ret
          exact ⟨rfl, hbl⟩
        · obtain ⟨p, rest, hl⟩ := List.exists_cons_of_length_pos hz
          obtain ⟨o1, o2, o3⟩ := hfirst p rest hl
          have e0 : (l[0].1 : Int) = (p.1 : Int) := by simp [hl]
          obtain rfl := ha1 hz
          obtain rfl := ha2 hz
          have hne0 : ((l.length : Int) == 0) = false := beq_eq_false_iff_ne.2 (by omega)
          have hz1 : (0 : Int) < (l.length : Int) := by omega
          clear hl hfirst hnone hga hgb hne hlt hk hc1 hc2 ha1 ha2
          refine (least_some s p.1 o1 o2 o3 _ hT1 hg1).mono ?_
          rintro e w5 ⟨rfl, b5⟩
          replace hR := hR.step b5
          clear c0 c1 c2 c3
          obtain ⟨c0, c1, c2, c3⟩ := oblk_cells hR.held.bb
          obtain ⟨d0, d1, d2, d3⟩ := oblk_cells hR.blk
          have z1 := hR.r1.c1 0 hz
          rw [e0] at z1
          simp only [Nat.zero_mul] at z1
          have hbl := hR.held.below
          clear e0 o1 o2 o3 hT1 b5 hR
          generalize l.length = n at *
          go_wp2_with fail
          go_ret
          exact ⟨rfl, hbl⟩
end Go.Proofs.YtjjmkplicjkokaaDoor
