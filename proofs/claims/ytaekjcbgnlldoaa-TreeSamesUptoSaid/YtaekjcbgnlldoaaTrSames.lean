/- TreeSames, walked. -/
import Derived.Test.YtaekjcbgnlldoaaTrAsks
import Derived.Test.YtaekjcbgnlldoaaTrSameB
namespace Go.Proofs.Ytaekjcbgnlldoaa
open Go Go.RowKit

/-- Two nodes in two blocks, kept. -/
structure HoldB (w0 w4 : World) (t u : Tr) (a : Option Addr) (ca : Nat) (b : Option Addr) (cb : Nat) (w' : World) : Prop where
  below : Below w4.heap.size w4 w'
  bt : Blk w' w0.heap.size (tC t a ca) 27
  bu : Blk w' (w0.heap.size + 1) (tC u b cb) 27
abbrev Read9 (w' : World) (p : Nat) (t : Tr) (a : Option Addr) (ca : Nat) : Prop :=
  w'.cell? ⟨p, 0, none⟩ = some (.int .i64 t.kind) ∧ w'.cell? ⟨p, 1, none⟩ = some (.int .u64 (ow t.set 0)) ∧ w'.cell? ⟨p, 2, none⟩ = some (.int .u64 (ow t.set 1)) ∧ w'.cell? ⟨p, 3, none⟩ = some (.int .u64 (ow t.set 2)) ∧ w'.cell? ⟨p, 4, none⟩ = some (.int .u64 (ow t.set 3)) ∧
    w'.cell? ⟨p, 5, none⟩ = some (.slice a t.parts.length ca) ∧ w'.cell? ⟨p, 6, none⟩ = some (.int .i64 t.mn) ∧ w'.cell? ⟨p, 7, none⟩ = some (.int .i64 t.mx) ∧ w'.cell? ⟨p, 8, none⟩ = some (.int .i64 t.num)
abbrev ReadB (w0 w4 : World) (t u : Tr) (a : Option Addr) (ca : Nat) (b : Option Addr) (cb : Nat) (w' : World) : Prop :=
  Read9 w' w0.heap.size t a ca ∧ Read9 w' (w0.heap.size + 1) u b cb ∧ HoldB w0 w4 t u a ca b cb w'
theorem HoldB.all {w0 w4 : World} {t u : Tr} {a : Option Addr} {ca : Nat} {b : Option Addr} {cb : Nat} {w' : World} (h : HoldB w0 w4 t u a ca b cb w') : ReadB w0 w4 t u a ca b cb w' := ⟨blk9c h.bt, blk9c h.bu, h⟩
theorem readB_drew {w0 w4 : World} {t u : Tr} {a : Option Addr} {ca : Nat} {b : Option Addr} {cb : Nat} {w' : World} (h : ReadB w0 w4 t u a ca b cb w') : ReadB w0 w4 t u a ca b cb w'.drew :=
  HoldB.all ⟨h.2.2.below.drew, h.2.2.bt, h.2.2.bu⟩
theorem readB_step {w0 w4 : World} {t u : Tr} {a : Option Addr} {ca : Nat} {b : Option Addr} {cb : Nat} {W W' : World} (hb : Below W.heap.size W W') (h : ReadB w0 w4 t u a ca b cb W) : ReadB w0 w4 t u a ca b cb W' :=
  HoldB.all ⟨h.2.2.below.trans (hb.mono h.2.2.below.size), h.2.2.bt.below hb h.2.2.bt.lt, h.2.2.bu.below hb h.2.2.bu.lt⟩
set_option linter.unusedSimpArgs false in
set_option maxRecDepth 100000 in
set_option maxHeartbeats 8000000 in
theorem sames_all (n m : Nat) (t u : Tr) (a b : Option Addr) (ca cb : Nat) (w : World) (ht : TrAt n w t a ca) (hu : TrAt m w u b cb) (h1 : tall t ≤ 1048576) (h2 : tall u ≤ 1048576) :
    Calls Try.prog 4 #[tV t a ca, tV u b cb] w fun e w' => e = .returned (.bool true) ∧ Below w.heap.size w w' := by
  have hT := (Blk.new w (tC t a ca) 27 _ rfl).alloc (.cells (tC u b cb) 27)
  have hU := Blk.new (w.alloc (.cells (tC t a ca) 27)) (tC u b cb) 27 (w.heap.size + 1) (by simp)
  have hB := ((Below.refl w.heap.size w).alloc (Nat.le_refl _) (.cells (tC t a ca) 27)).alloc (by simp) (.cells (tC u b cb) 27)
  obtain ⟨f1, hk1, hF1⟩ := few_known ht h1 200 200 rfl
  obtain ⟨f2, hk2, hF2⟩ := few_known hu h2 200 200 rfl
  obtain ⟨N1, hN1⟩ := trd_of ht
  obtain ⟨N2, hN2⟩ := trd_of hu
  have hz1 := tall_size t h1
  have hz2 := tall_size u h2
  have hR1 := fun (w' : World) (hb : Below w.heap.size w w') => lreal_any N1 t a ca w' (hN1.below hb) hz1
  have hR2 := fun (w' : World) (hb : Below w.heap.size w w') => lreal_any N2 u b cb w' (hN2.below hb) hz2
  clear ht hu
  unfold tV at hF1 hF2 hR1 hR2 ⊢
  clear h1 h2
  go_enter Try.func4, Try.ntmps4
  go_wp2_with fail
  refine (awake_any _).mono ?_
  rintro e w1 ⟨rfl, b1⟩
  replace hB := hB.trans (b1.mono hB.size)
  replace hT := hT.below b1 hT.lt
  replace hU := hU.below b1 hU.lt
  have hc := blk9c hT
  clear b1
  cases f1
  · go_wp2_with (first | (go_at_call 7; refine (hF1 _ hB).mono ?_; rintro e w2 ⟨rfl, b2⟩; replace hB := hB.trans (b2.mono hB.size)) | (go_at_call 6; refine (awake_any _).mono ?_; rintro e w3 ⟨rfl, b3⟩))
    go_ret
    exact ⟨rfl, hB.trans (b3.mono hB.size)⟩
  · have Hkt := Lib.hid (hk1 rfl)
    clear hk1
    go_wp2_with (go_at_call_of 7 (Tr.kind t); refine (hF1 _ hB).mono ?_; rintro e w2 ⟨rfl, b2⟩; replace hB := hB.trans (b2.mono hB.size); replace hT := hT.below b2 hT.lt; replace hU := hU.below b2 hU.lt; clear hc; have hd := blk9c hU)
    cases f2
    · go_wp2_with (first | (go_at_call 7; refine (hF2 _ hB).mono ?_; rintro e w3 ⟨rfl, b3⟩; replace hB := hB.trans (b3.mono hB.size)) | (go_at_call 6; refine (awake_any _).mono ?_; rintro e w4 ⟨rfl, b4⟩))
      go_ret
      exact ⟨rfl, hB.trans (b4.mono hB.size)⟩
    · refine (hF2 _ hB).mono ?_
      rintro e w3 ⟨rfl, b3⟩
      replace hB := hB.trans (b3.mono hB.size)
      replace hT := hT.below b3 hT.lt
      replace hU := hU.below b3 hU.lt
      have hkt := Hkt.out
      have hku := hk2 rfl
      clear b2 b3 hd hF1 hF2 hk2
      obtain ⟨N, r1, r2⟩ : ∃ N, TrD N w3 t a ca ∧ TrD N w3 u b cb := by
        obtain ⟨n1, g1, g2⟩ := hN1.below hB
        obtain ⟨n2, g3, g4⟩ := hN2.below hB
        exact ⟨N1 + N2, ⟨n1, g1, by omega⟩, ⟨n2, g3, by omega⟩⟩
      have hP1 := fun (w' : World) (hb : Below w3.heap.size w3 w') => hR1 w' (hB.trans (hb.mono hB.size))
      have hP2 := fun (w' : World) (hb : Below w3.heap.size w3 w') => hR2 w' (hB.trans (hb.mono hB.size))
      have hQ := fun (w' : World) (hb : Below w3.heap.size w3 w') => rsame_any N t a ca u b cb w' (r1.below hb) (r2.below hb) hkt hku
      have hS1 := fun (x y : Value) (w' : World) (hx : NdX (fun _ => True) w' (canon t) x) (hy : NdX (fun _ => True) w' (canon u) y) => psame_any (canon t) (canon u) x y w' (ndx_in hx) (ndx_in hy) hz1
      have hS2 := fun (x y : Value) (w' : World) (hx : NdX (fun _ => True) w' (canon t) x) (hy : NdX (fun _ => True) w' (canon u) y) => psame_any (canon u) (canon t) y x w' (ndx_in hy) (ndx_in hx) hz2
      rw [nsame_comm (canon u) (canon t)] at hS2
      generalize nsame (canon t) (canon u) = R at hQ hS1 hS2
      generalize canon t = D at hP1 hS1 hS2
      generalize canon u = E at hP2 hS1 hS2
      unfold tV at hQ
      have hall := HoldB.all ⟨Below.refl w3.heap.size w3, hT, hU⟩
      have HB := Lib.hid hB
      clear r1 r2 hN1 hN2 hkt hku hT hU hB hz1 hz2 hR1 hR2
      go_wp2_with fail
      go_region_held3 (fun w' => ReadB w w3 t u a ca b cb w')
        (first | exact hall | exact readB_drew hall | exact readB_step hbX (by assumption) | exact readB_drew (by assumption))
        (first
          | (go_at_call_of 8 (Tr.kind t); refine (hP1 _ (HoldB.below (And.right (And.right (by assumption))))).mono ?_; rintro e w' ⟨Tx, vx, rfl, hn1, hbX⟩; have hx : NdX (fun _ => True) w' D (.iface Tx vx) := ⟨_, NdAt.wider (fun _ _ _ => trivial) _ _ _ hn1⟩; (try replace hy := hy.below hbX); clear hn1)
          | (go_at_call_of 8 (Tr.kind u); refine (hP2 _ (HoldB.below (And.right (And.right (by assumption))))).mono ?_; rintro e w' ⟨Ty, vy, rfl, hn2, hbX⟩; have hy : NdX (fun _ => True) w' E (.iface Ty vy) := ⟨_, NdAt.wider (fun _ _ _ => trivial) _ _ _ hn2⟩; (try replace hx := hx.below hbX); clear hn2)
          | (go_at_call 19; (with_reducible refine (hS1 _ _ _ hx hy).mono ?_); rintro e w' ⟨rfl, hbX⟩; clear hx hy)
          | (go_at_call 19; (with_reducible refine (hS2 _ _ _ hx hy).mono ?_); rintro e w' ⟨rfl, hbX⟩; clear hx hy)
          | (go_at_call 20; refine (hQ _ (HoldB.below (And.right (And.right (by assumption))))).mono ?_; rintro e w' ⟨rfl, hbX⟩))
      all_goals go_wp2_with fail
      all_goals go_ret
      all_goals clear hall
      all_goals go_split_ands
      all_goals exact ⟨rfl, HB.out.trans ((HoldB.below (by assumption)).mono HB.out.size)⟩
end Go.Proofs.Ytaekjcbgnlldoaa
