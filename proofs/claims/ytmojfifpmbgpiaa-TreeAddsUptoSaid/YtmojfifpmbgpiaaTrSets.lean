/- TreeSets, walked. -/
import Derived.Test.YtmojfifpmbgpiaaTrAwake
import Derived.Test.YtmojfifpmbgpiaaTrCaught
import Derived.Test.YtmojfifpmbgpiaaTrReal
import Derived.Test.YtmojfifpmbgpiaaTrFew
import Derived.Deep.RegionHeld3
import Derived.Deep.RegionWith
namespace Go.Proofs.Ytmojfifpmbgpiaa
open Go Go.RowKit

theorem blk9c {w : World} {b : Nat} {t : Tr} {a : Option Addr} {cap : Nat} {T : TypeId} (h : Blk w b (tC t a cap) T) :
    w.cell? ⟨b, 0, none⟩ = some (.int .i64 t.kind) ∧ w.cell? ⟨b, 1, none⟩ = some (.int .u64 (ow t.set 0)) ∧ w.cell? ⟨b, 2, none⟩ = some (.int .u64 (ow t.set 1)) ∧ w.cell? ⟨b, 3, none⟩ = some (.int .u64 (ow t.set 2)) ∧ w.cell? ⟨b, 4, none⟩ = some (.int .u64 (ow t.set 3)) ∧
    w.cell? ⟨b, 5, none⟩ = some (.slice a t.parts.length cap) ∧ w.cell? ⟨b, 6, none⟩ = some (.int .i64 t.mn) ∧ w.cell? ⟨b, 7, none⟩ = some (.int .i64 t.mx) ∧ w.cell? ⟨b, 8, none⟩ = some (.int .i64 t.num) :=
  ⟨(h.cell 0).trans rfl, (h.cell 1).trans rfl, (h.cell 2).trans rfl, (h.cell 3).trans rfl, (h.cell 4).trans rfl, (h.cell 5).trans rfl, (h.cell 6).trans rfl, (h.cell 7).trans rfl, (h.cell 8).trans rfl⟩
theorem nd_one_is {F : Nat → Prop} {n : Nat} {w : World} {s : OSet} {T : TypeId} {v : Value} (h : NdAt F n w (.one s) (.iface T v)) : T = 53 ∧ v = .agg #[.int .u64 (ow s 0), .int .u64 (ow s 1), .int .u64 (ow s 2), .int .u64 (ow s 3)] := by
  cases n with
  | zero => exact h.elim
  | succ n => injection (show Value.iface T v = .iface 53 (.agg #[.int .u64 (ow s 0), .int .u64 (ow s 1), .int .u64 (ow s 2), .int .u64 (ow s 3)]) from h) with h1 h2; exact ⟨h1, h2⟩
/-- Whether there is little of a node, in any later world. -/
theorem few_all {n : Nat} {w : World} {t : Tr} {a : Option Addr} {cap : Nat} (h : TrAt n w t a cap) (hb : tall t ≤ 1048576) (most : Int) (k : Nat) (hk : (k : Int) = most) :
    ∃ f : Bool, ∀ w', Below w.heap.size w w' → Calls Try.prog 9 #[tV t a cap, .int .i64 most] w' fun e w2 => e = .returned (.bool f) ∧ Below w'.heap.size w' w2 := by
  subst hk
  exact ⟨_, fun w' hw => lfew_any n t a cap k w' (TrAt.below hw _ _ _ _ h) (by omega)⟩
theorem canon_one (t : Tr) (h : t.kind ≠ 1) : ∀ s, canon t ≠ .one s := by
  intro s
  obtain ⟨k, s', mn, mx, num, ps⟩ := t
  have h1 : k ≠ 1 := h
  unfold canon
  rw [if_neg h1]
  repeat (split; · simp)
  simp
theorem nholds_no {d : Nd} (h : ∀ s, d ≠ .one s) (s : OSet) : nholds d s = false := by
  cases d <;> first | rfl | exact (h _ rfl).elim
theorem tall_size (t : Tr) (h : tall t ≤ 1048576) : nsize (canon t) ≤ 4000000 := by
  have := nsize_tall t
  omega
theorem trd_of {n : Nat} {w : World} {t : Tr} {a : Option Addr} {cap : Nat} (h : TrAt n w t a cap) : ∃ N, TrD N w t a cap := ⟨2 * n + 1, n, h, by have := kb_le t; omega⟩
/-- A set's four cells. -/
abbrev oc4 (s : OSet) : Array Value := #[.int .u64 (ow s 0), .int .u64 (ow s 1), .int .u64 (ow s 2), .int .u64 (ow s 3)]
structure HoldS (w0 : World) (t u : Tr) (a : Option Addr) (ca : Nat) (b : Option Addr) (cb : Nat) (p : Nat) (w' : World) : Prop where
  below : Below w0.heap.size w0 w'
  bt : Blk w' w0.heap.size (tC t a ca) 27
  bu : Blk w' (w0.heap.size + 1) (tC u b cb) 27
  bp : Blk w' p (oc4 t.set) 46
abbrev ReadS (w0 : World) (t u : Tr) (a : Option Addr) (ca : Nat) (b : Option Addr) (cb : Nat) (p : Nat) (w' : World) : Prop :=
  (w'.cell? ⟨w0.heap.size, 1, none⟩ = some (.int .u64 (ow t.set 0)) ∧ w'.cell? ⟨w0.heap.size, 2, none⟩ = some (.int .u64 (ow t.set 1)) ∧ w'.cell? ⟨w0.heap.size, 3, none⟩ = some (.int .u64 (ow t.set 2)) ∧ w'.cell? ⟨w0.heap.size, 4, none⟩ = some (.int .u64 (ow t.set 3))) ∧
  (w'.cell? ⟨w0.heap.size + 1, 1, none⟩ = some (.int .u64 (ow u.set 0)) ∧ w'.cell? ⟨w0.heap.size + 1, 2, none⟩ = some (.int .u64 (ow u.set 1)) ∧ w'.cell? ⟨w0.heap.size + 1, 3, none⟩ = some (.int .u64 (ow u.set 2)) ∧ w'.cell? ⟨w0.heap.size + 1, 4, none⟩ = some (.int .u64 (ow u.set 3))) ∧
  (w'.cell? ⟨p, 0, none⟩ = some (.int .u64 (ow t.set 0)) ∧ w'.cell? ⟨p, 1, none⟩ = some (.int .u64 (ow t.set 1)) ∧ w'.cell? ⟨p, 2, none⟩ = some (.int .u64 (ow t.set 2)) ∧ w'.cell? ⟨p, 3, none⟩ = some (.int .u64 (ow t.set 3))) ∧ HoldS w0 t u a ca b cb p w'
theorem HoldS.all {w0 : World} {t u : Tr} {a : Option Addr} {ca : Nat} {b : Option Addr} {cb : Nat} {p : Nat} {w' : World} (h : HoldS w0 t u a ca b cb p w') : ReadS w0 t u a ca b cb p w' :=
  ⟨⟨(h.bt.cell 1).trans rfl, (h.bt.cell 2).trans rfl, (h.bt.cell 3).trans rfl, (h.bt.cell 4).trans rfl⟩, ⟨(h.bu.cell 1).trans rfl, (h.bu.cell 2).trans rfl, (h.bu.cell 3).trans rfl, (h.bu.cell 4).trans rfl⟩,
    ⟨(h.bp.cell 0).trans rfl, (h.bp.cell 1).trans rfl, (h.bp.cell 2).trans rfl, (h.bp.cell 3).trans rfl⟩, h⟩
theorem reads_drew {w0 : World} {t u : Tr} {a : Option Addr} {ca : Nat} {b : Option Addr} {cb : Nat} {p : Nat} {w' : World} (h : ReadS w0 t u a ca b cb p w') : ReadS w0 t u a ca b cb p w'.drew :=
  HoldS.all ⟨h.2.2.2.below.drew, h.2.2.2.bt, h.2.2.2.bu, h.2.2.2.bp⟩
theorem reads_step {w0 : World} {t u : Tr} {a : Option Addr} {ca : Nat} {b : Option Addr} {cb : Nat} {p : Nat} {W W' : World} (hb : Below W.heap.size W W') (h : ReadS w0 t u a ca b cb p W) : ReadS w0 t u a ca b cb p W' :=
  HoldS.all ⟨h.2.2.2.below.trans (hb.mono h.2.2.2.below.size), h.2.2.2.bt.below hb h.2.2.2.bt.lt, h.2.2.2.bu.below hb h.2.2.2.bu.lt, h.2.2.2.bp.below hb h.2.2.2.bp.lt⟩
set_option linter.unusedSimpArgs false in
set_option maxRecDepth 100000 in
set_option maxHeartbeats 8000000 in
theorem sets_all (n m : Nat) (t u : Tr) (a b : Option Addr) (ca cb : Nat) (w : World) (ht : TrAt n w t a ca) (hu : TrAt m w u b cb) (h1 : tall t ≤ 1048576) (h2 : tall u ≤ 1048576) :
    Calls Try.prog 6 #[tV t a ca, tV u b cb] w fun e w' => e = .returned (.bool true) ∧ Below w.heap.size w w' := by
  have hT := (Blk.new w (tC t a ca) 27 _ rfl).alloc (.cells (tC u b cb) 27)
  have hU := Blk.new (w.alloc (.cells (tC t a ca) 27)) (tC u b cb) 27 (w.heap.size + 1) (by simp)
  have hB := ((Below.refl w.heap.size w).alloc (Nat.le_refl _) (.cells (tC t a ca) 27)).alloc (by simp) (.cells (tC u b cb) 27)
  obtain ⟨f1, hF1⟩ := few_all ht h1 200 200 rfl
  obtain ⟨f2, hF2⟩ := few_all hu h2 20 20 rfl
  obtain ⟨N, hN⟩ := trd_of ht
  have hRl := fun (w' : World) (hb : Below w.heap.size w w') => lreal_any N t a ca w' (hN.below hb) (tall_size t h1)
  clear hN ht hu
  unfold tV at hF1 hF2 hRl ⊢
  clear h1 h2
  go_enter Try.func6, Try.ntmps6
  go_wp2_with fail
  refine (awake_any _).mono ?_
  rintro e w1 ⟨rfl, b1⟩
  replace hB := hB.trans (b1.mono hB.size)
  replace hT := hT.below b1 hT.lt
  replace hU := hU.below b1 hU.lt
  have hc := blk9c hT
  clear b1
  cases f1
  · go_wp2_with (first | (go_at_call 9; refine (hF1 _ hB).mono ?_; rintro e w2 ⟨rfl, b2⟩; replace hB := hB.trans (b2.mono hB.size)) | (go_at_call 8; refine (awake_any _).mono ?_; rintro e w3 ⟨rfl, b3⟩))
    go_ret
    exact ⟨rfl, hB.trans (b3.mono hB.size)⟩
  · go_wp2_with (go_at_call_of 9 (Tr.kind t); refine (hF1 _ hB).mono ?_; rintro e w2 ⟨rfl, b2⟩; replace hB := hB.trans (b2.mono hB.size); replace hT := hT.below b2 hT.lt; replace hU := hU.below b2 hU.lt; clear hc; have hd := blk9c hU)
    cases f2
    · go_wp2_with (first | (go_at_call 9; refine (hF2 _ hB).mono ?_; rintro e w3 ⟨rfl, b3⟩; replace hB := hB.trans (b3.mono hB.size)) | (go_at_call 8; refine (awake_any _).mono ?_; rintro e w4 ⟨rfl, b4⟩))
      go_ret
      exact ⟨rfl, hB.trans (b4.mono hB.size)⟩
    · refine (hF2 _ hB).mono ?_
      rintro e w3 ⟨rfl, b3⟩
      replace hB := hB.trans (b3.mono hB.size)
      replace hT := hT.below b3 hT.lt
      replace hU := hU.below b3 hU.lt
      clear b2 b3 hd
      have hc := blk9c hT
      by_cases hk : t.kind = 1
      · have e1 : (t.kind != 1) = false := by simp [hk]
        rw [canon_1 t hk] at hRl
        clear hk
        go_wp2_with fail
        refine (hRl _ hB).mono ?_
        rintro e w4 ⟨T, v, rfl, hnd, b4⟩
        replace hB := hB.trans (b4.mono hB.size)
        replace hT := hT.below b4 hT.lt
        replace hU := hU.below b4 hU.lt
        obtain ⟨rfl, rfl⟩ : T = 53 ∧ v = .agg #[.int .u64 (ow t.set 0), .int .u64 (ow t.set 1), .int .u64 (ow t.set 2), .int .u64 (ow t.set 3)] := nd_one_is hnd
        clear hc hRl hF1 hF2 b4
        have hX := ndx_one t.set
        have hH1 := fun w' => holds_any (.one t.set) _ t.set w' (hX w')
        have hH2 := fun w' => holds_any (.one t.set) _ u.set w' (hX w')
        have hq1 := fun w => (hset_eql t.set t.set w).trans (by rw [decide_eq_true rfl])
        have hq2 := fun w => rset_eql u.set t.set w
        rw [show nholds (.one t.set) t.set = true from decide_eq_true rfl] at hH1
        rw [show nholds (.one t.set) u.set = decide (u.set = t.set) from (decide_eq_decide.2 ⟨Eq.symm, Eq.symm⟩)] at hH2
        generalize decide (u.set = t.set) = D at hH2 hq2
        clear hX hnd
        go_wp2_with fail
        refine (caught_one _ _).mono ?_
        rintro e w5 ⟨rfl, b5⟩
        replace hB := hB.trans (b5.mono hB.size)
        replace hT := hT.below b5 hT.lt
        replace hU := hU.below b5 hU.lt
        have hc := fun o => blk9c (hT.alloc o)
        have hd := fun o => blk9c (hU.alloc o)
        have hall := HoldS.all ⟨hB.alloc hB.size _, hT.alloc _, hU.alloc _, Blk.new w5 (oc4 t.set) 46 _ rfl⟩
        clear b5 hT hU hB
        go_wp2_with fail
        clear hc hd
        go_region_held3 (fun w' => ReadS w t u a ca b cb w5.heap.size w')
          (first | exact hall | exact reads_drew hall | exact reads_step hbX (by assumption) | exact reads_drew (by assumption))
          (first | (go_at_call_of 29 (Tr.set u); refine (hH2 _).mono ?_; rintro e w' ⟨rfl, hbX⟩) | (go_at_call 29; refine (hH1 _).mono ?_; rintro e w' ⟨rfl, hbX⟩))
        go_wp2_with fail
        go_ret
        clear hall
        go_split_ands
        exact ⟨rfl, HoldS.below (by assumption)⟩
      · have e1 : (t.kind != 1) = true := by simp [hk]
        have hno := canon_one t hk
        clear hk
        generalize canon t = d at hRl hno
        go_wp2_with fail
        refine (hRl _ hB).mono ?_
        rintro e w4 ⟨T, v, rfl, hnd, b4⟩
        replace hB := hB.trans (b4.mono hB.size)
        replace hT := hT.below b4 hT.lt
        replace hU := hU.below b4 hU.lt
        have hX : NdX (fun b => w3.heap.size ≤ b) w4 d (.iface T v) := ⟨_, hnd⟩
        clear hc hRl hF1 hF2 b4 hnd
        have hH := fun w' (hb : Below w4.heap.size w4 w') => holds_any d (.iface T v) u.set w' (hX.below hb)
        rw [nholds_no hno] at hH
        have Hno := Lib.hid hno
        clear hno
        go_wp2_with fail
        refine (caught_no _ hX Hno.out).mono ?_
        rintro e w5 ⟨rfl, b5⟩
        replace hB := hB.trans (b5.mono hB.size)
        replace hT := hT.below b5 hT.lt
        replace hU := hU.below b5 hU.lt
        have hc := fun o => blk9c (hT.alloc o)
        have hd := fun o => blk9c (hU.alloc o)
        have b6 := fun o => b5.trans (((Below.refl _ w5).alloc (Nat.le_refl _) o).mono b5.size)
        have hB6 := fun o => hB.alloc hB.size o
        clear hX
        go_wp2_with (go_at_call 29; refine (hH _ (b6 _)).mono ?_; rintro e w6 ⟨rfl, b7⟩)
        go_ret
        exact ⟨rfl, (hB6 _).trans (b7.mono (hB6 _).size)⟩
end Go.Proofs.Ytmojfifpmbgpiaa
