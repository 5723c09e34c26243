/- TreeAsks, walked. -/
import Derived.Test.YtaekjcbgnlldoaaTrSets
import Derived.Test.YtaekjcbgnlldoaaTrRight
import Derived.Test.YtaekjcbgnlldoaaNdSame
import Derived.Test.YtaekjcbgnlldoaaNdJoinP
namespace Go.Proofs.Ytaekjcbgnlldoaa
open Go Go.RowKit

set_option linter.unusedSimpArgs false in
set_option maxRecDepth 100000 in
set_option maxHeartbeats 2000000 in
theorem rrightT_any (N : Nat) (t : Tr) (a : Option Addr) (cap : Nat) (w : World) (h : TrD N w t a cap) (hkn : tknown t = true) (hb : ngroups (canon t) ≤ 4000000) :
    Calls Try.prog 10 #[tV t a cap] w fun e w' => e = .returned (.bool (nrightB (canon t))) ∧ Below w.heap.size w w' := by
  have hW := (Below.refl w.heap.size w).alloc (Nat.le_refl _) (.cells (tC t a cap) 27)
  have hI := rright_any N t a cap 0 [] none 0 _ (h.below hW) hkn (IntsAt.nil _) (by omega) (by omega) (by simp; exact hb)
  unfold nrightB
  generalize nright (canon t) 0 [] = R at hI ⊢
  clear h
  unfold tV at hI ⊢
  simp only [List.length_nil] at hI
  go_enter Try.func10, Try.ntmps10
  go_wp2_with fail
  refine hI.mono ?_
  clear hI
  rintro e w1 ⟨he, b1⟩
  cases R with
  | none =>
    replace he : e = _ := he
    subst he
    go_wp2_with fail
    go_ret
    exact ⟨rfl, hW.trans (b1.mono hW.size)⟩
  | some q =>
    obtain ⟨a9, cap9, rfl, h9⟩ := he
    clear h9
    go_wp2_with fail
    go_ret
    exact ⟨rfl, hW.trans (b1.mono hW.size)⟩
/-- Whether there is little of a node, in any later world; then its kinds are known. -/
theorem few_known {n : Nat} {w : World} {t : Tr} {a : Option Addr} {cap : Nat} (h : TrAt n w t a cap) (hb : tall t ≤ 1048576) (most : Int) (k : Nat) (hk : (k : Int) = most) :
    ∃ f : Bool, (f = true → tknown t = true) ∧ ∀ w', Below w.heap.size w w' → Calls Try.prog 7 #[tV t a cap, .int .i64 most] w' fun e w2 => e = .returned (.bool f) ∧ Below w'.heap.size w' w2 := by
  subst hk
  exact ⟨_, fun h => (Bool.and_eq_true_iff.1 h).2, fun w' hw => lfew_any n t a cap k w' (TrAt.below hw _ _ _ _ h) (by omega)⟩
/-- What is kept while the questions are asked. -/
structure HoldA (w0 w4 : World) (t : Tr) (a : Option Addr) (ca : Nat) (w' : World) : Prop where
  below : Below w4.heap.size w4 w'
  bt : Blk w' w0.heap.size (tC t a ca) 27
abbrev ReadA (w0 w4 : World) (t : Tr) (a : Option Addr) (ca : Nat) (w' : World) : Prop :=
  (w'.cell? ⟨w0.heap.size, 0, none⟩ = some (.int .i64 t.kind) ∧ w'.cell? ⟨w0.heap.size, 1, none⟩ = some (.int .u64 (ow t.set 0)) ∧ w'.cell? ⟨w0.heap.size, 2, none⟩ = some (.int .u64 (ow t.set 1)) ∧ w'.cell? ⟨w0.heap.size, 3, none⟩ = some (.int .u64 (ow t.set 2)) ∧ w'.cell? ⟨w0.heap.size, 4, none⟩ = some (.int .u64 (ow t.set 3)) ∧
    w'.cell? ⟨w0.heap.size, 5, none⟩ = some (.slice a t.parts.length ca) ∧ w'.cell? ⟨w0.heap.size, 6, none⟩ = some (.int .i64 t.mn) ∧ w'.cell? ⟨w0.heap.size, 7, none⟩ = some (.int .i64 t.mx) ∧ w'.cell? ⟨w0.heap.size, 8, none⟩ = some (.int .i64 t.num)) ∧ HoldA w0 w4 t a ca w'
theorem HoldA.all {w0 w4 : World} {t : Tr} {a : Option Addr} {ca : Nat} {w' : World} (h : HoldA w0 w4 t a ca w') : ReadA w0 w4 t a ca w' := ⟨blk9c h.bt, h⟩
theorem readA_drew {w0 w4 : World} {t : Tr} {a : Option Addr} {ca : Nat} {w' : World} (h : ReadA w0 w4 t a ca w') : ReadA w0 w4 t a ca w'.drew :=
  HoldA.all ⟨h.2.below.drew, h.2.bt⟩
theorem readA_step {w0 w4 : World} {t : Tr} {a : Option Addr} {ca : Nat} {W W' : World} (hb : Below W.heap.size W W') (h : ReadA w0 w4 t a ca W) : ReadA w0 w4 t a ca W' :=
  HoldA.all ⟨h.2.below.trans (hb.mono h.2.below.size), h.2.bt.below hb h.2.bt.lt⟩
theorem nd_nil (w : World) : NdX (fun k => k < w.heap.size) w .empty .nilIface := ⟨1, .inr rfl⟩
theorem nd_emp (w : World) : NdX (fun k => k < w.heap.size) w .empty (.iface 39 (.agg #[])) := ⟨1, .inl rfl⟩
set_option linter.unusedSimpArgs false in
set_option maxRecDepth 100000 in
set_option maxHeartbeats 8000000 in
theorem asks_all (n : Nat) (t : Tr) (a : Option Addr) (ca : Nat) (w : World) (ht : TrAt n w t a ca) (h1 : tall t ≤ 1048576) :
    Calls Try.prog 3 #[tV t a ca] w fun e w' => e = .returned (.bool true) ∧ Below w.heap.size w w' := by
  have hT := Blk.new w (tC t a ca) 27 _ rfl
  have hB := (Below.refl w.heap.size w).alloc (Nat.le_refl _) (.cells (tC t a ca) 27)
  obtain ⟨f1, hkn, hF1⟩ := few_known ht h1 200 200 rfl
  obtain ⟨N, hN⟩ := trd_of ht
  have hsz := tall_size t h1
  have hng := Nat.le_trans (ngroups_size (canon t)) hsz
  have hdp := Nat.le_trans (ndeep_size (canon t)) hsz
  have hRl := fun (w' : World) (hb : Below w.heap.size w w') => lreal_any N t a ca w' (hN.below hb) hsz
  clear ht
  unfold tV at hF1 hRl ⊢
  clear h1
  go_enter Try.func3, Try.ntmps3
  go_wp2_with fail
  refine (awake_any _).mono ?_
  rintro e w1 ⟨rfl, b1⟩
  replace hB := hB.trans (b1.mono hB.size)
  replace hT := hT.below b1 hT.lt
  have hc := blk9c hT
  clear b1
  cases f1
  · go_wp2_with (first | (go_at_call 7; refine (hF1 _ hB).mono ?_; rintro e w2 ⟨rfl, b2⟩; replace hB := hB.trans (b2.mono hB.size)) | (go_at_call 6; refine (awake_any _).mono ?_; rintro e w3 ⟨rfl, b3⟩))
    go_ret
    exact ⟨rfl, hB.trans (b3.mono hB.size)⟩
  · have hkn2 := hkn rfl
    go_wp2_with (go_at_call 7; refine (hF1 _ hB).mono ?_; rintro e w2 ⟨rfl, b2⟩; replace hB := hB.trans (b2.mono hB.size); replace hT := hT.below b2 hT.lt; clear hc; have hc := blk9c hT)
    refine (hRl _ hB).mono ?_
    rintro e w4 ⟨T, v, rfl, hnd, b4⟩
    replace hB := hB.trans (b4.mono hB.size)
    replace hT := hT.below b4 hT.lt
    have hX : NdX (fun _ => True) w4 (canon t) (.iface T v) := ⟨_, NdAt.wider (fun _ _ _ => trivial) _ _ _ hnd⟩
    have hr := hN.below hB
    clear hc hRl hF1 b4 hnd hkn b2
    have q1 := fun (w' : World) (hb : Below w4.heap.size w4 w') => pright_any (canon t) _ w' (ndx_in (hX.below hb)) hsz
    have q2 := fun (w' : World) (hb : Below w4.heap.size w4 w') => rrightT_any N t a ca w' (hr.below hb) hkn2 hng
    have q3 := fun (w' : World) (hb : Below w4.heap.size w4 w') => psize_any (canon t) _ w' (ndx_in (hX.below hb)) hsz
    have q4 := fun (w' : World) (hb : Below w4.heap.size w4 w') => rsize_any N t a ca w' (hr.below hb) hsz
    have q5 := fun (w' : World) (hb : Below w4.heap.size w4 w') => pdeep_any (canon t) _ w' (ndx_in (hX.below hb)) hsz
    have q6 := fun (w' : World) (hb : Below w4.heap.size w4 w') => rdeep_any N t a ca w' (hr.below hb) hdp
    have q7 := fun (w' : World) (hb : Below w4.heap.size w4 w') => pgroups_any (canon t) _ w' (ndx_in (hX.below hb)) hsz
    have q8 := fun (w' : World) (hb : Below w4.heap.size w4 w') => rgroups_any N t a ca w' (hr.below hb) hng
    have q9 := fun (w' : World) (hb : Below w4.heap.size w4 w') => pbacks_any (canon t) _ w' (ndx_in (hX.below hb)) hsz
    have q10 := fun (w' : World) (hb : Below w4.heap.size w4 w') => rbacks_any N t a ca w' (hr.below hb)
    have q11 := fun (w' : World) (hb : Below w4.heap.size w4 w') => psame_any (canon t) (canon t) _ _ w' (ndx_in (hX.below hb)) (ndx_in (hX.below hb)) hsz
    have q12 := fun (w' : World) (_ : Below w4.heap.size w4 w') => psize_any .empty .nilIface w' (nd_nil w') (by decide)
    have q13 := fun (w' : World) (_ : Below w4.heap.size w4 w') => pright_any .empty .nilIface w' (nd_nil w') (by decide)
    have q14 := fun (w' : World) (_ : Below w4.heap.size w4 w') => psame_any .empty .empty .nilIface _ w' (nd_nil w') (nd_emp w') (by decide)
    rw [show nsame (canon t) (canon t) = true from nsame_refl _] at q11
    rw [show nsize .empty = 1 from rfl] at q12
    rw [show nrightB .empty = true from rfl] at q13
    rw [show nsame .empty .empty = true from rfl] at q14
    unfold tV at q2 q4 q6 q8 q10
    generalize nrightB (canon t) = R at q1 q2
    generalize nsize (canon t) = S at q3 q4
    generalize ndeep (canon t) = D at q5 q6
    generalize ngroups (canon t) = G at q7 q8
    generalize nbacks (canon t) = K at q9 q10
    have hall := HoldA.all ⟨Below.refl w4.heap.size w4, hT⟩
    have HB := Lib.hid hB
    clear hX hr hN hkn2 hT hB hsz hng hdp
    go_wp2_with fail
    go_region_held3 (fun w' => ReadA w w4 t a ca w')
      (first | exact hall | exact readA_drew hall | exact readA_step hbX (by assumption) | exact readA_drew (by assumption))
      (first
        | (go_at_call_of 9 v; refine (q1 _ (HoldA.below (And.right (by assumption)))).mono ?_; rintro e w' ⟨rfl, hbX⟩)
        | (go_at_call 10; refine (q2 _ (HoldA.below (And.right (by assumption)))).mono ?_; rintro e w' ⟨rfl, hbX⟩)
        | (go_at_call_of 11 v; refine (q3 _ (HoldA.below (And.right (by assumption)))).mono ?_; rintro e w' ⟨rfl, hbX⟩)
        | (go_at_call 12; refine (q4 _ (HoldA.below (And.right (by assumption)))).mono ?_; rintro e w' ⟨rfl, hbX⟩)
        | (go_at_call 13; refine (q5 _ (HoldA.below (And.right (by assumption)))).mono ?_; rintro e w' ⟨rfl, hbX⟩)
        | (go_at_call 14; refine (q6 _ (HoldA.below (And.right (by assumption)))).mono ?_; rintro e w' ⟨rfl, hbX⟩)
        | (go_at_call 15; refine (q7 _ (HoldA.below (And.right (by assumption)))).mono ?_; rintro e w' ⟨rfl, hbX⟩)
        | (go_at_call 16; refine (q8 _ (HoldA.below (And.right (by assumption)))).mono ?_; rintro e w' ⟨rfl, hbX⟩)
        | (go_at_call 17; refine (q9 _ (HoldA.below (And.right (by assumption)))).mono ?_; rintro e w' ⟨rfl, hbX⟩)
        | (go_at_call 18; refine (q10 _ (HoldA.below (And.right (by assumption)))).mono ?_; rintro e w' ⟨rfl, hbX⟩)
        | (go_at_call_of 19 v; refine (q11 _ (HoldA.below (And.right (by assumption)))).mono ?_; rintro e w' ⟨rfl, hbX⟩)
        | (go_at_call 11; refine (q12 _ (HoldA.below (And.right (by assumption)))).mono ?_; rintro e w' ⟨rfl, hbX⟩)
        | (go_at_call 9; refine (q13 _ (HoldA.below (And.right (by assumption)))).mono ?_; rintro e w' ⟨rfl, hbX⟩)
        | (go_at_call 19; refine (q14 _ (HoldA.below (And.right (by assumption)))).mono ?_; rintro e w' ⟨rfl, hbX⟩))
    go_wp2_with fail
    go_ret
    clear hall
    go_split_ands
    exact ⟨rfl, HB.out.trans ((HoldA.below (by assumption)).mono HB.out.size)⟩
end Go.Proofs.Ytaekjcbgnlldoaa
