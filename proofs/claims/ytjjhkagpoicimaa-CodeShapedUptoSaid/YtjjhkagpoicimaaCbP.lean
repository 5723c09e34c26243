/- The closures of the builder's tasks: laying, a group's end, a Cat's rest, a Rep's rest. -/
import Derived.Test.YtjjhkagpoicimaaCbO
import Derived.Test.YtjjhkagpoicimaaCbE
import Derived.StillTailTactics
namespace Go.Proofs.Ytjjhkagpoicimaa
open Go Go.RowKit

/-- What a task leaves. -/
abbrev Did (B p : Nat) (g : Int) (bk : Bool) (w : World) (l : List Inn) (k : Nat) (t : CTk) (ts : List CTk) (us : List Value) (e : Ending) (w' : World) : Prop :=
  e = .returned (.tuple #[]) ∧ (∃ iv' tv' us' jvs', Sta B p w' (stp t l k).1.1 g (stp t l k).1.2 bk iv' tv' ((stp t l k).2 ++ ts) us' jvs' nilS ∧ us'.length ≤ us.length + 2) ∧ Below B w w'

set_option linter.unusedVariables false in
set_option linter.unusedSimpArgs false in
set_option maxRecDepth 100000 in
set_option maxHeartbeats 4000000 in
theorem task_lay {B p : Nat} {l : List Inn} {g : Int} {k : Nat} {bk : Bool} {iv tv v jv : Value} {ts : List CTk} {us jvs : List Value} (d : Nd) (w : World) (h : Sta B p w l g k bk iv tv ts us jvs jv) (ht : TkAt B p (OffT p iv tv (jv :: jvs)) w (.lay d) v jv) (hf : Fit l.length k (.lay d)) (hpos : 0 < l.length) (hbd : Bd l) (hus : us.length ≤ 4000000) (hl : l.length ≤ 3000) (hk : k ≤ l.length) :
    ∃ x y, v = .func (.func 46) #[] #[ptr x, ptr y] ∧ Calls Try.prog 46 #[ptr x, ptr y] w (Did B p g bk w l k (.lay d) ts us) := by
  obtain ⟨rfl, x, y, u, rfl, bx, by', hd⟩ := ht
  refine ⟨x, y, rfl, ?_⟩
  have hL := node_any d u w h hd hf hus hl hk
  have c0 := bx.2.2
  have c1 := by'.2.2
  have hsh : (∃ T q, u = .iface T q) ∨ u = .nilIface := hd.elim fun _ h => nd_shape h
  clear h hd bx by' hf
  rcases hsh with ⟨T, q, rfl⟩ | rfl
  all_goals
    go_enter Try.func46, Try.ntmps46
    go_wp2_with (go_at_call 47; refine hL.mono ?_; rintro e w3 ⟨rfl, hend, hlow⟩)
    go_end0
    exact ⟨rfl, hend, hlow⟩

set_option linter.unusedVariables false in
set_option linter.unusedSimpArgs false in
set_option maxRecDepth 100000 in
set_option maxHeartbeats 4000000 in
theorem task_save {B p : Nat} {l : List Inn} {g : Int} {k : Nat} {bk : Bool} {iv tv v jv : Value} {ts : List CTk} {us jvs : List Value} (m : Int) (w : World) (h : Sta B p w l g k bk iv tv ts us jvs jv) (ht : TkAt B p (OffT p iv tv (jv :: jvs)) w (.save m) v jv) (hf : Fit l.length k (.save m)) (hpos : 0 < l.length) (hbd : Bd l) (hus : us.length ≤ 4000000) (hl : l.length ≤ 3000) (hk : k ≤ l.length) :
    ∃ x y, v = .func (.func 53) #[] #[ptr x, ptr y] ∧ Calls Try.prog 53 #[ptr x, ptr y] w (Did B p g bk w l k (.save m) ts us) := by
  obtain ⟨rfl, x, y, rfl, bx, by'⟩ := ht
  refine ⟨x, y, rfl, ?_⟩
  obtain ⟨hm1, hm2⟩ := hf
  have hL := lay_ins 3 (2 * m + 1) 0 w h.bld (by omega)
  have W1 : IntKind.i64.wrap (2 * m) = 2 * m := IntWalk.i64_in _ (by omega)
  have W2 : IntKind.i64.wrap (2 * m + 1) = 2 * m + 1 := IntWalk.i64_in _ (by omega)
  have c0 := bx.2.2
  have c1 := by'.2.2
  have Hh := Lib.hid h
  clear h bx by'
  go_enter Try.func53, Try.ntmps53
  go_wp2_with (go_at_call 22; refine hL.mono ?_; rintro e w3 ⟨rfl, iv3, hB3, hC3, _⟩)
  go_end0
  exact ⟨rfl, ⟨_, _, _, _, Hh.out.step hC3 hB3, by omega⟩, hC3.low Hh.out.bld⟩

/-- The parts behind the first. -/
theorem NdRw.behind {F : Nat → Prop} {w : World} {d : Nd} {ds : List Nd} {b o cap : Nat} (h : NdRw F w (d :: ds) (some ⟨b, o, none⟩) cap) : NdRw F w ds (some ⟨b, o + 1, none⟩) (cap - 1) := by
  obtain ⟨h1, h2, h3⟩ := h
  obtain ⟨b2, o2, e1, e2, e3, e4⟩ := h3 (by simp)
  injection e1 with e1
  injection e1 with e1 e5
  subst e1; subst e5
  refine ⟨by rw [List.length_cons] at h1; omega, by omega, fun h0 => ⟨b, o + 1, rfl, e2, e3, fun i hi => ?_⟩⟩
  obtain ⟨u, h4, h5⟩ := e4 (i + 1) (by rw [List.length_cons]; omega)
  refine ⟨u, ?_, h5⟩
  rw [show o + 1 + i = o + (i + 1) by omega]
  exact h4
theorem NdRw.some {F : Nat → Prop} {w : World} {d : Nd} {ds : List Nd} {a : Option Addr} {cap : Nat} (h : NdRw F w (d :: ds) a cap) : ∃ b o, a = some ⟨b, o, none⟩ := by
  obtain ⟨b, o, e, _⟩ := h.2.2 (by simp)
  exact ⟨b, o, e⟩
theorem NdRw.any {F : Nat → Prop} {w : World} {ds : List Nd} {a : Option Addr} {cap : Nat} (a' : Option Addr) (h : NdRw F w ds a cap) (h0 : ds = []) : NdRw F w ds a' cap := by
  subst h0
  exact ⟨h.1, h.2.1, fun h => absurd h (by simp)⟩

set_option linter.unusedVariables false in
set_option linter.unusedSimpArgs false in
set_option maxRecDepth 100000 in
set_option maxHeartbeats 4000000 in
theorem task_turn {B p : Nat} {l : List Inn} {g : Int} {k : Nat} {bk : Bool} {iv tv v jv : Value} {ts : List CTk} {us jvs : List Value} (ds : List Nd) (w : World) (h : Sta B p w l g k bk iv tv ts us jvs jv) (ht : TkAt B p (OffT p iv tv (jv :: jvs)) w (.turn ds) v jv) (hf : Fit l.length k (.turn ds)) (hpos : 0 < l.length) (hbd : Bd l) (hus : us.length ≤ 4000000) (hl : l.length ≤ 3000) (hk : k ≤ l.length) :
    ∃ x y, v = .func (.func 54) #[] #[ptr x, ptr y] ∧ Calls Try.prog 54 #[ptr x, ptr y] w (Did B p g bk w l k (.turn ds) ts us) := by
  obtain ⟨rfl, x, y, a, c, d, rfl, bx, by', hv⟩ := ht
  refine ⟨x, y, rfl, ?_⟩
  obtain ⟨b, o, rfl⟩ := hv.some
  have c0 := bx.2.2
  have c1 := by'.2.2
  have hcap := hv.1
  have hmax := hv.2.1
  have hvt := hv.behind
  obtain ⟨n, hn⟩ : ∃ n, ds.length = n := ⟨_, rfl⟩
  rw [List.length_cons, hn] at c1 hcap
  have hmix : Try.prog.follows .mixedOrders = true := by kernel_rfl
  have hle : (1 : Int) ≤ (n : Int) + 1 := by omega
  have hdr : Below w.heap.size w w.drew := Below.drew (Below.refl _ _)
  have hBw := Nat.le_trans h.bld.bp (Nat.le_of_lt h.bld.blk.lt)
  by_cases hc : c = 1
  · subst hc
    have hn0 : n = 0 := by omega
    subst hn0
    have hL := inturn_any ds (some ⟨b, o, none⟩) 0 w.drew (h.below hdr) ((hvt.any (some ⟨b, o, none⟩) (List.length_eq_zero_iff.1 (by omega))).below hdr) hus
    rw [hn] at hL
    clear h bx by' hv hvt hf
    go_enter Try.func54, Try.ntmps54
    go_still_tail 3, (by kernel_rfl)
    change wpList _ _ _ _ _ w.drew
    go_wp2_with (go_at_call 50; go_loud (refine hL.mono ?_; rintro e w3 ⟨rfl, hend, hlow⟩))
    go_end0
    exact ⟨rfl, hend, (hdr.mono hBw).trans hlow⟩
  · have hL := inturn_any ds (some ⟨b, o + 1, none⟩) (c - 1) w.drew (h.below hdr) (hvt.below hdr) hus
    rw [hn] at hL
    clear h bx by' hv hvt hf
    go_enter Try.func54, Try.ntmps54
    go_still_tail 3, (by kernel_rfl)
    change wpList _ _ _ _ _ w.drew
    go_wp2_with (go_at_call 50; go_loud (refine hL.mono ?_; rintro e w3 ⟨rfl, hend, hlow⟩))
    go_end0
    exact ⟨rfl, hend, (hdr.mono hBw).trans hlow⟩

set_option linter.unusedVariables false in
set_option linter.unusedSimpArgs false in
set_option maxRecDepth 100000 in
set_option maxHeartbeats 4000000 in
theorem task_rep {B p : Nat} {l : List Inn} {g : Int} {k : Nat} {bk : Bool} {iv tv v jv : Value} {ts : List CTk} {us jvs : List Value} (mn mx : Int) (P q : Nat) (w : World) (h : Sta B p w l g k bk iv tv ts us jvs jv) (ht : TkAt B p (OffT p iv tv (jv :: jvs)) w (.rep mn mx P q) v jv) (hf : Fit l.length k (.rep mn mx P q)) (hpos : 0 < l.length) (hbd : Bd l) (hus : us.length ≤ 4000000) (hl : l.length ≤ 3000) (hk : k ≤ l.length) :
    ∃ x y z r, v = .func (.func 58) #[] #[ptr x, ptr y, ptr z, ptr r] ∧ Calls Try.prog 58 #[ptr x, ptr y, ptr z, ptr r] w (Did B p g bk w l k (.rep mn mx P q) ts us) := by
  obtain ⟨rfl, x, y, z, r, T, u, rfl, bx, by', by1, by2, bz, br⟩ := ht
  refine ⟨x, y, z, r, rfl, ?_⟩
  obtain ⟨f1, f2, f3, f4, f5, f6⟩ := hf
  have c0 := bx.2.2
  have c1 := by'.2.2
  have c2 := by1.2.2
  have c3 := by2.2.2
  have c4 := bz.2.2
  have c5 := br.2.2
  have hcs := h.bld.cells
  have c6 := hcs.c0
  have c7 := hcs.c2
  have hdr : Below w.heap.size w w.drew := Below.drew (Below.refl _ _)
  have hBw := Nat.le_trans h.bld.bp (Nat.le_of_lt h.bld.blk.lt)
  obtain ⟨n, hn⟩ : ∃ n, l.length - P = n := ⟨_, rfl⟩
  obtain ⟨m, hm⟩ : ∃ m, k - q = m := ⟨_, rfl⟩
  have hL := endrep_any T u mn mx P n q m w.drew (h.bld.below hdr) ⟨hpos, by omega, f4, f5, by omega, hbd⟩ (by omega) (by omega) f1 f2 f6
  have W1 : IntKind.i64.wrap ((l.length : Int) - (P : Int)) = (n : Int) := by rw [IntWalk.i64_in _ (by omega)]; omega
  have W2 : IntKind.i64.wrap ((k : Int) - (q : Int)) = (m : Int) := by rw [IntWalk.i64_in _ (by omega)]; omega
  have Hh := Lib.hid h
  obtain ⟨ia, ic, hia⟩ := co_form h.bld.io
  rw [hia] at c6
  have hst : stp (.rep mn mx P q) l k = (repT mn mx P n q m l k, []) := by rw [stp, hn, hm]
  have Hst := Lib.hid hst
  clear h bx by' by1 by2 bz br hcs f1 f2 f3 f4 f5 f6 hn hm hst hia hbd hpos
  go_enter Try.func58, Try.ntmps58
  go_still_tail 20, (by kernel_rfl)
  change wpList _ _ _ _ _ w.drew
  go_wp2_with (go_at_call 59; go_loud (refine hL.mono ?_; rintro e w3 ⟨rfl, iv3, hB3, hC3⟩))
  go_end0
  refine ⟨rfl, ?_, (hdr.mono hBw).trans (hC3.low (Hh.out.bld.below hdr))⟩
  rw [Hst.out]
  exact ⟨_, _, _, _, (Hh.out.below hdr).step hC3 hB3, by omega⟩
end Go.Proofs.Ytjjhkagpoicimaa
