/- node. -/
import Derived.Test.YtjjhkagpoicimaaCbN
import Derived.Test.YtjjhkagpoicimaaNdTa
namespace Go.Proofs.Ytjjhkagpoicimaa
open Go Go.RowKit

set_option linter.unusedVariables false in
set_option linter.unusedSimpArgs false in
set_option maxRecDepth 100000 in
set_option maxHeartbeats 4000000 in
theorem node_empty {B p : Nat} {l : List Inn} {g : Int} {k : Nat} {bk : Bool} {iv tv : Value} {ts : List CTk} {us jvs : List Value}  (v : Value) (w : World) (h : Sta B p w l g k bk iv tv ts us jvs nilS) (hd : NdX (OffT p iv tv (nilS :: jvs)) w (.empty) v) (hok : cok (.empty) = true) (hus : us.length ≤ 4000000) (hl : l.length ≤ 3000) (hk : k ≤ l.length) :
    Calls Try.prog 47 #[ptr p, v] w fun e w' => e = .returned (.tuple #[]) ∧ (∃ iv' tv' us' jvs', Sta B p w' (stp (.lay (.empty)) l k).1.1 g (stp (.lay (.empty)) l k).1.2 bk iv' tv' ((stp (.lay (.empty)) l k).2 ++ ts) us' jvs' nilS ∧ us'.length ≤ us.length + 2) ∧ Below B w w' := by
  have hA0 := (Below.refl w.heap.size w).alloc (Nat.le_refl _) (.cells #[ptr p] 98)
  have hS1 := h.below hA0
  have hlow1 := (CStep.of_below (p := p) (iv := iv) (tv := tv) hA0).low h.bld
  have HF := Lib.hid (And.intro hS1 hlow1)
  obtain ⟨n, hd⟩ := hd
  have hv : v = .iface 80 (.agg #[]) ∨ v = .nilIface := by
    cases n with
    | zero => exact hd.elim
    | succ n => exact hd
  clear hd h hA0 hS1 hlow1
  rcases hv with rfl | rfl
  all_goals
    go_enter Try.func47, Try.ntmps47
    go_wp2_with fail
    go_end0
    exact ⟨rfl, ⟨_, _, _, _, HF.out.1, by omega⟩, HF.out.2⟩

set_option linter.unusedVariables false in
set_option linter.unusedSimpArgs false in
set_option maxRecDepth 100000 in
set_option maxHeartbeats 4000000 in
theorem node_one {B p : Nat} {l : List Inn} {g : Int} {k : Nat} {bk : Bool} {iv tv : Value} {ts : List CTk} {us jvs : List Value} (s : OSet) (v : Value) (w : World) (h : Sta B p w l g k bk iv tv ts us jvs nilS) (hd : NdX (OffT p iv tv (nilS :: jvs)) w (.one s) v) (hok : cok (.one s) = true) (hus : us.length ≤ 4000000) (hl : l.length ≤ 3000) (hk : k ≤ l.length) :
    Calls Try.prog 47 #[ptr p, v] w fun e w' => e = .returned (.tuple #[]) ∧ (∃ iv' tv' us' jvs', Sta B p w' (stp (.lay (.one s)) l k).1.1 g (stp (.lay (.one s)) l k).1.2 bk iv' tv' ((stp (.lay (.one s)) l k).2 ++ ts) us' jvs' nilS ∧ us'.length ≤ us.length + 2) ∧ Below B w w' := by
  obtain ⟨n, hd⟩ := hd
  have hv : v = .iface 55 (.agg #[.int .u64 (ow s 0), .int .u64 (ow s 1), .int .u64 (ow s 2), .int .u64 (ow s 3)]) := by
    cases n with
    | zero => exact hd.elim
    | succ n => exact hd
  subst hv
  have hAa := ((Below.refl w.heap.size w).alloc (Nat.le_refl _) (.cells #[ptr p] 98)).alloc (by simp) (.cells #[.int .u64 (ow s 0), .int .u64 (ow s 1), .int .u64 (ow s 2), .int .u64 (ow s 3)] 55)
  have hb0 := ((Boxed.new w 98 (ptr p)).alloc (.cells #[.int .u64 (ow s 0), .int .u64 (ow s 1), .int .u64 (ow s 2), .int .u64 (ow s 3)] 55)).cell
  have hb1 := Blk.new (w.alloc (.cells #[ptr p] 98)) #[.int .u64 (ow s 0), .int .u64 (ow s 1), .int .u64 (ow s 2), .int .u64 (ow s 3)] 55 (w.heap.size + 1) (by simp)
  have hsz : ((w.alloc (.cells #[ptr p] 98)).alloc (.cells #[.int .u64 (ow s 0), .int .u64 (ow s 1), .int .u64 (ow s 2), .int .u64 (ow s 3)] 55)).heap.size = w.heap.size + 2 := by simp
  generalize hW1 : (w.alloc (.cells #[ptr p] 98)).alloc (.cells #[.int .u64 (ow s 0), .int .u64 (ow s 1), .int .u64 (ow s 2), .int .u64 (ow s 3)] 55) = W1 at *
  have hS1 := h.below hAa
  have hlow1 := (CStep.of_below (p := p) (iv := iv) (tv := tv) hAa).low h.bld
  have x0 : W1.cell? ⟨w.heap.size + 1, 0, none⟩ = some (.int .u64 (ow s 0)) := (hb1.cell 0).trans rfl
  have x1 : W1.cell? ⟨w.heap.size + 1, 1, none⟩ = some (.int .u64 (ow s 1)) := (hb1.cell 1).trans rfl
  have x2 : W1.cell? ⟨w.heap.size + 1, 2, none⟩ = some (.int .u64 (ow s 2)) := (hb1.cell 2).trans rfl
  have x3 : W1.cell? ⟨w.heap.size + 1, 3, none⟩ = some (.int .u64 (ow s 3)) := (hb1.cell 3).trans rfl
  have hL := lay_any (⟨0, s, 0, 0⟩) W1 hS1.bld (by omega)
  rw [show (inC ⟨0, s, 0, 0⟩).toArray = #[.int .i64 0, .int .u64 (ow s 0), .int .u64 (ow s 1), .int .u64 (ow s 2), .int .u64 (ow s 3), .int .i64 0, .int .i64 0] from rfl] at hL
  have HS1 := Lib.hid hS1
  have Hlow1 := Lib.hid hlow1
  clear h hd hAa hb1 hS1 hlow1 hok
  go_enter Try.func47, Try.ntmps47
  go_wp2_with (go_at_call 22; refine hL.mono ?_; rintro e w3 ⟨rfl, iv3, hB3, hC3, _⟩)
  go_end0
  exact ⟨rfl, ⟨_, _, _, _, HS1.out.step hC3 hB3, by omega⟩, Hlow1.out.trans (hC3.low HS1.out.bld)⟩

set_option linter.unusedVariables false in
set_option linter.unusedSimpArgs false in
set_option maxRecDepth 100000 in
set_option maxHeartbeats 4000000 in
theorem node_back {B p : Nat} {l : List Inn} {g : Int} {k : Nat} {bk : Bool} {iv tv : Value} {ts : List CTk} {us jvs : List Value} (m : Int) (v : Value) (w : World) (h : Sta B p w l g k bk iv tv ts us jvs nilS) (hd : NdX (OffT p iv tv (nilS :: jvs)) w (.back m) v) (hok : cok (.back m) = true) (hus : us.length ≤ 4000000) (hl : l.length ≤ 3000) (hk : k ≤ l.length) :
    Calls Try.prog 47 #[ptr p, v] w fun e w' => e = .returned (.tuple #[]) ∧ (∃ iv' tv' us' jvs', Sta B p w' (stp (.lay (.back m)) l k).1.1 g (stp (.lay (.back m)) l k).1.2 bk iv' tv' ((stp (.lay (.back m)) l k).2 ++ ts) us' jvs' nilS ∧ us'.length ≤ us.length + 2) ∧ Below B w w' := by
  obtain ⟨n, hd⟩ := hd
  have hv : v = .iface 76 (.agg #[.int .i64 m]) := by
    cases n with
    | zero => exact hd.elim
    | succ n => exact hd
  subst hv
  have hAa := ((Below.refl w.heap.size w).alloc (Nat.le_refl _) (.cells #[ptr p] 98)).alloc (by simp) (.cells #[.int .i64 m] 76)
  have hb0 := ((Boxed.new w 98 (ptr p)).alloc (.cells #[.int .i64 m] 76)).cell
  have hb1 := Blk.new (w.alloc (.cells #[ptr p] 98)) #[.int .i64 m] 76 (w.heap.size + 1) (by simp)
  have hsz : ((w.alloc (.cells #[ptr p] 98)).alloc (.cells #[.int .i64 m] 76)).heap.size = w.heap.size + 2 := by simp
  generalize hW1 : (w.alloc (.cells #[ptr p] 98)).alloc (.cells #[.int .i64 m] 76) = W1 at *
  have hS1 := h.below hAa
  have hlow1 := (CStep.of_below (p := p) (iv := iv) (tv := tv) hAa).low h.bld
  have x0 : W1.cell? ⟨w.heap.size + 1, 0, none⟩ = some (.int .i64 m) := (hb1.cell 0).trans rfl
  have hL := lay_any (ins 4 m 0) W1 hS1.bld (by omega)
  rw [inC_ins] at hL
  have HS1 := Lib.hid hS1
  have Hlow1 := Lib.hid hlow1
  clear h hd hAa hb1 hS1 hlow1 hok
  go_enter Try.func47, Try.ntmps47
  go_wp2_with (go_at_call 22; refine hL.mono ?_; rintro e w3 ⟨rfl, iv3, hB3, hC3, _⟩)
  go_end0
  exact ⟨rfl, ⟨_, _, _, _, HS1.out.step hC3 hB3, by omega⟩, Hlow1.out.trans (hC3.low HS1.out.bld)⟩

set_option linter.unusedVariables false in
set_option linter.unusedSimpArgs false in
set_option maxRecDepth 100000 in
set_option maxHeartbeats 4000000 in
theorem node_start {B p : Nat} {l : List Inn} {g : Int} {k : Nat} {bk : Bool} {iv tv : Value} {ts : List CTk} {us jvs : List Value}  (v : Value) (w : World) (h : Sta B p w l g k bk iv tv ts us jvs nilS) (hd : NdX (OffT p iv tv (nilS :: jvs)) w (.start) v) (hok : cok (.start) = true) (hus : us.length ≤ 4000000) (hl : l.length ≤ 3000) (hk : k ≤ l.length) :
    Calls Try.prog 47 #[ptr p, v] w fun e w' => e = .returned (.tuple #[]) ∧ (∃ iv' tv' us' jvs', Sta B p w' (stp (.lay (.start)) l k).1.1 g (stp (.lay (.start)) l k).1.2 bk iv' tv' ((stp (.lay (.start)) l k).2 ++ ts) us' jvs' nilS ∧ us'.length ≤ us.length + 2) ∧ Below B w w' := by
  obtain ⟨n, hd⟩ := hd
  have hv : v = .iface 78 (.agg #[]) := by
    cases n with
    | zero => exact hd.elim
    | succ n => exact hd
  subst hv
  have hAa := ((Below.refl w.heap.size w).alloc (Nat.le_refl _) (.cells #[ptr p] 98)).alloc (by simp) (.cells #[] 78)
  have hb0 := ((Boxed.new w 98 (ptr p)).alloc (.cells #[] 78)).cell
  have hb1 := Blk.new (w.alloc (.cells #[ptr p] 98)) #[] 78 (w.heap.size + 1) (by simp)
  have hsz : ((w.alloc (.cells #[ptr p] 98)).alloc (.cells #[] 78)).heap.size = w.heap.size + 2 := by simp
  generalize hW1 : (w.alloc (.cells #[ptr p] 98)).alloc (.cells #[] 78) = W1 at *
  have hS1 := h.below hAa
  have hlow1 := (CStep.of_below (p := p) (iv := iv) (tv := tv) hAa).low h.bld
  have hL := lay_any (ins 5 0 0) W1 hS1.bld (by omega)
  rw [inC_ins] at hL
  have HS1 := Lib.hid hS1
  have Hlow1 := Lib.hid hlow1
  clear h hd hAa hb1 hS1 hlow1 hok
  go_enter Try.func47, Try.ntmps47
  go_wp2_with (go_at_call 22; refine hL.mono ?_; rintro e w3 ⟨rfl, iv3, hB3, hC3, _⟩)
  go_end0
  exact ⟨rfl, ⟨_, _, _, _, HS1.out.step hC3 hB3, by omega⟩, Hlow1.out.trans (hC3.low HS1.out.bld)⟩

set_option linter.unusedVariables false in
set_option linter.unusedSimpArgs false in
set_option maxRecDepth 100000 in
set_option maxHeartbeats 4000000 in
theorem node_fin {B p : Nat} {l : List Inn} {g : Int} {k : Nat} {bk : Bool} {iv tv : Value} {ts : List CTk} {us jvs : List Value}  (v : Value) (w : World) (h : Sta B p w l g k bk iv tv ts us jvs nilS) (hd : NdX (OffT p iv tv (nilS :: jvs)) w (.fin) v) (hok : cok (.fin) = true) (hus : us.length ≤ 4000000) (hl : l.length ≤ 3000) (hk : k ≤ l.length) :
    Calls Try.prog 47 #[ptr p, v] w fun e w' => e = .returned (.tuple #[]) ∧ (∃ iv' tv' us' jvs', Sta B p w' (stp (.lay (.fin)) l k).1.1 g (stp (.lay (.fin)) l k).1.2 bk iv' tv' ((stp (.lay (.fin)) l k).2 ++ ts) us' jvs' nilS ∧ us'.length ≤ us.length + 2) ∧ Below B w w' := by
  obtain ⟨n, hd⟩ := hd
  have hv : v = .iface 79 (.agg #[]) := by
    cases n with
    | zero => exact hd.elim
    | succ n => exact hd
  subst hv
  have hAa := ((Below.refl w.heap.size w).alloc (Nat.le_refl _) (.cells #[ptr p] 98)).alloc (by simp) (.cells #[] 79)
  have hb0 := ((Boxed.new w 98 (ptr p)).alloc (.cells #[] 79)).cell
  have hb1 := Blk.new (w.alloc (.cells #[ptr p] 98)) #[] 79 (w.heap.size + 1) (by simp)
  have hsz : ((w.alloc (.cells #[ptr p] 98)).alloc (.cells #[] 79)).heap.size = w.heap.size + 2 := by simp
  generalize hW1 : (w.alloc (.cells #[ptr p] 98)).alloc (.cells #[] 79) = W1 at *
  have hS1 := h.below hAa
  have hlow1 := (CStep.of_below (p := p) (iv := iv) (tv := tv) hAa).low h.bld
  have hL := lay_any (ins 6 0 0) W1 hS1.bld (by omega)
  rw [inC_ins] at hL
  have HS1 := Lib.hid hS1
  have Hlow1 := Lib.hid hlow1
  clear h hd hAa hb1 hS1 hlow1 hok
  go_enter Try.func47, Try.ntmps47
  go_wp2_with (go_at_call 22; refine hL.mono ?_; rintro e w3 ⟨rfl, iv3, hB3, hC3, _⟩)
  go_end0
  exact ⟨rfl, ⟨_, _, _, _, HS1.out.step hC3 hB3, by omega⟩, Hlow1.out.trans (hC3.low HS1.out.bld)⟩

set_option linter.unusedVariables false in
set_option linter.unusedSimpArgs false in
set_option maxRecDepth 100000 in
set_option maxHeartbeats 4000000 in
theorem node_cat {B p : Nat} {l : List Inn} {g : Int} {k : Nat} {bk : Bool} {iv tv : Value} {ts : List CTk} {us jvs : List Value} (ds : List Nd) (v : Value) (w : World) (h : Sta B p w l g k bk iv tv ts us jvs nilS) (hd : NdX (OffT p iv tv (nilS :: jvs)) w (.cat ds) v) (hok : cok (.cat ds) = true) (hus : us.length ≤ 4000000) (hl : l.length ≤ 3000) (hk : k ≤ l.length) :
    Calls Try.prog 47 #[ptr p, v] w fun e w' => e = .returned (.tuple #[]) ∧ (∃ iv' tv' us' jvs', Sta B p w' (stp (.lay (.cat ds)) l k).1.1 g (stp (.lay (.cat ds)) l k).1.2 bk iv' tv' ((stp (.lay (.cat ds)) l k).2 ++ ts) us' jvs' nilS ∧ us'.length ≤ us.length + 2) ∧ Below B w w' := by
  obtain ⟨n, hd⟩ := hd
  cases n with
  | zero => exact hd.elim
  | succ n =>
  obtain ⟨a, cap, rfl, h1, h2, h3⟩ := hd
  have hv : NdRw (OffT p iv tv (nilS :: jvs)) w ds a cap := ⟨h1, h2, fun h0 => by
    obtain ⟨b, o, e1, e2, e3, e4⟩ := h3 h0
    exact ⟨b, o, e1, e2, e3, fun i hi => by
      obtain ⟨u, e5, e6⟩ := e4 i hi
      exact ⟨u, e5, n, e6⟩⟩⟩
  have hAa := ((Below.refl w.heap.size w).alloc (Nat.le_refl _) (.cells #[ptr p] 98)).alloc (by simp) (.cells #[.slice a ds.length cap] 71)
  have hb0 := ((Boxed.new w 98 (ptr p)).alloc (.cells #[.slice a ds.length cap] 71)).cell
  have hb1 := Blk.new (w.alloc (.cells #[ptr p] 98)) #[.slice a ds.length cap] 71 (w.heap.size + 1) (by simp)
  have hsz : ((w.alloc (.cells #[ptr p] 98)).alloc (.cells #[.slice a ds.length cap] 71)).heap.size = w.heap.size + 2 := by simp
  generalize hW1 : (w.alloc (.cells #[ptr p] 98)).alloc (.cells #[.slice a ds.length cap] 71) = W1 at *
  have hS1 := h.below hAa
  have hlow1 := (CStep.of_below (p := p) (iv := iv) (tv := tv) hAa).low h.bld
  have x0 : W1.cell? ⟨w.heap.size + 1, 0, none⟩ = some (.slice a ds.length cap) := (hb1.cell 0).trans rfl
  have hv1 := hv.below hAa
  have hL := inturn_any ds a cap W1 hS1 hv1 hus
  have Hlow1 := Lib.hid hlow1
  clear h hAa hb1 hS1 hlow1 hok hv hv1 h1 h2 h3 
  go_enter Try.func47, Try.ntmps47
  go_wp2_with (go_at_call 50; refine hL.mono ?_; rintro e w3 ⟨rfl, hend, hlow⟩)
  go_end0
  exact ⟨rfl, hend, Hlow1.out.trans hlow⟩

set_option linter.unusedVariables false in
set_option linter.unusedSimpArgs false in
set_option maxRecDepth 100000 in
set_option maxHeartbeats 4000000 in
theorem node_alt {B p : Nat} {l : List Inn} {g : Int} {k : Nat} {bk : Bool} {iv tv : Value} {ts : List CTk} {us jvs : List Value} (ds : List Nd) (v : Value) (w : World) (h : Sta B p w l g k bk iv tv ts us jvs nilS) (hd : NdX (OffT p iv tv (nilS :: jvs)) w (.alt ds) v) (hok : cok (.alt ds) = true) (hus : us.length ≤ 4000000) (hl : l.length ≤ 3000) (hk : k ≤ l.length) :
    Calls Try.prog 47 #[ptr p, v] w fun e w' => e = .returned (.tuple #[]) ∧ (∃ iv' tv' us' jvs', Sta B p w' (stp (.lay (.alt ds)) l k).1.1 g (stp (.lay (.alt ds)) l k).1.2 bk iv' tv' ((stp (.lay (.alt ds)) l k).2 ++ ts) us' jvs' nilS ∧ us'.length ≤ us.length + 2) ∧ Below B w w' := by
  obtain ⟨n, hd⟩ := hd
  cases n with
  | zero => exact hd.elim
  | succ n =>
  obtain ⟨a, cap, rfl, h1, h2, h3⟩ := hd
  have hv : NdRw (OffT p iv tv (nilS :: jvs)) w ds a cap := ⟨h1, h2, fun h0 => by
    obtain ⟨b, o, e1, e2, e3, e4⟩ := h3 h0
    exact ⟨b, o, e1, e2, e3, fun i hi => by
      obtain ⟨u, e5, e6⟩ := e4 i hi
      exact ⟨u, e5, n, e6⟩⟩⟩
  have hne : ds ≠ [] := by
    rw [cok, Bool.and_eq_true, decide_eq_true_eq] at hok
    intro e
    rw [e] at hok
    exact absurd hok.1 (by decide)
  have hAa := ((Below.refl w.heap.size w).alloc (Nat.le_refl _) (.cells #[ptr p] 98)).alloc (by simp) (.cells #[.slice a ds.length cap] 72)
  have hb0 := ((Boxed.new w 98 (ptr p)).alloc (.cells #[.slice a ds.length cap] 72)).cell
  have hb1 := Blk.new (w.alloc (.cells #[ptr p] 98)) #[.slice a ds.length cap] 72 (w.heap.size + 1) (by simp)
  have hsz : ((w.alloc (.cells #[ptr p] 98)).alloc (.cells #[.slice a ds.length cap] 72)).heap.size = w.heap.size + 2 := by simp
  generalize hW1 : (w.alloc (.cells #[ptr p] 98)).alloc (.cells #[.slice a ds.length cap] 72) = W1 at *
  have hS1 := h.below hAa
  have hlow1 := (CStep.of_below (p := p) (iv := iv) (tv := tv) hAa).low h.bld
  have x0 : W1.cell? ⟨w.heap.size + 1, 0, none⟩ = some (.slice a ds.length cap) := (hb1.cell 0).trans rfl
  have hv1 := hv.below hAa
  have hL := branches_any ds [] a cap W1 hS1 (World.ownsRow_nil _ _ _ _) hv1 hne hus (by omega)
  have Hlow1 := Lib.hid hlow1
  clear h hAa hb1 hS1 hlow1 hok hv hv1 h1 h2 h3 hne
  go_enter Try.func47, Try.ntmps47
  go_wp2_with (go_at_call 51; refine hL.mono ?_; rintro e w3 ⟨rfl, hend, hlow, _⟩)
  go_end0
  exact ⟨rfl, hend, Hlow1.out.trans hlow⟩

set_option linter.unusedVariables false in
set_option linter.unusedSimpArgs false in
set_option maxRecDepth 100000 in
set_option maxHeartbeats 4000000 in
theorem node_rep {B p : Nat} {l : List Inn} {g : Int} {k : Nat} {bk : Bool} {iv tv : Value} {ts : List CTk} {us jvs : List Value} (d : Nd) (mn mx : Int) (v : Value) (w : World) (h : Sta B p w l g k bk iv tv ts us jvs nilS) (hd : NdX (OffT p iv tv (nilS :: jvs)) w (.rep d mn mx) v) (hok : cok (.rep d mn mx) = true) (hus : us.length ≤ 4000000) (hl : l.length ≤ 3000) (hk : k ≤ l.length) :
    Calls Try.prog 47 #[ptr p, v] w fun e w' => e = .returned (.tuple #[]) ∧ (∃ iv' tv' us' jvs', Sta B p w' (stp (.lay (.rep d mn mx)) l k).1.1 g (stp (.lay (.rep d mn mx)) l k).1.2 bk iv' tv' ((stp (.lay (.rep d mn mx)) l k).2 ++ ts) us' jvs' nilS ∧ us'.length ≤ us.length + 2) ∧ Below B w w' := by
  obtain ⟨n, hd⟩ := hd
  cases n with
  | zero => exact hd.elim
  | succ n =>
  obtain ⟨u, rfl, hu⟩ := hd
  have hu : NdX (OffT p iv tv (nilS :: jvs)) w d u := ⟨n, hu⟩
  rw [cok, Bool.and_eq_true, Bool.and_eq_true] at hok
  obtain ⟨T, q, rfl⟩ : ∃ T q, u = .iface T q := by
    rcases hu.elim fun _ h => nd_shape h with h | rfl
    · exact h
    · obtain ⟨n, hn⟩ := hu
      exfalso
      cases n with
      | zero => exact hn
      | succ n =>
        cases d with
        | empty => exact absurd hok.2.1 (by decide)
        | one s => cases hn
        | cat l => obtain ⟨_, _, h, _⟩ := hn; cases h
        | alt l => obtain ⟨_, _, h, _⟩ := hn; cases h
        | rep d a b => obtain ⟨_, h, _⟩ := hn; cases h
        | group a d => obtain ⟨_, h, _⟩ := hn; cases h
        | back a => cases hn
        | start => cases hn
        | fin => cases hn
  have hAa := ((Below.refl w.heap.size w).alloc (Nat.le_refl _) (.cells #[ptr p] 98)).alloc (by simp) (.cells #[.iface T q, .int .i64 mn, .int .i64 mx] 57)
  have hb0 := ((Boxed.new w 98 (ptr p)).alloc (.cells #[.iface T q, .int .i64 mn, .int .i64 mx] 57)).cell
  have hb1 := Blk.new (w.alloc (.cells #[ptr p] 98)) #[.iface T q, .int .i64 mn, .int .i64 mx] 57 (w.heap.size + 1) (by simp)
  have hsz : ((w.alloc (.cells #[ptr p] 98)).alloc (.cells #[.iface T q, .int .i64 mn, .int .i64 mx] 57)).heap.size = w.heap.size + 2 := by simp
  generalize hW1 : (w.alloc (.cells #[ptr p] 98)).alloc (.cells #[.iface T q, .int .i64 mn, .int .i64 mx] 57) = W1 at *
  have hS1 := h.below hAa
  have hlow1 := (CStep.of_below (p := p) (iv := iv) (tv := tv) hAa).low h.bld
  have x0 : W1.cell? ⟨w.heap.size + 1, 0, none⟩ = some (.iface T q) := (hb1.cell 0).trans rfl
  have x1 : W1.cell? ⟨w.heap.size + 1, 1, none⟩ = some (.int .i64 mn) := (hb1.cell 1).trans rfl
  have x2 : W1.cell? ⟨w.heap.size + 1, 2, none⟩ = some (.int .i64 mx) := (hb1.cell 2).trans rfl
  have hu1 := hu.below hAa
  by_cases h0 : mx = 0
  · have hm0 : (mx != 0) = false := by simp [h0]
    have HF := Lib.hid (And.intro hS1 hlow1)
    rw [stp, if_pos h0]
    clear h hAa hb1 hS1 hlow1 hok hu hu1 h0
    go_enter Try.func47, Try.ntmps47
    go_wp2_with fail
    go_end0
    exact ⟨rfl, ⟨_, _, _, _, HF.out.1, by omega⟩, HF.out.2⟩
  · have hm0 : (mx != 0) = true := by simp [h0]
    have hL := repeat_any d T q mn mx W1 hS1 hu1 hus hl hk h0
    have Hlow1 := Lib.hid hlow1
    clear h hAa hb1 hS1 hlow1 hok hu hu1 h0
    go_enter Try.func47, Try.ntmps47
    go_wp2_with (go_at_call 52; refine hL.mono ?_; rintro e w3 ⟨rfl, hend, hlow⟩)
    go_end0
    exact ⟨rfl, hend, Hlow1.out.trans hlow⟩

set_option linter.unusedVariables false in
set_option linter.unusedSimpArgs false in
set_option maxRecDepth 100000 in
set_option maxHeartbeats 4000000 in
theorem node_group {B p : Nat} {l : List Inn} {g : Int} {k : Nat} {bk : Bool} {iv tv : Value} {ts : List CTk} {us jvs : List Value} (m : Int) (d : Nd) (v : Value) (w : World) (h : Sta B p w l g k bk iv tv ts us jvs nilS) (hd : NdX (OffT p iv tv (nilS :: jvs)) w (.group m d) v) (hok : cok (.group m d) = true) (hus : us.length ≤ 4000000) (hl : l.length ≤ 3000) (hk : k ≤ l.length) :
    Calls Try.prog 47 #[ptr p, v] w fun e w' => e = .returned (.tuple #[]) ∧ (∃ iv' tv' us' jvs', Sta B p w' (stp (.lay (.group m d)) l k).1.1 g (stp (.lay (.group m d)) l k).1.2 bk iv' tv' ((stp (.lay (.group m d)) l k).2 ++ ts) us' jvs' nilS ∧ us'.length ≤ us.length + 2) ∧ Below B w w' := by
  obtain ⟨n, hd⟩ := hd
  cases n with
  | zero => exact hd.elim
  | succ n =>
  obtain ⟨u, rfl, hu⟩ := hd
  have hu : NdX (OffT p iv tv (nilS :: jvs)) w d u := ⟨n, hu⟩
  have hsh : (∃ T q, u = .iface T q) ∨ u = .nilIface := hu.elim fun _ h => nd_shape h
  simp only [cok, Bool.and_eq_true, decide_eq_true_eq] at hok
  have hm1 := hok.1.1
  have hm2 := hok.1.2
  have hAa := ((Below.refl w.heap.size w).alloc (Nat.le_refl _) (.cells #[ptr p] 98)).alloc (by simp) (.cells #[.int .i64 m, u] 74)
  have hb0 := ((Boxed.new w 98 (ptr p)).alloc (.cells #[.int .i64 m, u] 74)).cell
  have hb1 := Blk.new (w.alloc (.cells #[ptr p] 98)) #[.int .i64 m, u] 74 (w.heap.size + 1) (by simp)
  have hsz : ((w.alloc (.cells #[ptr p] 98)).alloc (.cells #[.int .i64 m, u] 74)).heap.size = w.heap.size + 2 := by simp
  generalize hW1 : (w.alloc (.cells #[ptr p] 98)).alloc (.cells #[.int .i64 m, u] 74) = W1 at *
  have hS1 := h.below hAa
  have hlow1 := (CStep.of_below (p := p) (iv := iv) (tv := tv) hAa).low h.bld
  have x0 : W1.cell? ⟨w.heap.size + 1, 0, none⟩ = some (.int .i64 m) := (hb1.cell 0).trans rfl
  have x1 : W1.cell? ⟨w.heap.size + 1, 1, none⟩ = some (u) := (hb1.cell 1).trans rfl
  have hu1 := hu.below hAa
  have hbo0 := h.offNew (y := w.heap.size) (Nat.le_refl _)
  have hbo1 := h.offNew (y := w.heap.size + 1) (by omega)
  have Wm : IntKind.i64.wrap (2 * m) = 2 * m := IntWalk.i64_in _ (by omega)
  have hL := lay_ins 3 (2 * m) 0 W1 hS1.bld (by omega)
  have HS1 := Lib.hid hS1
  have Hlow1 := Lib.hid hlow1
  have Hu1 := Lib.hid hu1
  have Hbo0 := Lib.hid hbo0
  have Hbo1 := Lib.hid hbo1
  have HSZ := Lib.hid hsz
  have hmf : ∀ (fn : Fn) (first cap : Array Value) (w : World), (Instr.makeFunc fn first cap).run Try.prog w = .ok (.func fn first cap) w := fun _ _ _ _ => rfl
  have HW1 := Lib.hid hW1
  rw [← hW1] at hL
  clear h hAa hb1 hS1 hlow1 hok hu hu1 hbo0 hbo1 hW1
  rcases hsh with ⟨T, q, rfl⟩ | rfl
  · go_enter Try.func47, Try.ntmps47
    go_upto_region 18 with (go_at_call 22; refine hL.mono ?_; rintro e w3 ⟨rfl, iv3, hB3, hC3, _⟩)
    rw [HW1.out] at hC3
    have hsz := HSZ.out
    have hbw0 : w.heap.size < W1.heap.size := by omega
    have hbw1 : w.heap.size + 1 < W1.heap.size := by omega
    have hF := OffT.step (jvs := nilS :: jvs) (jvs' := nilS :: jvs) hC3 fun jv hm => .inr hm
    have hS3 := HS1.out.step hC3 hB3
    have i0 := ((hF _ Hbo0.out hbw0).2 0).trans hb0
    have i1 := ((hF _ Hbo1.out hbw1).2 1).trans x1
    have i2 := ((hF _ Hbo1.out hbw1).2 0).trans x0
    have ob0 := (hF _ Hbo0.out hbw0).1
    have ob1 := (hF _ Hbo1.out hbw1).1
    have hu3 := Hu1.out.keep hC3.size hF
    have hlt := hC3.size
    have ht2 : TkAt B p (OffT p iv3 tv (nilS :: jvs)) w3 (.save m) (Value.func (.func 53) #[] #[ptr w.heap.size, ptr (w.heap.size + 1)]) nilS :=
      ⟨rfl, _, _, rfl, ⟨ob0, by omega, i0⟩, ⟨ob1, by omega, i2⟩⟩
    have hlow3 := Hlow1.out.trans (hC3.low HS1.out.bld)
    have hoff0 := ob0.1
    have hoff1 := ob1.1
    have Hh := Lib.hid hS3
    have Hnd := Lib.hid hu3
    have Ht2 := Lib.hid ht2
    have Hlow := Lib.hid hlow3
    clear hS3 hu3 ht2 hlow3 ob0 ob1 hF hC3 hB3 hL hsz hlt hbw0 hbw1 hb0 x0 x1 i2 HW1 Wm HSZ
    have hmix : Try.prog.follows .mixedOrders = true := by kernel_rfl
    have hN := next_ahead Hh.out Hnd.out Ht2.out ⟨_, _, _, rfl⟩ hus
    have hS0 : ∀ W' : World, W' = w3 ∨ Below w3.heap.size w3 W' → (fun W' : World => W'.cell? ⟨w.heap.size, 0, none⟩ = some (ptr p) ∧ W'.cell? ⟨w.heap.size + 1, 1, none⟩ = some (.iface T q) ∧ True) W' := fun W' hW => by
      rcases hW with rfl | hW
      · exact ⟨i0, i1, trivial⟩
      · exact ⟨(hW.cell (World.block_lt_of_cell? _ _ i0)).trans i0, (hW.cell (World.block_lt_of_cell? _ _ i1)).trans i1, trivial⟩
    refine wp_region_held_drew (S := fun W' : World => W'.cell? ⟨w.heap.size, 0, none⟩ = some (ptr p) ∧ W'.cell? ⟨w.heap.size + 1, 1, none⟩ = some (.iface T q) ∧ True) hmix (hS0 _ (.inr (Below.drew (Below.refl _ _)))) (fun hHeld => ?_)
    refine wpAnyH_take (i := 0) (v := ?_) rfl (by kernel_rfl) (by kernel_rfl) (by kernel_rfl) (fun _ _ _ h => h) (Or.inl ⟨by rfl, ?_⟩) (by assumption) ?_
    rotate_left
    · intro W' hSw; obtain ⟨c0, c1, _⟩ := hSw; go_simp; try with_reducible rfl
    try simp only [Act.put, List.setIfInBounds_toArray, List.set_cons_zero, List.set_cons_succ]
    refine wpAnyH_take (i := 1) (v := ?_) rfl (by kernel_rfl) (by kernel_rfl) (by kernel_rfl) (fun _ _ _ h => h) (Or.inl ⟨by rfl, ?_⟩) (by assumption) ?_
    rotate_left
    · intro W' hSw; obtain ⟨c0, c1, _⟩ := hSw; go_simp; try with_reducible rfl
    try simp only [Act.put, List.setIfInBounds_toArray, List.set_cons_zero, List.set_cons_succ]
    refine wpAnyH_take (i := 2) (v := ?_) rfl (by kernel_rfl) (by kernel_rfl) (by kernel_rfl) (fun _ _ _ h => h) (Or.inl ⟨by rfl, ?_⟩) (by assumption) ?_
    rotate_left
    · intro W' hSw; obtain ⟨c0, c1, _⟩ := hSw; go_simp; try with_reducible rfl
    try simp only [Act.put, List.setIfInBounds_toArray, List.set_cons_zero, List.set_cons_succ]
    refine wpAnyH_take (i := 3) (v := ?_) rfl (by kernel_rfl) (by kernel_rfl) (by kernel_rfl) (fun _ _ _ h => h) (Or.inl ⟨by rfl, ?_⟩) (by assumption) ?_
    rotate_left
    · intro W' hSw; obtain ⟨c0, c1, _⟩ := hSw; go_simp; try with_reducible rfl
    try simp only [Act.put, List.setIfInBounds_toArray, List.set_cons_zero, List.set_cons_succ]
    refine wpAnyH_take (i := 5) (v := ?_) rfl (by kernel_rfl) (by kernel_rfl) (by kernel_rfl) (fun _ _ _ h => h) (Or.inl ⟨by rfl, ?_⟩) (by assumption) ?_
    rotate_left
    · intro W' hSw; obtain ⟨c0, c1, _⟩ := hSw; go_simp; try with_reducible rfl
    try simp only [Act.put, List.setIfInBounds_toArray, List.set_cons_zero, List.set_cons_succ]
    refine wpAnyH_ready (rs := [4]) (by kernel_rfl) (by simp) ?_
    refine AllReadyH.cons rfl (fun K hK => ?_) AllReadyH.nil
    go_simp
    go_wp2_with (go_at_call 35; refine (laying_any _ _ _ (.inl ⟨_, _, rfl⟩)).mono ?_; rintro e w4 ⟨rfl, rfl⟩)
    refine hK.out _ _ (hS0 _ (.inr (Below.alloc (Below.alloc (Below.drew (Below.refl _ _)) (Nat.le_refl _) _) (by simp) _))) (fun hHeld2 => ?_)
    clear hK K hHeld
    try simp only [Act.put, List.setIfInBounds_toArray, List.set_cons_zero, List.set_cons_succ]
    refine wpAnyH_ready (rs := [6]) (by kernel_rfl) (by simp) ?_
    refine AllReadyH.cons rfl (fun K hK => ?_) AllReadyH.nil
    go_simp
    refine hK.out _ _ (hS0 _ (.inr (Below.alloc (Below.alloc (Below.alloc (Below.drew (Below.refl _ _)) (Nat.le_refl _) _) (by simp) _) (by simp; omega) _))) (fun hHeld3 => ?_)
    clear hK K hHeld2
    try simp only [Act.put, List.setIfInBounds_toArray, List.set_cons_zero, List.set_cons_succ]
    refine wpAnyH_ready (rs := [7]) (by kernel_rfl) (by simp) ?_
    refine AllReadyH.cons rfl (fun K hK => ?_) AllReadyH.nil
    go_simp
    go_wp2_with (go_at_call 34; refine hN.mono ?_; rintro e w6 ⟨rfl, hend, hlow, hcells⟩)
    refine hK.out _ _ ⟨(hcells _ _ (World.block_lt_of_cell? _ _ i0) hoff0).trans i0, (hcells _ _ (World.block_lt_of_cell? _ _ i1) hoff1).trans i1, trivial⟩ (fun hHeld4 => ?_)
    clear hK K hHeld3 hHeld4
    refine wpAnyH_done (by kernel_rfl) ?_ _
    go_wp2_with fail
    go_end0
    obtain ⟨tv7, us7, jvs7, h7, h8⟩ := hend
    exact ⟨rfl, ⟨_, _, _, _, h7, by omega⟩, Hlow.out.trans hlow⟩
  · go_enter Try.func47, Try.ntmps47
    go_upto_region 18 with (go_at_call 22; refine hL.mono ?_; rintro e w3 ⟨rfl, iv3, hB3, hC3, _⟩)
    rw [HW1.out] at hC3
    have hsz := HSZ.out
    have hbw0 : w.heap.size < W1.heap.size := by omega
    have hbw1 : w.heap.size + 1 < W1.heap.size := by omega
    have hF := OffT.step (jvs := nilS :: jvs) (jvs' := nilS :: jvs) hC3 fun jv hm => .inr hm
    have hS3 := HS1.out.step hC3 hB3
    have i0 := ((hF _ Hbo0.out hbw0).2 0).trans hb0
    have i1 := ((hF _ Hbo1.out hbw1).2 1).trans x1
    have i2 := ((hF _ Hbo1.out hbw1).2 0).trans x0
    have ob0 := (hF _ Hbo0.out hbw0).1
    have ob1 := (hF _ Hbo1.out hbw1).1
    have hu3 := Hu1.out.keep hC3.size hF
    have hlt := hC3.size
    have ht2 : TkAt B p (OffT p iv3 tv (nilS :: jvs)) w3 (.save m) (Value.func (.func 53) #[] #[ptr w.heap.size, ptr (w.heap.size + 1)]) nilS :=
      ⟨rfl, _, _, rfl, ⟨ob0, by omega, i0⟩, ⟨ob1, by omega, i2⟩⟩
    have hlow3 := Hlow1.out.trans (hC3.low HS1.out.bld)
    have hoff0 := ob0.1
    have hoff1 := ob1.1
    have Hh := Lib.hid hS3
    have Hnd := Lib.hid hu3
    have Ht2 := Lib.hid ht2
    have Hlow := Lib.hid hlow3
    clear hS3 hu3 ht2 hlow3 ob0 ob1 hF hC3 hB3 hL hsz hlt hbw0 hbw1 hb0 x0 x1 i2 HW1 Wm HSZ
    have hmix : Try.prog.follows .mixedOrders = true := by kernel_rfl
    have hN := next_ahead Hh.out Hnd.out Ht2.out ⟨_, _, _, rfl⟩ hus
    have hS0 : ∀ W' : World, W' = w3 ∨ Below w3.heap.size w3 W' → (fun W' : World => W'.cell? ⟨w.heap.size, 0, none⟩ = some (ptr p) ∧ W'.cell? ⟨w.heap.size + 1, 1, none⟩ = some (.nilIface) ∧ True) W' := fun W' hW => by
      rcases hW with rfl | hW
      · exact ⟨i0, i1, trivial⟩
      · exact ⟨(hW.cell (World.block_lt_of_cell? _ _ i0)).trans i0, (hW.cell (World.block_lt_of_cell? _ _ i1)).trans i1, trivial⟩
    refine wp_region_held_drew (S := fun W' : World => W'.cell? ⟨w.heap.size, 0, none⟩ = some (ptr p) ∧ W'.cell? ⟨w.heap.size + 1, 1, none⟩ = some (.nilIface) ∧ True) hmix (hS0 _ (.inr (Below.drew (Below.refl _ _)))) (fun hHeld => ?_)
    refine wpAnyH_take (i := 0) (v := ?_) rfl (by kernel_rfl) (by kernel_rfl) (by kernel_rfl) (fun _ _ _ h => h) (Or.inl ⟨by rfl, ?_⟩) (by assumption) ?_
    rotate_left
    · intro W' hSw; obtain ⟨c0, c1, _⟩ := hSw; go_simp; try with_reducible rfl
    try simp only [Act.put, List.setIfInBounds_toArray, List.set_cons_zero, List.set_cons_succ]
    refine wpAnyH_take (i := 1) (v := ?_) rfl (by kernel_rfl) (by kernel_rfl) (by kernel_rfl) (fun _ _ _ h => h) (Or.inl ⟨by rfl, ?_⟩) (by assumption) ?_
    rotate_left
    · intro W' hSw; obtain ⟨c0, c1, _⟩ := hSw; go_simp; try with_reducible rfl
    try simp only [Act.put, List.setIfInBounds_toArray, List.set_cons_zero, List.set_cons_succ]
    refine wpAnyH_take (i := 2) (v := ?_) rfl (by kernel_rfl) (by kernel_rfl) (by kernel_rfl) (fun _ _ _ h => h) (Or.inl ⟨by rfl, ?_⟩) (by assumption) ?_
    rotate_left
    · intro W' hSw; obtain ⟨c0, c1, _⟩ := hSw; go_simp; try with_reducible rfl
    try simp only [Act.put, List.setIfInBounds_toArray, List.set_cons_zero, List.set_cons_succ]
    refine wpAnyH_take (i := 3) (v := ?_) rfl (by kernel_rfl) (by kernel_rfl) (by kernel_rfl) (fun _ _ _ h => h) (Or.inl ⟨by rfl, ?_⟩) (by assumption) ?_
    rotate_left
    · intro W' hSw; obtain ⟨c0, c1, _⟩ := hSw; go_simp; try with_reducible rfl
    try simp only [Act.put, List.setIfInBounds_toArray, List.set_cons_zero, List.set_cons_succ]
    refine wpAnyH_take (i := 5) (v := ?_) rfl (by kernel_rfl) (by kernel_rfl) (by kernel_rfl) (fun _ _ _ h => h) (Or.inl ⟨by rfl, ?_⟩) (by assumption) ?_
    rotate_left
    · intro W' hSw; obtain ⟨c0, c1, _⟩ := hSw; go_simp; try with_reducible rfl
    try simp only [Act.put, List.setIfInBounds_toArray, List.set_cons_zero, List.set_cons_succ]
    refine wpAnyH_ready (rs := [4]) (by kernel_rfl) (by simp) ?_
    refine AllReadyH.cons rfl (fun K hK => ?_) AllReadyH.nil
    go_simp
    go_wp2_with (go_at_call 35; refine (laying_any _ _ _ (.inr rfl)).mono ?_; rintro e w4 ⟨rfl, rfl⟩)
    refine hK.out _ _ (hS0 _ (.inr (Below.alloc (Below.alloc (Below.drew (Below.refl _ _)) (Nat.le_refl _) _) (by simp) _))) (fun hHeld2 => ?_)
    clear hK K hHeld
    try simp only [Act.put, List.setIfInBounds_toArray, List.set_cons_zero, List.set_cons_succ]
    refine wpAnyH_ready (rs := [6]) (by kernel_rfl) (by simp) ?_
    refine AllReadyH.cons rfl (fun K hK => ?_) AllReadyH.nil
    go_simp
    refine hK.out _ _ (hS0 _ (.inr (Below.alloc (Below.alloc (Below.alloc (Below.drew (Below.refl _ _)) (Nat.le_refl _) _) (by simp) _) (by simp; omega) _))) (fun hHeld3 => ?_)
    clear hK K hHeld2
    try simp only [Act.put, List.setIfInBounds_toArray, List.set_cons_zero, List.set_cons_succ]
    refine wpAnyH_ready (rs := [7]) (by kernel_rfl) (by simp) ?_
    refine AllReadyH.cons rfl (fun K hK => ?_) AllReadyH.nil
    go_simp
    go_wp2_with (go_at_call 34; refine hN.mono ?_; rintro e w6 ⟨rfl, hend, hlow, hcells⟩)
    refine hK.out _ _ ⟨(hcells _ _ (World.block_lt_of_cell? _ _ i0) hoff0).trans i0, (hcells _ _ (World.block_lt_of_cell? _ _ i1) hoff1).trans i1, trivial⟩ (fun hHeld4 => ?_)
    clear hK K hHeld3 hHeld4
    refine wpAnyH_done (by kernel_rfl) ?_ _
    go_wp2_with fail
    go_end0
    obtain ⟨tv7, us7, jvs7, h7, h8⟩ := hend
    exact ⟨rfl, ⟨_, _, _, _, h7, by omega⟩, Hlow.out.trans hlow⟩
theorem node_any {B p : Nat} {l : List Inn} {g : Int} {k : Nat} {bk : Bool} {iv tv : Value} {ts : List CTk} {us jvs : List Value} (d : Nd) (v : Value) (w : World) (h : Sta B p w l g k bk iv tv ts us jvs nilS) (hd : NdX (OffT p iv tv (nilS :: jvs)) w d v) (hok : cok d = true) (hus : us.length ≤ 4000000) (hl : l.length ≤ 3000) (hk : k ≤ l.length) :
    Calls Try.prog 47 #[ptr p, v] w fun e w' => e = .returned (.tuple #[]) ∧ (∃ iv' tv' us' jvs', Sta B p w' (stp (.lay d) l k).1.1 g (stp (.lay d) l k).1.2 bk iv' tv' ((stp (.lay d) l k).2 ++ ts) us' jvs' nilS ∧ us'.length ≤ us.length + 2) ∧ Below B w w' := by
  cases d with
  | empty => exact node_empty v w h hd hok hus hl hk
  | one s => exact node_one s v w h hd hok hus hl hk
  | cat ds => exact node_cat ds v w h hd hok hus hl hk
  | alt ds => exact node_alt ds v w h hd hok hus hl hk
  | rep d mn mx => exact node_rep d mn mx v w h hd hok hus hl hk
  | group m d => exact node_group m d v w h hd hok hus hl hk
  | back m => exact node_back m v w h hd hok hus hl hk
  | start => exact node_start v w h hd hok hus hl hk
  | fin => exact node_fin v w h hd hok hus hl hk
end Go.Proofs.Ytjjhkagpoicimaa
