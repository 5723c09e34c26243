/- The proof's texts CbO, CbP: what the claim reaches of them. -/
import Derived.Test.YtihfenkphhnbcaaCp18
import Derived.Test.YtihfenkphhnbcaaCp08
import Derived.Test.YtihfenkphhnbcaaCp13
import Derived.StillTailTactics
namespace Go.Proofs.Ytihfenkphhnbcaa
open Go Go.RowKit
set_option linter.unusedVariables false in
set_option linter.unusedSimpArgs false in
set_option maxRecDepth 100000 in
set_option maxHeartbeats 4000000 in
theorem node_empty {B p : Nat} {l : List Inn} {g : Int} {k : Nat} {bk : Bool} {iv tv : Value} {ts : List CTk} {us jvs : List Value}  (v : Value) (w : World) (h : Sta B p w l g k bk iv tv ts us jvs nilS) (hd : NdX (OffT p iv tv (nilS :: jvs)) w (.empty) v) (hok : cok (.empty) = true) (hus : us.length ≤ 4000000) (hl : l.length ≤ 3000) (hk : k ≤ l.length) :
    Calls Try.prog 47 #[ptr p, v] w fun e w' => e = .returned (.tuple #[]) ∧ (∃ iv' tv' us' jvs', Sta B p w' (stp (.lay (.empty)) l k).1.1 g (stp (.lay (.empty)) l k).1.2 bk iv' tv' ((stp (.lay (.empty)) l k).2 ++ ts) us' jvs' nilS ∧ us'.length ≤ us.length + 2) ∧ Below B w w' := by
  have hA0 := (Below.refl w.heap.size w).alloc (Nat.le_refl _) (.cells #[ptr p] 98)
  have hS1 := h.below hA0
  have hlow1 := (CStep.of_below (p := p) (iv := iv) (tv := tv) hA0).low h.bld
  have HF := Lib.hid (And.intro hS1 hlow1)
  obtain ⟨n, hd⟩ := hd
  have hv : v = .iface 80 (.agg #[]) ∨ v = .nilIface := by
    cases n with
    | zero => exact hd.elim
    | succ n => exact hd
  clear hd h hA0 hS1 hlow1
  rcases hv with rfl | rfl
  all_goals
    go_enter Try.func47, Try.ntmps47
    go_wp2_with fail
    go_end0
    exact ⟨rfl, ⟨_, _, _, _, HF.out.1, by omega⟩, HF.out.2⟩
set_option linter.unusedVariables false in
set_option linter.unusedSimpArgs false in
set_option maxRecDepth 100000 in
set_option maxHeartbeats 4000000 in
theorem node_one {B p : Nat} {l : List Inn} {g : Int} {k : Nat} {bk : Bool} {iv tv : Value} {ts : List CTk} {us jvs : List Value} (s : OSet) (v : Value) (w : World) (h : Sta B p w l g k bk iv tv ts us jvs nilS) (hd : NdX (OffT p iv tv (nilS :: jvs)) w (.one s) v) (hok : cok (.one s) = true) (hus : us.length ≤ 4000000) (hl : l.length ≤ 3000) (hk : k ≤ l.length) :
    Calls Try.prog 47 #[ptr p, v] w fun e w' => e = .returned (.tuple #[]) ∧ (∃ iv' tv' us' jvs', Sta B p w' (stp (.lay (.one s)) l k).1.1 g (stp (.lay (.one s)) l k).1.2 bk iv' tv' ((stp (.lay (.one s)) l k).2 ++ ts) us' jvs' nilS ∧ us'.length ≤ us.length + 2) ∧ Below B w w' := by
  obtain ⟨n, hd⟩ := hd
  have hv : v = .iface 55 (.agg #[.int .u64 (ow s 0), .int .u64 (ow s 1), .int .u64 (ow s 2), .int .u64 (ow s 3)]) := by
    cases n with
    | zero => exact hd.elim
    | succ n => exact hd
  subst hv
  have hAa := ((Below.refl w.heap.size w).alloc (Nat.le_refl _) (.cells #[ptr p] 98)).alloc (by simp) (.cells #[.int .u64 (ow s 0), .int .u64 (ow s 1), .int .u64 (ow s 2), .int .u64 (ow s 3)] 55)
  have hb0 := ((Boxed.new w 98 (ptr p)).alloc (.cells #[.int .u64 (ow s 0), .int .u64 (ow s 1), .int .u64 (ow s 2), .int .u64 (ow s 3)] 55)).cell
  have hb1 := Blk.new (w.alloc (.cells #[ptr p] 98)) #[.int .u64 (ow s 0), .int .u64 (ow s 1), .int .u64 (ow s 2), .int .u64 (ow s 3)] 55 (w.heap.size + 1) (by simp)
  have hsz : ((w.alloc (.cells #[ptr p] 98)).alloc (.cells #[.int .u64 (ow s 0), .int .u64 (ow s 1), .int .u64 (ow s 2), .int .u64 (ow s 3)] 55)).heap.size = w.heap.size + 2 := by simp
  generalize hW1 : (w.alloc (.cells #[ptr p] 98)).alloc (.cells #[.int .u64 (ow s 0), .int .u64 (ow s 1), .int .u64 (ow s 2), .int .u64 (ow s 3)] 55) = W1 at *
  have hS1 := h.below hAa
  have hlow1 := (CStep.of_below (p := p) (iv := iv) (tv := tv) hAa).low h.bld
  have x0 : W1.cell? ⟨w.heap.size + 1, 0, none⟩ = some (.int .u64 (ow s 0)) := (hb1.cell 0).trans rfl
  have x1 : W1.cell? ⟨w.heap.size + 1, 1, none⟩ = some (.int .u64 (ow s 1)) := (hb1.cell 1).trans rfl
  have x2 : W1.cell? ⟨w.heap.size + 1, 2, none⟩ = some (.int .u64 (ow s 2)) := (hb1.cell 2).trans rfl
  have x3 : W1.cell? ⟨w.heap.size + 1, 3, none⟩ = some (.int .u64 (ow s 3)) := (hb1.cell 3).trans rfl
  have hL := lay_any (⟨0, s, 0, 0⟩) W1 hS1.bld (by omega)
  rw [show (inC ⟨0, s, 0, 0⟩).toArray = #[.int .i64 0, .int .u64 (ow s 0), .int .u64 (ow s 1), .int .u64 (ow s 2), .int .u64 (ow s 3), .int .i64 0, .int .i64 0] from rfl] at hL
  have HS1 := Lib.hid hS1
  have Hlow1 := Lib.hid hlow1
  clear h hd hAa hb1 hS1 hlow1 hok
  go_enter Try.func47, Try.ntmps47
  go_wp2_with (go_at_call 22; refine hL.mono ?_; rintro e w3 ⟨rfl, iv3, hB3, hC3, _⟩)
  go_end0
  exact ⟨rfl, ⟨_, _, _, _, HS1.out.step hC3 hB3, by omega⟩, Hlow1.out.trans (hC3.low HS1.out.bld)⟩
set_option linter.unusedVariables false in
set_option linter.unusedSimpArgs false in
set_option maxRecDepth 100000 in
set_option maxHeartbeats 4000000 in
theorem node_back {B p : Nat} {l : List Inn} {g : Int} {k : Nat} {bk : Bool} {iv tv : Value} {ts : List CTk} {us jvs : List Value} (m : Int) (v : Value) (w : World) (h : Sta B p w l g k bk iv tv ts us jvs nilS) (hd : NdX (OffT p iv tv (nilS :: jvs)) w (.back m) v) (hok : cok (.back m) = true) (hus : us.length ≤ 4000000) (hl : l.length ≤ 3000) (hk : k ≤ l.length) :
    Calls Try.prog 47 #[ptr p, v] w fun e w' => e = .returned (.tuple #[]) ∧ (∃ iv' tv' us' jvs', Sta B p w' (stp (.lay (.back m)) l k).1.1 g (stp (.lay (.back m)) l k).1.2 bk iv' tv' ((stp (.lay (.back m)) l k).2 ++ ts) us' jvs' nilS ∧ us'.length ≤ us.length + 2) ∧ Below B w w' := by
  obtain ⟨n, hd⟩ := hd
  have hv : v = .iface 76 (.agg #[.int .i64 m]) := by
    cases n with
    | zero => exact hd.elim
    | succ n => exact hd
  subst hv
  have hAa := ((Below.refl w.heap.size w).alloc (Nat.le_refl _) (.cells #[ptr p] 98)).alloc (by simp) (.cells #[.int .i64 m] 76)
  have hb0 := ((Boxed.new w 98 (ptr p)).alloc (.cells #[.int .i64 m] 76)).cell
  have hb1 := Blk.new (w.alloc (.cells #[ptr p] 98)) #[.int .i64 m] 76 (w.heap.size + 1) (by simp)
  have hsz : ((w.alloc (.cells #[ptr p] 98)).alloc (.cells #[.int .i64 m] 76)).heap.size = w.heap.size + 2 := by simp
  generalize hW1 : (w.alloc (.cells #[ptr p] 98)).alloc (.cells #[.int .i64 m] 76) = W1 at *
  have hS1 := h.below hAa
  have hlow1 := (CStep.of_below (p := p) (iv := iv) (tv := tv) hAa).low h.bld
  have x0 : W1.cell? ⟨w.heap.size + 1, 0, none⟩ = some (.int .i64 m) := (hb1.cell 0).trans rfl
  have hL := lay_any (ins 4 m 0) W1 hS1.bld (by omega)
  rw [inC_ins] at hL
  have HS1 := Lib.hid hS1
  have Hlow1 := Lib.hid hlow1
  clear h hd hAa hb1 hS1 hlow1 hok
  go_enter Try.func47, Try.ntmps47
  go_wp2_with (go_at_call 22; refine hL.mono ?_; rintro e w3 ⟨rfl, iv3, hB3, hC3, _⟩)
  go_end0
  exact ⟨rfl, ⟨_, _, _, _, HS1.out.step hC3 hB3, by omega⟩, Hlow1.out.trans (hC3.low HS1.out.bld)⟩
set_option linter.unusedVariables false in
set_option linter.unusedSimpArgs false in
set_option maxRecDepth 100000 in
set_option maxHeartbeats 4000000 in
theorem node_start {B p : Nat} {l : List Inn} {g : Int} {k : Nat} {bk : Bool} {iv tv : Value} {ts : List CTk} {us jvs : List Value}  (v : Value) (w : World) (h : Sta B p w l g k bk iv tv ts us jvs nilS) (hd : NdX (OffT p iv tv (nilS :: jvs)) w (.start) v) (hok : cok (.start) = true) (hus : us.length ≤ 4000000) (hl : l.length ≤ 3000) (hk : k ≤ l.length) :
    Calls Try.prog 47 #[ptr p, v] w fun e w' => e = .returned (.tuple #[]) ∧ (∃ iv' tv' us' jvs', Sta B p w' (stp (.lay (.start)) l k).1.1 g (stp (.lay (.start)) l k).1.2 bk iv' tv' ((stp (.lay (.start)) l k).2 ++ ts) us' jvs' nilS ∧ us'.length ≤ us.length + 2) ∧ Below B w w' := by
  obtain ⟨n, hd⟩ := hd
  have hv : v = .iface 78 (.agg #[]) := by
    cases n with
    | zero => exact hd.elim
    | succ n => exact hd
  subst hv
  have hAa := ((Below.refl w.heap.size w).alloc (Nat.le_refl _) (.cells #[ptr p] 98)).alloc (by simp) (.cells #[] 78)
  have hb0 := ((Boxed.new w 98 (ptr p)).alloc (.cells #[] 78)).cell
  have hb1 := Blk.new (w.alloc (.cells #[ptr p] 98)) #[] 78 (w.heap.size + 1) (by simp)
  have hsz : ((w.alloc (.cells #[ptr p] 98)).alloc (.cells #[] 78)).heap.size = w.heap.size + 2 := by simp
  generalize hW1 : (w.alloc (.cells #[ptr p] 98)).alloc (.cells #[] 78) = W1 at *
  have hS1 := h.below hAa
  have hlow1 := (CStep.of_below (p := p) (iv := iv) (tv := tv) hAa).low h.bld
  have hL := lay_any (ins 5 0 0) W1 hS1.bld (by omega)
  rw [inC_ins] at hL
  have HS1 := Lib.hid hS1
  have Hlow1 := Lib.hid hlow1
  clear h hd hAa hb1 hS1 hlow1 hok
  go_enter Try.func47, Try.ntmps47
  go_wp2_with (go_at_call 22; refine hL.mono ?_; rintro e w3 ⟨rfl, iv3, hB3, hC3, _⟩)
  go_end0
  exact ⟨rfl, ⟨_, _, _, _, HS1.out.step hC3 hB3, by omega⟩, Hlow1.out.trans (hC3.low HS1.out.bld)⟩
set_option linter.unusedVariables false in
set_option linter.unusedSimpArgs false in
set_option maxRecDepth 100000 in
set_option maxHeartbeats 4000000 in
theorem node_fin {B p : Nat} {l : List Inn} {g : Int} {k : Nat} {bk : Bool} {iv tv : Value} {ts : List CTk} {us jvs : List Value}  (v : Value) (w : World) (h : Sta B p w l g k bk iv tv ts us jvs nilS) (hd : NdX (OffT p iv tv (nilS :: jvs)) w (.fin) v) (hok : cok (.fin) = true) (hus : us.length ≤ 4000000) (hl : l.length ≤ 3000) (hk : k ≤ l.length) :
    Calls Try.prog 47 #[ptr p, v] w fun e w' => e = .returned (.tuple #[]) ∧ (∃ iv' tv' us' jvs', Sta B p w' (stp (.lay (.fin)) l k).1.1 g (stp (.lay (.fin)) l k).1.2 bk iv' tv' ((stp (.lay (.fin)) l k).2 ++ ts) us' jvs' nilS ∧ us'.length ≤ us.length + 2) ∧ Below B w w' := by
  obtain ⟨n, hd⟩ := hd
  have hv : v = .iface 79 (.agg #[]) := by
    cases n with
    | zero => exact hd.elim
    | succ n => exact hd
  subst hv
  have hAa := ((Below.refl w.heap.size w).alloc (Nat.le_refl _) (.cells #[ptr p] 98)).alloc (by simp) (.cells #[] 79)
  have hb0 := ((Boxed.new w 98 (ptr p)).alloc (.cells #[] 79)).cell
  have hb1 := Blk.new (w.alloc (.cells #[ptr p] 98)) #[] 79 (w.heap.size + 1) (by simp)
  have hsz : ((w.alloc (.cells #[ptr p] 98)).alloc (.cells #[] 79)).heap.size = w.heap.size + 2 := by simp
  generalize hW1 : (w.alloc (.cells #[ptr p] 98)).alloc (.cells #[] 79) = W1 at *
  have hS1 := h.below hAa
  have hlow1 := (CStep.of_below (p := p) (iv := iv) (tv := tv) hAa).low h.bld
  have hL := lay_any (ins 6 0 0) W1 hS1.bld (by omega)
  rw [inC_ins] at hL
  have HS1 := Lib.hid hS1
  have Hlow1 := Lib.hid hlow1
  clear h hd hAa hb1 hS1 hlow1 hok
  go_enter Try.func47, Try.ntmps47
  go_wp2_with (go_at_call 22; refine hL.mono ?_; rintro e w3 ⟨rfl, iv3, hB3, hC3, _⟩)
  go_end0
  exact ⟨rfl, ⟨_, _, _, _, HS1.out.step hC3 hB3, by omega⟩, Hlow1.out.trans (hC3.low HS1.out.bld)⟩
set_option linter.unusedVariables false in
set_option linter.unusedSimpArgs false in
set_option maxRecDepth 100000 in
set_option maxHeartbeats 4000000 in
theorem node_cat {B p : Nat} {l : List Inn} {g : Int} {k : Nat} {bk : Bool} {iv tv : Value} {ts : List CTk} {us jvs : List Value} (ds : List Nd) (v : Value) (w : World) (h : Sta B p w l g k bk iv tv ts us jvs nilS) (hd : NdX (OffT p iv tv (nilS :: jvs)) w (.cat ds) v) (hok : cok (.cat ds) = true) (hus : us.length ≤ 4000000) (hl : l.length ≤ 3000) (hk : k ≤ l.length) :
    Calls Try.prog 47 #[ptr p, v] w fun e w' => e = .returned (.tuple #[]) ∧ (∃ iv' tv' us' jvs', Sta B p w' (stp (.lay (.cat ds)) l k).1.1 g (stp (.lay (.cat ds)) l k).1.2 bk iv' tv' ((stp (.lay (.cat ds)) l k).2 ++ ts) us' jvs' nilS ∧ us'.length ≤ us.length + 2) ∧ Below B w w' := by
  obtain ⟨n, hd⟩ := hd
  cases n with
  | zero => exact hd.elim
  | succ n =>
  obtain ⟨a, cap, rfl, h1, h2, h3⟩ := hd
  have hv : NdRw (OffT p iv tv (nilS :: jvs)) w ds a cap := ⟨h1, h2, fun h0 => by
    obtain ⟨b, o, e1, e2, e3, e4⟩ := h3 h0
    exact ⟨b, o, e1, e2, e3, fun i hi => by
      obtain ⟨u, e5, e6⟩ := e4 i hi
      exact ⟨u, e5, n, e6⟩⟩⟩
  have hAa := ((Below.refl w.heap.size w).alloc (Nat.le_refl _) (.cells #[ptr p] 98)).alloc (by simp) (.cells #[.slice a ds.length cap] 71)
  have hb0 := ((Boxed.new w 98 (ptr p)).alloc (.cells #[.slice a ds.length cap] 71)).cell
  have hb1 := Blk.new (w.alloc (.cells #[ptr p] 98)) #[.slice a ds.length cap] 71 (w.heap.size + 1) (by simp)
  have hsz : ((w.alloc (.cells #[ptr p] 98)).alloc (.cells #[.slice a ds.length cap] 71)).heap.size = w.heap.size + 2 := by simp
  generalize hW1 : (w.alloc (.cells #[ptr p] 98)).alloc (.cells #[.slice a ds.length cap] 71) = W1 at *
  have hS1 := h.below hAa
  have hlow1 := (CStep.of_below (p := p) (iv := iv) (tv := tv) hAa).low h.bld
  have x0 : W1.cell? ⟨w.heap.size + 1, 0, none⟩ = some (.slice a ds.length cap) := (hb1.cell 0).trans rfl
  have hv1 := hv.below hAa
  have hL := inturn_any ds a cap W1 hS1 hv1 hus
  have Hlow1 := Lib.hid hlow1
  clear h hAa hb1 hS1 hlow1 hok hv hv1 h1 h2 h3 
  go_enter Try.func47, Try.ntmps47
  go_wp2_with (go_at_call 50; refine hL.mono ?_; rintro e w3 ⟨rfl, hend, hlow⟩)
  go_end0
  exact ⟨rfl, hend, Hlow1.out.trans hlow⟩
set_option linter.unusedVariables false in
set_option linter.unusedSimpArgs false in
set_option maxRecDepth 100000 in
set_option maxHeartbeats 4000000 in
theorem node_alt {B p : Nat} {l : List Inn} {g : Int} {k : Nat} {bk : Bool} {iv tv : Value} {ts : List CTk} {us jvs : List Value} (ds : List Nd) (v : Value) (w : World) (h : Sta B p w l g k bk iv tv ts us jvs nilS) (hd : NdX (OffT p iv tv (nilS :: jvs)) w (.alt ds) v) (hok : cok (.alt ds) = true) (hus : us.length ≤ 4000000) (hl : l.length ≤ 3000) (hk : k ≤ l.length) :
    Calls Try.prog 47 #[ptr p, v] w fun e w' => e = .returned (.tuple #[]) ∧ (∃ iv' tv' us' jvs', Sta B p w' (stp (.lay (.alt ds)) l k).1.1 g (stp (.lay (.alt ds)) l k).1.2 bk iv' tv' ((stp (.lay (.alt ds)) l k).2 ++ ts) us' jvs' nilS ∧ us'.length ≤ us.length + 2) ∧ Below B w w' := by
  obtain ⟨n, hd⟩ := hd
  cases n with
  | zero => exact hd.elim
  | succ n =>
  obtain ⟨a, cap, rfl, h1, h2, h3⟩ := hd
  have hv : NdRw (OffT p iv tv (nilS :: jvs)) w ds a cap := ⟨h1, h2, fun h0 => by
    obtain ⟨b, o, e1, e2, e3, e4⟩ := h3 h0
    exact ⟨b, o, e1, e2, e3, fun i hi => by
      obtain ⟨u, e5, e6⟩ := e4 i hi
      exact ⟨u, e5, n, e6⟩⟩⟩
  have hne : ds ≠ [] := by
    rw [cok, Bool.and_eq_true, decide_eq_true_eq] at hok
    intro e
    rw [e] at hok
    exact absurd hok.1 (by decide)
  have hAa := ((Below.refl w.heap.size w).alloc (Nat.le_refl _) (.cells #[ptr p] 98)).alloc (by simp) (.cells #[.slice a ds.length cap] 72)
  have hb0 := ((Boxed.new w 98 (ptr p)).alloc (.cells #[.slice a ds.length cap] 72)).cell
  have hb1 := Blk.new (w.alloc (.cells #[ptr p] 98)) #[.slice a ds.length cap] 72 (w.heap.size + 1) (by simp)
  have hsz : ((w.alloc (.cells #[ptr p] 98)).alloc (.cells #[.slice a ds.length cap] 72)).heap.size = w.heap.size + 2 := by simp
  generalize hW1 : (w.alloc (.cells #[ptr p] 98)).alloc (.cells #[.slice a ds.length cap] 72) = W1 at *
  have hS1 := h.below hAa
  have hlow1 := (CStep.of_below (p := p) (iv := iv) (tv := tv) hAa).low h.bld
  have x0 : W1.cell? ⟨w.heap.size + 1, 0, none⟩ = some (.slice a ds.length cap) := (hb1.cell 0).trans rfl
  have hv1 := hv.below hAa
  have hL := branches_any ds [] a cap W1 hS1 (World.ownsRow_nil _ _ _ _) hv1 hne hus (by omega)
  have Hlow1 := Lib.hid hlow1
  clear h hAa hb1 hS1 hlow1 hok hv hv1 h1 h2 h3 hne
  go_enter Try.func47, Try.ntmps47
  go_wp2_with (go_at_call 51; refine hL.mono ?_; rintro e w3 ⟨rfl, hend, hlow, _⟩)
  go_end0
  exact ⟨rfl, hend, Hlow1.out.trans hlow⟩
set_option linter.unusedVariables false in
set_option linter.unusedSimpArgs false in
set_option maxRecDepth 100000 in
set_option maxHeartbeats 4000000 in
theorem node_rep {B p : Nat} {l : List Inn} {g : Int} {k : Nat} {bk : Bool} {iv tv : Value} {ts : List CTk} {us jvs : List Value} (d : Nd) (mn mx : Int) (v : Value) (w : World) (h : Sta B p w l g k bk iv tv ts us jvs nilS) (hd : NdX (OffT p iv tv (nilS :: jvs)) w (.rep d mn mx) v) (hok : cok (.rep d mn mx) = true) (hus : us.length ≤ 4000000) (hl : l.length ≤ 3000) (hk : k ≤ l.length) :
    Calls Try.prog 47 #[ptr p, v] w fun e w' => e = .returned (.tuple #[]) ∧ (∃ iv' tv' us' jvs', Sta B p w' (stp (.lay (.rep d mn mx)) l k).1.1 g (stp (.lay (.rep d mn mx)) l k).1.2 bk iv' tv' ((stp (.lay (.rep d mn mx)) l k).2 ++ ts) us' jvs' nilS ∧ us'.length ≤ us.length + 2) ∧ Below B w w' := by
  obtain ⟨n, hd⟩ := hd
  cases n with
  | zero => exact hd.elim
  | succ n =>
  obtain ⟨u, rfl, hu⟩ := hd
  have hu : NdX (OffT p iv tv (nilS :: jvs)) w d u := ⟨n, hu⟩
  rw [cok, Bool.and_eq_true, Bool.and_eq_true] at hok
  obtain ⟨T, q, rfl⟩ : ∃ T q, u = .iface T q := by
    rcases hu.elim fun _ h => nd_shape h with h | rfl
    · exact h
    · obtain ⟨n, hn⟩ := hu
      exfalso
      cases n with
      | zero => exact hn
      | succ n =>
        cases d with
        | empty => exact absurd hok.2.1 (by decide)
        | one s => cases hn
        | cat l => obtain ⟨_, _, h, _⟩ := hn; cases h
        | alt l => obtain ⟨_, _, h, _⟩ := hn; cases h
        | rep d a b => obtain ⟨_, h, _⟩ := hn; cases h
        | group a d => obtain ⟨_, h, _⟩ := hn; cases h
        | back a => cases hn
        | start => cases hn
        | fin => cases hn
  have hAa := ((Below.refl w.heap.size w).alloc (Nat.le_refl _) (.cells #[ptr p] 98)).alloc (by simp) (.cells #[.iface T q, .int .i64 mn, .int .i64 mx] 57)
  have hb0 := ((Boxed.new w 98 (ptr p)).alloc (.cells #[.iface T q, .int .i64 mn, .int .i64 mx] 57)).cell
  have hb1 := Blk.new (w.alloc (.cells #[ptr p] 98)) #[.iface T q, .int .i64 mn, .int .i64 mx] 57 (w.heap.size + 1) (by simp)
  have hsz : ((w.alloc (.cells #[ptr p] 98)).alloc (.cells #[.iface T q, .int .i64 mn, .int .i64 mx] 57)).heap.size = w.heap.size + 2 := by simp
  generalize hW1 : (w.alloc (.cells #[ptr p] 98)).alloc (.cells #[.iface T q, .int .i64 mn, .int .i64 mx] 57) = W1 at *
  have hS1 := h.below hAa
  have hlow1 := (CStep.of_below (p := p) (iv := iv) (tv := tv) hAa).low h.bld
  have x0 : W1.cell? ⟨w.heap.size + 1, 0, none⟩ = some (.iface T q) := (hb1.cell 0).trans rfl
  have x1 : W1.cell? ⟨w.heap.size + 1, 1, none⟩ = some (.int .i64 mn) := (hb1.cell 1).trans rfl
  have x2 : W1.cell? ⟨w.heap.size + 1, 2, none⟩ = some (.int .i64 mx) := (hb1.cell 2).trans rfl
  have hu1 := hu.below hAa
  by_cases h0 : mx = 0
  · have hm0 : (mx != 0) = false := by simp [h0]
    have HF := Lib.hid (And.intro hS1 hlow1)
    rw [stp, if_pos h0]
    clear h hAa hb1 hS1 hlow1 hok hu hu1 h0
    go_enter Try.func47, Try.ntmps47
    go_wp2_with fail
    go_end0
    exact ⟨rfl, ⟨_, _, _, _, HF.out.1, by omega⟩, HF.out.2⟩
  · have hm0 : (mx != 0) = true := by simp [h0]
    have hL := repeat_any d T q mn mx W1 hS1 hu1 hus hl hk h0
    have Hlow1 := Lib.hid hlow1
    clear h hAa hb1 hS1 hlow1 hok hu hu1 h0
    go_enter Try.func47, Try.ntmps47
    go_wp2_with (go_at_call 52; refine hL.mono ?_; rintro e w3 ⟨rfl, hend, hlow⟩)
    go_end0
    exact ⟨rfl, hend, Hlow1.out.trans hlow⟩
set_option linter.unusedVariables false in
set_option linter.unusedSimpArgs false in
set_option maxRecDepth 100000 in
set_option maxHeartbeats 4000000 in
theorem node_group {B p : Nat} {l : List Inn} {g : Int} {k : Nat} {bk : Bool} {iv tv : Value} {ts : List CTk} {us jvs : List Value} (m : Int) (d : Nd) (v : Value) (w : World) (h : Sta B p w l g k bk iv tv ts us jvs nilS) (hd : NdX (OffT p iv tv (nilS :: jvs)) w (.group m d) v) (hok : cok (.group m d) = true) (hus : us.length ≤ 4000000) (hl : l.length ≤ 3000) (hk : k ≤ l.length) :
    Calls Try.prog 47 #[ptr p, v] w fun e w' => e = .returned (.tuple #[]) ∧ (∃ iv' tv' us' jvs', Sta B p w' (stp (.lay (.group m d)) l k).1.1 g (stp (.lay (.group m d)) l k).1.2 bk iv' tv' ((stp (.lay (.group m d)) l k).2 ++ ts) us' jvs' nilS ∧ us'.length ≤ us.length + 2) ∧ Below B w w' := by
  obtain ⟨n, hd⟩ := hd
  cases n with
  | zero => exact hd.elim
  | succ n =>
  obtain ⟨u, rfl, hu⟩ := hd
  have hu : NdX (OffT p iv tv (nilS :: jvs)) w d u := ⟨n, hu⟩
  have hsh : (∃ T q, u = .iface T q) ∨ u = .nilIface := hu.elim fun _ h => nd_shape h
  simp only [cok, Bool.and_eq_true, decide_eq_true_eq] at hok
  have hm1 := hok.1.1
  have hm2 := hok.1.2
  have hAa := ((Below.refl w.heap.size w).alloc (Nat.le_refl _) (.cells #[ptr p] 98)).alloc (by simp) (.cells #[.int .i64 m, u] 74)
  have hb0 := ((Boxed.new w 98 (ptr p)).alloc (.cells #[.int .i64 m, u] 74)).cell
  have hb1 := Blk.new (w.alloc (.cells #[ptr p] 98)) #[.int .i64 m, u] 74 (w.heap.size + 1) (by simp)
  have hsz : ((w.alloc (.cells #[ptr p] 98)).alloc (.cells #[.int .i64 m, u] 74)).heap.size = w.heap.size + 2 := by simp
  generalize hW1 : (w.alloc (.cells #[ptr p] 98)).alloc (.cells #[.int .i64 m, u] 74) = W1 at *
  have hS1 := h.below hAa
  have hlow1 := (CStep.of_below (p := p) (iv := iv) (tv := tv) hAa).low h.bld
  have x0 : W1.cell? ⟨w.heap.size + 1, 0, none⟩ = some (.int .i64 m) := (hb1.cell 0).trans rfl
  have x1 : W1.cell? ⟨w.heap.size + 1, 1, none⟩ = some (u) := (hb1.cell 1).trans rfl
  have hu1 := hu.below hAa
  have hbo0 := h.offNew (y := w.heap.size) (Nat.le_refl _)
  have hbo1 := h.offNew (y := w.heap.size + 1) (by omega)
  have Wm : IntKind.i64.wrap (2 * m) = 2 * m := IntWalk.i64_in _ (by omega)
  have hL := lay_ins 3 (2 * m) 0 W1 hS1.bld (by omega)
  have HS1 := Lib.hid hS1
  have Hlow1 := Lib.hid hlow1
  have Hu1 := Lib.hid hu1
  have Hbo0 := Lib.hid hbo0
  have Hbo1 := Lib.hid hbo1
  have HSZ := Lib.hid hsz
  have hmf : ∀ (fn : Fn) (first cap : Array Value) (w : World), (Instr.makeFunc fn first cap).run Try.prog w = .ok (.func fn first cap) w := fun _ _ _ _ => rfl
  have HW1 := Lib.hid hW1
  rw [← hW1] at hL
  clear h hAa hb1 hS1 hlow1 hok hu hu1 hbo0 hbo1 hW1
  rcases hsh with ⟨T, q, rfl⟩ | rfl
  · go_enter Try.func47, Try.ntmps47
    go_upto_region 18 with (go_at_call 22; refine hL.mono ?_; rintro e w3 ⟨rfl, iv3, hB3, hC3, _⟩)
    rw [HW1.out] at hC3
    have hsz := HSZ.out
    have hbw0 : w.heap.size < W1.heap.size := by omega
    have hbw1 : w.heap.size + 1 < W1.heap.size := by omega
    have hF := OffT.step (jvs := nilS :: jvs) (jvs' := nilS :: jvs) hC3 fun jv hm => .inr hm
    have hS3 := HS1.out.step hC3 hB3
    have i0 := ((hF _ Hbo0.out hbw0).2 0).trans hb0
    have i1 := ((hF _ Hbo1.out hbw1).2 1).trans x1
    have i2 := ((hF _ Hbo1.out hbw1).2 0).trans x0
    have ob0 := (hF _ Hbo0.out hbw0).1
    have ob1 := (hF _ Hbo1.out hbw1).1
    have hu3 := Hu1.out.keep hC3.size hF
    have hlt := hC3.size
    have ht2 : TkAt B p (OffT p iv3 tv (nilS :: jvs)) w3 (.save m) (Value.func (.func 53) #[] #[ptr w.heap.size, ptr (w.heap.size + 1)]) nilS :=
      ⟨rfl, _, _, rfl, ⟨ob0, by omega, i0⟩, ⟨ob1, by omega, i2⟩⟩
    have hlow3 := Hlow1.out.trans (hC3.low HS1.out.bld)
    have hoff0 := ob0.1
    have hoff1 := ob1.1
    have Hh := Lib.hid hS3
    have Hnd := Lib.hid hu3
    have Ht2 := Lib.hid ht2
    have Hlow := Lib.hid hlow3
    clear hS3 hu3 ht2 hlow3 ob0 ob1 hF hC3 hB3 hL hsz hlt hbw0 hbw1 hb0 x0 x1 i2 HW1 Wm HSZ
    have hmix : Try.prog.follows .mixedOrders = true := by kernel_rfl
    have hN := next_ahead Hh.out Hnd.out Ht2.out ⟨_, _, _, rfl⟩ hus
    have hS0 : ∀ W' : World, W' = w3 ∨ Below w3.heap.size w3 W' → (fun W' : World => W'.cell? ⟨w.heap.size, 0, none⟩ = some (ptr p) ∧ W'.cell? ⟨w.heap.size + 1, 1, none⟩ = some (.iface T q) ∧ True) W' := fun W' hW => by
      rcases hW with rfl | hW
      · exact ⟨i0, i1, trivial⟩
      · exact ⟨(hW.cell (World.block_lt_of_cell? _ _ i0)).trans i0, (hW.cell (World.block_lt_of_cell? _ _ i1)).trans i1, trivial⟩
    refine wp_region_held_drew (S := fun W' : World => W'.cell? ⟨w.heap.size, 0, none⟩ = some (ptr p) ∧ W'.cell? ⟨w.heap.size + 1, 1, none⟩ = some (.iface T q) ∧ True) hmix (hS0 _ (.inr (Below.drew (Below.refl _ _)))) (fun hHeld => ?_)
    refine wpAnyH_take (i := 0) (v := ?_) rfl (by kernel_rfl) (by kernel_rfl) (by kernel_rfl) (fun _ _ _ h => h) (Or.inl ⟨by rfl, ?_⟩) (by assumption) ?_
    rotate_left
    · intro W' hSw; obtain ⟨c0, c1, _⟩ := hSw; go_simp; try with_reducible rfl
    try simp only [Act.put, List.setIfInBounds_toArray, List.set_cons_zero, List.set_cons_succ]
    refine wpAnyH_take (i := 1) (v := ?_) rfl (by kernel_rfl) (by kernel_rfl) (by kernel_rfl) (fun _ _ _ h => h) (Or.inl ⟨by rfl, ?_⟩) (by assumption) ?_
    rotate_left
    · intro W' hSw; obtain ⟨c0, c1, _⟩ := hSw; go_simp; try with_reducible rfl
    try simp only [Act.put, List.setIfInBounds_toArray, List.set_cons_zero, List.set_cons_succ]
    refine wpAnyH_take (i := 2) (v := ?_) rfl (by kernel_rfl) (by kernel_rfl) (by kernel_rfl) (fun _ _ _ h => h) (Or.inl ⟨by rfl, ?_⟩) (by assumption) ?_
    rotate_left
    · intro W' hSw; obtain ⟨c0, c1, _⟩ := hSw; go_simp; try with_reducible rfl
    try simp only [Act.put, List.setIfInBounds_toArray, List.set_cons_zero, List.set_cons_succ]
    refine wpAnyH_take (i := 3) (v := ?_) rfl (by kernel_rfl) (by kernel_rfl) (by kernel_rfl) (fun _ _ _ h => h) (Or.inl ⟨by rfl, ?_⟩) (by assumption) ?_
    rotate_left
    · intro W' hSw; obtain ⟨c0, c1, _⟩ := hSw; go_simp; try with_reducible rfl
    try simp only [Act.put, List.setIfInBounds_toArray, List.set_cons_zero, List.set_cons_succ]
    refine wpAnyH_take (i := 5) (v := ?_) rfl (by kernel_rfl) (by kernel_rfl) (by kernel_rfl) (fun _ _ _ h => h) (Or.inl ⟨by rfl, ?_⟩) (by assumption) ?_
    rotate_left
    · intro W' hSw; obtain ⟨c0, c1, _⟩ := hSw; go_simp; try with_reducible rfl
    try simp only [Act.put, List.setIfInBounds_toArray, List.set_cons_zero, List.set_cons_succ]
    refine wpAnyH_ready (rs := [4]) (by kernel_rfl) (by simp) ?_
    refine AllReadyH.cons rfl (fun K hK => ?_) AllReadyH.nil
    go_simp
    go_wp2_with (go_at_call 35; refine (laying_any _ _ _ (.inl ⟨_, _, rfl⟩)).mono ?_; rintro e w4 ⟨rfl, rfl⟩)
    refine hK.out _ _ (hS0 _ (.inr (Below.alloc (Below.alloc (Below.drew (Below.refl _ _)) (Nat.le_refl _) _) (by simp) _))) (fun hHeld2 => ?_)
    clear hK K hHeld
    try simp only [Act.put, List.setIfInBounds_toArray, List.set_cons_zero, List.set_cons_succ]
    refine wpAnyH_ready (rs := [6]) (by kernel_rfl) (by simp) ?_
    refine AllReadyH.cons rfl (fun K hK => ?_) AllReadyH.nil
    go_simp
    refine hK.out _ _ (hS0 _ (.inr (Below.alloc (Below.alloc (Below.alloc (Below.drew (Below.refl _ _)) (Nat.le_refl _) _) (by simp) _) (by simp; omega) _))) (fun hHeld3 => ?_)
    clear hK K hHeld2
    try simp only [Act.put, List.setIfInBounds_toArray, List.set_cons_zero, List.set_cons_succ]
    refine wpAnyH_ready (rs := [7]) (by kernel_rfl) (by simp) ?_
    refine AllReadyH.cons rfl (fun K hK => ?_) AllReadyH.nil
    go_simp
    go_wp2_with (go_at_call 34; refine hN.mono ?_; rintro e w6 ⟨rfl, hend, hlow, hcells⟩)
    refine hK.out _ _ ⟨(hcells _ _ (World.block_lt_of_cell? _ _ i0) hoff0).trans i0, (hcells _ _ (World.block_lt_of_cell? _ _ i1) hoff1).trans i1, trivial⟩ (fun hHeld4 => ?_)
    clear hK K hHeld3 hHeld4
    refine wpAnyH_done (by kernel_rfl) ?_ _
    go_wp2_with fail
    go_end0
    obtain ⟨tv7, us7, jvs7, h7, h8⟩ := hend
    exact ⟨rfl, ⟨_, _, _, _, h7, by omega⟩, Hlow.out.trans hlow⟩
  · go_enter Try.func47, Try.ntmps47
    go_upto_region 18 with (go_at_call 22; refine hL.mono ?_; rintro e w3 ⟨rfl, iv3, hB3, hC3, _⟩)
    rw [HW1.out] at hC3
    have hsz := HSZ.out
    have hbw0 : w.heap.size < W1.heap.size := by omega
    have hbw1 : w.heap.size + 1 < W1.heap.size := by omega
    have hF := OffT.step (jvs := nilS :: jvs) (jvs' := nilS :: jvs) hC3 fun jv hm => .inr hm
    have hS3 := HS1.out.step hC3 hB3
    have i0 := ((hF _ Hbo0.out hbw0).2 0).trans hb0
    have i1 := ((hF _ Hbo1.out hbw1).2 1).trans x1
    have i2 := ((hF _ Hbo1.out hbw1).2 0).trans x0
    have ob0 := (hF _ Hbo0.out hbw0).1
    have ob1 := (hF _ Hbo1.out hbw1).1
    have hu3 := Hu1.out.keep hC3.size hF
    have hlt := hC3.size
    have ht2 : TkAt B p (OffT p iv3 tv (nilS :: jvs)) w3 (.save m) (Value.func (.func 53) #[] #[ptr w.heap.size, ptr (w.heap.size + 1)]) nilS :=
      ⟨rfl, _, _, rfl, ⟨ob0, by omega, i0⟩, ⟨ob1, by omega, i2⟩⟩
    have hlow3 := Hlow1.out.trans (hC3.low HS1.out.bld)
    have hoff0 := ob0.1
    have hoff1 := ob1.1
    have Hh := Lib.hid hS3
    have Hnd := Lib.hid hu3
    have Ht2 := Lib.hid ht2
    have Hlow := Lib.hid hlow3
    clear hS3 hu3 ht2 hlow3 ob0 ob1 hF hC3 hB3 hL hsz hlt hbw0 hbw1 hb0 x0 x1 i2 HW1 Wm HSZ
    have hmix : Try.prog.follows .mixedOrders = true := by kernel_rfl
    have hN := next_ahead Hh.out Hnd.out Ht2.out ⟨_, _, _, rfl⟩ hus
    have hS0 : ∀ W' : World, W' = w3 ∨ Below w3.heap.size w3 W' → (fun W' : World => W'.cell? ⟨w.heap.size, 0, none⟩ = some (ptr p) ∧ W'.cell? ⟨w.heap.size + 1, 1, none⟩ = some (.nilIface) ∧ True) W' := fun W' hW => by
      rcases hW with rfl | hW
      · exact ⟨i0, i1, trivial⟩
      · exact ⟨(hW.cell (World.block_lt_of_cell? _ _ i0)).trans i0, (hW.cell (World.block_lt_of_cell? _ _ i1)).trans i1, trivial⟩
    refine wp_region_held_drew (S := fun W' : World => W'.cell? ⟨w.heap.size, 0, none⟩ = some (ptr p) ∧ W'.cell? ⟨w.heap.size + 1, 1, none⟩ = some (.nilIface) ∧ True) hmix (hS0 _ (.inr (Below.drew (Below.refl _ _)))) (fun hHeld => ?_)
    refine wpAnyH_take (i := 0) (v := ?_) rfl (by kernel_rfl) (by kernel_rfl) (by kernel_rfl) (fun _ _ _ h => h) (Or.inl ⟨by rfl, ?_⟩) (by assumption) ?_
    rotate_left
    · intro W' hSw; obtain ⟨c0, c1, _⟩ := hSw; go_simp; try with_reducible rfl
    try simp only [Act.put, List.setIfInBounds_toArray, List.set_cons_zero, List.set_cons_succ]
    refine wpAnyH_take (i := 1) (v := ?_) rfl (by kernel_rfl) (by kernel_rfl) (by kernel_rfl) (fun _ _ _ h => h) (Or.inl ⟨by rfl, ?_⟩) (by assumption) ?_
    rotate_left
    · intro W' hSw; obtain ⟨c0, c1, _⟩ := hSw; go_simp; try with_reducible rfl
    try simp only [Act.put, List.setIfInBounds_toArray, List.set_cons_zero, List.set_cons_succ]
    refine wpAnyH_take (i := 2) (v := ?_) rfl (by kernel_rfl) (by kernel_rfl) (by kernel_rfl) (fun _ _ _ h => h) (Or.inl ⟨by rfl, ?_⟩) (by assumption) ?_
    rotate_left
    · intro W' hSw; obtain ⟨c0, c1, _⟩ := hSw; go_simp; try with_reducible rfl
    try simp only [Act.put, List.setIfInBounds_toArray, List.set_cons_zero, List.set_cons_succ]
    refine wpAnyH_take (i := 3) (v := ?_) rfl (by kernel_rfl) (by kernel_rfl) (by kernel_rfl) (fun _ _ _ h => h) (Or.inl ⟨by rfl, ?_⟩) (by assumption) ?_
    rotate_left
    · intro W' hSw; obtain ⟨c0, c1, _⟩ := hSw; go_simp; try with_reducible rfl
    try simp only [Act.put, List.setIfInBounds_toArray, List.set_cons_zero, List.set_cons_succ]
    refine wpAnyH_take (i := 5) (v := ?_) rfl (by kernel_rfl) (by kernel_rfl) (by kernel_rfl) (fun _ _ _ h => h) (Or.inl ⟨by rfl, ?_⟩) (by assumption) ?_
    rotate_left
    · intro W' hSw; obtain ⟨c0, c1, _⟩ := hSw; go_simp; try with_reducible rfl
    try simp only [Act.put, List.setIfInBounds_toArray, List.set_cons_zero, List.set_cons_succ]
    refine wpAnyH_ready (rs := [4]) (by kernel_rfl) (by simp) ?_
    refine AllReadyH.cons rfl (fun K hK => ?_) AllReadyH.nil
    go_simp
    go_wp2_with (go_at_call 35; refine (laying_any _ _ _ (.inr rfl)).mono ?_; rintro e w4 ⟨rfl, rfl⟩)
    refine hK.out _ _ (hS0 _ (.inr (Below.alloc (Below.alloc (Below.drew (Below.refl _ _)) (Nat.le_refl _) _) (by simp) _))) (fun hHeld2 => ?_)
    clear hK K hHeld
    try simp only [Act.put, List.setIfInBounds_toArray, List.set_cons_zero, List.set_cons_succ]
    refine wpAnyH_ready (rs := [6]) (by kernel_rfl) (by simp) ?_
    refine AllReadyH.cons rfl (fun K hK => ?_) AllReadyH.nil
    go_simp
    refine hK.out _ _ (hS0 _ (.inr (Below.alloc (Below.alloc (Below.alloc (Below.drew (Below.refl _ _)) (Nat.le_refl _) _) (by simp) _) (by simp; omega) _))) (fun hHeld3 => ?_)
    clear hK K hHeld2
    try simp only [Act.put, List.setIfInBounds_toArray, List.set_cons_zero, List.set_cons_succ]
    refine wpAnyH_ready (rs := [7]) (by kernel_rfl) (by simp) ?_
    refine AllReadyH.cons rfl (fun K hK => ?_) AllReadyH.nil
    go_simp
    go_wp2_with (go_at_call 34; refine hN.mono ?_; rintro e w6 ⟨rfl, hend, hlow, hcells⟩)
    refine hK.out _ _ ⟨(hcells _ _ (World.block_lt_of_cell? _ _ i0) hoff0).trans i0, (hcells _ _ (World.block_lt_of_cell? _ _ i1) hoff1).trans i1, trivial⟩ (fun hHeld4 => ?_)
    clear hK K hHeld3 hHeld4
    refine wpAnyH_done (by kernel_rfl) ?_ _
    go_wp2_with fail
    go_end0
    obtain ⟨tv7, us7, jvs7, h7, h8⟩ := hend
    exact ⟨rfl, ⟨_, _, _, _, h7, by omega⟩, Hlow.out.trans hlow⟩
theorem node_any {B p : Nat} {l : List Inn} {g : Int} {k : Nat} {bk : Bool} {iv tv : Value} {ts : List CTk} {us jvs : List Value} (d : Nd) (v : Value) (w : World) (h : Sta B p w l g k bk iv tv ts us jvs nilS) (hd : NdX (OffT p iv tv (nilS :: jvs)) w d v) (hok : cok d = true) (hus : us.length ≤ 4000000) (hl : l.length ≤ 3000) (hk : k ≤ l.length) :
    Calls Try.prog 47 #[ptr p, v] w fun e w' => e = .returned (.tuple #[]) ∧ (∃ iv' tv' us' jvs', Sta B p w' (stp (.lay d) l k).1.1 g (stp (.lay d) l k).1.2 bk iv' tv' ((stp (.lay d) l k).2 ++ ts) us' jvs' nilS ∧ us'.length ≤ us.length + 2) ∧ Below B w w' := by
  cases d with
  | empty => exact node_empty v w h hd hok hus hl hk
  | one s => exact node_one s v w h hd hok hus hl hk
  | cat ds => exact node_cat ds v w h hd hok hus hl hk
  | alt ds => exact node_alt ds v w h hd hok hus hl hk
  | rep d mn mx => exact node_rep d mn mx v w h hd hok hus hl hk
  | group m d => exact node_group m d v w h hd hok hus hl hk
  | back m => exact node_back m v w h hd hok hus hl hk
  | start => exact node_start v w h hd hok hus hl hk
  | fin => exact node_fin v w h hd hok hus hl hk
end Go.Proofs.Ytihfenkphhnbcaa
namespace Go.Proofs.Ytihfenkphhnbcaa
open Go Go.RowKit
abbrev Did (B p : Nat) (g : Int) (bk : Bool) (w : World) (l : List Inn) (k : Nat) (t : CTk) (ts : List CTk) (us : List Value) (e : Ending) (w' : World) : Prop :=
  e = .returned (.tuple #[]) ∧ (∃ iv' tv' us' jvs', Sta B p w' (stp t l k).1.1 g (stp t l k).1.2 bk iv' tv' ((stp t l k).2 ++ ts) us' jvs' nilS ∧ us'.length ≤ us.length + 2) ∧ Below B w w'
set_option linter.unusedVariables false in
set_option linter.unusedSimpArgs false in
set_option maxRecDepth 100000 in
set_option maxHeartbeats 4000000 in
theorem task_lay {B p : Nat} {l : List Inn} {g : Int} {k : Nat} {bk : Bool} {iv tv v jv : Value} {ts : List CTk} {us jvs : List Value} (d : Nd) (w : World) (h : Sta B p w l g k bk iv tv ts us jvs jv) (ht : TkAt B p (OffT p iv tv (jv :: jvs)) w (.lay d) v jv) (hf : Fit l.length k (.lay d)) (hpos : 0 < l.length) (hbd : Bd l) (hus : us.length ≤ 4000000) (hl : l.length ≤ 3000) (hk : k ≤ l.length) :
    ∃ x y, v = .func (.func 46) #[] #[ptr x, ptr y] ∧ Calls Try.prog 46 #[ptr x, ptr y] w (Did B p g bk w l k (.lay d) ts us) := by
  obtain ⟨rfl, x, y, u, rfl, bx, by', hd⟩ := ht
  refine ⟨x, y, rfl, ?_⟩
  have hL := node_any d u w h hd hf hus hl hk
  have c0 := bx.2.2
  have c1 := by'.2.2
  have hsh : (∃ T q, u = .iface T q) ∨ u = .nilIface := hd.elim fun _ h => nd_shape h
  clear h hd bx by' hf
  rcases hsh with ⟨T, q, rfl⟩ | rfl
  all_goals
    go_enter Try.func46, Try.ntmps46
    go_wp2_with (go_at_call 47; refine hL.mono ?_; rintro e w3 ⟨rfl, hend, hlow⟩)
    go_end0
    exact ⟨rfl, hend, hlow⟩
set_option linter.unusedVariables false in
set_option linter.unusedSimpArgs false in
set_option maxRecDepth 100000 in
set_option maxHeartbeats 4000000 in
theorem task_save {B p : Nat} {l : List Inn} {g : Int} {k : Nat} {bk : Bool} {iv tv v jv : Value} {ts : List CTk} {us jvs : List Value} (m : Int) (w : World) (h : Sta B p w l g k bk iv tv ts us jvs jv) (ht : TkAt B p (OffT p iv tv (jv :: jvs)) w (.save m) v jv) (hf : Fit l.length k (.save m)) (hpos : 0 < l.length) (hbd : Bd l) (hus : us.length ≤ 4000000) (hl : l.length ≤ 3000) (hk : k ≤ l.length) :
    ∃ x y, v = .func (.func 53) #[] #[ptr x, ptr y] ∧ Calls Try.prog 53 #[ptr x, ptr y] w (Did B p g bk w l k (.save m) ts us) := by
  obtain ⟨rfl, x, y, rfl, bx, by'⟩ := ht
  refine ⟨x, y, rfl, ?_⟩
  obtain ⟨hm1, hm2⟩ := hf
  have hL := lay_ins 3 (2 * m + 1) 0 w h.bld (by omega)
  have W1 : IntKind.i64.wrap (2 * m) = 2 * m := IntWalk.i64_in _ (by omega)
  have W2 : IntKind.i64.wrap (2 * m + 1) = 2 * m + 1 := IntWalk.i64_in _ (by omega)
  have c0 := bx.2.2
  have c1 := by'.2.2
  have Hh := Lib.hid h
  clear h bx by'
  go_enter Try.func53, Try.ntmps53
  go_wp2_with (go_at_call 22; refine hL.mono ?_; rintro e w3 ⟨rfl, iv3, hB3, hC3, _⟩)
  go_end0
  exact ⟨rfl, ⟨_, _, _, _, Hh.out.step hC3 hB3, by omega⟩, hC3.low Hh.out.bld⟩
theorem NdRw.behind {F : Nat → Prop} {w : World} {d : Nd} {ds : List Nd} {b o cap : Nat} (h : NdRw F w (d :: ds) (some ⟨b, o, none⟩) cap) : NdRw F w ds (some ⟨b, o + 1, none⟩) (cap - 1) := by
  obtain ⟨h1, h2, h3⟩ := h
  obtain ⟨b2, o2, e1, e2, e3, e4⟩ := h3 (by simp)
  injection e1 with e1
  injection e1 with e1 e5
  subst e1; subst e5
  refine ⟨by rw [List.length_cons] at h1; omega, by omega, fun h0 => ⟨b, o + 1, rfl, e2, e3, fun i hi => ?_⟩⟩
  obtain ⟨u, h4, h5⟩ := e4 (i + 1) (by rw [List.length_cons]; omega)
  refine ⟨u, ?_, h5⟩
  rw [show o + 1 + i = o + (i + 1) by omega]
  exact h4
theorem NdRw.some {F : Nat → Prop} {w : World} {d : Nd} {ds : List Nd} {a : Option Addr} {cap : Nat} (h : NdRw F w (d :: ds) a cap) : ∃ b o, a = some ⟨b, o, none⟩ := by
  obtain ⟨b, o, e, _⟩ := h.2.2 (by simp)
  exact ⟨b, o, e⟩
theorem NdRw.any {F : Nat → Prop} {w : World} {ds : List Nd} {a : Option Addr} {cap : Nat} (a' : Option Addr) (h : NdRw F w ds a cap) (h0 : ds = []) : NdRw F w ds a' cap := by
  subst h0
  exact ⟨h.1, h.2.1, fun h => absurd h (by simp)⟩
set_option linter.unusedVariables false in
set_option linter.unusedSimpArgs false in
set_option maxRecDepth 100000 in
set_option maxHeartbeats 4000000 in
theorem task_turn {B p : Nat} {l : List Inn} {g : Int} {k : Nat} {bk : Bool} {iv tv v jv : Value} {ts : List CTk} {us jvs : List Value} (ds : List Nd) (w : World) (h : Sta B p w l g k bk iv tv ts us jvs jv) (ht : TkAt B p (OffT p iv tv (jv :: jvs)) w (.turn ds) v jv) (hf : Fit l.length k (.turn ds)) (hpos : 0 < l.length) (hbd : Bd l) (hus : us.length ≤ 4000000) (hl : l.length ≤ 3000) (hk : k ≤ l.length) :
    ∃ x y, v = .func (.func 54) #[] #[ptr x, ptr y] ∧ Calls Try.prog 54 #[ptr x, ptr y] w (Did B p g bk w l k (.turn ds) ts us) := by
  obtain ⟨rfl, x, y, a, c, d, rfl, bx, by', hv⟩ := ht
  refine ⟨x, y, rfl, ?_⟩
  obtain ⟨b, o, rfl⟩ := hv.some
  have c0 := bx.2.2
  have c1 := by'.2.2
  have hcap := hv.1
  have hmax := hv.2.1
  have hvt := hv.behind
  obtain ⟨n, hn⟩ : ∃ n, ds.length = n := ⟨_, rfl⟩
  rw [List.length_cons, hn] at c1 hcap
  have hmix : Try.prog.follows .mixedOrders = true := by kernel_rfl
  have hle : (1 : Int) ≤ (n : Int) + 1 := by omega
  have hdr : Below w.heap.size w w.drew := Below.drew (Below.refl _ _)
  have hBw := Nat.le_trans h.bld.bp (Nat.le_of_lt h.bld.blk.lt)
  by_cases hc : c = 1
  · subst hc
    have hn0 : n = 0 := by omega
    subst hn0
    have hL := inturn_any ds (some ⟨b, o, none⟩) 0 w.drew (h.below hdr) ((hvt.any (some ⟨b, o, none⟩) (List.length_eq_zero_iff.1 (by omega))).below hdr) hus
    rw [hn] at hL
    clear h bx by' hv hvt hf
    go_enter Try.func54, Try.ntmps54
    go_still_tail 3, (by kernel_rfl)
    change wpList _ _ _ _ _ w.drew
    go_wp2_with (go_at_call 50; go_loud (refine hL.mono ?_; rintro e w3 ⟨rfl, hend, hlow⟩))
    go_end0
    exact ⟨rfl, hend, (hdr.mono hBw).trans hlow⟩
  · have hL := inturn_any ds (some ⟨b, o + 1, none⟩) (c - 1) w.drew (h.below hdr) (hvt.below hdr) hus
    rw [hn] at hL
    clear h bx by' hv hvt hf
    go_enter Try.func54, Try.ntmps54
    go_still_tail 3, (by kernel_rfl)
    change wpList _ _ _ _ _ w.drew
    go_wp2_with (go_at_call 50; go_loud (refine hL.mono ?_; rintro e w3 ⟨rfl, hend, hlow⟩))
    go_end0
    exact ⟨rfl, hend, (hdr.mono hBw).trans hlow⟩
set_option linter.unusedVariables false in
set_option linter.unusedSimpArgs false in
set_option maxRecDepth 100000 in
set_option maxHeartbeats 4000000 in
theorem task_rep {B p : Nat} {l : List Inn} {g : Int} {k : Nat} {bk : Bool} {iv tv v jv : Value} {ts : List CTk} {us jvs : List Value} (mn mx : Int) (P q : Nat) (w : World) (h : Sta B p w l g k bk iv tv ts us jvs jv) (ht : TkAt B p (OffT p iv tv (jv :: jvs)) w (.rep mn mx P q) v jv) (hf : Fit l.length k (.rep mn mx P q)) (hpos : 0 < l.length) (hbd : Bd l) (hus : us.length ≤ 4000000) (hl : l.length ≤ 3000) (hk : k ≤ l.length) :
    ∃ x y z r, v = .func (.func 58) #[] #[ptr x, ptr y, ptr z, ptr r] ∧ Calls Try.prog 58 #[ptr x, ptr y, ptr z, ptr r] w (Did B p g bk w l k (.rep mn mx P q) ts us) := by
  obtain ⟨rfl, x, y, z, r, T, u, rfl, bx, by', by1, by2, bz, br⟩ := ht
  refine ⟨x, y, z, r, rfl, ?_⟩
  obtain ⟨f1, f2, f3, f4, f5, f6⟩ := hf
  have c0 := bx.2.2
  have c1 := by'.2.2
  have c2 := by1.2.2
  have c3 := by2.2.2
  have c4 := bz.2.2
  have c5 := br.2.2
  have hcs := h.bld.cells
  have c6 := hcs.c0
  have c7 := hcs.c2
  have hdr : Below w.heap.size w w.drew := Below.drew (Below.refl _ _)
  have hBw := Nat.le_trans h.bld.bp (Nat.le_of_lt h.bld.blk.lt)
  obtain ⟨n, hn⟩ : ∃ n, l.length - P = n := ⟨_, rfl⟩
  obtain ⟨m, hm⟩ : ∃ m, k - q = m := ⟨_, rfl⟩
  have hL := endrep_any T u mn mx P n q m w.drew (h.bld.below hdr) ⟨hpos, by omega, f4, f5, by omega, hbd⟩ (by omega) (by omega) f1 f2 f6
  have W1 : IntKind.i64.wrap ((l.length : Int) - (P : Int)) = (n : Int) := by rw [IntWalk.i64_in _ (by omega)]; omega
  have W2 : IntKind.i64.wrap ((k : Int) - (q : Int)) = (m : Int) := by rw [IntWalk.i64_in _ (by omega)]; omega
  have Hh := Lib.hid h
  obtain ⟨ia, ic, hia⟩ := co_form h.bld.io
  rw [hia] at c6
  have hst : stp (.rep mn mx P q) l k = (repT mn mx P n q m l k, []) := by rw [stp, hn, hm]
  have Hst := Lib.hid hst
  clear h bx by' by1 by2 bz br hcs f1 f2 f3 f4 f5 f6 hn hm hst hia hbd hpos
  go_enter Try.func58, Try.ntmps58
  go_still_tail 20, (by kernel_rfl)
  change wpList _ _ _ _ _ w.drew
  go_wp2_with (go_at_call 59; go_loud (refine hL.mono ?_; rintro e w3 ⟨rfl, iv3, hB3, hC3⟩))
  go_end0
  refine ⟨rfl, ?_, (hdr.mono hBw).trans (hC3.low (Hh.out.bld.below hdr))⟩
  rw [Hst.out]
  exact ⟨_, _, _, _, (Hh.out.below hdr).step hC3 hB3, by omega⟩
end Go.Proofs.Ytihfenkphhnbcaa
