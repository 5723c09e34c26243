/- RdO: The program's Parse of basic regexes.
   RdP: The program's Parse of basic regexes: any text. -/
import Derived.Test.YtbbcjclkklmoaaaDoorRdMN
import Derived.Defers
import Derived.Recover
import Derived.Tactics2
namespace Go.Proofs.YtbbcjclkklmoaaaDoor
open Go Go.RowKit

set_option linter.unusedSimpArgs false in
set_option maxRecDepth 100000 in
set_option maxHeartbeats 400000 in
theorem bcatch_idle (a b c d : Addr) (w : World) :
    CallsD Tryd.prog 28 #[.pointer (some a), .pointer (some b), .pointer (some c), .pointer (some d)] .returning w fun e u' w' => e = .returned (.tuple #[]) ∧ u' = .returning ∧ w' = w := by
  have hnil : ∀ w : World, (binOp BinOp.eql 20 .nilIface .nilIface).run Tryd.prog w = .ok (.bool true) w := fun _ => by kernel_rfl
  refine callsD_of_wpS Tryd.func28 rfl fun c₀ cs hu => ?_
  apply wpS_seq
  apply wpS_region
  simp [wpOpsS, go_sem, recoverD, hu, Tryd.ntmps28, Exit.thenS]
  apply wpS_seq
  apply wpS_seq
  apply wpS_region
  simp [wpOpsS, go_sem, hnil, Exit.thenS]
  refine wpS_cond (t := true) (by simp [Act.eval, Array.replicate]) ?_
  simp only [if_true]
  refine wpS_of_wp (wp_ret ?_)
  cases c₀
  simp_all [bodyPostS, results, Tryd.results28, Exit.thenS]
/-- The four results, as they are when a fault was caught. -/
structure Caught (n0 n1 n2 n3 : Nat) (k e : Nat) (w w' : World) : Prop where
  b0 : Blk w' n0 #[.nilIface] 25
  b1 : Blk w' n1 #[.slice none 0 0] 26
  b2 : Blk w' n2 #[.int .i64 (k : Int)] 3
  b3 : Blk w' n3 #[.int .i64 (e : Int)] 27
  low : ∀ B, B ≤ n0 → B ≤ n1 → B ≤ n2 → B ≤ n3 → B ≤ w.heap.size → Below B w w'
set_option linter.unusedSimpArgs false in
set_option maxRecDepth 100000 in
set_option maxHeartbeats 400000 in
theorem bcatch_fault {n0 n1 n2 n3 : Nat} {x0 x1 x2 x3 : Value} (k er : Nat) (older : List PanicEntry) (w : World) (h0 : Blk w n0 #[x0] 25) (h1 : Blk w n1 #[x1] 26) (h2 : Blk w n2 #[x2] 3) (h3 : Blk w n3 #[x3] 27)
    (d01 : n0 ≠ n1) (d02 : n0 ≠ n2) (d03 : n0 ≠ n3) (d12 : n1 ≠ n2) (d13 : n1 ≠ n3) (d23 : n2 ≠ n3) :
    CallsD Tryd.prog 28 #[.pointer (some ⟨n0, 0, none⟩), .pointer (some ⟨n1, 0, none⟩), .pointer (some ⟨n2, 0, none⟩), .pointer (some ⟨n3, 0, none⟩)] (.panicking ({ v := .iface 70 (.agg #[.int .i64 (k : Int), .int .i64 (er : Int)]), recovered := false } :: older)) w fun e u' w' =>
      e = .returned (.tuple #[]) ∧ u' = .panicking ({ v := .iface 70 (.agg #[.int .i64 (k : Int), .int .i64 (er : Int)]), recovered := true } :: older) ∧ Caught n0 n1 n2 n3 k er w w' := by
  have hnn : ∀ w : World, (binOp BinOp.eql 20 (.iface 70 (.agg #[.int .i64 (k : Int), .int .i64 (er : Int)])) .nilIface).run Tryd.prog w = .ok (.bool false) w := fun _ => by kernel_rfl
  have hta : ∀ w : World, (Instr.typeAssert (.iface 70 (.agg #[.int .i64 (k : Int), .int .i64 (er : Int)])) 20 70 true).run Tryd.prog w = .ok (.tuple #[.agg #[.int .i64 (k : Int), .int .i64 (er : Int)], .bool true]) w := fun _ => by kernel_rfl
  refine callsD_of_wpS Tryd.func28 rfl fun c₀ cs hu => ?_
  apply wpS_seq
  apply wpS_region
  simp [wpOpsS, go_sem, recoverD, hu, Tryd.ntmps28, Exit.thenS]
  refine wpS_of_wp (Code.wp_mono (Q := fun e a w' => (e = .normal ∨ e = .ret) ∧ a.defers = [] ∧ Caught n0 n1 n2 n3 k er w w') ?_ ?_)
  · rintro e a w' ⟨he, hd, hc⟩
    rcases he with rfl | rfl
    · exact ⟨hd, _, rfl, .tuple #[], by simp [results, Tryd.results28, go_sem], rfl, rfl, hc⟩
    · exact ⟨hd, _, rfl, .tuple #[], by simp [results, Tryd.results28, go_sem], rfl, rfl, hc⟩
  · clear hu
    have c0 : w.cell? ⟨n0, 0, none⟩ = some x0 := (h0.cell 0).trans rfl
    have c1 : w.cell? ⟨n1, 0, none⟩ = some x1 := (h1.cell 0).trans rfl
    have c2 : w.cell? ⟨n2, 0, none⟩ = some x2 := (h2.cell 0).trans rfl
    have c3 : w.cell? ⟨n3, 0, none⟩ = some x3 := (h3.cell 0).trans rfl
    have z0 := h0.frozen 0
    have z1 := h1.frozen 0
    have z2 := h2.frozen 0
    have z3 := h3.frozen 0
    have l0 := h0.lt
    have l1 := h1.lt
    have l2 := h2.lt
    have l3 := h3.lt
    have HB0 := Lib.hid h0
    have HB1 := Lib.hid h1
    have HB2 := Lib.hid h2
    have HB3 := Lib.hid h3
    clear h0 h1 h2 h3
    simp only [Array.replicate_succ, Array.replicate_zero, List.push_toArray, List.append_toArray, List.nil_append, List.cons_append, List.setIfInBounds_toArray, List.set_cons_succ, List.set_cons_zero]
    go_wp2_with fail
    have d10 := d01.symm
    have d20 := d02.symm
    have d30 := d03.symm
    have d21 := d12.symm
    have d31 := d13.symm
    have d32 := d23.symm
    go_region
    all_goals go_wp2_with fail
    all_goals
      refine ⟨?_, ?_, ?_, ?_, fun B g0 g1 g2 g3 hw => ?_⟩
      · exact (((((HB0.out.set 0 _).set_other ⟨n1, 0, none⟩ d10 _).set_other ⟨n2, 0, none⟩ d20 _).set_other ⟨n3, 0, none⟩ d30 _).alloc _).drew
      · exact (((((HB1.out.set_other ⟨n0, 0, none⟩ d01 _).set 0 _).set_other ⟨n2, 0, none⟩ d21 _).set_other ⟨n3, 0, none⟩ d31 _).alloc _).drew
      · exact (((((HB2.out.set_other ⟨n0, 0, none⟩ d02 _).set_other ⟨n1, 0, none⟩ d12 _).set 0 _).set_other ⟨n3, 0, none⟩ d32 _).alloc _).drew
      · exact (((((HB3.out.set_other ⟨n0, 0, none⟩ d03 _).set_other ⟨n1, 0, none⟩ d13 _).set_other ⟨n2, 0, none⟩ d23 _).set 0 _).alloc _).drew
      · exact ((((((Below.refl B w).setCell (p := ⟨n0, 0, none⟩) g0 _).setCell (p := ⟨n1, 0, none⟩) g1 _).setCell (p := ⟨n2, 0, none⟩) g2 _).setCell (p := ⟨n3, 0, none⟩) g3 _).alloc (by simp [World.setCell]; exact hw) _).drew
end Go.Proofs.YtbbcjclkklmoaaaDoor
namespace Go.Proofs.YtbbcjclkklmoaaaDoor
open Go Go.RowKit

theorem branch_ends (s : List UInt8) (sub : Option (ReSt → ReRes (ReSt × Nd))) (begin : Nat) : ∀ (n : Nat) (st : ReSt) (parts : List Nd) (front : Bool) (st' : ReSt) (d : Nd), branchM false s sub false begin n st parts front = .ok (st', d) → endsAt s st'.pos = true := by
  intro n
  induction n with
  | zero => intro _ _ _ _ _ h; cases h
  | succ n ih =>
    intro st parts front st' d h
    rw [branchM] at h
    split at h
    · rename_i he
      injection h with h; injection h with h1 _; subst h1
      unfold endsAt
      simpa [opAt] using he
    split at h
    · exact ih _ _ _ _ _ h
    split at h
    · exact ih _ _ _ _ _ h
    split at h
    · cases h
    split at h
    · cases h
    · split at h
      · cases h
      · exact ih _ _ _ _ _ h
theorem choice_ends (s : List UInt8) (sub : Option (ReSt → ReRes (ReSt × Nd))) : ∀ (n : Nat) (st : ReSt) (l : List Nd) (st' : ReSt) (d : Nd), choiceM false s sub false n st l = .ok (st', d) → s.length ≤ st'.pos ∨ esAt s st'.pos 41 = true := by
  intro n
  induction n with
  | zero => intro _ _ _ _ h; cases h
  | succ n ih =>
    intro st l st' d h
    rw [choiceM] at h
    split at h
    · cases h
    · rename_i st1 d1 hb
      have h1 := branch_ends s sub _ _ _ _ _ _ _ hb
      split at h
      · exact ih _ _ _ _ h
      · rename_i h124
        injection h with h; injection h with h2 _; subst h2
        unfold endsAt at h1
        simp only [opAt, Bool.false_eq_true, if_false] at h124
        simp only [Bool.or_eq_true, decide_eq_true_eq] at h1
        rcases h1 with (h1 | h1) | h1
        · exact .inl h1
        · exact (h124 h1).elim
        · exact .inr h1
/-- What Parse answers. -/
def PAns (r : ReRes (ReSt × Nd)) (w : World) (e : Ending) (w' : World) : Prop := Below w.heap.size w w' ∧ match r with
  | .error q => e = .returned (.tuple #[.nilIface, .slice none 0 0, .int .i64 (q.2 : Int), .int .i64 (q.1 : Int)])
  | .ok q => ∃ v mv, e = .returned (.tuple #[v, mv, .int .i64 0, .int .i64 0]) ∧ NdX (fun b => w.heap.size ≤ b) w' q.2 v ∧ w'.ownsRow w.heap.size 39 2 mv q.1.marks.length (marksC q.1.marks)
/-- The four results' variables. -/
structure Four (w0 w : World) (x0 x1 x2 x3 : Value) : Prop where
  b : Below w0.heap.size w0 w
  h0 : Blk w w0.heap.size #[x0] 25
  h1 : Blk w (w0.heap.size + 1) #[x1] 26
  h2 : Blk w (w0.heap.size + 2) #[x2] 3
  h3 : Blk w (w0.heap.size + 3) #[x3] 27
theorem four_new (w : World) : Four w ((((w.alloc (.cells #[.nilIface] 25)).alloc (.cells #[.slice none 0 0] 26)).alloc (.cells #[.int .i64 0] 3)).alloc (.cells #[.int .i64 0] 27)) .nilIface (.slice none 0 0) (.int .i64 0) (.int .i64 0) :=
  ⟨((((Below.refl _ _).alloc (Nat.le_refl _) _).alloc (by simp) _).alloc (by simp; omega) _).alloc (by simp; omega) _,
   (((Blk.new w _ _ _ rfl).alloc _).alloc _).alloc _, ((Blk.new _ _ _ _ (by simp)).alloc _).alloc _, (Blk.new _ _ _ _ (by simp)).alloc _, Blk.new _ _ _ _ (by simp)⟩
theorem Four.below {w0 w w' : World} {x0 x1 x2 x3 : Value} (h : Four w0 w x0 x1 x2 x3) (hb : Below w.heap.size w w') : Four w0 w' x0 x1 x2 x3 :=
  ⟨h.b.trans (hb.mono h.b.size), h.h0.below hb h.h0.lt, h.h1.below hb h.h1.lt, h.h2.below hb h.h2.lt, h.h3.below hb h.h3.lt⟩
/-- A fault is caught. -/
theorem four_caught {w0 w : World} {x0 x1 x2 x3 : Value} (h : Four w0 w x0 x1 x2 x3) (k er : Nat) :
    CallsD Tryd.prog 28 #[.pointer (some ⟨w0.heap.size, 0, none⟩), .pointer (some ⟨w0.heap.size + 1, 0, none⟩), .pointer (some ⟨w0.heap.size + 2, 0, none⟩), .pointer (some ⟨w0.heap.size + 3, 0, none⟩)] (.panicking ({ v := .iface 70 (.agg #[.int .i64 (k : Int), .int .i64 (er : Int)]), recovered := false } :: [])) w fun e u' w' =>
      e = .returned (.tuple #[]) ∧ u' = .panicking ({ v := .iface 70 (.agg #[.int .i64 (k : Int), .int .i64 (er : Int)]), recovered := true } :: []) ∧ Four w0 w' .nilIface (.slice none 0 0) (.int .i64 (k : Int)) (.int .i64 (er : Int)) :=
  (bcatch_fault k er [] w h.h0 h.h1 h.h2 h.h3 (by omega) (by omega) (by omega) (by omega) (by omega) (by omega)).mono fun _ _ _ ⟨h1, h2, h3⟩ =>
    ⟨h1, h2, h.b.trans (h3.low _ (Nat.le_refl _) (by omega) (by omega) (by omega) h.b.size), h3.b0, h3.b1, h3.b2, h3.b3⟩
set_option linter.unusedSimpArgs false in
set_option maxRecDepth 100000 in
set_option maxHeartbeats 1000000 in
theorem bparse_long (s : ByteArray) (w : World) (hs : 250 < s.size) : Calls Tryd.prog 10 #[.string s] w fun e w' => PAns (.error (3, 250)) w e w' := by
  have hmf : ∀ (fn : Fn) (first cap : Array Value) (w : World), (Instr.makeFunc fn first cap).run Tryd.prog w = .ok (.func fn first cap) w := fun _ _ _ _ => rfl
  have e1 : decide ((250 : Int) < (s.size : Int)) = true := by simp; omega
  have h4 := four_new w
  clear hs
  go_enter_defers Tryd.func10, Tryd.ntmps10
  go_wp2_with fail
  refine leaves_cons (f := 28) (args := #[.pointer (some ⟨w.heap.size, 0, none⟩), .pointer (some ⟨w.heap.size + 1, 0, none⟩), .pointer (some ⟨w.heap.size + 2, 0, none⟩), .pointer (some ⟨w.heap.size + 3, 0, none⟩)]) (by simp) (by simp [go_sem]) ?_
  refine (four_caught h4 250 3).mono ?_
  rintro e u' w'' ⟨rfl, rfl, h5⟩
  have k0 := (h5.h0.cell 0).trans rfl
  have k1 := (h5.h1.cell 0).trans rfl
  have k2 := (h5.h2.cell 0).trans rfl
  have k3 := (h5.h3.cell 0).trans rfl
  simp [Leaves, settle, results, Tryd.results10, go_sem, k0, k1, k2, k3]
  exact ⟨h5.b, rfl⟩
/-- What the reader does leaves the results as they were. -/
theorem Four.step {w0 w w' : World} {x0 x1 x2 x3 : Value} {p : Nat} {mv' cv' : Value} (h : Four w0 w x0 x1 x2 x3) (hp : w0.heap.size + 4 ≤ p) (hS : RStep p w (.slice none 0 0) (.slice none 0 0) w' mv' cv') (hB : Below w0.heap.size w w') : Four w0 w' x0 x1 x2 x3 := by
  have hk : ∀ b x T, Blk w b #[x] T → b < p → Blk w' b #[x] T := fun b x T hb hlt => by
    unfold Blk at hb ⊢
    rw [(hS.block b (Array.getElem?_eq_some_iff.1 hb).1 (by omega) (by simp [Value.ownBlock]) (by simp [Value.ownBlock])).1]
    exact hb
  exact ⟨h.b.trans hB, hk _ _ _ h.h0 (by omega), hk _ _ _ h.h1 (by omega), hk _ _ _ h.h2 (by omega), hk _ _ _ h.h3 (by omega)⟩
/-- The results are set. -/
theorem Four.store {w0 w : World} {x0 x1 x2 x3 : Value} (h : Four w0 w x0 x1 x2 x3) (y0 y1 y2 y3 : Value) :
    Four w0 ((((w.setCell ⟨w0.heap.size, 0, none⟩ y0).setCell ⟨w0.heap.size + 1, 0, none⟩ y1).setCell ⟨w0.heap.size + 2, 0, none⟩ y2).setCell ⟨w0.heap.size + 3, 0, none⟩ y3) y0 y1 y2 y3 :=
  ⟨(((h.b.setCell (p := ⟨w0.heap.size, 0, none⟩) (Nat.le_refl _) _).setCell (p := ⟨w0.heap.size + 1, 0, none⟩) (by simp) _).setCell (p := ⟨w0.heap.size + 2, 0, none⟩) (by simp) _).setCell (p := ⟨w0.heap.size + 3, 0, none⟩) (by simp) _,
   (((h.h0.set 0 _).set_other ⟨w0.heap.size + 1, 0, none⟩ (by simp) _).set_other ⟨w0.heap.size + 2, 0, none⟩ (by simp) _).set_other ⟨w0.heap.size + 3, 0, none⟩ (by simp) _,
   (((h.h1.set_other ⟨w0.heap.size, 0, none⟩ (by simp) _).set 0 _).set_other ⟨w0.heap.size + 2, 0, none⟩ (by simp) _).set_other ⟨w0.heap.size + 3, 0, none⟩ (by simp) _,
   (((h.h2.set_other ⟨w0.heap.size, 0, none⟩ (by simp) _).set_other ⟨w0.heap.size + 1, 0, none⟩ (by simp) _).set 0 _).set_other ⟨w0.heap.size + 3, 0, none⟩ (by simp) _,
   (((h.h3.set_other ⟨w0.heap.size, 0, none⟩ (by simp) _).set_other ⟨w0.heap.size + 1, 0, none⟩ (by simp) _).set_other ⟨w0.heap.size + 2, 0, none⟩ (by simp) _).set 0 _⟩
theorem own_set {w : World} {B : Nat} {e : TypeId} {size n : Nat} {v : Value} {us : List Value} (h : w.ownsRow B e size v n us) (b : Nat) (hv : v.ownBlock ≠ some b) (x : Value) : (w.setCell ⟨b, 0, none⟩ x).ownsRow B e size v n us :=
  h.kept ⟨rfl, rfl, rfl, by simp [World.setCell], fun k _ hk => Below.heap_setCell _ _ _ _ (fun e => hk (by rw [e]))⟩ (Or.inr hv)
theorem ndx_set {F : Nat → Prop} {w : World} {d : Nd} {v : Value} (h : NdX F w d v) (b : Nat) (hb : ¬ F b) (x : Value) : NdX F (w.setCell ⟨b, 0, none⟩ x) d v :=
  h.keep (by simp [World.setCell]) (fun k hk _ => ⟨hk, fun o => World.cell?_of_block (w := w) (a := ⟨k, o, none⟩) (Below.heap_setCell _ _ _ _ (fun e => hb (by have e2 : k = b := e; rw [← e2]; exact hk)))⟩)
theorem own_slice {w : World} {B : Nat} {e : TypeId} {size n : Nat} {v : Value} {us : List Value} (h : w.ownsRow B e size v n us) : ∃ a m c, v = .slice a m c := by
  rcases h.2 with ⟨rfl, _⟩ | ⟨g, cap, cur, rfl, _⟩
  · exact ⟨_, _, _, rfl⟩
  · exact ⟨_, _, _, rfl⟩
theorem rd_new (w0 W : World) (s : ByteArray) (hs : s.size ≤ 250) (h0 : w0.heap.size ≤ W.heap.size) : Rd w0.heap.size W.heap.size (W.alloc (.cells #[.string s, .int .i64 0, .slice none 0 0, .slice none 0 0, .int .i64 0] 74)) s reZero [] 0 (.slice none 0 0) (.slice none 0 0) :=
  { blk := Blk.new W _ _ _ rfl, mo := World.ownsRow_nil _ _ _ _, co := World.ownsRow_nil _ _ _ _, rr := rr_nil, bp := h0, mp := by simp [Value.ownBlock], cp := by simp [Value.ownBlock], mc := by intro b hb; simp [Value.ownBlock] at hb, pos := Nat.zero_le _, small := hs, few := ⟨Nat.le_refl _, Nat.le_refl _⟩ }
/-- What was read, behind the last stores. -/
theorem parse_last {w w1 W5 : World} {x0 x1 x2 x3 v mv cv : Value} {d : Nd} {n : Nat} {us : List Value} (h : Four w w1 x0 x1 x2 x3) (hsz : w.heap.size + 5 ≤ W5.heap.size) (hN : NdOff W5.heap.size (w.heap.size + 4) mv cv w1 d v) (hm : w1.ownsRow w.heap.size 39 2 mv n us)
    (hno : ∀ b, b < W5.heap.size → b ≠ w.heap.size + 4 → mv.ownBlock ≠ some b) :
    Four w ((((w1.setCell ⟨w.heap.size, 0, none⟩ v).setCell ⟨w.heap.size + 1, 0, none⟩ mv).setCell ⟨w.heap.size + 2, 0, none⟩ (.int .i64 0)).setCell ⟨w.heap.size + 3, 0, none⟩ (.int .i64 0)) v mv (.int .i64 0) (.int .i64 0) ∧
    NdX (fun b => w.heap.size ≤ b) ((((w1.setCell ⟨w.heap.size, 0, none⟩ v).setCell ⟨w.heap.size + 1, 0, none⟩ mv).setCell ⟨w.heap.size + 2, 0, none⟩ (.int .i64 0)).setCell ⟨w.heap.size + 3, 0, none⟩ (.int .i64 0)) d v ∧
    ((((w1.setCell ⟨w.heap.size, 0, none⟩ v).setCell ⟨w.heap.size + 1, 0, none⟩ mv).setCell ⟨w.heap.size + 2, 0, none⟩ (.int .i64 0)).setCell ⟨w.heap.size + 3, 0, none⟩ (.int .i64 0)).ownsRow w.heap.size 39 2 mv n us := by
  have hN' : NdX (fun b => w.heap.size + 5 ≤ b) w1 d v := hN.keep (Nat.le_refl _) (fun b hb _ => ⟨Nat.le_trans hsz hb.1, fun _ => rfl⟩)
  refine ⟨h.store _ _ _ _, ?_, ?_⟩
  · exact ((((ndx_set hN' _ (by omega) _ |> fun h => ndx_set h _ (by omega) _) |> fun h => ndx_set h _ (by omega) _) |> fun h => ndx_set h _ (by omega) _)).keep (Nat.le_refl _) (fun b hb _ => ⟨by omega, fun _ => rfl⟩)
  · exact own_set (own_set (own_set (own_set hm _ (hno _ (by omega) (by omega)) _) _ (hno _ (by omega) (by omega)) _) _ (hno _ (by omega) (by omega)) _) _ (hno _ (by omega) (by omega)) _
set_option linter.unusedSimpArgs false in
set_option maxRecDepth 100000 in
set_option maxHeartbeats 1000000 in
theorem bparse_short (s : ByteArray) (w : World) (hs : s.size ≤ 250) (hG : Gl w) : Calls Tryd.prog 10 #[.string s] w fun e w' => PAns (parseM false s.data.toList) w e w' := by
  have hmf : ∀ (fn : Fn) (first cap : Array Value) (w : World), (Instr.makeFunc fn first cap).run Tryd.prog w = .ok (.func fn first cap) w := fun _ _ _ _ => rfl
  have hsl : s.data.toList.length = s.size := by simp
  have e1 : decide ((250 : Int) < (s.size : Int)) = false := by simp; omega
  have h4 := four_new w
  generalize hW4 : ((((w.alloc (.cells #[.nilIface] 25)).alloc (.cells #[.slice none 0 0] 26)).alloc (.cells #[.int .i64 0] 3)).alloc (.cells #[.int .i64 0] 27)) = W4 at h4
  have hn4 : W4.heap.size = w.heap.size + 4 := by rw [← hW4]; simp
  have hR := rd_new w W4 s hs (by omega)
  rw [hn4] at hR
  have hA := (Below.refl W4.heap.size W4).alloc (Nat.le_refl _) (.cells #[.string s, .int .i64 0, .slice none 0 0, .slice none 0 0, .int .i64 0] 74)
  have h5 := h4.below hA
  have hG5 := hG.up h5.b
  have hps := parse_shut false s.data.toList (by rw [hsl]; exact hs)
  have hrx := regex_any _ hR (subOf s.data.toList 0) (subOf_mv _ _) (subOf_ok _ _) hG5 hG.lt (fun st es => group_any w.heap.size (w.heap.size + 4) s hG.lt 12 0 rfl st es)
  rw [show subOf s.data.toList 0 = some (regM false s.data.toList 11) from rfl] at hrx
  obtain ⟨R, hR0⟩ : ∃ R, R = parseM false s.data.toList := ⟨_, rfl⟩
  rw [← hR0]
  have hR1 := hR0.trans hps
  have HR5 := Lib.hid hR
  have H5 := Lib.hid h5
  have HW4 := Lib.hid hW4
  have HN4 := Lib.hid hn4
  have hce := choice_ends s.data.toList (some (regM false s.data.toList 11)) (s.data.toList.length + 1) reZero []
  have HCE := Lib.hid hce
  have HSL := Lib.hid hsl
  clear hR hA h4 h5 hG5 hps hR0 hG hn4 hce hsl hs
  subst hW4
  go_enter_defers Tryd.func10, Tryd.ntmps10
  go_wp2_with fail
  generalize hW5 : ((((w.alloc (.cells #[.nilIface] 25)).alloc (.cells #[.slice none 0 0] 26)).alloc (.cells #[.int .i64 0] 3)).alloc (.cells #[.int .i64 0] 27)).alloc (.cells #[.string s, .int .i64 0, .slice none 0 0, .slice none 0 0, .int .i64 0] 74) = W5 at *
  have hsz5 : w.heap.size + 5 ≤ W5.heap.size := by rw [← hW5]; simp
  have HSZ := Lib.hid hsz5
  clear hW5 hsz5
  refine Calls.mono hrx ?_
  intro e w1 hA
  obtain ⟨mv1, cv1, hS1, hr⟩ := hA
  have hF1 := H5.out.step (Nat.le_refl _) hS1 (hS1.low HR5.out)
  have HS1 := Lib.hid hS1
  have HF1 := Lib.hid hF1
  clear hS1 hF1 hrx
  cases hC : choiceM false s.data.toList (some (regM false s.data.toList 11)) false (s.data.toList.length + 1) reZero [] with
  | error q =>
    rw [hC] at hr hR1
    obtain rfl : e = _ := hr
    have HF := Lib.hid hR1
    clear hC hR1
    go_wp2_with fail
    refine leaves_cons (f := 28) (args := #[.pointer (some ⟨w.heap.size, 0, none⟩), .pointer (some ⟨w.heap.size + 1, 0, none⟩), .pointer (some ⟨w.heap.size + 2, 0, none⟩), .pointer (some ⟨w.heap.size + 3, 0, none⟩)]) (by simp) (by simp [go_sem]) ?_
    refine (four_caught HF1.out q.2 q.1).mono ?_
    rintro e u' w'' ⟨rfl, rfl, h5⟩
    have k0 := (h5.h0.cell 0).trans rfl
    have k1 := (h5.h1.cell 0).trans rfl
    have k2 := (h5.h2.cell 0).trans rfl
    have k3 := (h5.h3.cell 0).trans rfl
    simp [Leaves, settle, results, Tryd.results10, go_sem, k0, k1, k2, k3]
    exact ⟨h5.b, by rw [HF.out]; rfl⟩
  | ok q =>
    rw [hC] at hr hR1
    obtain ⟨es1, v1, rfl, hRd1, hN1⟩ := hr
    have hce := HCE.out _ _ hC
    have HRd1 := Lib.hid hRd1
    have HN1 := Lib.hid hN1
    obtain ⟨c0, c1, c2, c3, c4, z1, z2, z3, z4⟩ := hRd1.cells
    have hp1 := hRd1.pos
    have hsm := hRd1.small
    rw [HSL.out] at hce
    clear hC hRd1 hN1
    cases h41 : esAt s.data.toList q.1.pos 41 with
    | true =>
      have hlt := (es_byt h41).1
      rw [HSL.out] at hlt
      have HF := Lib.hid (hR1.trans (show shutR false s.data.toList (.ok q) = .error (8, q.1.pos) by unfold shutR; simp only [opAt, Bool.false_eq_true, if_false]; rw [h41]; rfl))
      have e2 : decide ((q.1.pos : Int) < (s.size : Int)) = true := by simp; omega
      have e3 : decide (q.1.pos < s.size) = true := by simp; omega
      clear hR1 h41 hlt hce
      go_wp2_with fail
      refine leaves_cons (f := 28) (args := #[.pointer (some ⟨w.heap.size, 0, none⟩), .pointer (some ⟨w.heap.size + 1, 0, none⟩), .pointer (some ⟨w.heap.size + 2, 0, none⟩), .pointer (some ⟨w.heap.size + 3, 0, none⟩)]) (by simp) (by simp [go_sem]) ?_
      refine (four_caught HF1.out q.1.pos 8).mono ?_
      rintro e u' w'' ⟨rfl, rfl, h5⟩
      have k0 := (h5.h0.cell 0).trans rfl
      have k1 := (h5.h1.cell 0).trans rfl
      have k2 := (h5.h2.cell 0).trans rfl
      have k3 := (h5.h3.cell 0).trans rfl
      simp [Leaves, settle, results, Tryd.results10, go_sem, k0, k1, k2, k3]
      exact ⟨h5.b, by rw [HF.out]; rfl⟩
    | false =>
      have hge : s.size ≤ q.1.pos := hce.resolve_right (by rw [h41]; simp)
      have HF := Lib.hid (hR1.trans (show shutR false s.data.toList (.ok q) = .ok q by unfold shutR; simp only [opAt, Bool.false_eq_true, if_false]; rw [h41]; rfl))
      have e2 : decide ((q.1.pos : Int) < (s.size : Int)) = false := by simp; omega
      have e3 : decide (q.1.pos < s.size) = false := by simp; omega
      clear hR1 h41 hce hge
      have q0 := (HF1.out.h0.cell 0).trans rfl
      have q1 := (HF1.out.h1.cell 0).trans rfl
      have q2 := (HF1.out.h2.cell 0).trans rfl
      have q3 := (HF1.out.h3.cell 0).trans rfl
      have y0 := HF1.out.h0.frozen 0
      have y1 := HF1.out.h1.frozen 0
      have y2 := HF1.out.h2.frozen 0
      have y3 := HF1.out.h3.frozen 0
      have hno := fun b hb hbp => ((HS1.out.block b hb hbp (by simp [Value.ownBlock]) (by simp [Value.ownBlock])).2.1)
      have HNO := Lib.hid hno
      clear hno
      obtain ⟨ma, mn, mc, hmv⟩ := own_slice HRd1.out.mo
      subst hmv
      obtain ⟨nn, hnn⟩ := HN1.out
      rcases nd_shape hnn with ⟨T, x, rfl⟩ | rfl
      all_goals
        clear hnn
        go_wp2_with fail
        go_region
        all_goals go_wp2_with fail
        all_goals
          refine leaves_cons (f := 28) (args := #[.pointer (some ⟨w.heap.size, 0, none⟩), .pointer (some ⟨w.heap.size + 1, 0, none⟩), .pointer (some ⟨w.heap.size + 2, 0, none⟩), .pointer (some ⟨w.heap.size + 3, 0, none⟩)]) (by simp) (by simp [go_sem]) ?_
          refine (bcatch_idle _ _ _ _ _).mono ?_
          rintro e u' w'' ⟨rfl, rfl, rfl⟩
          have hF9 := parse_last HF1.out HSZ.out HN1.out HRd1.out.mo HNO.out
          have k0 := (hF9.1.h0.cell 0).trans rfl
          have k1 := (hF9.1.h1.cell 0).trans rfl
          have k2 := (hF9.1.h2.cell 0).trans rfl
          have k3 := (hF9.1.h3.cell 0).trans rfl
          have HF9 := Lib.hid hF9
          clear hF9 c0 c1 c2 c3 c4 z1 z2 z3 z4 q0 q1 q2 q3 y0 y1 y2 y3
          generalize (((World.setCell _ _ _).setCell _ _).setCell _ _).setCell _ _ = w9 at HF9 k0 k1 k2 k3 ⊢
          simp [Leaves, settle, results, Tryd.results10, go_sem, k0, k1, k2, k3]
          refine ⟨HF9.out.1.b.drew, ?_⟩
          rw [HF.out]
          exact ⟨_, _, rfl, HF9.out.2.1.drew, HF9.out.2.2⟩
/-- Parse of a basic regex, whatever the text. -/
theorem bparse_any (s : ByteArray) (w : World) (hG : Gl w) : Calls Tryd.prog 10 #[.string s] w fun e w' => PAns (parseM false s.data.toList) w e w' := by
  by_cases hs : s.size ≤ 250
  · exact bparse_short s w hs hG
  · have hl : parseM false s.data.toList = .error (3, 250) := by
      unfold parseM
      rw [if_pos (by simp; omega)]
    rw [hl]
    exact bparse_long s w (by omega)
end Go.Proofs.YtbbcjclkklmoaaaDoor
