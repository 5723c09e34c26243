/- What is still to be done, in memory: each task a closure with its boxes; the rows of jumps, each a task's own. laying. -/
import Derived.Test.YtjjhkagpoicimaaCbI
import Derived.Test.YtjjhkagpoicimaaNdAo
namespace Go.Proofs.Ytjjhkagpoicimaa
open Go Go.RowKit

/-- A cell of a box. -/
def BoxC (F : Nat → Prop) (W : World) (x o : Nat) (v : Value) : Prop := F x ∧ x < W.heap.size ∧ W.cell? ⟨x, o, none⟩ = some v
theorem BoxC.keep {F G : Nat → Prop} {W W' : World} {x o : Nat} {v : Value} (hs : W.heap.size ≤ W'.heap.size) (hF : ∀ b, F b → b < W.heap.size → G b ∧ ∀ o, W'.cell? ⟨b, o, none⟩ = W.cell? ⟨b, o, none⟩) (h : BoxC F W x o v) : BoxC G W' x o v :=
  ⟨(hF x h.1 h.2.1).1, Nat.lt_of_lt_of_le h.2.1 hs, ((hF x h.1 h.2.1).2 o).trans h.2.2⟩
abbrev ptr (x : Nat) : Value := .pointer (some ⟨x, 0, none⟩)
def jvOf (js : List Nat) : List Value := js.map fun (j : Nat) => Value.int .i64 (j : Int)
/-- A task as a closure: what it has caught lies in boxes of F (the parts with the one ahead of those that are left); jv: its jumps, a row of its own. -/
def TkAt (B p : Nat) (F : Nat → Prop) (W : World) : CTk → Value → Value → Prop
  | .lay d, v, jv => jv = .slice none 0 0 ∧ ∃ x y u, v = .func (.func 46) #[] #[ptr x, ptr y] ∧ BoxC F W x 0 (ptr p) ∧ BoxC F W y 0 u ∧ NdX F W d u
  | .save m, v, jv => jv = .slice none 0 0 ∧ ∃ x y, v = .func (.func 53) #[] #[ptr x, ptr y] ∧ BoxC F W x 0 (ptr p) ∧ BoxC F W y 0 (.int .i64 m)
  | .turn ds, v, jv => jv = .slice none 0 0 ∧ ∃ x y a c d, v = .func (.func 54) #[] #[ptr x, ptr y] ∧ BoxC F W x 0 (ptr p) ∧ BoxC F W y 0 (.slice a (d :: ds).length c) ∧ NdRw F W (d :: ds) a c
  | .rep mn mx P q, v, jv => jv = .slice none 0 0 ∧ ∃ x y z k T u, v = .func (.func 58) #[] #[ptr x, ptr y, ptr z, ptr k] ∧ BoxC F W x 0 (ptr p) ∧ BoxC F W y 0 (.iface T u) ∧ BoxC F W y 1 (.int .i64 mn) ∧ BoxC F W y 2 (.int .i64 mx) ∧ BoxC F W z 0 (.int .i64 (P : Int)) ∧ BoxC F W k 0 (.int .i64 (q : Int))
  | .branch s ds js, v, jv => W.ownsRow B 3 1 jv js.length (jvOf js) ∧ ∃ x z y j a c d, v = .func (.func 56) #[] #[ptr x, ptr z, ptr y, ptr j] ∧ BoxC F W x 0 (ptr p) ∧ BoxC F W z 0 (.int .i64 (s : Int)) ∧ BoxC F W y 0 (.slice a (d :: ds).length c) ∧ NdRw F W (d :: ds) a c ∧ BoxC F W j 0 jv
  | .jumps js, v, jv => W.ownsRow B 3 1 jv js.length (jvOf js) ∧ ∃ x j, v = .func (.func 55) #[] #[ptr j, ptr x] ∧ BoxC F W x 0 (ptr p) ∧ BoxC F W j 0 jv
theorem TkAt.keep {B p : Nat} {F G : Nat → Prop} {W W' : World} {t : CTk} {v jv : Value} (hs : W.heap.size ≤ W'.heap.size) (hF : ∀ b, F b → b < W.heap.size → G b ∧ ∀ o, W'.cell? ⟨b, o, none⟩ = W.cell? ⟨b, o, none⟩)
    (hj : ∀ b, jv.ownBlock = some b → W'.heap[b]? = W.heap[b]?) (h : TkAt B p F W t v jv) : TkAt B p G W' t v jv := by
  cases t with
  | lay d => obtain ⟨h0, x, y, u, h1, h2, h3, h4⟩ := h; exact ⟨h0, x, y, u, h1, h2.keep hs hF, h3.keep hs hF, h4.keep hs hF⟩
  | save m => obtain ⟨h0, x, y, h1, h2, h3⟩ := h; exact ⟨h0, x, y, h1, h2.keep hs hF, h3.keep hs hF⟩
  | turn ds => obtain ⟨h0, x, y, a, c, d, h1, h2, h3, h4⟩ := h; exact ⟨h0, x, y, a, c, d, h1, h2.keep hs hF, h3.keep hs hF, h4.keep hs hF⟩
  | rep mn mx P q => obtain ⟨h0, x, y, z, k, T, u, h1, h2, h3, h4, h5, h6, h7⟩ := h; exact ⟨h0, x, y, z, k, T, u, h1, h2.keep hs hF, h3.keep hs hF, h4.keep hs hF, h5.keep hs hF, h6.keep hs hF, h7.keep hs hF⟩
  | branch s ds js => obtain ⟨h0, x, z, y, j, a, c, d, h1, h2, h3, h4, h5, h6⟩ := h; exact ⟨own_row_same h0 hj, x, z, y, j, a, c, d, h1, h2.keep hs hF, h3.keep hs hF, h4.keep hs hF, h5.keep hs hF, h6.keep hs hF⟩
  | jumps js => obtain ⟨h0, x, j, h1, h2, h3⟩ := h; exact ⟨own_row_same h0 hj, x, j, h1, h2.keep hs hF, h3.keep hs hF⟩
/-- The blocks that the tasks go through: none of the builder's, none of a row of jumps. -/
def OffT (p : Nat) (iv tv : Value) (jvs : List Value) (b : Nat) : Prop := OffC p iv tv b ∧ ∀ jv ∈ jvs, jv.ownBlock ≠ some b
/-- All tasks, with the first at the END of the row (us is the row as it lies, the last first to be done); jvs: their jumps, each row another's not. -/
inductive Todo (B p : Nat) (F : Nat → Prop) (W : World) : List CTk → List Value → List Value → Prop
  | nil : Todo B p F W [] [] []
  | cons {t : CTk} {v jv : Value} {ts : List CTk} {us jvs : List Value} (h : TkAt B p F W t v jv) (hj : ∀ b, jv.ownBlock = some b → b < W.heap.size ∧ ∀ jv' ∈ jvs, jv'.ownBlock ≠ some b) (k : Todo B p F W ts us jvs) : Todo B p F W (t :: ts) (v :: us) (jv :: jvs)
theorem Todo.keep {B p : Nat} {F G : Nat → Prop} {W W' : World} (hs : W.heap.size ≤ W'.heap.size) (hF : ∀ b, F b → b < W.heap.size → G b ∧ ∀ o, W'.cell? ⟨b, o, none⟩ = W.cell? ⟨b, o, none⟩) :
    ∀ {ts : List CTk} {us jvs : List Value}, (∀ jv ∈ jvs, ∀ b, jv.ownBlock = some b → W'.heap[b]? = W.heap[b]?) → Todo B p F W ts us jvs → Todo B p G W' ts us jvs
  | _, _, _, _, .nil => .nil
  | _, _, _, hj, .cons h h2 k => .cons (h.keep hs hF (hj _ (List.mem_cons_self ..))) (fun b hb => ⟨Nat.lt_of_lt_of_le (h2 b hb).1 hs, (h2 b hb).2⟩) (k.keep hs hF fun jv hm => hj jv (List.mem_cons_of_mem _ hm))
theorem Todo.len {B p : Nat} {F : Nat → Prop} {W : World} : ∀ {ts : List CTk} {us jvs : List Value}, Todo B p F W ts us jvs → us.length = ts.length
  | _, _, _, .nil => rfl
  | _, _, _, .cons _ _ k => by rw [List.length_cons, List.length_cons, k.len]
theorem Todo.low {B p : Nat} {F : Nat → Prop} {W : World} : ∀ {ts : List CTk} {us jvs : List Value}, Todo B p F W ts us jvs → ∀ jv ∈ jvs, ∀ b, jv.ownBlock = some b → b < W.heap.size
  | _, _, _, .nil, _, hm, _, _ => by cases hm
  | _, _, _, .cons _ h2 k, _, hm, b, hb => by
    rcases List.mem_cons.1 hm with rfl | hm
    · exact (h2 b hb).1
    · exact k.low _ hm b hb
set_option linter.unusedSimpArgs false in
set_option maxRecDepth 100000 in
set_option maxHeartbeats 4000000 in
theorem laying_any (p : Nat) (v : Value) (w : World) (hv : (∃ T u, v = .iface T u) ∨ v = .nilIface) :
    Calls Try.prog 35 #[ptr p, v] w fun e w' => e = .returned (.func (.func 46) #[] #[ptr w.heap.size, ptr (w.heap.size + 1)]) ∧ w' = (w.alloc (.cells #[ptr p] 98)).alloc (.cells #[v] 37) := by
  have hmf : ∀ (fn : Fn) (first cap : Array Value) (w : World), (Instr.makeFunc fn first cap).run Try.prog w = .ok (.func fn first cap) w := fun _ _ _ _ => rfl
  rcases hv with ⟨T, u, rfl⟩ | rfl
  all_goals
    go_enter Try.func35, Try.ntmps35
    go_wp2_with fail
    go_ret
    exact ⟨rfl, rfl⟩
/-- The task that laying answers. -/
theorem laying_task {B p : Nat} {F G : Nat → Prop} {d : Nd} {v : Value} {w : World} (h : NdX F w d v) (hF : ∀ b, F b → b < w.heap.size → G b) (h0 : G w.heap.size) (h1 : G (w.heap.size + 1)) :
    TkAt B p G ((w.alloc (.cells #[ptr p] 98)).alloc (.cells #[v] 37)) (.lay d) (.func (.func 46) #[] #[ptr w.heap.size, ptr (w.heap.size + 1)]) (.slice none 0 0) := by
  have hB : Below w.heap.size w ((w.alloc (.cells #[ptr p] 98)).alloc (.cells #[v] 37)) := ((Below.refl _ w).alloc (Nat.le_refl _) _).alloc (by simp) _
  refine ⟨rfl, _, _, v, rfl, ⟨h0, by simp; omega, ?_⟩, ⟨h1, by simp, ?_⟩, h.keep hB.size fun b hb hl => ⟨hF b hb hl, fun o => hB.cell (p := ⟨b, o, none⟩) hl⟩⟩
  · have h2 := ((Boxed.new w 98 (ptr p)).alloc (.cells #[v] 37)).cell
    exact h2
  · have h2 := (Boxed.new (w.alloc (.cells #[ptr p] 98)) 37 v).cell
    rw [World.size_alloc] at h2
    exact h2
end Go.Proofs.Ytjjhkagpoicimaa
