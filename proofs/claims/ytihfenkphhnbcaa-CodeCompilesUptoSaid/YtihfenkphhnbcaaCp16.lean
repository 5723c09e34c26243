/- The proof's texts CbJ, CbK, CbL: what the claim reaches of them. -/
import Derived.Test.YtihfenkphhnbcaaCp15
import Derived.Test.YtihfenkphhnbcaaCp04
import Derived.Deep.RegionWith
import Derived.Deep.RegionHeld3
namespace Go.Proofs.Ytihfenkphhnbcaa
open Go Go.RowKit
def BoxC (F : Nat → Prop) (W : World) (x o : Nat) (v : Value) : Prop := F x ∧ x < W.heap.size ∧ W.cell? ⟨x, o, none⟩ = some v
theorem BoxC.keep {F G : Nat → Prop} {W W' : World} {x o : Nat} {v : Value} (hs : W.heap.size ≤ W'.heap.size) (hF : ∀ b, F b → b < W.heap.size → G b ∧ ∀ o, W'.cell? ⟨b, o, none⟩ = W.cell? ⟨b, o, none⟩) (h : BoxC F W x o v) : BoxC G W' x o v :=
  ⟨(hF x h.1 h.2.1).1, Nat.lt_of_lt_of_le h.2.1 hs, ((hF x h.1 h.2.1).2 o).trans h.2.2⟩
abbrev ptr (x : Nat) : Value := .pointer (some ⟨x, 0, none⟩)
def jvOf (js : List Nat) : List Value := js.map fun (j : Nat) => Value.int .i64 (j : Int)
def TkAt (B p : Nat) (F : Nat → Prop) (W : World) : CTk → Value → Value → Prop
  | .lay d, v, jv => jv = .slice none 0 0 ∧ ∃ x y u, v = .func (.func 46) #[] #[ptr x, ptr y] ∧ BoxC F W x 0 (ptr p) ∧ BoxC F W y 0 u ∧ NdX F W d u
  | .save m, v, jv => jv = .slice none 0 0 ∧ ∃ x y, v = .func (.func 53) #[] #[ptr x, ptr y] ∧ BoxC F W x 0 (ptr p) ∧ BoxC F W y 0 (.int .i64 m)
  | .turn ds, v, jv => jv = .slice none 0 0 ∧ ∃ x y a c d, v = .func (.func 54) #[] #[ptr x, ptr y] ∧ BoxC F W x 0 (ptr p) ∧ BoxC F W y 0 (.slice a (d :: ds).length c) ∧ NdRw F W (d :: ds) a c
  | .rep mn mx P q, v, jv => jv = .slice none 0 0 ∧ ∃ x y z k T u, v = .func (.func 58) #[] #[ptr x, ptr y, ptr z, ptr k] ∧ BoxC F W x 0 (ptr p) ∧ BoxC F W y 0 (.iface T u) ∧ BoxC F W y 1 (.int .i64 mn) ∧ BoxC F W y 2 (.int .i64 mx) ∧ BoxC F W z 0 (.int .i64 (P : Int)) ∧ BoxC F W k 0 (.int .i64 (q : Int))
  | .branch s ds js, v, jv => W.ownsRow B 3 1 jv js.length (jvOf js) ∧ ∃ x z y j a c d, v = .func (.func 56) #[] #[ptr x, ptr z, ptr y, ptr j] ∧ BoxC F W x 0 (ptr p) ∧ BoxC F W z 0 (.int .i64 (s : Int)) ∧ BoxC F W y 0 (.slice a (d :: ds).length c) ∧ NdRw F W (d :: ds) a c ∧ BoxC F W j 0 jv
  | .jumps js, v, jv => W.ownsRow B 3 1 jv js.length (jvOf js) ∧ ∃ x j, v = .func (.func 55) #[] #[ptr j, ptr x] ∧ BoxC F W x 0 (ptr p) ∧ BoxC F W j 0 jv
theorem TkAt.keep {B p : Nat} {F G : Nat → Prop} {W W' : World} {t : CTk} {v jv : Value} (hs : W.heap.size ≤ W'.heap.size) (hF : ∀ b, F b → b < W.heap.size → G b ∧ ∀ o, W'.cell? ⟨b, o, none⟩ = W.cell? ⟨b, o, none⟩)
    (hj : ∀ b, jv.ownBlock = some b → W'.heap[b]? = W.heap[b]?) (h : TkAt B p F W t v jv) : TkAt B p G W' t v jv := by
  cases t with
  | lay d => obtain ⟨h0, x, y, u, h1, h2, h3, h4⟩ := h; exact ⟨h0, x, y, u, h1, h2.keep hs hF, h3.keep hs hF, h4.keep hs hF⟩
  | save m => obtain ⟨h0, x, y, h1, h2, h3⟩ := h; exact ⟨h0, x, y, h1, h2.keep hs hF, h3.keep hs hF⟩
  | turn ds => obtain ⟨h0, x, y, a, c, d, h1, h2, h3, h4⟩ := h; exact ⟨h0, x, y, a, c, d, h1, h2.keep hs hF, h3.keep hs hF, h4.keep hs hF⟩
  | rep mn mx P q => obtain ⟨h0, x, y, z, k, T, u, h1, h2, h3, h4, h5, h6, h7⟩ := h; exact ⟨h0, x, y, z, k, T, u, h1, h2.keep hs hF, h3.keep hs hF, h4.keep hs hF, h5.keep hs hF, h6.keep hs hF, h7.keep hs hF⟩
  | branch s ds js => obtain ⟨h0, x, z, y, j, a, c, d, h1, h2, h3, h4, h5, h6⟩ := h; exact ⟨own_row_same h0 hj, x, z, y, j, a, c, d, h1, h2.keep hs hF, h3.keep hs hF, h4.keep hs hF, h5.keep hs hF, h6.keep hs hF⟩
  | jumps js => obtain ⟨h0, x, j, h1, h2, h3⟩ := h; exact ⟨own_row_same h0 hj, x, j, h1, h2.keep hs hF, h3.keep hs hF⟩
def OffT (p : Nat) (iv tv : Value) (jvs : List Value) (b : Nat) : Prop := OffC p iv tv b ∧ ∀ jv ∈ jvs, jv.ownBlock ≠ some b
inductive Todo (B p : Nat) (F : Nat → Prop) (W : World) : List CTk → List Value → List Value → Prop
  | nil : Todo B p F W [] [] []
  | cons {t : CTk} {v jv : Value} {ts : List CTk} {us jvs : List Value} (h : TkAt B p F W t v jv) (hj : ∀ b, jv.ownBlock = some b → b < W.heap.size ∧ ∀ jv' ∈ jvs, jv'.ownBlock ≠ some b) (k : Todo B p F W ts us jvs) : Todo B p F W (t :: ts) (v :: us) (jv :: jvs)
theorem Todo.keep {B p : Nat} {F G : Nat → Prop} {W W' : World} (hs : W.heap.size ≤ W'.heap.size) (hF : ∀ b, F b → b < W.heap.size → G b ∧ ∀ o, W'.cell? ⟨b, o, none⟩ = W.cell? ⟨b, o, none⟩) :
    ∀ {ts : List CTk} {us jvs : List Value}, (∀ jv ∈ jvs, ∀ b, jv.ownBlock = some b → W'.heap[b]? = W.heap[b]?) → Todo B p F W ts us jvs → Todo B p G W' ts us jvs
  | _, _, _, _, .nil => .nil
  | _, _, _, hj, .cons h h2 k => .cons (h.keep hs hF (hj _ (List.mem_cons_self ..))) (fun b hb => ⟨Nat.lt_of_lt_of_le (h2 b hb).1 hs, (h2 b hb).2⟩) (k.keep hs hF fun jv hm => hj jv (List.mem_cons_of_mem _ hm))
theorem Todo.len {B p : Nat} {F : Nat → Prop} {W : World} : ∀ {ts : List CTk} {us jvs : List Value}, Todo B p F W ts us jvs → us.length = ts.length
  | _, _, _, .nil => rfl
  | _, _, _, .cons _ _ k => by rw [List.length_cons, List.length_cons, k.len]
theorem Todo.low {B p : Nat} {F : Nat → Prop} {W : World} : ∀ {ts : List CTk} {us jvs : List Value}, Todo B p F W ts us jvs → ∀ jv ∈ jvs, ∀ b, jv.ownBlock = some b → b < W.heap.size
  | _, _, _, .nil, _, hm, _, _ => by cases hm
  | _, _, _, .cons _ h2 k, _, hm, b, hb => by
    rcases List.mem_cons.1 hm with rfl | hm
    · exact (h2 b hb).1
    · exact k.low _ hm b hb
set_option linter.unusedSimpArgs false in
set_option maxRecDepth 100000 in
set_option maxHeartbeats 4000000 in
theorem laying_any (p : Nat) (v : Value) (w : World) (hv : (∃ T u, v = .iface T u) ∨ v = .nilIface) :
    Calls Try.prog 35 #[ptr p, v] w fun e w' => e = .returned (.func (.func 46) #[] #[ptr w.heap.size, ptr (w.heap.size + 1)]) ∧ w' = (w.alloc (.cells #[ptr p] 98)).alloc (.cells #[v] 37) := by
  have hmf : ∀ (fn : Fn) (first cap : Array Value) (w : World), (Instr.makeFunc fn first cap).run Try.prog w = .ok (.func fn first cap) w := fun _ _ _ _ => rfl
  rcases hv with ⟨T, u, rfl⟩ | rfl
  all_goals
    go_enter Try.func35, Try.ntmps35
    go_wp2_with fail
    go_ret
    exact ⟨rfl, rfl⟩
theorem laying_task {B p : Nat} {F G : Nat → Prop} {d : Nd} {v : Value} {w : World} (h : NdX F w d v) (hF : ∀ b, F b → b < w.heap.size → G b) (h0 : G w.heap.size) (h1 : G (w.heap.size + 1)) :
    TkAt B p G ((w.alloc (.cells #[ptr p] 98)).alloc (.cells #[v] 37)) (.lay d) (.func (.func 46) #[] #[ptr w.heap.size, ptr (w.heap.size + 1)]) (.slice none 0 0) := by
  have hB : Below w.heap.size w ((w.alloc (.cells #[ptr p] 98)).alloc (.cells #[v] 37)) := ((Below.refl _ w).alloc (Nat.le_refl _) _).alloc (by simp) _
  refine ⟨rfl, _, _, v, rfl, ⟨h0, by simp; omega, ?_⟩, ⟨h1, by simp, ?_⟩, h.keep hB.size fun b hb hl => ⟨hF b hb hl, fun o => hB.cell (p := ⟨b, o, none⟩) hl⟩⟩
  · have h2 := ((Boxed.new w 98 (ptr p)).alloc (.cells #[v] 37)).cell
    exact h2
  · have h2 := (Boxed.new (w.alloc (.cells #[ptr p] 98)) 37 v).cell
    rw [World.size_alloc] at h2
    exact h2
end Go.Proofs.Ytihfenkphhnbcaa
namespace Go.Proofs.Ytihfenkphhnbcaa
open Go Go.RowKit
abbrev nilS : Value := .slice none 0 0
theorem nil_own (b : Nat) : nilS.ownBlock ≠ some b := fun e => by cases e
structure Sta (B p : Nat) (w : World) (l : List Inn) (g : Int) (k : Nat) (bk : Bool) (iv tv : Value) (ts : List CTk) (us jvs : List Value) (x : Value) : Prop where
  bld : Bld B p w l g k bk iv tv us.reverse
  tod : Todo B p (OffT p iv tv (x :: jvs)) w ts us jvs
  jb : ∀ jv ∈ x :: jvs, ∀ b, jv.ownBlock = some b → OffC p iv tv b ∧ b < w.heap.size
  xj : ∀ b, x.ownBlock = some b → ∀ jv ∈ jvs, jv.ownBlock ≠ some b
theorem CStep.low {B p : Nat} {w w' : World} {l : List Inn} {g : Int} {k : Nat} {bk : Bool} {iv tv iv' tv' : Value} {ts : List Value} (h : CStep p w iv tv w' iv' tv') (hB : Bld B p w l g k bk iv tv ts) : Below B w w' :=
  ⟨h.os, h.tape, h.output, h.size, fun b hb => by
    have h1 := hB.bp
    have h2 := hB.blk.lt
    exact (h.block b (by omega) (by omega) (fun e => by have := own_of hB.io b e; omega) (fun e => by have := own_of hB.«to» b e; omega)).1⟩
theorem OffT.step {p : Nat} {w w' : World} {iv tv iv' tv' : Value} {jvs jvs' : List Value} (hS : CStep p w iv tv w' iv' tv') (hj : ∀ jv ∈ jvs', jv.ownBlock = none ∨ jv ∈ jvs) : ∀ b, OffT p iv tv jvs b → b < w.heap.size → OffT p iv' tv' jvs' b ∧ ∀ o, w'.cell? ⟨b, o, none⟩ = w.cell? ⟨b, o, none⟩ := fun b hb hl => by
  obtain ⟨h1, h2⟩ := hS.keep b hb.1 hl
  refine ⟨⟨h1, fun jv hm e => ?_⟩, h2⟩
  rcases hj jv hm with h3 | h3
  · rw [h3] at e; cases e
  · exact hb.2 jv h3 e
theorem Sta.step {B p : Nat} {w w' : World} {l l' : List Inn} {g : Int} {k k' : Nat} {bk : Bool} {iv tv iv' tv' x : Value} {ts : List CTk} {us jvs : List Value} (h : Sta B p w l g k bk iv tv ts us jvs x) (hS : CStep p w iv tv w' iv' tv') (hB : Bld B p w' l' g k' bk iv' tv' us.reverse) : Sta B p w' l' g k' bk iv' tv' ts us jvs x := by
  refine ⟨hB, h.tod.keep hS.size (OffT.step hS fun jv hm => .inr hm) (fun jv hm b hb => ?_), fun jv hm b hb => ?_, h.xj⟩
  · have h1 := (h.jb jv (List.mem_cons_of_mem _ hm) b hb).1
    have hlt : b < w.heap.size := h.tod.low jv hm b hb
    exact (hS.block b hlt h1.1 h1.2.1 h1.2.2).1
  · obtain ⟨h1, h2⟩ := h.jb jv hm b hb
    exact ⟨(hS.keep b h1 h2).1, Nat.lt_of_lt_of_le h2 hS.size⟩
theorem Sta.below {B p : Nat} {w w' : World} {l : List Inn} {g : Int} {k : Nat} {bk : Bool} {iv tv x : Value} {ts : List CTk} {us jvs : List Value} (h : Sta B p w l g k bk iv tv ts us jvs x) (hb : Below w.heap.size w w') : Sta B p w' l g k bk iv tv ts us jvs x :=
  h.step (CStep.of_below hb) (h.bld.below hb)
theorem Sta.drop {B p : Nat} {w : World} {l : List Inn} {g : Int} {k : Nat} {bk : Bool} {iv tv x : Value} {ts : List CTk} {us jvs : List Value} (h : Sta B p w l g k bk iv tv ts us jvs x) : Sta B p w l g k bk iv tv ts us jvs nilS := by
  refine ⟨h.bld, h.tod.keep (Nat.le_refl _) (fun b hb _ => ⟨⟨hb.1, fun jv hm => ?_⟩, fun _ => rfl⟩) (fun _ _ _ _ => rfl), fun jv hm b hb => ?_, fun b hb => absurd hb (nil_own b)⟩
  · rcases List.mem_cons.1 hm with rfl | hm
    · exact absurd hb (nil_own b)
    · exact h.jb jv (List.mem_cons_of_mem _ hm) b hb
  · rcases List.mem_cons.1 hm with rfl | hm
    · exact nil_own b
    · exact hb.2 jv (List.mem_cons_of_mem _ hm)
theorem Sta.jrow {B p n : Nat} {w w' : World} {l : List Inn} {g : Int} {k : Nat} {bk : Bool} {iv tv x x' : Value} {ts : List CTk} {us jvs xs' : List Value} (h : Sta B p w l g k bk iv tv ts us jvs x) (hg : w.grownBy w' x.ownBlock) (hat : x'.ownBlock = x.ownBlock ∨ x'.ownBlock = some w.heap.size) (ho : w'.ownsRow B 3 1 x' n xs') : Sta B p w' l g k bk iv tv ts us jvs x' := by
  have hx : ∀ b, x.ownBlock = some b → OffC p iv tv b ∧ b < w.heap.size := fun b hb => h.jb x (List.mem_cons_self ..) b hb
  have hpl := h.bld.blk.lt
  have hib := fun b hb => co_own_lt h.bld.io b hb
  have htb := fun b hb => co_own_lt h.bld.«to» b hb
  have hoff : ∀ b, x'.ownBlock = some b → OffC p iv tv b := fun b hb => by
    rcases hat with e | e
    · exact (hx b (by rw [← e]; exact hb)).1
    · rw [e] at hb; injection hb with hb; subst hb
      exact ⟨by omega, fun e => by have := hib _ e; omega, fun e => by have := htb _ e; omega⟩
  have hkeep : ∀ b, b < w.heap.size → x.ownBlock ≠ some b → w'.heap[b]? = w.heap[b]? := fun b hb hne => hg.block b hb (fun e => hne e.symm)
  refine ⟨h.bld.same (hkeep p hpl fun e => (hx p e).1.1 rfl) (fun b hb => hkeep b (hib b hb) fun e => (hx b e).1.2.1 hb) (fun b hb => hkeep b (htb b hb) fun e => (hx b e).1.2.2 hb), h.tod.keep hg.size (fun b hb hl => ⟨⟨hb.1, fun jv hm e => ?_⟩, fun o => World.cell?_of_block (w := w) (a := ⟨b, o, none⟩) (hkeep b hl (hb.2 x (List.mem_cons_self ..)))⟩) (fun jv hm b hb => hkeep b (h.jb jv (List.mem_cons_of_mem _ hm) b hb).2 fun e => h.xj b e jv hm hb), fun jv hm b hb => ?_, fun b hb jv hm e => ?_⟩
  · rcases List.mem_cons.1 hm with rfl | hm
    · exact ⟨hoff b hb, co_own_lt ho b hb⟩
    · obtain ⟨h1, h2⟩ := h.jb jv (List.mem_cons_of_mem _ hm) b hb
      exact ⟨h1, Nat.lt_of_lt_of_le h2 hg.size⟩
  · rcases hat with e2 | e2
    · exact h.xj b (by rw [← e2]; exact hb) jv hm e
    · rw [e2] at hb; injection hb with hb
      have := (h.jb jv (List.mem_cons_of_mem _ hm) b e).2
      omega
  · rcases List.mem_cons.1 hm with rfl | hm
    · rcases hat with e2 | e2
      · exact hb.2 x (List.mem_cons_self ..) (by rw [← e2]; exact e)
      · rw [e2] at e; injection e with e; omega
    · exact hb.2 jv (List.mem_cons_of_mem _ hm) e
theorem Sta.ahead {B p : Nat} {w w' : World} {l l' : List Inn} {g : Int} {k k' : Nat} {bk : Bool} {iv tv iv' tv' x : Value} {ts : List CTk} {us jvs : List Value} {t1 t2 : CTk} {v1 v2 : Value} (h : Sta B p w l g k bk iv tv ts us jvs x) (hS : CStep p w iv tv w' iv' tv') (hB : Bld B p w' l' g k' bk iv' tv' (us.reverse ++ [v2, v1]))
    (h1 : TkAt B p (OffT p iv' tv' (x :: jvs)) w' t1 v1 nilS) (h2 : TkAt B p (OffT p iv' tv' (x :: jvs)) w' t2 v2 x) : Sta B p w' l' g k' bk iv' tv' (t1 :: t2 :: ts) (v1 :: v2 :: us) (nilS :: x :: jvs) nilS := by
  have hin : ∀ jv, jv ∈ nilS :: nilS :: x :: jvs → jv = nilS ∨ jv ∈ x :: jvs := fun jv hm => by
    rcases List.mem_cons.1 hm with h | hm
    · exact .inl h
    · exact List.mem_cons.1 hm
  have hO : ∀ b, OffT p iv' tv' (x :: jvs) b → b < w'.heap.size → OffT p iv' tv' (nilS :: nilS :: x :: jvs) b ∧ ∀ o, w'.cell? ⟨b, o, none⟩ = w'.cell? ⟨b, o, none⟩ := fun b hb _ => ⟨⟨hb.1, fun jv hm => by
    rcases hin jv hm with rfl | hm
    · exact nil_own b
    · exact hb.2 jv hm⟩, fun _ => rfl⟩
  have hjb : ∀ jv ∈ x :: jvs, ∀ b, jv.ownBlock = some b → OffC p iv' tv' b ∧ b < w'.heap.size := fun jv hm b hb => by
    obtain ⟨h3, h4⟩ := h.jb jv hm b hb
    exact ⟨(hS.keep b h3 h4).1, Nat.lt_of_lt_of_le h4 hS.size⟩
  refine ⟨by rw [List.reverse_cons, List.reverse_cons, List.append_assoc]; exact hB, .cons (h1.keep (Nat.le_refl _) hO fun _ _ => rfl) (fun b hb => absurd hb (nil_own b)) (.cons (h2.keep (Nat.le_refl _) hO fun _ _ => rfl) (fun b hb => ⟨(hjb x (List.mem_cons_self ..) b hb).2, h.xj b hb⟩) (h.tod.keep hS.size (OffT.step hS fun jv hm => ?_) (fun jv hm b hb => ?_))), fun jv hm b hb => ?_, fun b hb => absurd hb (nil_own b)⟩
  · rcases hin jv hm with rfl | hm
    · exact .inl rfl
    · exact .inr hm
  · have h3 := (h.jb jv (List.mem_cons_of_mem _ hm) b hb).1
    exact (hS.block b (h.tod.low jv hm b hb) h3.1 h3.2.1 h3.2.2).1
  · rcases hin jv hm with rfl | hm
    · exact absurd hb (nil_own b)
    · exact hjb jv hm b hb
abbrev aheadW (p : Nat) (w : World) (u v2 : Value) : World :=
  (((w.alloc (.cells #[ptr p] 98)).alloc (.cells #[u] 37)).alloc (.cells #[.func (.func 46) #[] #[ptr w.heap.size, ptr (w.heap.size + 1)], v2] 1)).drew
theorem ahead_row {p : Nat} (w : World) (u v2 : Value) : ∀ j (hj : j < [Value.func (.func 46) #[] #[ptr w.heap.size, ptr (w.heap.size + 1)], v2].length), (aheadW p w u v2).cell? ⟨w.heap.size + 2, j, none⟩ = some [Value.func (.func 46) #[] #[ptr w.heap.size, ptr (w.heap.size + 1)], v2][j] := fun j hj => by
  have hR := Blk.new ((w.alloc (.cells #[ptr p] 98)).alloc (.cells #[u] 37)) #[Value.func (.func 46) #[] #[ptr w.heap.size, ptr (w.heap.size + 1)], v2] 1 (w.heap.size + 2) (by simp)
  rw [show (aheadW p w u v2).cell? ⟨w.heap.size + 2, j, none⟩ = ((((w.alloc (.cells #[ptr p] 98)).alloc (.cells #[u] 37)).alloc (.cells #[.func (.func 46) #[] #[ptr w.heap.size, ptr (w.heap.size + 1)], v2] 1))).cell? ⟨w.heap.size + 2, j, none⟩ from rfl, hR.cell j]
  match j, hj with
  | 0, _ => rfl
  | 1, _ => rfl
theorem ahead_below (p : Nat) (w : World) (u v2 : Value) : Below w.heap.size w (aheadW p w u v2) :=
  Below.drew ((((Below.refl _ w).alloc (Nat.le_refl _) _).alloc (by simp) _).alloc (by simp; omega) _)
theorem next_ahead {B p : Nat} {w : World} {l : List Inn} {g : Int} {k : Nat} {bk : Bool} {iv tv u v2 x : Value} {ts : List CTk} {us jvs : List Value} {d : Nd} {t2 : CTk} (h : Sta B p w l g k bk iv tv ts us jvs x) (hd : NdX (OffT p iv tv (x :: jvs)) w d u) (h2 : TkAt B p (OffT p iv tv (x :: jvs)) w t2 v2 x)
    (hf : ∃ f a b, v2 = .func f a b) (hus : us.length ≤ 4000000) :
    Calls Try.prog 34 #[ptr p, .slice (some ⟨w.heap.size + 2, 0, none⟩) 2 2] (aheadW p w u v2) fun e w6 => e = .returned (.tuple #[]) ∧ (∃ tv' us' jvs', Sta B p w6 l g k bk iv tv' (.lay d :: t2 :: ts) us' jvs' nilS ∧ us'.length = us.length + 2) ∧ Below B w w6 ∧ (∀ b o, b < w.heap.size → OffC p iv tv b → w6.cell? ⟨b, o, none⟩ = w.cell? ⟨b, o, none⟩) := by
  have hb5 := ahead_below p w u v2
  have hsz : (aheadW p w u v2).heap.size = w.heap.size + 3 := by simp [aheadW]
  have hG : ∀ y, w.heap.size ≤ y → OffC p iv tv y := fun y hy => ⟨fun e => by have := h.bld.blk.lt; omega, fun e => by have := co_own_lt h.bld.io _ e; omega, fun e => by have := co_own_lt h.bld.«to» _ e; omega⟩
  have hT : ∀ y, w.heap.size ≤ y → OffT p iv tv (x :: jvs) y := fun y hy => ⟨hG y hy, fun jv hm e => by have := (h.jb jv hm y e).2; omega⟩
  have hN := next_any [Value.func (.func 46) #[] #[ptr w.heap.size, ptr (w.heap.size + 1)], v2] (w.heap.size + 2) 2 (aheadW p w u v2) (h.bld.below hb5) (ahead_row w u v2) (by rw [hsz]; omega) (hG _ (by omega)) (fun v hv => by
    simp only [List.mem_cons, List.not_mem_nil, or_false] at hv
    rcases hv with rfl | rfl
    · exact ⟨_, _, _, rfl⟩
    · exact hf) (by simp) (by rw [List.length_reverse]; exact hus)
  refine hN.mono ?_
  rintro e w6 ⟨rfl, tv6, hB6, hS6⟩
  have hS0 := (CStep.of_below (p := p) (iv := iv) (tv := tv) hb5).trans hS6
  have hnone : ∀ (W W' : World) (b : Nat), nilS.ownBlock = some b → W'.heap[b]? = W.heap[b]? := fun _ _ b e => absurd e (nil_own b)
  have ht1 := laying_task (B := B) (p := p) (G := OffT p iv tv (x :: jvs)) hd (fun b hb _ => hb) (hT _ (by omega)) (hT _ (by omega))
  have hbX : Below ((w.alloc (.cells #[ptr p] 98)).alloc (.cells #[u] 37)).heap.size ((w.alloc (.cells #[ptr p] 98)).alloc (.cells #[u] 37)) (aheadW p w u v2) := Below.drew ((Below.refl _ _).alloc (Nat.le_refl _) _)
  have hF : ∀ b, OffT p iv tv (x :: jvs) b → b < (aheadW p w u v2).heap.size → OffT p iv tv6 (x :: jvs) b ∧ ∀ o, w6.cell? ⟨b, o, none⟩ = (aheadW p w u v2).cell? ⟨b, o, none⟩ := OffT.step hS6 fun jv hm => .inr hm
  have ht1 := (ht1.keep hbX.size (fun b hb hl => ⟨hb, fun o => hbX.cell (p := ⟨b, o, none⟩) hl⟩) (hnone _ _)).keep hS6.size hF (hnone _ _)
  have hxb : ∀ b, x.ownBlock = some b → (aheadW p w u v2).heap[b]? = w.heap[b]? ∧ w6.heap[b]? = (aheadW p w u v2).heap[b]? := fun b hb => by
    obtain ⟨h3, h4⟩ := h.jb x (List.mem_cons_self ..) b hb
    exact ⟨hb5.block b h4, (hS6.block b (by rw [hsz]; omega) h3.1 h3.2.1 h3.2.2).1⟩
  have ht2 := (h2.keep hb5.size (fun b hb hl => ⟨hb, fun o => hb5.cell (p := ⟨b, o, none⟩) hl⟩) (fun b hb => (hxb b hb).1)).keep hS6.size hF (fun b hb => (hxb b hb).2)
  refine ⟨rfl, ⟨tv6, _, _, h.ahead hS0 hB6 ht1 ht2, by simp⟩, hS0.low h.bld, fun b o hb ho => (hS0.keep b ho hb).2 o⟩
end Go.Proofs.Ytihfenkphhnbcaa
namespace Go.Proofs.Ytihfenkphhnbcaa
open Go Go.RowKit
theorem Sta.offNew {B p : Nat} {w : World} {l : List Inn} {g : Int} {k : Nat} {bk : Bool} {iv tv x : Value} {ts : List CTk} {us jvs : List Value} (h : Sta B p w l g k bk iv tv ts us jvs x) {y : Nat} (hy : w.heap.size ≤ y) : OffT p iv tv (x :: jvs) y :=
  ⟨⟨fun e => by have := h.bld.blk.lt; omega, fun e => by have := co_own_lt h.bld.io _ e; omega, fun e => by have := co_own_lt h.bld.«to» _ e; omega⟩, fun jv hm e => by have := (h.jb jv hm y e).2; omega⟩
set_option linter.unusedSimpArgs false in
set_option maxRecDepth 100000 in
set_option maxHeartbeats 4000000 in
theorem inturn_any {B p : Nat} {l : List Inn} {g : Int} {k : Nat} {bk : Bool} {iv tv : Value} {ts : List CTk} {us jvs : List Value} (ds : List Nd) (a : Option Addr) (cap : Nat) (w : World) (h : Sta B p w l g k bk iv tv ts us jvs nilS) (hv : NdRw (OffT p iv tv (nilS :: jvs)) w ds a cap) (hus : us.length ≤ 4000000) :
    Calls Try.prog 50 #[ptr p, .slice a ds.length cap] w fun e w' => e = .returned (.tuple #[]) ∧ (∃ iv' tv' us' jvs', Sta B p w' l g k bk iv' tv' (coTurn ds ++ ts) us' jvs' nilS ∧ us'.length ≤ us.length + 2) ∧ Below B w w' := by
  have hmf : ∀ (fn : Fn) (first cap : Array Value) (w : World), (Instr.makeFunc fn first cap).run Try.prog w = .ok (.func fn first cap) w := fun _ _ _ _ => rfl
  have hAa := ((Below.refl w.heap.size w).alloc (Nat.le_refl _) (.cells #[ptr p] 98)).alloc (by simp) (.cells #[.slice a ds.length cap] 68)
  have hb0 := ((Boxed.new w 98 (ptr p)).alloc (.cells #[.slice a ds.length cap] 68)).cell
  have hb1 := (Boxed.new (w.alloc (.cells #[ptr p] 98)) 68 (.slice a ds.length cap)).cell
  rw [World.size_alloc] at hb1
  have hsz : ((w.alloc (.cells #[ptr p] 98)).alloc (.cells #[.slice a ds.length cap] 68)).heap.size = w.heap.size + 2 := by simp
  generalize hW1 : (w.alloc (.cells #[ptr p] 98)).alloc (.cells #[.slice a ds.length cap] 68) = W1 at *
  have hS1 := h.below hAa
  have hlow1 := (CStep.of_below (p := p) (iv := iv) (tv := tv) hAa).low h.bld
  cases ds with
  | nil =>
    subst hW1
    have Hf := Lib.hid (And.intro hS1 hlow1)
    clear h hv hAa hS1 hlow1
    go_enter Try.func50, Try.ntmps50
    go_wp2_with fail
    go_end0
    exact ⟨rfl, ⟨_, _, _, _, Hf.out.1, by omega⟩, Hf.out.2⟩
  | cons d ds =>
    have hlp : (0 : Int) < ((d :: ds).length : Int) := by rw [List.length_cons]; omega
    obtain ⟨n, hn⟩ : ∃ n, (d :: ds).length = n := ⟨_, rfl⟩
    have hv1 := hv.below hAa
    obtain ⟨b, o, rfl, hFb, hbl, hx⟩ := hv1.2.2 (by simp)
    obtain ⟨u, hu, hnd⟩ := hx 0 (by simp)
    have hu' : W1.cell? ⟨b, o, none⟩ = some u := hu
    have hsh : (∃ T q, u = .iface T q) ∨ u = .nilIface := hnd.elim fun _ h => nd_shape h
    have hoff0 := (h.offNew (y := w.heap.size) (Nat.le_refl _)).1
    have hoff1 := (h.offNew (y := w.heap.size + 1) (by omega)).1
    have hoff2 := hFb.1
    have ht2 : TkAt B p (OffT p iv tv (nilS :: jvs)) W1 (.turn ds) (Value.func (.func 54) #[] #[ptr w.heap.size, ptr (w.heap.size + 1)]) nilS :=
      ⟨rfl, _, _, _, _, d, rfl, ⟨h.offNew (Nat.le_refl _), by omega, hb0⟩, ⟨h.offNew (by omega), by omega, hb1⟩, hv1⟩
    have Hh := Lib.hid hS1
    have Hnd := Lib.hid hnd
    have Ht2 := Lib.hid ht2
    have Hlow := Lib.hid hlow1
    have Hoff0 := Lib.hid hoff0
    have Hoff1 := Lib.hid hoff1
    have Hoff2 := Lib.hid hoff2
    clear h hv hv1 hx hnd hS1 ht2 hlow1 hoff0 hoff1 hoff2 hFb
    rw [hn] at hb1 hlp hW1
    rw [hn]
    have hall : W1.cell? ⟨w.heap.size, 0, none⟩ = some (ptr p) ∧ W1.cell? ⟨w.heap.size + 1, 0, none⟩ = some (.slice (some ⟨b, o, none⟩) n cap) ∧ W1.cell? ⟨b, o, none⟩ = some u ∧ True := ⟨hb0, hb1, hu', trivial⟩
    clear hb0 hb1 hu hu'
    go_enter Try.func50, Try.ntmps50
    have hcell := hall.2.1
    go_upto_region 2 with fail
    clear hcell
    have hmix : Try.prog.follows .mixedOrders = true := by kernel_rfl
    obtain ⟨i0, i1, i2, _⟩ := hall
    have hoff0 := Hoff0.out
    have hoff1 := Hoff1.out
    have hoff2 := Hoff2.out
    clear hsz hAa hbl Hoff0 Hoff1 Hoff2
    rcases hsh with ⟨T, q, rfl⟩ | rfl
    · have hN := next_ahead Hh.out Hnd.out Ht2.out ⟨_, _, _, rfl⟩ hus
      have hS0 : ∀ W' : World, W' = W1 ∨ Below W1.heap.size W1 W' → (fun W' : World => W'.cell? ⟨w.heap.size, 0, none⟩ = some (ptr p) ∧ W'.cell? ⟨w.heap.size + 1, 0, none⟩ = some (.slice (some ⟨b, o, none⟩) n cap) ∧ W'.cell? ⟨b, o, none⟩ = some (.iface T q) ∧ True) W' := fun W' hW => by
        rcases hW with rfl | hW
        · exact ⟨i0, i1, i2, trivial⟩
        · exact ⟨(hW.cell (World.block_lt_of_cell? _ _ i0)).trans i0, (hW.cell (World.block_lt_of_cell? _ _ i1)).trans i1, (hW.cell (World.block_lt_of_cell? _ _ i2)).trans i2, trivial⟩
      refine wp_region_held_drew (S := fun W' : World => W'.cell? ⟨w.heap.size, 0, none⟩ = some (ptr p) ∧ W'.cell? ⟨w.heap.size + 1, 0, none⟩ = some (.slice (some ⟨b, o, none⟩) n cap) ∧ W'.cell? ⟨b, o, none⟩ = some (.iface T q) ∧ True) hmix (hS0 _ (.inr (Below.drew (Below.refl _ _)))) (fun hHeld => ?_)
      refine wpAnyH_take (i := 0) (v := ?_) rfl (by kernel_rfl) (by kernel_rfl) (by kernel_rfl) (fun _ _ _ h => h) (Or.inl ⟨by rfl, ?_⟩) (by assumption) ?_
      rotate_left
      · intro W' hSw; obtain ⟨c0, c1, c2, _⟩ := hSw; go_simp; try with_reducible rfl
      try simp only [Act.put, List.setIfInBounds_toArray, List.set_cons_zero, List.set_cons_succ]
      refine wpAnyH_take (i := 1) (v := ?_) rfl (by kernel_rfl) (by kernel_rfl) (by kernel_rfl) (fun _ _ _ h => h) (Or.inl ⟨by rfl, ?_⟩) (by assumption) ?_
      rotate_left
      · intro W' hSw; obtain ⟨c0, c1, c2, _⟩ := hSw; go_simp; try with_reducible rfl
      try simp only [Act.put, List.setIfInBounds_toArray, List.set_cons_zero, List.set_cons_succ]
      refine wpAnyH_take (i := 2) (v := ?_) rfl (by kernel_rfl) (by kernel_rfl) (by kernel_rfl) (fun _ _ _ h => h) (Or.inl ⟨by rfl, ?_⟩) (by assumption) ?_
      rotate_left
      · intro W' hSw; obtain ⟨c0, c1, c2, _⟩ := hSw; go_simp; try with_reducible rfl
      try simp only [Act.put, List.setIfInBounds_toArray, List.set_cons_zero, List.set_cons_succ]
      refine wpAnyH_take (i := 3) (v := ?_) rfl (by kernel_rfl) (by kernel_rfl) (by kernel_rfl) (fun _ _ _ h => h) (Or.inl ⟨by rfl, ?_⟩) (by assumption) ?_
      rotate_left
      · intro W' hSw; obtain ⟨c0, c1, c2, _⟩ := hSw; go_simp; try with_reducible rfl
      try simp only [Act.put, List.setIfInBounds_toArray, List.set_cons_zero, List.set_cons_succ]
      refine wpAnyH_take (i := 4) (v := ?_) rfl (by kernel_rfl) (by kernel_rfl) (by kernel_rfl) (fun _ _ _ h => h) (Or.inl ⟨by rfl, ?_⟩) (by assumption) ?_
      rotate_left
      · intro W' hSw; obtain ⟨c0, c1, c2, _⟩ := hSw; go_simp; try with_reducible rfl
      try simp only [Act.put, List.setIfInBounds_toArray, List.set_cons_zero, List.set_cons_succ]
      refine wpAnyH_take (i := 6) (v := ?_) rfl (by kernel_rfl) (by kernel_rfl) (by kernel_rfl) (fun _ _ _ h => h) (Or.inl ⟨by rfl, ?_⟩) (by assumption) ?_
      rotate_left
      · intro W' hSw; obtain ⟨c0, c1, c2, _⟩ := hSw; go_simp; try with_reducible rfl
      try simp only [Act.put, List.setIfInBounds_toArray, List.set_cons_zero, List.set_cons_succ]
      refine wpAnyH_ready (rs := [5]) (by kernel_rfl) (by simp) ?_
      refine AllReadyH.cons rfl (fun K hK => ?_) AllReadyH.nil
      go_simp
      go_wp2_with (go_at_call 35; refine (laying_any _ _ _ (.inl ⟨_, _, rfl⟩)).mono ?_; rintro e w4 ⟨rfl, rfl⟩)
      refine hK.out _ _ (hS0 _ (.inr (Below.alloc (Below.alloc (Below.drew (Below.refl _ _)) (Nat.le_refl _) _) (by simp) _))) (fun hHeld2 => ?_)
      clear hK K hHeld
      try simp only [Act.put, List.setIfInBounds_toArray, List.set_cons_zero, List.set_cons_succ]
      refine wpAnyH_ready (rs := [7]) (by kernel_rfl) (by simp) ?_
      refine AllReadyH.cons rfl (fun K hK => ?_) AllReadyH.nil
      go_simp
      refine hK.out _ _ (hS0 _ (.inr (Below.alloc (Below.alloc (Below.alloc (Below.drew (Below.refl _ _)) (Nat.le_refl _) _) (by simp) _) (by simp; omega) _))) (fun hHeld3 => ?_)
      clear hK K hHeld2
      try simp only [Act.put, List.setIfInBounds_toArray, List.set_cons_zero, List.set_cons_succ]
      refine wpAnyH_ready (rs := [8]) (by kernel_rfl) (by simp) ?_
      refine AllReadyH.cons rfl (fun K hK => ?_) AllReadyH.nil
      go_simp
      go_wp2_with (go_at_call 34; refine hN.mono ?_; rintro e w6 ⟨rfl, hend, hlow, hcells⟩)
      refine hK.out _ _ ⟨(hcells _ _ (World.block_lt_of_cell? _ _ i0) hoff0).trans i0, (hcells _ _ (World.block_lt_of_cell? _ _ i1) hoff1).trans i1, (hcells _ _ (World.block_lt_of_cell? _ _ i2) hoff2).trans i2, trivial⟩ (fun hHeld4 => ?_)
      clear hK K hHeld3 hHeld4
      refine wpAnyH_done (by kernel_rfl) ?_ _
      go_end0
      obtain ⟨tv7, us7, jvs7, h7, h8⟩ := hend
      exact ⟨rfl, ⟨_, _, _, _, h7, by omega⟩, Hlow.out.trans hlow⟩
    · have hN := next_ahead Hh.out Hnd.out Ht2.out ⟨_, _, _, rfl⟩ hus
      have hS0 : ∀ W' : World, W' = W1 ∨ Below W1.heap.size W1 W' → (fun W' : World => W'.cell? ⟨w.heap.size, 0, none⟩ = some (ptr p) ∧ W'.cell? ⟨w.heap.size + 1, 0, none⟩ = some (.slice (some ⟨b, o, none⟩) n cap) ∧ W'.cell? ⟨b, o, none⟩ = some (.nilIface) ∧ True) W' := fun W' hW => by
        rcases hW with rfl | hW
        · exact ⟨i0, i1, i2, trivial⟩
        · exact ⟨(hW.cell (World.block_lt_of_cell? _ _ i0)).trans i0, (hW.cell (World.block_lt_of_cell? _ _ i1)).trans i1, (hW.cell (World.block_lt_of_cell? _ _ i2)).trans i2, trivial⟩
      refine wp_region_held_drew (S := fun W' : World => W'.cell? ⟨w.heap.size, 0, none⟩ = some (ptr p) ∧ W'.cell? ⟨w.heap.size + 1, 0, none⟩ = some (.slice (some ⟨b, o, none⟩) n cap) ∧ W'.cell? ⟨b, o, none⟩ = some (.nilIface) ∧ True) hmix (hS0 _ (.inr (Below.drew (Below.refl _ _)))) (fun hHeld => ?_)
      refine wpAnyH_take (i := 0) (v := ?_) rfl (by kernel_rfl) (by kernel_rfl) (by kernel_rfl) (fun _ _ _ h => h) (Or.inl ⟨by rfl, ?_⟩) (by assumption) ?_
      rotate_left
      · intro W' hSw; obtain ⟨c0, c1, c2, _⟩ := hSw; go_simp; try with_reducible rfl
      try simp only [Act.put, List.setIfInBounds_toArray, List.set_cons_zero, List.set_cons_succ]
      refine wpAnyH_take (i := 1) (v := ?_) rfl (by kernel_rfl) (by kernel_rfl) (by kernel_rfl) (fun _ _ _ h => h) (Or.inl ⟨by rfl, ?_⟩) (by assumption) ?_
      rotate_left
      · intro W' hSw; obtain ⟨c0, c1, c2, _⟩ := hSw; go_simp; try with_reducible rfl
      try simp only [Act.put, List.setIfInBounds_toArray, List.set_cons_zero, List.set_cons_succ]
      refine wpAnyH_take (i := 2) (v := ?_) rfl (by kernel_rfl) (by kernel_rfl) (by kernel_rfl) (fun _ _ _ h => h) (Or.inl ⟨by rfl, ?_⟩) (by assumption) ?_
      rotate_left
      · intro W' hSw; obtain ⟨c0, c1, c2, _⟩ := hSw; go_simp; try with_reducible rfl
      try simp only [Act.put, List.setIfInBounds_toArray, List.set_cons_zero, List.set_cons_succ]
      refine wpAnyH_take (i := 3) (v := ?_) rfl (by kernel_rfl) (by kernel_rfl) (by kernel_rfl) (fun _ _ _ h => h) (Or.inl ⟨by rfl, ?_⟩) (by assumption) ?_
      rotate_left
      · intro W' hSw; obtain ⟨c0, c1, c2, _⟩ := hSw; go_simp; try with_reducible rfl
      try simp only [Act.put, List.setIfInBounds_toArray, List.set_cons_zero, List.set_cons_succ]
      refine wpAnyH_take (i := 4) (v := ?_) rfl (by kernel_rfl) (by kernel_rfl) (by kernel_rfl) (fun _ _ _ h => h) (Or.inl ⟨by rfl, ?_⟩) (by assumption) ?_
      rotate_left
      · intro W' hSw; obtain ⟨c0, c1, c2, _⟩ := hSw; go_simp; try with_reducible rfl
      try simp only [Act.put, List.setIfInBounds_toArray, List.set_cons_zero, List.set_cons_succ]
      refine wpAnyH_take (i := 6) (v := ?_) rfl (by kernel_rfl) (by kernel_rfl) (by kernel_rfl) (fun _ _ _ h => h) (Or.inl ⟨by rfl, ?_⟩) (by assumption) ?_
      rotate_left
      · intro W' hSw; obtain ⟨c0, c1, c2, _⟩ := hSw; go_simp; try with_reducible rfl
      try simp only [Act.put, List.setIfInBounds_toArray, List.set_cons_zero, List.set_cons_succ]
      refine wpAnyH_ready (rs := [5]) (by kernel_rfl) (by simp) ?_
      refine AllReadyH.cons rfl (fun K hK => ?_) AllReadyH.nil
      go_simp
      go_wp2_with (go_at_call 35; refine (laying_any _ _ _ (.inr rfl)).mono ?_; rintro e w4 ⟨rfl, rfl⟩)
      refine hK.out _ _ (hS0 _ (.inr (Below.alloc (Below.alloc (Below.drew (Below.refl _ _)) (Nat.le_refl _) _) (by simp) _))) (fun hHeld2 => ?_)
      clear hK K hHeld
      try simp only [Act.put, List.setIfInBounds_toArray, List.set_cons_zero, List.set_cons_succ]
      refine wpAnyH_ready (rs := [7]) (by kernel_rfl) (by simp) ?_
      refine AllReadyH.cons rfl (fun K hK => ?_) AllReadyH.nil
      go_simp
      refine hK.out _ _ (hS0 _ (.inr (Below.alloc (Below.alloc (Below.alloc (Below.drew (Below.refl _ _)) (Nat.le_refl _) _) (by simp) _) (by simp; omega) _))) (fun hHeld3 => ?_)
      clear hK K hHeld2
      try simp only [Act.put, List.setIfInBounds_toArray, List.set_cons_zero, List.set_cons_succ]
      refine wpAnyH_ready (rs := [8]) (by kernel_rfl) (by simp) ?_
      refine AllReadyH.cons rfl (fun K hK => ?_) AllReadyH.nil
      go_simp
      go_wp2_with (go_at_call 34; refine hN.mono ?_; rintro e w6 ⟨rfl, hend, hlow, hcells⟩)
      refine hK.out _ _ ⟨(hcells _ _ (World.block_lt_of_cell? _ _ i0) hoff0).trans i0, (hcells _ _ (World.block_lt_of_cell? _ _ i1) hoff1).trans i1, (hcells _ _ (World.block_lt_of_cell? _ _ i2) hoff2).trans i2, trivial⟩ (fun hHeld4 => ?_)
      clear hK K hHeld3 hHeld4
      refine wpAnyH_done (by kernel_rfl) ?_ _
      go_end0
      obtain ⟨tv7, us7, jvs7, h7, h8⟩ := hend
      exact ⟨rfl, ⟨_, _, _, _, h7, by omega⟩, Hlow.out.trans hlow⟩
end Go.Proofs.Ytihfenkphhnbcaa
