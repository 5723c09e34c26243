/- The builder with its tasks; a row of jumps that no task has (x); tasks put ahead. -/
import Derived.Test.YtjjhkagpoicimaaCbJ
import Derived.Deep.RegionWith
namespace Go.Proofs.Ytjjhkagpoicimaa
open Go Go.RowKit

abbrev nilS : Value := .slice none 0 0
theorem nil_own (b : Nat) : nilS.ownBlock ≠ some b := fun e => by cases e
/-- The builder, and what is still to be done: ts in the order in which it will be done; us: the closures in that order (they lie the last first); x: a row of jumps that is no task's, or none. -/
structure Sta (B p : Nat) (w : World) (l : List Inn) (g : Int) (k : Nat) (bk : Bool) (iv tv : Value) (ts : List CTk) (us jvs : List Value) (x : Value) : Prop where
  bld : Bld B p w l g k bk iv tv us.reverse
  tod : Todo B p (OffT p iv tv (x :: jvs)) w ts us jvs
  jb : ∀ jv ∈ x :: jvs, ∀ b, jv.ownBlock = some b → OffC p iv tv b ∧ b < w.heap.size
  xj : ∀ b, x.ownBlock = some b → ∀ jv ∈ jvs, jv.ownBlock ≠ some b
theorem CStep.low {B p : Nat} {w w' : World} {l : List Inn} {g : Int} {k : Nat} {bk : Bool} {iv tv iv' tv' : Value} {ts : List Value} (h : CStep p w iv tv w' iv' tv') (hB : Bld B p w l g k bk iv tv ts) : Below B w w' :=
  ⟨h.os, h.tape, h.output, h.size, fun b hb => by
    have h1 := hB.bp
    have h2 := hB.blk.lt
    exact (h.block b (by omega) (by omega) (fun e => by have := own_of hB.io b e; omega) (fun e => by have := own_of hB.«to» b e; omega)).1⟩
theorem OffT.step {p : Nat} {w w' : World} {iv tv iv' tv' : Value} {jvs jvs' : List Value} (hS : CStep p w iv tv w' iv' tv') (hj : ∀ jv ∈ jvs', jv.ownBlock = none ∨ jv ∈ jvs) : ∀ b, OffT p iv tv jvs b → b < w.heap.size → OffT p iv' tv' jvs' b ∧ ∀ o, w'.cell? ⟨b, o, none⟩ = w.cell? ⟨b, o, none⟩ := fun b hb hl => by
  obtain ⟨h1, h2⟩ := hS.keep b hb.1 hl
  refine ⟨⟨h1, fun jv hm e => ?_⟩, h2⟩
  rcases hj jv hm with h3 | h3
  · rw [h3] at e; cases e
  · exact hb.2 jv h3 e
/-- A step of the builder's, with the tasks left. -/
theorem Sta.step {B p : Nat} {w w' : World} {l l' : List Inn} {g : Int} {k k' : Nat} {bk : Bool} {iv tv iv' tv' x : Value} {ts : List CTk} {us jvs : List Value} (h : Sta B p w l g k bk iv tv ts us jvs x) (hS : CStep p w iv tv w' iv' tv') (hB : Bld B p w' l' g k' bk iv' tv' us.reverse) : Sta B p w' l' g k' bk iv' tv' ts us jvs x := by
  refine ⟨hB, h.tod.keep hS.size (OffT.step hS fun jv hm => .inr hm) (fun jv hm b hb => ?_), fun jv hm b hb => ?_, h.xj⟩
  · have h1 := (h.jb jv (List.mem_cons_of_mem _ hm) b hb).1
    have hlt : b < w.heap.size := h.tod.low jv hm b hb
    exact (hS.block b hlt h1.1 h1.2.1 h1.2.2).1
  · obtain ⟨h1, h2⟩ := h.jb jv hm b hb
    exact ⟨(hS.keep b h1 h2).1, Nat.lt_of_lt_of_le h2 hS.size⟩
theorem Sta.below {B p : Nat} {w w' : World} {l : List Inn} {g : Int} {k : Nat} {bk : Bool} {iv tv x : Value} {ts : List CTk} {us jvs : List Value} (h : Sta B p w l g k bk iv tv ts us jvs x) (hb : Below w.heap.size w w') : Sta B p w' l g k bk iv tv ts us jvs x :=
  h.step (CStep.of_below hb) (h.bld.below hb)
theorem Sta.drop {B p : Nat} {w : World} {l : List Inn} {g : Int} {k : Nat} {bk : Bool} {iv tv x : Value} {ts : List CTk} {us jvs : List Value} (h : Sta B p w l g k bk iv tv ts us jvs x) : Sta B p w l g k bk iv tv ts us jvs nilS := by
  refine ⟨h.bld, h.tod.keep (Nat.le_refl _) (fun b hb _ => ⟨⟨hb.1, fun jv hm => ?_⟩, fun _ => rfl⟩) (fun _ _ _ _ => rfl), fun jv hm b hb => ?_, fun b hb => absurd hb (nil_own b)⟩
  · rcases List.mem_cons.1 hm with rfl | hm
    · exact absurd hb (nil_own b)
    · exact h.jb jv (List.mem_cons_of_mem _ hm) b hb
  · rcases List.mem_cons.1 hm with rfl | hm
    · exact nil_own b
    · exact hb.2 jv (List.mem_cons_of_mem _ hm)
/-- The spare row grown by append. -/
theorem Sta.jrow {B p n : Nat} {w w' : World} {l : List Inn} {g : Int} {k : Nat} {bk : Bool} {iv tv x x' : Value} {ts : List CTk} {us jvs xs' : List Value} (h : Sta B p w l g k bk iv tv ts us jvs x) (hg : w.grownBy w' x.ownBlock) (hat : x'.ownBlock = x.ownBlock ∨ x'.ownBlock = some w.heap.size) (ho : w'.ownsRow B 3 1 x' n xs') : Sta B p w' l g k bk iv tv ts us jvs x' := by
  have hx : ∀ b, x.ownBlock = some b → OffC p iv tv b ∧ b < w.heap.size := fun b hb => h.jb x (List.mem_cons_self ..) b hb
  have hpl := h.bld.blk.lt
  have hib := fun b hb => co_own_lt h.bld.io b hb
  have htb := fun b hb => co_own_lt h.bld.«to» b hb
  have hoff : ∀ b, x'.ownBlock = some b → OffC p iv tv b := fun b hb => by
    rcases hat with e | e
    · exact (hx b (by rw [← e]; exact hb)).1
    · rw [e] at hb; injection hb with hb; subst hb
      exact ⟨by omega, fun e => by have := hib _ e; omega, fun e => by have := htb _ e; omega⟩
  have hkeep : ∀ b, b < w.heap.size → x.ownBlock ≠ some b → w'.heap[b]? = w.heap[b]? := fun b hb hne => hg.block b hb (fun e => hne e.symm)
  refine ⟨h.bld.same (hkeep p hpl fun e => (hx p e).1.1 rfl) (fun b hb => hkeep b (hib b hb) fun e => (hx b e).1.2.1 hb) (fun b hb => hkeep b (htb b hb) fun e => (hx b e).1.2.2 hb), h.tod.keep hg.size (fun b hb hl => ⟨⟨hb.1, fun jv hm e => ?_⟩, fun o => World.cell?_of_block (w := w) (a := ⟨b, o, none⟩) (hkeep b hl (hb.2 x (List.mem_cons_self ..)))⟩) (fun jv hm b hb => hkeep b (h.jb jv (List.mem_cons_of_mem _ hm) b hb).2 fun e => h.xj b e jv hm hb), fun jv hm b hb => ?_, fun b hb jv hm e => ?_⟩
  · rcases List.mem_cons.1 hm with rfl | hm
    · exact ⟨hoff b hb, co_own_lt ho b hb⟩
    · obtain ⟨h1, h2⟩ := h.jb jv (List.mem_cons_of_mem _ hm) b hb
      exact ⟨h1, Nat.lt_of_lt_of_le h2 hg.size⟩
  · rcases hat with e2 | e2
    · exact h.xj b (by rw [← e2]; exact hb) jv hm e
    · rw [e2] at hb; injection hb with hb
      have := (h.jb jv (List.mem_cons_of_mem _ hm) b e).2
      omega
  · rcases List.mem_cons.1 hm with rfl | hm
    · rcases hat with e2 | e2
      · exact hb.2 x (List.mem_cons_self ..) (by rw [← e2]; exact e)
      · rw [e2] at e; injection e with e; omega
    · exact hb.2 jv (List.mem_cons_of_mem _ hm) e
/-- Two tasks put ahead, the second with the spare row. -/
theorem Sta.ahead {B p : Nat} {w w' : World} {l l' : List Inn} {g : Int} {k k' : Nat} {bk : Bool} {iv tv iv' tv' x : Value} {ts : List CTk} {us jvs : List Value} {t1 t2 : CTk} {v1 v2 : Value} (h : Sta B p w l g k bk iv tv ts us jvs x) (hS : CStep p w iv tv w' iv' tv') (hB : Bld B p w' l' g k' bk iv' tv' (us.reverse ++ [v2, v1]))
    (h1 : TkAt B p (OffT p iv' tv' (x :: jvs)) w' t1 v1 nilS) (h2 : TkAt B p (OffT p iv' tv' (x :: jvs)) w' t2 v2 x) : Sta B p w' l' g k' bk iv' tv' (t1 :: t2 :: ts) (v1 :: v2 :: us) (nilS :: x :: jvs) nilS := by
  have hin : ∀ jv, jv ∈ nilS :: nilS :: x :: jvs → jv = nilS ∨ jv ∈ x :: jvs := fun jv hm => by
    rcases List.mem_cons.1 hm with h | hm
    · exact .inl h
    · exact List.mem_cons.1 hm
  have hO : ∀ b, OffT p iv' tv' (x :: jvs) b → b < w'.heap.size → OffT p iv' tv' (nilS :: nilS :: x :: jvs) b ∧ ∀ o, w'.cell? ⟨b, o, none⟩ = w'.cell? ⟨b, o, none⟩ := fun b hb _ => ⟨⟨hb.1, fun jv hm => by
    rcases hin jv hm with rfl | hm
    · exact nil_own b
    · exact hb.2 jv hm⟩, fun _ => rfl⟩
  have hjb : ∀ jv ∈ x :: jvs, ∀ b, jv.ownBlock = some b → OffC p iv' tv' b ∧ b < w'.heap.size := fun jv hm b hb => by
    obtain ⟨h3, h4⟩ := h.jb jv hm b hb
    exact ⟨(hS.keep b h3 h4).1, Nat.lt_of_lt_of_le h4 hS.size⟩
  refine ⟨by rw [List.reverse_cons, List.reverse_cons, List.append_assoc]; exact hB, .cons (h1.keep (Nat.le_refl _) hO fun _ _ => rfl) (fun b hb => absurd hb (nil_own b)) (.cons (h2.keep (Nat.le_refl _) hO fun _ _ => rfl) (fun b hb => ⟨(hjb x (List.mem_cons_self ..) b hb).2, h.xj b hb⟩) (h.tod.keep hS.size (OffT.step hS fun jv hm => ?_) (fun jv hm b hb => ?_))), fun jv hm b hb => ?_, fun b hb => absurd hb (nil_own b)⟩
  · rcases hin jv hm with rfl | hm
    · exact .inl rfl
    · exact .inr hm
  · have h3 := (h.jb jv (List.mem_cons_of_mem _ hm) b hb).1
    exact (hS.block b (h.tod.low jv hm b hb) h3.1 h3.2.1 h3.2.2).1
  · rcases hin jv hm with rfl | hm
    · exact absurd hb (nil_own b)
    · exact hjb jv hm b hb
/-- What the region lays ahead of next: laying's two boxes, the row of the two closures. -/
abbrev aheadW (p : Nat) (w : World) (u v2 : Value) : World :=
  (((w.alloc (.cells #[ptr p] 98)).alloc (.cells #[u] 37)).alloc (.cells #[.func (.func 46) #[] #[ptr w.heap.size, ptr (w.heap.size + 1)], v2] 1)).drew
theorem ahead_row {p : Nat} (w : World) (u v2 : Value) : ∀ j (hj : j < [Value.func (.func 46) #[] #[ptr w.heap.size, ptr (w.heap.size + 1)], v2].length), (aheadW p w u v2).cell? ⟨w.heap.size + 2, j, none⟩ = some [Value.func (.func 46) #[] #[ptr w.heap.size, ptr (w.heap.size + 1)], v2][j] := fun j hj => by
  have hR := Blk.new ((w.alloc (.cells #[ptr p] 98)).alloc (.cells #[u] 37)) #[Value.func (.func 46) #[] #[ptr w.heap.size, ptr (w.heap.size + 1)], v2] 1 (w.heap.size + 2) (by simp)
  rw [show (aheadW p w u v2).cell? ⟨w.heap.size + 2, j, none⟩ = ((((w.alloc (.cells #[ptr p] 98)).alloc (.cells #[u] 37)).alloc (.cells #[.func (.func 46) #[] #[ptr w.heap.size, ptr (w.heap.size + 1)], v2] 1))).cell? ⟨w.heap.size + 2, j, none⟩ from rfl, hR.cell j]
  match j, hj with
  | 0, _ => rfl
  | 1, _ => rfl
theorem ahead_below (p : Nat) (w : World) (u v2 : Value) : Below w.heap.size w (aheadW p w u v2) :=
  Below.drew ((((Below.refl _ w).alloc (Nat.le_refl _) _).alloc (by simp) _).alloc (by simp; omega) _)
/-- The end of such a region: next puts both tasks ahead. -/
theorem next_ahead {B p : Nat} {w : World} {l : List Inn} {g : Int} {k : Nat} {bk : Bool} {iv tv u v2 x : Value} {ts : List CTk} {us jvs : List Value} {d : Nd} {t2 : CTk} (h : Sta B p w l g k bk iv tv ts us jvs x) (hd : NdX (OffT p iv tv (x :: jvs)) w d u) (h2 : TkAt B p (OffT p iv tv (x :: jvs)) w t2 v2 x)
    (hf : ∃ f a b, v2 = .func f a b) (hus : us.length ≤ 4000000) :
    Calls Try.prog 34 #[ptr p, .slice (some ⟨w.heap.size + 2, 0, none⟩) 2 2] (aheadW p w u v2) fun e w6 => e = .returned (.tuple #[]) ∧ (∃ tv' us' jvs', Sta B p w6 l g k bk iv tv' (.lay d :: t2 :: ts) us' jvs' nilS ∧ us'.length = us.length + 2) ∧ Below B w w6 ∧ (∀ b o, b < w.heap.size → OffC p iv tv b → w6.cell? ⟨b, o, none⟩ = w.cell? ⟨b, o, none⟩) := by
  have hb5 := ahead_below p w u v2
  have hsz : (aheadW p w u v2).heap.size = w.heap.size + 3 := by simp [aheadW]
  have hG : ∀ y, w.heap.size ≤ y → OffC p iv tv y := fun y hy => ⟨fun e => by have := h.bld.blk.lt; omega, fun e => by have := co_own_lt h.bld.io _ e; omega, fun e => by have := co_own_lt h.bld.«to» _ e; omega⟩
  have hT : ∀ y, w.heap.size ≤ y → OffT p iv tv (x :: jvs) y := fun y hy => ⟨hG y hy, fun jv hm e => by have := (h.jb jv hm y e).2; omega⟩
  have hN := next_any [Value.func (.func 46) #[] #[ptr w.heap.size, ptr (w.heap.size + 1)], v2] (w.heap.size + 2) 2 (aheadW p w u v2) (h.bld.below hb5) (ahead_row w u v2) (by rw [hsz]; omega) (hG _ (by omega)) (fun v hv => by
    simp only [List.mem_cons, List.not_mem_nil, or_false] at hv
    rcases hv with rfl | rfl
    · exact ⟨_, _, _, rfl⟩
    · exact hf) (by simp) (by rw [List.length_reverse]; exact hus)
  refine hN.mono ?_
  rintro e w6 ⟨rfl, tv6, hB6, hS6⟩
  have hS0 := (CStep.of_below (p := p) (iv := iv) (tv := tv) hb5).trans hS6
  have hnone : ∀ (W W' : World) (b : Nat), nilS.ownBlock = some b → W'.heap[b]? = W.heap[b]? := fun _ _ b e => absurd e (nil_own b)
  have ht1 := laying_task (B := B) (p := p) (G := OffT p iv tv (x :: jvs)) hd (fun b hb _ => hb) (hT _ (by omega)) (hT _ (by omega))
  have hbX : Below ((w.alloc (.cells #[ptr p] 98)).alloc (.cells #[u] 37)).heap.size ((w.alloc (.cells #[ptr p] 98)).alloc (.cells #[u] 37)) (aheadW p w u v2) := Below.drew ((Below.refl _ _).alloc (Nat.le_refl _) _)
  have hF : ∀ b, OffT p iv tv (x :: jvs) b → b < (aheadW p w u v2).heap.size → OffT p iv tv6 (x :: jvs) b ∧ ∀ o, w6.cell? ⟨b, o, none⟩ = (aheadW p w u v2).cell? ⟨b, o, none⟩ := OffT.step hS6 fun jv hm => .inr hm
  have ht1 := (ht1.keep hbX.size (fun b hb hl => ⟨hb, fun o => hbX.cell (p := ⟨b, o, none⟩) hl⟩) (hnone _ _)).keep hS6.size hF (hnone _ _)
  have hxb : ∀ b, x.ownBlock = some b → (aheadW p w u v2).heap[b]? = w.heap[b]? ∧ w6.heap[b]? = (aheadW p w u v2).heap[b]? := fun b hb => by
    obtain ⟨h3, h4⟩ := h.jb x (List.mem_cons_self ..) b hb
    exact ⟨hb5.block b h4, (hS6.block b (by rw [hsz]; omega) h3.1 h3.2.1 h3.2.2).1⟩
  have ht2 := (h2.keep hb5.size (fun b hb hl => ⟨hb, fun o => hb5.cell (p := ⟨b, o, none⟩) hl⟩) (fun b hb => (hxb b hb).1)).keep hS6.size hF (fun b hb => (hxb b hb).2)
  refine ⟨rfl, ⟨tv6, _, _, h.ahead hS0 hB6 ht1 ht2, by simp⟩, hS0.low h.bld, fun b o hb ho => (hS0.keep b ho hb).2 o⟩
end Go.Proofs.Ytjjhkagpoicimaa
