/- The builder's list worked off: whole. -/
import Derived.Test.YtjjhkagpoicimaaCbR
import Derived.Deep.LoopGhost
namespace Go.Proofs.Ytjjhkagpoicimaa
open Go Go.RowKit

/-- Any task, as it is called. -/
theorem task_any {B p : Nat} {l : List Inn} {g : Int} {k : Nat} {bk : Bool} {iv tv v jv : Value} {ts : List CTk} {us jvs : List Value} (t : CTk) (w : World) (h : Sta B p w l g k bk iv tv ts us jvs jv) (ht : TkAt B p (OffT p iv tv (jv :: jvs)) w t v jv) (hf : Fit l.length k t) (hpos : 0 < l.length) (hbd : Bd l) (hus : us.length ≤ 4000000) (hl : l.length ≤ 3000) (hk : k ≤ l.length) :
    (∃ x y : Nat, v = .func (.func 46) #[] #[ptr x, ptr y] ∧ Calls Try.prog 46 #[ptr x, ptr y] w (Did B p g bk w l k t ts us)) ∨
    (∃ x y : Nat, v = .func (.func 53) #[] #[ptr x, ptr y] ∧ Calls Try.prog 53 #[ptr x, ptr y] w (Did B p g bk w l k t ts us)) ∨
    (∃ x y : Nat, v = .func (.func 54) #[] #[ptr x, ptr y] ∧ Calls Try.prog 54 #[ptr x, ptr y] w (Did B p g bk w l k t ts us)) ∨
    (∃ x y z r : Nat, v = .func (.func 58) #[] #[ptr x, ptr y, ptr z, ptr r] ∧ Calls Try.prog 58 #[ptr x, ptr y, ptr z, ptr r] w (Did B p g bk w l k t ts us)) ∨
    (∃ x z y j : Nat, v = .func (.func 56) #[] #[ptr x, ptr z, ptr y, ptr j] ∧ Calls Try.prog 56 #[ptr x, ptr z, ptr y, ptr j] w (Did B p g bk w l k t ts us)) ∨
    (∃ x y : Nat, v = .func (.func 55) #[] #[ptr y, ptr x] ∧ Calls Try.prog 55 #[ptr y, ptr x] w (Did B p g bk w l k t ts us)) := by
  cases t with
  | lay d => exact Or.inl <| task_lay d w h ht hf hpos hbd hus hl hk
  | save m => exact Or.inr <| Or.inl <| task_save m w h ht hf hpos hbd hus hl hk
  | turn ds => exact Or.inr <| Or.inr <| Or.inl <| task_turn ds w h ht hf hpos hbd hus hl hk
  | rep mn mx P q => exact Or.inr <| Or.inr <| Or.inr <| Or.inl <| task_rep mn mx P q w h ht hf hpos hbd hus hl hk
  | branch s ds js => exact Or.inr <| Or.inr <| Or.inr <| Or.inr <| Or.inl <| task_branch s ds js w h ht hf hpos hbd hus hl hk
  | jumps js => exact Or.inr <| Or.inr <| Or.inr <| Or.inr <| Or.inr <| task_jumps js w h ht hf hpos hbd hus hl hk
/-- The last task taken off. -/
theorem Sta.pop {B p : Nat} {w : World} {l : List Inn} {g : Int} {k : Nat} {bk : Bool} {iv tv : Value} {t : CTk} {ts : List CTk} {us jvs : List Value} (h : Sta B p w l g k bk iv tv (t :: ts) us jvs nilS) :
    ∃ u us' jv jvs' q cap, us = u :: us' ∧ us'.length = ts.length ∧ tv = .slice (some ⟨q, 0, none⟩) (us'.length + 1) cap ∧ us'.length + 1 ≤ cap ∧ w.cell? ⟨q, us'.length, none⟩ = some u ∧
      Sta B p (w.setCell ⟨p, 4, none⟩ (.slice (some ⟨q, 0, none⟩) us'.length cap)) l g k bk iv (.slice (some ⟨q, 0, none⟩) us'.length cap) ts us' jvs' jv ∧
      TkAt B p (OffT p iv (.slice (some ⟨q, 0, none⟩) us'.length cap) (jv :: jvs')) (w.setCell ⟨p, 4, none⟩ (.slice (some ⟨q, 0, none⟩) us'.length cap)) t u jv ∧
      Below B w (w.setCell ⟨p, 4, none⟩ (.slice (some ⟨q, 0, none⟩) us'.length cap)) := by
  obtain ⟨hb, ht, hjb, hxj⟩ := h
  cases ht with
  | @cons _ u jv _ us' jvs' hT hj hk =>
    have hto := hb.«to»
    rw [List.reverse_cons, List.length_append, List.length_reverse, List.length_singleton] at hto
    obtain ⟨q, cap, rfl⟩ := ownsRow_succ hto
    have hcap := row_cap hto
    have hpop := ownsRow_pop (by simp) hto
    have hcell : w.cell? ⟨q, us'.length, none⟩ = some u := by
      obtain ⟨_, h2⟩ := hto
      rcases h2 with ⟨e, _⟩ | ⟨g', cap', cur, e, _, hg, hnc, hcm, hcs, htake⟩
      · cases e
      · cases e
        have h4 : w.cell? ⟨q, us'.length, none⟩ = cur[us'.length]? := by simp [World.cell?, hg]
        have h5 : (us'.reverse ++ [u])[us'.length]? = some u := by
          rw [List.getElem?_append_right (by simp)]; simp
        rw [h4, ← h5, ← htake, List.getElem?_take_of_lt (by omega), Array.getElem?_toList]
    have hset : ∀ b, b ≠ p → (w.setCell ⟨p, 4, none⟩ (.slice (some ⟨q, 0, none⟩) us'.length cap)).heap[b]? = w.heap[b]? := fun b hb => Below.heap_setCell _ _ _ _ (fun e => hb e)
    have hsz : (w.setCell ⟨p, 4, none⟩ (.slice (some ⟨q, 0, none⟩) us'.length cap)).heap.size = w.heap.size := by simp [World.setCell]
    have hg : w.grownBy (w.setCell ⟨p, 4, none⟩ (.slice (some ⟨q, 0, none⟩) us'.length cap)) (some p) := ⟨rfl, rfl, rfl, by rw [hsz]; exact Nat.le_refl _, fun b _ hb => hset b (fun e => hb (by rw [e]))⟩
    have hF : ∀ b, OffT p iv (.slice (some ⟨q, 0, none⟩) (us'.length + 1) cap) (nilS :: jv :: jvs') b → b < w.heap.size → OffT p iv (.slice (some ⟨q, 0, none⟩) us'.length cap) (jv :: jvs') b ∧ ∀ o, (w.setCell ⟨p, 4, none⟩ (.slice (some ⟨q, 0, none⟩) us'.length cap)).cell? ⟨b, o, none⟩ = w.cell? ⟨b, o, none⟩ := fun b hb _ =>
      ⟨⟨hb.1, fun y hm => hb.2 y (List.mem_cons_of_mem _ hm)⟩, fun o => World.cell?_of_block (w := w) (a := ⟨b, o, none⟩) (hset b hb.1.1)⟩
    have hjp : ∀ y ∈ jv :: jvs', ∀ b, y.ownBlock = some b → (w.setCell ⟨p, 4, none⟩ (.slice (some ⟨q, 0, none⟩) us'.length cap)).heap[b]? = w.heap[b]? := fun y hm b hb => hset b (hjb y (List.mem_cons_of_mem _ hm) b hb).1.1
    refine ⟨u, us', jv, jvs', q, cap, rfl, hk.len, rfl, hcap, hcell, ⟨⟨hb.blk.set 4 _, hb.io.kept hg (Or.inr hb.ip), ?_, hb.bp, hb.ip, hb.tp, hb.it⟩, hk.keep (by rw [hsz]; exact Nat.le_refl _) hF (fun y hm b hb => hjp y (List.mem_cons_of_mem _ hm) b hb), fun y hm b hb => ?_, fun b hb => (hj b hb).2⟩, hT.keep (by rw [hsz]; exact Nat.le_refl _) hF (hjp jv (List.mem_cons_self ..)), ⟨rfl, rfl, rfl, by rw [hsz]; exact Nat.le_refl _, fun b hb' => hset b (by have := hb.bp; omega)⟩⟩
    · rw [List.length_reverse]
      exact hpop.kept hg (Or.inr hb.tp)
    · obtain ⟨h1, h2⟩ := hjb y (List.mem_cons_of_mem _ hm) b hb
      exact ⟨h1, by rw [hsz]; exact h2⟩
theorem tkw_one : ∀ t : CTk, 1 ≤ tkw t := fun t => by
  cases t with
  | lay d => have := nsize_one d; simp only [tkw]; omega
  | save _ => exact Nat.le_refl _
  | turn ds => simp only [tkw]; omega
  | branch _ ds _ => simp only [tkw]; omega
  | jumps _ => exact Nat.le_refl _
  | rep _ _ _ _ => exact Nat.le_refl _
theorem tkws_len : ∀ ts : List CTk, ts.length ≤ tkws ts
  | [] => Nat.le_refl _
  | t :: ts => by
    have h1 := tkw_one t
    have h2 := tkws_len ts
    rw [List.length_cons, tkws]; omega
/-- Between two tasks. -/
structure WhI (B p : Nat) (w0 : World) (g : Int) (bk : Bool) (T : List Inn × Nat) (n : Nat) (td : List CTk) (us jvs : List Value) (L : List Inn) (K : Nat) (iv tv : Value) (wr : World) : Prop where
  sta : Sta B p wr L g K bk iv tv td us jvs nilS
  eqv : Eqv (dens td (L, K)) T
  fit : ∀ t ∈ td, Fit L.length K t
  bd : Bd L
  pos : 0 < L.length
  le : K ≤ L.length
  len : L.length ≤ 7000
  few : tkws td ≤ n
  low : Below B w0 wr
theorem fit_rep {n k : Nat} {t : CTk} (h : Fit n k t) : (∀ d mn mx, t = .lay (.rep d mn mx) → repOk mn mx) ∧ (∀ ds, t = .lay (.alt ds) → ds ≠ []) := by
  refine ⟨fun d mn mx e => ?_, fun ds e => ?_⟩
  · subst e
    have h : cok (.rep d mn mx) = true := h
    rw [cok, Bool.and_eq_true] at h
    obtain ⟨o1, o2, o3⟩ := okrep_parts h.1
    exact ⟨o1, by omega⟩
  · subst e
    have h : cok (.alt ds) = true := h
    rw [cok, Bool.and_eq_true, decide_eq_true_eq] at h
    intro e
    rw [e] at h
    exact absurd h.1 (by decide)
/-- One task done. -/
theorem WhI.next {B p : Nat} {w0 : World} {g : Int} {bk : Bool} {T : List Inn × Nat} {n : Nat} {t : CTk} {td : List CTk} {us jvs us' jvs' : List Value} {L : List Inn} {K : Nat} {iv tv iv' tv' : Value} {wr w' : World} (h : WhI B p w0 g bk T n (t :: td) us jvs L K iv tv wr) (hl : L.length ≤ 3000)
    (hs : Sta B p w' (stp t L K).1.1 g (stp t L K).1.2 bk iv' tv' ((stp t L K).2 ++ td) us' jvs' nilS) (hb : Below B wr w') : ∃ n', n = n' + 1 ∧ WhI B p w0 g bk T n' ((stp t L K).2 ++ td) us' jvs' (stp t L K).1.1 (stp t L K).1.2 iv' tv' w' := by
  have hf := h.fit t (List.mem_cons_self ..)
  obtain ⟨r1, r2⟩ := fit_rep hf
  obtain ⟨a1, a2, a3⟩ := stp_fit t L K hf hl
  have hw := stp_w t L K
  have hfew := h.few
  rw [tkws] at hfew
  have hle := h.le
  have hpos := h.pos
  obtain ⟨g1, g2, g3⟩ := a1
  refine ⟨n - 1, by omega, hs, run_step t td L K T h.eqv r1 r2, fun u hm => ?_, stp_bd t L K hf hl h.le h.bd, by omega, by omega, a2, by rw [tkws_app]; omega, h.low.trans hb⟩
  rcases List.mem_append.1 hm with hm | hm
  · exact a3 u hm
  · exact (h.fit u (List.mem_cons_of_mem _ hm)).up ⟨g1, g2, g3⟩
end Go.Proofs.Ytjjhkagpoicimaa
