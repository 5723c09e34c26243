/- The proof's texts CbG, CbH: what the claim reaches of them. -/
import Derived.Test.YtihfenkphhnbcaaCp10
import Derived.Test.YtihfenkphhnbcaaCp13
namespace Go.Proofs.Ytihfenkphhnbcaa
open Go Go.RowKit
attribute [local go_sem] Oper.semAt_some
theorem cback_any (a : Option Addr) (n cap : Nat) (w : World) : Calls Try.prog 45 #[.slice a n cap] w fun e w' => e = .returned (.func (.func 49) #[] #[.pointer (some ⟨w.heap.size, 0, none⟩)]) ∧ w' = w.alloc (.cells #[.slice a n cap] 63) := by
  have hmf : ∀ (fn : Fn) (first cap : Array Value) (w : World), (Instr.makeFunc fn first cap).run Try.prog w = .ok (.func fn first cap) w := fun _ _ _ _ => rfl
  go_enter Try.func45, Try.ntmps45
  go_wp2_with fail
  go_ret
  exact ⟨rfl, rfl⟩
def cbk (n k : Nat) : List Nat := (List.range n).reverse.take (n - k)
theorem cbk_all (n : Nat) : cbk n 0 = (List.range n).reverse := by unfold cbk; rw [List.take_of_length_le (by simp)]
theorem cbk_none (n : Nat) : cbk n n = [] := by unfold cbk; rw [Nat.sub_self, List.take_zero]
theorem cbk_len (n k : Nat) (h : k ≤ n) : (cbk n k).length = n - k := by unfold cbk; rw [List.length_take, List.length_reverse, List.length_range]; omega
theorem cbk_step (n k : Nat) (h : k < n) : cbk n (k + 1) ++ [k] = cbk n k := by
  unfold cbk
  rw [show n - k = (n - (k + 1)) + 1 by omega, List.take_succ_eq_append_getElem (by simp; omega)]
  congr 1
  rw [List.getElem_reverse, List.getElem_range, List.length_range]
  congr 1
  omega
def CbkOk (us : List Value) (pre : List Nat) (x : Nat) (args : Array Value) (_ : Nat → Prop) (_ : Nat) (_ : World) : Prop :=
  ∃ hx : x < us.length, args = #[.int .i64 (x : Int), us[x]] ∧ pre = cbk us.length (x + 1)
set_option linter.unusedSimpArgs false in
set_option maxRecDepth 100000 in
set_option maxHeartbeats 2000000 in
theorem cbiter_any (n l base R q : Nat) (N : Nat → Prop) (us : List Value) (cap : Nat) (hl : us.length ≤ 4000000) (J : List Nat → (Nat → Prop) → World → Prop) (Jx : World → Prop)
    (hR : ∀ pre x args C X, J pre C X → CbkOk us pre x args C base X → YieldAt Fence.wide 0 Try.prog l args X fun e Y =>
      (e = .returned (.bool true) ∧ ∃ C', J (pre ++ [x]) C' Y ∧ RdN N base C C' X Y) ∨ (e = .returned (.bool false) ∧ Jx Y ∧ RdN N base C C X Y))
    (W : World) (hN : ∀ k, N k → k < W.heap.size) (h0 : J [] (fun _ => False) W) (hv : ∀ j (hj : j < us.length), W.cell? ⟨q, j, none⟩ = some us[j]) (hNq : N q) (hNR : N R) (hc : W.cell? ⟨R, 0, none⟩ = some (.slice (some ⟨q, 0, none⟩) us.length cap)) :
    CallsIn Fence.wide n Try.prog 49 #[.func (.yield l) #[] #[], .pointer (some ⟨R, 0, none⟩)] W fun e Z => (∃ v, e = .returned v) ∧ ((∃ C, J (List.range us.length).reverse C Z) ∨ Jx Z) := by
  have hdep : ∀ k : Nat, (Fence.wide.depth.isSome = true → 1 ≤ k) := fun k h => by simp [Fence.wide] at h
  have hkeep : ∀ Y : World, (∀ k, N k → Y.heap[k]? = W.heap[k]?) → (∀ j (hj : j < us.length), Y.cell? ⟨q, j, none⟩ = some us[j]) ∧ Y.cell? ⟨R, 0, none⟩ = some (.slice (some ⟨q, 0, none⟩) us.length cap) := fun Y h =>
    ⟨fun j hj => (World.cell?_of_block (w := W) (a := ⟨q, j, none⟩) (h q hNq)).trans (hv j hj), (World.cell?_of_block (w := W) (a := ⟨R, 0, none⟩) (h R hNR)).trans hc⟩
  have W0 : IntKind.i64.wrap ((us.length : Int) - 1) = (us.length : Int) - 1 := IntWalk.i64_in _ (by omega)
  refine callsIn_of_wp Try.func49 rfl trivial ?_ rfl
  simp only [Try.ntmps49, List.size_toArray, List.length_cons, List.length_nil, Nat.reduceAdd, Nat.reduceSub, Array.replicate_succ, Array.replicate_zero, List.push_toArray, List.append_toArray, List.nil_append, List.cons_append]
  have hB0 : ∀ k, k < us.length → IntKind.i64.wrap ((k : Int) - 1) = (k : Int) - 1 := fun k hk => IntWalk.i64_in _ (by omega)
  gi_upto_region 1 with fail
  gi_loopg [3] (us.length) (fun k i wr => k ≤ us.length ∧ i = .int .i64 ((k : Int) - 1) ∧ ∃ C, J (cbk us.length k) C wr ∧ (∀ j, N j → wr.heap[j]? = W.heap[j]?) ∧ W.heap.size ≤ wr.heap.size)
  case atStart => exact ⟨Nat.le_refl _, rfl, _, by rw [cbk_none]; exact h0, fun _ _ => rfl, Nat.le_refl _⟩
  case round =>
    obtain ⟨hk, rfl, C, hJ, hsame, hsz⟩ := hrel
    cases gk with
    | zero =>
      rw [cbk_all] at hJ
      have e1 : decide ((0 : Int) ≤ ((0 : Nat) : Int) - 1) = false := by decide
      gi_wp2
      go_end0
      exact ⟨⟨_, rfl⟩, .inl ⟨C, hJ⟩⟩
    | succ k =>
      have hi : ((k + 1 : Nat) : Int) - 1 = (k : Int) := by omega
      rw [hi]
      obtain ⟨hrw, hcR⟩ := hkeep wr hsame
      have hu := hrw k (by omega)
      have Wk := hB0 k (by omega)
      have hkl : k < us.length := by omega
      obtain ⟨fn, tmps, assign, body, hy, hR2⟩ := yield_any_depth (n - 1) (hR (cbk us.length (k + 1)) k #[.int .i64 (k : Int), us[k]] C wr hJ ⟨hkl, rfl, rfl⟩)
      have hcC : ∀ C' Y, RdN N base C C' wr Y → (∀ j, N j → Y.heap[j]? = W.heap[j]?) ∧ W.heap.size ≤ Y.heap.size := fun C' Y h => ⟨fun j hj => (h.block j (Nat.lt_of_lt_of_le (hN j hj) hsz) (.inl hj)).trans (hsame j hj), Nat.le_trans hsz h.size⟩
      obtain ⟨uk, huk⟩ : ∃ uk, us[k] = uk := ⟨_, rfl⟩
      rw [huk] at hu hy
      clear hrw hkeep hR hB0
      gi_wp2
      refine ⟨hdep _, hR2.mono ?_⟩
      rintro e Z (⟨rfl, C', hJ2, hr⟩ | ⟨rfl, hx, _⟩)
      · rw [cbk_step _ _ hkl] at hJ2
        gi_wp2
        gi_roundg k
        case measure => omega
        case rel => exact ⟨by omega, rfl, C', hJ2, (hcC C' Z hr).1, (hcC C' Z hr).2⟩
      · gi_wp2
        (try simp only [Exit.inBlock, Exit.then])
        refine bodyPost_ret (results_none rfl _ _ _) rfl ?_
        exact ⟨⟨_, rfl⟩, .inr hx⟩
theorem cback_gives (q : Nat) (N : Nat → Prop) (us : List Value) (cap : Nat) (hl : us.length ≤ 4000000) (R : Nat) (w : World) (hN : ∀ k, N k → k < w.heap.size) (hNR : N R) (hNq : N q) (hv : ∀ j (hj : j < us.length), w.cell? ⟨q, j, none⟩ = some us[j]) (hc : w.cell? ⟨R, 0, none⟩ = some (.slice (some ⟨q, 0, none⟩) us.length cap)) :
    GivesN Try.prog 49 #[.pointer (some ⟨R, 0, none⟩)] N (CbkOk us) (fun xs => xs = (List.range us.length).reverse) w := by
  intro l m J Jx W hb hJ hJx hR h0
  refine callsIn_wide.1 ((cbiter_any 0 l W.heap.size R q N us cap hl J Jx (fun pre x args C X h1 h2 => yield_any_depth 0 (hR pre x args C X h1 h2)) W (fun k hk => Nat.lt_of_lt_of_le (hN k hk) hb.size) h0 (fun j hj => (hb.cell (p := ⟨q, j, none⟩) (hN q hNq)).trans (hv j hj)) hNq hNR ((hb.cell (p := ⟨R, 0, none⟩) (World.block_lt_of_cell? w _ hc)).trans hc)).mono ?_)
  rintro e Y ⟨h1, h2⟩
  exact ⟨h1, h2.elim (fun ⟨C, h⟩ => .inl ⟨_, C, rfl, h⟩) .inr⟩
end Go.Proofs.Ytihfenkphhnbcaa
namespace Go.Proofs.Ytihfenkphhnbcaa
open Go Go.RowKit
attribute [local go_sem] Oper.semAt_some
theorem func_info : ∃ i, Try.prog.info? 1 = some i ∧ i.zero = some .nilFunc ∧ i.size = 1 ∧ i.bytes = 8 := by
  have h : (Try.prog.info? 1).map (fun i => (i.zero, i.size, i.bytes)) = some (some .nilFunc, 1, 8) := by kernel_rfl
  obtain ⟨i, hi, he⟩ := Option.map_eq_some_iff.1 h
  injection he with h1 h2
  injection h2 with h2 h3
  exact ⟨i, hi, h1, h2, h3⟩
theorem Bld.task {B p : Nat} {W w6 : World} {l : List Inn} {g : Int} {k : Nat} {bk : Bool} {iv tv v6 u : Value} {ts : List Value} (h : Bld B p W l g k bk iv tv ts)
    (hown : w6.ownsRow B 1 1 v6 (ts.length + 1) (ts ++ [u])) (hg : W.grownBy w6 tv.ownBlock) (hat : v6.ownBlock = tv.ownBlock ∨ v6.ownBlock = some W.heap.size) :
    Bld B p (w6.setCell ⟨p, 4, none⟩ v6) l g k bk iv v6 (ts ++ [u]) ∧ CStep p W iv tv (w6.setCell ⟨p, 4, none⟩ v6) iv v6 := by
  have hpl := h.blk.lt
  have hil := fun b hb => co_own_lt h.io b hb
  have hset : ∀ b, b ≠ p → (w6.setCell ⟨p, 4, none⟩ v6).heap[b]? = w6.heap[b]? := fun b hb => Below.heap_setCell _ _ _ _ (fun e => hb e)
  have hsz : (w6.setCell ⟨p, 4, none⟩ v6).heap.size = w6.heap.size := by simp [World.setCell]
  have hv6p : v6.ownBlock ≠ some p := by
    rcases hat with e | e
    · rw [e]; exact h.tp
    · rw [e]; intro he; injection he with he; omega
  have hb6 : Blk w6 p #[iv, .int .i64 g, .int .i64 (k : Int), .bool bk, tv] 65 := by
    have h1 := h.blk
    unfold Blk at h1 ⊢
    rw [hg.block p hpl (fun e => h.tp e.symm)]
    exact h1
  have hio6 := h.io.kept hg (by
    rcases hc : iv.ownBlock with _ | b
    · exact .inl rfl
    · refine .inr (fun e => ?_)
      exact h.it b hc e.symm)
  refine ⟨{ blk := hb6.set 4 v6, io := ?_, «to» := ?_, bp := h.bp, ip := h.ip, tp := hv6p, it := ?_ }, ⟨hg.os, hg.tape, hg.output, by rw [hsz]; exact hg.size, fun b hb hp h1 h2 => ⟨?_, h1, ?_⟩⟩⟩
  · exact hio6.kept ⟨rfl, rfl, rfl, by rw [hsz]; exact Nat.le_refl _, fun b _ hb => hset b (fun e => hb (by rw [e]))⟩ (Or.inr h.ip)
  · rw [List.length_append]
    exact hown.kept ⟨rfl, rfl, rfl, by rw [hsz]; exact Nat.le_refl _, fun b _ hb => hset b (fun e => hb (by rw [e]))⟩ (Or.inr hv6p)
  · intro b hb
    rcases hat with e | e
    · rw [e]; exact h.it b hb
    · intro hc
      have := hil b hb
      rw [e] at hc
      injection hc with hc
      omega
  · rw [hset b hp]
    exact hg.block b hb (fun e => h2 e.symm)
  · rcases hat with e | e
    · rw [e]; exact h2
    · rw [e]; intro he; injection he with he; omega
theorem Bld.same {B p : Nat} {X Y : World} {l : List Inn} {g : Int} {k : Nat} {bk : Bool} {iv tv : Value} {ts : List Value} (h : Bld B p X l g k bk iv tv ts) (hp : Y.heap[p]? = X.heap[p]?) (hi : ∀ b, iv.ownBlock = some b → Y.heap[b]? = X.heap[b]?) (ht : ∀ b, tv.ownBlock = some b → Y.heap[b]? = X.heap[b]?) : Bld B p Y l g k bk iv tv ts :=
  { h with blk := (by have h1 := h.blk; unfold Blk at h1 ⊢; rw [hp]; exact h1), io := own_row_same h.io hi, «to» := own_row_same h.«to» ht }
structure NxI (B p : Nat) (w : World) (l : List Inn) (g : Int) (k : Nat) (bk : Bool) (iv tv : Value) (ts us : List Value) (pre : List Nat) (C : Nat → Prop) (W : World) (tv' : Value) : Prop where
  bld : Bld B p W l g k bk iv tv' (ts ++ pre.map fun i => us.getD i .nilFunc)
  cs : CStep p w iv tv W iv tv'
  own : ∀ b, C b ↔ (tv'.ownBlock = some b ∧ w.heap.size + 2 ≤ b)
  nob : ∀ b, w.heap.size ≤ b → b < w.heap.size + 2 → tv'.ownBlock ≠ some b
  box : W.cell? ⟨w.heap.size, 0, none⟩ = some (.pointer (some ⟨p, 0, none⟩))
theorem NxI.other {B p : Nat} {w X Y : World} {l : List Inn} {g : Int} {k : Nat} {bk : Bool} {iv tv tv' : Value} {ts us : List Value} {pre : List Nat} {C : Nat → Prop} (hp : p < w.heap.size) (hil : ∀ b, iv.ownBlock = some b → b < w.heap.size)
    (h : NxI B p w l g k bk iv tv ts us pre C X tv') (ho : Other (w.heap.size + 2) C X Y) : NxI B p w l g k bk iv tv ts us pre C Y tv' := by
  have hs := h.cs.size
  have hb : ∀ b, b < X.heap.size → b < w.heap.size + 2 ∨ C b → Y.heap[b]? = X.heap[b]? := ho.block
  have hbx : w.heap.size < X.heap.size := World.block_lt_of_cell? X _ h.box
  refine ⟨h.bld.same (hb p (by omega) (.inl (by omega))) (fun b hb' => hb b (by have := hil b hb'; omega) (.inl (by have := hil b hb'; omega))) (fun b hb' => hb b (co_own_lt h.bld.«to» b hb') ?_), ⟨ho.os.trans h.cs.os, ho.tape.trans h.cs.tape, ho.output.trans h.cs.output, Nat.le_trans hs ho.size, fun b hlt h1 h2 h3 => ?_⟩, h.own, h.nob, (World.cell?_of_block (w := X) (a := ⟨w.heap.size, 0, none⟩) (hb w.heap.size hbx (.inl (by omega)))).trans h.box⟩
  · by_cases hlt : b < w.heap.size + 2
    · exact .inl hlt
    · exact .inr ((h.own b).2 ⟨hb', by omega⟩)
  · obtain ⟨e1, e2, e3⟩ := h.cs.block b hlt h1 h2 h3
    exact ⟨(hb b (by omega) (.inl (by omega))).trans e1, e2, e3⟩
theorem NxI.push {B p q x : Nat} {w X w3 : World} {l : List Inn} {g : Int} {k : Nat} {bk : Bool} {iv tv tv' v3 u : Value} {ts us : List Value} {pre : List Nat} {C : Nat → Prop} {tmp : Obj} (hp : p < w.heap.size) (hoff : OffC p iv tv q) (hq : q < w.heap.size)
    (h : NxI B p w l g k bk iv tv ts us pre C X tv') (hX : w.heap.size + 2 ≤ X.heap.size) (hu : us.getD x .nilFunc = u)
    (hown : w3.ownsRow B 1 1 v3 ((ts ++ pre.map fun i => us.getD i .nilFunc).length + 1) ((ts ++ pre.map fun i => us.getD i .nilFunc) ++ [u])) (hg : (X.alloc tmp).grownBy w3 tv'.ownBlock) (hat : v3.ownBlock = tv'.ownBlock ∨ v3.ownBlock = some (X.alloc tmp).heap.size) :
    NxI B p w l g k bk iv tv ts us (pre ++ [x]) (fun b => v3.ownBlock = some b ∧ w.heap.size + 2 ≤ b) (w3.setCell ⟨p, 4, none⟩ v3) v3 ∧ RdN (fun b => b = q ∨ b = w.heap.size ∨ b = w.heap.size + 1) (w.heap.size + 2) C (fun b => v3.ownBlock = some b ∧ w.heap.size + 2 ≤ b) X (w3.setCell ⟨p, 4, none⟩ v3) ∧ (w3.cell? ⟨p, 4, none⟩ = some tv' ∧ w3.frozen? ⟨p, 4, none⟩ = false ∧ w3.cell? ⟨w.heap.size, 0, none⟩ = some (.pointer (some ⟨p, 0, none⟩))) := by
  have hAl : Below X.heap.size X (X.alloc tmp) := (Below.refl _ X).alloc (Nat.le_refl _) _
  obtain ⟨t1, t2⟩ := (h.bld.below hAl).task hown hg hat
  have hs := h.cs.size
  have hXs : (X.alloc tmp).heap.size = X.heap.size + 1 := by simp
  have hset : ∀ b, b ≠ p → (w3.setCell ⟨p, 4, none⟩ v3).heap[b]? = w3.heap[b]? := fun b hb => Below.heap_setCell _ _ _ _ (fun e => hb e)
  have hsz : (w3.setCell ⟨p, 4, none⟩ v3).heap.size = w3.heap.size := by simp [World.setCell]
  have hgs := hg.size
  have hvl := (hown.lt)
  have hpb : w3.heap[p]? = (X.alloc tmp).heap[p]? := hg.block p (by omega) (fun e => h.bld.tp e.symm)
  have hcp := (h.bld.below hAl).cells
  refine ⟨⟨?_, h.cs.trans ((CStep.of_below hAl).trans t2), fun b => Iff.rfl, ?_, ?_⟩, ⟨by omega, fun b hb hk => ?_, fun b hb => ?_⟩, ?_, ?_, ?_⟩
  · rw [List.map_append, List.map_cons, List.map_nil, hu, ← List.append_assoc]
    exact t1
  · rcases hat with e | e
    · rw [e]; exact h.nob
    · intro b hb1 hb2 he
      rw [e] at he; injection he with he; omega
  · have hbx2 : w.heap.size < X.heap.size := World.block_lt_of_cell? X _ h.box
    rw [World.cell?_of_block (w := X) (a := ⟨w.heap.size, 0, none⟩) ((hset w.heap.size (by omega)).trans ((hg.block w.heap.size (by omega) (fun e => h.nob w.heap.size (Nat.le_refl _) (by omega) e.symm)).trans (hAl.block w.heap.size hbx2)))]
    exact h.box
  · have hne : some b ≠ tv'.ownBlock := by
      intro e
      rcases hk with (rfl | rfl | rfl) | ⟨h1, h2⟩
      · exact (h.cs.block _ hq hoff.1 hoff.2.1 hoff.2.2).2.2 e.symm
      · exact h.nob _ (Nat.le_refl _) (by omega) e.symm
      · exact h.nob _ (by omega) (by omega) e.symm
      · exact h2 ((h.own b).2 ⟨e.symm, h1⟩)
    have hbp : b ≠ p := by
      rcases hk with (rfl | rfl | rfl) | ⟨h1, h2⟩
      · exact hoff.1
      · omega
      · omega
      · omega
    rw [hset b hbp, hg.block b (by omega) hne]
    exact hAl.block b hb
  · obtain ⟨h1, h2⟩ := hb
    have h3 := (hvl b h1).2
    rcases hat with e | e
    · exact .inl ((h.own b).2 ⟨by rw [← e]; exact h1, h2⟩)
    · right
      rw [e] at h1; injection h1 with h1
      omega
  · rw [World.cell?_of_block (w := X.alloc tmp) (a := ⟨p, 4, none⟩) hpb]
    exact hcp.c4
  · have := hcp.z4
    unfold World.frozen? at this ⊢
    simp only [hpb]
    exact this
  · have hbx2 : w.heap.size < X.heap.size := World.block_lt_of_cell? X _ h.box
    rw [World.cell?_of_block (w := X) (a := ⟨w.heap.size, 0, none⟩) ((hg.block w.heap.size (by omega) (fun e => h.nob w.heap.size (Nat.le_refl _) (by omega) e.symm)).trans (hAl.block w.heap.size hbx2))]
    exact h.box
theorem cells_one_new (W : World) (x : Value) (T : TypeId) : ∀ j u, [x][j]? = some u → (W.alloc (.cells #[x] T)).cell? ((⟨W.heap.size, 0, none⟩ : Addr).add j) = some u := by
  intro j u hu
  have hb := Blk.new W #[x] T W.heap.size rfl
  match j, hu with
  | 0, hu =>
    obtain rfl : x = u := by simpa using hu
    rw [Go.WideShapes.add_plain]
    exact (hb.cell 0).trans rfl
theorem any_in_round {l n : Nat} {P : Program} {md : Region.Mode} {ops : Array Oper} {Q : Exit → Act → World → Prop} (hnd : ∀ (i : Nat) (o : Oper) c, ops[i]? = some o → o.op ≠ .defer c) :
    ∀ (fuel : Nat) (listed : Array Bool) (a : Act) (w : World), wpAnyIn Fence.wide n P md ops Q fuel listed a w → wpAnyIn (Fence.wide.inRound l) n P md ops Q fuel listed a w
  | 0, _, _, _, h => h
  | fuel + 1, listed, a, w, ⟨h0, h1⟩ => by
    refine ⟨h0, fun i hi => ?_⟩
    have h2 := wpOpIn_mono (fun a w h => any_in_round (l := l) hnd fuel (listed.setIfInBounds i true) a w h) (h1 i hi)
    unfold wpOpIn at h2 ⊢
    cases ho : ops[i]? with
    | none => simpa [ho] using h2
    | some o =>
      simp only [ho] at h2 ⊢
      split
      · rename_i hw
        simp only [hw, if_true] at h2
        refine ⟨h2.1, ?_⟩
        have h3 := h2.2
        rw [Oper.semAt_eq _ _ _ (fun c => hnd i o c ho)] at h3 ⊢
        exact h3
      · rename_i hw
        simp only [hw] at h2
        exact h2
theorem stepIn_append_own {P : Program} {w : World} {ops : Array Oper} {o : Oper} {a : Act} {n' : Nat} {K : Act → World → Prop} {Q : Exit → Act → World → Prop} {E : Prop} (hgd : o.guard = none) (s x : Operand) (t : TypeId)
    (ho : o.op = .call { callee := .builtin .append, args := #[s, x], argTypes := #[t, t] })
    (base : Nat) (e : TypeId) (i : TypeInfo) (z : Value) (size bytes : Nat) (ht : P.underlying t = some (.slice e)) (hi : P.info? e = some i) (hz : i.zero = some z)
    (hsize : i.size = size) (hby : i.bytes = bytes) (hzs : z.cells.size = size) (hsz : 0 < size)
    (v : Value) (n : Nat) (xs : List Value) (hs : a.eval s = v) (hown : w.ownsRow base e size v n xs)
    (ad : Addr) (m c : Nat) (news : List Value) (hx : a.eval x = .slice (some ad) m c) (hl : news.length = m * size) (hnews : ∀ j u, news[j]? = some u → w.cell? (ad.add j) = some u) (h1 : ∀ u ∈ news, u.oneCell' = true)
    (h63 : n + m ≤ maxLen) (hbytes : (n + m) * bytes ≤ 140737488355328) (hbase : base ≤ w.heap.size)
    (h : ∀ v' w', w'.ownsRow base e size v' (n + m) (xs ++ news) → w.grownBy w' v.ownBlock → (v'.ownBlock = v.ownBlock ∨ v'.ownBlock = some w.heap.size) → K (a.put o.dst v') w') :
    if Region.wanted o (yielded ops a.tmps) = true then Oper.wpIn Fence.wide n' P o a w K Q else E := by
  rw [if_pos (by simp [Region.wanted, hgd])]
  obtain ⟨v', w', hr, h2, h3, _, h4⟩ := run_append_own_at (P := P) w base t o.type e i z size bytes ht hi hz hsize hby hzs hsz v n xs hown ad m c news hl hnews h1 h63 hbytes hbase
  refine ⟨fun f _ => by simp [Fence.wide], ?_⟩
  rw [show Oper.semAt Fence.wide.round a.eval o = execOp a.eval o from rfl]
  unfold execOp
  simp only [ho, resolve, invoke, builtin, Sem.run_bind, Sem.run_pure, Result.andThen_ok, List.map_toArray, List.map_cons, List.map_nil, hs, hx, hr, Oper.uponIn]
  exact h v' w' h2 h3 h4
theorem heap_drew_alloc {W : World} (o : Obj) (g : Nat) (h : g < W.heap.size) : (W.drew.alloc o).heap[g]? = W.heap[g]? := Below.heap_alloc _ _ _ h
theorem grown_drew_alloc {W w3 : World} {o : Obj} {row : Option Nat} (h : (W.drew.alloc o).grownBy w3 row) : (W.alloc o).grownBy w3 row :=
  ⟨h.os, h.tape, h.output, h.size, h.block⟩
end Go.Proofs.Ytihfenkphhnbcaa
