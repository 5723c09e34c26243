/- The proof's texts CbA, CbB, OctOpen: what the claim reaches of them. -/
import Derived.Test.YtihfenkphhnbcaaCp02
import Derived.Test.YtihfenkphhnbcaaCp04
import Derived.Test.YtihfenkphhnbcaaCp03
import Derived.Deep.RegionLaw
import Derived.Deep.RegionHeld3
import Derived.Deep.QuietTactic
import Derived.BigQuiet
import Derived.Lib.Hide
import Derived.ArgAppend
import Derived.Laws.OwnMore
import Derived.Maps.AppendAt
import Derived.Test.YtihfenkphhnbcaaRows
import Derived.Test.YtihfenkphhnbcaaCp01
import Derived.WalkKit
import Derived.ProofKit
import Derived.OpenShut
namespace Go.Proofs.Ytihfenkphhnbcaa
open Go Go.RowKit
theorem co_own_lt {B : Nat} {w : World} {e : TypeId} {size n : Nat} {v : Value} {us : List Value} (h : w.ownsRow B e size v n us) (g : Nat) (hg : v.ownBlock = some g) : g < w.heap.size := by
  obtain ⟨_, h⟩ := h
  rcases h with ⟨rfl, _⟩ | ⟨g', cap, cur, rfl, _, hc, _⟩
  · cases hg
  · injection hg with hg
    subst hg
    exact (Array.getElem?_eq_some_iff.1 hc).1
theorem run_append_keep {P : Program} {w : World} (base : Nat) (t ty e : TypeId) (i : TypeInfo) (z : Value) (size bytes : Nat) (ht : P.underlying t = some (.slice e)) (hi : P.info? e = some i) (hz : i.zero = some z)
    (hsize : i.size = size) (hby : i.bytes = bytes) (hzs : z.cells.size = size) (hsz : 0 < size)
    (v : Value) (n : Nat) (xs : List Value) (hown : w.ownsRow base e size v n xs)
    (a : Addr) (m c : Nat) (news : List Value) (hl : news.length = m * size) (hnews : ∀ j u, news[j]? = some u → w.cell? (a.add j) = some u) (h1 : ∀ u ∈ news, u.oneCell' = true)
    (h63 : n + m ≤ maxLen) (hbytes : (n + m) * bytes ≤ 140737488355328) (hbase : base ≤ w.heap.size) :
    ∃ v' w', (Builtin.append_ #[t, t] ty #[v, .slice (some a) m c]).run P w = .ok v' w' ∧ w'.ownsRow base e size v' (n + m) (xs ++ news) ∧ w.grownBy w' v.ownBlock ∧
      (v'.ownBlock = v.ownBlock ∨ (v'.ownBlock = some w.heap.size ∧ w.grownBy w' none)) := by
  obtain ⟨v', w', hr, h2, h3, _, h5⟩ := run_append_own_at (P := P) w base t ty e i z size bytes ht hi hz hsize hby hzs hsz v n xs hown a m c news hl hnews h1 h63 hbytes hbase
  refine ⟨v', w', hr, h2, h3, ?_⟩
  rcases h5 with h5 | h5
  · exact .inl h5
  rcases hown.2 with ⟨rfl, _⟩ | ⟨g, cap, cur, rfl, hbg, hg, hnc, hcm, hcs, htake⟩
  · exact .inr ⟨h5, h3⟩
  · by_cases hroom : n + m ≤ cap
    · obtain ⟨w2, hr2, _, _⟩ := run_append_fits (P := P) w base t ty e i size ht hi hsize g n cap xs hown a m c news hl hnews h1 hroom
      rw [hr2] at hr
      injection hr with hv _
      exact .inl (by rw [← hv]; rfl)
    · obtain ⟨v2, w2, hr2, _, h6⟩ := run_append_arg_grows (P := P) w t ty e i z size bytes ht hi hz hsize hby hzs hsz ⟨g, 0, none⟩ n cap xs hown.1 (hown.cells (g := g) rfl) a m c news hl hnews (by omega) h63 hbytes
      rw [hr2] at hr
      injection hr with _ hw
      exact .inr ⟨h5, by rw [← hw]; exact h6⟩
theorem step_append_keep {P : Program} {w : World} {ops : Array Oper} {o : Oper} {a : Act} {K : Act → World → Prop} {Q : Exit → Act → World → Prop} {E : Prop} (hgd : o.guard = none) (s x : Operand) (t : TypeId)
    (ho : o.op = .call { callee := .builtin .append, args := #[s, x], argTypes := #[t, t] })
    (base : Nat) (e : TypeId) (i : TypeInfo) (z : Value) (size bytes : Nat) (ht : P.underlying t = some (.slice e)) (hi : P.info? e = some i) (hz : i.zero = some z)
    (hsize : i.size = size) (hby : i.bytes = bytes) (hzs : z.cells.size = size) (hsz : 0 < size)
    (v : Value) (n : Nat) (xs : List Value) (hs : a.eval s = v) (hown : w.ownsRow base e size v n xs)
    (ad : Addr) (m c : Nat) (news : List Value) (hx : a.eval x = .slice (some ad) m c) (hl : news.length = m * size) (hnews : ∀ j u, news[j]? = some u → w.cell? (ad.add j) = some u) (h1 : ∀ u ∈ news, u.oneCell' = true)
    (h63 : n + m ≤ maxLen) (hbytes : (n + m) * bytes ≤ 140737488355328) (hbase : base ≤ w.heap.size)
    (h : ∀ v' w', w'.ownsRow base e size v' (n + m) (xs ++ news) → w.grownBy w' v.ownBlock → (v'.ownBlock = v.ownBlock ∨ (v'.ownBlock = some w.heap.size ∧ w.grownBy w' none)) → K (a.put o.dst v') w') :
    if Region.wanted o (yielded ops a.tmps) = true then Oper.wp P o a w K Q else E := by
  rw [if_pos (by simp [Region.wanted, hgd])]
  obtain ⟨v', w', hr, h2, h3, h4⟩ := run_append_keep (P := P) base t o.type e i z size bytes ht hi hz hsize hby hzs hsz v n xs hown ad m c news hl hnews h1 h63 hbytes hbase
  unfold Oper.wp execOp
  simp only [ho, resolve, invoke, builtin, Sem.run_bind, Sem.run_pure, Result.andThen_ok, List.map_toArray, List.map_cons, List.map_nil, hs, hx, hr]
  exact h v' w' h2 h3 h4
theorem co_form {B : Nat} {w : World} {e : TypeId} {size n : Nat} {v : Value} {us : List Value} (h : w.ownsRow B e size v n us) : ∃ a cap, v = .slice a n cap := by
  obtain ⟨_, h⟩ := h
  rcases h with ⟨rfl, rfl⟩ | ⟨g, cap, cur, rfl, _⟩
  · exact ⟨_, _, rfl⟩
  · exact ⟨_, _, rfl⟩
def inC (i : Inn) : List Value := [.int .i64 i.op, .int .u64 (ow i.set 0), .int .u64 (ow i.set 1), .int .u64 (ow i.set 2), .int .u64 (ow i.set 3), .int .i64 i.x, .int .i64 i.y]
def inF (l : List Inn) : List Value := l.flatMap inC
theorem inF_snoc (l : List Inn) (i : Inn) : inF (l ++ [i]) = inF l ++ inC i := by simp [inF]
theorem inF_len (l : List Inn) : (inF l).length = l.length * 7 := by
  induction l with
  | nil => rfl
  | cons i l ih => show (inC i ++ inF l).length = _; rw [List.length_append, ih]; simp [inC]; omega
theorem inC_one (i : Inn) : ∀ u ∈ inC i, u.oneCell' = true := by
  intro u hu
  simp [inC] at hu
  rcases hu with rfl | rfl | rfl | rfl | rfl | rfl | rfl <;> rfl
structure CStep (p : Nat) (w : World) (iv tv : Value) (w' : World) (iv' tv' : Value) : Prop where
  os : w'.os = w.os
  tape : w'.tape = w.tape
  output : w'.output = w.output
  size : w.heap.size ≤ w'.heap.size
  block : ∀ b, b < w.heap.size → b ≠ p → iv.ownBlock ≠ some b → tv.ownBlock ≠ some b → w'.heap[b]? = w.heap[b]? ∧ iv'.ownBlock ≠ some b ∧ tv'.ownBlock ≠ some b
theorem CStep.refl (p : Nat) (w : World) (iv tv : Value) : CStep p w iv tv w iv tv := ⟨rfl, rfl, rfl, Nat.le_refl _, fun _ _ _ h1 h2 => ⟨rfl, h1, h2⟩⟩
theorem CStep.trans {p : Nat} {w w1 w2 : World} {iv tv iv1 tv1 iv2 tv2 : Value} (h : CStep p w iv tv w1 iv1 tv1) (k : CStep p w1 iv1 tv1 w2 iv2 tv2) : CStep p w iv tv w2 iv2 tv2 :=
  ⟨k.os.trans h.os, k.tape.trans h.tape, k.output.trans h.output, Nat.le_trans h.size k.size, fun b hb hp h1 h2 => by
    obtain ⟨e1, e2, e3⟩ := h.block b hb hp h1 h2
    obtain ⟨f1, f2, f3⟩ := k.block b (Nat.lt_of_lt_of_le hb h.size) hp e2 e3
    exact ⟨f1.trans e1, f2, f3⟩⟩
theorem CStep.of_below {p : Nat} {w w' : World} {iv tv : Value} (h : Below w.heap.size w w') : CStep p w iv tv w' iv tv :=
  ⟨h.os, h.tape, h.output, h.size, fun b hb _ h1 h2 => ⟨h.block b hb, h1, h2⟩⟩
def Mv (p : Nat) (w : World) (iv : Value) (w' : World) (iv' : Value) : Prop := iv'.ownBlock = iv.ownBlock ∨ ∀ b, b < w.heap.size → b ≠ p → w'.heap[b]? = w.heap[b]? ∧ iv'.ownBlock ≠ some b
theorem Mv.pre {p : Nat} {w W w' : World} {iv iv' : Value} (hb : Below w.heap.size w W) (h : Mv p W iv w' iv') : Mv p w iv w' iv' :=
  h.imp id fun h b hlt hp => by
    obtain ⟨h1, h2⟩ := h b (Nat.lt_of_lt_of_le hlt hb.size) hp
    exact ⟨h1.trans (hb.block b hlt), h2⟩
def OffC (p : Nat) (iv tv : Value) (b : Nat) : Prop := b ≠ p ∧ iv.ownBlock ≠ some b ∧ tv.ownBlock ≠ some b
theorem CStep.keep {p : Nat} {w w' : World} {iv tv iv' tv' : Value} (h : CStep p w iv tv w' iv' tv') : ∀ b, OffC p iv tv b → b < w.heap.size → OffC p iv' tv' b ∧ ∀ o, w'.cell? ⟨b, o, none⟩ = w.cell? ⟨b, o, none⟩ := fun b hf hb => by
  obtain ⟨e1, e2, e3⟩ := h.block b hb hf.1 hf.2.1 hf.2.2
  exact ⟨⟨hf.1, e2, e3⟩, fun o => World.cell?_of_block (w := w) (a := ⟨b, o, none⟩) e1⟩
structure Bld (B p : Nat) (w : World) (l : List Inn) (g : Int) (k : Nat) (bk : Bool) (iv tv : Value) (ts : List Value) : Prop where
  blk : Blk w p #[iv, .int .i64 g, .int .i64 (k : Int), .bool bk, tv] 65
  io : w.ownsRow B 49 7 iv l.length (inF l)
  to : w.ownsRow B 1 1 tv ts.length ts
  bp : B ≤ p
  ip : iv.ownBlock ≠ some p
  tp : tv.ownBlock ≠ some p
  it : ∀ b, iv.ownBlock = some b → tv.ownBlock ≠ some b
theorem Bld.below {B p : Nat} {w w' : World} {l : List Inn} {g : Int} {k : Nat} {bk : Bool} {iv tv : Value} {ts : List Value} (h : Bld B p w l g k bk iv tv ts) (hb : Below w.heap.size w w') : Bld B p w' l g k bk iv tv ts :=
  { h with blk := h.blk.below hb h.blk.lt, io := nd_own_below h.io hb, to := nd_own_below h.to hb }
structure BldC (w : World) (p : Nat) (iv : Value) (g k : Int) (bk : Bool) (tv : Value) : Prop where
  c0 : w.cell? ⟨p, 0, none⟩ = some iv
  c1 : w.cell? ⟨p, 1, none⟩ = some (.int .i64 g)
  c2 : w.cell? ⟨p, 2, none⟩ = some (.int .i64 k)
  c3 : w.cell? ⟨p, 3, none⟩ = some (.bool bk)
  c4 : w.cell? ⟨p, 4, none⟩ = some tv
  z0 : w.frozen? ⟨p, 0, none⟩ = false
  z2 : w.frozen? ⟨p, 2, none⟩ = false
  z4 : w.frozen? ⟨p, 4, none⟩ = false
theorem Bld.cells {B p : Nat} {w : World} {l : List Inn} {g : Int} {k : Nat} {bk : Bool} {iv tv : Value} {ts : List Value} (h : Bld B p w l g k bk iv tv ts) : BldC w p iv g k bk tv :=
  ⟨(h.blk.cell 0).trans rfl, (h.blk.cell 1).trans rfl, (h.blk.cell 2).trans rfl, (h.blk.cell 3).trans rfl, (h.blk.cell 4).trans rfl, h.blk.frozen 0, h.blk.frozen 2, h.blk.frozen 4⟩
theorem Bld.blk6 {B p : Nat} {W w6 : World} {l : List Inn} {g : Int} {k : Nat} {bk : Bool} {iv tv : Value} {ts : List Value} (h : Bld B p W l g k bk iv tv ts) (hg : W.grownBy w6 iv.ownBlock) :
    Blk w6 p #[iv, .int .i64 g, .int .i64 (k : Int), .bool bk, tv] 65 := by
  have h1 := h.blk
  unfold Blk at h1 ⊢
  rw [hg.block p h.blk.lt (fun e => h.ip e.symm)]
  exact h1
theorem Bld.push {B p : Nat} {W w6 : World} {l : List Inn} {g : Int} {k : Nat} {bk : Bool} {iv tv v6 : Value} {ts : List Value} {i : Inn} (h : Bld B p W l g k bk iv tv ts)
    (hown : w6.ownsRow B 49 7 v6 (l.length + 1) (inF l ++ inC i)) (hg : W.grownBy w6 iv.ownBlock) (hat0 : v6.ownBlock = iv.ownBlock ∨ (v6.ownBlock = some W.heap.size ∧ W.grownBy w6 none)) :
    Bld B p (w6.setCell ⟨p, 0, none⟩ v6) (l ++ [i]) g k bk v6 tv ts ∧ CStep p W iv tv (w6.setCell ⟨p, 0, none⟩ v6) v6 tv ∧ Mv p W iv (w6.setCell ⟨p, 0, none⟩ v6) v6 := by
  have hat : v6.ownBlock = iv.ownBlock ∨ v6.ownBlock = some W.heap.size := hat0.imp id And.left
  have hpl := h.blk.lt
  have hcl := fun b hb => co_own_lt h.to b hb
  have hset : ∀ b, b ≠ p → (w6.setCell ⟨p, 0, none⟩ v6).heap[b]? = w6.heap[b]? := fun b hb => Below.heap_setCell _ _ _ _ (fun e => hb e)
  have hsz : (w6.setCell ⟨p, 0, none⟩ v6).heap.size = w6.heap.size := by simp [World.setCell]
  have hv6p : v6.ownBlock ≠ some p := by
    rcases hat with e | e
    · rw [e]; exact h.ip
    · rw [e]; intro he; injection he with he; omega
  have hb6 : Blk w6 p #[iv, .int .i64 g, .int .i64 (k : Int), .bool bk, tv] 65 := by
    have h1 := h.blk
    unfold Blk at h1 ⊢
    rw [hg.block p hpl (fun e => h.ip e.symm)]
    exact h1
  have hto6 := h.to.kept hg (by
    rcases hc : tv.ownBlock with _ | b
    · exact .inl rfl
    · refine .inr (fun e => ?_)
      exact h.it b e.symm hc)
  refine ⟨{ blk := hb6.set 0 v6, io := ?_, to := ?_, bp := h.bp, ip := hv6p, tp := h.tp, it := ?_ }, ?_⟩
  · rw [List.length_append, inF_snoc]
    exact hown.kept ⟨rfl, rfl, rfl, by rw [hsz]; exact Nat.le_refl _, fun b _ hb => hset b (fun e => hb (by rw [e]))⟩ (Or.inr hv6p)
  · exact hto6.kept ⟨rfl, rfl, rfl, by rw [hsz]; exact Nat.le_refl _, fun b _ hb => hset b (fun e => hb (by rw [e]))⟩ (Or.inr h.tp)
  · intro b hb
    rcases hat with e | e
    · exact h.it b (by rw [← e]; exact hb)
    · intro hc
      rw [e] at hb
      injection hb with hb
      have := hcl b hc
      omega
  · refine ⟨⟨hg.os, hg.tape, hg.output, by rw [hsz]; exact hg.size, fun b hb hp h1 h2 => ⟨?_, ?_, h2⟩⟩, ?_⟩
    · rw [hset b hp]
      exact hg.block b hb (fun e => h1 e.symm)
    · rcases hat with e | e
      · rw [e]; exact h1
      · rw [e]; intro he; injection he with he; omega
    · rcases hat0 with e | ⟨e, hn⟩
      · exact .inl e
      · exact .inr fun b hb hp => ⟨(hset b hp).trans (hn.block b hb (by simp)), by rw [e]; intro he; injection he with he; omega⟩
theorem Bld.setLoops {B p : Nat} {w : World} {l : List Inn} {g : Int} {k : Nat} {bk : Bool} {iv tv : Value} {ts : List Value} (h : Bld B p w l g k bk iv tv ts) (k' : Nat) :
    Bld B p (w.setCell ⟨p, 2, none⟩ (.int .i64 (k' : Int))) l g k' bk iv tv ts ∧ CStep p w iv tv (w.setCell ⟨p, 2, none⟩ (.int .i64 (k' : Int))) iv tv := by
  have hset : ∀ b, b ≠ p → (w.setCell ⟨p, 2, none⟩ (.int .i64 (k' : Int))).heap[b]? = w.heap[b]? := fun b hb => Below.heap_setCell _ _ _ _ (fun e => hb e)
  have hsz : (w.setCell ⟨p, 2, none⟩ (.int .i64 (k' : Int))).heap.size = w.heap.size := by simp [World.setCell]
  have hg : w.grownBy (w.setCell ⟨p, 2, none⟩ (.int .i64 (k' : Int))) (some p) := ⟨rfl, rfl, rfl, by rw [hsz]; exact Nat.le_refl _, fun b _ hb => hset b (fun e => hb (by rw [e]))⟩
  exact ⟨{ h with blk := h.blk.set 2 _, io := h.io.kept hg (Or.inr h.ip), to := h.to.kept hg (Or.inr h.tp) },
    ⟨rfl, rfl, rfl, by rw [hsz]; exact Nat.le_refl _, fun b _ hp h1 h2 => ⟨hset b hp, h1, h2⟩⟩⟩
theorem ret_i64 {a b : Int} (h : a = b) : Ending.returned (.int .i64 a) = .returned (.int .i64 b) := by rw [h]
theorem inst_info : ∃ i, Try.prog.info? 49 = some i ∧ i.zero = some (.agg #[.int .i64 0, .int .u64 0, .int .u64 0, .int .u64 0, .int .u64 0, .int .i64 0, .int .i64 0]) ∧ i.size = 7 ∧ i.bytes = 56 := by
  have h : (Try.prog.info? 49).map (fun i => (i.zero, i.size, i.bytes)) = some (some (.agg #[.int .i64 0, .int .u64 0, .int .u64 0, .int .u64 0, .int .u64 0, .int .i64 0, .int .i64 0]), 7, 56) := by kernel_rfl
  obtain ⟨i, hi, he⟩ := Option.map_eq_some_iff.1 h
  injection he with h1 h2
  injection h2 with h2 h3
  exact ⟨i, hi, h1, h2, h3⟩
theorem inC_new (w : World) (i : Inn) (T : TypeId) (g : Nat) (hg : g = w.heap.size) : ∀ j u, (inC i)[j]? = some u → (w.alloc (.cells (inC i).toArray T)).cell? ((⟨g, 0, none⟩ : Addr).add j) = some u := by
  have hb := Blk.new w (inC i).toArray T g hg
  intro j u hu
  rw [Go.WideShapes.add_plain, Nat.zero_add, hb.cell j, ← Array.getElem?_toList]
  exact hu
set_option linter.unusedSimpArgs false in
set_option maxRecDepth 100000 in
set_option maxHeartbeats 4000000 in
/-- lay. -/
theorem lay_any {B p : Nat} {l : List Inn} {g : Int} {k : Nat} {bk : Bool} {iv tv : Value} {ts : List Value} (i : Inn) (w : World) (h : Bld B p w l g k bk iv tv ts) (hl : l.length ≤ 2000000) :
    Calls Try.prog 22 #[.pointer (some ⟨p, 0, none⟩), .agg (inC i).toArray] w fun e w' => e = .returned (.int .i64 (l.length : Int)) ∧ ∃ iv', Bld B p w' (l ++ [i]) g k bk iv' tv ts ∧ CStep p w iv tv w' iv' tv ∧ Mv p w iv w' iv' := by
  obtain ⟨i0, hi, hz0, hz1, hz2⟩ := inst_info
  have hpl := h.blk.lt
  have hb0 := Nat.le_trans h.bp (Nat.le_of_lt hpl)
  have hAa := (Below.refl w.heap.size w).alloc (Nat.le_refl _) (.cells (inC i).toArray 49)
  have hA := h.below hAa
  have hBx := Blk.new w (inC i).toArray 49 w.heap.size rfl
  have hcell : ∀ j v, (inC i)[j]? = some v → (w.alloc (.cells (inC i).toArray 49)).cell? ⟨w.heap.size, j, none⟩ = some v := fun j v hv => by
    rw [hBx.cell j, ← Array.getElem?_toList]; exact hv
  obtain ⟨ia, ic, rfl⟩ := co_form hA.io
  have hAc := hA.cells
  have c0 := hAc.c0
  have z0 := hAc.z0
  clear hAc
  have e0 := hcell 0 _ rfl
  have e1 := hcell 1 _ rfl
  have e2 := hcell 2 _ rfl
  have e3 := hcell 3 _ rfl
  have e4 := hcell 4 _ rfl
  have e5 := hcell 5 _ rfl
  have e6 := hcell 6 _ rfl
  have HA := Lib.hid hA
  have HAa := Lib.hid hAa
  have hw1 : w.heap.size < (w.alloc (.cells (inC i).toArray 49)).heap.size := by simp
  have hne : ¬ p = w.heap.size := by omega
  have hne' : ¬ w.heap.size = p := by omega
  clear hcell hAa hA hBx h
  go_enter Try.func22, Try.ntmps22
  go_wp2
  change Code.wp _ _ _ _ (w.alloc (.cells (inC i).toArray 49))
  generalize hW1 : w.alloc (.cells (inC i).toArray 49) = W1 at HA HAa c0 z0 e0 e1 e2 e3 e4 e5 e6 hw1 ⊢
  have hm1 : l.length + 1 ≤ maxLen := by unfold maxLen; omega
  have hm2 : (l.length + 1) * 56 ≤ 140737488355328 := by omega
  have hBW : B ≤ W1.heap.size := by omega
  have hpW : p < W1.heap.size := by omega
  clear hW1 hb0 hpl
  go_region_law (first
    | (refine step_append_keep rfl _ _ 30 rfl B 49 i0 (.agg #[.int .i64 0, .int .u64 0, .int .u64 0, .int .u64 0, .int .u64 0, .int .i64 0, .int .i64 0]) 7 56 Try.underlying30 hi hz0 hz1 hz2 rfl (by decide) (.slice ia l.length ic) l.length (inF l) rfl (nd_own_below HA.out.io (by repeat (first | exact Below.refl _ _ | refine Below.drew ?_ | refine Below.alloc ?_ (Nat.le_refl _) _))) ⟨W1.heap.size, 0, none⟩ 1 1 (inC i) rfl rfl (inC_new _ i _ _ rfl) (inC_one i) hm1 hm2 (by simp; omega) ?_; intro v6 w6 hown6 hgrow6 hat6; obtain ⟨a6, c6, rfl⟩ := co_form hown6; have HP := Lib.hid (Bld.push (HA.out.below (by repeat (first | exact Below.refl _ _ | refine Below.drew ?_ | refine Below.alloc ?_ (Nat.le_refl _) _))) hown6 hgrow6 hat6); have hk6 := Bld.blk6 (HA.out.below (by repeat (first | exact Below.refl _ _ | refine Below.drew ?_ | refine Below.alloc ?_ (Nat.le_refl _) _))) hgrow6; have hz6 := hk6.frozen 0; have hc6 : w6.cell? ⟨p, 0, none⟩ = some (.slice ia l.length ic) := (hk6.cell 0).trans rfl; clear hown6 hgrow6 hat6 hk6))
  all_goals
    have k0 := HP.out.1.cells.c0
    have hfin := And.intro HP.out.1 (And.intro (CStep.trans (CStep.of_below (HAa.out.trans (Below.mono (by repeat (first | exact Below.refl _ _ | refine Below.drew ?_ | refine Below.alloc ?_ (Nat.le_refl _) _)) HAa.out.size))) HP.out.2.1) (Mv.pre (HAa.out.trans (Below.mono (by repeat (first | exact Below.refl _ _ | refine Below.drew ?_ | refine Below.alloc ?_ (Nat.le_refl _) _)) HAa.out.size)) HP.out.2.2))
    have Hfin := Lib.hid hfin
    clear hfin
    have Wl : IntKind.i64.wrap ((l.length : Int) + 1 - 1) = (l.length : Int) := by rw [IntWalk.i64_in _ (by omega)]; omega
    have Wl2 : IntKind.i64.wrap (((l.length + 1 : Nat) : Int) - 1) = (l.length : Int) := by rw [IntWalk.i64_in _ (by omega)]; omega
    clear HP HA HAa c0 z0 e0 e1 e2 e3 e4 e5 e6 hz6 hc6
    generalize w6.setCell ⟨p, 0, none⟩ (.slice a6 (l.length + 1) c6) = W7 at k0 Hfin ⊢
    go_wp2_with fail
    go_ret
    refine ⟨ret_i64 ?_, _, Hfin.out⟩
    first | rfl | (simp; done) | omega
end Go.Proofs.Ytihfenkphhnbcaa
namespace Go.Proofs.Ytihfenkphhnbcaa
open Go Go.RowKit
theorem inC_ins (op x y : Int) : (inC (ins op x y)).toArray = #[.int .i64 op, .int .u64 0, .int .u64 0, .int .u64 0, .int .u64 0, .int .i64 x, .int .i64 y] := by
  unfold inC ins
  simp only [show ow (0 : OSet) 0 = 0 from ow_zero 0, show ow (0 : OSet) 1 = 0 from ow_zero 1, show ow (0 : OSet) 2 = 0 from ow_zero 2, show ow (0 : OSet) 3 = 0 from ow_zero 3]
theorem lay_ins {B p : Nat} {l : List Inn} {g : Int} {k : Nat} {bk : Bool} {iv tv : Value} {ts : List Value} (op x y : Int) (w : World) (h : Bld B p w l g k bk iv tv ts) (hl : l.length ≤ 2000000) :
    Calls Try.prog 22 #[.pointer (some ⟨p, 0, none⟩), .agg #[.int .i64 op, .int .u64 0, .int .u64 0, .int .u64 0, .int .u64 0, .int .i64 x, .int .i64 y]] w fun e w' => e = .returned (.int .i64 (l.length : Int)) ∧ ∃ iv', Bld B p w' (l ++ [ins op x y]) g k bk iv' tv ts ∧ CStep p w iv tv w' iv' tv ∧ Mv p w iv w' iv' := by
  have := lay_any (ins op x y) w h hl
  rw [inC_ins] at this
  exact this
set_option linter.unusedSimpArgs false in
theorem toolong_any {B p : Nat} {l : List Inn} {g : Int} {k : Nat} {bk : Bool} {iv tv : Value} {ts : List Value} (w : World) (h : Bld B p w l g k bk iv tv ts) :
    Calls Try.prog 24 #[.pointer (some ⟨p, 0, none⟩)] w fun e w' => e = .returned (.bool (decide (3000 < l.length))) ∧ w' = w := by
  obtain ⟨ia, ic, rfl⟩ := co_form h.io
  have c0 := h.cells.c0
  have hd : decide ((3000 : Int) < (l.length : Int)) = decide (3000 < l.length) := decide_eq_decide.2 (by omega)
  clear h
  go_enter Try.func24, Try.ntmps24
  go_wp2
  go_ret
  exact ⟨by rw [← hd]; rfl, rfl⟩
set_option linter.unusedSimpArgs false in
set_option maxRecDepth 100000 in
set_option maxHeartbeats 2000000 in
theorem enter_any {B p : Nat} {l : List Inn} {g : Int} {k : Nat} {bk : Bool} {iv tv : Value} {ts : List Value} (y : Int) (w : World) (h : Bld B p w l g k bk iv tv ts) (hl : l.length ≤ 1000000) (hk : k ≤ 1000000) :
    Calls Try.prog 57 #[.pointer (some ⟨p, 0, none⟩), .int .i64 y] w fun e w' => e = .returned (.int .i64 (k : Int)) ∧ ∃ iv', Bld B p w' (l ++ [ins 1 (l.length + 1 : Nat) y, ins 7 k 0]) g (k + 1) bk iv' tv ts ∧ CStep p w iv tv w' iv' tv := by
  obtain ⟨ia, ic, rfl⟩ := co_form h.io
  obtain ⟨K, hK⟩ : ∃ K, k + 1 = K := ⟨_, rfl⟩
  obtain ⟨L, hL⟩ : ∃ L, l.length + 1 = L := ⟨_, rfl⟩
  rw [hK, hL]
  obtain ⟨hB, hS⟩ := h.setLoops K
  have Wk : IntKind.i64.wrap ((k : Int) + 1) = (K : Int) := by rw [IntWalk.i64_in _ (by omega)]; omega
  have Wl : IntKind.i64.wrap ((l.length : Int) + 1) = (L : Int) := by rw [IntWalk.i64_in _ (by omega)]; omega
  have hc := h.cells
  have c2 := hc.c2
  have z2 := hc.z2
  have c0 := hB.cells.c0
  have h1 := lay_ins 1 (L : Int) y _ hB (by omega)
  have h2 := fun (iv' : Value) (w' : World) (hb : Bld B p w' (l ++ [ins 1 (L : Int) y]) g K bk iv' tv ts) => lay_ins 7 k 0 w' hb (by simp; omega)
  have HS := Lib.hid hS
  clear h hB hS hc
  go_enter Try.func57, Try.ntmps57
  go_wp2_with (go_at_call 22; refine h1.mono ?_; rintro e w1 ⟨rfl, iv1, hB1, hS1, _⟩; have h3 := h2 iv1 w1 hB1; clear h1 h2)
  refine h3.mono ?_
  clear h3
  rintro e w2 ⟨rfl, iv2, hB2, hS2, _⟩
  have Hfin := Lib.hid (And.intro hB2 ((HS.out.trans hS1).trans hS2))
  clear hB1 hS1 hB2 hS2 HS
  go_wp2_with fail
  go_ret
  refine ⟨rfl, iv2, ?_, Hfin.out.2⟩
  have := Hfin.out.1
  rw [List.append_assoc] at this
  exact this
end Go.Proofs.Ytihfenkphhnbcaa
namespace Go.Proofs.Ytihfenkphhnbcaa
open Go.ChangeShapes Go.WideShapes Go.ChangeAt Go.RowKit
theorem own : ownKnob Try.prog.godebug = none := by kernel_rfl
theorem laidOut : laidOutB Try.prog = true := by kernel_rfl
end Go.Proofs.Ytihfenkphhnbcaa
