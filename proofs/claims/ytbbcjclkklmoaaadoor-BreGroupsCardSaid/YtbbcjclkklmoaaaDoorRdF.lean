/- What the reader's parts answer: a node, or a fault; a backslash and a byte. -/
import Derived.Test.YtbbcjclkklmoaaaDoorRdDE
import Derived.Test.YtbbcjclkklmoaaaDoorRxC
import Derived.Test.YtbbcjclkklmoaaaDoorBrProgF
import Derived.Test.YtbbcjclkklmoaaaDoorNdFits
namespace Go.Proofs.YtbbcjclkklmoaaaDoor
open Go Go.RowKit

/-- A node that was made since block lo, beside the reader's blocks. -/
def NdOff (lo p : Nat) (mv cv : Value) (w : World) (d : Nd) (v : Value) : Prop := NdX (fun b => lo ≤ b ∧ OffR p mv cv b) w d v
/-- What a part of the reader answers: a node, or a fault that it throws. -/
def NdAns (r : ReRes (ReSt × Nd)) (B p : Nat) (s : ByteArray) (dep : Nat) (mv cv : Value) (w : World) (e : Ending) (w' : World) : Prop :=
  ∃ mv' cv', RStep p w mv cv w' mv' cv' ∧ match r with
    | .error q => Thrown q.2 q.1 e
    | .ok q => ∃ es' v, e = .returned v ∧ Rd B p w' s q.1 es' dep mv' cv' ∧ NdOff w.heap.size p mv' cv' w' q.2 v
theorem ndans_err {r : ReRes (ReSt × Nd)} {B p : Nat} {s : ByteArray} {dep : Nat} {mv cv mv' cv' : Value} {w w' : World} {e : Ending} {a b : Nat} (h : r = .error (a, b)) (hS : RStep p w mv cv w' mv' cv') (hE : Thrown b a e) : NdAns r B p s dep mv cv w e w' := by
  subst h; exact ⟨_, _, hS, hE⟩
theorem ndans_ok {r : ReRes (ReSt × Nd)} {B p : Nat} {s : ByteArray} {dep : Nat} {mv cv mv' cv' : Value} {w w' : World} {v : Value} {st : ReSt} {d : Nd} {es : List Bool} (h : r = .ok (st, d)) (hS : RStep p w mv cv w' mv' cv') (hR : Rd B p w' s st es dep mv' cv') (hN : NdOff w.heap.size p mv' cv' w' d v) : NdAns r B p s dep mv cv w (.returned v) w' := by
  subst h; exact ⟨_, _, hS, es, v, rfl, hR, hN⟩
theorem NdAns.from {r : ReRes (ReSt × Nd)} {B p : Nat} {s : ByteArray} {dep : Nat} {mv cv mv1 cv1 : Value} {w w1 w' : World} {e : Ending} (h : NdAns r B p s dep mv1 cv1 w1 e w') (hS : RStep p w mv cv w1 mv1 cv1) : NdAns r B p s dep mv cv w e w' := by
  obtain ⟨mv', cv', hS', hr⟩ := h
  refine ⟨mv', cv', hS.trans hS', ?_⟩
  cases r with
  | error q => exact hr
  | ok q =>
    obtain ⟨es', v, h1, h2, h3⟩ := hr
    exact ⟨es', v, h1, h2, h3.keep (Nat.le_refl _) (fun b hb _ => ⟨⟨Nat.le_trans hS.size hb.1, hb.2⟩, fun _ => rfl⟩)⟩
/-- Nodes without parts. -/
theorem ndoff_one (lo p : Nat) (mv cv : Value) (w : World) (t : OSet) : NdOff lo p mv cv w (.one t) (.iface 80 (.agg #[.int .u64 (ow t 0), .int .u64 (ow t 1), .int .u64 (ow t 2), .int .u64 (ow t 3)])) := ⟨1, rfl⟩
theorem ndoff_back (lo p : Nat) (mv cv : Value) (w : World) (n : Int) : NdOff lo p mv cv w (.back n) (.iface 87 (.agg #[.int .i64 n])) := ⟨1, rfl⟩
theorem ndoff_start (lo p : Nat) (mv cv : Value) (w : World) : NdOff lo p mv cv w .start (.iface 92 (.agg #[])) := ⟨1, rfl⟩
theorem ndoff_fin (lo p : Nat) (mv cv : Value) (w : World) : NdOff lo p mv cv w .fin (.iface 93 (.agg #[])) := ⟨1, rfl⟩
theorem ndoff_rep {lo p : Nat} {mv cv : Value} {w : World} {d : Nd} {u : Value} (h : NdOff lo p mv cv w d u) (a b : Int) : NdOff lo p mv cv w (.rep d a b) (.iface 54 (.agg #[u, .int .i64 a, .int .i64 b])) := by
  obtain ⟨n, h⟩ := h
  exact ⟨n + 1, u, rfl, h⟩
theorem ndoff_group {lo p : Nat} {mv cv : Value} {w : World} {d : Nd} {u : Value} (h : NdOff lo p mv cv w d u) (a : Int) : NdOff lo p mv cv w (.group a d) (.iface 36 (.agg #[.int .i64 a, u])) := by
  obtain ⟨n, h⟩ := h
  exact ⟨n + 1, u, rfl, h⟩
theorem NdOff.step {lo p : Nat} {mv cv mv' cv' : Value} {w w' : World} {d : Nd} {u : Value} (h : NdOff lo p mv cv w d u) (hS : RStep p w mv cv w' mv' cv') : NdOff lo p mv' cv' w' d u :=
  h.keep hS.size (fun b hb hlt => ⟨⟨hb.1, (hS.keep b hb.2 hlt).1⟩, (hS.keep b hb.2 hlt).2⟩)
/-- The package's variables stand. -/
theorem own_base {B : Nat} {w : World} {e : TypeId} {size n : Nat} {v : Value} {us : List Value} (h : w.ownsRow B e size v n us) (b : Nat) (hb : b < B) : v.ownBlock ≠ some b := fun hv => by
  have := (h.lt b hv).1
  omega
theorem RStep.low {B p : Nat} {w w' : World} {s : ByteArray} {st : ReSt} {es : List Bool} {dep : Nat} {mv cv mv' cv' : Value} (hS : RStep p w mv cv w' mv' cv') (h : Rd B p w s st es dep mv cv) : Below B w w' :=
  ⟨hS.os, hS.tape, hS.output, hS.size, fun b hb => (hS.block b (Nat.lt_of_lt_of_le hb (Nat.le_trans h.bp (Nat.le_of_lt h.blk.lt))) (by have := h.bp; omega) (own_base h.mo b hb) (own_base h.co b hb)).1⟩
theorem Gl.step {B p : Nat} {w w' : World} {s : ByteArray} {st : ReSt} {es : List Bool} {dep : Nat} {mv cv mv' cv' : Value} (hG : Gl w) (hS : RStep p w mv cv w' mv' cv') (h : Rd B p w s st es dep mv cv) (hB : 3 ≤ B) : Gl w' := hG.below (hS.low h) hB
/-- What a group's reading answers, behind its opening sign. -/
def GroupOk (B p : Nat) (s : ByteArray) (st : ReSt) (es : List Bool) (dep : Nat) (sub : Option (ReSt → ReRes (ReSt × Nd))) : Prop := ∀ (w2 : World) (mv cv : Value), Gl w2 → es.length ≤ st.pos → Rd B p w2 s (st.to (st.pos + 2)) es dep mv cv →
  Calls Tryd.prog 105 #[.pointer (some ⟨p, 0, none⟩), .int .i64 (st.pos : Int)] w2 fun e w' => NdAns (grpM false s.data.toList sub st) B p s dep mv cv w2 e w'
set_option linter.unusedSimpArgs false in
set_option maxRecDepth 100000 in
set_option maxHeartbeats 4000000 in
theorem escd_tail {B p : Nat} {s : ByteArray} {st : ReSt} {es : List Bool} {dep : Nat} {mv cv : Value} (w : World) (h : Rd B p w s (st.to (st.pos + 1)) es dep mv cv) (hlt : s.size = st.pos + 1) : Calls Tryd.prog 99 #[.pointer (some ⟨p, 0, none⟩), .int .i64 (st.pos : Int)] w fun e w' => NdAns (.error (11, st.pos)) B p s dep mv cv w e w' := by
  obtain ⟨c0, c1, c2, c3, c4, z1, z2, z3, z4⟩ := h.cells
  have hk : (st.to (st.pos + 1)).pos = s.size := hlt.symm
  rw [hk] at c1
  have e0 : ((s.size : Int) == (s.size : Int)) = true := by rw [beq_iff_eq]
  have hstp := fun n => RStep.of_below (p := p) (mv := mv) (cv := cv) (below_drewN (Below.refl w.heap.size w) n)
  clear hk hlt h
  go_enter Tryd.func99, Tryd.ntmps99
  go_wp2_with fail
  go_quiet (fail)
  go_wp2_with fail
  exact ⟨rfl, ndans_err rfl (hstp _) rfl⟩
set_option linter.unusedSimpArgs false in
set_option maxRecDepth 100000 in
set_option maxHeartbeats 4000000 in
theorem escd_grp {B p : Nat} {s : ByteArray} {st : ReSt} {es : List Bool} {dep : Nat} {mv cv : Value} (w : World) (h : Rd B p w s (st.to (st.pos + 1)) es dep mv cv) (hlt : st.pos + 1 < s.size) (hc : byt s.data.toList (st.pos + 1) = 40) (sub : Option (ReSt → ReRes (ReSt × Nd))) (hG : Gl w) (hB : 3 ≤ B) (hfe : es.length ≤ st.pos) (hgr : GroupOk B p s st es dep sub) :
    Calls Tryd.prog 99 #[.pointer (some ⟨p, 0, none⟩), .int .i64 (st.pos : Int)] w fun e w' => NdAns (grpM false s.data.toList sub st) B p s dep mv cv w e w' := by
  have hps : st.pos + 1 ≤ s.size := h.pos; have hsm := h.small; obtain ⟨k, hk⟩ : ∃ k, k = st.pos + 1 := ⟨_, rfl⟩; rw [← hk] at h hps hlt; have hk1 : (k : Int) < (s.size : Int) := (by omega); have hb0 := pbyt_at s k hlt; have Wn : IntKind.i64.wrap ((k : Int) + 1) = ((k + 1 : Nat) : Int) := (by rw [IntWalk.i64_in _ (by omega)]; omega); have hgo : ∀ n, Rd B p ((w.drewN n).setCell ⟨p, 1, none⟩ (.int .i64 ((k : Int) + 1))) s (st.to (k + 1)) es dep mv cv ∧ RStep p w mv cv ((w.drewN n).setCell ⟨p, 1, none⟩ (.int .i64 ((k : Int) + 1))) mv cv := fun n => ⟨((h.below (below_drewN (Below.refl w.heap.size w) n)).goto (k + 1) (show k ≤ k + 1 by omega) (show k + 1 ≤ s.size by omega)).1, (RStep.of_below (below_drewN (Below.refl w.heap.size w) n)).trans ((h.below (below_drewN (Below.refl w.heap.size w) n)).goto (k + 1) (show k ≤ k + 1 by omega) (show k + 1 ≤ s.size by omega)).2⟩; obtain ⟨c0, c1, c2, c3, c4, z1, z2, z3, z4⟩ := h.cells; replace c1 : w.cell? ⟨p, 1, none⟩ = some (.int .i64 (k : Int)) := c1; have e0 : ((k : Int) == (s.size : Int)) = false := (by rw [beq_eq_false_iff_ne]; omega); have HK := Lib.hid hk; have HGO := Lib.hid hgo; have H := Lib.hid h; clear hk hgo h hps
  rw [← HK.out, hb0] at hc
  have e40 : ((s[k].toNat : Int) == 40) = true := by rw [hc]; decide
  have e49 : ((s[k].toNat : Int) == 49) = false := by rw [hc]; decide
  have e50 : ((s[k].toNat : Int) == 50) = false := by rw [hc]; decide
  have e51 : ((s[k].toNat : Int) == 51) = false := by rw [hc]; decide
  have e52 : ((s[k].toNat : Int) == 52) = false := by rw [hc]; decide
  have e53 : ((s[k].toNat : Int) == 53) = false := by rw [hc]; decide
  have e54 : ((s[k].toNat : Int) == 54) = false := by rw [hc]; decide
  have e55 : ((s[k].toNat : Int) == 55) = false := by rw [hc]; decide
  have e56 : ((s[k].toNat : Int) == 56) = false := by rw [hc]; decide
  have e57 : ((s[k].toNat : Int) == 57) = false := by rw [hc]; decide
  have e123 : ((s[k].toNat : Int) == 123) = false := by rw [hc]; decide
  have e43 : ((s[k].toNat : Int) == 43) = false := by rw [hc]; decide
  have e63 : ((s[k].toNat : Int) == 63) = false := by rw [hc]; decide
  have Hc := Lib.hid hc
  clear hc hb0
  have HGl := Lib.hid hG
  clear hG
  go_enter Tryd.func99, Tryd.ntmps99; go_wp2_with fail; go_quiet (fail); generalize nq = n1; go_wp2_with fail; go_quiet (fail); go_wp2_with fail
  obtain ⟨hR, hS⟩ := HGO.out (n1 + nq)
  rw [show k + 1 = st.pos + 2 by rw [HK.out]] at hR
  refine (hgr _ _ _ (HGl.out.step hS H.out hB) hfe hR).mono ?_
  intro e w' hA
  replace hA := hA.from hS
  obtain ⟨mv', cv', hS', hr⟩ := hA
  have HS' := Lib.hid hS'
  clear hS'
  cases hg : grpM false s.data.toList sub st with
  | error q =>
    rw [hg] at hr
    obtain rfl : e = _ := hr
    go_wp2_with fail
    exact ⟨rfl, _, _, HS'.out, by rw [hg]; exact rfl⟩
  | ok q =>
    rw [hg] at hr
    obtain ⟨es', v, rfl, hR', hN'⟩ := hr
    go_wp2_with fail
    go_ret
    exact ⟨_, _, HS'.out, by rw [hg]; exact ⟨es', v, rfl, hR', hN'⟩⟩
set_option linter.unusedSimpArgs false in
set_option maxRecDepth 100000 in
set_option maxHeartbeats 4000000 in
theorem escd_rep {B p : Nat} {s : ByteArray} {st : ReSt} {es : List Bool} {dep : Nat} {mv cv : Value} (w : World) (h : Rd B p w s (st.to (st.pos + 1)) es dep mv cv) (hlt : st.pos + 1 < s.size) (hc : byt s.data.toList (st.pos + 1) = 43 ∨ byt s.data.toList (st.pos + 1) = 63 ∨ byt s.data.toList (st.pos + 1) = 123) :
    Calls Tryd.prog 99 #[.pointer (some ⟨p, 0, none⟩), .int .i64 (st.pos : Int)] w fun e w' => NdAns (.error (10, st.pos)) B p s dep mv cv w e w' := by
  have hps : st.pos + 1 ≤ s.size := h.pos; have hsm := h.small; obtain ⟨k, hk⟩ : ∃ k, k = st.pos + 1 := ⟨_, rfl⟩; rw [← hk] at h hps hlt; have hk1 : (k : Int) < (s.size : Int) := (by omega); have hb0 := pbyt_at s k hlt; have Wn : IntKind.i64.wrap ((k : Int) + 1) = ((k + 1 : Nat) : Int) := (by rw [IntWalk.i64_in _ (by omega)]; omega); have hgo : ∀ n, Rd B p ((w.drewN n).setCell ⟨p, 1, none⟩ (.int .i64 ((k : Int) + 1))) s (st.to (k + 1)) es dep mv cv ∧ RStep p w mv cv ((w.drewN n).setCell ⟨p, 1, none⟩ (.int .i64 ((k : Int) + 1))) mv cv := fun n => ⟨((h.below (below_drewN (Below.refl w.heap.size w) n)).goto (k + 1) (show k ≤ k + 1 by omega) (show k + 1 ≤ s.size by omega)).1, (RStep.of_below (below_drewN (Below.refl w.heap.size w) n)).trans ((h.below (below_drewN (Below.refl w.heap.size w) n)).goto (k + 1) (show k ≤ k + 1 by omega) (show k + 1 ≤ s.size by omega)).2⟩; obtain ⟨c0, c1, c2, c3, c4, z1, z2, z3, z4⟩ := h.cells; replace c1 : w.cell? ⟨p, 1, none⟩ = some (.int .i64 (k : Int)) := c1; have e0 : ((k : Int) == (s.size : Int)) = false := (by rw [beq_eq_false_iff_ne]; omega); have HK := Lib.hid hk; have HGO := Lib.hid hgo; have H := Lib.hid h; clear hk hgo h hps
  rw [← HK.out, hb0] at hc
  rcases hc with hc | hc | hc
  · have e40 : ((s[k].toNat : Int) == 40) = false := by rw [hc]; decide
    have e49 : ((s[k].toNat : Int) == 49) = false := by rw [hc]; decide
    have e50 : ((s[k].toNat : Int) == 50) = false := by rw [hc]; decide
    have e51 : ((s[k].toNat : Int) == 51) = false := by rw [hc]; decide
    have e52 : ((s[k].toNat : Int) == 52) = false := by rw [hc]; decide
    have e53 : ((s[k].toNat : Int) == 53) = false := by rw [hc]; decide
    have e54 : ((s[k].toNat : Int) == 54) = false := by rw [hc]; decide
    have e55 : ((s[k].toNat : Int) == 55) = false := by rw [hc]; decide
    have e56 : ((s[k].toNat : Int) == 56) = false := by rw [hc]; decide
    have e57 : ((s[k].toNat : Int) == 57) = false := by rw [hc]; decide
    have e123 : ((s[k].toNat : Int) == 123) = false := by rw [hc]; decide
    have e43 : ((s[k].toNat : Int) == 43) = true := by rw [hc]; decide
    have e63 : ((s[k].toNat : Int) == 63) = false := by rw [hc]; decide
    clear hc hb0
    go_enter Tryd.func99, Tryd.ntmps99; go_wp2_with fail; go_quiet (fail); generalize nq = n1; go_wp2_with fail; go_quiet (fail); go_wp2_with fail
    exact ⟨rfl, ndans_err rfl (HGO.out (n1 + nq)).2 rfl⟩
  · have e40 : ((s[k].toNat : Int) == 40) = false := by rw [hc]; decide
    have e49 : ((s[k].toNat : Int) == 49) = false := by rw [hc]; decide
    have e50 : ((s[k].toNat : Int) == 50) = false := by rw [hc]; decide
    have e51 : ((s[k].toNat : Int) == 51) = false := by rw [hc]; decide
    have e52 : ((s[k].toNat : Int) == 52) = false := by rw [hc]; decide
    have e53 : ((s[k].toNat : Int) == 53) = false := by rw [hc]; decide
    have e54 : ((s[k].toNat : Int) == 54) = false := by rw [hc]; decide
    have e55 : ((s[k].toNat : Int) == 55) = false := by rw [hc]; decide
    have e56 : ((s[k].toNat : Int) == 56) = false := by rw [hc]; decide
    have e57 : ((s[k].toNat : Int) == 57) = false := by rw [hc]; decide
    have e123 : ((s[k].toNat : Int) == 123) = false := by rw [hc]; decide
    have e43 : ((s[k].toNat : Int) == 43) = false := by rw [hc]; decide
    have e63 : ((s[k].toNat : Int) == 63) = true := by rw [hc]; decide
    clear hc hb0
    go_enter Tryd.func99, Tryd.ntmps99; go_wp2_with fail; go_quiet (fail); generalize nq = n1; go_wp2_with fail; go_quiet (fail); go_wp2_with fail
    exact ⟨rfl, ndans_err rfl (HGO.out (n1 + nq)).2 rfl⟩
  · have e40 : ((s[k].toNat : Int) == 40) = false := by rw [hc]; decide
    have e49 : ((s[k].toNat : Int) == 49) = false := by rw [hc]; decide
    have e50 : ((s[k].toNat : Int) == 50) = false := by rw [hc]; decide
    have e51 : ((s[k].toNat : Int) == 51) = false := by rw [hc]; decide
    have e52 : ((s[k].toNat : Int) == 52) = false := by rw [hc]; decide
    have e53 : ((s[k].toNat : Int) == 53) = false := by rw [hc]; decide
    have e54 : ((s[k].toNat : Int) == 54) = false := by rw [hc]; decide
    have e55 : ((s[k].toNat : Int) == 55) = false := by rw [hc]; decide
    have e56 : ((s[k].toNat : Int) == 56) = false := by rw [hc]; decide
    have e57 : ((s[k].toNat : Int) == 57) = false := by rw [hc]; decide
    have e123 : ((s[k].toNat : Int) == 123) = true := by rw [hc]; decide
    have e43 : ((s[k].toNat : Int) == 43) = false := by rw [hc]; decide
    have e63 : ((s[k].toNat : Int) == 63) = false := by rw [hc]; decide
    clear hc hb0
    go_enter Tryd.func99, Tryd.ntmps99; go_wp2_with fail; go_quiet (fail); generalize nq = n1; go_wp2_with fail; go_quiet (fail); go_wp2_with fail
    exact ⟨rfl, ndans_err rfl (HGO.out (n1 + nq)).2 rfl⟩
set_option linter.unusedSimpArgs false in
set_option maxRecDepth 100000 in
set_option maxHeartbeats 4000000 in
theorem escd_dig {B p : Nat} {s : ByteArray} {st : ReSt} {es : List Bool} {dep : Nat} {mv cv : Value} (w : World) (h : Rd B p w s (st.to (st.pos + 1)) es dep mv cv) (hlt : st.pos + 1 < s.size) (c : Nat) (hc0 : byt s.data.toList (st.pos + 1) = c) (h49 : 49 ≤ c) (h57 : c ≤ 57) :
    Calls Tryd.prog 99 #[.pointer (some ⟨p, 0, none⟩), .int .i64 (st.pos : Int)] w fun e w' => NdAns (escM false st c) B p s dep mv cv w e w' := by
  have he : escM false st c = if st.closed.contains ((c : Int) - 48) then .ok (st.to (st.pos + 2), .back ((c : Int) - 48)) else .error (9, st.pos) := by
    unfold escM
    rw [if_pos ⟨h49, h57⟩]
    rfl
  obtain ⟨R, hR0⟩ : ∃ R, R = escM false st c := ⟨_, rfl⟩
  rw [← hR0]
  have HR0 := Lib.hid (hR0.trans he)
  clear he hR0
  have hcc := hc0
  have hps : st.pos + 1 ≤ s.size := h.pos; have hsm := h.small; obtain ⟨k, hk⟩ : ∃ k, k = st.pos + 1 := ⟨_, rfl⟩; rw [← hk] at h hps hlt; have hk1 : (k : Int) < (s.size : Int) := (by omega); have hb0 := pbyt_at s k hlt; have Wn : IntKind.i64.wrap ((k : Int) + 1) = ((k + 1 : Nat) : Int) := (by rw [IntWalk.i64_in _ (by omega)]; omega); have hgo : ∀ n, Rd B p ((w.drewN n).setCell ⟨p, 1, none⟩ (.int .i64 ((k : Int) + 1))) s (st.to (k + 1)) es dep mv cv ∧ RStep p w mv cv ((w.drewN n).setCell ⟨p, 1, none⟩ (.int .i64 ((k : Int) + 1))) mv cv := fun n => ⟨((h.below (below_drewN (Below.refl w.heap.size w) n)).goto (k + 1) (show k ≤ k + 1 by omega) (show k + 1 ≤ s.size by omega)).1, (RStep.of_below (below_drewN (Below.refl w.heap.size w) n)).trans ((h.below (below_drewN (Below.refl w.heap.size w) n)).goto (k + 1) (show k ≤ k + 1 by omega) (show k + 1 ≤ s.size by omega)).2⟩; obtain ⟨c0, c1, c2, c3, c4, z1, z2, z3, z4⟩ := h.cells; replace c1 : w.cell? ⟨p, 1, none⟩ = some (.int .i64 (k : Int)) := c1; have e0 : ((k : Int) == (s.size : Int)) = false := (by rw [beq_eq_false_iff_ne]; omega); have HK := Lib.hid hk; have HGO := Lib.hid hgo; have H := Lib.hid h; clear hk hgo h hps
  rw [← HK.out, hb0] at hc0
  have hcs : c = 49 ∨ c = 50 ∨ c = 51 ∨ c = 52 ∨ c = 53 ∨ c = 54 ∨ c = 55 ∨ c = 56 ∨ c = 57 := by omega
  clear h49 h57 hcc
  rcases hcs with hcs | hcs | hcs | hcs | hcs | hcs | hcs | hcs | hcs
  · have hc : s[k].toNat = 49 := hc0.trans hcs
    have e40 : ((s[k].toNat : Int) == 40) = false := by rw [hc]; decide
    have e49 : ((s[k].toNat : Int) == 49) = true := by rw [hc]; decide
    have e50 : ((s[k].toNat : Int) == 50) = false := by rw [hc]; decide
    have e51 : ((s[k].toNat : Int) == 51) = false := by rw [hc]; decide
    have e52 : ((s[k].toNat : Int) == 52) = false := by rw [hc]; decide
    have e53 : ((s[k].toNat : Int) == 53) = false := by rw [hc]; decide
    have e54 : ((s[k].toNat : Int) == 54) = false := by rw [hc]; decide
    have e55 : ((s[k].toNat : Int) == 55) = false := by rw [hc]; decide
    have e56 : ((s[k].toNat : Int) == 56) = false := by rw [hc]; decide
    have e57 : ((s[k].toNat : Int) == 57) = false := by rw [hc]; decide
    have e123 : ((s[k].toNat : Int) == 123) = false := by rw [hc]; decide
    have e43 : ((s[k].toNat : Int) == 43) = false := by rw [hc]; decide
    have e63 : ((s[k].toNat : Int) == 63) = false := by rw [hc]; decide
    have Ws : IntKind.u8.wrap ((s[k].toNat : Int) - 48) = 1 := by rw [hc]; decide
    have HR1 := Lib.hid (HR0.out.trans (by rw [show ((c : Int) - 48) = ((1 : Nat) : Int) by rw [hcs]; rfl]))
    clear hc hc0 hcs hb0
    go_enter Tryd.func99, Tryd.ntmps99; go_wp2_with fail; go_quiet (fail); generalize nq = n1; go_wp2_with fail; go_quiet (fail); go_wp2_with fail
    obtain ⟨hR, hS⟩ := HGO.out (n1 + nq)
    cases hq : st.closed.contains ((1 : Nat) : Int) with
    | false =>
      refine (back_no 1 st.pos _ hR (by decide) hq).mono ?_
      rintro e w' ⟨hE, rfl⟩
      obtain rfl : e = _ := hE
      go_wp2_with fail
      exact ⟨rfl, ndans_err (HR1.out.trans (by rw [hq]; rfl)) hS rfl⟩
    | true =>
      refine (back_yes 1 st.pos _ hR (by decide) hq).mono ?_
      rintro e w' ⟨rfl, rfl⟩
      go_wp2_with fail
      go_ret
      exact ndans_ok (HR1.out.trans (by rw [hq]; rfl)) hS (by rw [show k + 1 = st.pos + 2 by rw [HK.out]] at hR; exact hR) (ndoff_back _ _ _ _ _ _)
  · have hc : s[k].toNat = 50 := hc0.trans hcs
    have e40 : ((s[k].toNat : Int) == 40) = false := by rw [hc]; decide
    have e49 : ((s[k].toNat : Int) == 49) = false := by rw [hc]; decide
    have e50 : ((s[k].toNat : Int) == 50) = true := by rw [hc]; decide
    have e51 : ((s[k].toNat : Int) == 51) = false := by rw [hc]; decide
    have e52 : ((s[k].toNat : Int) == 52) = false := by rw [hc]; decide
    have e53 : ((s[k].toNat : Int) == 53) = false := by rw [hc]; decide
    have e54 : ((s[k].toNat : Int) == 54) = false := by rw [hc]; decide
    have e55 : ((s[k].toNat : Int) == 55) = false := by rw [hc]; decide
    have e56 : ((s[k].toNat : Int) == 56) = false := by rw [hc]; decide
    have e57 : ((s[k].toNat : Int) == 57) = false := by rw [hc]; decide
    have e123 : ((s[k].toNat : Int) == 123) = false := by rw [hc]; decide
    have e43 : ((s[k].toNat : Int) == 43) = false := by rw [hc]; decide
    have e63 : ((s[k].toNat : Int) == 63) = false := by rw [hc]; decide
    have Ws : IntKind.u8.wrap ((s[k].toNat : Int) - 48) = 2 := by rw [hc]; decide
    have HR1 := Lib.hid (HR0.out.trans (by rw [show ((c : Int) - 48) = ((2 : Nat) : Int) by rw [hcs]; rfl]))
    clear hc hc0 hcs hb0
    go_enter Tryd.func99, Tryd.ntmps99; go_wp2_with fail; go_quiet (fail); generalize nq = n1; go_wp2_with fail; go_quiet (fail); go_wp2_with fail
    obtain ⟨hR, hS⟩ := HGO.out (n1 + nq)
    cases hq : st.closed.contains ((2 : Nat) : Int) with
    | false =>
      refine (back_no 2 st.pos _ hR (by decide) hq).mono ?_
      rintro e w' ⟨hE, rfl⟩
      obtain rfl : e = _ := hE
      go_wp2_with fail
      exact ⟨rfl, ndans_err (HR1.out.trans (by rw [hq]; rfl)) hS rfl⟩
    | true =>
      refine (back_yes 2 st.pos _ hR (by decide) hq).mono ?_
      rintro e w' ⟨rfl, rfl⟩
      go_wp2_with fail
      go_ret
      exact ndans_ok (HR1.out.trans (by rw [hq]; rfl)) hS (by rw [show k + 1 = st.pos + 2 by rw [HK.out]] at hR; exact hR) (ndoff_back _ _ _ _ _ _)
  · have hc : s[k].toNat = 51 := hc0.trans hcs
    have e40 : ((s[k].toNat : Int) == 40) = false := by rw [hc]; decide
    have e49 : ((s[k].toNat : Int) == 49) = false := by rw [hc]; decide
    have e50 : ((s[k].toNat : Int) == 50) = false := by rw [hc]; decide
    have e51 : ((s[k].toNat : Int) == 51) = true := by rw [hc]; decide
    have e52 : ((s[k].toNat : Int) == 52) = false := by rw [hc]; decide
    have e53 : ((s[k].toNat : Int) == 53) = false := by rw [hc]; decide
    have e54 : ((s[k].toNat : Int) == 54) = false := by rw [hc]; decide
    have e55 : ((s[k].toNat : Int) == 55) = false := by rw [hc]; decide
    have e56 : ((s[k].toNat : Int) == 56) = false := by rw [hc]; decide
    have e57 : ((s[k].toNat : Int) == 57) = false := by rw [hc]; decide
    have e123 : ((s[k].toNat : Int) == 123) = false := by rw [hc]; decide
    have e43 : ((s[k].toNat : Int) == 43) = false := by rw [hc]; decide
    have e63 : ((s[k].toNat : Int) == 63) = false := by rw [hc]; decide
    have Ws : IntKind.u8.wrap ((s[k].toNat : Int) - 48) = 3 := by rw [hc]; decide
    have HR1 := Lib.hid (HR0.out.trans (by rw [show ((c : Int) - 48) = ((3 : Nat) : Int) by rw [hcs]; rfl]))
    clear hc hc0 hcs hb0
    go_enter Tryd.func99, Tryd.ntmps99; go_wp2_with fail; go_quiet (fail); generalize nq = n1; go_wp2_with fail; go_quiet (fail); go_wp2_with fail
    obtain ⟨hR, hS⟩ := HGO.out (n1 + nq)
    cases hq : st.closed.contains ((3 : Nat) : Int) with
    | false =>
      refine (back_no 3 st.pos _ hR (by decide) hq).mono ?_
      rintro e w' ⟨hE, rfl⟩
      obtain rfl : e = _ := hE
      go_wp2_with fail
      exact ⟨rfl, ndans_err (HR1.out.trans (by rw [hq]; rfl)) hS rfl⟩
    | true =>
      refine (back_yes 3 st.pos _ hR (by decide) hq).mono ?_
      rintro e w' ⟨rfl, rfl⟩
      go_wp2_with fail
      go_ret
      exact ndans_ok (HR1.out.trans (by rw [hq]; rfl)) hS (by rw [show k + 1 = st.pos + 2 by rw [HK.out]] at hR; exact hR) (ndoff_back _ _ _ _ _ _)
  · have hc : s[k].toNat = 52 := hc0.trans hcs
    have e40 : ((s[k].toNat : Int) == 40) = false := by rw [hc]; decide
    have e49 : ((s[k].toNat : Int) == 49) = false := by rw [hc]; decide
    have e50 : ((s[k].toNat : Int) == 50) = false := by rw [hc]; decide
    have e51 : ((s[k].toNat : Int) == 51) = false := by rw [hc]; decide
    have e52 : ((s[k].toNat : Int) == 52) = true := by rw [hc]; decide
    have e53 : ((s[k].toNat : Int) == 53) = false := by rw [hc]; decide
    have e54 : ((s[k].toNat : Int) == 54) = false := by rw [hc]; decide
    have e55 : ((s[k].toNat : Int) == 55) = false := by rw [hc]; decide
    have e56 : ((s[k].toNat : Int) == 56) = false := by rw [hc]; decide
    have e57 : ((s[k].toNat : Int) == 57) = false := by rw [hc]; decide
    have e123 : ((s[k].toNat : Int) == 123) = false := by rw [hc]; decide
    have e43 : ((s[k].toNat : Int) == 43) = false := by rw [hc]; decide
    have e63 : ((s[k].toNat : Int) == 63) = false := by rw [hc]; decide
    have Ws : IntKind.u8.wrap ((s[k].toNat : Int) - 48) = 4 := by rw [hc]; decide
    have HR1 := Lib.hid (HR0.out.trans (by rw [show ((c : Int) - 48) = ((4 : Nat) : Int) by rw [hcs]; rfl]))
    clear hc hc0 hcs hb0
    go_enter Tryd.func99, Tryd.ntmps99; go_wp2_with fail; go_quiet (fail); generalize nq = n1; go_wp2_with fail; go_quiet (fail); go_wp2_with fail
    obtain ⟨hR, hS⟩ := HGO.out (n1 + nq)
    cases hq : st.closed.contains ((4 : Nat) : Int) with
    | false =>
      refine (back_no 4 st.pos _ hR (by decide) hq).mono ?_
      rintro e w' ⟨hE, rfl⟩
      obtain rfl : e = _ := hE
      go_wp2_with fail
      exact ⟨rfl, ndans_err (HR1.out.trans (by rw [hq]; rfl)) hS rfl⟩
    | true =>
      refine (back_yes 4 st.pos _ hR (by decide) hq).mono ?_
      rintro e w' ⟨rfl, rfl⟩
      go_wp2_with fail
      go_ret
      exact ndans_ok (HR1.out.trans (by rw [hq]; rfl)) hS (by rw [show k + 1 = st.pos + 2 by rw [HK.out]] at hR; exact hR) (ndoff_back _ _ _ _ _ _)
  · have hc : s[k].toNat = 53 := hc0.trans hcs
    have e40 : ((s[k].toNat : Int) == 40) = false := by rw [hc]; decide
    have e49 : ((s[k].toNat : Int) == 49) = false := by rw [hc]; decide
    have e50 : ((s[k].toNat : Int) == 50) = false := by rw [hc]; decide
    have e51 : ((s[k].toNat : Int) == 51) = false := by rw [hc]; decide
    have e52 : ((s[k].toNat : Int) == 52) = false := by rw [hc]; decide
    have e53 : ((s[k].toNat : Int) == 53) = true := by rw [hc]; decide
    have e54 : ((s[k].toNat : Int) == 54) = false := by rw [hc]; decide
    have e55 : ((s[k].toNat : Int) == 55) = false := by rw [hc]; decide
    have e56 : ((s[k].toNat : Int) == 56) = false := by rw [hc]; decide
    have e57 : ((s[k].toNat : Int) == 57) = false := by rw [hc]; decide
    have e123 : ((s[k].toNat : Int) == 123) = false := by rw [hc]; decide
    have e43 : ((s[k].toNat : Int) == 43) = false := by rw [hc]; decide
    have e63 : ((s[k].toNat : Int) == 63) = false := by rw [hc]; decide
    have Ws : IntKind.u8.wrap ((s[k].toNat : Int) - 48) = 5 := by rw [hc]; decide
    have HR1 := Lib.hid (HR0.out.trans (by rw [show ((c : Int) - 48) = ((5 : Nat) : Int) by rw [hcs]; rfl]))
    clear hc hc0 hcs hb0
    go_enter Tryd.func99, Tryd.ntmps99; go_wp2_with fail; go_quiet (fail); generalize nq = n1; go_wp2_with fail; go_quiet (fail); go_wp2_with fail
    obtain ⟨hR, hS⟩ := HGO.out (n1 + nq)
    cases hq : st.closed.contains ((5 : Nat) : Int) with
    | false =>
      refine (back_no 5 st.pos _ hR (by decide) hq).mono ?_
      rintro e w' ⟨hE, rfl⟩
      obtain rfl : e = _ := hE
      go_wp2_with fail
      exact ⟨rfl, ndans_err (HR1.out.trans (by rw [hq]; rfl)) hS rfl⟩
    | true =>
      refine (back_yes 5 st.pos _ hR (by decide) hq).mono ?_
      rintro e w' ⟨rfl, rfl⟩
      go_wp2_with fail
      go_ret
      exact ndans_ok (HR1.out.trans (by rw [hq]; rfl)) hS (by rw [show k + 1 = st.pos + 2 by rw [HK.out]] at hR; exact hR) (ndoff_back _ _ _ _ _ _)
  · have hc : s[k].toNat = 54 := hc0.trans hcs
    have e40 : ((s[k].toNat : Int) == 40) = false := by rw [hc]; decide
    have e49 : ((s[k].toNat : Int) == 49) = false := by rw [hc]; decide
    have e50 : ((s[k].toNat : Int) == 50) = false := by rw [hc]; decide
    have e51 : ((s[k].toNat : Int) == 51) = false := by rw [hc]; decide
    have e52 : ((s[k].toNat : Int) == 52) = false := by rw [hc]; decide
    have e53 : ((s[k].toNat : Int) == 53) = false := by rw [hc]; decide
    have e54 : ((s[k].toNat : Int) == 54) = true := by rw [hc]; decide
    have e55 : ((s[k].toNat : Int) == 55) = false := by rw [hc]; decide
    have e56 : ((s[k].toNat : Int) == 56) = false := by rw [hc]; decide
    have e57 : ((s[k].toNat : Int) == 57) = false := by rw [hc]; decide
    have e123 : ((s[k].toNat : Int) == 123) = false := by rw [hc]; decide
    have e43 : ((s[k].toNat : Int) == 43) = false := by rw [hc]; decide
    have e63 : ((s[k].toNat : Int) == 63) = false := by rw [hc]; decide
    have Ws : IntKind.u8.wrap ((s[k].toNat : Int) - 48) = 6 := by rw [hc]; decide
    have HR1 := Lib.hid (HR0.out.trans (by rw [show ((c : Int) - 48) = ((6 : Nat) : Int) by rw [hcs]; rfl]))
    clear hc hc0 hcs hb0
    go_enter Tryd.func99, Tryd.ntmps99; go_wp2_with fail; go_quiet (fail); generalize nq = n1; go_wp2_with fail; go_quiet (fail); go_wp2_with fail
    obtain ⟨hR, hS⟩ := HGO.out (n1 + nq)
    cases hq : st.closed.contains ((6 : Nat) : Int) with
    | false =>
      refine (back_no 6 st.pos _ hR (by decide) hq).mono ?_
      rintro e w' ⟨hE, rfl⟩
      obtain rfl : e = _ := hE
      go_wp2_with fail
      exact ⟨rfl, ndans_err (HR1.out.trans (by rw [hq]; rfl)) hS rfl⟩
    | true =>
      refine (back_yes 6 st.pos _ hR (by decide) hq).mono ?_
      rintro e w' ⟨rfl, rfl⟩
      go_wp2_with fail
      go_ret
      exact ndans_ok (HR1.out.trans (by rw [hq]; rfl)) hS (by rw [show k + 1 = st.pos + 2 by rw [HK.out]] at hR; exact hR) (ndoff_back _ _ _ _ _ _)
  · have hc : s[k].toNat = 55 := hc0.trans hcs
    have e40 : ((s[k].toNat : Int) == 40) = false := by rw [hc]; decide
    have e49 : ((s[k].toNat : Int) == 49) = false := by rw [hc]; decide
    have e50 : ((s[k].toNat : Int) == 50) = false := by rw [hc]; decide
    have e51 : ((s[k].toNat : Int) == 51) = false := by rw [hc]; decide
    have e52 : ((s[k].toNat : Int) == 52) = false := by rw [hc]; decide
    have e53 : ((s[k].toNat : Int) == 53) = false := by rw [hc]; decide
    have e54 : ((s[k].toNat : Int) == 54) = false := by rw [hc]; decide
    have e55 : ((s[k].toNat : Int) == 55) = true := by rw [hc]; decide
    have e56 : ((s[k].toNat : Int) == 56) = false := by rw [hc]; decide
    have e57 : ((s[k].toNat : Int) == 57) = false := by rw [hc]; decide
    have e123 : ((s[k].toNat : Int) == 123) = false := by rw [hc]; decide
    have e43 : ((s[k].toNat : Int) == 43) = false := by rw [hc]; decide
    have e63 : ((s[k].toNat : Int) == 63) = false := by rw [hc]; decide
    have Ws : IntKind.u8.wrap ((s[k].toNat : Int) - 48) = 7 := by rw [hc]; decide
    have HR1 := Lib.hid (HR0.out.trans (by rw [show ((c : Int) - 48) = ((7 : Nat) : Int) by rw [hcs]; rfl]))
    clear hc hc0 hcs hb0
    go_enter Tryd.func99, Tryd.ntmps99; go_wp2_with fail; go_quiet (fail); generalize nq = n1; go_wp2_with fail; go_quiet (fail); go_wp2_with fail
    obtain ⟨hR, hS⟩ := HGO.out (n1 + nq)
    cases hq : st.closed.contains ((7 : Nat) : Int) with
    | false =>
      refine (back_no 7 st.pos _ hR (by decide) hq).mono ?_
      rintro e w' ⟨hE, rfl⟩
      obtain rfl : e = _ := hE
      go_wp2_with fail
      exact ⟨rfl, ndans_err (HR1.out.trans (by rw [hq]; rfl)) hS rfl⟩
    | true =>
      refine (back_yes 7 st.pos _ hR (by decide) hq).mono ?_
      rintro e w' ⟨rfl, rfl⟩
      go_wp2_with fail
      go_ret
      exact ndans_ok (HR1.out.trans (by rw [hq]; rfl)) hS (by rw [show k + 1 = st.pos + 2 by rw [HK.out]] at hR; exact hR) (ndoff_back _ _ _ _ _ _)
  · have hc : s[k].toNat = 56 := hc0.trans hcs
    have e40 : ((s[k].toNat : Int) == 40) = false := by rw [hc]; decide
    have e49 : ((s[k].toNat : Int) == 49) = false := by rw [hc]; decide
    have e50 : ((s[k].toNat : Int) == 50) = false := by rw [hc]; decide
    have e51 : ((s[k].toNat : Int) == 51) = false := by rw [hc]; decide
    have e52 : ((s[k].toNat : Int) == 52) = false := by rw [hc]; decide
    have e53 : ((s[k].toNat : Int) == 53) = false := by rw [hc]; decide
    have e54 : ((s[k].toNat : Int) == 54) = false := by rw [hc]; decide
    have e55 : ((s[k].toNat : Int) == 55) = false := by rw [hc]; decide
    have e56 : ((s[k].toNat : Int) == 56) = true := by rw [hc]; decide
    have e57 : ((s[k].toNat : Int) == 57) = false := by rw [hc]; decide
    have e123 : ((s[k].toNat : Int) == 123) = false := by rw [hc]; decide
    have e43 : ((s[k].toNat : Int) == 43) = false := by rw [hc]; decide
    have e63 : ((s[k].toNat : Int) == 63) = false := by rw [hc]; decide
    have Ws : IntKind.u8.wrap ((s[k].toNat : Int) - 48) = 8 := by rw [hc]; decide
    have HR1 := Lib.hid (HR0.out.trans (by rw [show ((c : Int) - 48) = ((8 : Nat) : Int) by rw [hcs]; rfl]))
    clear hc hc0 hcs hb0
    go_enter Tryd.func99, Tryd.ntmps99; go_wp2_with fail; go_quiet (fail); generalize nq = n1; go_wp2_with fail; go_quiet (fail); go_wp2_with fail
    obtain ⟨hR, hS⟩ := HGO.out (n1 + nq)
    cases hq : st.closed.contains ((8 : Nat) : Int) with
    | false =>
      refine (back_no 8 st.pos _ hR (by decide) hq).mono ?_
      rintro e w' ⟨hE, rfl⟩
      obtain rfl : e = _ := hE
      go_wp2_with fail
      exact ⟨rfl, ndans_err (HR1.out.trans (by rw [hq]; rfl)) hS rfl⟩
    | true =>
      refine (back_yes 8 st.pos _ hR (by decide) hq).mono ?_
      rintro e w' ⟨rfl, rfl⟩
      go_wp2_with fail
      go_ret
      exact ndans_ok (HR1.out.trans (by rw [hq]; rfl)) hS (by rw [show k + 1 = st.pos + 2 by rw [HK.out]] at hR; exact hR) (ndoff_back _ _ _ _ _ _)
  · have hc : s[k].toNat = 57 := hc0.trans hcs
    have e40 : ((s[k].toNat : Int) == 40) = false := by rw [hc]; decide
    have e49 : ((s[k].toNat : Int) == 49) = false := by rw [hc]; decide
    have e50 : ((s[k].toNat : Int) == 50) = false := by rw [hc]; decide
    have e51 : ((s[k].toNat : Int) == 51) = false := by rw [hc]; decide
    have e52 : ((s[k].toNat : Int) == 52) = false := by rw [hc]; decide
    have e53 : ((s[k].toNat : Int) == 53) = false := by rw [hc]; decide
    have e54 : ((s[k].toNat : Int) == 54) = false := by rw [hc]; decide
    have e55 : ((s[k].toNat : Int) == 55) = false := by rw [hc]; decide
    have e56 : ((s[k].toNat : Int) == 56) = false := by rw [hc]; decide
    have e57 : ((s[k].toNat : Int) == 57) = true := by rw [hc]; decide
    have e123 : ((s[k].toNat : Int) == 123) = false := by rw [hc]; decide
    have e43 : ((s[k].toNat : Int) == 43) = false := by rw [hc]; decide
    have e63 : ((s[k].toNat : Int) == 63) = false := by rw [hc]; decide
    have Ws : IntKind.u8.wrap ((s[k].toNat : Int) - 48) = 9 := by rw [hc]; decide
    have HR1 := Lib.hid (HR0.out.trans (by rw [show ((c : Int) - 48) = ((9 : Nat) : Int) by rw [hcs]; rfl]))
    clear hc hc0 hcs hb0
    go_enter Tryd.func99, Tryd.ntmps99; go_wp2_with fail; go_quiet (fail); generalize nq = n1; go_wp2_with fail; go_quiet (fail); go_wp2_with fail
    obtain ⟨hR, hS⟩ := HGO.out (n1 + nq)
    cases hq : st.closed.contains ((9 : Nat) : Int) with
    | false =>
      refine (back_no 9 st.pos _ hR (by decide) hq).mono ?_
      rintro e w' ⟨hE, rfl⟩
      obtain rfl : e = _ := hE
      go_wp2_with fail
      exact ⟨rfl, ndans_err (HR1.out.trans (by rw [hq]; rfl)) hS rfl⟩
    | true =>
      refine (back_yes 9 st.pos _ hR (by decide) hq).mono ?_
      rintro e w' ⟨rfl, rfl⟩
      go_wp2_with fail
      go_ret
      exact ndans_ok (HR1.out.trans (by rw [hq]; rfl)) hS (by rw [show k + 1 = st.pos + 2 by rw [HK.out]] at hR; exact hR) (ndoff_back _ _ _ _ _ _)
end Go.Proofs.YtbbcjclkklmoaaaDoor
