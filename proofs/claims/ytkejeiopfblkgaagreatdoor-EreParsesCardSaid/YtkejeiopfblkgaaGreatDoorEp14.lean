/- The proof's texts RfQ, RfU, RfH: what the claim reaches of them. -/
import Derived.Test.YtkejeiopfblkgaaGreatDoorEp13
import Derived.BigRegion
import Derived.Deep.RegionHeld3
namespace Go.Proofs.YtkejeiopfblkgaaGreatDoor
open Go Go.RowKit
def RowC (F : Nat → Prop) (w : World) (size : Nat) (v : Value) (n : Nat) (xs : List Value) : Prop :=
 ∃ a cap, v = .slice a n cap ∧ xs.length = n * size ∧ (0 < n → ∃ g, a = some ⟨g, 0, none⟩ ∧ F g ∧ g < w.heap.size ∧ ∀ j u, xs[j]? = some u → w.cell? ⟨g, j, none⟩ = some u)
theorem RowC.keep {F G : Nat → Prop} {w w' : World} (hs : w.heap.size ≤ w'.heap.size) (hF : ∀ b, F b → b < w.heap.size → G b ∧ ∀ o, w'.cell? ⟨b, o, none⟩ = w.cell? ⟨b, o, none⟩) {size : Nat} {v : Value} {n : Nat} {xs : List Value} (h : RowC F w size v n xs) : RowC G w' size v n xs := by
 obtain ⟨a, cap, h1, h2, h3⟩ := h
 refine ⟨a, cap, h1, h2, fun h0 => ?_⟩
 obtain ⟨g, e, hg, hl, hx⟩ := h3 h0
 exact ⟨g, e, (hF g hg hl).1, by omega, fun j u hu => ((hF g hg hl).2 j).trans (hx j u hu)⟩
theorem RowC.form {F : Nat → Prop} {w : World} {size : Nat} {v : Value} {n : Nat} {xs : List Value} (h : RowC F w size v n xs) : ∃ a l c, v = .slice a l c := by
 obtain ⟨a, cap, h1, _⟩ := h
 exact ⟨a, n, cap, h1⟩
structure RfR (F : Nat → Prop) (w : World) (s : ByteArray) (st : ReSt) (cv mv : Value) : Prop where
 c : RowC F w 1 cv st.closed.length (st.closed.map (Value.int .i64))
 m : RowC F w 2 mv st.marks.length (marksC st.marks)
 pos : st.pos ≤ s.size
 small : s.size ≤ 250
 cl : st.closed.length ≤ st.pos
 ml : st.marks.length ≤ st.pos
 op : st.opened ≤ st.pos
theorem RfR.keep {F G : Nat → Prop} {w w' : World} (hs : w.heap.size ≤ w'.heap.size) (hF : ∀ b, F b → b < w.heap.size → G b ∧ ∀ o, w'.cell? ⟨b, o, none⟩ = w.cell? ⟨b, o, none⟩) {s : ByteArray} {st : ReSt} {cv mv : Value} (h : RfR F w s st cv mv) : RfR G w' s st cv mv :=
 ⟨h.c.keep hs hF, h.m.keep hs hF, h.pos, h.small, h.cl, h.ml, h.op⟩
theorem RfR.below {F : Nat → Prop} {w w' : World} (hb : Below w.heap.size w w') {s : ByteArray} {st : ReSt} {cv mv : Value} (h : RfR F w s st cv mv) : RfR F w' s st cv mv :=
 h.keep hb.size (fun b hf hlt => ⟨hf, fun o => hb.cell (p := ⟨b, o, none⟩) hlt⟩)
theorem RfR.to {F : Nat → Prop} {w : World} {s : ByteArray} {st : ReSt} {cv mv : Value} (h : RfR F w s st cv mv) (k : Nat) (h1 : st.pos ≤ k) (h2 : k ≤ s.size) : RfR F w s (st.to k) cv mv :=
 ⟨h.c, h.m, h2, h.small, Nat.le_trans h.cl h1, Nat.le_trans h.ml h1, Nat.le_trans h.op h1⟩
def RfAns (F FT : Nat → Prop) (C : Nd → Bool) (ere : Bool) (s : ByteArray) (r : ReRes (ReSt × Nd)) (w : World) (e : Ending) (w' : World) : Prop := Below w.heap.size w w' ∧ match r with
 | .error q => ∃ (at' op : Nat) (cv mv : Value) (d : Nd) (a : Option Addr) (cap : Nat), e = .returned (.tuple #[.agg (rfC s ere at' op cv mv (q.1 : Int) (q.2 : Int)), (.agg (tC (unc d) a cap))]) ∧ (∃ a l c, cv = .slice a l c) ∧ (∃ a l c, mv = .slice a l c) ∧ q.1 ≠ 0 ∧ TrX (fun b => FT b ∨ w.heap.size ≤ b) w' (unc d) a cap ∧ C d = true
 | .ok q => ∃ (cv mv : Value) (a : Option Addr) (cap : Nat), e = .returned (.tuple #[.agg (rfC s ere q.1.pos q.1.opened cv mv 0 0), (.agg (tC (unc q.2) a cap))]) ∧ RfR (fun b => F b ∨ w.heap.size ≤ b) w' s q.1 cv mv ∧ TrX (fun b => FT b ∨ w.heap.size ≤ b) w' (unc q.2) a cap
def RMarkOk : Prop := ∀ (F : Nat → Prop) (s : ByteArray) (ere : Bool) (at' op : Nat) (cv mv : Value) (ms : List (Nat × Nat)) (c : UInt8) (w : World), (∃ a l c, cv = .slice a l c) → RowC F w 2 mv ms.length (marksC ms) → ms.length ≤ 1000 →
  Calls Tryz.prog 58 #[.agg (rfC s ere at' op cv mv 0 0), .string ⟨#[92, c]⟩] w fun e w' => ∃ mv', e = .returned (.agg (rfC s ere at' op cv mv' 0 0)) ∧ RowC (fun b => w.heap.size ≤ b) w' 2 mv' (ms ++ [(at', c.toNat)]).length (marksC (ms ++ [(at', c.toNat)])) ∧ Below w.heap.size w w'
theorem put17a {w0 w : World} {p q : Nat} {T U : TypeId} {u0 u1 u2 u3 u4 u5 u6 u7 x0 x1 x2 x3 x4 x5 x6 x7 x8 : Value} (hb : Below w0.heap.size w0 w) (hp : w0.heap.size ≤ p) (hq : w0.heap.size ≤ q) (hpq : p ≠ q) (h : Blk w p #[u0, u1, u2, u3, u4, u5, u6, u7] T) (k : Blk w q #[x0, x1, x2, x3, x4, x5, x6, x7, x8] U) (v0 v1 v2 v3 v4 v5 v6 v7 y0 y1 y2 y3 y4 y5 y6 y7 y8 : Value) (w' : World)
  (hw : (((((((((((((((((w.setCell ⟨p, 0, none⟩ v0).setCell ⟨p, 1, none⟩ v1).setCell ⟨p, 2, none⟩ v2).setCell ⟨p, 3, none⟩ v3).setCell ⟨p, 4, none⟩ v4).setCell ⟨p, 5, none⟩ v5).setCell ⟨p, 6, none⟩ v6).setCell ⟨p, 7, none⟩ v7).setCell ⟨q, 0, none⟩ y0).setCell ⟨q, 1, none⟩ y1).setCell ⟨q, 2, none⟩ y2).setCell ⟨q, 3, none⟩ y3).setCell ⟨q, 4, none⟩ y4).setCell ⟨q, 5, none⟩ y5).setCell ⟨q, 6, none⟩ y6).setCell ⟨q, 7, none⟩ y7).setCell ⟨q, 8, none⟩ y8) = w') :
  Below w0.heap.size w0 w' ∧ Blk w' p #[v0, v1, v2, v3, v4, v5, v6, v7] T ∧ Blk w' q #[y0, y1, y2, y3, y4, y5, y6, y7, y8] U ∧ (∀ b, b ≠ p → b ≠ q → w'.heap[b]? = w.heap[b]?) ∧ w'.heap.size = w.heap.size := by
 obtain ⟨a1, a2, a3, a4⟩ := put8 hb hp h v0 v1 v2 v3 v4 v5 v6 v7 _ rfl
 obtain ⟨b1, b2, b3, b4⟩ := put9n a1 hq (k.same (a3 q (fun e => hpq e.symm))) y0 y1 y2 y3 y4 y5 y6 y7 y8 _ hw
 exact ⟨b1, a2.same (b3 p hpq), b2, fun b h1 h2 => (b3 b h2).trans (a3 b h1), b4.trans a4⟩
theorem post17 {P : Program} {fn : Func} {Q : Ending → World → Prop} {e : Exit} {act : Act} {w0 w : World} {p q : Nat} {T U : TypeId} {u0 u1 u2 u3 u4 u5 u6 u7 x0 x1 x2 x3 x4 x5 x6 x7 x8 : Value} (hb : Below w0.heap.size w0 w) (h : Blk w p #[u0, u1, u2, u3, u4, u5, u6, u7] T) (k : Blk w q #[x0, x1, x2, x3, x4, x5, x6, x7, x8] U) (hp : w0.heap.size ≤ p) (hq : w0.heap.size ≤ q) (hpq : p ≠ q) {v0 v1 v2 v3 v4 v5 v6 v7 y0 y1 y2 y3 y4 y5 y6 y7 y8 : Value}
  (H : ∀ w', Below w0.heap.size w0 w' → Blk w' p #[v0, v1, v2, v3, v4, v5, v6, v7] T → Blk w' q #[y0, y1, y2, y3, y4, y5, y6, y7, y8] U → (∀ b, b ≠ p → b ≠ q → w'.heap[b]? = w.heap[b]?) → w'.heap.size = w.heap.size → bodyPost P fn Q e act w') :
  bodyPost P fn Q e act (((((((((((((((((w.setCell ⟨p, 0, none⟩ v0).setCell ⟨p, 1, none⟩ v1).setCell ⟨p, 2, none⟩ v2).setCell ⟨p, 3, none⟩ v3).setCell ⟨p, 4, none⟩ v4).setCell ⟨p, 5, none⟩ v5).setCell ⟨p, 6, none⟩ v6).setCell ⟨p, 7, none⟩ v7).setCell ⟨q, 0, none⟩ y0).setCell ⟨q, 1, none⟩ y1).setCell ⟨q, 2, none⟩ y2).setCell ⟨q, 3, none⟩ y3).setCell ⟨q, 4, none⟩ y4).setCell ⟨q, 5, none⟩ y5).setCell ⟨q, 6, none⟩ y6).setCell ⟨q, 7, none⟩ y7).setCell ⟨q, 8, none⟩ y8) := by
 obtain ⟨h1, h2, h3, h4, h5⟩ := put17a hb hp hq hpq h k v0 v1 v2 v3 v4 v5 v6 v7 y0 y1 y2 y3 y4 y5 y6 y7 y8 _ rfl
 exact H _ h1 h2 h3 h4 h5
theorem post17d {P : Program} {fn : Func} {Q : Ending → World → Prop} {e : Exit} {act : Act} {w0 w : World} {p q : Nat} {T U : TypeId} {u0 u1 u2 u3 u4 u5 u6 u7 x0 x1 x2 x3 x4 x5 x6 x7 x8 : Value} (hb : Below w0.heap.size w0 w) (h : Blk w p #[u0, u1, u2, u3, u4, u5, u6, u7] T) (k : Blk w q #[x0, x1, x2, x3, x4, x5, x6, x7, x8] U) (hp : w0.heap.size ≤ p) (hq : w0.heap.size ≤ q) (hpq : p ≠ q) {v0 v1 v2 v3 v4 v5 v6 v7 y0 y1 y2 y3 y4 y5 y6 y7 y8 : Value}
  {W : World} (hW : (((((((((((((((((w.setCell ⟨p, 0, none⟩ v0).setCell ⟨p, 1, none⟩ v1).setCell ⟨p, 2, none⟩ v2).setCell ⟨p, 3, none⟩ v3).setCell ⟨p, 4, none⟩ v4).setCell ⟨p, 5, none⟩ v5).setCell ⟨p, 6, none⟩ v6).setCell ⟨p, 7, none⟩ v7).setCell ⟨q, 0, none⟩ y0).setCell ⟨q, 1, none⟩ y1).setCell ⟨q, 2, none⟩ y2).setCell ⟨q, 3, none⟩ y3).setCell ⟨q, 4, none⟩ y4).setCell ⟨q, 5, none⟩ y5).setCell ⟨q, 6, none⟩ y6).setCell ⟨q, 7, none⟩ y7).setCell ⟨q, 8, none⟩ y8) = W)
  (H : ∀ w', Below w0.heap.size w0 w' → Blk w' p #[v0, v1, v2, v3, v4, v5, v6, v7] T → Blk w' q #[y0, y1, y2, y3, y4, y5, y6, y7, y8] U → (∀ b, b ≠ p → b ≠ q → w'.heap[b]? = w.heap[b]?) → w'.heap.size = w.heap.size → bodyPost P fn Q e act w') :
  bodyPost P fn Q e act W.drew := by
 obtain ⟨h1, h2, h3, h4, h5⟩ := put17a hb hp hq hpq h k v0 v1 v2 v3 v4 v5 v6 v7 y0 y1 y2 y3 y4 y5 y6 y7 y8 _ hW
 exact H _ h1.drew h2.drew h3.drew h4 h5
theorem post8 {P : Program} {fn : Func} {Q : Ending → World → Prop} {e : Exit} {act : Act} {w0 w : World} {p : Nat} {T : TypeId} {u0 u1 u2 u3 u4 u5 u6 u7 : Value} (hb : Below w0.heap.size w0 w) (h : Blk w p #[u0, u1, u2, u3, u4, u5, u6, u7] T) (hp : w0.heap.size ≤ p) {v0 v1 v2 v3 v4 v5 v6 v7 : Value}
  (H : ∀ w', Below w0.heap.size w0 w' → Blk w' p #[v0, v1, v2, v3, v4, v5, v6, v7] T → (∀ b, b ≠ p → w'.heap[b]? = w.heap[b]?) → w'.heap.size = w.heap.size → bodyPost P fn Q e act w') :
  bodyPost P fn Q e act ((((((((w.setCell ⟨p, 0, none⟩ v0).setCell ⟨p, 1, none⟩ v1).setCell ⟨p, 2, none⟩ v2).setCell ⟨p, 3, none⟩ v3).setCell ⟨p, 4, none⟩ v4).setCell ⟨p, 5, none⟩ v5).setCell ⟨p, 6, none⟩ v6).setCell ⟨p, 7, none⟩ v7) := by
 obtain ⟨h1, h2, h3, h4⟩ := put8 hb hp h v0 v1 v2 v3 v4 v5 v6 v7 _ rfl
 exact H _ h1 h2 h3 h4
abbrev C17 (w : World) (p q : Nat) (v0 v1 v2 v3 v4 v5 v6 v7 y0 y1 y2 y3 y4 y5 y6 y7 y8 : Value) : Prop := w.cell? ⟨p, 0, none⟩ = some v0 ∧ w.cell? ⟨p, 1, none⟩ = some v1 ∧ w.cell? ⟨p, 2, none⟩ = some v2 ∧ w.cell? ⟨p, 3, none⟩ = some v3 ∧ w.cell? ⟨p, 4, none⟩ = some v4 ∧ w.cell? ⟨p, 5, none⟩ = some v5 ∧ w.cell? ⟨p, 6, none⟩ = some v6 ∧ w.cell? ⟨p, 7, none⟩ = some v7 ∧ w.cell? ⟨q, 0, none⟩ = some y0 ∧ w.cell? ⟨q, 1, none⟩ = some y1 ∧ w.cell? ⟨q, 2, none⟩ = some y2 ∧ w.cell? ⟨q, 3, none⟩ = some y3 ∧ w.cell? ⟨q, 4, none⟩ = some y4 ∧ w.cell? ⟨q, 5, none⟩ = some y5 ∧ w.cell? ⟨q, 6, none⟩ = some y6 ∧ w.cell? ⟨q, 7, none⟩ = some y7 ∧ w.cell? ⟨q, 8, none⟩ = some y8
theorem C17.of {w : World} {p q : Nat} {T U : TypeId} {v0 v1 v2 v3 v4 v5 v6 v7 y0 y1 y2 y3 y4 y5 y6 y7 y8 : Value} (h : Blk w p #[v0, v1, v2, v3, v4, v5, v6, v7] T) (k : Blk w q #[y0, y1, y2, y3, y4, y5, y6, y7, y8] U) : C17 w p q v0 v1 v2 v3 v4 v5 v6 v7 y0 y1 y2 y3 y4 y5 y6 y7 y8 := by
 obtain ⟨h0, h1, h2, h3, h4, h5, h6, h7, _⟩ := blk8 h
 obtain ⟨k0, k1, k2, k3, k4, k5, k6, k7, k8, _⟩ := blk9n k
 exact ⟨h0, h1, h2, h3, h4, h5, h6, h7, k0, k1, k2, k3, k4, k5, k6, k7, k8⟩
theorem C17.far {w w' : World} {p q : Nat} {v0 v1 v2 v3 v4 v5 v6 v7 y0 y1 y2 y3 y4 y5 y6 y7 y8 : Value} (h : C17 w p q v0 v1 v2 v3 v4 v5 v6 v7 y0 y1 y2 y3 y4 y5 y6 y7 y8) (e1 : w'.heap[p]? = w.heap[p]?) (e2 : w'.heap[q]? = w.heap[q]?) : C17 w' p q v0 v1 v2 v3 v4 v5 v6 v7 y0 y1 y2 y3 y4 y5 y6 y7 y8 := by
 obtain ⟨h0, h1, h2, h3, h4, h5, h6, h7, k0, k1, k2, k3, k4, k5, k6, k7, k8⟩ := h
 have a : ∀ o, w'.cell? ⟨p, o, none⟩ = w.cell? ⟨p, o, none⟩ := fun o => World.cell?_of_block (w := w) (a := ⟨p, o, none⟩) e1
 have b : ∀ o, w'.cell? ⟨q, o, none⟩ = w.cell? ⟨q, o, none⟩ := fun o => World.cell?_of_block (w := w) (a := ⟨q, o, none⟩) e2
 exact ⟨(a 0).trans h0, (a 1).trans h1, (a 2).trans h2, (a 3).trans h3, (a 4).trans h4, (a 5).trans h5, (a 6).trans h6, (a 7).trans h7, (b 0).trans k0, (b 1).trans k1, (b 2).trans k2, (b 3).trans k3, (b 4).trans k4, (b 5).trans k5, (b 6).trans k6, (b 7).trans k7, (b 8).trans k8⟩
theorem C17.drew {w : World} {p q : Nat} {v0 v1 v2 v3 v4 v5 v6 v7 y0 y1 y2 y3 y4 y5 y6 y7 y8 : Value} (h : C17 w p q v0 v1 v2 v3 v4 v5 v6 v7 y0 y1 y2 y3 y4 y5 y6 y7 y8) : C17 w.drew p q v0 v1 v2 v3 v4 v5 v6 v7 y0 y1 y2 y3 y4 y5 y6 y7 y8 := h
theorem far_set (w : World) (r j : Nat) (v : Value) {p : Nat} (h : p ≠ r) : (w.setCell ⟨r, j, none⟩ v).heap[p]? = w.heap[p]? := Below.heap_setCell _ _ _ _ (fun e => h e)
set_option maxHeartbeats 2000000 in
theorem C17.put8 {w : World} {p q r : Nat} {v0 v1 v2 v3 v4 v5 v6 v7 y0 y1 y2 y3 y4 y5 y6 y7 y8 u0 u1 u2 u3 u4 u5 u6 u7 : Value} (h : C17 w p q v0 v1 v2 v3 v4 v5 v6 v7 y0 y1 y2 y3 y4 y5 y6 y7 y8) (n1 : p ≠ r) (n2 : q ≠ r) : C17 ((((((((w.setCell ⟨r, 0, none⟩ u0).setCell ⟨r, 1, none⟩ u1).setCell ⟨r, 2, none⟩ u2).setCell ⟨r, 3, none⟩ u3).setCell ⟨r, 4, none⟩ u4).setCell ⟨r, 5, none⟩ u5).setCell ⟨r, 6, none⟩ u6).setCell ⟨r, 7, none⟩ u7) p q v0 v1 v2 v3 v4 v5 v6 v7 y0 y1 y2 y3 y4 y5 y6 y7 y8 :=
 h.far ((far_set _ _ _ _ n1).trans ((far_set _ _ _ _ n1).trans ((far_set _ _ _ _ n1).trans ((far_set _ _ _ _ n1).trans ((far_set _ _ _ _ n1).trans ((far_set _ _ _ _ n1).trans ((far_set _ _ _ _ n1).trans ((far_set _ _ _ _ n1).trans (rfl))))))))) ((far_set _ _ _ _ n2).trans ((far_set _ _ _ _ n2).trans ((far_set _ _ _ _ n2).trans ((far_set _ _ _ _ n2).trans ((far_set _ _ _ _ n2).trans ((far_set _ _ _ _ n2).trans ((far_set _ _ _ _ n2).trans ((far_set _ _ _ _ n2).trans (rfl)))))))))
set_option maxHeartbeats 2000000 in
theorem C17.put9 {w : World} {p q r : Nat} {v0 v1 v2 v3 v4 v5 v6 v7 y0 y1 y2 y3 y4 y5 y6 y7 y8 u0 u1 u2 u3 u4 u5 u6 u7 u8 : Value} (h : C17 w p q v0 v1 v2 v3 v4 v5 v6 v7 y0 y1 y2 y3 y4 y5 y6 y7 y8) (n1 : p ≠ r) (n2 : q ≠ r) : C17 (((((((((w.setCell ⟨r, 0, none⟩ u0).setCell ⟨r, 1, none⟩ u1).setCell ⟨r, 2, none⟩ u2).setCell ⟨r, 3, none⟩ u3).setCell ⟨r, 4, none⟩ u4).setCell ⟨r, 5, none⟩ u5).setCell ⟨r, 6, none⟩ u6).setCell ⟨r, 7, none⟩ u7).setCell ⟨r, 8, none⟩ u8) p q v0 v1 v2 v3 v4 v5 v6 v7 y0 y1 y2 y3 y4 y5 y6 y7 y8 :=
 h.far ((far_set _ _ _ _ n1).trans ((far_set _ _ _ _ n1).trans ((far_set _ _ _ _ n1).trans ((far_set _ _ _ _ n1).trans ((far_set _ _ _ _ n1).trans ((far_set _ _ _ _ n1).trans ((far_set _ _ _ _ n1).trans ((far_set _ _ _ _ n1).trans ((far_set _ _ _ _ n1).trans (rfl)))))))))) ((far_set _ _ _ _ n2).trans ((far_set _ _ _ _ n2).trans ((far_set _ _ _ _ n2).trans ((far_set _ _ _ _ n2).trans ((far_set _ _ _ _ n2).trans ((far_set _ _ _ _ n2).trans ((far_set _ _ _ _ n2).trans ((far_set _ _ _ _ n2).trans ((far_set _ _ _ _ n2).trans (rfl))))))))))
abbrev rfZ : Array Value := rfC ⟨#[]⟩ false 0 0 (.slice none 0 0) (.slice none 0 0) 0 0
structure RpL (F FT : Nat → Prop) (w : World) (s : ByteArray) (ere : Bool) (wr : World) (st : ReSt) (d : Nd) (cv mv : Value) (a : Option Addr) (cap : Nat) : Prop where
 b : Below w.heap.size w wr
 k2 : Blk wr w.heap.size (rfC s ere st.pos st.opened cv mv 0 0) 87
 k3 : Blk wr (w.heap.size + 1) (tC (unc d) a cap) 36
 k4 : Blk wr (w.heap.size + 1 + 1) rfZ 87
 k5 : Blk wr (w.heap.size + 1 + 1 + 1) zC 36
 r : RfR (fun b => (F b ∧ b < w.heap.size) ∨ w.heap.size + 4 ≤ b) wr s st cv mv
 t : TrX (fun b => (FT b ∧ b < w.heap.size) ∨ w.heap.size + 4 ≤ b) wr (unc d) a cap
theorem RpL.step {F FT : Nat → Prop} {w : World} {s : ByteArray} {ere : Bool} {wr w' : World} {st : ReSt} {d : Nd} {cv mv : Value} {a : Option Addr} {cap : Nat} (h : RpL F FT w s ere wr st d cv mv a cap) (hb : Below wr.heap.size wr w') : RpL F FT w s ere w' st d cv mv a cap :=
 ⟨h.b.trans (hb.mono h.b.size), h.k2.below hb h.k2.lt, h.k3.below hb h.k3.lt, h.k4.below hb h.k4.lt, h.k5.below hb h.k5.lt,
  h.r.keep hb.size (fun b hf hlt => ⟨hf, fun o => hb.cell (p := ⟨b, o, none⟩) hlt⟩), h.t.keep hb.size (fun b hf hlt => ⟨hf, fun o => hb.cell (p := ⟨b, o, none⟩) hlt⟩)⟩
theorem RpL.done {F FT : Nat → Prop} {C : Nd → Bool} {w : World} {s : ByteArray} {ere : Bool} {wr w9 : World} {st : ReSt} {d : Nd} {cv mv : Value} {a : Option Addr} {cap : Nat} {R : ReRes (ReSt × Nd)} (h : RpL F FT w s ere wr st d cv mv a cap) (hR : R = .ok (st, d))
  (hb : Below w.heap.size w w9) (hs : ∀ b, b ≠ w.heap.size + 1 + 1 → b ≠ w.heap.size + 1 + 1 + 1 → w9.heap[b]? = wr.heap[b]?) (hz : w9.heap.size = wr.heap.size) :
  RfAns F FT C ere s R w (.returned (.tuple #[.agg (rfC s ere st.pos st.opened cv mv 0 0), (.agg (tC (unc d) a cap))])) w9 := by
 subst hR
 have hc : ∀ b, (b < w.heap.size ∨ w.heap.size + 4 ≤ b) → ∀ o, w9.cell? ⟨b, o, none⟩ = wr.cell? ⟨b, o, none⟩ := fun b hb o => World.cell?_of_block (w := wr) (a := ⟨b, o, none⟩) (hs b (by omega) (by omega))
 refine ⟨hb, cv, mv, a, cap, rfl, h.r.keep (by omega) (fun b hf _ => ⟨?_, hc b ?_⟩), h.t.keep (by omega) (fun b hf _ => ⟨?_, hc b ?_⟩)⟩
 ·exact hf.elim (fun h => .inl h.1) (fun h => .inr (by omega))
 ·exact hf.elim (fun h => .inl h.2) .inr
 ·exact hf.elim (fun h => .inl h.1) (fun h => .inr (by omega))
 ·exact hf.elim (fun h => .inl h.2) .inr
theorem RpL.failed {F FT : Nat → Prop} {C : Nd → Bool} {w : World} {s : ByteArray} {ere : Bool} {wr w9 : World} {st : ReSt} {d : Nd} {cv mv : Value} {a : Option Addr} {cap : Nat} {R : ReRes (ReSt × Nd)} {q : Nat × Nat} (h : RpL F FT w s ere wr st d cv mv a cap) (hR : R = .error q) (hC : C d = true) (hq : q.1 ≠ 0)
  (hb : Below w.heap.size w w9) (hs : ∀ b, b ≠ w.heap.size + 1 + 1 → b ≠ w.heap.size + 1 + 1 + 1 → w9.heap[b]? = wr.heap[b]?) (hz : w9.heap.size = wr.heap.size) :
  RfAns F FT C ere s R w (.returned (.tuple #[.agg (rfC s ere st.pos st.opened cv mv (q.1 : Int) (q.2 : Int)), (.agg (tC (unc d) a cap))])) w9 := by
 subst hR
 have hc : ∀ b, (b < w.heap.size ∨ w.heap.size + 4 ≤ b) → ∀ o, w9.cell? ⟨b, o, none⟩ = wr.cell? ⟨b, o, none⟩ := fun b hb o => World.cell?_of_block (w := wr) (a := ⟨b, o, none⟩) (hs b (by omega) (by omega))
 refine ⟨hb, _, _, cv, mv, d, a, cap, rfl, h.r.c.form, h.r.m.form, hq, h.t.keep (by omega) (fun b hf _ => ⟨?_, hc b ?_⟩), hC⟩
 ·exact hf.elim (fun h => .inl h.1) (fun h => .inr (by omega))
 ·exact hf.elim (fun h => .inl h.2) .inr
theorem RfAns.drew {F FT : Nat → Prop} {C : Nd → Bool} {ere : Bool} {s : ByteArray} {r : ReRes (ReSt × Nd)} {w : World} {e : Ending} {w' : World} (h : RfAns F FT C ere s r w e w') : RfAns F FT C ere s r w e w'.drew := by
 cases r with
 | error q =>
  obtain ⟨h1, at', op, cv, mv, d, a, cap, h2, h3, h4, h5, h6, h7⟩ := h
  exact ⟨h1.drew, at', op, cv, mv, d, a, cap, h2, h3, h4, h5, h6.below (Below.refl _ _).drew, h7⟩
 | ok q =>
  obtain ⟨h1, cv, mv, a, cap, h2, h3, h4⟩ := h
  exact ⟨h1.drew, cv, mv, a, cap, h2, h3.below (Below.refl _ _).drew, h4.below (Below.refl _ _).drew⟩
theorem rep_none_at (ere : Bool) (s : List UInt8) (k : Nat) (h : repAt ere s k = .none) : chAt s k 42 = false ∧ opAt ere s k 43 = false ∧ opAt ere s k 63 = false ∧ opAt ere s k 123 = false := by
 unfold repAt at h
 split at h
 ·cases h
 ·rename_i h1
  split at h
  ·cases h
  ·rename_i h2
   split at h
   ·cases h
   ·rename_i h3
    split at h
    ·split at h <;> cases h
    ·rename_i h4
     simp at h1 h2 h3 h4
     exact ⟨h1, h2, h3, h4⟩
theorem rep_bad_at (ere : Bool) (s : List UInt8) (k : Nat) (h : repAt ere s k = .bad) : opAt ere s k 123 = true ∧ intv ere s (k + opLen ere) = none := by
 unfold repAt at h
 split at h
 ·cases h
 ·split at h
  ·cases h
  ·split at h
   ·cases h
   ·split at h
    ·rename_i h4
     split at h
     ·rename_i h5; exact ⟨h4, h5⟩
     ·cases h
    ·cases h
theorem rep_some_at (ere : Bool) (s : List UInt8) (k : Nat) (mn mx : Int) (c j : Nat) (h : repAt ere s k = .some mn mx c j) :
  (chAt s k 42 = true ∧ mn = 0 ∧ mx = -1 ∧ c = 0 ∧ j = k + 1) ∨ (opAt ere s k 43 = true ∧ mn = 1 ∧ mx = -1 ∧ c = (if ere then 0 else 43) ∧ j = k + opLen ere) ∨
  (opAt ere s k 63 = true ∧ mn = 0 ∧ mx = 1 ∧ c = (if ere then 0 else 63) ∧ j = k + opLen ere) ∨ (opAt ere s k 123 = true ∧ intv ere s (k + opLen ere) = some (mn, mx, j) ∧ c = 0) := by
 unfold repAt at h
 split at h
 ·rename_i h1; injection h with a b c d; exact .inl ⟨h1, a.symm, b.symm, c.symm, d.symm⟩
 ·split at h
  ·rename_i h1; injection h with a b c d; exact .inr (.inl ⟨h1, a.symm, b.symm, c.symm, d.symm⟩)
  ·split at h
   ·rename_i h1; injection h with a b c d; exact .inr (.inr (.inl ⟨h1, a.symm, b.symm, c.symm, d.symm⟩))
   ·split at h
    ·rename_i h1
     split at h
     ·cases h
     ·rename_i h2
      injection h with a b c d
      subst a b d
      exact .inr (.inr (.inr ⟨h1, h2, c.symm⟩))
    ·cases h
theorem RpL.next {F FT : Nat → Prop} {w : World} {s : ByteArray} {ere : Bool} {wk W : World} {st : ReSt} {d : Nd} {cv mv mv' x2 : Value} {a : Option Addr} {cap : Nat} (h : RpL F FT w s ere wk st d cv mv a cap)
  (hB : Below w.heap.size w W) (hk2 : Blk W w.heap.size #[.string s, .bool ere, x2, .int .i64 (st.opened : Int), cv, mv', .int .i64 0, .int .i64 0] 87) (hs : ∀ b, b ≠ w.heap.size → W.heap[b]? = wk.heap[b]?) (hz : W.heap.size = wk.heap.size)
  {ms : List (Nat × Nat)} (hm : RowC (fun b => (F b ∧ b < w.heap.size) ∨ w.heap.size + 4 ≤ b) wk 2 mv' ms.length (marksC ms)) {nx : Nat} (hml : ms.length ≤ nx) (mn mx : Int) (h1 : st.pos ≤ nx) (h2 : nx ≤ s.size) {n : Nat} (hn : n = W.heap.size) :
  RpL F FT w s ere (((((((((((W.setCell ⟨w.heap.size + 1, 0, none⟩ (.int .i64 4)).setCell ⟨w.heap.size + 1, 1, none⟩ (.int .u64 0)).setCell ⟨w.heap.size + 1, 2, none⟩ (.int .u64 0)).setCell ⟨w.heap.size + 1, 3, none⟩ (.int .u64 0)).setCell ⟨w.heap.size + 1, 4, none⟩ (.int .u64 0)).setCell ⟨w.heap.size + 1, 5, none⟩ (.slice (some ⟨n, 0, none⟩) 1 1)).setCell ⟨w.heap.size + 1, 6, none⟩ (.int .i64 mn)).setCell ⟨w.heap.size + 1, 7, none⟩ (.int .i64 mx)).setCell ⟨w.heap.size + 1, 8, none⟩ (.int .i64 0)).setCell ⟨w.heap.size, 2, none⟩ (.int .i64 (nx : Int))).alloc (.cells (tC (unc d) a cap) 36)) ⟨nx, st.opened, st.closed, ms⟩ (.rep d mn mx) cv mv' (some ⟨n, 0, none⟩) 1 := by
 have hp3 : w.heap.size + 1 ≠ w.heap.size := by omega
 have k3 := h.k3.same (hs _ hp3)
 obtain ⟨hB1, hk3, hs1, hz1⟩ := put9n hB (Nat.le_succ _) k3 (.int .i64 4) (.int .u64 0) (.int .u64 0) (.int .u64 0) (.int .u64 0) (.slice (some ⟨n, 0, none⟩) 1 1) (.int .i64 mn) (.int .i64 mx) (.int .i64 0) _ rfl
 generalize (((((((((W.setCell ⟨w.heap.size + 1, 0, none⟩ (.int .i64 4)).setCell ⟨w.heap.size + 1, 1, none⟩ (.int .u64 0)).setCell ⟨w.heap.size + 1, 2, none⟩ (.int .u64 0)).setCell ⟨w.heap.size + 1, 3, none⟩ (.int .u64 0)).setCell ⟨w.heap.size + 1, 4, none⟩ (.int .u64 0)).setCell ⟨w.heap.size + 1, 5, none⟩ (.slice (some ⟨n, 0, none⟩) 1 1)).setCell ⟨w.heap.size + 1, 6, none⟩ (.int .i64 mn)).setCell ⟨w.heap.size + 1, 7, none⟩ (.int .i64 mx)).setCell ⟨w.heap.size + 1, 8, none⟩ (.int .i64 0)) = W1 at *
 have hB2 := hB1.setCell (p := ⟨w.heap.size, 2, none⟩) (Nat.le_refl _) (.int .i64 (nx : Int))
 have hs2 : ∀ b, b ≠ w.heap.size → (W1.setCell ⟨w.heap.size, 2, none⟩ (.int .i64 (nx : Int))).heap[b]? = W1.heap[b]? := fun b hb => far_set _ _ _ _ hb
 have hz2 : (W1.setCell ⟨w.heap.size, 2, none⟩ (.int .i64 (nx : Int))).heap.size = W1.heap.size := by simp [World.setCell]
 have hk2' := ((hk2.same (hs1 _ (fun e => hp3 e.symm))).set 2 (.int .i64 (nx : Int)))
 generalize W1.setCell ⟨w.heap.size, 2, none⟩ (.int .i64 (nx : Int)) = W2 at *
 have hall : ∀ b, b ≠ w.heap.size → b ≠ w.heap.size + 1 → W2.heap[b]? = wk.heap[b]? := fun b e1 e2 => (hs2 b e1).trans ((hs1 b e2).trans (hs b e1))
 have hsz : W2.heap.size = wk.heap.size := hz2.trans (hz1.trans hz)
 have hc : ∀ b, (b < w.heap.size ∨ w.heap.size + 4 ≤ b) → ∀ o, W2.cell? ⟨b, o, none⟩ = wk.cell? ⟨b, o, none⟩ := fun b hb o => World.cell?_of_block (w := wk) (a := ⟨b, o, none⟩) (hall b (by omega) (by omega))
 have hG : ∀ (G : Nat → Prop) b, ((G b ∧ b < w.heap.size) ∨ w.heap.size + 4 ≤ b) → b < wk.heap.size → ((G b ∧ b < w.heap.size) ∨ w.heap.size + 4 ≤ b) ∧ ∀ o, W2.cell? ⟨b, o, none⟩ = wk.cell? ⟨b, o, none⟩ := fun G b hf _ => ⟨hf, hc b (hf.elim (fun x => .inl x.2) .inr)⟩
 have hA := (Below.refl W2.heap.size W2).alloc (Nat.le_refl _) (.cells (tC (unc d) a cap) 36)
 have h5 := h.k5.lt
 refine ⟨hB2.alloc hB2.size _, (hk2'.eqv (by simp)).alloc _, ?_, (h.k4.same (hall _ (by omega) (by omega))).alloc _, (h.k5.same (hall _ (by omega) (by omega))).alloc _, ?_, ?_⟩
 ·exact ((hk3.same (hs2 _ hp3)).eqv (by simp [unc, Tr.kind, Tr.set, Tr.parts, Tr.mn, Tr.mx, Tr.num, ow_zero])).alloc _
 ·have hr : RfR (fun b => (F b ∧ b < w.heap.size) ∨ w.heap.size + 4 ≤ b) W2 s ⟨nx, st.opened, st.closed, ms⟩ cv mv' := ⟨h.r.c.keep (by omega) (hG F), hm.keep (by omega) (hG F), h2, h.r.small, Nat.le_trans h.r.cl h1, hml, Nat.le_trans h.r.op h1⟩
  exact hr.below hA
 ·have ht := h.t.keep (by omega) (hG FT)
  have hone := trw_one (T := 36) ht (G := fun b => (FT b ∧ b < w.heap.size) ∨ w.heap.size + 4 ≤ b) (fun b hf _ => hf) (.inr (by omega))
  rw [show W2.heap.size = n by omega] at hone
  exact TrRw.up (t := unc (.rep d mn mx)) hone
theorem RpL.at' {F FT : Nat → Prop} {w : World} {s : ByteArray} {ere : Bool} {wr : World} {st : ReSt} {d : Nd} {cv mv : Value} {a : Option Addr} {cap : Nat} (h : RpL F FT w s ere wr st d cv mv a cap) : (intOf ((wr.cell? ⟨w.heap.size, 2, none⟩).getD undef)).toNat = st.pos := by
 have e : wr.cell? ⟨w.heap.size, 2, none⟩ = some (.int .i64 (st.pos : Int)) := (h.k2.cell 2).trans rfl
 rw [e]
 simp [intOf]
end Go.Proofs.YtkejeiopfblkgaaGreatDoor
namespace Go.Proofs.YtkejeiopfblkgaaGreatDoor
open Go Go.RowKit
abbrev C8 (w : World) (p : Nat) (v0 v1 v2 v3 v4 v5 v6 v7 : Value) : Prop := w.cell? ⟨p, 0, none⟩ = some v0 ∧ w.cell? ⟨p, 1, none⟩ = some v1 ∧ w.cell? ⟨p, 2, none⟩ = some v2 ∧ w.cell? ⟨p, 3, none⟩ = some v3 ∧ w.cell? ⟨p, 4, none⟩ = some v4 ∧ w.cell? ⟨p, 5, none⟩ = some v5 ∧ w.cell? ⟨p, 6, none⟩ = some v6 ∧ w.cell? ⟨p, 7, none⟩ = some v7
theorem C8.of {w : World} {p : Nat} {T : TypeId} {v0 v1 v2 v3 v4 v5 v6 v7 : Value} (h : Blk w p #[v0, v1, v2, v3, v4, v5, v6, v7] T) : C8 w p v0 v1 v2 v3 v4 v5 v6 v7 := by
 obtain ⟨h0, h1, h2, h3, h4, h5, h6, h7, _⟩ := blk8 h
 exact ⟨h0, h1, h2, h3, h4, h5, h6, h7⟩
theorem C8.far {w w' : World} {p : Nat} {v0 v1 v2 v3 v4 v5 v6 v7 : Value} (h : C8 w p v0 v1 v2 v3 v4 v5 v6 v7) (e1 : w'.heap[p]? = w.heap[p]?) : C8 w' p v0 v1 v2 v3 v4 v5 v6 v7 := by
 obtain ⟨h0, h1, h2, h3, h4, h5, h6, h7⟩ := h
 have a : ∀ o, w'.cell? ⟨p, o, none⟩ = w.cell? ⟨p, o, none⟩ := fun o => World.cell?_of_block (w := w) (a := ⟨p, o, none⟩) e1
 exact ⟨(a 0).trans h0, (a 1).trans h1, (a 2).trans h2, (a 3).trans h3, (a 4).trans h4, (a 5).trans h5, (a 6).trans h6, (a 7).trans h7⟩
theorem C8.drew {w : World} {p : Nat} {v0 v1 v2 v3 v4 v5 v6 v7 : Value} (h : C8 w p v0 v1 v2 v3 v4 v5 v6 v7) : C8 w.drew p v0 v1 v2 v3 v4 v5 v6 v7 := h
set_option maxHeartbeats 2000000 in
theorem C8.put8 {w : World} {p r : Nat} {v0 v1 v2 v3 v4 v5 v6 v7 u0 u1 u2 u3 u4 u5 u6 u7 : Value} (h : C8 w p v0 v1 v2 v3 v4 v5 v6 v7) (n1 : p ≠ r) : C8 ((((((((w.setCell ⟨r, 0, none⟩ u0).setCell ⟨r, 1, none⟩ u1).setCell ⟨r, 2, none⟩ u2).setCell ⟨r, 3, none⟩ u3).setCell ⟨r, 4, none⟩ u4).setCell ⟨r, 5, none⟩ u5).setCell ⟨r, 6, none⟩ u6).setCell ⟨r, 7, none⟩ u7) p v0 v1 v2 v3 v4 v5 v6 v7 := h.far ((far_set _ _ _ _ n1).trans ((far_set _ _ _ _ n1).trans ((far_set _ _ _ _ n1).trans ((far_set _ _ _ _ n1).trans ((far_set _ _ _ _ n1).trans ((far_set _ _ _ _ n1).trans ((far_set _ _ _ _ n1).trans ((far_set _ _ _ _ n1).trans (rfl)))))))))
set_option maxHeartbeats 2000000 in
theorem C8.put9 {w : World} {p r : Nat} {v0 v1 v2 v3 v4 v5 v6 v7 u0 u1 u2 u3 u4 u5 u6 u7 u8 : Value} (h : C8 w p v0 v1 v2 v3 v4 v5 v6 v7) (n1 : p ≠ r) : C8 (((((((((w.setCell ⟨r, 0, none⟩ u0).setCell ⟨r, 1, none⟩ u1).setCell ⟨r, 2, none⟩ u2).setCell ⟨r, 3, none⟩ u3).setCell ⟨r, 4, none⟩ u4).setCell ⟨r, 5, none⟩ u5).setCell ⟨r, 6, none⟩ u6).setCell ⟨r, 7, none⟩ u7).setCell ⟨r, 8, none⟩ u8) p v0 v1 v2 v3 v4 v5 v6 v7 := h.far ((far_set _ _ _ _ n1).trans ((far_set _ _ _ _ n1).trans ((far_set _ _ _ _ n1).trans ((far_set _ _ _ _ n1).trans ((far_set _ _ _ _ n1).trans ((far_set _ _ _ _ n1).trans ((far_set _ _ _ _ n1).trans ((far_set _ _ _ _ n1).trans ((far_set _ _ _ _ n1).trans (rfl))))))))))
abbrev C12 (w : World) (p q : Nat) (v0 v1 v2 v3 v4 v5 v6 v7 x0 x1 x2 x3 : Value) : Prop := (w.cell? ⟨p, 0, none⟩ = some v0 ∧ w.cell? ⟨p, 1, none⟩ = some v1 ∧ w.cell? ⟨p, 2, none⟩ = some v2 ∧ w.cell? ⟨p, 3, none⟩ = some v3 ∧ w.cell? ⟨p, 4, none⟩ = some v4 ∧ w.cell? ⟨p, 5, none⟩ = some v5 ∧ w.cell? ⟨p, 6, none⟩ = some v6 ∧ w.cell? ⟨p, 7, none⟩ = some v7) ∧ w.cell? ⟨q, 0, none⟩ = some x0 ∧ w.cell? ⟨q, 1, none⟩ = some x1 ∧ w.cell? ⟨q, 2, none⟩ = some x2 ∧ w.cell? ⟨q, 3, none⟩ = some x3
theorem C12.of {w : World} {p q : Nat} {T U : TypeId} {v0 v1 v2 v3 v4 v5 v6 v7 x0 x1 x2 x3 : Value} (h : Blk w p #[v0, v1, v2, v3, v4, v5, v6, v7] T) (k : Blk w q #[x0, x1, x2, x3] U) : C12 w p q v0 v1 v2 v3 v4 v5 v6 v7 x0 x1 x2 x3 := by
 obtain ⟨h0, h1, h2, h3, _⟩ := blk_four k
 exact ⟨C8.of h, h0, h1, h2, h3⟩
theorem C12.far {w w' : World} {p q : Nat} {v0 v1 v2 v3 v4 v5 v6 v7 x0 x1 x2 x3 : Value} (h : C12 w p q v0 v1 v2 v3 v4 v5 v6 v7 x0 x1 x2 x3) (e1 : w'.heap[p]? = w.heap[p]?) (e2 : w'.heap[q]? = w.heap[q]?) : C12 w' p q v0 v1 v2 v3 v4 v5 v6 v7 x0 x1 x2 x3 := by
 obtain ⟨hA, h0, h1, h2, h3⟩ := h
 have a : ∀ o, w'.cell? ⟨q, o, none⟩ = w.cell? ⟨q, o, none⟩ := fun o => World.cell?_of_block (w := w) (a := ⟨q, o, none⟩) e2
 exact ⟨C8.far hA e1, (a 0).trans h0, (a 1).trans h1, (a 2).trans h2, (a 3).trans h3⟩
theorem C12.drew {w : World} {p q : Nat} {v0 v1 v2 v3 v4 v5 v6 v7 x0 x1 x2 x3 : Value} (h : C12 w p q v0 v1 v2 v3 v4 v5 v6 v7 x0 x1 x2 x3) : C12 w.drew p q v0 v1 v2 v3 v4 v5 v6 v7 x0 x1 x2 x3 := h
set_option maxHeartbeats 2000000 in
theorem C12.put8 {w : World} {p q r : Nat} {v0 v1 v2 v3 v4 v5 v6 v7 x0 x1 x2 x3 u0 u1 u2 u3 u4 u5 u6 u7 : Value} (h : C12 w p q v0 v1 v2 v3 v4 v5 v6 v7 x0 x1 x2 x3) (n1 : p ≠ r) (n2 : q ≠ r) : C12 ((((((((w.setCell ⟨r, 0, none⟩ u0).setCell ⟨r, 1, none⟩ u1).setCell ⟨r, 2, none⟩ u2).setCell ⟨r, 3, none⟩ u3).setCell ⟨r, 4, none⟩ u4).setCell ⟨r, 5, none⟩ u5).setCell ⟨r, 6, none⟩ u6).setCell ⟨r, 7, none⟩ u7) p q v0 v1 v2 v3 v4 v5 v6 v7 x0 x1 x2 x3 := h.far ((far_set _ _ _ _ n1).trans ((far_set _ _ _ _ n1).trans ((far_set _ _ _ _ n1).trans ((far_set _ _ _ _ n1).trans ((far_set _ _ _ _ n1).trans ((far_set _ _ _ _ n1).trans ((far_set _ _ _ _ n1).trans ((far_set _ _ _ _ n1).trans (rfl))))))))) ((far_set _ _ _ _ n2).trans ((far_set _ _ _ _ n2).trans ((far_set _ _ _ _ n2).trans ((far_set _ _ _ _ n2).trans ((far_set _ _ _ _ n2).trans ((far_set _ _ _ _ n2).trans ((far_set _ _ _ _ n2).trans ((far_set _ _ _ _ n2).trans (rfl)))))))))
set_option maxHeartbeats 2000000 in
theorem C12.put9 {w : World} {p q r : Nat} {v0 v1 v2 v3 v4 v5 v6 v7 x0 x1 x2 x3 u0 u1 u2 u3 u4 u5 u6 u7 u8 : Value} (h : C12 w p q v0 v1 v2 v3 v4 v5 v6 v7 x0 x1 x2 x3) (n1 : p ≠ r) (n2 : q ≠ r) : C12 (((((((((w.setCell ⟨r, 0, none⟩ u0).setCell ⟨r, 1, none⟩ u1).setCell ⟨r, 2, none⟩ u2).setCell ⟨r, 3, none⟩ u3).setCell ⟨r, 4, none⟩ u4).setCell ⟨r, 5, none⟩ u5).setCell ⟨r, 6, none⟩ u6).setCell ⟨r, 7, none⟩ u7).setCell ⟨r, 8, none⟩ u8) p q v0 v1 v2 v3 v4 v5 v6 v7 x0 x1 x2 x3 := h.far ((far_set _ _ _ _ n1).trans ((far_set _ _ _ _ n1).trans ((far_set _ _ _ _ n1).trans ((far_set _ _ _ _ n1).trans ((far_set _ _ _ _ n1).trans ((far_set _ _ _ _ n1).trans ((far_set _ _ _ _ n1).trans ((far_set _ _ _ _ n1).trans ((far_set _ _ _ _ n1).trans (rfl)))))))))) ((far_set _ _ _ _ n2).trans ((far_set _ _ _ _ n2).trans ((far_set _ _ _ _ n2).trans ((far_set _ _ _ _ n2).trans ((far_set _ _ _ _ n2).trans ((far_set _ _ _ _ n2).trans ((far_set _ _ _ _ n2).trans ((far_set _ _ _ _ n2).trans ((far_set _ _ _ _ n2).trans (rfl))))))))))
structure Fr (F : Nat → Prop) (w : World) (s : ByteArray) (ere : Bool) (wr : World) (st : ReSt) (cv mv : Value) : Prop where
 b : Below w.heap.size w wr
 k2 : Blk wr w.heap.size (rfC s ere st.pos st.opened cv mv 0 0) 87
 k4 : Blk wr (w.heap.size + 1) rfZ 87
 k5 : Blk wr (w.heap.size + 1 + 1) zC 36
 r : RfR (fun b => (F b ∧ b < w.heap.size) ∨ w.heap.size + 3 ≤ b) wr s st cv mv
theorem Fr.step {F : Nat → Prop} {w : World} {s : ByteArray} {ere : Bool} {wr w' : World} {st : ReSt} {cv mv : Value} (h : Fr F w s ere wr st cv mv) (hb : Below wr.heap.size wr w') : Fr F w s ere w' st cv mv :=
 ⟨h.b.trans (hb.mono h.b.size), h.k2.below hb h.k2.lt, h.k4.below hb h.k4.lt, h.k5.below hb h.k5.lt, h.r.below hb⟩
theorem Fr.begin {F : Nat → Prop} {w : World} {s : ByteArray} {ere : Bool} {st : ReSt} {cv mv : Value} (hR : RfR F w s st cv mv) :
  Fr F w s ere (((w.alloc (.cells (rfC s ere st.pos st.opened cv mv 0 0) 87)).alloc (.cells rfZ 87)).alloc (.cells zC 36)) st cv mv := by
 have hB := (((Below.refl w.heap.size w).alloc (Nat.le_refl _) (.cells (rfC s ere st.pos st.opened cv mv 0 0) 87)).alloc (by simp) (.cells rfZ 87)).alloc (by simp; omega) (.cells zC 36)
 exact ⟨hB, ((Blk.new w _ _ _ rfl).alloc _).alloc _, (Blk.new _ _ _ _ (by simp)).alloc _, Blk.new _ _ _ _ (by simp), hR.keep hB.size (fun b hf hlt => ⟨.inl ⟨hf, hlt⟩, fun o => hB.cell (p := ⟨b, o, none⟩) hlt⟩)⟩
theorem Fr.upd {F : Nat → Prop} {w : World} {s : ByteArray} {ere : Bool} {wk W : World} {st st2 : ReSt} {cv mv cv2 mv2 : Value} (h : Fr F w s ere wk st cv mv) (hB : Below w.heap.size w W) (hk2 : Blk W w.heap.size (rfC s ere st2.pos st2.opened cv2 mv2 0 0) 87)
  (hs : ∀ b, b ≠ w.heap.size → W.heap[b]? = wk.heap[b]?) (hz : W.heap.size = wk.heap.size) (hr : RfR (fun b => (F b ∧ b < w.heap.size) ∨ w.heap.size + 3 ≤ b) wk s st2 cv2 mv2) : Fr F w s ere W st2 cv2 mv2 :=
 ⟨hB, hk2, h.k4.same (hs _ (by omega)), h.k5.same (hs _ (by omega)), hr.keep (by omega) (fun b hf _ => ⟨hf, fun o => World.cell?_of_block (w := wk) (a := ⟨b, o, none⟩) (hs b (by omega))⟩)⟩
theorem Fr.to {F : Nat → Prop} {w : World} {s : ByteArray} {ere : Bool} {wk : World} {st : ReSt} {cv mv : Value} (h : Fr F w s ere wk st cv mv) (k : Nat) (h1 : st.pos ≤ k) (h2 : k ≤ s.size) : Fr F w s ere (wk.setCell ⟨w.heap.size, 2, none⟩ (.int .i64 (k : Int))) (st.to k) cv mv :=
 h.upd (h.b.setCell (p := ⟨w.heap.size, 2, none⟩) (Nat.le_refl _) _) ((h.k2.set 2 _).eqv (by simp [ReSt.to])) (fun b hb => far_set _ _ _ _ hb) (by simp [World.setCell]) (h.r.to k h1 h2)
theorem zc_empty : zC = tC (unc .empty) none 0 := by simp [unc, tz, Tr.kind, Tr.set, Tr.parts, Tr.mn, Tr.mx, Tr.num, ow_zero]
theorem trx_leaf {F : Nat → Prop} {w : World} {t : Tr} (h : t.parts = []) : TrX F w t none 0 := TrRw.up (by rw [h]; exact TrRw.nil _ _ _ _ (Nat.zero_le _))
theorem Fr.err {F FT : Nat → Prop} {C : Nd → Bool} {w : World} {s : ByteArray} {ere : Bool} {wr w9 : World} {st : ReSt} {cv mv : Value} {R : ReRes (ReSt × Nd)} {q : Nat × Nat} (h : Fr F w s ere wr st cv mv) (hR : R = .error q) (hC : C .empty = true) (hq : q.1 ≠ 0) (hb : Below w.heap.size w w9) :
  RfAns F FT C ere s R w (.returned (.tuple #[.agg (rfC s ere st.pos st.opened cv mv (q.1 : Int) (q.2 : Int)), .agg zC])) w9 := by
 subst hR
 exact ⟨hb, _, _, cv, mv, .empty, none, 0, by rw [zc_empty], h.r.c.form, h.r.m.form, hq, trx_leaf rfl, hC⟩
theorem Fr.ok {F FT : Nat → Prop} {C : Nd → Bool} {w : World} {s : ByteArray} {ere : Bool} {wr w9 : World} {st : ReSt} {cv mv : Value} {R : ReRes (ReSt × Nd)} {d : Nd} {a : Option Addr} {cap : Nat} (h : Fr F w s ere wr st cv mv) (hR : R = .ok (st, d)) (ht : TrX (fun b => w.heap.size + 3 ≤ b) wr (unc d) a cap)
  (hb : Below w.heap.size w w9) (hs : ∀ b, b ≠ w.heap.size + 1 → b ≠ w.heap.size + 1 + 1 → w9.heap[b]? = wr.heap[b]?) (hz : w9.heap.size = wr.heap.size) :
  RfAns F FT C ere s R w (.returned (.tuple #[.agg (rfC s ere st.pos st.opened cv mv 0 0), .agg (tC (unc d) a cap)])) w9 := by
 subst hR
 have hc : ∀ b, (b < w.heap.size ∨ w.heap.size + 3 ≤ b) → ∀ o, w9.cell? ⟨b, o, none⟩ = wr.cell? ⟨b, o, none⟩ := fun b hb o => World.cell?_of_block (w := wr) (a := ⟨b, o, none⟩) (hs b (by omega) (by omega))
 refine ⟨hb, cv, mv, a, cap, rfl, h.r.keep (by omega) (fun b hf _ => ⟨?_, hc b ?_⟩), ht.keep (by omega) (fun b hf _ => ⟨.inr (by omega), hc b (.inr hf)⟩)⟩
 ·exact hf.elim (fun h => .inl h.1) (fun h => .inr (by omega))
 ·exact hf.elim (fun h => .inl h.2) .inr
theorem RfAns.mono {F FT FT' : Nat → Prop} {C : Nd → Bool} {ere : Bool} {s : ByteArray} {r : ReRes (ReSt × Nd)} {w : World} {e : Ending} {w' : World} (hF : ∀ b, FT b → FT' b) (h : RfAns F FT C ere s r w e w') : RfAns F FT' C ere s r w e w' := by
 cases r with
 | error q =>
  obtain ⟨h1, at', op, cv, mv, d, a, cap, h2, h3, h4, h5, h6, h7⟩ := h
  exact ⟨h1, at', op, cv, mv, d, a, cap, h2, h3, h4, h5, h6.keep (Nat.le_refl _) (fun b hf _ => ⟨hf.imp_left (hF b), fun _ => rfl⟩), h7⟩
 | ok q =>
  obtain ⟨h1, cv, mv, a, cap, h2, h3, h4⟩ := h
  exact ⟨h1, cv, mv, a, cap, h2, h3, h4.keep (Nat.le_refl _) (fun b hf _ => ⟨hf.imp_left (hF b), fun _ => rfl⟩)⟩
theorem rone_c (t : OSet) (w : World) :
  Calls Tryz.prog 92 #[.agg #[.int .u64 (ow t 0), .int .u64 (ow t 1), .int .u64 (ow t 2), .int .u64 (ow t 3)]] w fun e w' => e = .returned (.agg (tC (unc (.one t)) none 0)) ∧ Below w.heap.size w w' := rone_any t w
theorem rcls_c (s : ByteArray) (l : List UInt8) (h : s.data.toList = l) (w : World) : Calls Tryz.prog 109 #[.string s] w fun e w' => e = .returned (.agg #[.int .u64 (ow (clsSet l) 0), .int .u64 (ow (clsSet l) 1), .int .u64 (ow (clsSet l) 2), .int .u64 (ow (clsSet l) 3)]) ∧ Below w.heap.size w w' := by
 have h1 := rcls_any s w
 rw [ByteArray.toList_eq, h] at h1
 exact h1
end Go.Proofs.YtkejeiopfblkgaaGreatDoor
namespace Go.Proofs.YtkejeiopfblkgaaGreatDoor
open Go Go.RowKit
theorem Fr.pass {F : Nat → Prop} {C : Nd → Bool} {w : World} {s : ByteArray} {ere : Bool} {wk w' w9 : World} {st : ReSt} {cv mv : Value} {R : ReRes (ReSt × Nd)} {e : Ending} (h : Fr F w s ere wk st cv mv)
  (hA : RfAns (fun b => (F b ∧ b < w.heap.size) ∨ w.heap.size + 3 ≤ b) (fun _ => False) C ere s R wk e w') (hb : Below w.heap.size w w9) (hs : ∀ b, b ≠ w.heap.size + 1 → b ≠ w.heap.size + 1 + 1 → w9.heap[b]? = w'.heap[b]?) (hz : w9.heap.size = w'.heap.size) : RfAns F (fun _ => False) C ere s R w e w9 := by
 have hl := h.k5.lt
 have hc : ∀ b, (b < w.heap.size ∨ w.heap.size + 3 ≤ b) → ∀ o, w9.cell? ⟨b, o, none⟩ = w'.cell? ⟨b, o, none⟩ := fun b hb o => World.cell?_of_block (w := w') (a := ⟨b, o, none⟩) (hs b (by omega) (by omega))
 have ht : ∀ b, (False ∨ wk.heap.size ≤ b) → b < w'.heap.size → (False ∨ w.heap.size ≤ b) ∧ ∀ o, w9.cell? ⟨b, o, none⟩ = w'.cell? ⟨b, o, none⟩ := fun b hf _ => ⟨.inr (by have := hf.resolve_left id; omega), hc b (.inr (by have := hf.resolve_left id; omega))⟩
 cases R with
 | error q =>
  obtain ⟨h1, at', op, cv, mv, d, a, cap, h2, h3, h4, h5, h6, h7⟩ := hA
  exact ⟨hb, at', op, cv, mv, d, a, cap, h2, h3, h4, h5, h6.keep (by omega) ht, h7⟩
 | ok q =>
  obtain ⟨h1, cv, mv, a, cap, h2, h3, h4⟩ := hA
  refine ⟨hb, cv, mv, a, cap, h2, h3.keep (by omega) (fun b hf _ => ?_), h4.keep (by omega) ht⟩
  rcases hf with (hf | hf) | hf
  ·exact ⟨.inl hf.1, hc b (.inl hf.2)⟩
  ·exact ⟨.inr (by omega), hc b (.inr hf)⟩
  ·exact ⟨.inr (by omega), hc b (.inr (by omega))⟩
end Go.Proofs.YtkejeiopfblkgaaGreatDoor
