/- The proof's texts RfU, RfH, RfN, Pm, EtM, RfS: what the claim reaches of them. -/
import Derived.Test.YtkejeiopfblkgaaGreatDoorBp14
import Derived.Test.YtkejeiopfblkgaaGreatDoorBp04
namespace Go.Proofs.YtkejeiopfblkgaaGreatDoor
open Go Go.RowKit
abbrev C8 (w : World) (p : Nat) (v0 v1 v2 v3 v4 v5 v6 v7 : Value) : Prop := w.cell? ⟨p, 0, none⟩ = some v0 ∧ w.cell? ⟨p, 1, none⟩ = some v1 ∧ w.cell? ⟨p, 2, none⟩ = some v2 ∧ w.cell? ⟨p, 3, none⟩ = some v3 ∧ w.cell? ⟨p, 4, none⟩ = some v4 ∧ w.cell? ⟨p, 5, none⟩ = some v5 ∧ w.cell? ⟨p, 6, none⟩ = some v6 ∧ w.cell? ⟨p, 7, none⟩ = some v7
theorem C8.of {w : World} {p : Nat} {T : TypeId} {v0 v1 v2 v3 v4 v5 v6 v7 : Value} (h : Blk w p #[v0, v1, v2, v3, v4, v5, v6, v7] T) : C8 w p v0 v1 v2 v3 v4 v5 v6 v7 := by
 obtain ⟨h0, h1, h2, h3, h4, h5, h6, h7, _⟩ := blk8 h
 exact ⟨h0, h1, h2, h3, h4, h5, h6, h7⟩
theorem C8.far {w w' : World} {p : Nat} {v0 v1 v2 v3 v4 v5 v6 v7 : Value} (h : C8 w p v0 v1 v2 v3 v4 v5 v6 v7) (e1 : w'.heap[p]? = w.heap[p]?) : C8 w' p v0 v1 v2 v3 v4 v5 v6 v7 := by
 obtain ⟨h0, h1, h2, h3, h4, h5, h6, h7⟩ := h
 have a : ∀ o, w'.cell? ⟨p, o, none⟩ = w.cell? ⟨p, o, none⟩ := fun o => World.cell?_of_block (w := w) (a := ⟨p, o, none⟩) e1
 exact ⟨(a 0).trans h0, (a 1).trans h1, (a 2).trans h2, (a 3).trans h3, (a 4).trans h4, (a 5).trans h5, (a 6).trans h6, (a 7).trans h7⟩
theorem C8.drew {w : World} {p : Nat} {v0 v1 v2 v3 v4 v5 v6 v7 : Value} (h : C8 w p v0 v1 v2 v3 v4 v5 v6 v7) : C8 w.drew p v0 v1 v2 v3 v4 v5 v6 v7 := h
set_option maxHeartbeats 2000000 in
theorem C8.put8 {w : World} {p r : Nat} {v0 v1 v2 v3 v4 v5 v6 v7 u0 u1 u2 u3 u4 u5 u6 u7 : Value} (h : C8 w p v0 v1 v2 v3 v4 v5 v6 v7) (n1 : p ≠ r) : C8 ((((((((w.setCell ⟨r, 0, none⟩ u0).setCell ⟨r, 1, none⟩ u1).setCell ⟨r, 2, none⟩ u2).setCell ⟨r, 3, none⟩ u3).setCell ⟨r, 4, none⟩ u4).setCell ⟨r, 5, none⟩ u5).setCell ⟨r, 6, none⟩ u6).setCell ⟨r, 7, none⟩ u7) p v0 v1 v2 v3 v4 v5 v6 v7 := h.far ((far_set _ _ _ _ n1).trans ((far_set _ _ _ _ n1).trans ((far_set _ _ _ _ n1).trans ((far_set _ _ _ _ n1).trans ((far_set _ _ _ _ n1).trans ((far_set _ _ _ _ n1).trans ((far_set _ _ _ _ n1).trans ((far_set _ _ _ _ n1).trans (rfl)))))))))
set_option maxHeartbeats 2000000 in
theorem C8.put9 {w : World} {p r : Nat} {v0 v1 v2 v3 v4 v5 v6 v7 u0 u1 u2 u3 u4 u5 u6 u7 u8 : Value} (h : C8 w p v0 v1 v2 v3 v4 v5 v6 v7) (n1 : p ≠ r) : C8 (((((((((w.setCell ⟨r, 0, none⟩ u0).setCell ⟨r, 1, none⟩ u1).setCell ⟨r, 2, none⟩ u2).setCell ⟨r, 3, none⟩ u3).setCell ⟨r, 4, none⟩ u4).setCell ⟨r, 5, none⟩ u5).setCell ⟨r, 6, none⟩ u6).setCell ⟨r, 7, none⟩ u7).setCell ⟨r, 8, none⟩ u8) p v0 v1 v2 v3 v4 v5 v6 v7 := h.far ((far_set _ _ _ _ n1).trans ((far_set _ _ _ _ n1).trans ((far_set _ _ _ _ n1).trans ((far_set _ _ _ _ n1).trans ((far_set _ _ _ _ n1).trans ((far_set _ _ _ _ n1).trans ((far_set _ _ _ _ n1).trans ((far_set _ _ _ _ n1).trans ((far_set _ _ _ _ n1).trans (rfl))))))))))
abbrev C12 (w : World) (p q : Nat) (v0 v1 v2 v3 v4 v5 v6 v7 x0 x1 x2 x3 : Value) : Prop := (w.cell? ⟨p, 0, none⟩ = some v0 ∧ w.cell? ⟨p, 1, none⟩ = some v1 ∧ w.cell? ⟨p, 2, none⟩ = some v2 ∧ w.cell? ⟨p, 3, none⟩ = some v3 ∧ w.cell? ⟨p, 4, none⟩ = some v4 ∧ w.cell? ⟨p, 5, none⟩ = some v5 ∧ w.cell? ⟨p, 6, none⟩ = some v6 ∧ w.cell? ⟨p, 7, none⟩ = some v7) ∧ w.cell? ⟨q, 0, none⟩ = some x0 ∧ w.cell? ⟨q, 1, none⟩ = some x1 ∧ w.cell? ⟨q, 2, none⟩ = some x2 ∧ w.cell? ⟨q, 3, none⟩ = some x3
theorem C12.of {w : World} {p q : Nat} {T U : TypeId} {v0 v1 v2 v3 v4 v5 v6 v7 x0 x1 x2 x3 : Value} (h : Blk w p #[v0, v1, v2, v3, v4, v5, v6, v7] T) (k : Blk w q #[x0, x1, x2, x3] U) : C12 w p q v0 v1 v2 v3 v4 v5 v6 v7 x0 x1 x2 x3 := by
 obtain ⟨h0, h1, h2, h3, _⟩ := blk_four k
 exact ⟨C8.of h, h0, h1, h2, h3⟩
theorem C12.far {w w' : World} {p q : Nat} {v0 v1 v2 v3 v4 v5 v6 v7 x0 x1 x2 x3 : Value} (h : C12 w p q v0 v1 v2 v3 v4 v5 v6 v7 x0 x1 x2 x3) (e1 : w'.heap[p]? = w.heap[p]?) (e2 : w'.heap[q]? = w.heap[q]?) : C12 w' p q v0 v1 v2 v3 v4 v5 v6 v7 x0 x1 x2 x3 := by
 obtain ⟨hA, h0, h1, h2, h3⟩ := h
 have a : ∀ o, w'.cell? ⟨q, o, none⟩ = w.cell? ⟨q, o, none⟩ := fun o => World.cell?_of_block (w := w) (a := ⟨q, o, none⟩) e2
 exact ⟨C8.far hA e1, (a 0).trans h0, (a 1).trans h1, (a 2).trans h2, (a 3).trans h3⟩
theorem C12.drew {w : World} {p q : Nat} {v0 v1 v2 v3 v4 v5 v6 v7 x0 x1 x2 x3 : Value} (h : C12 w p q v0 v1 v2 v3 v4 v5 v6 v7 x0 x1 x2 x3) : C12 w.drew p q v0 v1 v2 v3 v4 v5 v6 v7 x0 x1 x2 x3 := h
set_option maxHeartbeats 2000000 in
theorem C12.put8 {w : World} {p q r : Nat} {v0 v1 v2 v3 v4 v5 v6 v7 x0 x1 x2 x3 u0 u1 u2 u3 u4 u5 u6 u7 : Value} (h : C12 w p q v0 v1 v2 v3 v4 v5 v6 v7 x0 x1 x2 x3) (n1 : p ≠ r) (n2 : q ≠ r) : C12 ((((((((w.setCell ⟨r, 0, none⟩ u0).setCell ⟨r, 1, none⟩ u1).setCell ⟨r, 2, none⟩ u2).setCell ⟨r, 3, none⟩ u3).setCell ⟨r, 4, none⟩ u4).setCell ⟨r, 5, none⟩ u5).setCell ⟨r, 6, none⟩ u6).setCell ⟨r, 7, none⟩ u7) p q v0 v1 v2 v3 v4 v5 v6 v7 x0 x1 x2 x3 := h.far ((far_set _ _ _ _ n1).trans ((far_set _ _ _ _ n1).trans ((far_set _ _ _ _ n1).trans ((far_set _ _ _ _ n1).trans ((far_set _ _ _ _ n1).trans ((far_set _ _ _ _ n1).trans ((far_set _ _ _ _ n1).trans ((far_set _ _ _ _ n1).trans (rfl))))))))) ((far_set _ _ _ _ n2).trans ((far_set _ _ _ _ n2).trans ((far_set _ _ _ _ n2).trans ((far_set _ _ _ _ n2).trans ((far_set _ _ _ _ n2).trans ((far_set _ _ _ _ n2).trans ((far_set _ _ _ _ n2).trans ((far_set _ _ _ _ n2).trans (rfl)))))))))
set_option maxHeartbeats 2000000 in
theorem C12.put9 {w : World} {p q r : Nat} {v0 v1 v2 v3 v4 v5 v6 v7 x0 x1 x2 x3 u0 u1 u2 u3 u4 u5 u6 u7 u8 : Value} (h : C12 w p q v0 v1 v2 v3 v4 v5 v6 v7 x0 x1 x2 x3) (n1 : p ≠ r) (n2 : q ≠ r) : C12 (((((((((w.setCell ⟨r, 0, none⟩ u0).setCell ⟨r, 1, none⟩ u1).setCell ⟨r, 2, none⟩ u2).setCell ⟨r, 3, none⟩ u3).setCell ⟨r, 4, none⟩ u4).setCell ⟨r, 5, none⟩ u5).setCell ⟨r, 6, none⟩ u6).setCell ⟨r, 7, none⟩ u7).setCell ⟨r, 8, none⟩ u8) p q v0 v1 v2 v3 v4 v5 v6 v7 x0 x1 x2 x3 := h.far ((far_set _ _ _ _ n1).trans ((far_set _ _ _ _ n1).trans ((far_set _ _ _ _ n1).trans ((far_set _ _ _ _ n1).trans ((far_set _ _ _ _ n1).trans ((far_set _ _ _ _ n1).trans ((far_set _ _ _ _ n1).trans ((far_set _ _ _ _ n1).trans ((far_set _ _ _ _ n1).trans (rfl)))))))))) ((far_set _ _ _ _ n2).trans ((far_set _ _ _ _ n2).trans ((far_set _ _ _ _ n2).trans ((far_set _ _ _ _ n2).trans ((far_set _ _ _ _ n2).trans ((far_set _ _ _ _ n2).trans ((far_set _ _ _ _ n2).trans ((far_set _ _ _ _ n2).trans ((far_set _ _ _ _ n2).trans (rfl))))))))))
structure Fr (F : Nat → Prop) (w : World) (s : ByteArray) (ere : Bool) (wr : World) (st : ReSt) (cv mv : Value) : Prop where
 b : Below w.heap.size w wr
 k2 : Blk wr w.heap.size (rfC s ere st.pos st.opened cv mv 0 0) 87
 k4 : Blk wr (w.heap.size + 1) rfZ 87
 k5 : Blk wr (w.heap.size + 1 + 1) zC 36
 r : RfR (fun b => (F b ∧ b < w.heap.size) ∨ w.heap.size + 3 ≤ b) wr s st cv mv
theorem Fr.step {F : Nat → Prop} {w : World} {s : ByteArray} {ere : Bool} {wr w' : World} {st : ReSt} {cv mv : Value} (h : Fr F w s ere wr st cv mv) (hb : Below wr.heap.size wr w') : Fr F w s ere w' st cv mv :=
 ⟨h.b.trans (hb.mono h.b.size), h.k2.below hb h.k2.lt, h.k4.below hb h.k4.lt, h.k5.below hb h.k5.lt, h.r.below hb⟩
theorem Fr.begin {F : Nat → Prop} {w : World} {s : ByteArray} {ere : Bool} {st : ReSt} {cv mv : Value} (hR : RfR F w s st cv mv) :
  Fr F w s ere (((w.alloc (.cells (rfC s ere st.pos st.opened cv mv 0 0) 87)).alloc (.cells rfZ 87)).alloc (.cells zC 36)) st cv mv := by
 have hB := (((Below.refl w.heap.size w).alloc (Nat.le_refl _) (.cells (rfC s ere st.pos st.opened cv mv 0 0) 87)).alloc (by simp) (.cells rfZ 87)).alloc (by simp; omega) (.cells zC 36)
 exact ⟨hB, ((Blk.new w _ _ _ rfl).alloc _).alloc _, (Blk.new _ _ _ _ (by simp)).alloc _, Blk.new _ _ _ _ (by simp), hR.keep hB.size (fun b hf hlt => ⟨.inl ⟨hf, hlt⟩, fun o => hB.cell (p := ⟨b, o, none⟩) hlt⟩)⟩
theorem Fr.upd {F : Nat → Prop} {w : World} {s : ByteArray} {ere : Bool} {wk W : World} {st st2 : ReSt} {cv mv cv2 mv2 : Value} (h : Fr F w s ere wk st cv mv) (hB : Below w.heap.size w W) (hk2 : Blk W w.heap.size (rfC s ere st2.pos st2.opened cv2 mv2 0 0) 87)
  (hs : ∀ b, b ≠ w.heap.size → W.heap[b]? = wk.heap[b]?) (hz : W.heap.size = wk.heap.size) (hr : RfR (fun b => (F b ∧ b < w.heap.size) ∨ w.heap.size + 3 ≤ b) wk s st2 cv2 mv2) : Fr F w s ere W st2 cv2 mv2 :=
 ⟨hB, hk2, h.k4.same (hs _ (by omega)), h.k5.same (hs _ (by omega)), hr.keep (by omega) (fun b hf _ => ⟨hf, fun o => World.cell?_of_block (w := wk) (a := ⟨b, o, none⟩) (hs b (by omega))⟩)⟩
theorem Fr.to {F : Nat → Prop} {w : World} {s : ByteArray} {ere : Bool} {wk : World} {st : ReSt} {cv mv : Value} (h : Fr F w s ere wk st cv mv) (k : Nat) (h1 : st.pos ≤ k) (h2 : k ≤ s.size) : Fr F w s ere (wk.setCell ⟨w.heap.size, 2, none⟩ (.int .i64 (k : Int))) (st.to k) cv mv :=
 h.upd (h.b.setCell (p := ⟨w.heap.size, 2, none⟩) (Nat.le_refl _) _) ((h.k2.set 2 _).eqv (by simp [ReSt.to])) (fun b hb => far_set _ _ _ _ hb) (by simp [World.setCell]) (h.r.to k h1 h2)
theorem zc_empty : zC = tC (unc .empty) none 0 := by simp [unc, tz, Tr.kind, Tr.set, Tr.parts, Tr.mn, Tr.mx, Tr.num, ow_zero]
theorem trx_leaf {F : Nat → Prop} {w : World} {t : Tr} (h : t.parts = []) : TrX F w t none 0 := TrRw.up (by rw [h]; exact TrRw.nil _ _ _ _ (Nat.zero_le _))
theorem Fr.err {F FT : Nat → Prop} {C : Nd → Bool} {w : World} {s : ByteArray} {ere : Bool} {wr w9 : World} {st : ReSt} {cv mv : Value} {R : ReRes (ReSt × Nd)} {q : Nat × Nat} (h : Fr F w s ere wr st cv mv) (hR : R = .error q) (hC : C .empty = true) (hq : q.1 ≠ 0) (hb : Below w.heap.size w w9) :
  RfAns F FT C ere s R w (.returned (.tuple #[.agg (rfC s ere st.pos st.opened cv mv (q.1 : Int) (q.2 : Int)), .agg zC])) w9 := by
 subst hR
 exact ⟨hb, _, _, cv, mv, .empty, none, 0, by rw [zc_empty], h.r.c.form, h.r.m.form, hq, trx_leaf rfl, hC⟩
theorem Fr.ok {F FT : Nat → Prop} {C : Nd → Bool} {w : World} {s : ByteArray} {ere : Bool} {wr w9 : World} {st : ReSt} {cv mv : Value} {R : ReRes (ReSt × Nd)} {d : Nd} {a : Option Addr} {cap : Nat} (h : Fr F w s ere wr st cv mv) (hR : R = .ok (st, d)) (ht : TrX (fun b => w.heap.size + 3 ≤ b) wr (unc d) a cap)
  (hb : Below w.heap.size w w9) (hs : ∀ b, b ≠ w.heap.size + 1 → b ≠ w.heap.size + 1 + 1 → w9.heap[b]? = wr.heap[b]?) (hz : w9.heap.size = wr.heap.size) :
  RfAns F FT C ere s R w (.returned (.tuple #[.agg (rfC s ere st.pos st.opened cv mv 0 0), .agg (tC (unc d) a cap)])) w9 := by
 subst hR
 have hc : ∀ b, (b < w.heap.size ∨ w.heap.size + 3 ≤ b) → ∀ o, w9.cell? ⟨b, o, none⟩ = wr.cell? ⟨b, o, none⟩ := fun b hb o => World.cell?_of_block (w := wr) (a := ⟨b, o, none⟩) (hs b (by omega) (by omega))
 refine ⟨hb, cv, mv, a, cap, rfl, h.r.keep (by omega) (fun b hf _ => ⟨?_, hc b ?_⟩), ht.keep (by omega) (fun b hf _ => ⟨.inr (by omega), hc b (.inr hf)⟩)⟩
 ·exact hf.elim (fun h => .inl h.1) (fun h => .inr (by omega))
 ·exact hf.elim (fun h => .inl h.2) .inr
theorem RfAns.mono {F FT FT' : Nat → Prop} {C : Nd → Bool} {ere : Bool} {s : ByteArray} {r : ReRes (ReSt × Nd)} {w : World} {e : Ending} {w' : World} (hF : ∀ b, FT b → FT' b) (h : RfAns F FT C ere s r w e w') : RfAns F FT' C ere s r w e w' := by
 cases r with
 | error q =>
  obtain ⟨h1, at', op, cv, mv, d, a, cap, h2, h3, h4, h5, h6, h7⟩ := h
  exact ⟨h1, at', op, cv, mv, d, a, cap, h2, h3, h4, h5, h6.keep (Nat.le_refl _) (fun b hf _ => ⟨hf.imp_left (hF b), fun _ => rfl⟩), h7⟩
 | ok q =>
  obtain ⟨h1, cv, mv, a, cap, h2, h3, h4⟩ := h
  exact ⟨h1, cv, mv, a, cap, h2, h3, h4.keep (Nat.le_refl _) (fun b hf _ => ⟨hf.imp_left (hF b), fun _ => rfl⟩)⟩
theorem rone_c (t : OSet) (w : World) :
  Calls Tryz.prog 92 #[.agg #[.int .u64 (ow t 0), .int .u64 (ow t 1), .int .u64 (ow t 2), .int .u64 (ow t 3)]] w fun e w' => e = .returned (.agg (tC (unc (.one t)) none 0)) ∧ Below w.heap.size w w' := rone_any t w
theorem rcls_c (s : ByteArray) (l : List UInt8) (h : s.data.toList = l) (w : World) : Calls Tryz.prog 109 #[.string s] w fun e w' => e = .returned (.agg #[.int .u64 (ow (clsSet l) 0), .int .u64 (ow (clsSet l) 1), .int .u64 (ow (clsSet l) 2), .int .u64 (ow (clsSet l) 3)]) ∧ Below w.heap.size w w' := by
 have h1 := rcls_any s w
 rw [ByteArray.toList_eq, h] at h1
 exact h1
end Go.Proofs.YtkejeiopfblkgaaGreatDoor
namespace Go.Proofs.YtkejeiopfblkgaaGreatDoor
open Go Go.RowKit
theorem Fr.pass {F : Nat → Prop} {C : Nd → Bool} {w : World} {s : ByteArray} {ere : Bool} {wk w' w9 : World} {st : ReSt} {cv mv : Value} {R : ReRes (ReSt × Nd)} {e : Ending} (h : Fr F w s ere wk st cv mv)
  (hA : RfAns (fun b => (F b ∧ b < w.heap.size) ∨ w.heap.size + 3 ≤ b) (fun _ => False) C ere s R wk e w') (hb : Below w.heap.size w w9) (hs : ∀ b, b ≠ w.heap.size + 1 → b ≠ w.heap.size + 1 + 1 → w9.heap[b]? = w'.heap[b]?) (hz : w9.heap.size = w'.heap.size) : RfAns F (fun _ => False) C ere s R w e w9 := by
 have hl := h.k5.lt
 have hc : ∀ b, (b < w.heap.size ∨ w.heap.size + 3 ≤ b) → ∀ o, w9.cell? ⟨b, o, none⟩ = w'.cell? ⟨b, o, none⟩ := fun b hb o => World.cell?_of_block (w := w') (a := ⟨b, o, none⟩) (hs b (by omega) (by omega))
 have ht : ∀ b, (False ∨ wk.heap.size ≤ b) → b < w'.heap.size → (False ∨ w.heap.size ≤ b) ∧ ∀ o, w9.cell? ⟨b, o, none⟩ = w'.cell? ⟨b, o, none⟩ := fun b hf _ => ⟨.inr (by have := hf.resolve_left id; omega), hc b (.inr (by have := hf.resolve_left id; omega))⟩
 cases R with
 | error q =>
  obtain ⟨h1, at', op, cv, mv, d, a, cap, h2, h3, h4, h5, h6, h7⟩ := hA
  exact ⟨hb, at', op, cv, mv, d, a, cap, h2, h3, h4, h5, h6.keep (by omega) ht, h7⟩
 | ok q =>
  obtain ⟨h1, cv, mv, a, cap, h2, h3, h4⟩ := hA
  refine ⟨hb, cv, mv, a, cap, h2, h3.keep (by omega) (fun b hf _ => ?_), h4.keep (by omega) ht⟩
  rcases hf with (hf | hf) | hf
  ·exact ⟨.inl hf.1, hc b (.inl hf.2)⟩
  ·exact ⟨.inr (by omega), hc b (.inr hf)⟩
  ·exact ⟨.inr (by omega), hc b (.inr (by omega))⟩
end Go.Proofs.YtkejeiopfblkgaaGreatDoor
namespace Go.Proofs.YtkejeiopfblkgaaGreatDoor
open Go Go.RowKit
theorem rint_info : ∃ i, Tryz.prog.info? 3 = some i ∧ i.zero = some (.int .i64 0) ∧ i.size = 1 ∧ i.bytes = 8 := by
 have h : (Tryz.prog.info? 3).map (fun i => (i.zero, i.size, i.bytes)) = some (some (.int .i64 0), 1, 8) := by kernel_rfl
 obtain ⟨i, hi, he⟩ := Option.map_eq_some_iff.1 h
 injection he with h1 h2
 injection h2 with h2 h3
 exact ⟨i, hi, h1, h2, h3⟩
theorem own_cells2 {base : Nat} {e : TypeId} {size : Nat} {v : Value} {n : Nat} {xs : List Value} {w : World} (h : w.ownsRow base e size v n xs) :
  ∃ a cap, v = .slice a n cap ∧ xs.length = n * size ∧ (0 < n → ∃ g, a = some ⟨g, 0, none⟩ ∧ g < w.heap.size ∧ ∀ j u, xs[j]? = some u → w.cell? ⟨g, j, none⟩ = some u) := by
 obtain ⟨h1, h2⟩ := h
 rcases h2 with ⟨rfl, hz⟩ | ⟨g, cap, cur, rfl, hg, hh, hn, hcap, hcs, htk⟩
 ·exact ⟨none, 0, by rw [hz], h1, fun h0 => by omega⟩
 ·refine ⟨_, cap, rfl, h1, fun _ => ⟨g, rfl, (Array.getElem?_eq_some_iff.1 hh).1, fun j u hu => ?_⟩⟩
  have hj : j < n * size := by
   have := (List.getElem?_eq_some_iff.1 hu).1
   omega
  have h3 : w.cell? ⟨g, j, none⟩ = cur[j]? := by simp [World.cell?, hh]
  rw [h3, ← Array.getElem?_toList]
  rw [← htk, List.getElem?_take_of_lt hj] at hu
  exact hu
theorem row_same2 {w w' : World} {base : Nat} {e : TypeId} {size : Nat} {v : Value} {n : Nat} {xs : List Value} (h : w.ownsRow base e size v n xs) (hs : ∀ b, v.ownBlock = some b → w'.heap[b]? = w.heap[b]?) : w'.ownsRow base e size v n xs := by
 obtain ⟨h1, h2⟩ := h
 refine ⟨h1, ?_⟩
 rcases h2 with h2 | ⟨g, cap, cur, hv, hg, hh, r⟩
 ·exact Or.inl h2
 ·exact Or.inr ⟨g, cap, cur, hv, hg, (hs g (by rw [hv]; rfl)).trans hh, r⟩
theorem C17.alloc {w : World} {p q : Nat} {v0 v1 v2 v3 v4 v5 v6 v7 y0 y1 y2 y3 y4 y5 y6 y7 y8 : Value} (h : C17 w p q v0 v1 v2 v3 v4 v5 v6 v7 y0 y1 y2 y3 y4 y5 y6 y7 y8) (o : Obj) (n1 : p < w.heap.size) (n2 : q < w.heap.size) : C17 (w.alloc o) p q v0 v1 v2 v3 v4 v5 v6 v7 y0 y1 y2 y3 y4 y5 y6 y7 y8 :=
 h.far (((Below.refl w.heap.size w).alloc (Nat.le_refl _) o).block p n1) (((Below.refl w.heap.size w).alloc (Nat.le_refl _) o).block q n2)
theorem setCell_size (w : World) (a : Addr) (v : Value) : (w.setCell a v).heap.size = w.heap.size := by simp [World.setCell]
theorem alloc_set (w : World) (o : Obj) (r j : Nat) (v : Value) (h : r < w.heap.size) : (w.setCell ⟨r, j, none⟩ v).alloc o = (w.alloc o).setCell ⟨r, j, none⟩ v := by
 unfold World.alloc World.setCell
 simp only [World.mk.injEq, and_true]
 apply Array.ext
 ·simp
 ·intro i h1 h2
  simp only [Array.getElem_push, Array.getElem_modify, Array.size_modify]
  by_cases hi : i < w.heap.size
  ·simp [hi]
  ·have hne : ¬ r = i := by omega
   simp [hi, hne]
theorem put8_alloc (w : World) (o : Obj) (r : Nat) (u0 u1 u2 u3 u4 u5 u6 u7 : Value) (h : r < w.heap.size) : ((((((((w.setCell ⟨r, 0, none⟩ u0).setCell ⟨r, 1, none⟩ u1).setCell ⟨r, 2, none⟩ u2).setCell ⟨r, 3, none⟩ u3).setCell ⟨r, 4, none⟩ u4).setCell ⟨r, 5, none⟩ u5).setCell ⟨r, 6, none⟩ u6).setCell ⟨r, 7, none⟩ u7).alloc o = (((((((((w.alloc o).setCell ⟨r, 0, none⟩ u0).setCell ⟨r, 1, none⟩ u1).setCell ⟨r, 2, none⟩ u2).setCell ⟨r, 3, none⟩ u3).setCell ⟨r, 4, none⟩ u4).setCell ⟨r, 5, none⟩ u5).setCell ⟨r, 6, none⟩ u6).setCell ⟨r, 7, none⟩ u7) := by
 have hs : ∀ (w' : World) a v, w'.heap.size = w.heap.size → (w'.setCell a v).heap.size = w.heap.size := fun w' a v e => by rw [setCell_size]; exact e
 have h1 := hs w ⟨r, 0, none⟩ u0 rfl
 have h2 := hs _ ⟨r, 1, none⟩ u1 h1
 have h3 := hs _ ⟨r, 2, none⟩ u2 h2
 have h4 := hs _ ⟨r, 3, none⟩ u3 h3
 have h5 := hs _ ⟨r, 4, none⟩ u4 h4
 have h6 := hs _ ⟨r, 5, none⟩ u5 h5
 have h7 := hs _ ⟨r, 6, none⟩ u6 h6
 rw [alloc_set _ _ _ _ _ (by rw [h7]; exact h), alloc_set _ _ _ _ _ (by rw [h6]; exact h), alloc_set _ _ _ _ _ (by rw [h5]; exact h), alloc_set _ _ _ _ _ (by rw [h4]; exact h), alloc_set _ _ _ _ _ (by rw [h3]; exact h), alloc_set _ _ _ _ _ (by rw [h2]; exact h), alloc_set _ _ _ _ _ (by rw [h1]; exact h), alloc_set _ _ _ _ _ h]
theorem tc_group (n : Int) (d : Nd) (a : Option Addr) : tC (unc (.group n d)) a 1 = #[.int .i64 5, .int .u64 0, .int .u64 0, .int .u64 0, .int .u64 0, .slice a 1 1, .int .i64 0, .int .i64 0, .int .i64 n] := by simp [unc, Tr.kind, Tr.set, Tr.parts, Tr.mn, Tr.mx, Tr.num, ow_zero]
theorem ints_row {w : World} {B : Nat} {v : Value} {n : Nat} {l : List Int} (h : w.ownsRow B 3 1 v n (l.map (Value.int .i64))) : RowC (fun b => B ≤ b) w 1 v n (l.map (Value.int .i64)) := by
 obtain ⟨a, cap, e1, e2, e3⟩ := own_cells2 h
 refine ⟨a, cap, e1, e2, fun h0 => ?_⟩
 obtain ⟨g, e4, e5, e6⟩ := e3 h0
 exact ⟨g, e4, own_of h g (by rw [e1, e4]; rfl), e5, e6⟩
def RChOk (ere : Bool) (s : ByteArray) (j dp : Nat) : Prop := ∀ (F : Nat → Prop) (st : ReSt) (cv mv : Value) (w : World), RfR F w s st cv mv → Calls Tryz.prog 30 #[.agg (rfC s ere st.pos st.opened cv mv 0 0), .int .i64 (dp : Int)] w (RfAns F (fun _ => False) (fun _ => true) ere s (regM ere s.data.toList j st) w)
theorem grp_ans {F : Nat → Prop} {w we w9 : World} {s : ByteArray} {ere : Bool} {q : ReSt × Nd} {R : ReRes (ReSt × Nd)} {o1 p3 q9 n : Nat} {cv cv' mv' : Value} {a' : Option Addr} {cap' : Nat} (hR : R = .ok ({ q.1 with pos := p3, closed := q.1.closed ++ [(o1 : Int)] }, .group (o1 : Int) q.2))
  (hq : w.heap.size + 3 ≤ q9) (hq2 : q9 ≤ we.heap.size) (hn : n = q.1.closed.length + 1)
  (hc : RowC (fun b => q9 ≤ b) we 1 cv' n ((q.1.closed ++ [(o1 : Int)]).map (Value.int .i64)))
  (hr : RfR (fun b => ((F b ∧ b < w.heap.size) ∨ w.heap.size + 3 ≤ b) ∧ b < q9) we s q.1 cv mv')
  (ht : TrX (fun b => w.heap.size + 3 ≤ b ∧ b < q9) we (unc q.2) a' cap')
  (hp : q.1.pos + 1 ≤ p3) (hp2 : p3 ≤ s.size)
  (hb : Below w.heap.size w w9) (hs : ∀ b, b ≠ w.heap.size + 1 → b ≠ w.heap.size + 1 + 1 → w9.heap[b]? = (we.alloc (.cells (tC (unc q.2) a' cap') 36)).heap[b]?) (hz : w9.heap.size = (we.alloc (.cells (tC (unc q.2) a' cap') 36)).heap.size) :
  RfAns F (fun _ => False) (fun _ => true) ere s R w (.returned (.tuple #[.agg (rfC s ere p3 q.1.opened cv' mv' 0 0), .agg (tC (unc (.group (o1 : Int) q.2)) (some ⟨we.heap.size, 0, none⟩) 1)])) w9 := by
 subst hR
 subst hn
 have hA := (Below.refl we.heap.size we).alloc (Nat.le_refl _) (.cells (tC (unc q.2) a' cap') 36)
 have hone := trw_one (T := 36) ht (G := fun b => w.heap.size + 3 ≤ b) (fun b hf _ => hf.1) (by omega)
 have hc2 := hc.keep (G := fun b => q9 ≤ b) hA.size (fun b hf hlt => ⟨hf, fun o => hA.cell (p := ⟨b, o, none⟩) hlt⟩)
 have hr2 := hr.below hA
 generalize we.alloc (.cells (tC (unc q.2) a' cap') 36) = wf at *
 have hcl : ∀ b, (b < w.heap.size ∨ w.heap.size + 3 ≤ b) → ∀ o, w9.cell? ⟨b, o, none⟩ = wf.cell? ⟨b, o, none⟩ := fun b hb o => World.cell?_of_block (w := wf) (a := ⟨b, o, none⟩) (hs b (by omega) (by omega))
 have hrr : RfR (fun b => F b ∨ w.heap.size ≤ b) w9 s q.1 cv mv' := hr2.keep (by omega) (fun b hf _ => ⟨hf.1.elim (fun h => .inl h.1) (fun h => .inr (by omega)), hcl b (hf.1.elim (fun h => .inl h.2) .inr)⟩)
 have hcc := hc2.keep (G := fun b => F b ∨ w.heap.size ≤ b) (w' := w9) (by omega) (fun b hf _ => ⟨.inr (by omega), hcl b (.inr (by omega))⟩)
 have h1 := hr.cl
 have h2 := hr.ml
 have h3 := hr.op
 refine ⟨hb, cv', mv', some ⟨we.heap.size, 0, none⟩, 1, rfl, ⟨?_, hrr.m, hp2, hrr.small, ?_, ?_, ?_⟩, ?_⟩
 ·rw [List.length_append]; exact hcc
 ·show (q.1.closed ++ [(o1 : Int)]).length ≤ p3
  rw [List.length_append]
  show q.1.closed.length + 1 ≤ p3
  omega
 ·show q.1.marks.length ≤ p3
  omega
 ·show q.1.opened ≤ p3
  omega
 ·exact TrRw.up (t := unc (.group (o1 : Int) q.2)) (hone.keep (by omega) (fun b hf _ => ⟨.inr (by omega), hcl b (.inr hf)⟩))
structure BrX (w : World) (s : ByteArray) (ere : Bool) (wr : World) (at' op : Nat) (cv mv : Value) (er pl : Int) (l : List Nd) (pv : Value) (us : List Value) : Prop where
 b : Below w.heap.size w wr
 k2 : Blk wr w.heap.size (rfC s ere at' op cv mv er pl) 87
 k4 : Blk wr (w.heap.size + 1) rfZ 87
 k5 : Blk wr (w.heap.size + 1 + 1) zC 36
 o : TOwn (fun b => w.heap.size + 3 ≤ b) (w.heap.size + 3) wr (l.map unc) pv us
theorem BrX.step {w : World} {s : ByteArray} {ere : Bool} {wr w' : World} {at' op : Nat} {cv mv : Value} {er pl : Int} {l : List Nd} {pv : Value} {us : List Value} (h : BrX w s ere wr at' op cv mv er pl l pv us) (hb : Below wr.heap.size wr w') : BrX w s ere w' at' op cv mv er pl l pv us :=
 ⟨h.b.trans (hb.mono h.b.size), h.k2.below hb h.k2.lt, h.k4.below hb h.k4.lt, h.k5.below hb h.k5.lt, h.o.below hb⟩
theorem BrX.add {w : World} {s : ByteArray} {ere : Bool} {wr w' : World} {at' op : Nat} {cv mv : Value} {er pl : Int} {l : List Nd} {pv v' : Value} {us vs : List Value} {d : Nd} (h : BrX w s ere wr at' op cv mv er pl l pv us) (hm : Chunks (fun b => w.heap.size + 3 ≤ b ∧ OffV pv b) wr [unc d] vs)
  (hown : w'.ownsRow (w.heap.size + 3) 36 9 v' ((l.map unc).length + 1) (us ++ vs)) (hg : wr.grownBy w' pv.ownBlock) (hat : v'.ownBlock = pv.ownBlock ∨ v'.ownBlock = some wr.heap.size) : BrX w s ere w' at' op cv mv er pl (l ++ [d]) v' (us ++ vs) := by
 have hlow : ∀ k, pv.ownBlock = some k → w.heap.size + 3 ≤ k := own_of h.o.1
 refine ⟨Below.grown (w := _) h.b hg h.b.size (fun k hk => by have := hlow k hk; omega), h.k2.grown hg (fun k hk => by have := hlow k hk; omega), h.k4.grown hg (fun k hk => by have := hlow k hk; omega), h.k5.grown hg (fun k hk => by have := hlow k hk; omega), ?_⟩
 rw [List.map_append]
 exact h.o.push hm hown hg hat
theorem BrX.upd {w : World} {s : ByteArray} {ere : Bool} {wk W : World} {at' op at2 op2 : Nat} {cv mv cv2 mv2 : Value} {er pl er2 pl2 : Int} {l : List Nd} {pv : Value} {us : List Value} (h : BrX w s ere wk at' op cv mv er pl l pv us) (hB : Below w.heap.size w W) (hk2 : Blk W w.heap.size (rfC s ere at2 op2 cv2 mv2 er2 pl2) 87)
  (hs : ∀ b, b ≠ w.heap.size → W.heap[b]? = wk.heap[b]?) (hz : W.heap.size = wk.heap.size) : BrX w s ere W at2 op2 cv2 mv2 er2 pl2 l pv us :=
 ⟨hB, hk2, h.k4.same (hs _ (by omega)), h.k5.same (hs _ (by omega)), row_same2 h.o.1 (fun b hb => hs b (by have := own_of h.o.1 b hb; omega)), h.o.2.keep (by omega) (fun b hf _ => ⟨hf, fun o => World.cell?_of_block (w := wk) (a := ⟨b, o, none⟩) (hs b (by omega))⟩)⟩
theorem BrX.off {w : World} {s : ByteArray} {ere : Bool} {wr : World} {at' op : Nat} {cv mv : Value} {er pl : Int} {l : List Nd} {pv : Value} {us : List Value} (h : BrX w s ere wr at' op cv mv er pl l pv us) (b : Nat) (hb : b < w.heap.size + 3 ∨ wr.heap.size ≤ b) : OffV pv b := by
 intro e
 have h1 := own_of h.o.1 b e
 have h2 := town_lt h.o.1 b e
 omega
theorem BrX.nil {w : World} {s : ByteArray} {ere : Bool} {F : Nat → Prop} {wr : World} {st : ReSt} {cv mv : Value} (h : Fr F w s ere wr st cv mv) : BrX w s ere wr st.pos st.opened cv mv 0 0 [] (.slice none 0 0) [] :=
 ⟨h.b, h.k2, h.k4, h.k5, TOwn.nil _ _ _⟩
def OffF (F : Nat → Prop) (w : World) (pv : Value) (b : Nat) : Prop := ((F b ∧ b < w.heap.size) ∨ w.heap.size + 3 ≤ b) ∧ OffV pv b
theorem tjpart_cat {d : Nd} (h : inCat d = true) : tjpart (unc d) = [unc d] := by
 cases d <;> first | rfl | cases h
theorem tcpart_alt {d : Nd} (h : inAlt d = true) : tcpart (unc d) = [unc d] := by
 cases d <;> first | rfl | cases h
theorem tjflat_cat (l : List Nd) (h : l.all inCat = true) : (l.map unc).flatMap tjpart = l.map unc := by
 induction l with
 | nil => rfl
 | cons d ds ih =>
  rw [List.all_cons, Bool.and_eq_true] at h
  rw [List.map_cons, List.flatMap_cons, tjpart_cat h.1, ih h.2]
  rfl
theorem tcflat_alt (l : List Nd) (h : l.all inAlt = true) : (l.map unc).flatMap tcpart = l.map unc := by
 induction l with
 | nil => rfl
 | cons d ds ih =>
  rw [List.all_cons, Bool.and_eq_true] at h
  rw [List.map_cons, List.flatMap_cons, tcpart_alt h.1, ih h.2]
  rfl
theorem unc_njoin (l : List Nd) (h : l.all inCat = true) : tjoin (l.map unc) = unc (njoin l) ∧ inAlt (njoin l) = true := by
 unfold tjoin njoin
 rw [tjflat_cat l h, jflat_all l h]
 rcases l with _ | ⟨x, _ | ⟨y, ys⟩⟩
 ·exact ⟨rfl, rfl⟩
 ·refine ⟨rfl, ?_⟩
  simp at h
  exact cat_alt h
 ·refine ⟨?_, rfl⟩
  show Tr.mk 2 oz 0 0 0 ((x :: y :: ys).map unc) = .mk 2 oz 0 0 0 (uncs (x :: y :: ys))
  rw [uncs_map]
theorem unc_nchoose (l : List Nd) (h : l.all inAlt = true) : tchoose (l.map unc) = unc (nchoose l) := by
 unfold tchoose nchoose
 rw [tcflat_alt l h, cflat_all l h]
 rcases l with _ | ⟨x, _ | ⟨y, ys⟩⟩
 ·rfl
 ·rfl
 ·show Tr.mk 3 oz 0 0 0 ((x :: y :: ys).map unc) = .mk 3 oz 0 0 0 (uncs (x :: y :: ys))
  rw [uncs_map]
theorem BrX.ok {F : Nat → Prop} {C : Nd → Bool} {w : World} {s : ByteArray} {ere : Bool} {wr w8 w9 : World} {st : ReSt} {cv mv : Value} {pv : Value} {R : ReRes (ReSt × Nd)} {d : Nd} {a : Option Addr} {cap : Nat} (hr : RfR (OffF F w pv) wr s st cv mv) (h8 : Below wr.heap.size wr w8) (hR : R = .ok (st, d))
  (ht : TrX (fun b => w.heap.size + 3 ≤ b) w8 (unc d) a cap) (hb : Below w.heap.size w w9) (hs : ∀ b, b ≠ w.heap.size + 1 → b ≠ w.heap.size + 1 + 1 → w9.heap[b]? = w8.heap[b]?) (hz : w9.heap.size = w8.heap.size) :
  RfAns F (fun _ => False) C ere s R w (.returned (.tuple #[.agg (rfC s ere st.pos st.opened cv mv 0 0), .agg (tC (unc d) a cap)])) w9 := by
 subst hR
 have hc : ∀ b, (b < w.heap.size ∨ w.heap.size + 3 ≤ b) → ∀ o, w9.cell? ⟨b, o, none⟩ = w8.cell? ⟨b, o, none⟩ := fun b hb o => World.cell?_of_block (w := w8) (a := ⟨b, o, none⟩) (hs b (by omega) (by omega))
 refine ⟨hb, cv, mv, a, cap, rfl, (hr.below h8).keep (by omega) (fun b hf _ => ⟨?_, hc b ?_⟩), ht.keep (by omega) (fun b hf _ => ⟨.inr (by omega), hc b (.inr hf)⟩)⟩
 ·exact hf.1.elim (fun h => .inl h.1) (fun h => .inr (by omega))
 ·exact hf.1.elim (fun h => .inl h.2) .inr
theorem BrX.err {F : Nat → Prop} {C : Nd → Bool} {w : World} {s : ByteArray} {ere : Bool} {w8 w9 : World} {at' op : Nat} {cv mv : Value} {R : ReRes (ReSt × Nd)} {q : Nat × Nat} {d : Nd} {a : Option Addr} {cap : Nat} (hcv : ∃ a l c, cv = .slice a l c) (hmv : ∃ a l c, mv = .slice a l c) (hR : R = .error q) (hq : q.1 ≠ 0) (hC : C d = true)
  (ht : TrX (fun b => w.heap.size + 3 ≤ b) w8 (unc d) a cap) (hb : Below w.heap.size w w9) (hs : ∀ b, b ≠ w.heap.size + 1 → b ≠ w.heap.size + 1 + 1 → w9.heap[b]? = w8.heap[b]?) (hz : w9.heap.size = w8.heap.size) :
  RfAns F (fun _ => False) C ere s R w (.returned (.tuple #[.agg (rfC s ere at' op cv mv (q.1 : Int) (q.2 : Int)), .agg (tC (unc d) a cap)])) w9 := by
 subst hR
 have hc : ∀ b, (b < w.heap.size ∨ w.heap.size + 3 ≤ b) → ∀ o, w9.cell? ⟨b, o, none⟩ = w8.cell? ⟨b, o, none⟩ := fun b hb o => World.cell?_of_block (w := w8) (a := ⟨b, o, none⟩) (hs b (by omega) (by omega))
 exact ⟨hb, at', op, cv, mv, d, a, cap, rfl, hcv, hmv, hq, ht.keep (by omega) (fun b hf _ => ⟨.inr (by omega), hc b (.inr hf)⟩), hC⟩
end Go.Proofs.YtkejeiopfblkgaaGreatDoor
namespace Go.Proofs.YtkejeiopfblkgaaGreatDoor
open Go Go.RowKit
theorem marksC_at : ∀ (l : List (Nat × Nat)) (k : Nat) (h : k < l.length), (marksC l)[k * 2]? = some (.int .i64 (l[k].1 : Int)) ∧ (marksC l)[k * 2 + 1]? = some (.string ⟨#[92, UInt8.ofNat l[k].2]⟩)
 | [], _, h => absurd h (by simp)
 | m :: l, 0, _ => ⟨rfl, rfl⟩
 | m :: l, k + 1, h => by
  have ih := marksC_at l k (by simpa using h)
  have e : marksC (m :: l) = .int .i64 (m.1 : Int) :: .string ⟨#[92, UInt8.ofNat m.2]⟩ :: marksC l := rfl
  rw [e, show (k + 1) * 2 = k * 2 + 1 + 1 by omega]
  exact ih
set_option linter.unusedSimpArgs false in
set_option maxRecDepth 100000 in
set_option maxHeartbeats 4000000 in
/-- Marks: two rows of the same marks. -/
theorem lmarks_any {F G : Nat → Prop} (l : List (Nat × Nat)) (v1 v2 : Value) (w : World) (h1 : RowC F w 2 v1 l.length (marksC l)) (h2 : RowC G w 2 v2 l.length (marksC l)) (hl : l.length ≤ 1000) :
  Calls Tryz.prog 11 #[v1, v2] w fun e w' => e = .returned (.bool true) ∧ Below w.heap.size w w' := by
 obtain ⟨a1, c1, rfl, hx1, hc1⟩ := h1
 obtain ⟨a2, c2, rfl, hx2, hc2⟩ := h2
 have H1 := Lib.hid hc1
 have H2 := Lib.hid hc2
 have HL := Lib.hid hl
 clear hx1 hx2 hc1 hc2 hl
 go_enter Tryz.func11, Tryz.ntmps11
 go_wp2_with fail
 go_loopw [14] (fun i wr => ∃ k : Nat, k ≤ l.length ∧ i = .int .i64 k ∧ Below w.heap.size w wr) (fun i _ => l.length - (intOf i).toNat)
 case atStart => exact ⟨0, by omega, rfl, Below.refl _ _⟩
 case round =>
  obtain ⟨k, hk, rfl, hW⟩ := hrel
  have hl1 := HL.out
  by_cases hlt : k < l.length
  ·obtain ⟨g1, e1, _, hg1, hx1⟩ := H1.out (by omega)
   obtain ⟨g2, e2, _, hg2, hx2⟩ := H2.out (by omega)
   subst e1 e2
   obtain ⟨m1, m2⟩ := marksC_at l k hlt
   have y1 := (hW.cell (p := ⟨g1, k * 2, none⟩) hg1).trans (hx1 _ _ m1)
   have y2 := (hW.cell (p := ⟨g1, k * 2 + 1, none⟩) hg1).trans (hx1 _ _ m2)
   have z1 := (hW.cell (p := ⟨g2, k * 2, none⟩) hg2).trans (hx2 _ _ m1)
   have z2 := (hW.cell (p := ⟨g2, k * 2 + 1, none⟩) hg2).trans (hx2 _ _ m2)
   have hlw1 : g1 < wr.heap.size := Nat.lt_of_lt_of_le hg1 hW.size
   have hlw2 : g2 < wr.heap.size := Nat.lt_of_lt_of_le hg2 hW.size
   have Wk : IntKind.i64.wrap ((k : Int) + 1) = ((k + 1 : Nat) : Int) := by rw [IntWalk.i64_in _ (by omega)]; omega
   generalize l[k].1 = p at *
   generalize (⟨#[92, UInt8.ofNat l[k].2]⟩ : ByteArray) = t at *
   have HW := Lib.hid (hW.alloc hW.size (.cells #[.int .i64 (p : Int), .string t] 69))
   clear m1 m2 hx1 hx2 hW
   go_wp2_with fail
   go_quiet (fail)
   have HWq := Lib.hid (HW.out.trans ((below_drewN (Below.refl _ _) nq).mono HW.out.size))
   go_wp2_with fail
   go_roundw
   case rel => exact ⟨k + 1, by omega, by go_num, HWq.out⟩
   case measure => simp [intOf]; omega
  ·obtain rfl : k = l.length := by omega
   go_wp2_with fail
   go_ret
   exact ⟨rfl, hW⟩
end Go.Proofs.YtkejeiopfblkgaaGreatDoor
namespace Go.Proofs.YtkejeiopfblkgaaGreatDoor
def lvS (ere : Bool) (s : List UInt8) : Nat → Option (ReSt → ReRes (ReSt × Nd))
 | 0 => none
 | k + 1 => some (regM ere s k)
theorem reg_lvS (ere : Bool) (s : List UInt8) (k : Nat) (st : ReSt) : regM ere s k st = choiceM ere s (lvS ere s k) false (s.length + 1) st [] := by cases k <;> rfl
theorem lvS_mv (ere : Bool) (s : List UInt8) (k : Nat) : SubMv s (lvS ere s k) := by
 cases k with
 | zero => exact fun f hf => (by cases hf)
 | succ k => exact fun f hf => (by injection hf with hf; subst hf; exact reg_mv ere s k)
end Go.Proofs.YtkejeiopfblkgaaGreatDoor
namespace Go.Proofs.YtkejeiopfblkgaaGreatDoor
open Go Go.RowKit
def RAtOk (ere : Bool) (s : ByteArray) (sub : Option (ReSt → ReRes (ReSt × Nd))) (dp : Nat) : Prop := ∀ (F : Nat → Prop) (st : ReSt) (cv mv : Value) (w : World), RfR F w s st cv mv → st.pos < s.size → Calls Tryz.prog 78 #[.agg (rfC s ere st.pos st.opened cv mv 0 0), .int .i64 (dp : Int)] w (RfAns F (fun _ => False) (fun _ => true) ere s (atomM ere s.data.toList sub st) w)
theorem atom_cat (ere : Bool) (s : List UInt8) (sub : Option (ReSt → ReRes (ReSt × Nd))) (st st' : ReSt) (d : Nd) (h : atomM ere s sub st = .ok (st', d)) : inCat d = true := by
 unfold atomM grpM escM at h
 repeat' split at h
 all_goals first
  | (cases h; done)
  | (injection h with h; injection h with _ h2; subst h2; rfl)
theorem rep_cat (ere : Bool) (s : List UInt8) : ∀ (n : Nat) (st : ReSt) (d : Nd) (st' : ReSt) (d' : Nd), inCat d = true → repM ere s n st d = .ok (st', d') → inCat d' = true
 | 0, _, _, _, _, _, h => by cases h
 | n + 1, st, d, st', d', hd, h => by
  rw [repM] at h
  split at h
  ·injection h with h; injection h with _ h2; subst h2; exact hd
  ·cases h
  ·exact rep_cat ere s n _ _ _ _ rfl h
structure BrY (F : Nat → Prop) (w : World) (s : ByteArray) (ere : Bool) (wr : World) (st : ReSt) (cv mv : Value) (l : List Nd) (pv : Value) (us : List Value) : Prop where
 x : BrX w s ere wr st.pos st.opened cv mv 0 0 l pv us
 r : RfR (OffF F w pv) wr s st cv mv
theorem BrY.step {F : Nat → Prop} {w : World} {s : ByteArray} {ere : Bool} {wr w' : World} {st : ReSt} {cv mv : Value} {l : List Nd} {pv : Value} {us : List Value} (h : BrY F w s ere wr st cv mv l pv us) (hb : Below wr.heap.size wr w') : BrY F w s ere w' st cv mv l pv us := ⟨h.x.step hb, h.r.below hb⟩
theorem BrY.begin {F : Nat → Prop} {w : World} {s : ByteArray} {ere : Bool} {st : ReSt} {cv mv : Value} (hR : RfR F w s st cv mv) :
  BrY F w s ere (((w.alloc (.cells (rfC s ere st.pos st.opened cv mv 0 0) 87)).alloc (.cells rfZ 87)).alloc (.cells zC 36)) st cv mv [] (.slice none 0 0) [] := by
 have h := Fr.begin (ere := ere) hR
 exact ⟨BrX.nil h, h.r.keep (Nat.le_refl _) (fun b hf _ => ⟨⟨hf, fun e => by cases e⟩, fun _ => rfl⟩)⟩
theorem BrX.back {F : Nat → Prop} {w : World} {s : ByteArray} {ere : Bool} {wr wk : World} {at' op : Nat} {cv mv : Value} {er pl : Int} {l : List Nd} {pv : Value} {us : List Value} (h : BrX w s ere wr at' op cv mv er pl l pv us) {st2 : ReSt} {cv2 mv2 : Value} (hr : RfR (fun b => OffF F w pv b ∨ wr.heap.size ≤ b) wk s st2 cv2 mv2) : RfR (OffF F w pv) wk s st2 cv2 mv2 :=
 hr.keep (Nat.le_refl _) (fun b hf _ => ⟨hf.elim id (fun hb => ⟨.inr (by have := h.k5.lt; omega), h.off b (.inr hb)⟩), fun _ => rfl⟩)
theorem BrX.put {F : Nat → Prop} {w : World} {s : ByteArray} {ere : Bool} {wk W : World} {at' op : Nat} {st2 : ReSt} {cv mv cv2 mv2 : Value} {er pl : Int} {l : List Nd} {pv : Value} {us : List Value} (h : BrX w s ere wk at' op cv mv er pl l pv us) (hr : RfR (OffF F w pv) wk s st2 cv2 mv2) (hB : Below w.heap.size w W) (hk2 : Blk W w.heap.size (rfC s ere st2.pos st2.opened cv2 mv2 0 0) 87)
  (hs : ∀ b, b ≠ w.heap.size → W.heap[b]? = wk.heap[b]?) (hz : W.heap.size = wk.heap.size) : BrY F w s ere W st2 cv2 mv2 l pv us :=
 ⟨h.upd hB hk2 hs hz, hr.keep (by omega) (fun b hf _ => ⟨hf, fun o => World.cell?_of_block (w := wk) (a := ⟨b, o, none⟩) (hs b (by have := hf.1; omega))⟩)⟩
theorem BrY.grow {F : Nat → Prop} {w : World} {s : ByteArray} {ere : Bool} {wr w' : World} {st : ReSt} {cv mv : Value} {l : List Nd} {pv v' : Value} {us : List Value} {d : Nd} {a : Option Addr} {cap : Nat} (h : BrY F w s ere wr st cv mv l pv us) (ht : TrX (fun b => w.heap.size + 3 ≤ b ∧ OffV pv b) wr (unc d) a cap)
  (hown : w'.ownsRow (w.heap.size + 3) 36 9 v' ((l.map unc).length + 1) (us ++ (tC (unc d) a cap).toList)) (hg : (wr.alloc (.cells (tC (unc d) a cap) 36)).grownBy w' pv.ownBlock) (hat : v'.ownBlock = pv.ownBlock ∨ v'.ownBlock = some (wr.alloc (.cells (tC (unc d) a cap) 36)).heap.size) :
  BrY F w s ere w' st cv mv (l ++ [d]) v' (us ++ (tC (unc d) a cap).toList) := by
 have hA := (Below.refl wr.heap.size wr).alloc (Nat.le_refl _) (.cells (tC (unc d) a cap) 36)
 have h2 := h.step hA
 have hx := h2.x.add (Chunks.single (ht.below hA)) hown hg hat
 exact ⟨hx, h2.r.keep hg.size (off_keep hg hat)⟩
theorem RfAns.any {F FT : Nat → Prop} {C : Nd → Bool} {ere : Bool} {s : ByteArray} {r : ReRes (ReSt × Nd)} {w : World} {e : Ending} {w' : World} (h : RfAns F FT C ere s r w e w') :
  ∃ (at' op : Nat) (cv mv : Value) (er pl : Int) (d : Nd) (a : Option Addr) (cap : Nat), e = .returned (.tuple #[.agg (rfC s ere at' op cv mv er pl), .agg (tC (unc d) a cap)]) ∧ (∃ a n c, cv = .slice a n c) ∧ (∃ a n c, mv = .slice a n c) ∧ TrX (fun b => FT b ∨ w.heap.size ≤ b) w' (unc d) a cap ∧ Below w.heap.size w w' ∧
   ((∃ q : ReSt × Nd, r = .ok q ∧ d = q.2 ∧ er = 0 ∧ pl = 0 ∧ at' = q.1.pos ∧ op = q.1.opened ∧ RfR (fun b => F b ∨ w.heap.size ≤ b) w' s q.1 cv mv) ∨ ∃ q : Nat × Nat, r = .error q ∧ q.1 ≠ 0 ∧ er = (q.1 : Int) ∧ pl = (q.2 : Int) ∧ C d = true) := by
 cases r with
 | error q =>
  obtain ⟨h1, at', op, cv, mv, d, a, cap, h2, h3, h4, h5, h6, h7⟩ := h
  exact ⟨at', op, cv, mv, _, _, d, a, cap, h2, h3, h4, h6, h1, .inr ⟨q, rfl, h5, rfl, rfl, h7⟩⟩
 | ok q =>
  obtain ⟨h1, cv, mv, a, cap, h2, h3, h4⟩ := h
  exact ⟨_, _, cv, mv, 0, 0, q.2, a, cap, h2, h3.c.form, h3.m.form, h4, h1, .inl ⟨q, rfl, rfl, rfl, rfl, rfl, rfl, h3⟩⟩
theorem tc_start : tC (unc .start) none 0 = #[.int .i64 7, .int .u64 0, .int .u64 0, .int .u64 0, .int .u64 0, .slice none 0 0, .int .i64 0, .int .i64 0, .int .i64 0] := by simp [unc, Tr.kind, Tr.set, Tr.parts, Tr.mn, Tr.mx, Tr.num, ow_zero]
theorem tc_fin : tC (unc .fin) none 0 = #[.int .i64 8, .int .u64 0, .int .u64 0, .int .u64 0, .int .u64 0, .slice none 0 0, .int .i64 0, .int .i64 0, .int .i64 0] := by simp [unc, Tr.kind, Tr.set, Tr.parts, Tr.mn, Tr.mx, Tr.num, ow_zero]
theorem BrY.leaf {F : Nat → Prop} {w : World} {s : ByteArray} {ere : Bool} {wr w' : World} {st : ReSt} {cv mv : Value} {l : List Nd} {pv v' : Value} {us : List Value} {d : Nd} {cs : Array Value} (h : BrY F w s ere wr st cv mv l pv us) (hd : (unc d).parts = []) (hc : tC (unc d) none 0 = cs)
  (hown : w'.ownsRow (w.heap.size + 3) 36 9 v' (l.length + 1) (us ++ cs.toList)) (hg : (wr.alloc (.cells cs 36)).grownBy w' pv.ownBlock) (hat : v'.ownBlock = pv.ownBlock ∨ v'.ownBlock = some (wr.alloc (.cells cs 36)).heap.size) :
  BrY F w s ere w' st cv mv (l ++ [d]) v' (us ++ cs.toList) := by
 subst hc
 exact h.grow (trx_leaf hd) (by rw [List.length_map]; exact hown) hg hat
theorem news_leaf (w : World) (d : Nd) (cs : Array Value) (hc : tC (unc d) none 0 = cs) : ∀ j u, cs.toList[j]? = some u → (w.alloc (.cells cs 36)).cell? ((⟨w.heap.size, 0, none⟩ : Addr).add j) = some u := by
 subst hc
 exact news_new w (unc d) none 0 _ _ rfl
theorem BrX.jump {w : World} {s : ByteArray} {ere : Bool} {wk W : World} {at' op at2 op2 : Nat} {cv mv cv2 mv2 : Value} {er pl er2 pl2 : Int} {l : List Nd} {pv : Value} {us : List Value} (h : BrX w s ere wk at' op cv mv er pl l pv us) (hB : Below w.heap.size w W) (hk2 : Blk W w.heap.size (rfC s ere at2 op2 cv2 mv2 er2 pl2) 87)
  (hs : ∀ b, b < wk.heap.size → b ≠ w.heap.size → W.heap[b]? = wk.heap[b]?) (hz : wk.heap.size ≤ W.heap.size) : BrX w s ere W at2 op2 cv2 mv2 er2 pl2 l pv us :=
 ⟨hB, hk2, h.k4.same (hs _ h.k4.lt (by omega)), h.k5.same (hs _ h.k5.lt (by omega)), row_same2 h.o.1 (fun b hb => hs b (town_lt h.o.1 b hb) (by have := own_of h.o.1 b hb; omega)), h.o.2.keep hz (fun b hf hlt => ⟨hf, fun o => World.cell?_of_block (w := wk) (a := ⟨b, o, none⟩) (hs b hlt (by have := hf.1; omega))⟩)⟩
theorem BrX.addn {w : World} {s : ByteArray} {ere : Bool} {wr w' : World} {at' op : Nat} {cv mv : Value} {er pl : Int} {l : List Nd} {pv v' : Value} {us : List Value} {d : Nd} {a : Option Addr} {cap : Nat} (h : BrX w s ere wr at' op cv mv er pl l pv us) (ht : TrX (fun b => w.heap.size + 3 ≤ b ∧ OffV pv b) wr (unc d) a cap)
  (hown : w'.ownsRow (w.heap.size + 3) 36 9 v' (l.length + 1) (us ++ (tC (unc d) a cap).toList)) (hg : (wr.alloc (.cells (tC (unc d) a cap) 36)).grownBy w' pv.ownBlock) (hat : v'.ownBlock = pv.ownBlock ∨ v'.ownBlock = some (wr.alloc (.cells (tC (unc d) a cap) 36)).heap.size) :
  BrX w s ere w' at' op cv mv er pl (l ++ [d]) v' (us ++ (tC (unc d) a cap).toList) ∧ ∀ (F : Nat → Prop) (st : ReSt) (cv2 mv2 : Value), RfR (OffF F w pv) wr s st cv2 mv2 → RfR (OffF F w v') w' s st cv2 mv2 := by
 have hA := (Below.refl wr.heap.size wr).alloc (Nat.le_refl _) (.cells (tC (unc d) a cap) 36)
 have h2 := h.step hA
 exact ⟨h2.add (Chunks.single (ht.below hA)) (by rw [List.length_map]; exact hown) hg hat, fun F st cv2 mv2 hr => (hr.below hA).keep hg.size (off_keep hg hat)⟩
def BrDone (F : Nat → Prop) (w : World) (s : ByteArray) (ere : Bool) (R : ReRes (ReSt × Nd)) (pv : Value) (wx : World) : Prop :=
 ∃ (at' op : Nat) (cv mv : Value) (er pl : Int) (l : List Nd) (us : List Value), BrX w s ere wx at' op cv mv er pl l pv us ∧ l.all inCat = true ∧ l.length ≤ 300 ∧ (∃ a n c, cv = .slice a n c) ∧ (∃ a n c, mv = .slice a n c) ∧
  ((er = 0 ∧ pl = 0 ∧ ∃ st : ReSt, st.pos = at' ∧ st.opened = op ∧ RfR (OffF F w pv) wx s st cv mv ∧ R = .ok (st, njoin l)) ∨ ∃ q : Nat × Nat, R = .error q ∧ q.1 ≠ 0 ∧ er = (q.1 : Int) ∧ pl = (q.2 : Int))
def BrLp (F : Nat → Prop) (w : World) (s : ByteArray) (ere : Bool) (sub : Option (ReSt → ReRes (ReSt × Nd))) (top : Bool) (beg : Nat) (R : ReRes (ReSt × Nd)) (pv f8 : Value) (wx : World) : Prop :=
 (∃ (m : Nat) (st : ReSt) (cv mv : Value) (l : List Nd) (us : List Value) (front : Bool), f8 = .bool front ∧ R = branchM ere s.data.toList sub top beg m st l front ∧ s.size < m + st.pos ∧ l.all inCat = true ∧ l.length ≤ st.pos ∧ BrY F w s ere wx st cv mv l pv us) ∨
 (∃ (at' op : Nat) (cv mv : Value) (l : List Nd) (us : List Value) (q : Nat × Nat), BrX w s ere wx at' op cv mv (q.1 : Int) (q.2 : Int) l pv us ∧ l.all inCat = true ∧ l.length ≤ 300 ∧ (∃ a n c, cv = .slice a n c) ∧ (∃ a n c, mv = .slice a n c) ∧ R = .error q ∧ q.1 ≠ 0)
theorem BrY.done {F : Nat → Prop} {w : World} {s : ByteArray} {ere : Bool} {R : ReRes (ReSt × Nd)} {wr : World} {st : ReSt} {cv mv : Value} {l : List Nd} {pv : Value} {us : List Value} (h : BrY F w s ere wr st cv mv l pv us) (ha : l.all inCat = true) (hl : l.length ≤ 300) (hR : R = .ok (st, njoin l)) : BrDone F w s ere R pv wr :=
 ⟨_, _, cv, mv, 0, 0, l, us, h.x, ha, hl, h.r.c.form, h.r.m.form, .inl ⟨rfl, rfl, st, rfl, rfl, h.r, hR⟩⟩
theorem BrX.failed {F : Nat → Prop} {w : World} {s : ByteArray} {ere : Bool} {R : ReRes (ReSt × Nd)} {wr : World} {at' op : Nat} {cv mv : Value} {q : Nat × Nat} {l : List Nd} {pv : Value} {us : List Value} (h : BrX w s ere wr at' op cv mv (q.1 : Int) (q.2 : Int) l pv us) (ha : l.all inCat = true) (hl : l.length ≤ 300) (hc : ∃ a n c, cv = .slice a n c) (hm : ∃ a n c, mv = .slice a n c) (hR : R = .error q) (hq : q.1 ≠ 0) : BrDone F w s ere R pv wr :=
 ⟨_, _, cv, mv, _, _, l, us, h, ha, hl, hc, hm, .inr ⟨q, hR, hq, rfl, rfl⟩⟩
def brMu (w : World) (s : ByteArray) (wr : World) : Nat := if intOf ((wr.cell? ⟨w.heap.size, 6, none⟩).getD undef) = 0 then s.size + 1 - (intOf ((wr.cell? ⟨w.heap.size, 2, none⟩).getD undef)).toNat else 0
theorem BrX.mu {w : World} {s : ByteArray} {ere : Bool} {wr : World} {at' op : Nat} {cv mv : Value} {er pl : Int} {l : List Nd} {pv : Value} {us : List Value} (h : BrX w s ere wr at' op cv mv er pl l pv us) : brMu w s wr = if er = 0 then s.size + 1 - at' else 0 := by
 obtain ⟨_, _, c2, _, _, _, c6, _⟩ := blk8 h.k2
 unfold brMu
 rw [c2, c6]
 by_cases h0 : er = 0 <;> simp [h0, intOf]
end Go.Proofs.YtkejeiopfblkgaaGreatDoor
