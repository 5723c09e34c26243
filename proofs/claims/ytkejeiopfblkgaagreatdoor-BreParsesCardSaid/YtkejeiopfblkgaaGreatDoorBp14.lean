/- The proof's texts RfP, RfQ: what the claim reaches of them. -/
import Derived.Test.YtkejeiopfblkgaaGreatDoorBp08
import Derived.Test.YtkejeiopfblkgaaGreatDoorBp12
import Derived.Test.YtkejeiopfblkgaaGreatDoorBp13
import Derived.BigRegion
import Derived.Deep.RegionHeld3
namespace Go.Proofs.YtkejeiopfblkgaaGreatDoor
open Go Go.RowKit
theorem blk8 {w : World} {b : Nat} {T : TypeId} {v0 v1 v2 v3 v4 v5 v6 v7 : Value} (h : Blk w b #[v0, v1, v2, v3, v4, v5, v6, v7] T) :
  w.cell? ⟨b, 0, none⟩ = some v0 ∧ w.cell? ⟨b, 1, none⟩ = some v1 ∧ w.cell? ⟨b, 2, none⟩ = some v2 ∧ w.cell? ⟨b, 3, none⟩ = some v3 ∧ w.cell? ⟨b, 4, none⟩ = some v4 ∧ w.cell? ⟨b, 5, none⟩ = some v5 ∧ w.cell? ⟨b, 6, none⟩ = some v6 ∧ w.cell? ⟨b, 7, none⟩ = some v7 ∧
  w.frozen? ⟨b, 0, none⟩ = false ∧ w.frozen? ⟨b, 1, none⟩ = false ∧ w.frozen? ⟨b, 2, none⟩ = false ∧ w.frozen? ⟨b, 3, none⟩ = false ∧ w.frozen? ⟨b, 4, none⟩ = false ∧ w.frozen? ⟨b, 5, none⟩ = false ∧ w.frozen? ⟨b, 6, none⟩ = false ∧ w.frozen? ⟨b, 7, none⟩ = false ∧ b < w.heap.size :=
 ⟨(h.cell 0).trans rfl, (h.cell 1).trans rfl, (h.cell 2).trans rfl, (h.cell 3).trans rfl, (h.cell 4).trans rfl, (h.cell 5).trans rfl, (h.cell 6).trans rfl, (h.cell 7).trans rfl,
  h.frozen 0, h.frozen 1, h.frozen 2, h.frozen 3, h.frozen 4, h.frozen 5, h.frozen 6, h.frozen 7, h.lt⟩
theorem blk9n {w : World} {b : Nat} {T : TypeId} {v0 v1 v2 v3 v4 v5 v6 v7 v8 : Value} (h : Blk w b #[v0, v1, v2, v3, v4, v5, v6, v7, v8] T) :
  w.cell? ⟨b, 0, none⟩ = some v0 ∧ w.cell? ⟨b, 1, none⟩ = some v1 ∧ w.cell? ⟨b, 2, none⟩ = some v2 ∧ w.cell? ⟨b, 3, none⟩ = some v3 ∧ w.cell? ⟨b, 4, none⟩ = some v4 ∧ w.cell? ⟨b, 5, none⟩ = some v5 ∧ w.cell? ⟨b, 6, none⟩ = some v6 ∧ w.cell? ⟨b, 7, none⟩ = some v7 ∧ w.cell? ⟨b, 8, none⟩ = some v8 ∧
  w.frozen? ⟨b, 0, none⟩ = false ∧ w.frozen? ⟨b, 1, none⟩ = false ∧ w.frozen? ⟨b, 2, none⟩ = false ∧ w.frozen? ⟨b, 3, none⟩ = false ∧ w.frozen? ⟨b, 4, none⟩ = false ∧ w.frozen? ⟨b, 5, none⟩ = false ∧ w.frozen? ⟨b, 6, none⟩ = false ∧ w.frozen? ⟨b, 7, none⟩ = false ∧ w.frozen? ⟨b, 8, none⟩ = false ∧ b < w.heap.size :=
 ⟨(h.cell 0).trans rfl, (h.cell 1).trans rfl, (h.cell 2).trans rfl, (h.cell 3).trans rfl, (h.cell 4).trans rfl, (h.cell 5).trans rfl, (h.cell 6).trans rfl, (h.cell 7).trans rfl, (h.cell 8).trans rfl,
  h.frozen 0, h.frozen 1, h.frozen 2, h.frozen 3, h.frozen 4, h.frozen 5, h.frozen 6, h.frozen 7, h.frozen 8, h.lt⟩
theorem Blk.eqv {w : World} {b : Nat} {T : TypeId} {cs cs' : Array Value} (h : Blk w b cs T) (e : cs = cs') : Blk w b cs' T := e ▸ h
theorem Blk.same {w w' : World} {b : Nat} {T : TypeId} {cs : Array Value} (h : Blk w b cs T) (e : w'.heap[b]? = w.heap[b]?) : Blk w' b cs T := by unfold Blk at h ⊢; rw [e]; exact h
theorem put8 {w0 w : World} {p : Nat} {T : TypeId} {u0 u1 u2 u3 u4 u5 u6 u7 : Value} (hb : Below w0.heap.size w0 w) (hp : w0.heap.size ≤ p) (h : Blk w p #[u0, u1, u2, u3, u4, u5, u6, u7] T) (v0 v1 v2 v3 v4 v5 v6 v7 : Value) (w' : World)
  (hw : ((((((((w.setCell ⟨p, 0, none⟩ v0).setCell ⟨p, 1, none⟩ v1).setCell ⟨p, 2, none⟩ v2).setCell ⟨p, 3, none⟩ v3).setCell ⟨p, 4, none⟩ v4).setCell ⟨p, 5, none⟩ v5).setCell ⟨p, 6, none⟩ v6).setCell ⟨p, 7, none⟩ v7) = w') :
  Below w0.heap.size w0 w' ∧ Blk w' p #[v0, v1, v2, v3, v4, v5, v6, v7] T ∧ (∀ b, b ≠ p → w'.heap[b]? = w.heap[b]?) ∧ w'.heap.size = w.heap.size := by
 subst hw
 have h9 := (((((((h.set 0 v0).set 1 v1).set 2 v2).set 3 v3).set 4 v4).set 5 v5).set 6 v6).set 7 v7
 have o1 : ∀ (w : World) (j : Nat) (v : Value) b, b ≠ p → (w.setCell ⟨p, j, none⟩ v).heap[b]? = w.heap[b]? := fun w j v b hb => Below.heap_setCell _ _ _ _ (fun e => hb e)
 refine ⟨?_, h9.eqv (by simp), fun b hb => ?_, by simp [World.setCell]⟩
 ·exact (((((((hb.setCell (p := ⟨p, 0, none⟩) hp v0).setCell (p := ⟨p, 1, none⟩) hp v1).setCell (p := ⟨p, 2, none⟩) hp v2).setCell (p := ⟨p, 3, none⟩) hp v3).setCell (p := ⟨p, 4, none⟩) hp v4).setCell (p := ⟨p, 5, none⟩) hp v5).setCell (p := ⟨p, 6, none⟩) hp v6).setCell (p := ⟨p, 7, none⟩) hp v7
 ·rw [o1 _ _ _ _ hb, o1 _ _ _ _ hb, o1 _ _ _ _ hb, o1 _ _ _ _ hb, o1 _ _ _ _ hb, o1 _ _ _ _ hb, o1 _ _ _ _ hb, o1 _ _ _ _ hb]
theorem put9n {w0 w : World} {p : Nat} {T : TypeId} {u0 u1 u2 u3 u4 u5 u6 u7 u8 : Value} (hb : Below w0.heap.size w0 w) (hp : w0.heap.size ≤ p) (h : Blk w p #[u0, u1, u2, u3, u4, u5, u6, u7, u8] T) (v0 v1 v2 v3 v4 v5 v6 v7 v8 : Value) (w' : World)
  (hw : (((((((((w.setCell ⟨p, 0, none⟩ v0).setCell ⟨p, 1, none⟩ v1).setCell ⟨p, 2, none⟩ v2).setCell ⟨p, 3, none⟩ v3).setCell ⟨p, 4, none⟩ v4).setCell ⟨p, 5, none⟩ v5).setCell ⟨p, 6, none⟩ v6).setCell ⟨p, 7, none⟩ v7).setCell ⟨p, 8, none⟩ v8) = w') :
  Below w0.heap.size w0 w' ∧ Blk w' p #[v0, v1, v2, v3, v4, v5, v6, v7, v8] T ∧ (∀ b, b ≠ p → w'.heap[b]? = w.heap[b]?) ∧ w'.heap.size = w.heap.size := by
 subst hw
 have h9 := ((((((((h.set 0 v0).set 1 v1).set 2 v2).set 3 v3).set 4 v4).set 5 v5).set 6 v6).set 7 v7).set 8 v8
 have o1 : ∀ (w : World) (j : Nat) (v : Value) b, b ≠ p → (w.setCell ⟨p, j, none⟩ v).heap[b]? = w.heap[b]? := fun w j v b hb => Below.heap_setCell _ _ _ _ (fun e => hb e)
 refine ⟨?_, h9.eqv (by simp), fun b hb => ?_, by simp [World.setCell]⟩
 ·exact ((((((((hb.setCell (p := ⟨p, 0, none⟩) hp v0).setCell (p := ⟨p, 1, none⟩) hp v1).setCell (p := ⟨p, 2, none⟩) hp v2).setCell (p := ⟨p, 3, none⟩) hp v3).setCell (p := ⟨p, 4, none⟩) hp v4).setCell (p := ⟨p, 5, none⟩) hp v5).setCell (p := ⟨p, 6, none⟩) hp v6).setCell (p := ⟨p, 7, none⟩) hp v7).setCell (p := ⟨p, 8, none⟩) hp v8
 ·rw [o1 _ _ _ _ hb, o1 _ _ _ _ hb, o1 _ _ _ _ hb, o1 _ _ _ _ hb, o1 _ _ _ _ hb, o1 _ _ _ _ hb, o1 _ _ _ _ hb, o1 _ _ _ _ hb, o1 _ _ _ _ hb]
theorem put4 {w0 w : World} {p : Nat} {T : TypeId} {u0 u1 u2 u3 : Value} (hb : Below w0.heap.size w0 w) (hp : w0.heap.size ≤ p) (h : Blk w p #[u0, u1, u2, u3] T) (v0 v1 v2 v3 : Value) (w' : World)
  (hw : ((((w.setCell ⟨p, 0, none⟩ v0).setCell ⟨p, 1, none⟩ v1).setCell ⟨p, 2, none⟩ v2).setCell ⟨p, 3, none⟩ v3) = w') :
  Below w0.heap.size w0 w' ∧ Blk w' p #[v0, v1, v2, v3] T ∧ (∀ b, b ≠ p → w'.heap[b]? = w.heap[b]?) ∧ w'.heap.size = w.heap.size := by
 subst hw
 have h9 := (((h.set 0 v0).set 1 v1).set 2 v2).set 3 v3
 have o1 : ∀ (w : World) (j : Nat) (v : Value) b, b ≠ p → (w.setCell ⟨p, j, none⟩ v).heap[b]? = w.heap[b]? := fun w j v b hb => Below.heap_setCell _ _ _ _ (fun e => hb e)
 refine ⟨?_, h9.eqv (by simp), fun b hb => ?_, by simp [World.setCell]⟩
 ·exact (((hb.setCell (p := ⟨p, 0, none⟩) hp v0).setCell (p := ⟨p, 1, none⟩) hp v1).setCell (p := ⟨p, 2, none⟩) hp v2).setCell (p := ⟨p, 3, none⟩) hp v3
 ·rw [o1 _ _ _ _ hb, o1 _ _ _ _ hb, o1 _ _ _ _ hb, o1 _ _ _ _ hb]
theorem rop_f (s : ByteArray) (at' op : Nat) (cv mv : Value) (er pl : Int) (b : UInt8) (w : World) :
  Calls Tryz.prog 57 #[.agg (rfC s false at' op cv mv er pl), .string ⟨#[b]⟩] w fun e w' => e = .returned (.string ⟨#[92, b]⟩) ∧ Below w.heap.size w w' :=
 (rop_any s false at' op cv mv er pl b w).mono fun _ _ ⟨t, h1, h2, h3⟩ => ⟨by rw [h1, ba_ext (s := t) (t := ⟨#[92, b]⟩) (by rw [h2]; rfl)], h3⟩
theorem sgn_end {s : List UInt8} {k : Nat} {t : ByteArray} (h : t.data.toList = signL s k) : t.toList = [] ↔ s.length ≤ k := by
 rw [ByteArray.toList_eq, h]
 unfold signL
 split
 ·simp [*]
 ·split <;> simp [*]
theorem sgn_ch {s : List UInt8} {k : Nat} {t : ByteArray} (h : t.data.toList = signL s k) (b : UInt8) (hb : b ≠ 92) : t.toList = [b] ↔ chAt s k b.toNat = true := by
 rw [ByteArray.toList_eq, h]
 have hb' : ¬ (b.toNat = 92) := fun e => hb (by rw [← UInt8.toNat_inj, e]; rfl)
 unfold signL chAt
 split
 ·rename_i h1; simp; intro h2; omega
 ·rename_i h1
  rw [decide_eq_true (show k < s.length by omega)]
  split
  ·rename_i h2
   simp
   rw [h2.1]
   exact fun e => hb' e.symm
  ·unfold byt
   simp [← UInt8.toNat_inj]
theorem sgn_es {s : List UInt8} {k : Nat} {t : ByteArray} (h : t.data.toList = signL s k) (b : UInt8) : t.toList = [92, b] ↔ esAt s k b.toNat = true := by
 rw [ByteArray.toList_eq, h]
 unfold signL esAt
 split
 ·rename_i h1; simp; intro h2; omega
 ·rename_i h1
  split
  ·rename_i h2
   rw [decide_eq_true h2.2, decide_eq_true h2.1]
   have h3 := h2.1
   unfold byt at h3 ⊢
   simp [← UInt8.toNat_inj]
   exact fun _ => h3
  ·rename_i h2
   simp
   intro h3 h4
   exact absurd ⟨h4, h3⟩ h2
theorem sgn_ne {t : ByteArray} {l : List UInt8} (h : ¬ t.toList = l) : (t.toList == l) = false := by rw [beq_eq_false_iff_ne]; exact h
theorem sgn_no_ch {s : List UInt8} {k : Nat} {t : ByteArray} (h : t.data.toList = signL s k) (b : UInt8) (hb : b ≠ 92) (hc : chAt s k b.toNat = false) : (t.toList == [b]) = false ∧ ¬ t.toList = [b] := by
 have h1 : ¬ t.toList = [b] := fun e => by rw [(sgn_ch h b hb).1 e] at hc; cases hc
 exact ⟨sgn_ne h1, h1⟩
theorem sgn_no_es {s : List UInt8} {k : Nat} {t : ByteArray} (h : t.data.toList = signL s k) (b : UInt8) (hc : esAt s k b.toNat = false) : (t.toList == [92, b]) = false ∧ ¬ t.toList = [92, b] := by
 have h1 : ¬ t.toList = [92, b] := fun e => by rw [(sgn_es h b).1 e] at hc; cases hc
 exact ⟨sgn_ne h1, h1⟩
theorem sgn_no_end {s : List UInt8} {k : Nat} {t : ByteArray} (h : t.data.toList = signL s k) (hc : ¬ s.length ≤ k) : t.toList.isEmpty = false ∧ ¬ t.toList = [] := by
 have h1 : ¬ t.toList = [] := fun e => hc ((sgn_end h).1 e)
 exact ⟨by cases hl : t.toList with
  | nil => exact absurd hl h1
  | cons a l => rfl, h1⟩
set_option linter.unusedSimpArgs false in
set_option maxRecDepth 100000 in
set_option maxHeartbeats 4000000 in
/-- Where a branch of a basic regex ends, as a $ asks. -/
theorem rends_any (s : ByteArray) (at' op : Nat) (cv mv : Value) (er pl : Int) (k : Nat) (d : Int) (w : World) (hk : k ≤ 260) :
  Calls Tryz.prog 76 #[.agg (rfC s false at' op cv mv er pl), .int .i64 (k : Int), .int .i64 d] w fun e w' => e = .returned (.bool (endsAt s.data.toList k)) ∧ Below w.heap.size w w' := by
 have hK0 := Blk.new w (rfC s false at' op cv mv er pl) 87 w.heap.size rfl
 have hb := (Below.refl w.heap.size w).alloc (Nat.le_refl _) (.cells (rfC s false at' op cv mv er pl) 87)
 have HB := Lib.hid hb
 have HK := Lib.hid hK0
 have HSg := Lib.hid (fun w => rsign_any s false at' op cv mv er pl k w hk)
 have HOp := Lib.hid (fun b w => rop_f s at' op cv mv er pl b w)
 clear hb hK0
 go_enter Tryz.func76, Tryz.ntmps76
 go_wp2_with fail
 refine (HSg.out _).mono ?_
 rintro e w1 ⟨t, rfl, ht, b1⟩
 have HT := Lib.hid ht
 have hK1 := HK.out.below b1 HK.out.lt
 have HB1 := Lib.hid (HB.out.trans (b1.mono (by simp)))
 obtain ⟨c0, c1, c2, c3, c4, c5, c6, c7, _, _, _, _, _, _, _, _, hl⟩ := blk8 hK1
 have HK1 := Lib.hid hK1
 clear ht b1 hK1
 by_cases h0 : s.data.toList.length ≤ k
 ·have e0 : t.toList = [] := (sgn_end HT.out).2 h0
  have HF := Lib.hid (show endsAt s.data.toList k = true by unfold endsAt; rw [decide_eq_true h0]; rfl)
  clear h0
  go_wp2_with fail
  go_ret
  exact ⟨by rw [HF.out]; rfl, HB1.out⟩
 ·obtain ⟨n0, n0'⟩ := sgn_no_end HT.out h0
  have h00 : decide (s.data.toList.length ≤ k) = false := decide_eq_false h0
  cases h1 : esAt s.data.toList k 124 with
  | true =>
   have e1 : t.toList = [92, 124] := (sgn_es HT.out 124).2 h1
   have HF := Lib.hid (show endsAt s.data.toList k = true by unfold endsAt; rw [h1, h00]; rfl)
   clear h0 h1 h00
   go_wp2_with fail
   refine (HOp.out _ _).mono ?_
   rintro e w2 ⟨rfl, b2⟩
   have HB2 := Lib.hid (HB1.out.trans (b2.mono HB1.out.size))
   clear b2
   go_wp2_with fail
   go_ret
   exact ⟨by rw [HF.out]; rfl, HB2.out⟩
  | false =>
   obtain ⟨n1, n1'⟩ := sgn_no_es HT.out 124 h1
   have h2' : esAt s.data.toList k 41 = true ∨ esAt s.data.toList k 41 = false := by cases esAt s.data.toList k 41 <;> simp
   have HF := Lib.hid (show endsAt s.data.toList k = esAt s.data.toList k 41 by unfold endsAt; rw [h1, h00]; rfl)
   clear h0 h1 h00
   go_wp2_with fail
   refine (HOp.out _ _).mono ?_
   rintro e w2 ⟨rfl, b2⟩
   have hK2 := HK1.out.below b2 HK1.out.lt
   have HB2 := Lib.hid (HB1.out.trans (b2.mono HB1.out.size))
   clear b2 c0 c1 c2 c3 c4 c5 c6 c7 hl
   obtain ⟨c0, c1, c2, c3, c4, c5, c6, c7, _, _, _, _, _, _, _, _, hl⟩ := blk8 hK2
   have HK2 := Lib.hid hK2
   clear hK2
   go_wp2_with fail
   refine (HOp.out _ _).mono ?_
   rintro e w3 ⟨rfl, b3⟩
   have hK3 := HK2.out.below b3 HK2.out.lt
   have HB3 := Lib.hid (HB2.out.trans (b3.mono HB2.out.size))
   clear b3 c0 c1 c2 c3 c4 c5 c6 c7 hl
   obtain ⟨c0, c1, c2, c3, c4, c5, c6, c7, _, _, _, _, _, _, _, _, hl⟩ := blk8 hK3
   clear hK3
   rcases h2' with h2 | h2
   ·have e2 : t.toList = [92, 41] := (sgn_es HT.out 41).2 h2
    rw [h2] at HF
    clear h2
    by_cases hd : 0 < d
    ·have hd1 : decide (0 < d) = true := decide_eq_true hd
     go_wp2_with fail
     go_ret
     exact ⟨by rw [HF.out]; rfl, HB3.out⟩
    ·have hd1 : decide (0 < d) = false := decide_eq_false hd
     go_wp2_with fail
     go_ret
     exact ⟨by rw [HF.out]; rfl, HB3.out⟩
   ·obtain ⟨n2, n2'⟩ := sgn_no_es HT.out 41 h2
    rw [h2] at HF
    clear h2
    go_wp2_with fail
    go_ret
    exact ⟨by rw [HF.out]; rfl, HB3.out⟩
set_option linter.unusedSimpArgs false in
set_option maxRecDepth 100000 in
set_option maxHeartbeats 4000000 in
/-- A One of a set. -/
theorem rone_any (t : OSet) (w : World) :
  Calls Tryz.prog 92 #[.agg #[.int .u64 (ow t 0), .int .u64 (ow t 1), .int .u64 (ow t 2), .int .u64 (ow t 3)]] w fun e w' => e = .returned (tV (unc (.one t)) none 0) ∧ Below w.heap.size w w' := by
 have hb := (Below.refl w.heap.size w).alloc (Nat.le_refl _) (.cells #[.int .u64 (ow t 0), .int .u64 (ow t 1), .int .u64 (ow t 2), .int .u64 (ow t 3)] 33)
 have hb2 := hb.alloc (by simp) (.cells zC 36)
 have hB := Blk.new (w.alloc (.cells #[.int .u64 (ow t 0), .int .u64 (ow t 1), .int .u64 (ow t 2), .int .u64 (ow t 3)] 33)) zC 36 (w.heap.size + 1) (by simp)
 have HB := Lib.hid hB
 have Hb := Lib.hid hb2
 clear hb hb2 hB
 go_enter Tryz.func92, Tryz.ntmps92
 go_wp2_with fail
 have hB9 : Below w.heap.size w ((w.alloc (.cells #[.int .u64 (ow t 0), .int .u64 (ow t 1), .int .u64 (ow t 2), .int .u64 (ow t 3)] 33)).alloc (.cells (tC (unc (.one t)) none 0) 36)) := ((Below.refl w.heap.size w).alloc (Nat.le_refl _) _).alloc (by simp) _
 refine bodyPost_ret (v := tV (unc (.one t)) none 0) (by simp [results, Tryz.results92, go_sem, tV, unc, Tr.kind, Tr.set, Tr.parts, Tr.mn, Tr.mx, Tr.num]) rfl ⟨rfl, hB9⟩
set_option linter.unusedSimpArgs false in
set_option maxRecDepth 100000 in
set_option maxHeartbeats 4000000 in
/-- A class's bytes. -/
theorem rcls_any (s : ByteArray) (w : World) :
  Calls Tryz.prog 109 #[.string s] w fun e w' => e = .returned (.agg #[.int .u64 (ow (clsSet s.toList) 0), .int .u64 (ow (clsSet s.toList) 1), .int .u64 (ow (clsSet s.toList) 2), .int .u64 (ow (clsSet s.toList) 3)]) ∧ Below w.heap.size w w' := by
 have hb := (Below.refl w.heap.size w).alloc (Nat.le_refl _) (.cells #[.int .u64 0, .int .u64 0, .int .u64 0, .int .u64 0] 33)
 have hB := Blk.new w #[.int .u64 0, .int .u64 0, .int .u64 0, .int .u64 0] 33 w.heap.size rfl
 have HB := Lib.hid hB
 have Hb := Lib.hid hb
 have HC := Lib.hid (fun w => rclass_any s w)
 clear hb hB
 go_enter Tryz.func109, Tryz.ntmps109
 go_wp2_with fail
 refine (HC.out _).mono ?_
 rintro e w1 ⟨rfl, b1⟩
 have hB1 := HB.out.below b1 HB.out.lt
 have Hb1 := Lib.hid (Hb.out.trans (b1.mono Hb.out.size))
 obtain ⟨c0, c1, c2, c3, f0, f1, f2, f3, hl⟩ := blk_four hB1
 have HB1 := Lib.hid hB1
 clear b1 hB1
 go_wp2_with fail
 obtain ⟨w9, hw9⟩ : ∃ w9, w9 = _ := ⟨_, rfl⟩
 obtain ⟨hB9, hk9, _, _⟩ := put4 Hb1.out (Nat.le_refl _) HB1.out _ _ _ _ w9 hw9.symm
 rw [← hw9]
 clear hw9
 have hk := hk9.alloc (.cells #[.int .u64 (ow (clsSet s.toList) 0), .int .u64 (ow (clsSet s.toList) 1), .int .u64 (ow (clsSet s.toList) 2), .int .u64 (ow (clsSet s.toList) 3)] 33)
 have hB := hB9.alloc hB9.size (.cells #[.int .u64 (ow (clsSet s.toList) 0), .int .u64 (ow (clsSet s.toList) 1), .int .u64 (ow (clsSet s.toList) 2), .int .u64 (ow (clsSet s.toList) 3)] 33)
 generalize w9.alloc (.cells #[.int .u64 (ow (clsSet s.toList) 0), .int .u64 (ow (clsSet s.toList) 1), .int .u64 (ow (clsSet s.toList) 2), .int .u64 (ow (clsSet s.toList) 3)] 33) = w2 at *
 obtain ⟨d0, d1, d2, d3, _⟩ := blk_four hk
 exact bodyPost_ret (v := .agg #[.int .u64 (ow (clsSet s.toList) 0), .int .u64 (ow (clsSet s.toList) 1), .int .u64 (ow (clsSet s.toList) 2), .int .u64 (ow (clsSet s.toList) 3)]) (by simp [results, Tryz.results109, go_sem, d0, d1, d2, d3]) rfl ⟨rfl, hB⟩
end Go.Proofs.YtkejeiopfblkgaaGreatDoor
namespace Go.Proofs.YtkejeiopfblkgaaGreatDoor
open Go Go.RowKit
def RowC (F : Nat → Prop) (w : World) (size : Nat) (v : Value) (n : Nat) (xs : List Value) : Prop :=
 ∃ a cap, v = .slice a n cap ∧ xs.length = n * size ∧ (0 < n → ∃ g, a = some ⟨g, 0, none⟩ ∧ F g ∧ g < w.heap.size ∧ ∀ j u, xs[j]? = some u → w.cell? ⟨g, j, none⟩ = some u)
theorem RowC.keep {F G : Nat → Prop} {w w' : World} (hs : w.heap.size ≤ w'.heap.size) (hF : ∀ b, F b → b < w.heap.size → G b ∧ ∀ o, w'.cell? ⟨b, o, none⟩ = w.cell? ⟨b, o, none⟩) {size : Nat} {v : Value} {n : Nat} {xs : List Value} (h : RowC F w size v n xs) : RowC G w' size v n xs := by
 obtain ⟨a, cap, h1, h2, h3⟩ := h
 refine ⟨a, cap, h1, h2, fun h0 => ?_⟩
 obtain ⟨g, e, hg, hl, hx⟩ := h3 h0
 exact ⟨g, e, (hF g hg hl).1, by omega, fun j u hu => ((hF g hg hl).2 j).trans (hx j u hu)⟩
theorem RowC.form {F : Nat → Prop} {w : World} {size : Nat} {v : Value} {n : Nat} {xs : List Value} (h : RowC F w size v n xs) : ∃ a l c, v = .slice a l c := by
 obtain ⟨a, cap, h1, _⟩ := h
 exact ⟨a, n, cap, h1⟩
structure RfR (F : Nat → Prop) (w : World) (s : ByteArray) (st : ReSt) (cv mv : Value) : Prop where
 c : RowC F w 1 cv st.closed.length (st.closed.map (Value.int .i64))
 m : RowC F w 2 mv st.marks.length (marksC st.marks)
 pos : st.pos ≤ s.size
 small : s.size ≤ 250
 cl : st.closed.length ≤ st.pos
 ml : st.marks.length ≤ st.pos
 op : st.opened ≤ st.pos
theorem RfR.keep {F G : Nat → Prop} {w w' : World} (hs : w.heap.size ≤ w'.heap.size) (hF : ∀ b, F b → b < w.heap.size → G b ∧ ∀ o, w'.cell? ⟨b, o, none⟩ = w.cell? ⟨b, o, none⟩) {s : ByteArray} {st : ReSt} {cv mv : Value} (h : RfR F w s st cv mv) : RfR G w' s st cv mv :=
 ⟨h.c.keep hs hF, h.m.keep hs hF, h.pos, h.small, h.cl, h.ml, h.op⟩
theorem RfR.below {F : Nat → Prop} {w w' : World} (hb : Below w.heap.size w w') {s : ByteArray} {st : ReSt} {cv mv : Value} (h : RfR F w s st cv mv) : RfR F w' s st cv mv :=
 h.keep hb.size (fun b hf hlt => ⟨hf, fun o => hb.cell (p := ⟨b, o, none⟩) hlt⟩)
theorem RfR.to {F : Nat → Prop} {w : World} {s : ByteArray} {st : ReSt} {cv mv : Value} (h : RfR F w s st cv mv) (k : Nat) (h1 : st.pos ≤ k) (h2 : k ≤ s.size) : RfR F w s (st.to k) cv mv :=
 ⟨h.c, h.m, h2, h.small, Nat.le_trans h.cl h1, Nat.le_trans h.ml h1, Nat.le_trans h.op h1⟩
def RfAns (F FT : Nat → Prop) (C : Nd → Bool) (ere : Bool) (s : ByteArray) (r : ReRes (ReSt × Nd)) (w : World) (e : Ending) (w' : World) : Prop := Below w.heap.size w w' ∧ match r with
 | .error q => ∃ (at' op : Nat) (cv mv : Value) (d : Nd) (a : Option Addr) (cap : Nat), e = .returned (.tuple #[.agg (rfC s ere at' op cv mv (q.1 : Int) (q.2 : Int)), (.agg (tC (unc d) a cap))]) ∧ (∃ a l c, cv = .slice a l c) ∧ (∃ a l c, mv = .slice a l c) ∧ q.1 ≠ 0 ∧ TrX (fun b => FT b ∨ w.heap.size ≤ b) w' (unc d) a cap ∧ C d = true
 | .ok q => ∃ (cv mv : Value) (a : Option Addr) (cap : Nat), e = .returned (.tuple #[.agg (rfC s ere q.1.pos q.1.opened cv mv 0 0), (.agg (tC (unc q.2) a cap))]) ∧ RfR (fun b => F b ∨ w.heap.size ≤ b) w' s q.1 cv mv ∧ TrX (fun b => FT b ∨ w.heap.size ≤ b) w' (unc q.2) a cap
def RMarkOk : Prop := ∀ (F : Nat → Prop) (s : ByteArray) (ere : Bool) (at' op : Nat) (cv mv : Value) (ms : List (Nat × Nat)) (c : UInt8) (w : World), (∃ a l c, cv = .slice a l c) → RowC F w 2 mv ms.length (marksC ms) → ms.length ≤ 1000 →
  Calls Tryz.prog 58 #[.agg (rfC s ere at' op cv mv 0 0), .string ⟨#[92, c]⟩] w fun e w' => ∃ mv', e = .returned (.agg (rfC s ere at' op cv mv' 0 0)) ∧ RowC (fun b => w.heap.size ≤ b) w' 2 mv' (ms ++ [(at', c.toNat)]).length (marksC (ms ++ [(at', c.toNat)])) ∧ Below w.heap.size w w'
theorem put17a {w0 w : World} {p q : Nat} {T U : TypeId} {u0 u1 u2 u3 u4 u5 u6 u7 x0 x1 x2 x3 x4 x5 x6 x7 x8 : Value} (hb : Below w0.heap.size w0 w) (hp : w0.heap.size ≤ p) (hq : w0.heap.size ≤ q) (hpq : p ≠ q) (h : Blk w p #[u0, u1, u2, u3, u4, u5, u6, u7] T) (k : Blk w q #[x0, x1, x2, x3, x4, x5, x6, x7, x8] U) (v0 v1 v2 v3 v4 v5 v6 v7 y0 y1 y2 y3 y4 y5 y6 y7 y8 : Value) (w' : World)
  (hw : (((((((((((((((((w.setCell ⟨p, 0, none⟩ v0).setCell ⟨p, 1, none⟩ v1).setCell ⟨p, 2, none⟩ v2).setCell ⟨p, 3, none⟩ v3).setCell ⟨p, 4, none⟩ v4).setCell ⟨p, 5, none⟩ v5).setCell ⟨p, 6, none⟩ v6).setCell ⟨p, 7, none⟩ v7).setCell ⟨q, 0, none⟩ y0).setCell ⟨q, 1, none⟩ y1).setCell ⟨q, 2, none⟩ y2).setCell ⟨q, 3, none⟩ y3).setCell ⟨q, 4, none⟩ y4).setCell ⟨q, 5, none⟩ y5).setCell ⟨q, 6, none⟩ y6).setCell ⟨q, 7, none⟩ y7).setCell ⟨q, 8, none⟩ y8) = w') :
  Below w0.heap.size w0 w' ∧ Blk w' p #[v0, v1, v2, v3, v4, v5, v6, v7] T ∧ Blk w' q #[y0, y1, y2, y3, y4, y5, y6, y7, y8] U ∧ (∀ b, b ≠ p → b ≠ q → w'.heap[b]? = w.heap[b]?) ∧ w'.heap.size = w.heap.size := by
 obtain ⟨a1, a2, a3, a4⟩ := put8 hb hp h v0 v1 v2 v3 v4 v5 v6 v7 _ rfl
 obtain ⟨b1, b2, b3, b4⟩ := put9n a1 hq (k.same (a3 q (fun e => hpq e.symm))) y0 y1 y2 y3 y4 y5 y6 y7 y8 _ hw
 exact ⟨b1, a2.same (b3 p hpq), b2, fun b h1 h2 => (b3 b h2).trans (a3 b h1), b4.trans a4⟩
theorem post17 {P : Program} {fn : Func} {Q : Ending → World → Prop} {e : Exit} {act : Act} {w0 w : World} {p q : Nat} {T U : TypeId} {u0 u1 u2 u3 u4 u5 u6 u7 x0 x1 x2 x3 x4 x5 x6 x7 x8 : Value} (hb : Below w0.heap.size w0 w) (h : Blk w p #[u0, u1, u2, u3, u4, u5, u6, u7] T) (k : Blk w q #[x0, x1, x2, x3, x4, x5, x6, x7, x8] U) (hp : w0.heap.size ≤ p) (hq : w0.heap.size ≤ q) (hpq : p ≠ q) {v0 v1 v2 v3 v4 v5 v6 v7 y0 y1 y2 y3 y4 y5 y6 y7 y8 : Value}
  (H : ∀ w', Below w0.heap.size w0 w' → Blk w' p #[v0, v1, v2, v3, v4, v5, v6, v7] T → Blk w' q #[y0, y1, y2, y3, y4, y5, y6, y7, y8] U → (∀ b, b ≠ p → b ≠ q → w'.heap[b]? = w.heap[b]?) → w'.heap.size = w.heap.size → bodyPost P fn Q e act w') :
  bodyPost P fn Q e act (((((((((((((((((w.setCell ⟨p, 0, none⟩ v0).setCell ⟨p, 1, none⟩ v1).setCell ⟨p, 2, none⟩ v2).setCell ⟨p, 3, none⟩ v3).setCell ⟨p, 4, none⟩ v4).setCell ⟨p, 5, none⟩ v5).setCell ⟨p, 6, none⟩ v6).setCell ⟨p, 7, none⟩ v7).setCell ⟨q, 0, none⟩ y0).setCell ⟨q, 1, none⟩ y1).setCell ⟨q, 2, none⟩ y2).setCell ⟨q, 3, none⟩ y3).setCell ⟨q, 4, none⟩ y4).setCell ⟨q, 5, none⟩ y5).setCell ⟨q, 6, none⟩ y6).setCell ⟨q, 7, none⟩ y7).setCell ⟨q, 8, none⟩ y8) := by
 obtain ⟨h1, h2, h3, h4, h5⟩ := put17a hb hp hq hpq h k v0 v1 v2 v3 v4 v5 v6 v7 y0 y1 y2 y3 y4 y5 y6 y7 y8 _ rfl
 exact H _ h1 h2 h3 h4 h5
theorem post17d {P : Program} {fn : Func} {Q : Ending → World → Prop} {e : Exit} {act : Act} {w0 w : World} {p q : Nat} {T U : TypeId} {u0 u1 u2 u3 u4 u5 u6 u7 x0 x1 x2 x3 x4 x5 x6 x7 x8 : Value} (hb : Below w0.heap.size w0 w) (h : Blk w p #[u0, u1, u2, u3, u4, u5, u6, u7] T) (k : Blk w q #[x0, x1, x2, x3, x4, x5, x6, x7, x8] U) (hp : w0.heap.size ≤ p) (hq : w0.heap.size ≤ q) (hpq : p ≠ q) {v0 v1 v2 v3 v4 v5 v6 v7 y0 y1 y2 y3 y4 y5 y6 y7 y8 : Value}
  {W : World} (hW : (((((((((((((((((w.setCell ⟨p, 0, none⟩ v0).setCell ⟨p, 1, none⟩ v1).setCell ⟨p, 2, none⟩ v2).setCell ⟨p, 3, none⟩ v3).setCell ⟨p, 4, none⟩ v4).setCell ⟨p, 5, none⟩ v5).setCell ⟨p, 6, none⟩ v6).setCell ⟨p, 7, none⟩ v7).setCell ⟨q, 0, none⟩ y0).setCell ⟨q, 1, none⟩ y1).setCell ⟨q, 2, none⟩ y2).setCell ⟨q, 3, none⟩ y3).setCell ⟨q, 4, none⟩ y4).setCell ⟨q, 5, none⟩ y5).setCell ⟨q, 6, none⟩ y6).setCell ⟨q, 7, none⟩ y7).setCell ⟨q, 8, none⟩ y8) = W)
  (H : ∀ w', Below w0.heap.size w0 w' → Blk w' p #[v0, v1, v2, v3, v4, v5, v6, v7] T → Blk w' q #[y0, y1, y2, y3, y4, y5, y6, y7, y8] U → (∀ b, b ≠ p → b ≠ q → w'.heap[b]? = w.heap[b]?) → w'.heap.size = w.heap.size → bodyPost P fn Q e act w') :
  bodyPost P fn Q e act W.drew := by
 obtain ⟨h1, h2, h3, h4, h5⟩ := put17a hb hp hq hpq h k v0 v1 v2 v3 v4 v5 v6 v7 y0 y1 y2 y3 y4 y5 y6 y7 y8 _ hW
 exact H _ h1.drew h2.drew h3.drew h4 h5
theorem post8 {P : Program} {fn : Func} {Q : Ending → World → Prop} {e : Exit} {act : Act} {w0 w : World} {p : Nat} {T : TypeId} {u0 u1 u2 u3 u4 u5 u6 u7 : Value} (hb : Below w0.heap.size w0 w) (h : Blk w p #[u0, u1, u2, u3, u4, u5, u6, u7] T) (hp : w0.heap.size ≤ p) {v0 v1 v2 v3 v4 v5 v6 v7 : Value}
  (H : ∀ w', Below w0.heap.size w0 w' → Blk w' p #[v0, v1, v2, v3, v4, v5, v6, v7] T → (∀ b, b ≠ p → w'.heap[b]? = w.heap[b]?) → w'.heap.size = w.heap.size → bodyPost P fn Q e act w') :
  bodyPost P fn Q e act ((((((((w.setCell ⟨p, 0, none⟩ v0).setCell ⟨p, 1, none⟩ v1).setCell ⟨p, 2, none⟩ v2).setCell ⟨p, 3, none⟩ v3).setCell ⟨p, 4, none⟩ v4).setCell ⟨p, 5, none⟩ v5).setCell ⟨p, 6, none⟩ v6).setCell ⟨p, 7, none⟩ v7) := by
 obtain ⟨h1, h2, h3, h4⟩ := put8 hb hp h v0 v1 v2 v3 v4 v5 v6 v7 _ rfl
 exact H _ h1 h2 h3 h4
abbrev C17 (w : World) (p q : Nat) (v0 v1 v2 v3 v4 v5 v6 v7 y0 y1 y2 y3 y4 y5 y6 y7 y8 : Value) : Prop := w.cell? ⟨p, 0, none⟩ = some v0 ∧ w.cell? ⟨p, 1, none⟩ = some v1 ∧ w.cell? ⟨p, 2, none⟩ = some v2 ∧ w.cell? ⟨p, 3, none⟩ = some v3 ∧ w.cell? ⟨p, 4, none⟩ = some v4 ∧ w.cell? ⟨p, 5, none⟩ = some v5 ∧ w.cell? ⟨p, 6, none⟩ = some v6 ∧ w.cell? ⟨p, 7, none⟩ = some v7 ∧ w.cell? ⟨q, 0, none⟩ = some y0 ∧ w.cell? ⟨q, 1, none⟩ = some y1 ∧ w.cell? ⟨q, 2, none⟩ = some y2 ∧ w.cell? ⟨q, 3, none⟩ = some y3 ∧ w.cell? ⟨q, 4, none⟩ = some y4 ∧ w.cell? ⟨q, 5, none⟩ = some y5 ∧ w.cell? ⟨q, 6, none⟩ = some y6 ∧ w.cell? ⟨q, 7, none⟩ = some y7 ∧ w.cell? ⟨q, 8, none⟩ = some y8
theorem C17.of {w : World} {p q : Nat} {T U : TypeId} {v0 v1 v2 v3 v4 v5 v6 v7 y0 y1 y2 y3 y4 y5 y6 y7 y8 : Value} (h : Blk w p #[v0, v1, v2, v3, v4, v5, v6, v7] T) (k : Blk w q #[y0, y1, y2, y3, y4, y5, y6, y7, y8] U) : C17 w p q v0 v1 v2 v3 v4 v5 v6 v7 y0 y1 y2 y3 y4 y5 y6 y7 y8 := by
 obtain ⟨h0, h1, h2, h3, h4, h5, h6, h7, _⟩ := blk8 h
 obtain ⟨k0, k1, k2, k3, k4, k5, k6, k7, k8, _⟩ := blk9n k
 exact ⟨h0, h1, h2, h3, h4, h5, h6, h7, k0, k1, k2, k3, k4, k5, k6, k7, k8⟩
theorem C17.far {w w' : World} {p q : Nat} {v0 v1 v2 v3 v4 v5 v6 v7 y0 y1 y2 y3 y4 y5 y6 y7 y8 : Value} (h : C17 w p q v0 v1 v2 v3 v4 v5 v6 v7 y0 y1 y2 y3 y4 y5 y6 y7 y8) (e1 : w'.heap[p]? = w.heap[p]?) (e2 : w'.heap[q]? = w.heap[q]?) : C17 w' p q v0 v1 v2 v3 v4 v5 v6 v7 y0 y1 y2 y3 y4 y5 y6 y7 y8 := by
 obtain ⟨h0, h1, h2, h3, h4, h5, h6, h7, k0, k1, k2, k3, k4, k5, k6, k7, k8⟩ := h
 have a : ∀ o, w'.cell? ⟨p, o, none⟩ = w.cell? ⟨p, o, none⟩ := fun o => World.cell?_of_block (w := w) (a := ⟨p, o, none⟩) e1
 have b : ∀ o, w'.cell? ⟨q, o, none⟩ = w.cell? ⟨q, o, none⟩ := fun o => World.cell?_of_block (w := w) (a := ⟨q, o, none⟩) e2
 exact ⟨(a 0).trans h0, (a 1).trans h1, (a 2).trans h2, (a 3).trans h3, (a 4).trans h4, (a 5).trans h5, (a 6).trans h6, (a 7).trans h7, (b 0).trans k0, (b 1).trans k1, (b 2).trans k2, (b 3).trans k3, (b 4).trans k4, (b 5).trans k5, (b 6).trans k6, (b 7).trans k7, (b 8).trans k8⟩
theorem C17.drew {w : World} {p q : Nat} {v0 v1 v2 v3 v4 v5 v6 v7 y0 y1 y2 y3 y4 y5 y6 y7 y8 : Value} (h : C17 w p q v0 v1 v2 v3 v4 v5 v6 v7 y0 y1 y2 y3 y4 y5 y6 y7 y8) : C17 w.drew p q v0 v1 v2 v3 v4 v5 v6 v7 y0 y1 y2 y3 y4 y5 y6 y7 y8 := h
theorem far_set (w : World) (r j : Nat) (v : Value) {p : Nat} (h : p ≠ r) : (w.setCell ⟨r, j, none⟩ v).heap[p]? = w.heap[p]? := Below.heap_setCell _ _ _ _ (fun e => h e)
set_option maxHeartbeats 2000000 in
theorem C17.put8 {w : World} {p q r : Nat} {v0 v1 v2 v3 v4 v5 v6 v7 y0 y1 y2 y3 y4 y5 y6 y7 y8 u0 u1 u2 u3 u4 u5 u6 u7 : Value} (h : C17 w p q v0 v1 v2 v3 v4 v5 v6 v7 y0 y1 y2 y3 y4 y5 y6 y7 y8) (n1 : p ≠ r) (n2 : q ≠ r) : C17 ((((((((w.setCell ⟨r, 0, none⟩ u0).setCell ⟨r, 1, none⟩ u1).setCell ⟨r, 2, none⟩ u2).setCell ⟨r, 3, none⟩ u3).setCell ⟨r, 4, none⟩ u4).setCell ⟨r, 5, none⟩ u5).setCell ⟨r, 6, none⟩ u6).setCell ⟨r, 7, none⟩ u7) p q v0 v1 v2 v3 v4 v5 v6 v7 y0 y1 y2 y3 y4 y5 y6 y7 y8 :=
 h.far ((far_set _ _ _ _ n1).trans ((far_set _ _ _ _ n1).trans ((far_set _ _ _ _ n1).trans ((far_set _ _ _ _ n1).trans ((far_set _ _ _ _ n1).trans ((far_set _ _ _ _ n1).trans ((far_set _ _ _ _ n1).trans ((far_set _ _ _ _ n1).trans (rfl))))))))) ((far_set _ _ _ _ n2).trans ((far_set _ _ _ _ n2).trans ((far_set _ _ _ _ n2).trans ((far_set _ _ _ _ n2).trans ((far_set _ _ _ _ n2).trans ((far_set _ _ _ _ n2).trans ((far_set _ _ _ _ n2).trans ((far_set _ _ _ _ n2).trans (rfl)))))))))
set_option maxHeartbeats 2000000 in
theorem C17.put9 {w : World} {p q r : Nat} {v0 v1 v2 v3 v4 v5 v6 v7 y0 y1 y2 y3 y4 y5 y6 y7 y8 u0 u1 u2 u3 u4 u5 u6 u7 u8 : Value} (h : C17 w p q v0 v1 v2 v3 v4 v5 v6 v7 y0 y1 y2 y3 y4 y5 y6 y7 y8) (n1 : p ≠ r) (n2 : q ≠ r) : C17 (((((((((w.setCell ⟨r, 0, none⟩ u0).setCell ⟨r, 1, none⟩ u1).setCell ⟨r, 2, none⟩ u2).setCell ⟨r, 3, none⟩ u3).setCell ⟨r, 4, none⟩ u4).setCell ⟨r, 5, none⟩ u5).setCell ⟨r, 6, none⟩ u6).setCell ⟨r, 7, none⟩ u7).setCell ⟨r, 8, none⟩ u8) p q v0 v1 v2 v3 v4 v5 v6 v7 y0 y1 y2 y3 y4 y5 y6 y7 y8 :=
 h.far ((far_set _ _ _ _ n1).trans ((far_set _ _ _ _ n1).trans ((far_set _ _ _ _ n1).trans ((far_set _ _ _ _ n1).trans ((far_set _ _ _ _ n1).trans ((far_set _ _ _ _ n1).trans ((far_set _ _ _ _ n1).trans ((far_set _ _ _ _ n1).trans ((far_set _ _ _ _ n1).trans (rfl)))))))))) ((far_set _ _ _ _ n2).trans ((far_set _ _ _ _ n2).trans ((far_set _ _ _ _ n2).trans ((far_set _ _ _ _ n2).trans ((far_set _ _ _ _ n2).trans ((far_set _ _ _ _ n2).trans ((far_set _ _ _ _ n2).trans ((far_set _ _ _ _ n2).trans ((far_set _ _ _ _ n2).trans (rfl))))))))))
abbrev rfZ : Array Value := rfC ⟨#[]⟩ false 0 0 (.slice none 0 0) (.slice none 0 0) 0 0
structure RpL (F FT : Nat → Prop) (w : World) (s : ByteArray) (ere : Bool) (wr : World) (st : ReSt) (d : Nd) (cv mv : Value) (a : Option Addr) (cap : Nat) : Prop where
 b : Below w.heap.size w wr
 k2 : Blk wr w.heap.size (rfC s ere st.pos st.opened cv mv 0 0) 87
 k3 : Blk wr (w.heap.size + 1) (tC (unc d) a cap) 36
 k4 : Blk wr (w.heap.size + 1 + 1) rfZ 87
 k5 : Blk wr (w.heap.size + 1 + 1 + 1) zC 36
 r : RfR (fun b => (F b ∧ b < w.heap.size) ∨ w.heap.size + 4 ≤ b) wr s st cv mv
 t : TrX (fun b => (FT b ∧ b < w.heap.size) ∨ w.heap.size + 4 ≤ b) wr (unc d) a cap
theorem RpL.step {F FT : Nat → Prop} {w : World} {s : ByteArray} {ere : Bool} {wr w' : World} {st : ReSt} {d : Nd} {cv mv : Value} {a : Option Addr} {cap : Nat} (h : RpL F FT w s ere wr st d cv mv a cap) (hb : Below wr.heap.size wr w') : RpL F FT w s ere w' st d cv mv a cap :=
 ⟨h.b.trans (hb.mono h.b.size), h.k2.below hb h.k2.lt, h.k3.below hb h.k3.lt, h.k4.below hb h.k4.lt, h.k5.below hb h.k5.lt,
  h.r.keep hb.size (fun b hf hlt => ⟨hf, fun o => hb.cell (p := ⟨b, o, none⟩) hlt⟩), h.t.keep hb.size (fun b hf hlt => ⟨hf, fun o => hb.cell (p := ⟨b, o, none⟩) hlt⟩)⟩
theorem RpL.done {F FT : Nat → Prop} {C : Nd → Bool} {w : World} {s : ByteArray} {ere : Bool} {wr w9 : World} {st : ReSt} {d : Nd} {cv mv : Value} {a : Option Addr} {cap : Nat} {R : ReRes (ReSt × Nd)} (h : RpL F FT w s ere wr st d cv mv a cap) (hR : R = .ok (st, d))
  (hb : Below w.heap.size w w9) (hs : ∀ b, b ≠ w.heap.size + 1 + 1 → b ≠ w.heap.size + 1 + 1 + 1 → w9.heap[b]? = wr.heap[b]?) (hz : w9.heap.size = wr.heap.size) :
  RfAns F FT C ere s R w (.returned (.tuple #[.agg (rfC s ere st.pos st.opened cv mv 0 0), (.agg (tC (unc d) a cap))])) w9 := by
 subst hR
 have hc : ∀ b, (b < w.heap.size ∨ w.heap.size + 4 ≤ b) → ∀ o, w9.cell? ⟨b, o, none⟩ = wr.cell? ⟨b, o, none⟩ := fun b hb o => World.cell?_of_block (w := wr) (a := ⟨b, o, none⟩) (hs b (by omega) (by omega))
 refine ⟨hb, cv, mv, a, cap, rfl, h.r.keep (by omega) (fun b hf _ => ⟨?_, hc b ?_⟩), h.t.keep (by omega) (fun b hf _ => ⟨?_, hc b ?_⟩)⟩
 ·exact hf.elim (fun h => .inl h.1) (fun h => .inr (by omega))
 ·exact hf.elim (fun h => .inl h.2) .inr
 ·exact hf.elim (fun h => .inl h.1) (fun h => .inr (by omega))
 ·exact hf.elim (fun h => .inl h.2) .inr
theorem RpL.failed {F FT : Nat → Prop} {C : Nd → Bool} {w : World} {s : ByteArray} {ere : Bool} {wr w9 : World} {st : ReSt} {d : Nd} {cv mv : Value} {a : Option Addr} {cap : Nat} {R : ReRes (ReSt × Nd)} {q : Nat × Nat} (h : RpL F FT w s ere wr st d cv mv a cap) (hR : R = .error q) (hC : C d = true) (hq : q.1 ≠ 0)
  (hb : Below w.heap.size w w9) (hs : ∀ b, b ≠ w.heap.size + 1 + 1 → b ≠ w.heap.size + 1 + 1 + 1 → w9.heap[b]? = wr.heap[b]?) (hz : w9.heap.size = wr.heap.size) :
  RfAns F FT C ere s R w (.returned (.tuple #[.agg (rfC s ere st.pos st.opened cv mv (q.1 : Int) (q.2 : Int)), (.agg (tC (unc d) a cap))])) w9 := by
 subst hR
 have hc : ∀ b, (b < w.heap.size ∨ w.heap.size + 4 ≤ b) → ∀ o, w9.cell? ⟨b, o, none⟩ = wr.cell? ⟨b, o, none⟩ := fun b hb o => World.cell?_of_block (w := wr) (a := ⟨b, o, none⟩) (hs b (by omega) (by omega))
 refine ⟨hb, _, _, cv, mv, d, a, cap, rfl, h.r.c.form, h.r.m.form, hq, h.t.keep (by omega) (fun b hf _ => ⟨?_, hc b ?_⟩), hC⟩
 ·exact hf.elim (fun h => .inl h.1) (fun h => .inr (by omega))
 ·exact hf.elim (fun h => .inl h.2) .inr
theorem RfAns.drew {F FT : Nat → Prop} {C : Nd → Bool} {ere : Bool} {s : ByteArray} {r : ReRes (ReSt × Nd)} {w : World} {e : Ending} {w' : World} (h : RfAns F FT C ere s r w e w') : RfAns F FT C ere s r w e w'.drew := by
 cases r with
 | error q =>
  obtain ⟨h1, at', op, cv, mv, d, a, cap, h2, h3, h4, h5, h6, h7⟩ := h
  exact ⟨h1.drew, at', op, cv, mv, d, a, cap, h2, h3, h4, h5, h6.below (Below.refl _ _).drew, h7⟩
 | ok q =>
  obtain ⟨h1, cv, mv, a, cap, h2, h3, h4⟩ := h
  exact ⟨h1.drew, cv, mv, a, cap, h2, h3.below (Below.refl _ _).drew, h4.below (Below.refl _ _).drew⟩
theorem rep_none_at (ere : Bool) (s : List UInt8) (k : Nat) (h : repAt ere s k = .none) : chAt s k 42 = false ∧ opAt ere s k 43 = false ∧ opAt ere s k 63 = false ∧ opAt ere s k 123 = false := by
 unfold repAt at h
 split at h
 ·cases h
 ·rename_i h1
  split at h
  ·cases h
  ·rename_i h2
   split at h
   ·cases h
   ·rename_i h3
    split at h
    ·split at h <;> cases h
    ·rename_i h4
     simp at h1 h2 h3 h4
     exact ⟨h1, h2, h3, h4⟩
theorem rep_bad_at (ere : Bool) (s : List UInt8) (k : Nat) (h : repAt ere s k = .bad) : opAt ere s k 123 = true ∧ intv ere s (k + opLen ere) = none := by
 unfold repAt at h
 split at h
 ·cases h
 ·split at h
  ·cases h
  ·split at h
   ·cases h
   ·split at h
    ·rename_i h4
     split at h
     ·rename_i h5; exact ⟨h4, h5⟩
     ·cases h
    ·cases h
theorem rep_some_at (ere : Bool) (s : List UInt8) (k : Nat) (mn mx : Int) (c j : Nat) (h : repAt ere s k = .some mn mx c j) :
  (chAt s k 42 = true ∧ mn = 0 ∧ mx = -1 ∧ c = 0 ∧ j = k + 1) ∨ (opAt ere s k 43 = true ∧ mn = 1 ∧ mx = -1 ∧ c = (if ere then 0 else 43) ∧ j = k + opLen ere) ∨
  (opAt ere s k 63 = true ∧ mn = 0 ∧ mx = 1 ∧ c = (if ere then 0 else 63) ∧ j = k + opLen ere) ∨ (opAt ere s k 123 = true ∧ intv ere s (k + opLen ere) = some (mn, mx, j) ∧ c = 0) := by
 unfold repAt at h
 split at h
 ·rename_i h1; injection h with a b c d; exact .inl ⟨h1, a.symm, b.symm, c.symm, d.symm⟩
 ·split at h
  ·rename_i h1; injection h with a b c d; exact .inr (.inl ⟨h1, a.symm, b.symm, c.symm, d.symm⟩)
  ·split at h
   ·rename_i h1; injection h with a b c d; exact .inr (.inr (.inl ⟨h1, a.symm, b.symm, c.symm, d.symm⟩))
   ·split at h
    ·rename_i h1
     split at h
     ·cases h
     ·rename_i h2
      injection h with a b c d
      subst a b d
      exact .inr (.inr (.inr ⟨h1, h2, c.symm⟩))
    ·cases h
theorem RpL.next {F FT : Nat → Prop} {w : World} {s : ByteArray} {ere : Bool} {wk W : World} {st : ReSt} {d : Nd} {cv mv mv' x2 : Value} {a : Option Addr} {cap : Nat} (h : RpL F FT w s ere wk st d cv mv a cap)
  (hB : Below w.heap.size w W) (hk2 : Blk W w.heap.size #[.string s, .bool ere, x2, .int .i64 (st.opened : Int), cv, mv', .int .i64 0, .int .i64 0] 87) (hs : ∀ b, b ≠ w.heap.size → W.heap[b]? = wk.heap[b]?) (hz : W.heap.size = wk.heap.size)
  {ms : List (Nat × Nat)} (hm : RowC (fun b => (F b ∧ b < w.heap.size) ∨ w.heap.size + 4 ≤ b) wk 2 mv' ms.length (marksC ms)) {nx : Nat} (hml : ms.length ≤ nx) (mn mx : Int) (h1 : st.pos ≤ nx) (h2 : nx ≤ s.size) {n : Nat} (hn : n = W.heap.size) :
  RpL F FT w s ere (((((((((((W.setCell ⟨w.heap.size + 1, 0, none⟩ (.int .i64 4)).setCell ⟨w.heap.size + 1, 1, none⟩ (.int .u64 0)).setCell ⟨w.heap.size + 1, 2, none⟩ (.int .u64 0)).setCell ⟨w.heap.size + 1, 3, none⟩ (.int .u64 0)).setCell ⟨w.heap.size + 1, 4, none⟩ (.int .u64 0)).setCell ⟨w.heap.size + 1, 5, none⟩ (.slice (some ⟨n, 0, none⟩) 1 1)).setCell ⟨w.heap.size + 1, 6, none⟩ (.int .i64 mn)).setCell ⟨w.heap.size + 1, 7, none⟩ (.int .i64 mx)).setCell ⟨w.heap.size + 1, 8, none⟩ (.int .i64 0)).setCell ⟨w.heap.size, 2, none⟩ (.int .i64 (nx : Int))).alloc (.cells (tC (unc d) a cap) 36)) ⟨nx, st.opened, st.closed, ms⟩ (.rep d mn mx) cv mv' (some ⟨n, 0, none⟩) 1 := by
 have hp3 : w.heap.size + 1 ≠ w.heap.size := by omega
 have k3 := h.k3.same (hs _ hp3)
 obtain ⟨hB1, hk3, hs1, hz1⟩ := put9n hB (Nat.le_succ _) k3 (.int .i64 4) (.int .u64 0) (.int .u64 0) (.int .u64 0) (.int .u64 0) (.slice (some ⟨n, 0, none⟩) 1 1) (.int .i64 mn) (.int .i64 mx) (.int .i64 0) _ rfl
 generalize (((((((((W.setCell ⟨w.heap.size + 1, 0, none⟩ (.int .i64 4)).setCell ⟨w.heap.size + 1, 1, none⟩ (.int .u64 0)).setCell ⟨w.heap.size + 1, 2, none⟩ (.int .u64 0)).setCell ⟨w.heap.size + 1, 3, none⟩ (.int .u64 0)).setCell ⟨w.heap.size + 1, 4, none⟩ (.int .u64 0)).setCell ⟨w.heap.size + 1, 5, none⟩ (.slice (some ⟨n, 0, none⟩) 1 1)).setCell ⟨w.heap.size + 1, 6, none⟩ (.int .i64 mn)).setCell ⟨w.heap.size + 1, 7, none⟩ (.int .i64 mx)).setCell ⟨w.heap.size + 1, 8, none⟩ (.int .i64 0)) = W1 at *
 have hB2 := hB1.setCell (p := ⟨w.heap.size, 2, none⟩) (Nat.le_refl _) (.int .i64 (nx : Int))
 have hs2 : ∀ b, b ≠ w.heap.size → (W1.setCell ⟨w.heap.size, 2, none⟩ (.int .i64 (nx : Int))).heap[b]? = W1.heap[b]? := fun b hb => far_set _ _ _ _ hb
 have hz2 : (W1.setCell ⟨w.heap.size, 2, none⟩ (.int .i64 (nx : Int))).heap.size = W1.heap.size := by simp [World.setCell]
 have hk2' := ((hk2.same (hs1 _ (fun e => hp3 e.symm))).set 2 (.int .i64 (nx : Int)))
 generalize W1.setCell ⟨w.heap.size, 2, none⟩ (.int .i64 (nx : Int)) = W2 at *
 have hall : ∀ b, b ≠ w.heap.size → b ≠ w.heap.size + 1 → W2.heap[b]? = wk.heap[b]? := fun b e1 e2 => (hs2 b e1).trans ((hs1 b e2).trans (hs b e1))
 have hsz : W2.heap.size = wk.heap.size := hz2.trans (hz1.trans hz)
 have hc : ∀ b, (b < w.heap.size ∨ w.heap.size + 4 ≤ b) → ∀ o, W2.cell? ⟨b, o, none⟩ = wk.cell? ⟨b, o, none⟩ := fun b hb o => World.cell?_of_block (w := wk) (a := ⟨b, o, none⟩) (hall b (by omega) (by omega))
 have hG : ∀ (G : Nat → Prop) b, ((G b ∧ b < w.heap.size) ∨ w.heap.size + 4 ≤ b) → b < wk.heap.size → ((G b ∧ b < w.heap.size) ∨ w.heap.size + 4 ≤ b) ∧ ∀ o, W2.cell? ⟨b, o, none⟩ = wk.cell? ⟨b, o, none⟩ := fun G b hf _ => ⟨hf, hc b (hf.elim (fun x => .inl x.2) .inr)⟩
 have hA := (Below.refl W2.heap.size W2).alloc (Nat.le_refl _) (.cells (tC (unc d) a cap) 36)
 have h5 := h.k5.lt
 refine ⟨hB2.alloc hB2.size _, (hk2'.eqv (by simp)).alloc _, ?_, (h.k4.same (hall _ (by omega) (by omega))).alloc _, (h.k5.same (hall _ (by omega) (by omega))).alloc _, ?_, ?_⟩
 ·exact ((hk3.same (hs2 _ hp3)).eqv (by simp [unc, Tr.kind, Tr.set, Tr.parts, Tr.mn, Tr.mx, Tr.num, ow_zero])).alloc _
 ·have hr : RfR (fun b => (F b ∧ b < w.heap.size) ∨ w.heap.size + 4 ≤ b) W2 s ⟨nx, st.opened, st.closed, ms⟩ cv mv' := ⟨h.r.c.keep (by omega) (hG F), hm.keep (by omega) (hG F), h2, h.r.small, Nat.le_trans h.r.cl h1, hml, Nat.le_trans h.r.op h1⟩
  exact hr.below hA
 ·have ht := h.t.keep (by omega) (hG FT)
  have hone := trw_one (T := 36) ht (G := fun b => (FT b ∧ b < w.heap.size) ∨ w.heap.size + 4 ≤ b) (fun b hf _ => hf) (.inr (by omega))
  rw [show W2.heap.size = n by omega] at hone
  exact TrRw.up (t := unc (.rep d mn mx)) hone
theorem RpL.at' {F FT : Nat → Prop} {w : World} {s : ByteArray} {ere : Bool} {wr : World} {st : ReSt} {d : Nd} {cv mv : Value} {a : Option Addr} {cap : Nat} (h : RpL F FT w s ere wr st d cv mv a cap) : (intOf ((wr.cell? ⟨w.heap.size, 2, none⟩).getD undef)).toNat = st.pos := by
 have e : wr.cell? ⟨w.heap.size, 2, none⟩ = some (.int .i64 (st.pos : Int)) := (h.k2.cell 2).trans rfl
 rw [e]
 simp [intOf]
end Go.Proofs.YtkejeiopfblkgaaGreatDoor
