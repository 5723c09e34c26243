/- ShowTrees, walked. -/
import Derived.Test.YtpmeicclngckeaaGreatDoorShLs
import Derived.Test.YtpmeicclngckeaaGreatDoorTrReal
import Derived.Test.YtpmeicclngckeaaGreatDoorTrFew
namespace Go.Proofs.YtpmeicclngckeaaGreatDoor
open Go Go.RowKit

theorem blk9c6 {w : World} {b : Nat} {t : Tr} {a : Option Addr} {cap : Nat} {T : TypeId} (h : Blk w b (tC t a cap) T) :
    (w.cell? ⟨b, 0, none⟩ = some (.int .i64 t.kind) ∧ w.cell? ⟨b, 1, none⟩ = some (.int .u64 (ow t.set 0)) ∧ w.cell? ⟨b, 2, none⟩ = some (.int .u64 (ow t.set 1)) ∧ w.cell? ⟨b, 3, none⟩ = some (.int .u64 (ow t.set 2)) ∧ w.cell? ⟨b, 4, none⟩ = some (.int .u64 (ow t.set 3)) ∧
    w.cell? ⟨b, 5, none⟩ = some (.slice a t.parts.length cap) ∧ w.cell? ⟨b, 6, none⟩ = some (.int .i64 t.mn) ∧ w.cell? ⟨b, 7, none⟩ = some (.int .i64 t.mx) ∧ w.cell? ⟨b, 8, none⟩ = some (.int .i64 t.num)) :=
  ⟨(h.cell 0).trans rfl, (h.cell 1).trans rfl, (h.cell 2).trans rfl, (h.cell 3).trans rfl, (h.cell 4).trans rfl, (h.cell 5).trans rfl, (h.cell 6).trans rfl, (h.cell 7).trans rfl, (h.cell 8).trans rfl⟩
/-- A tree in its box. -/
structure HoldTr (w0 : World) (p : Nat) (t : Tr) (a : Option Addr) (cap : Nat) (w' : World) : Prop where
  below : Below w0.heap.size w0 w'
  blk : Blk w' p (tC t a cap) 39
abbrev ReadTr (w0 : World) (p : Nat) (t : Tr) (a : Option Addr) (cap : Nat) (w' : World) : Prop :=
  (w'.cell? ⟨p, 0, none⟩ = some (.int .i64 t.kind) ∧ w'.cell? ⟨p, 1, none⟩ = some (.int .u64 (ow t.set 0)) ∧ w'.cell? ⟨p, 2, none⟩ = some (.int .u64 (ow t.set 1)) ∧ w'.cell? ⟨p, 3, none⟩ = some (.int .u64 (ow t.set 2)) ∧ w'.cell? ⟨p, 4, none⟩ = some (.int .u64 (ow t.set 3)) ∧
  w'.cell? ⟨p, 5, none⟩ = some (.slice a t.parts.length cap) ∧ w'.cell? ⟨p, 6, none⟩ = some (.int .i64 t.mn) ∧ w'.cell? ⟨p, 7, none⟩ = some (.int .i64 t.mx) ∧ w'.cell? ⟨p, 8, none⟩ = some (.int .i64 t.num)) ∧ HoldTr w0 p t a cap w'
theorem HoldTr.all {w0 : World} {p : Nat} {t : Tr} {a : Option Addr} {cap : Nat} {w' : World} (h : HoldTr w0 p t a cap w') : ReadTr w0 p t a cap w' := ⟨blk9c6 h.blk, h⟩
theorem readtr_step {w0 : World} {p : Nat} {t : Tr} {a : Option Addr} {cap : Nat} {W W' : World} (hb : Below W.heap.size W W') (h : ReadTr w0 p t a cap W) : ReadTr w0 p t a cap W' := HoldTr.all ⟨h.2.below.trans (hb.mono h.2.below.size), h.2.blk.below hb h.2.blk.lt⟩
theorem readtr_drew {w0 : World} {p : Nat} {t : Tr} {a : Option Addr} {cap : Nat} {W : World} (h : ReadTr w0 p t a cap W) : ReadTr w0 p t a cap W.drew := HoldTr.all ⟨h.2.below.drew, h.2.blk⟩
theorem trd_of6 {n : Nat} {w : World} {t : Tr} {a : Option Addr} {cap : Nat} (h : TrAt n w t a cap) : TrD (2 * n + 1) w t a cap := ⟨n, h, by have := kb_le t; omega⟩
set_option linter.unusedSimpArgs false in
set_option maxRecDepth 100000 in
set_option maxHeartbeats 4000000 in
theorem showtrees_any (n : Nat) (t : Tr) (a : Option Addr) (cap : Nat) (w : World) (ht : TrAt n w t a cap) (hb : tall t ≤ 1048576) (hG : G6 w) : Calls Tryz.prog 5 #[tV t a cap] w fun e w' => e = .returned (.bool true) ∧ Below w.heap.size w w' := by
  have h0 := (show HoldTr w w.heap.size t a cap (w.alloc (.cells (tC t a cap) 39)) from ⟨(Below.refl w.heap.size w).alloc (Nat.le_refl _) _, Blk.new w _ _ _ rfl⟩)
  have haw := awake6_any _ (hG.up h0.below)
  have hfw := fun W (h : HoldTr w w.heap.size t a cap W) => lfew_any n t a cap 60 W (TrAt.below h.below _ _ _ _ ht) (by omega)
  have haw2 := fun W (h : HoldTr w w.heap.size t a cap W) => awake6_any W (hG.up h.below)
  have hD := trd_of6 ht
  have hrl := fun W (h : HoldTr w w.heap.size t a cap W) => lreal_any _ t a cap W (hD.below h.below) (by have := nsize_tall t; omega)
  have her := fun (hz : nsize (canon t) ≤ 2900) W (h : HoldTr w w.heap.size t a cap W) (v : Value) (hv : NdX (fun k => k < W.heap.size) W (canon t) v) => shere_any (canon t) v W hv hz (hG.up h.below).tbl
  have hrr := fun (hz : nsize (canon t) ≤ 2900) (hk : tknown t = true) W (h : HoldTr w w.heap.size t a cap W) => rEre_any _ t a cap W (hD.below h.below) hk (by omega)
  have hall0 := h0.all
  have hsz := nsize_tall t
  unfold tV at hfw hrl hrr ⊢
  clear hG h0 ht hD
  go_enter Tryz.func5, Tryz.ntmps5
  go_wp2_with fail
  refine haw.mono ?_
  rintro e w1 ⟨rfl, b1⟩
  have hall := readtr_step b1 hall0
  clear haw hall0 b1
  obtain ⟨⟨c0, c1, c2, c3, c4, c5, c6, c7, c8⟩, hH⟩ := id hall
  go_wp2_with fail
  refine (hfw _ hH).mono ?_
  rintro e w2 ⟨rfl, b2⟩
  replace hall := readtr_step b2 hall
  clear c0 c1 c2 c3 c4 c5 c6 c7 c8 hH b2 hfw
  obtain ⟨⟨c0, c1, c2, c3, c4, c5, c6, c7, c8⟩, hH⟩ := id hall
  cases hf : (decide (tall t ≤ 60) && tknown t) with
  | false =>
    have ha2 := haw2 _ hH
    go_wp2_with fail
    refine ha2.mono ?_
    rintro e w3 ⟨rfl, b3⟩
    go_wp2_with fail
    go_ret
    exact ⟨rfl, hH.below.trans (b3.mono hH.below.size)⟩
  | true =>
    rw [Bool.and_eq_true, decide_eq_true_eq] at hf
    obtain ⟨hf1, hf2⟩ := hf
    obtain ⟨X, hX⟩ : ∃ X : ByteArray, X = ⟨(ereT (canon t)).toArray⟩ := ⟨_, rfl⟩
    have her2 := her (by omega)
    have hrr2 := fun W (h : HoldTr w w.heap.size t a cap W) => (hrr (by omega) hf2 W h).mono (R' := fun e w' => e = .returned (.string X) ∧ Below W.heap.size W w') fun e w' ⟨⟨S, he, hS⟩, hb⟩ => ⟨by rw [he, hX, ba_of hS], hb⟩
    rw [← hX] at her2
    clear her hrr hX hf1 hf2 haw2 c0 c1 c2 c3 c4 c5 c6 c7 c8 hH
    go_upto_region 3 with fail
    go_region_held3 (fun w' => (w'.cell? ⟨w.heap.size, 0, none⟩ = some (.int .i64 t.kind) ∧ w'.cell? ⟨w.heap.size, 1, none⟩ = some (.int .u64 (ow t.set 0)) ∧ w'.cell? ⟨w.heap.size, 2, none⟩ = some (.int .u64 (ow t.set 1)) ∧ w'.cell? ⟨w.heap.size, 3, none⟩ = some (.int .u64 (ow t.set 2)) ∧ w'.cell? ⟨w.heap.size, 4, none⟩ = some (.int .u64 (ow t.set 3)) ∧ w'.cell? ⟨w.heap.size, 5, none⟩ = some (.slice a t.parts.length cap) ∧ w'.cell? ⟨w.heap.size, 6, none⟩ = some (.int .i64 t.mn) ∧ w'.cell? ⟨w.heap.size, 7, none⟩ = some (.int .i64 t.mx) ∧ w'.cell? ⟨w.heap.size, 8, none⟩ = some (.int .i64 t.num)) ∧ HoldTr w w.heap.size t a cap w') (first | with_reducible exact hall | with_reducible exact readtr_step hbX (by assumption) | with_reducible exact readtr_drew (by assumption))
      (first | (go_at_call 15; refine (hrl _ (by go_split_ands; assumption)).mono ?_; rintro e w' ⟨T, v, rfl, hnd, hbX⟩; have hnx := ndx_in ⟨_, hnd⟩; have hnxd := hnx.drew) | (go_at_call 14; refine (her2 _ (by go_split_ands; assumption) _ (by first | exact hnx | exact hnxd)).mono ?_; rintro e w' ⟨rfl, hbX⟩) | (go_at_call 16; refine (hrr2 _ (by go_split_ands; assumption)).mono ?_; rintro e w' ⟨rfl, hbX⟩))
    go_wp2
    go_ret
    go_split_ands
    exact ⟨rfl, HoldTr.below (by assumption)⟩
end Go.Proofs.YtpmeicclngckeaaGreatDoor
