/- The proof's texts AdOp, TrFew, AdOq, TrSameB, AdOs, NdAo: what the claim reaches of them. -/
import Derived.Test.YtjbnogjkgmkagaaGreatDoorAs02
import Derived.Test.YtjbnogjkgmkagaaGreatDoorAs01
import Derived.Deep.CutBlock
import Derived.Test.YtjbnogjkgmkagaaGreatDoorRows
import Derived.WalkKit
import Derived.Maps.AppendAt
import Derived.Deep.RegionLaw
import Derived.Laws.OwnMore
namespace Go.Proofs.YtjbnogjkgmkagaaGreatDoor
open Go.ChangeShapes Go.WideShapes Go.ChangeAt Go.RowKit
def daC (kd ln : Int) (s : ByteArray) (t : Tr) (a : Option Addr) (cap : Nat) : List Value := [.int .i64 kd, .int .i64 ln, .string s, .int .i64 t.kind, .int .u64 (ow t.set 0), .int .u64 (ow t.set 1), .int .u64 (ow t.set 2), .int .u64 (ow t.set 3), .slice a t.parts.length cap, .int .i64 t.mn, .int .i64 t.mx, .int .i64 t.num]
set_option maxRecDepth 100000 in
theorem open_da {H : Type} {enc : TypeId × Value → H} {w : World} {base : Nat} {spare : Nat → Bool} {held : Bool} (fuel : Nat) (cs : List Value) (x : DataW H × List MemPlace)
  (h : DataW.trod enc Tryz.prog w base spare held fuel 29 cs = some x) : ∃ kd ln s t a cap n, cs = daC kd ln s t a cap ∧ TrAt n w t a cap ∧ tall t ≤ Rows.uptoBulk x.1 ∧ s.size ≤ maxLen ∧ (Lit.int .i64 kd).wf = true ∧ (Lit.int .i64 ln).wf = true := by
 obtain ⟨xs, n, hf, hxe, hlen, hxl, hx⟩ := DataW.trod_struct Tryz.underlying29 h
 have hcA : Tryz.prog.cellsOf 29 = 12 := by kernel_rfl
 rw [hcA] at hlen
 obtain ⟨c0, c1, c2, c3, c4, c5, c6, c7, c8, c9, c10, c11, rfl⟩ : ∃ c0 c1 c2 c3 c4 c5 c6 c7 c8 c9 c10 c11, cs = [c0, c1, c2, c3, c4, c5, c6, c7, c8, c9, c10, c11] := by
  match cs, hlen with
  | [c0, c1, c2, c3, c4, c5, c6, c7, c8, c9, c10, c11], _ => exact ⟨c0, c1, c2, c3, c4, c5, c6, c7, c8, c9, c10, c11, rfl⟩
 have ci : Tryz.prog.cellsOf 3 = 1 := by kernel_rfl
 have cs1 : Tryz.prog.cellsOf 9 = 1 := by kernel_rfl
 have ct : Tryz.prog.cellsOf 27 = 9 := by kernel_rfl
 have hxl4 : xs.length = 4 := hxl
 have h0 : DataW.trod enc Tryz.prog w base spare held n 3 (([c0, c1, c2, c3, c4, c5, c6, c7, c8, c9, c10, c11].drop 0).take (Tryz.prog.cellsOf 3)) = xs[0]? := hx 0 _ rfl
 rw [ci, List.getElem?_eq_getElem (show 0 < xs.length by omega)] at h0
 replace h0 : DataW.trod enc Tryz.prog w base spare held n 3 [c0] = some (xs[0]'(by omega)) := h0
 have h1 : DataW.trod enc Tryz.prog w base spare held n 3 (([c0, c1, c2, c3, c4, c5, c6, c7, c8, c9, c10, c11].drop 1).take (Tryz.prog.cellsOf 3)) = xs[1]? := hx 1 _ rfl
 rw [ci, List.getElem?_eq_getElem (show 1 < xs.length by omega)] at h1
 replace h1 : DataW.trod enc Tryz.prog w base spare held n 3 [c1] = some (xs[1]'(by omega)) := h1
 have h2 : DataW.trod enc Tryz.prog w base spare held n 9 (([c0, c1, c2, c3, c4, c5, c6, c7, c8, c9, c10, c11].drop 2).take (Tryz.prog.cellsOf 9)) = xs[2]? := hx 2 _ rfl
 rw [cs1, List.getElem?_eq_getElem (show 2 < xs.length by omega)] at h2
 replace h2 : DataW.trod enc Tryz.prog w base spare held n 9 [c2] = some (xs[2]'(by omega)) := h2
 have h3 : DataW.trod enc Tryz.prog w base spare held n 27 (([c0, c1, c2, c3, c4, c5, c6, c7, c8, c9, c10, c11].drop 3).take (Tryz.prog.cellsOf 27)) = xs[3]? := hx 3 _ rfl
 rw [ct, List.getElem?_eq_getElem (show 3 < xs.length by omega)] at h3
 replace h3 : DataW.trod enc Tryz.prog w base spare held n 27 [c3, c4, c5, c6, c7, c8, c9, c10, c11] = some (xs[3]'(by omega)) := h3
 obtain ⟨z0, e0, _, w0⟩ := DataW.trod_int Tryz.underlying3 h0
 obtain ⟨z1, e1, _, w1⟩ := DataW.trod_int Tryz.underlying3 h1
 obtain ⟨s, e2, _, hs⟩ := DataW.trod_string Tryz.underlying9 h2
 obtain ⟨t, a, cap, m, e3, hT, hb⟩ := open_tr n _ _ h3
 simp only [List.cons.injEq, and_true] at e0 e1 e2 e3
 obtain ⟨rfl, rfl, rfl, rfl, rfl, rfl, rfl, rfl, rfl⟩ := e3
 subst e0 e1 e2
 have hbk := bulk_mem (xs.map (·.1)) 3 (by rw [List.length_map]; omega)
 rw [List.getElem_map] at hbk
 have hxb : Rows.uptoBulk x.1 = Rows.uptoBulkAll (xs.map (·.1)) + 1 := by rw [hxe]; rfl
 exact ⟨z0, z1, s, t, a, cap, m, rfl, hT, by omega, hs, w0, w1⟩
set_option maxRecDepth 100000 in
/-- An argument of a guard's type is one. -/
theorem open_dg {H : Type} {enc : TypeId × Value → H} {w : World} {r : Reach} {b0 base : Nat} {spare : Nat → Bool} {held : Bool} {v : Value} {d : DataW H} {p : List MemPlace}
  (hv : Value.okWide Tryz.prog w r b0 31 v) (h : DataW.Trod enc Tryz.prog w base spare held 31 v d p) :
  ∃ ka la sa ta aa ca na kb lb sb tb ab cb nb no, v = .agg (daC ka la sa ta aa ca ++ daC kb lb sb tb ab cb ++ [Value.bool no]).toArray ∧ TrAt na w ta aa ca ∧ TrAt nb w tb ab cb ∧ tall ta ≤ Rows.uptoBulk d ∧ tall tb ≤ Rows.uptoBulk d ∧ sa.size ≤ maxLen ∧ sb.size ≤ maxLen ∧ ((Lit.int .i64 ka).wf = true ∧ (Lit.int .i64 la).wf = true) ∧ (Lit.int .i64 kb).wf = true ∧ (Lit.int .i64 lb).wf = true := by
 simp only [Value.okWide, Tryz.underlying31] at hv
 obtain ⟨cs, rfl, _, _⟩ := hv
 obtain ⟨fuel, hf⟩ := h
 obtain ⟨L, hL⟩ : ∃ L, cs.toList = L := ⟨_, rfl⟩
 replace hf : DataW.trod enc Tryz.prog w base spare held fuel 31 cs.toList = some (d, p) := hf
 rw [hL] at hf
 obtain ⟨xs, n, _, hxe, hlen, hxl, hx⟩ := DataW.trod_struct Tryz.underlying31 hf
 have hcG : Tryz.prog.cellsOf 31 = 25 := by kernel_rfl
 have hcA : Tryz.prog.cellsOf 29 = 12 := by kernel_rfl
 have hcb : Tryz.prog.cellsOf 4 = 1 := by kernel_rfl
 rw [hcG] at hlen
 have hxl3 : xs.length = 3 := hxl
 have h0 : DataW.trod enc Tryz.prog w base spare held n 29 ((L.drop 0).take (Tryz.prog.cellsOf 29)) = xs[0]? := hx 0 _ rfl
 have h1 : DataW.trod enc Tryz.prog w base spare held n 29 ((L.drop 12).take (Tryz.prog.cellsOf 29)) = xs[1]? := hx 1 _ rfl
 have h2 : DataW.trod enc Tryz.prog w base spare held n 4 ((L.drop 24).take (Tryz.prog.cellsOf 4)) = xs[2]? := hx 2 _ rfl
 rw [hcA, List.getElem?_eq_getElem (show 0 < xs.length by omega)] at h0
 rw [hcA, List.getElem?_eq_getElem (show 1 < xs.length by omega)] at h1
 rw [hcb, List.getElem?_eq_getElem (show 2 < xs.length by omega)] at h2
 obtain ⟨ka, la, sa, ta, aa, ca, na, e0, hA, ba, sA, wa⟩ := open_da n _ _ h0
 obtain ⟨kb, lb, sb, tb, ab, cb, nb, e1, hB, bb, sB, wb⟩ := open_da n _ _ h1
 obtain ⟨no, e2, _⟩ := DataW.trod_bool Tryz.underlying4 h2
 have hbk0 := bulk_mem (xs.map (·.1)) 0 (by rw [List.length_map]; omega)
 have hbk1 := bulk_mem (xs.map (·.1)) 1 (by rw [List.length_map]; omega)
 rw [List.getElem_map] at hbk0 hbk1
 have hxb : Rows.uptoBulk d = Rows.uptoBulkAll (xs.map (·.1)) + 1 := by
  have h9 := congrArg Prod.fst hxe
  simp only at h9
  rw [h9]; rfl
 refine ⟨ka, la, sa, ta, aa, ca, na, kb, lb, sb, tb, ab, cb, nb, no, ?_, hA, hB, by omega, by omega, sA, sB, ⟨wa.1, wa.2⟩, wb.1, wb.2⟩
 rw [← e0, ← e1, ← e2, List.drop_zero]
 have h3 : L.take 12 ++ (L.drop 12).take 12 ++ (L.drop 24).take 1 = L := by
  have g1 : (L.drop 24).take 1 = L.drop 24 := List.take_of_length_le (by rw [List.length_drop]; omega)
  have g2 : (L.drop 12).take 12 ++ L.drop 24 = L.drop 12 := by
   have := List.take_append_drop 12 (L.drop 12)
   rwa [List.drop_drop] at this
  rw [g1, List.append_assoc, g2, List.take_append_drop]
 rw [h3, ← hL]
end Go.Proofs.YtjbnogjkgmkagaaGreatDoor
namespace Go.Proofs.YtjbnogjkgmkagaaGreatDoor
open Go.RowKit
set_option linter.unusedSimpArgs false in
set_option maxRecDepth 100000 in
set_option maxHeartbeats 1000000 in
theorem lfew_any (n : Nat) (t : Tr) (a : Option Addr) (cap : Nat) (most : Nat) (w : World) (h : TrAt n w t a cap) (hb : tall t ≤ 4000000) :
  Calls Tryz.prog 26 #[tV t a cap, .int .i64 (most : Int)] w fun e w' => e = .returned (.bool (decide (tall t ≤ most) && tknown t)) ∧ Below w.heap.size w w' := by
 have hT := (Blk.new w (tC t a cap) 27 _ rfl)
 have hW := (Below.refl w.heap.size w).alloc (Nat.le_refl _) (.cells (tC t a cap) 27)
 have hS := lsize_any n t a cap _ (TrAt.below hW _ _ _ _ h) hb
 have hKn := fun w' (hb : Below w.heap.size w w') => lknown_any n t a cap w' (TrAt.below hb _ _ _ _ h)
 unfold tV at hS hKn ⊢
 clear h
 go_enter Tryz.func26, Tryz.ntmps26
 go_wp2_with fail
 refine hS.mono ?_
 clear hS
 rintro e w1 ⟨rfl, b1⟩
 replace hW := hW.trans (b1.mono hW.size)
 replace hT := hT.below b1 hT.lt
 clear b1
 have q0 := (hT.cell 0).trans rfl
 have q1 := (hT.cell 1).trans rfl
 have q2 := (hT.cell 2).trans rfl
 have q3 := (hT.cell 3).trans rfl
 have q4 := (hT.cell 4).trans rfl
 have q5 := (hT.cell 5).trans rfl
 have q6 := (hT.cell 6).trans rfl
 have q7 := (hT.cell 7).trans rfl
 have q8 := (hT.cell 8).trans rfl
 by_cases hm : tall t ≤ most
 ·have e1 : decide ((tall t : Int) ≤ (most : Int)) = true := decide_eq_true (by omega)
  have e2 : decide (tall t ≤ most) = true := decide_eq_true hm
  have He := Lib.hid e2
  clear hm hb
  go_wp2_with fail
  refine (hKn _ hW).mono ?_
  rintro e w2 ⟨rfl, b2⟩
  replace hW := hW.trans (b2.mono hW.size)
  go_wp2_with fail
  go_ret
  exact ⟨tr_ret_bool (by rw [He.out, Bool.true_and]), hW⟩
 ·have e1 : decide ((tall t : Int) ≤ (most : Int)) = false := decide_eq_false (by omega)
  have e2 : decide (tall t ≤ most) = false := decide_eq_false hm
  have He := Lib.hid e2
  clear hm hb
  go_wp2_with fail
  go_ret
  exact ⟨tr_ret_bool (by rw [He.out]; rfl), hW⟩
end Go.Proofs.YtjbnogjkgmkagaaGreatDoor
namespace Go.Proofs.YtjbnogjkgmkagaaGreatDoor
open Go Go.RowKit
theorem blk12v {w : World} {b : Nat} {T : TypeId} {v0 v1 v2 v3 v4 v5 v6 v7 v8 v9 va vb : Value} (h : Blk w b #[v0, v1, v2, v3, v4, v5, v6, v7, v8, v9, va, vb] T) :
  (w.cell? ⟨b, 0, none⟩ = some v0 ∧ w.cell? ⟨b, 1, none⟩ = some v1 ∧ w.cell? ⟨b, 2, none⟩ = some v2) ∧
  (w.cell? ⟨b, 3, none⟩ = some v3 ∧ w.cell? ⟨b, 4, none⟩ = some v4 ∧ w.cell? ⟨b, 5, none⟩ = some v5 ∧ w.cell? ⟨b, 6, none⟩ = some v6 ∧ w.cell? ⟨b, 7, none⟩ = some v7 ∧ w.cell? ⟨b, 8, none⟩ = some v8 ∧ w.cell? ⟨b, 9, none⟩ = some v9 ∧ w.cell? ⟨b, 10, none⟩ = some va ∧ w.cell? ⟨b, 11, none⟩ = some vb) ∧ b < w.heap.size :=
 ⟨⟨(h.cell 0).trans rfl, (h.cell 1).trans rfl, (h.cell 2).trans rfl⟩, ⟨(h.cell 3).trans rfl, (h.cell 4).trans rfl, (h.cell 5).trans rfl, (h.cell 6).trans rfl, (h.cell 7).trans rfl, (h.cell 8).trans rfl, (h.cell 9).trans rfl, (h.cell 10).trans rfl, (h.cell 11).trans rfl⟩, h.lt⟩
def daA (kd ln : Int) (s : ByteArray) (t : Tr) (a : Option Addr) (cap : Nat) : Array Value := #[.int .i64 kd, .int .i64 ln, .string s, .int .i64 t.kind, .int .u64 (ow t.set 0), .int .u64 (ow t.set 1), .int .u64 (ow t.set 2), .int .u64 (ow t.set 3), .slice a t.parts.length cap, .int .i64 t.mn, .int .i64 t.mx, .int .i64 t.num]
set_option linter.unusedVariables false in
set_option linter.unusedSimpArgs false in
set_option maxRecDepth 100000 in
set_option maxHeartbeats 4000000 in
theorem dfew_any (n : Nat) (kd ln : Int) (s : ByteArray) (t : Tr) (a : Option Addr) (cap : Nat) (w : World) (h : TrAt n w t a cap) (hb : tall t ≤ 4000000) :
  Calls Tryz.prog 11 #[.agg (daA kd ln s t a cap)] w fun e w' => e = .returned (.bool (decide (0 ≤ kd) && (decide (kd ≤ 4) && ((decide (tall t ≤ 60) && tknown t) && decide (s.size ≤ 300))))) ∧ Below w.heap.size w w' := by
 have hX := Blk.new w (daA kd ln s t a cap) 29 _ rfl
 have hW := (Below.refl w.heap.size w).alloc (Nat.le_refl _) (.cells (daA kd ln s t a cap) 29)
 have hS := lfew_any n t a cap 60 _ (TrAt.below hW _ _ _ _ h) hb
 unfold daA at hX hW hS ⊢
 unfold tV at hS
 obtain ⟨W1, hW1⟩ : ∃ W1, w.alloc (.cells #[.int .i64 kd, .int .i64 ln, .string s, .int .i64 t.kind, .int .u64 (ow t.set 0), .int .u64 (ow t.set 1), .int .u64 (ow t.set 2), .int .u64 (ow t.set 3), .slice a t.parts.length cap, .int .i64 t.mn, .int .i64 t.mx, .int .i64 t.num] 29) = W1 := ⟨_, rfl⟩
 rw [hW1] at hX hW hS
 obtain ⟨⟨x0, x1, x2⟩, ⟨x3, x4, x5, x6, x7, x8, x9, xa, xb⟩, hxl⟩ := blk12v hX
 have HB := Lib.hid hW
 clear hX hW h
 obtain ⟨R, hR⟩ : ∃ R, (decide (tall t ≤ 60) && tknown t) = R := ⟨_, rfl⟩
 rw [hR] at hS ⊢
 obtain ⟨q0, h0⟩ : ∃ q, decide (0 ≤ kd) = q := ⟨_, rfl⟩
 obtain ⟨q1, h1⟩ : ∃ q, decide (kd ≤ 4) = q := ⟨_, rfl⟩
 obtain ⟨q2, h2⟩ : ∃ q, decide (s.size ≤ 300) = q := ⟨_, rfl⟩
 have h2' : decide ((s.size : Int) ≤ 300) = q2 := by rw [← h2]; exact decide_eq_decide.2 (by omega)
 rw [h0, h1, h2]
 cases q0 <;> cases q1 <;> cases R <;> cases q2
 all_goals
  go_enter Tryz.func11, Tryz.ntmps11
  go_wp2_with (go_at_call 26; refine hS.mono ?_; clear hS; rintro e w3 ⟨rfl, b3⟩; replace x2 : w3.cell? ⟨w.heap.size, 2, none⟩ = some (.string s) := (b3.cell (p := ⟨_, 2, none⟩) hxl).trans x2; clear x0 x1 x3 x4 x5 x6 x7 x8 x9 xa xb)
  go_ret
  first
   | exact ⟨rfl, HB.out⟩
   | exact ⟨rfl, HB.out.trans (b3.mono HB.out.size)⟩
end Go.Proofs.YtjbnogjkgmkagaaGreatDoor
namespace Go.Proofs.YtjbnogjkgmkagaaGreatDoor
open Go Go.RowKit
theorem same_kind_ne (t u : Tr) (ht : tknown t = true) (hu : tknown u = true) (h : t.kind ≠ u.kind) : nsame (canon t) (canon u) = false := by
 rcases canon_cases t ht with ⟨k, e⟩ | ⟨k, _, e⟩ | ⟨k, _, e⟩ | ⟨k, _, e⟩ | ⟨k, _, _, _, e⟩ | ⟨k, _, _, e⟩ | ⟨k, _, e⟩ | ⟨k, e⟩ | ⟨k, e⟩ <;>
 rcases canon_cases u hu with ⟨k', e'⟩ | ⟨k', _, e'⟩ | ⟨k', _, e'⟩ | ⟨k', _, e'⟩ | ⟨k', _, _, _, e'⟩ | ⟨k', _, _, e'⟩ | ⟨k', _, e'⟩ | ⟨k', e'⟩ | ⟨k', e'⟩ <;>
 first
 | (exfalso; omega)
 | (rw [e, e']; simp [nsame])
theorem same_one (t u : Tr) (h : t.kind = 1) (h2 : u.kind = 1) : nsame (canon t) (canon u) = decide (t.set = u.set) := by
 rw [canon_1 t h, canon_1 u h2]; rfl
structure SHd (t u : Tr) (l m : List Tr) (R : Bool) : Prop where
 kt : 0 ≤ t.kind ∧ t.kind ≤ 8
 ne : t.kind ≠ u.kind → R = false
 one : t.kind = 1 → u.kind = 1 → R = decide (t.set = u.set)
 rep : t.kind = 4 → u.kind = 4 → R = (decide (t.mn = u.mn) && decide (t.mx = u.mx) && nsames (l.map canon) (m.map canon))
 grp : (t.kind = 5 ∨ t.kind = 6) → t.kind = u.kind → R = (decide (t.num = u.num) && nsames (l.map canon) (m.map canon))
 oth : (t.kind = 0 ∨ t.kind = 2 ∨ t.kind = 3 ∨ t.kind = 7 ∨ t.kind = 8) → t.kind = u.kind → R = nsames (l.map canon) (m.map canon)
 kn : (∀ i (h : i < l.length), tknown l[i] = true) ∧ (∀ i (h : i < m.length), tknown m[i] = true)
theorem shd_mk (t u : Tr) (ht : tknown t = true) (hu : tknown u = true) : SHd t u (tkids t) (tkids u) (nsame (canon t) (canon u)) := by
 have hk := nsame_kids (canon t) (canon u)
 rw [canon_kids, canon_kids] at hk
 refine ⟨known_kind t ht, same_kind_ne t u ht hu, same_one t u, fun h h2 => ?_, fun h h2 => ?_, fun h h2 => ?_, known_kids t ht, known_kids u hu⟩
 ·rw [hk]
  congr 1
  rw [(canon_4 t h).1, (canon_4 u h2).1]; rfl
 ·rw [hk]
  congr 1
  rcases h with h | h
  ·rw [(canon_5 t h).1, (canon_5 u (by omega)).1]; rfl
  ·rw [canon_6 t h, canon_6 u (by omega)]; rfl
 ·rw [hk]
  have hh : nhead (canon t) (canon u) = true := by
   rcases h with h | h | h | h | h
   ·rw [canon_0 t (by omega) (by omega) (by omega) (by omega) (by omega) (by omega) (by omega) (by omega), canon_0 u (by omega) (by omega) (by omega) (by omega) (by omega) (by omega) (by omega) (by omega)]; rfl
   ·rw [canon_2 t h, canon_2 u (by omega)]; rfl
   ·rw [canon_3 t h, canon_3 u (by omega)]; rfl
   ·rw [canon_7 t h, canon_7 u (by omega)]; rfl
   ·rw [canon_8 t h, canon_8 u (by omega)]; rfl
  rw [hh, Bool.true_and]
set_option linter.unusedSimpArgs false in
set_option maxRecDepth 100000 in
set_option maxHeartbeats 8000000 in
theorem rsame_any : ∀ (N : Nat) (t : Tr) (a : Option Addr) (cap : Nat) (u : Tr) (a2 : Option Addr) (cap2 : Nat) (w : World), TrD N w t a cap → TrD N w u a2 cap2 → tknown t = true → tknown u = true →
  Calls Tryz.prog 29 #[tV t a cap, tV u a2 cap2] w fun e w' => e = .returned (.bool (nsame (canon t) (canon u))) ∧ Below w.heap.size w w' := by
 intro N
 induction N with
 | zero => intro t a cap u a2 cap2 w h; exact (trd_zero h).elim
 | succ N ih0 =>
  intro t a cap u a2 cap2 w h h2 hkt hku
  have hW := ((Below.refl w.heap.size w).alloc (Nat.le_refl _) (.cells (tC t a cap) 27)).alloc (by simp) (.cells (tC u a2 cap2) 27)
  have hK1 := fun w' (hb : Below w.heap.size w w') => kids_any N t a cap w' (h.below hb)
  have hK2 := fun w' (hb : Below w.heap.size w w') => kids_any N u a2 cap2 w' (h2.below hb)
  have hH := shd_mk t u hkt hku
  clear h h2 hkt hku
  generalize nsame (canon t) (canon u) = R at hH ⊢
  generalize tkids t = l at hK1 hH
  generalize tkids u = m at hK2 hH
  unfold tV at hK1 hK2 ⊢
  go_enter Tryz.func29, Tryz.ntmps29
  have hT := (Blk.new w (tC t a cap) 27 w.heap.size rfl).alloc (.cells (tC u a2 cap2) 27)
  have hU := Blk.new (w.alloc (.cells (tC t a cap) 27)) (tC u a2 cap2) 27 (w.heap.size + 1) (by simp)
  have hlU := hU.lt
  by_cases hke : t.kind = u.kind
  ·have b0 : (t.kind != u.kind) = false := by simp [hke]
   have Hke := Lib.hid hke
   clear hke
   go_upto_block 0 with fail
   go_cut [] (fun wx => R = nsames (l.map canon) (m.map canon) ∧ wx = (w.alloc (.cells (tC t a cap) 27)).alloc (.cells (tC u a2 cap2) 27))
   case first =>
    clear ih0 hK1 hK2
    rcases (show (t.kind = 0 ∨ t.kind = 2 ∨ t.kind = 3 ∨ t.kind = 7 ∨ t.kind = 8) ∨ t.kind = 1 ∨ t.kind = 4 ∨ t.kind = 5 ∨ t.kind = 6 by have := hH.kt; omega) with hk | hk | hk | hk | hk
    ·have HB := Lib.hid (hH.oth hk Hke.out)
     have e1 : (t.kind == 1) = false := by simp; omega
     have e4 : (t.kind == 4) = false := by simp; omega
     have e5 : (t.kind == 5) = false := by simp; omega
     have e6 : (t.kind == 6) = false := by simp; omega
     clear hk
     go_wp2_with fail
     all_goals go_meet
     all_goals exact ⟨HB.out, rfl⟩
    ·have HB := Lib.hid (hH.one hk (by rw [← Hke.out, hk]))
     have e1 : (t.kind == 1) = true := by simp [hk]
     have hq := fun w => rset_eql t.set u.set w
     generalize decide (t.set = u.set) = q at hq HB
     clear hk
     go_wp2_with fail
     go_ret
     exact ⟨tr_ret_bool (by rw [HB.out]), hW⟩
    ·have hB := hH.rep hk (by rw [← Hke.out, hk])
     have e1 : (t.kind == 1) = false := by simp; omega
     have e4 : (t.kind == 4) = true := by simp [hk]
     clear hk
     by_cases q1 : t.mn = u.mn
     ·have f1 : (t.mn != u.mn) = false := by simp [q1]
      by_cases q2 : t.mx = u.mx
      ·have f2 : (t.mx != u.mx) = false := by simp [q2]
       have HB := Lib.hid (show R = nsames (l.map canon) (m.map canon) by rw [hB, decide_eq_true q1, decide_eq_true q2]; rfl)
       clear q1 q2 hB
       go_wp2_with fail
       all_goals go_meet
       all_goals exact ⟨HB.out, rfl⟩
      ·have f2 : (t.mx != u.mx) = true := by simp [q2]
       have HB := Lib.hid (show R = false by rw [hB, decide_eq_false q2, Bool.and_false]; rfl)
       clear q1 q2 hB
       go_wp2_with fail
       go_ret
       exact ⟨tr_ret_bool (by rw [HB.out]), hW⟩
     ·have f1 : (t.mn != u.mn) = true := by simp [q1]
      have HB := Lib.hid (show R = false by rw [hB, decide_eq_false q1]; rfl)
      clear q1 hB
      go_wp2_with fail
      go_ret
      exact ⟨tr_ret_bool (by rw [HB.out]), hW⟩
    all_goals
     have hB := hH.grp (by omega) Hke.out
     have e1 : (t.kind == 1) = false := by simp; omega
     have e4 : (t.kind == 4) = false := by simp; omega
     first | (have e5 : (t.kind == 5) = true := by simp [hk]) | (have e5 : (t.kind == 5) = false := by simp; omega)
     try have e6 : (t.kind == 6) = true := by simp [hk]
     clear hk
     by_cases q1 : t.num = u.num
     ·have f1 : (t.num != u.num) = false := by simp [q1]
      have HB := Lib.hid (show R = nsames (l.map canon) (m.map canon) by rw [hB, decide_eq_true q1]; rfl)
      clear q1 hB
      go_wp2_with fail
      all_goals go_meet
      all_goals exact ⟨HB.out, rfl⟩
     ·have f1 : (t.num != u.num) = true := by simp [q1]
      have HB := Lib.hid (show R = false by rw [hB, decide_eq_false q1]; rfl)
      clear q1 hB
      go_wp2_with fail
      go_ret
      exact ⟨tr_ret_bool (by rw [HB.out]), hW⟩
   case rest =>
    obtain ⟨hRn, rfl⟩ := hcut
    have HRn := Lib.hid hRn
    have HKN := Lib.hid hH.kn
    clear hRn hH Hke b0
    go_upto_region 13 with fail
    go_cut [5, 6] (fun x y wx => ∃ a1 c1 a3 c3, x = .slice a1 l.length c1 ∧ y = .slice a3 m.length c3 ∧ RowD N wx l a1 c1 ∧ RowD N wx m a3 c3 ∧ Below w.heap.size w wx)
    case first =>
     clear ih0 hT
     go_region_with (first | (go_at_call_of 44 (Tr.kind t); refine (hK1 _ (by first | exact hW | exact Below.drew hW)).mono ?_; rintro e w8 ⟨a1, c1, rfl, hR1, b8⟩; (first | replace hW := hW.trans (b8.mono hW.size) | replace hW := (Below.drew hW).trans (b8.mono hW.size)); (first | replace hU := hU.below b8 hU.lt | replace hU := (Blk.drew hU).below b8 hU.lt); (try clear b8); obtain ⟨q0, q1, q2, q3, q4, q5, q6, q7, q8⟩ := blk9 hU) | (go_at_call_of 44 (Tr.kind u); refine (hK2 _ (by first | exact hW | exact Below.drew hW)).mono ?_; rintro e w9 ⟨a3, c3, rfl, hR2, b9⟩; have hR1' := hR1.below b9; replace hW := hW.trans (b9.mono hW.size); (try clear b9)))
     all_goals go_wp2_with fail
     all_goals go_meet
     all_goals exact ⟨a1, c1, a3, c3, rfl, rfl, hR1', hR2, hW⟩
    case rest =>
     clear hW hU hlU hK1 hK2 hT
     obtain ⟨a1, c1, a3, c3, rfl, rfl, hR1, hR2, hW⟩ := hcut
     have hl1 := hR1.1
     have hl2 := hR1.2.1
     have hm1 := hR2.1
     have hm2 := hR2.2.1
     unfold maxLen at hl2 hm2
     have HR1 := Lib.hid hR1.2.2
     have HR2 := Lib.hid hR2.2.2
     clear hR1 hR2
     by_cases hln : l.length = m.length
     ·have e1 : ((l.length : Int) != (m.length : Int)) = false := by simp [hln]
      have Hln := Lib.hid hln
      clear hln
      go_wp2_with fail
      go_loopw [55] (fun i wr => ∃ k : Nat, k ≤ l.length ∧ i = .int .i64 k ∧ nsames ((l.map canon).take k) ((m.map canon).take k) = true ∧ Below wc.heap.size wc wr) (fun i _ => l.length - (intOf i).toNat)
      case atStart => exact ⟨0, by omega, rfl, rfl, Below.refl _ _⟩
      case round =>
       obtain ⟨k, hk, rfl, hsm, hV⟩ := hrel
       have Hsm := Lib.hid hsm
       clear hsm
       by_cases hlt : k < l.length
       ·obtain ⟨b, o, rfl, hbl, hx⟩ := HR1.out (by omega)
        have hkm : k < m.length := by have := Hln.out; omega
        obtain ⟨b', o', rfl, hbl', hx'⟩ := HR2.out (by omega)
        obtain ⟨a', cap', h9, hr⟩ := hx k hlt
        obtain ⟨a'', cap'', h9', hr'⟩ := hx' k (by omega)
        have Htk := Lib.hid (nsames_take (l.map canon) (m.map canon) (by simpa using Hln.out) k (by simpa using hlt) (by simp; omega))
        have Hno := Lib.hid (nsames_no (l.map canon) (m.map canon) k (by simpa using hlt) (by simp; omega))
        simp only [List.getElem_map] at Htk Hno
        replace h9 := h9.below hV hbl
        replace h9' := h9'.below hV hbl'
        replace hr := (hr.below hV).below (Below.drew (Below.refl _ _))
        replace hr' := (hr'.below hV).below (Below.drew (Below.refl _ _))
        obtain ⟨c0, c1, c2, c3, c4, c5, c6, c7, c8⟩ := h9
        obtain ⟨d0, d1, d2, d3, d4, d5, d6, d7, d8⟩ := h9'
        clear hx hx'
        have e3 : decide (k < m.length) = true := decide_eq_true hkm
        have hkx := HKN.out.1 k hlt
        have hky := HKN.out.2 k hkm
        generalize l[k] = x at *
        generalize m[k] = y at *
        have hI := ih0 x a' cap' y a'' cap'' _ hr hr' hkx hky
        unfold tV at hI
        cases hxy : nsame (canon x) (canon y)
        ·rw [hxy] at hI
         have Hr := Lib.hid (Hno.out hxy)
         clear hxy
         go_wp2_with fail
         go_region_with (go_at_call 29; refine hI.mono ?_; rintro e w8 ⟨rfl, b8⟩; have hV8 := (Below.drew hV).trans (b8.mono hV.size))
         all_goals go_wp2_with fail
         all_goals go_ret
         all_goals exact ⟨tr_ret_bool (by rw [HRn.out, Hr.out]), hW.trans (hV8.mono hW.size)⟩
        ·rw [hxy] at hI
         have Hr := Lib.hid (show nsames ((l.map canon).take (k + 1)) ((m.map canon).take (k + 1)) = true by rw [Htk.out, Hsm.out, hxy]; rfl)
         clear hxy
         go_wp2_with fail
         go_region_with (go_at_call 29; refine hI.mono ?_; rintro e w8 ⟨rfl, b8⟩; have hV8 := (Below.drew hV).trans (b8.mono hV.size))
         all_goals go_wp2_with fail
         all_goals
          go_roundw
          case rel => exact ⟨k + 1, by omega, by go_num, Hr.out, hV8⟩
          case measure => simp [intOf]; omega
       ·obtain rfl : k = l.length := by omega
        have Hr := Lib.hid (show nsames (l.map canon) (m.map canon) = true by
         have := Hsm.out
         rw [List.take_of_length_le (by simp), List.take_of_length_le (by have := Hln.out; simp; omega)] at this
         exact this)
        go_wp2_with fail
        go_ret
        exact ⟨tr_ret_bool (by rw [HRn.out, Hr.out]), hW.trans (hV.mono hW.size)⟩
     ·have e1 : ((l.length : Int) != (m.length : Int)) = true := by simp; omega
      have Hn := Lib.hid (nsames_len (l.map canon) (m.map canon) (by rw [List.length_map, List.length_map]; exact hln))
      go_wp2_with fail
      go_ret
      exact ⟨tr_ret_bool (by rw [HRn.out, Hn.out]), hW⟩
  ·have b0 : (t.kind != u.kind) = true := by simp [hke]
   have HB := Lib.hid (hH.ne hke)
   clear hke
   go_wp2_with fail
   go_ret
   exact ⟨tr_ret_bool (by rw [HB.out]), hW⟩
end Go.Proofs.YtjbnogjkgmkagaaGreatDoor
namespace Go.Proofs.YtjbnogjkgmkagaaGreatDoor
open Go Go.RowKit
def ddSame (ka kb : Int) (L R : Bool) : Bool := if ka = kb then (if ka = 1 ∨ ka = 4 then L else if ka = 3 then R else true) else false
set_option linter.unusedVariables false in
set_option linter.unusedSimpArgs false in
set_option maxRecDepth 100000 in
set_option maxHeartbeats 4000000 in
theorem dsame_any (N : Nat) (ka la kb lb : Int) (sa sb : ByteArray) (t u : Tr) (a a2 : Option Addr) (cap cap2 : Nat) (w : World) (h : TrD N w t a cap) (h2 : TrD N w u a2 cap2) (ht : tknown t = true) (hu : tknown u = true) :
  Calls Tryz.prog 16 #[.agg (daA ka la sa t a cap), .agg (daA kb lb sb u a2 cap2)] w fun e w' => e = .returned (.bool (ddSame ka kb (decide (la = lb)) (nsame (canon t) (canon u)))) ∧ Below w.heap.size w w' := by
 have hX := Blk.new w (daA ka la sa t a cap) 29 _ rfl
 have hb1 := (Below.refl w.heap.size w).alloc (Nat.le_refl _) (.cells (daA ka la sa t a cap) 29)
 obtain ⟨W1, hW1⟩ : ∃ W1, w.alloc (.cells (daA ka la sa t a cap) 29) = W1 := ⟨_, rfl⟩
 rw [hW1] at hX hb1
 have hY := Blk.new W1 (daA kb lb sb u a2 cap2) 29 _ rfl
 have hb2 := hb1.alloc hb1.size (.cells (daA kb lb sb u a2 cap2) 29)
 replace hX := hX.alloc (.cells (daA kb lb sb u a2 cap2) 29)
 obtain ⟨W2, hW2⟩ : ∃ W2, W1.alloc (.cells (daA kb lb sb u a2 cap2) 29) = W2 := ⟨_, rfl⟩
 rw [hW2] at hX hY hb2
 have hS := rsame_any N t a cap u a2 cap2 W2 (h.below hb2) (h2.below hb2) ht hu
 unfold daA at hX hY hW1 hW2 ⊢
 unfold tV at hS
 obtain ⟨p, hp⟩ : ∃ p, W1.heap.size = p := ⟨_, rfl⟩
 rw [hp] at hY
 obtain ⟨⟨x0, x1, x2⟩, ⟨x3, x4, x5, x6, x7, x8, x9, xa, xb⟩, hxl⟩ := blk12v hX
 obtain ⟨⟨y0, y1, y2⟩, ⟨y3, y4, y5, y6, y7, y8, y9, ya, yb⟩, hyl⟩ := blk12v hY
 have HB := Lib.hid hb2
 clear hX hY hb1 hb2 h h2 ht hu
 obtain ⟨R, hR⟩ : ∃ R, nsame (canon t) (canon u) = R := ⟨_, rfl⟩
 rw [hR] at hS ⊢
 clear hR
 by_cases hk : ka = kb
 ·have hkk : (ka != kb) = false := by simp [hk]
  by_cases h14 : ka = 1 ∨ ka = 4
  ·rw [show ddSame ka kb (decide (la = lb)) R = decide (la = lb) by unfold ddSame; rw [if_pos hk, if_pos h14]]
   have hl : (la == lb) = decide (la = lb) := by
    by_cases h : la = lb
    ·rw [decide_eq_true h]; simp [h]
    ·rw [decide_eq_false h]; simp; omega
   generalize decide (la = lb) = L at hl ⊢
   clear hS
   rcases h14 with h | h
   ·have q1 : (ka == 1) = true := by simp [h]
    clear h hk
    go_enter Tryz.func16, Tryz.ntmps16
    go_wp2_with fail
    go_ret
    exact ⟨rfl, HB.out⟩
   ·have q1 : (ka == 1) = false := by simp [h]
    have q4 : (ka == 4) = true := by simp [h]
    clear h hk
    go_enter Tryz.func16, Tryz.ntmps16
    go_wp2_with fail
    go_ret
    exact ⟨rfl, HB.out⟩
  ·have q1 : (ka == 1) = false := by simp; omega
   have q4 : (ka == 4) = false := by simp; omega
   by_cases h3 : ka = 3
   ·rw [show ddSame ka kb (decide (la = lb)) R = R by unfold ddSame; rw [if_pos hk, if_neg h14, if_pos h3]]
    have q3 : (ka == 3) = true := by simp [h3]
    clear hk h14 h3
    go_enter Tryz.func16, Tryz.ntmps16
    go_wp2_with (go_at_call 29; refine hS.mono ?_; clear hS; rintro e w3 ⟨rfl, b3⟩)
    go_ret
    exact ⟨rfl, HB.out.trans (b3.mono HB.out.size)⟩
   ·rw [show ddSame ka kb (decide (la = lb)) R = true by unfold ddSame; rw [if_pos hk, if_neg h14, if_neg h3]]
    have q3 : (ka == 3) = false := by simp [h3]
    clear hk h14 h3 hS
    go_enter Tryz.func16, Tryz.ntmps16
    go_wp2_with fail
    go_ret
    exact ⟨rfl, HB.out⟩
 ·rw [show ddSame ka kb (decide (la = lb)) R = false by unfold ddSame; rw [if_neg hk]]
  have hkk : (ka != kb) = true := by simp [hk]
  clear hk hS
  go_enter Tryz.func16, Tryz.ntmps16
  go_wp2_with fail
  go_ret
  exact ⟨rfl, HB.out⟩
end Go.Proofs.YtjbnogjkgmkagaaGreatDoor
namespace Go.Proofs.YtjbnogjkgmkagaaGreatDoor
open Go.RowKit
def NdAt (F : Nat → Prop) : Nat → World → Nd → Value → Prop
 | 0, _, _, _ => False
 | n + 1, w, d, v => match d with
  | .empty => v = .iface 133 (.agg #[]) ∨ v = .nilIface
  | .one s => v = .iface 120 (.agg #[.int .u64 (ow s 0), .int .u64 (ow s 1), .int .u64 (ow s 2), .int .u64 (ow s 3)])
  | .cat l => ∃ a cap, v = .iface 122 (.agg #[.slice a l.length cap]) ∧ l.length ≤ cap ∧ cap ≤ maxLen ∧
    (0 < l.length → ∃ b o, a = some ⟨b, o, none⟩ ∧ F b ∧ b < w.heap.size ∧ ∀ i (h : i < l.length), ∃ u, w.cell? ⟨b, o + i, none⟩ = some u ∧ NdAt F n w l[i] u)
  | .alt l => ∃ a cap, v = .iface 123 (.agg #[.slice a l.length cap]) ∧ l.length ≤ cap ∧ cap ≤ maxLen ∧
    (0 < l.length → ∃ b o, a = some ⟨b, o, none⟩ ∧ F b ∧ b < w.heap.size ∧ ∀ i (h : i < l.length), ∃ u, w.cell? ⟨b, o + i, none⟩ = some u ∧ NdAt F n w l[i] u)
  | .rep d mn mx => ∃ u, v = .iface 125 (.agg #[u, .int .i64 mn, .int .i64 mx]) ∧ NdAt F n w d u
  | .group num d => ∃ u, v = .iface 127 (.agg #[.int .i64 num, u]) ∧ NdAt F n w d u
  | .back num => v = .iface 129 (.agg #[.int .i64 num])
  | .start => v = .iface 131 (.agg #[])
  | .fin => v = .iface 132 (.agg #[])
def NdRow (F : Nat → Prop) (n : Nat) (w : World) (l : List Nd) (a : Option Addr) (cap : Nat) : Prop :=
 l.length ≤ cap ∧ cap ≤ maxLen ∧ (0 < l.length → ∃ b o, a = some ⟨b, o, none⟩ ∧ F b ∧ b < w.heap.size ∧ ∀ i (h : i < l.length), ∃ u, w.cell? ⟨b, o + i, none⟩ = some u ∧ NdAt F n w l[i] u)
theorem NdAt.keep {F G : Nat → Prop} {w w' : World} (hs : w.heap.size ≤ w'.heap.size) (hF : ∀ b, F b → b < w.heap.size → G b ∧ ∀ o, w'.cell? ⟨b, o, none⟩ = w.cell? ⟨b, o, none⟩) :
  ∀ (n : Nat) (d : Nd) (v : Value), NdAt F n w d v → NdAt G n w' d v := by
 intro n
 induction n with
 | zero => intro d v h; exact h
 | succ n ih =>
  have hrow : ∀ (l : List Nd) (a : Option Addr), (0 < l.length → ∃ b o, a = some ⟨b, o, none⟩ ∧ F b ∧ b < w.heap.size ∧ ∀ i (h : i < l.length), ∃ u, w.cell? ⟨b, o + i, none⟩ = some u ∧ NdAt F n w l[i] u) →
    (0 < l.length → ∃ b o, a = some ⟨b, o, none⟩ ∧ G b ∧ b < w'.heap.size ∧ ∀ i (h : i < l.length), ∃ u, w'.cell? ⟨b, o + i, none⟩ = some u ∧ NdAt G n w' l[i] u) := by
   intro l a h h0
   obtain ⟨b, o, rfl, hf, hb, hx⟩ := h h0
   refine ⟨b, o, rfl, (hF b hf hb).1, Nat.lt_of_lt_of_le hb hs, fun i hi => ?_⟩
   obtain ⟨u, hu, hr⟩ := hx i hi
   exact ⟨u, ((hF b hf hb).2 _).trans hu, ih _ _ hr⟩
  intro d v h
  cases d with
  | empty => exact h
  | one s => exact h
  | cat l =>
   obtain ⟨a, cap, h1, h2, h3, h4⟩ := h
   exact ⟨a, cap, h1, h2, h3, hrow l a h4⟩
  | alt l =>
   obtain ⟨a, cap, h1, h2, h3, h4⟩ := h
   exact ⟨a, cap, h1, h2, h3, hrow l a h4⟩
  | rep d mn mx =>
   obtain ⟨u, h1, h2⟩ := h
   exact ⟨u, h1, ih _ _ h2⟩
  | group num d =>
   obtain ⟨u, h1, h2⟩ := h
   exact ⟨u, h1, ih _ _ h2⟩
  | back num => exact h
  | start => exact h
  | fin => exact h
theorem NdAt.below {F : Nat → Prop} {w w' : World} (hb : Below w.heap.size w w') (n : Nat) (d : Nd) (v : Value) (h : NdAt F n w d v) : NdAt F n w' d v :=
 h.keep hb.size (fun b hf hlt => ⟨hf, fun o => hb.cell (p := ⟨b, o, none⟩) hlt⟩)
theorem NdAt.wider {F G : Nat → Prop} {w : World} (hFG : ∀ b, F b → b < w.heap.size → G b) (n : Nat) (d : Nd) (v : Value) (h : NdAt F n w d v) : NdAt G n w d v :=
 h.keep (Nat.le_refl _) (fun b hf hlt => ⟨hFG b hf hlt, fun _ => rfl⟩)
theorem NdAt.more {F : Nat → Prop} {w : World} : ∀ (n m : Nat) (d : Nd) (v : Value), n ≤ m → NdAt F n w d v → NdAt F m w d v := by
 intro n
 induction n with
 | zero => intro m d v _ h; exact h.elim
 | succ n ih =>
  intro m d v hm h
  obtain ⟨m, rfl⟩ : ∃ m', m = m' + 1 := ⟨m - 1, by omega⟩
  have hrow : ∀ (l : List Nd) (a : Option Addr), (0 < l.length → ∃ b o, a = some ⟨b, o, none⟩ ∧ F b ∧ b < w.heap.size ∧ ∀ i (h : i < l.length), ∃ u, w.cell? ⟨b, o + i, none⟩ = some u ∧ NdAt F n w l[i] u) →
    (0 < l.length → ∃ b o, a = some ⟨b, o, none⟩ ∧ F b ∧ b < w.heap.size ∧ ∀ i (h : i < l.length), ∃ u, w.cell? ⟨b, o + i, none⟩ = some u ∧ NdAt F m w l[i] u) := by
   intro l a h h0
   obtain ⟨b, o, rfl, hf, hb, hx⟩ := h h0
   refine ⟨b, o, rfl, hf, hb, fun i hi => ?_⟩
   obtain ⟨u, hu, hr⟩ := hx i hi
   exact ⟨u, hu, ih _ _ _ (by omega) hr⟩
  cases d with
  | empty => exact h
  | one s => exact h
  | cat l =>
   obtain ⟨a, cap, h1, h2, h3, h4⟩ := h
   exact ⟨a, cap, h1, h2, h3, hrow l a h4⟩
  | alt l =>
   obtain ⟨a, cap, h1, h2, h3, h4⟩ := h
   exact ⟨a, cap, h1, h2, h3, hrow l a h4⟩
  | rep d mn mx =>
   obtain ⟨u, h1, h2⟩ := h
   exact ⟨u, h1, ih _ _ _ (by omega) h2⟩
  | group num d =>
   obtain ⟨u, h1, h2⟩ := h
   exact ⟨u, h1, ih _ _ _ (by omega) h2⟩
  | back num => exact h
  | start => exact h
  | fin => exact h
theorem NdRow.wider {F G : Nat → Prop} {w : World} (hFG : ∀ b, F b → b < w.heap.size → G b) {n : Nat} {l : List Nd} {a : Option Addr} {cap : Nat} (h : NdRow F n w l a cap) : NdRow G n w l a cap := by
 refine ⟨h.1, h.2.1, fun h0 => ?_⟩
 obtain ⟨b, o, rfl, hf, hb, hx⟩ := h.2.2 h0
 refine ⟨b, o, rfl, hFG b hf hb, hb, fun i hi => ?_⟩
 obtain ⟨u, hu, hr⟩ := hx i hi
 exact ⟨u, hu, NdAt.wider hFG _ _ _ hr⟩
theorem nd_shape {F : Nat → Prop} {n : Nat} {w : World} {d : Nd} {v : Value} (h : NdAt F n w d v) : (∃ T p, v = .iface T p) ∨ v = .nilIface := by
 cases n with
 | zero => exact h.elim
 | succ n =>
  cases d with
  | empty => exact h.elim (fun h => .inl ⟨_, _, h⟩) .inr
  | one s => exact .inl ⟨_, _, h⟩
  | cat l => obtain ⟨a, cap, h1, _⟩ := h; exact .inl ⟨_, _, h1⟩
  | alt l => obtain ⟨a, cap, h1, _⟩ := h; exact .inl ⟨_, _, h1⟩
  | rep d mn mx => obtain ⟨u, h1, _⟩ := h; exact .inl ⟨_, _, h1⟩
  | group num d => obtain ⟨u, h1, _⟩ := h; exact .inl ⟨_, _, h1⟩
  | back num => exact .inl ⟨_, _, h⟩
  | start => exact .inl ⟨_, _, h⟩
  | fin => exact .inl ⟨_, _, h⟩
end Go.Proofs.YtjbnogjkgmkagaaGreatDoor
namespace Go.Proofs.YtjbnogjkgmkagaaGreatDoor
open Go.RowKit
theorem nd_own_below {w w' : World} {base : Nat} {e : TypeId} {size : Nat} {v : Value} {n : Nat} {xs : List Value} (h : w.ownsRow base e size v n xs) (hb : Below w.heap.size w w') : w'.ownsRow base e size v n xs := by
 obtain ⟨h1, h2⟩ := h
 refine ⟨h1, ?_⟩
 rcases h2 with h2 | ⟨g, cap, cur, a, b, c, d⟩
 ·exact .inl h2
 ·exact .inr ⟨g, cap, cur, a, b, by rw [hb.block g (Array.getElem?_eq_some_iff.1 c).1]; exact c, d⟩
def NdOwn (B n : Nat) (w : World) (l : List Nd) (v : Value) (us : List Value) : Prop :=
 us.length = l.length ∧ w.ownsRow B 36 1 v us.length us ∧ ∀ i (h : i < l.length) (h2 : i < us.length), NdAt (fun b => B ≤ b ∧ v.ownBlock ≠ some b) n w l[i] us[i]
theorem NdOwn.nil (B n : Nat) (w : World) : NdOwn B n w [] (.slice none 0 0) [] :=
 ⟨rfl, World.ownsRow_nil _ _ _ _, fun i h => absurd h (by simp)⟩
theorem NdOwn.below {B n : Nat} {w w' : World} {l : List Nd} {v : Value} {us : List Value} (h : NdOwn B n w l v us) (hb : Below w.heap.size w w') : NdOwn B n w' l v us :=
 ⟨h.1, nd_own_below h.2.1 hb, fun i h1 h2 => NdAt.below hb _ _ _ (h.2.2 i h1 h2)⟩
theorem NdOwn.lt {B n : Nat} {w : World} {l : List Nd} {v : Value} {us : List Value} (h : NdOwn B n w l v us) (g : Nat) (hg : v.ownBlock = some g) : g < w.heap.size := by
 obtain ⟨_, ⟨_, h2⟩, _⟩ := h
 rcases h2 with ⟨rfl, _⟩ | ⟨g', cap, cur, rfl, _, hh, _⟩
 ·simp [Value.ownBlock] at hg
 ·simp [Value.ownBlock] at hg
  subst hg
  exact (Array.getElem?_eq_some_iff.1 hh).1
theorem own_of {w : World} {base : Nat} {e : TypeId} {size : Nat} {v : Value} {n : Nat} {xs : List Value} (h : w.ownsRow base e size v n xs) : ∀ k, v.ownBlock = some k → base ≤ k := by
 obtain ⟨_, h2⟩ := h
 intro k hk
 rcases h2 with ⟨rfl, _⟩ | ⟨g, cap, cur, rfl, hg, _⟩
 ·simp [Value.ownBlock] at hk
 ·simp [Value.ownBlock] at hk; omega
theorem NdOwn.push {B n : Nat} {w w' : World} {l : List Nd} {v v' : Value} {us : List Value} {d : Nd} {u : Value} (h : NdOwn B n w l v us) (hu : NdAt (fun b => B ≤ b ∧ v.ownBlock ≠ some b) n w d u)
  (hown : w'.ownsRow B 36 1 v' (us.length + 1) (us ++ [u])) (hg : w.grownBy w' v.ownBlock) (hb : v'.ownBlock = v.ownBlock ∨ v'.ownBlock = some w.heap.size) : NdOwn B n w' (l ++ [d]) v' (us ++ [u]) := by
 have hk : ∀ d u, NdAt (fun b => B ≤ b ∧ v.ownBlock ≠ some b) n w d u → NdAt (fun b => B ≤ b ∧ v'.ownBlock ≠ some b) n w' d u := fun d u hd =>
  NdAt.keep hg.size (fun b hf hlt => ⟨⟨hf.1, by
   rcases hb with e | e
   ·rw [e]; exact hf.2
   ·rw [e]; intro he; injection he with he; omega⟩, fun o => World.cell?_of_block (w := w) (a := ⟨b, o, none⟩) (hg.block b hlt (fun e => hf.2 e.symm))⟩) n d u hd
 refine ⟨by simp [h.1], by rw [List.length_append]; exact hown, fun i h1 h2 => ?_⟩
 by_cases hi : i < l.length
 ·rw [List.getElem_append_left hi, List.getElem_append_left (by rw [h.1]; exact hi)]
  exact hk _ _ (h.2.2 i hi (by rw [h.1]; exact hi))
 ·have hie : i = l.length := by simp at h1; omega
  subst hie
  rw [List.getElem_append_right (Nat.le_refl _), List.getElem_append_right (by rw [h.1]; exact Nat.le_refl _)]
  simp [h.1]
  exact hk _ _ hu
theorem NdOwn.row {B n : Nat} {w : World} {l : List Nd} {v : Value} {us : List Value} (h : NdOwn B n w l v us) : ∃ a cap, v = .slice a l.length cap ∧ NdRow (fun b => B ≤ b) n w l a cap := by
 obtain ⟨h1, ⟨h2a, h2⟩, h3⟩ := h
 rcases h2 with ⟨rfl, hz⟩ | ⟨g, cap, cur, rfl, hg, hh, hn, hcap, hcs, htk⟩
 ·have h0 : l.length = 0 := by omega
  exact ⟨none, 0, by rw [h0], by omega, by omega, fun h => by omega⟩
 ·refine ⟨some ⟨g, 0, none⟩, cap, by rw [h1], by omega, hcap, fun h0 => ⟨g, 0, rfl, hg, (Array.getElem?_eq_some_iff.1 hh).1, fun i hi => ?_⟩⟩
  have hiu : i < us.length := by omega
  refine ⟨us[i], ?_, NdAt.wider (fun b hb _ => hb.1) _ _ _ (h3 i hi hiu)⟩
  have h4 : w.cell? ⟨g, 0 + i, none⟩ = cur[i]? := by simp [World.cell?, hh]
  have h5 : (cur.toList.take (us.length * 1))[i]? = us[i]? := by rw [htk]
  rw [List.getElem?_take_of_lt (by omega)] at h5
  rw [h4, ← Array.getElem?_toList, h5, List.getElem?_eq_getElem hiu]
end Go.Proofs.YtjbnogjkgmkagaaGreatDoor
namespace Go.Proofs.YtjbnogjkgmkagaaGreatDoor
open Go
section
variable {P : Program} {w : World}
theorem step_append_any {ops : Array Oper} {o : Oper} {a : Act} {K : Act → World → Prop} {Q : Exit → Act → World → Prop} {E : Prop} (hgd : o.guard = none) (s x : Operand) (t : TypeId)
  (ho : o.op = .call { callee := .builtin .append, args := #[s, x], argTypes := #[t, t] })
  (base : Nat) (e : TypeId) (i : TypeInfo) (z : Value) (size bytes : Nat) (ht : P.underlying t = some (.slice e)) (hi : P.info? e = some i) (hz : i.zero = some z)
  (hsize : i.size = size) (hby : i.bytes = bytes) (hzs : z.cells.size = size) (hsz : 0 < size)
  (v : Value) (n : Nat) (xs : List Value) (hs : a.eval s = v) (hown : w.ownsRow base e size v n xs)
  (oa : Option Addr) (m c : Nat) (news : List Value) (hx : a.eval x = .slice oa m c) (hl : news.length = m * size) (hnews : 0 < m → ∃ a, oa = some a ∧ ∀ j u, news[j]? = some u → w.cell? (a.add j) = some u) (h1 : ∀ u ∈ news, u.oneCell' = true)
  (h63 : n + m ≤ maxLen) (hbytes : (n + m) * bytes ≤ 140737488355328) (hbase : base ≤ w.heap.size)
  (h : ∀ v' w', w'.ownsRow base e size v' (n + m) (xs ++ news) → w.grownBy w' v.ownBlock → (v'.ownBlock = v.ownBlock ∨ v'.ownBlock = some w.heap.size) → K (a.put o.dst v') w') :
  if Region.wanted o (yielded ops a.tmps) = true then Oper.wp P o a w K Q else E := by
 rw [if_pos (by simp [Region.wanted, hgd])]
 obtain ⟨v', w', hr, h2, h3, h4⟩ := run_append_own_any (P := P) w base t o.type e i z size bytes ht hi hz hsize hby hzs hsz v n xs hown oa m c news hl hnews h1 h63 hbytes hbase
 unfold Oper.wp execOp
 simp only [ho, resolve, invoke, builtin, Sem.run_bind, Sem.run_pure, Result.andThen_ok, List.map_toArray, List.map_cons, List.map_nil, hs, hx, hr]
 exact h v' w' h2 h3 h4
theorem own_row {base : Nat} {e : TypeId} {v : Value} {n : Nat} {xs : List Value} {w : World} (h : w.ownsRow base e 1 v n xs) (hx : xs.length = n) :
  ∃ a cap, v = .slice a n cap ∧ n ≤ cap ∧ cap ≤ maxLen ∧ (0 < n → ∃ g, a = some ⟨g, 0, none⟩ ∧ base ≤ g ∧ g < w.heap.size ∧ ∀ i (h : i < xs.length), w.cell? ⟨g, 0 + i, none⟩ = some xs[i]) := by
 obtain ⟨h1, h2⟩ := h
 rcases h2 with ⟨rfl, hz⟩ | ⟨g, cap, cur, rfl, hg, hh, hn, hcap, hcs, htk⟩
 ·subst hz
  exact ⟨none, 0, rfl, Nat.le_refl _, Nat.zero_le _, fun h => absurd h (by omega)⟩
 ·refine ⟨some ⟨g, 0, none⟩, cap, rfl, hn, hcap, fun h0 => ⟨g, rfl, hg, (Array.getElem?_eq_some_iff.1 hh).1, fun i hi => ?_⟩⟩
  have h4 : w.cell? ⟨g, 0 + i, none⟩ = cur[i]? := by simp [World.cell?, hh]
  have h5 : (cur.toList.take (n * 1))[i]? = xs[i]? := by rw [htk]
  rw [List.getElem?_take_of_lt (by omega)] at h5
  rw [h4, ← Array.getElem?_toList, h5, List.getElem?_eq_getElem hi]
end
end Go.Proofs.YtjbnogjkgmkagaaGreatDoor
