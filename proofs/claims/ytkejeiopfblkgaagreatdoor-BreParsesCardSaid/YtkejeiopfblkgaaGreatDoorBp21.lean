/- The proof's texts RfE: what the claim reaches of them. -/
import Derived.Test.YtkejeiopfblkgaaGreatDoorBp15
namespace Go.Proofs.YtkejeiopfblkgaaGreatDoor
open Go Go.RowKit
theorem word_cls : wordSet = clsSet [97, 108, 110, 117, 109] ||| oSpan 95 95 := rfl
structure EsF (F : Nat → Prop) (w : World) (s : ByteArray) (ere : Bool) (wr : World) (st : ReSt) (cv mv : Value) (q6 q8 : Nat) (t8 : OSet) : Prop where
 f : Fr F w s ere wr st cv mv
 w6 : Blk wr q6 #[.int .u64 (ow wordSet 0), .int .u64 (ow wordSet 1), .int .u64 (ow wordSet 2), .int .u64 (ow wordSet 3)] 33
 w8 : Blk wr q8 #[.int .u64 (ow t8 0), .int .u64 (ow t8 1), .int .u64 (ow t8 2), .int .u64 (ow t8 3)] 33
 l6 : w.heap.size + 3 ≤ q6
 l8 : q6 < q8
 r8 : RfR (fun b => ((F b ∧ b < w.heap.size) ∨ w.heap.size + 3 ≤ b) ∧ b ≠ q8) wr s st cv mv
theorem EsF.step {F : Nat → Prop} {w : World} {s : ByteArray} {ere : Bool} {wr w' : World} {st : ReSt} {cv mv : Value} {q6 q8 : Nat} {t8 : OSet} (h : EsF F w s ere wr st cv mv q6 q8 t8) (hb : Below wr.heap.size wr w') : EsF F w s ere w' st cv mv q6 q8 t8 :=
 ⟨h.f.step hb, h.w6.below hb h.w6.lt, h.w8.below hb h.w8.lt, h.l6, h.l8, h.r8.below hb⟩
theorem EsF.new {F : Nat → Prop} {w : World} {s : ByteArray} {ere : Bool} {wk : World} {st : ReSt} {cv mv : Value} {q6 : Nat} {t8 : OSet} (h : Fr F w s ere wk st cv mv) (h6 : Blk wk q6 #[.int .u64 (ow wordSet 0), .int .u64 (ow wordSet 1), .int .u64 (ow wordSet 2), .int .u64 (ow wordSet 3)] 33) (l6 : w.heap.size + 3 ≤ q6) :
  EsF F w s ere (wk.alloc (.cells #[.int .u64 (ow t8 0), .int .u64 (ow t8 1), .int .u64 (ow t8 2), .int .u64 (ow t8 3)] 33)) st cv mv q6 wk.heap.size t8 :=
 have hA := (Below.refl wk.heap.size wk).alloc (Nat.le_refl _) (.cells #[.int .u64 (ow t8 0), .int .u64 (ow t8 1), .int .u64 (ow t8 2), .int .u64 (ow t8 3)] 33)
 ⟨h.step hA, h6.below hA h6.lt, Blk.new _ _ _ _ rfl, l6, h6.lt, h.r.keep hA.size (fun b hf hlt => ⟨⟨hf, by omega⟩, fun o => hA.cell (p := ⟨b, o, none⟩) hlt⟩)⟩
theorem EsF.put {F : Nat → Prop} {w : World} {s : ByteArray} {ere : Bool} {wk : World} {st : ReSt} {cv mv : Value} {q6 q8 : Nat} {u0 u1 u2 u3 : Value} {t8 : OSet} (h : Fr F w s ere wk st cv mv) (h6 : Blk wk q6 #[.int .u64 (ow wordSet 0), .int .u64 (ow wordSet 1), .int .u64 (ow wordSet 2), .int .u64 (ow wordSet 3)] 33) (h8 : Blk wk q8 #[u0, u1, u2, u3] 33) (l6 : w.heap.size + 3 ≤ q6) (l8 : q6 < q8) (hr : RfR (fun b => ((F b ∧ b < w.heap.size) ∨ w.heap.size + 3 ≤ b) ∧ b ≠ q8) wk s st cv mv) :
  EsF F w s ere ((((wk.setCell ⟨q8, 0, none⟩ (.int .u64 (ow t8 0))).setCell ⟨q8, 1, none⟩ (.int .u64 (ow t8 1))).setCell ⟨q8, 2, none⟩ (.int .u64 (ow t8 2))).setCell ⟨q8, 3, none⟩ (.int .u64 (ow t8 3))) st cv mv q6 q8 t8 := by
 obtain ⟨h1, h2, h3, h4⟩ := put4 (w0 := w) h.b (by omega) h8 (.int .u64 (ow t8 0)) (.int .u64 (ow t8 1)) (.int .u64 (ow t8 2)) (.int .u64 (ow t8 3)) _ rfl
 exact ⟨⟨h1, h.k2.same (h3 _ (by omega)), h.k4.same (h3 _ (by omega)), h.k5.same (h3 _ (by omega)), hr.keep (by omega) (fun b hf _ => ⟨hf.1, fun o => World.cell?_of_block (w := wk) (a := ⟨b, o, none⟩) (h3 b hf.2)⟩)⟩, h6.same (h3 _ (by omega)), h2, l6, l8, hr.keep (by omega) (fun b hf _ => ⟨hf, fun o => World.cell?_of_block (w := wk) (a := ⟨b, o, none⟩) (h3 b hf.2)⟩)⟩
theorem rcls_space (w : World) : Calls Tryz.prog 109 #[.string ⟨#[115, 112, 97, 99, 101]⟩] w fun e w' => e = .returned (.agg #[.int .u64 (ow spaceSet 0), .int .u64 (ow spaceSet 1), .int .u64 (ow spaceSet 2), .int .u64 (ow spaceSet 3)]) ∧ Below w.heap.size w w' := rcls_c _ _ rfl w
theorem rcls_punct (w : World) : Calls Tryz.prog 109 #[.string ⟨#[112, 117, 110, 99, 116]⟩] w fun e w' => e = .returned (.agg #[.int .u64 (ow punctSet 0), .int .u64 (ow punctSet 1), .int .u64 (ow punctSet 2), .int .u64 (ow punctSet 3)]) ∧ Below w.heap.size w w' := rcls_c _ _ rfl w
theorem EsF.marked {F : Nat → Prop} {w : World} {s : ByteArray} {ere : Bool} {wk : World} {st : ReSt} {cv mv mv2 : Value} {q6 q8 : Nat} {t8 : OSet} (h : EsF F w s ere wk st cv mv q6 q8 t8) {ms : List (Nat × Nat)} (hm : RowC (fun b => (F b ∧ b < w.heap.size) ∨ w.heap.size + 3 ≤ b) wk 2 mv2 ms.length (marksC ms)) (p2 : Nat) (h1 : st.pos ≤ p2) (h2 : p2 ≤ s.size) (h3 : ms.length ≤ p2) :
  Fr F w s ere (((((((((wk.setCell ⟨w.heap.size, 0, none⟩ (.string s)).setCell ⟨w.heap.size, 1, none⟩ (.bool ere)).setCell ⟨w.heap.size, 2, none⟩ (.int .i64 (st.pos : Int))).setCell ⟨w.heap.size, 3, none⟩ (.int .i64 (st.opened : Int))).setCell ⟨w.heap.size, 4, none⟩ cv).setCell ⟨w.heap.size, 5, none⟩ mv2).setCell ⟨w.heap.size, 6, none⟩ (.int .i64 0)).setCell ⟨w.heap.size, 7, none⟩ (.int .i64 0)).setCell ⟨w.heap.size, 2, none⟩ (.int .i64 (p2 : Int))) ⟨p2, st.opened, st.closed, ms⟩ cv mv2 ∧ Blk (((((((((wk.setCell ⟨w.heap.size, 0, none⟩ (.string s)).setCell ⟨w.heap.size, 1, none⟩ (.bool ere)).setCell ⟨w.heap.size, 2, none⟩ (.int .i64 (st.pos : Int))).setCell ⟨w.heap.size, 3, none⟩ (.int .i64 (st.opened : Int))).setCell ⟨w.heap.size, 4, none⟩ cv).setCell ⟨w.heap.size, 5, none⟩ mv2).setCell ⟨w.heap.size, 6, none⟩ (.int .i64 0)).setCell ⟨w.heap.size, 7, none⟩ (.int .i64 0)).setCell ⟨w.heap.size, 2, none⟩ (.int .i64 (p2 : Int))) q8 #[.int .u64 (ow t8 0), .int .u64 (ow t8 1), .int .u64 (ow t8 2), .int .u64 (ow t8 3)] 33 := by
 obtain ⟨a1, a2, a3, a4⟩ := put8 h.f.b (Nat.le_refl _) h.f.k2 (.string s) (.bool ere) (.int .i64 (st.pos : Int)) (.int .i64 (st.opened : Int)) cv mv2 (.int .i64 0) (.int .i64 0) _ rfl
 generalize ((((((((wk.setCell ⟨w.heap.size, 0, none⟩ (.string s)).setCell ⟨w.heap.size, 1, none⟩ (.bool ere)).setCell ⟨w.heap.size, 2, none⟩ (.int .i64 (st.pos : Int))).setCell ⟨w.heap.size, 3, none⟩ (.int .i64 (st.opened : Int))).setCell ⟨w.heap.size, 4, none⟩ cv).setCell ⟨w.heap.size, 5, none⟩ mv2).setCell ⟨w.heap.size, 6, none⟩ (.int .i64 0)).setCell ⟨w.heap.size, 7, none⟩ (.int .i64 0)) = W1 at *
 have hq : q8 ≠ w.heap.size := by have := h.l6; have := h.l8; omega
 refine ⟨h.f.upd (a1.setCell (p := ⟨w.heap.size, 2, none⟩) (Nat.le_refl _) _) ((a2.set 2 (.int .i64 (p2 : Int))).eqv (by simp)) (fun b hb => (far_set _ _ _ _ hb).trans (a3 b hb)) ((show (W1.setCell ⟨w.heap.size, 2, none⟩ (.int .i64 (p2 : Int))).heap.size = W1.heap.size by simp [World.setCell]).trans a4)
  ⟨h.f.r.c, hm, h2, h.f.r.small, Nat.le_trans h.f.r.cl h1, h3, Nat.le_trans h.f.r.op h1⟩, (h.w8.same (a3 q8 hq)).same (far_set _ _ _ _ hq)⟩
set_option linter.unusedSimpArgs false in
set_option maxRecDepth 100000 in
set_option maxHeartbeats 40000000 in
theorem rescape_any (hMk : RMarkOk) {F : Nat → Prop} {s : ByteArray} {ere : Bool} {st : ReSt} {cv mv : Value} (c : UInt8) (w : World) (hR : RfR F w s st cv mv) (h2 : st.pos + 2 ≤ s.size) :
  Calls Tryz.prog 94 #[.agg (rfC s ere st.pos st.opened cv mv 0 0), .string ⟨#[92, c]⟩] w (RfAns F (fun _ => False) (fun _ => true) ere s (escM ere st c.toNat) w) := by
 obtain ⟨R, hR0⟩ : ∃ R, R = escM ere st c.toNat := ⟨_, rfl⟩
 rw [← hR0]
 obtain ⟨ca, cl, cc, rfl⟩ := hR.c.form
 obtain ⟨ma, ml, mc, rfl⟩ := hR.m.form
 have H0 := Lib.hid (Fr.begin (ere := ere) hR)
 have HR0 := Lib.hid hR0
 have HMk := Lib.hid hMk
 have H2 := Lib.hid h2
 have HAl := Lib.hid (fun w => rcls_c ⟨#[97, 108, 110, 117, 109]⟩ [97, 108, 110, 117, 109] rfl w)
 have HSp := Lib.hid (fun (lo hi : Int) (w : World) (h0 : 0 ≤ lo) (h1 : lo ≤ 255) (h2 : 0 ≤ hi) (h3 : hi ≤ 255) => rspan_any lo hi w h0 h1 h2 h3)
 have hc1 : (0 : Int) ≤ (c.toNat : Int) := by omega
 have hc2 : (c.toNat : Int) ≤ 255 := by have := c.toNat_lt; omega
 clear hR hR0 hMk h2
 go_enter Tryz.func94, Tryz.ntmps94
 go_upto_region 1 with fail
 have HL1 := Lib.hid H0.out
 generalize (((w.alloc (.cells (rfC s ere st.pos st.opened (.slice ca cl cc) (.slice ma ml mc) 0 0) 87)).alloc (.cells rfZ 87)).alloc (.cells zC 36)) = w1 at *
 go_wp2_with fail
 refine (HAl.out _).mono ?_
 rintro e w2 ⟨rfl, b2⟩
 have HL2 := Lib.hid (HL1.out.step b2)
 clear b2
 go_wp2_with fail
 refine (HSp.out _ _ _ (by decide) (by decide) (by decide) (by decide)).mono ?_
 rintro e w3 ⟨rfl, b3⟩
 have HL3 := Lib.hid (HL2.out.step b3)
 clear b3
 go_wp2_with fail
 refine (ror_any _ _ _).mono ?_
 rintro e w4 ⟨rfl, b4⟩
 have HL4 := Lib.hid (HL3.out.step b4)
 clear b4
 rw [← word_cls]
 go_upto_region 2 with fail
 have hA := (Below.refl w4.heap.size w4).alloc (Nat.le_refl _) (.cells #[.int .u64 (ow wordSet 0), .int .u64 (ow wordSet 1), .int .u64 (ow wordSet 2), .int .u64 (ow wordSet 3)] 33)
 have HL5 := Lib.hid (HL4.out.step hA)
 have HQ6 := Lib.hid (Blk.new w4 #[.int .u64 (ow wordSet 0), .int .u64 (ow wordSet 1), .int .u64 (ow wordSet 2), .int .u64 (ow wordSet 3)] 33 w4.heap.size rfl)
 have HG6 := Lib.hid (show w.heap.size + 3 ≤ w4.heap.size by have := HL4.out.k5.lt; omega)
 clear hA
 generalize w4.alloc (.cells #[.int .u64 (ow wordSet 0), .int .u64 (ow wordSet 1), .int .u64 (ow wordSet 2), .int .u64 (ow wordSet 3)] 33) = w5 at *
 generalize w4.heap.size = q6 at *
 obtain ⟨c0, c1, c2, c3, c4, c5, c6, c7, f0, f1, f2, f3, f4, f5, f6, f7, hl⟩ := blk8 HL5.out.k2
 go_upto_region 3 with fail
 clear c0 c1 c2 c3 c4 c5 c6 c7 f0 f1 f2 f3 f4 f5 f6 f7 hl
 go_cut [8] (fun s8 wx => ∃ q8, s8 = .pointer (some ⟨q8, 0, none⟩) ∧ EsF F w s ere wx st (.slice ca cl cc) (.slice ma ml mc) q6 q8 (oSpan (c.toNat : Int) (c.toNat : Int)))
 case first =>
  have hq6 := HQ6.out.lt
  have hin := HL5.out.r.keep (G := fun b => ((F b ∧ b < w.heap.size) ∨ w.heap.size + 3 ≤ b) ∧ b ≠ w5.heap.size) (Nat.le_refl _) (fun b hf hlt => ⟨⟨hf, by omega⟩, fun _ => rfl⟩)
  have HIn := Lib.hid hin
  clear hin
  go_region_with (go_at_call 93; refine (HSp.out (c.toNat : Int) (c.toNat : Int) _ hc1 hc2 hc1 hc2).mono ?_; rintro e w6 ⟨rfl, b6⟩; have hB6 : Below w5.heap.size w5 w6 := (by first | exact b6 | exact (Below.refl _ _).drew.trans b6 | exact ((Below.refl w5.heap.size w5).alloc (Nat.le_refl _) _).trans (b6.mono (by simp)) | exact ((Below.refl w5.heap.size w5).alloc (Nat.le_refl _) _).drew.trans (b6.mono (by simp))); have HB6 := Lib.hid hB6; (try (have hX : Blk w6 w5.heap.size #[.int .u64 0, .int .u64 0, .int .u64 0, .int .u64 0] 33 := Blk.below (by first | exact (Blk.new w5 #[.int .u64 0, .int .u64 0, .int .u64 0, .int .u64 0] 33 w5.heap.size rfl).drew | exact Blk.new w5 #[.int .u64 0, .int .u64 0, .int .u64 0, .int .u64 0] 33 w5.heap.size rfl) b6 (by simp); have HX := Lib.hid hX; obtain ⟨g0, g1, g2, g3, k0, k1, k2, k3, k4⟩ := blk_four hX; clear hX)); clear b6 hB6)
  all_goals go_wp2_with fail
  all_goals go_meet
  all_goals first
   | with_reducible exact ⟨_, rfl, EsF.new (HL5.out.step HB6.out) (HQ6.out.below HB6.out HQ6.out.lt) HG6.out⟩
   | with_reducible exact ⟨_, rfl, EsF.put (HL5.out.step HB6.out) (HQ6.out.below HB6.out HQ6.out.lt) HX.out HG6.out HQ6.out.lt (HIn.out.below HB6.out)⟩
 case rest =>
  obtain ⟨q8, rfl, hE⟩ := hcut
  obtain ⟨p2, hp2⟩ : ∃ p2, p2 = st.pos + 2 := ⟨_, rfl⟩
  have hp2s : st.pos + 2 ≤ s.size := H2.out
  have hsm := hE.f.r.small
  have Wp : IntKind.i64.wrap ((st.pos : Int) + 2) = (p2 : Int) := by rw [IntWalk.i64_in _ (by omega)]; omega
  have HP2 := Lib.hid (show p2 = st.pos + 2 ∧ p2 ≤ s.size ∧ s.size ≤ 250 by omega)
  have HG8 := Lib.hid (show w.heap.size + 3 < q8 by have := hE.l6; have := hE.l8; omega)
  have HFto : ∀ wk, Fr F w s ere wk st (.slice ca cl cc) (.slice ma ml mc) → Fr F w s ere (wk.setCell ⟨w.heap.size, 2, none⟩ (.int .i64 (p2 : Int))) ⟨p2, st.opened, st.closed, st.marks⟩ (.slice ca cl cc) (.slice ma ml mc) := fun wk h => h.to p2 (by omega) (by omega)
  have HFT := Lib.hid HFto
  have HE1 := Lib.hid hE
  have HOne := Lib.hid (fun (t : OSet) w => rone_c t w)
  clear hE hp2 hp2s hsm HFto
  have hix : (ByteArray.mk #[92, c])[1]'(by show 1 < (#[92, c] : Array UInt8).size; simp) = c := rfl
  by_cases hdig : 49 ≤ c.toNat ∧ c.toNat ≤ 57
  ·have hesc : escM ere st c.toNat = if st.closed.contains ((c.toNat : Int) - 48) then .ok ((if ere then st.mark c.toNat else st).to (st.pos + 2), .back ((c.toNat : Int) - 48)) else .error (9, st.pos) := by unfold escM; rw [if_pos hdig]
   have HR1 := Lib.hid (HR0.out.trans hesc)
   have d49 : decide ((49 : Int) ≤ (c.toNat : Int)) = true := by simp; omega
   have d49' : decide (49 ≤ c.toNat) = true := by simp; omega
   have d57 : decide ((c.toNat : Int) ≤ 57) = true := by simp; omega
   have d57' : decide (c.toNat ≤ 57) = true := by simp; omega
   have hb1 : (49 : Int) ≤ (c.toNat : Int) := by omega
   have hb2 : (c.toNat : Int) ≤ 57 := by omega
   have Wu : IntKind.u8.wrap ((c.toNat : Int) - 48) = (c.toNat : Int) - 48 := IntWalk.u8_in _ (by omega)
   have Wi : IntKind.i64.wrap ((c.toNat : Int) - 48) = (c.toNat : Int) - 48 := IntWalk.i64_in _ (by omega)
   obtain ⟨a', cap', he, hlen, hx⟩ := HE1.out.f.r.c
   injection he with he1 he2 he3
   subst he1 he2 he3
   have hcl := HE1.out.f.r.cl
   have hcp := HE1.out.f.r.pos
   have hcs := HE1.out.f.r.small
   have hcl9 : st.closed.length ≤ 250 := by omega
   have HX := Lib.hid hx
   clear hesc hlen hx hcl hcp hcs hdig
   obtain ⟨c0, c1, c2, c3, c4, c5, c6, c7, f0, f1, f2, f3, f4, f5, f6, f7, hl⟩ := blk8 HE1.out.f.k2
   go_wp2_with fail
   go_loopw [11, 39] (fun f i wr => ∃ k : Nat, k ≤ st.closed.length ∧ i = .int .i64 k ∧ f = .bool ((st.closed.take k).contains ((c.toNat : Int) - 48)) ∧ wr = wc) (fun _ i _ => st.closed.length - (intOf i).toNat)
   case atStart => exact ⟨0, by omega, rfl, rfl, rfl⟩
   case round =>
    obtain ⟨k, hk', rfl, rfl, rfl⟩ := hrel
    by_cases hlt : k < st.closed.length
    ·obtain ⟨g, rfl, _, hgl, hcell⟩ := HX.out (by omega)
     have q0 := hcell k (.int .i64 st.closed[k]) (by rw [List.getElem?_map, List.getElem?_eq_getElem hlt]; rfl)
     have Htk := Lib.hid (contains_take st.closed ((c.toNat : Int) - 48) k hlt)
     have Hmem := Lib.hid hlt
     clear hcell
     generalize st.closed[k] = x at *
     cases F9 : (st.closed.take k).contains ((c.toNat : Int) - 48)
     ·cases q : (x == (c.toNat : Int) - 48)
      all_goals
       have Hn := Lib.hid (Htk.out.trans (by rw [F9, q]))
       have hlt9 : decide (k < st.closed.length) = true := decide_eq_true Hmem.out
       clear F9
       go_wp2_with fail
       go_roundw
       case rel => exact ⟨k + 1, by omega, by go_num, by rw [Hn.out]; rfl, trivial⟩
       case measure => simp [intOf]; omega
     ·have Hn := Lib.hid (Htk.out.trans (by rw [F9, Bool.true_or]))
      have hlt9 : decide (k < st.closed.length) = true := decide_eq_true Hmem.out
      clear F9
      go_wp2_with fail
      go_roundw
      case rel => exact ⟨k + 1, by omega, by go_num, by rw [Hn.out], trivial⟩
      case measure => simp [intOf]; omega
    ·obtain rfl : k = st.closed.length := by omega
     have htk : st.closed.take st.closed.length = st.closed := List.take_of_length_le (Nat.le_refl _)
     rw [htk]
     clear htk
     cases F9 : st.closed.contains ((c.toNat : Int) - 48)
     ·have HRx := Lib.hid (show R = .error (9, st.pos) by rw [HR1.out, F9]; rfl)
      clear F9 c0 c1 c2 c3 c4 c5 c6 c7 f0 f1 f2 f3 f4 f5 f6 f7 hl
      have HFl := Lib.hid (fun w => rfail_any s ere st.pos st.opened (.slice ca st.closed.length cc) (.slice ma ml mc) 9 (st.pos : Int) w ⟨_, _, _, rfl⟩ ⟨_, _, _, rfl⟩)
      obtain ⟨c0, c1, c2, c3, c4, c5, c6, c7, f0, f1, f2, f3, f4, f5, f6, f7, hl⟩ := blk8 HE1.out.f.k2
      go_wp2_with fail
      with_reducible refine (HFl.out _).mono ?_
      rintro e w23 ⟨rfl, b23⟩
      have HE23 := Lib.hid (HE1.out.step b23)
      clear b23
      clear c0 c1 c2 c3 c4 c5 c6 c7 f0 f1 f2 f3 f4 f5 f6 f7 hl
      obtain ⟨x0, x1, x2, x3, x4, x5, x6, x7, y0, y1, y2, y3, y4, y5, y6, y7, hx⟩ := blk8 HE23.out.f.k4; obtain ⟨z0, z1, z2, z3, z4, z5, z6, z7, z8, v0, v1, v2, v3, v4, v5, v6, v7, v8, hz⟩ := blk9n HE23.out.f.k5
      all_goals
       go_wp2_with fail
       first
        | (with_reducible refine post17 HE23.out.f.b HE23.out.f.k4 HE23.out.f.k5 ?_ ?_ ?_ ?_)
        | (with_reducible refine post17d HE23.out.f.b HE23.out.f.k4 HE23.out.f.k5 ?_ ?_ ?_ rfl ?_)
       ·omega
       ·omega
       ·omega
       intro w9 hB9 hk9 hj9 hs9 hz9
       have HA := Lib.hid (HE23.out.f.err (FT := fun _ => False) (C := fun _ => true) HRx.out rfl (show (9 : Nat) ≠ 0 by decide) hB9)
       clear x0 x1 x2 x3 x4 x5 x6 x7 y0 y1 y2 y3 y4 y5 y6 y7 hx z0 z1 z2 z3 z4 z5 z6 z7 z8 v0 v1 v2 v3 v4 v5 v6 v7 v8 hz
       obtain ⟨x0, x1, x2, x3, x4, x5, x6, x7, _⟩ := blk8 hk9
       obtain ⟨z0, z1, z2, z3, z4, z5, z6, z7, z8, _⟩ := blk9n hj9
       refine bodyPost_ret (v := .tuple #[.agg (rfC s ere st.pos st.opened (.slice ca st.closed.length cc) (.slice ma ml mc) 9 (st.pos : Int)), .agg zC]) (by simp [results, Tryz.results94, go_sem, x0, x1, x2, x3, x4, x5, x6, x7, z0, z1, z2, z3, z4, z5, z6, z7, z8]) rfl ?_
       first | exact HA.out | exact HA.out.drew
     ·cases ere with
      | true =>
       have HRx := Lib.hid (show R = .ok (⟨p2, st.opened, st.closed, st.marks ++ [(st.pos, c.toNat)]⟩, .back ((c.toNat : Int) - 48)) by rw [HR1.out, F9, HP2.out.1]; rfl)
       clear F9
       go_wp2_with fail
       have hmk := HMk.out _ s true st.pos st.opened (.slice ca st.closed.length cc) (.slice ma ml mc) st.marks c wr HE1.out.f.r.c.form HE1.out.f.r.m (by have := HE1.out.f.r.ml; have := HE1.out.f.r.small; have := HE1.out.f.r.pos; omega)
       with_reducible refine hmk.mono ?_
       clear hmk
       rintro e w7 ⟨mv7, rfl, hm7, b7⟩
       obtain ⟨ma7, ml7, mc7, rfl⟩ := hm7.form
       have HE7 := Lib.hid (HE1.out.step b7)
       have HM7 := Lib.hid (hm7.keep (G := fun b => (F b ∧ b < w.heap.size) ∨ w.heap.size + 3 ≤ b) (Nat.le_refl _) (fun b hf _ => ⟨.inr (by have := HE1.out.f.k5.lt; omega), fun _ => rfl⟩))
       clear b7 hm7
       clear c0 c1 c2 c3 c4 c5 c6 c7 f0 f1 f2 f3 f4 f5 f6 f7 hl
       obtain ⟨c0, c1, c2, c3, c4, c5, c6, c7, f0, f1, f2, f3, f4, f5, f6, f7, hl⟩ := blk8 HE7.out.f.k2
       have hmk2 := HE7.out.marked HM7.out p2 (by have := HP2.out; omega) (by have := HP2.out; omega) (by have := HP2.out; have := HE7.out.f.r.ml; simp; omega)
       have HFx := Lib.hid hmk2.1
       have HQx := Lib.hid hmk2.2
       clear hmk2
       go_upto_region 18 with fail
       clear c0 c1 c2 c3 c4 c5 c6 c7 f0 f1 f2 f3 f4 f5 f6 f7 hl
       generalize ((((((((w7.setCell ⟨w.heap.size, 0, none⟩ (.string s)).setCell ⟨w.heap.size, 1, none⟩ (.bool true)).setCell ⟨w.heap.size, 2, none⟩ (.int .i64 (st.pos : Int))).setCell ⟨w.heap.size, 3, none⟩ (.int .i64 (st.opened : Int))).setCell ⟨w.heap.size, 4, none⟩ (.slice ca st.closed.length cc)).setCell ⟨w.heap.size, 5, none⟩ (.slice ma7 ml7 mc7)).setCell ⟨w.heap.size, 6, none⟩ (.int .i64 0)).setCell ⟨w.heap.size, 7, none⟩ (.int .i64 0)).setCell ⟨w.heap.size, 2, none⟩ (.int .i64 (p2 : Int)) = W at *
       obtain ⟨c0, c1, c2, c3, c4, c5, c6, c7, f0, f1, f2, f3, f4, f5, f6, f7, hl⟩ := blk8 HFx.out.k2
       obtain ⟨x0, x1, x2, x3, x4, x5, x6, x7, y0, y1, y2, y3, y4, y5, y6, y7, hx⟩ := blk8 HFx.out.k4; obtain ⟨z0, z1, z2, z3, z4, z5, z6, z7, z8, v0, v1, v2, v3, v4, v5, v6, v7, v8, hz⟩ := blk9n HFx.out.k5
       go_wp2_with fail
       clear c0 c1 c2 c3 c4 c5 c6 c7 f0 f1 f2 f3 f4 f5 f6 f7 hl
       all_goals
        go_wp2_with fail
        first
         | (with_reducible refine post17 HFx.out.b HFx.out.k4 HFx.out.k5 ?_ ?_ ?_ ?_)
         | (with_reducible refine post17d HFx.out.b HFx.out.k4 HFx.out.k5 ?_ ?_ ?_ rfl ?_)
        ·omega
        ·omega
        ·omega
        intro w9 hB9 hk9 hj9 hs9 hz9
        have HA := Lib.hid (HFx.out.ok (FT := fun _ => False) (C := fun _ => true) (d := .back ((c.toNat : Int) - 48)) HRx.out (trx_leaf rfl) hB9 hs9 hz9)
        clear x0 x1 x2 x3 x4 x5 x6 x7 y0 y1 y2 y3 y4 y5 y6 y7 hx z0 z1 z2 z3 z4 z5 z6 z7 z8 v0 v1 v2 v3 v4 v5 v6 v7 v8 hz
        obtain ⟨x0, x1, x2, x3, x4, x5, x6, x7, _⟩ := blk8 hk9
        obtain ⟨z0, z1, z2, z3, z4, z5, z6, z7, z8, _⟩ := blk9n hj9
        refine bodyPost_ret (v := .tuple #[.agg (rfC s true p2 st.opened (.slice ca st.closed.length cc) (.slice ma7 ml7 mc7) 0 0), .agg (tC (unc (.back ((c.toNat : Int) - 48))) none 0)]) (by simp [results, Tryz.results94, go_sem, x0, x1, x2, x3, x4, x5, x6, x7, z0, z1, z2, z3, z4, z5, z6, z7, z8, unc, Tr.kind, Tr.set, Tr.parts, Tr.mn, Tr.mx, Tr.num, ow_zero]) rfl ?_
        first | exact HA.out | exact HA.out.drew
      | false =>
       have HRx := Lib.hid (show R = .ok (⟨p2, st.opened, st.closed, st.marks⟩, .back ((c.toNat : Int) - 48)) by rw [HR1.out, F9, HP2.out.1]; rfl)
       clear F9
       have HFx := Lib.hid (HFT.out _ HE1.out.f)
       go_upto_region 18 with fail
       clear c0 c1 c2 c3 c4 c5 c6 c7 f0 f1 f2 f3 f4 f5 f6 f7 hl
       generalize wr.setCell ⟨w.heap.size, 2, none⟩ (.int .i64 (p2 : Int)) = W at *
       obtain ⟨c0, c1, c2, c3, c4, c5, c6, c7, f0, f1, f2, f3, f4, f5, f6, f7, hl⟩ := blk8 HFx.out.k2
       obtain ⟨x0, x1, x2, x3, x4, x5, x6, x7, y0, y1, y2, y3, y4, y5, y6, y7, hx⟩ := blk8 HFx.out.k4; obtain ⟨z0, z1, z2, z3, z4, z5, z6, z7, z8, v0, v1, v2, v3, v4, v5, v6, v7, v8, hz⟩ := blk9n HFx.out.k5
       go_wp2_with fail
       clear c0 c1 c2 c3 c4 c5 c6 c7 f0 f1 f2 f3 f4 f5 f6 f7 hl
       all_goals
        go_wp2_with fail
        first
         | (with_reducible refine post17 HFx.out.b HFx.out.k4 HFx.out.k5 ?_ ?_ ?_ ?_)
         | (with_reducible refine post17d HFx.out.b HFx.out.k4 HFx.out.k5 ?_ ?_ ?_ rfl ?_)
        ·omega
        ·omega
        ·omega
        intro w9 hB9 hk9 hj9 hs9 hz9
        have HA := Lib.hid (HFx.out.ok (FT := fun _ => False) (C := fun _ => true) (d := .back ((c.toNat : Int) - 48)) HRx.out (trx_leaf rfl) hB9 hs9 hz9)
        clear x0 x1 x2 x3 x4 x5 x6 x7 y0 y1 y2 y3 y4 y5 y6 y7 hx z0 z1 z2 z3 z4 z5 z6 z7 z8 v0 v1 v2 v3 v4 v5 v6 v7 v8 hz
        obtain ⟨x0, x1, x2, x3, x4, x5, x6, x7, _⟩ := blk8 hk9
        obtain ⟨z0, z1, z2, z3, z4, z5, z6, z7, z8, _⟩ := blk9n hj9
        refine bodyPost_ret (v := .tuple #[.agg (rfC s false p2 st.opened (.slice ca st.closed.length cc) (.slice ma ml mc) 0 0), .agg (tC (unc (.back ((c.toNat : Int) - 48))) none 0)]) (by simp [results, Tryz.results94, go_sem, x0, x1, x2, x3, x4, x5, x6, x7, z0, z1, z2, z3, z4, z5, z6, z7, z8, unc, Tr.kind, Tr.set, Tr.parts, Tr.mn, Tr.mx, Tr.num, ow_zero]) rfl ?_
        first | exact HA.out | exact HA.out.drew
  ·have hd0 : (decide ((49 : Int) ≤ (c.toNat : Int)) = false ∧ decide (49 ≤ c.toNat) = false) ∨ ((decide ((49 : Int) ≤ (c.toNat : Int)) = true ∧ decide (49 ≤ c.toNat) = true) ∧ decide ((c.toNat : Int) ≤ 57) = false ∧ decide (c.toNat ≤ 57) = false) := by
    by_cases h49 : 49 ≤ c.toNat
    ·exact .inr ⟨⟨by simp; omega, by simp; omega⟩, by simp; omega, by simp; omega⟩
    ·exact .inl ⟨by simp; omega, by simp; omega⟩
   have hesc : escM ere st c.toNat = match escSet c.toNat with
     | none => .error (2, st.pos)
     | some (t, m) => .ok ((if m then st.mark c.toNat else st).to (st.pos + 2), .one t) := by unfold escM; rw [if_neg hdig]; cases escSet c.toNat <;> rfl
   have HD0 := Lib.hid hd0
   have HR1 := Lib.hid (HR0.out.trans hesc)
   clear hd0 hesc hdig
   by_cases hx0 : c.toNat = 110
   ·have HRx := Lib.hid (show R = .ok (⟨p2, st.opened, st.closed, st.marks⟩, .one (oSpan 10 10)) by rw [HR1.out, hx0, HP2.out.1]; rfl)
    have e110 : ((c.toNat : Int) == 110) = true := by rw [hx0]; rfl
    have d49 : decide ((49 : Int) ≤ (c.toNat : Int)) = true := by simp; omega
    have d49' : decide (49 ≤ c.toNat) = true := by simp; omega
    have d57 : decide ((c.toNat : Int) ≤ 57) = false := by simp; omega
    have d57' : decide (c.toNat ≤ 57) = false := by simp; omega
    clear hx0
    go_wp2_with fail
    refine (HSp.out 10 10 _ (by decide) (by decide) (by decide) (by decide)).mono ?_
    rintro e w21 ⟨rfl, b21⟩
    have HE21 := Lib.hid (HE1.out.step b21)
    clear b21
    obtain ⟨c0, c1, c2, c3, c4, c5, c6, c7, f0, f1, f2, f3, f4, f5, f6, f7, hl⟩ := blk8 HE21.out.f.k2
    obtain ⟨g0, g1, g2, g3, k0, k1, k2, k3, k4⟩ := blk_four HE21.out.w8
    go_upto_region 40 with fail
    have HEy := Lib.hid (EsF.put HE21.out.f HE21.out.w6 HE21.out.w8 HE21.out.l6 HE21.out.l8 HE21.out.r8 (t8 := (oSpan 10 10)))
    generalize ((((w21.setCell ⟨q8, 0, none⟩ (.int .u64 (ow (oSpan 10 10) 0))).setCell ⟨q8, 1, none⟩ (.int .u64 (ow (oSpan 10 10) 1))).setCell ⟨q8, 2, none⟩ (.int .u64 (ow (oSpan 10 10) 2))).setCell ⟨q8, 3, none⟩ (.int .u64 (ow (oSpan 10 10) 3))) = wy at *
    clear c0 c1 c2 c3 c4 c5 c6 c7 f0 f1 f2 f3 f4 f5 f6 f7 hl
    clear g0 g1 g2 g3 k0 k1 k2 k3 k4
    obtain ⟨c0, c1, c2, c3, c4, c5, c6, c7, f0, f1, f2, f3, f4, f5, f6, f7, hl⟩ := blk8 HEy.out.f.k2
    go_wp2_with fail
    have HFx := Lib.hid (HFT.out _ HEy.out.f)
    have HQx := Lib.hid (HEy.out.w8.same (far_set _ w.heap.size 2 (.int .i64 (p2 : Int)) (by have := HG8.out; omega)))
    have HSS := Lib.hid (C12.of HFx.out.k2 HQx.out)
    have hn1 : w.heap.size ≠ w.heap.size + 1 := by omega
    have hn2 : q8 ≠ w.heap.size + 1 := by have := HG8.out; omega
    have hn3 : w.heap.size ≠ w.heap.size + 1 + 1 := by omega
    have hn4 : q8 ≠ w.heap.size + 1 + 1 := by have := HG8.out; omega
    go_upto_region 41 with fail
    clear c0 c1 c2 c3 c4 c5 c6 c7 f0 f1 f2 f3 f4 f5 f6 f7 hl
    generalize wy.setCell ⟨w.heap.size, 2, none⟩ (.int .i64 (p2 : Int)) = W at *
    go_region_held3 (fun w' => C12 w' w.heap.size q8 (.string s) (.bool ere) (.int .i64 (p2 : Int)) (.int .i64 (st.opened : Int)) (.slice ca cl cc) (.slice ma ml mc) (.int .i64 0) (.int .i64 0) (.int .u64 (ow (oSpan 10 10) 0)) (.int .u64 (ow (oSpan 10 10) 1)) (.int .u64 (ow (oSpan 10 10) 2)) (.int .u64 (ow (oSpan 10 10) 3)))
     (first | (with_reducible exact C12.drew HSS.out) | (with_reducible exact C12.of HLz.out.k2 HQz.out) | (with_reducible exact C12.put8 (by assumption) hn1 hn2) | (with_reducible exact C12.put9 (by assumption) hn3 hn4))
     (first | (go_at_call 92; refine (HOne.out (oSpan 10 10) _).mono ?_; rintro e w8 ⟨rfl, b8⟩; have hLz := (by first | exact HFx.out.step b8 | exact (HFx.out.step (Below.refl _ _).drew).step b8 : Fr F w s ere w8 ⟨p2, st.opened, st.closed, st.marks⟩ (.slice ca cl cc) (.slice ma ml mc)); have hQz := (by first | exact HQx.out.below b8 HQx.out.lt | exact (HQx.out.drew).below b8 HQx.out.lt : Blk w8 q8 #[.int .u64 (ow (oSpan 10 10) 0), .int .u64 (ow (oSpan 10 10) 1), .int .u64 (ow (oSpan 10 10) 2), .int .u64 (ow (oSpan 10 10) 3)] 33); have HLz := Lib.hid hLz; have HQz := Lib.hid hQz; clear b8; obtain ⟨x0, x1, x2, x3, x4, x5, x6, x7, y0, y1, y2, y3, y4, y5, y6, y7, hx⟩ := blk8 hLz.k4; obtain ⟨z0, z1, z2, z3, z4, z5, z6, z7, z8, v0, v1, v2, v3, v4, v5, v6, v7, v8, hz⟩ := blk9n hLz.k5; clear hLz hQz))
    all_goals
     go_wp2_with fail
     first
      | (with_reducible refine post17 HLz.out.b HLz.out.k4 HLz.out.k5 ?_ ?_ ?_ ?_)
      | (with_reducible refine post17d HLz.out.b HLz.out.k4 HLz.out.k5 ?_ ?_ ?_ rfl ?_)
     ·omega
     ·omega
     ·omega
     intro w9 hB9 hk9 hj9 hs9 hz9
     have HA := Lib.hid (HLz.out.ok (FT := fun _ => False) (C := fun _ => true) (d := .one (oSpan 10 10)) HRx.out (trx_leaf rfl) hB9 hs9 hz9)
     clear x0 x1 x2 x3 x4 x5 x6 x7 y0 y1 y2 y3 y4 y5 y6 y7 hx z0 z1 z2 z3 z4 z5 z6 z7 z8 v0 v1 v2 v3 v4 v5 v6 v7 v8 hz
     obtain ⟨x0, x1, x2, x3, x4, x5, x6, x7, _⟩ := blk8 hk9
     obtain ⟨z0, z1, z2, z3, z4, z5, z6, z7, z8, _⟩ := blk9n hj9
     refine bodyPost_ret (v := .tuple #[.agg (rfC s ere p2 st.opened (.slice ca cl cc) (.slice ma ml mc) 0 0), .agg (tC (unc (.one (oSpan 10 10))) none 0)]) (by simp [results, Tryz.results94, go_sem, x0, x1, x2, x3, x4, x5, x6, x7, z0, z1, z2, z3, z4, z5, z6, z7, z8]) rfl ?_
     first | exact HA.out | exact HA.out.drew
   by_cases hx0 : c.toNat = 116
   ·have HRx := Lib.hid (show R = .ok (⟨p2, st.opened, st.closed, st.marks ++ [(st.pos, c.toNat)]⟩, .one (oSpan 9 9)) by rw [HR1.out, hx0, HP2.out.1]; rfl)
    have e110 : ((c.toNat : Int) == 110) = false := by rw [beq_eq_false_iff_ne]; omega
    have e116 : ((c.toNat : Int) == 116) = true := by rw [hx0]; rfl
    have d49 : decide ((49 : Int) ≤ (c.toNat : Int)) = true := by simp; omega
    have d49' : decide (49 ≤ c.toNat) = true := by simp; omega
    have d57 : decide ((c.toNat : Int) ≤ 57) = false := by simp; omega
    have d57' : decide (c.toNat ≤ 57) = false := by simp; omega
    clear hx0
    go_wp2_with fail
    refine (HSp.out 9 9 _ (by decide) (by decide) (by decide) (by decide)).mono ?_
    rintro e w21 ⟨rfl, b21⟩
    have HE21 := Lib.hid (HE1.out.step b21)
    clear b21
    obtain ⟨c0, c1, c2, c3, c4, c5, c6, c7, f0, f1, f2, f3, f4, f5, f6, f7, hl⟩ := blk8 HE21.out.f.k2
    obtain ⟨g0, g1, g2, g3, k0, k1, k2, k3, k4⟩ := blk_four HE21.out.w8
    go_upto_region 39 with fail
    have HEy := Lib.hid (EsF.put HE21.out.f HE21.out.w6 HE21.out.w8 HE21.out.l6 HE21.out.l8 HE21.out.r8 (t8 := (oSpan 9 9)))
    generalize ((((w21.setCell ⟨q8, 0, none⟩ (.int .u64 (ow (oSpan 9 9) 0))).setCell ⟨q8, 1, none⟩ (.int .u64 (ow (oSpan 9 9) 1))).setCell ⟨q8, 2, none⟩ (.int .u64 (ow (oSpan 9 9) 2))).setCell ⟨q8, 3, none⟩ (.int .u64 (ow (oSpan 9 9) 3))) = wy at *
    clear c0 c1 c2 c3 c4 c5 c6 c7 f0 f1 f2 f3 f4 f5 f6 f7 hl
    clear g0 g1 g2 g3 k0 k1 k2 k3 k4
    obtain ⟨c0, c1, c2, c3, c4, c5, c6, c7, f0, f1, f2, f3, f4, f5, f6, f7, hl⟩ := blk8 HEy.out.f.k2
    go_wp2_with fail
    have hmk := HMk.out _ s ere st.pos st.opened (.slice ca cl cc) (.slice ma ml mc) st.marks c wy HEy.out.f.r.c.form HEy.out.f.r.m (by have := HEy.out.f.r.ml; have := HEy.out.f.r.small; have := HEy.out.f.r.pos; omega)
    with_reducible refine hmk.mono ?_
    clear hmk
    rintro e w7 ⟨mv7, rfl, hm7, b7⟩
    obtain ⟨ma7, ml7, mc7, rfl⟩ := hm7.form
    have HE7 := Lib.hid (HEy.out.step b7)
    have HM7 := Lib.hid (hm7.keep (G := fun b => (F b ∧ b < w.heap.size) ∨ w.heap.size + 3 ≤ b) (Nat.le_refl _) (fun b hf _ => ⟨.inr (by have := HEy.out.f.k5.lt; omega), fun _ => rfl⟩))
    clear b7 hm7
    clear c0 c1 c2 c3 c4 c5 c6 c7 f0 f1 f2 f3 f4 f5 f6 f7 hl
    obtain ⟨c0, c1, c2, c3, c4, c5, c6, c7, f0, f1, f2, f3, f4, f5, f6, f7, hl⟩ := blk8 HE7.out.f.k2
    have hmk2 := HE7.out.marked HM7.out p2 (by have := HP2.out; omega) (by have := HP2.out; omega) (by have := HP2.out; have := HE7.out.f.r.ml; simp; omega)
    have HFx := Lib.hid hmk2.1
    have HQx := Lib.hid hmk2.2
    clear hmk2
    have HSS := Lib.hid (C12.of HFx.out.k2 HQx.out)
    have hn1 : w.heap.size ≠ w.heap.size + 1 := by omega
    have hn2 : q8 ≠ w.heap.size + 1 := by have := HG8.out; omega
    have hn3 : w.heap.size ≠ w.heap.size + 1 + 1 := by omega
    have hn4 : q8 ≠ w.heap.size + 1 + 1 := by have := HG8.out; omega
    go_upto_region 41 with fail
    clear c0 c1 c2 c3 c4 c5 c6 c7 f0 f1 f2 f3 f4 f5 f6 f7 hl
    generalize ((((((((w7.setCell ⟨w.heap.size, 0, none⟩ (.string s)).setCell ⟨w.heap.size, 1, none⟩ (.bool ere)).setCell ⟨w.heap.size, 2, none⟩ (.int .i64 (st.pos : Int))).setCell ⟨w.heap.size, 3, none⟩ (.int .i64 (st.opened : Int))).setCell ⟨w.heap.size, 4, none⟩ (.slice ca cl cc)).setCell ⟨w.heap.size, 5, none⟩ (.slice ma7 ml7 mc7)).setCell ⟨w.heap.size, 6, none⟩ (.int .i64 0)).setCell ⟨w.heap.size, 7, none⟩ (.int .i64 0)).setCell ⟨w.heap.size, 2, none⟩ (.int .i64 (p2 : Int)) = W at *
    go_region_held3 (fun w' => C12 w' w.heap.size q8 (.string s) (.bool ere) (.int .i64 (p2 : Int)) (.int .i64 (st.opened : Int)) (.slice ca cl cc) (.slice ma7 ml7 mc7) (.int .i64 0) (.int .i64 0) (.int .u64 (ow (oSpan 9 9) 0)) (.int .u64 (ow (oSpan 9 9) 1)) (.int .u64 (ow (oSpan 9 9) 2)) (.int .u64 (ow (oSpan 9 9) 3)))
     (first | (with_reducible exact C12.drew HSS.out) | (with_reducible exact C12.of HLz.out.k2 HQz.out) | (with_reducible exact C12.put8 (by assumption) hn1 hn2) | (with_reducible exact C12.put9 (by assumption) hn3 hn4))
     (first | (go_at_call 92; refine (HOne.out (oSpan 9 9) _).mono ?_; rintro e w8 ⟨rfl, b8⟩; have hLz := (by first | exact HFx.out.step b8 | exact (HFx.out.step (Below.refl _ _).drew).step b8 : Fr F w s ere w8 ⟨p2, st.opened, st.closed, st.marks ++ [(st.pos, c.toNat)]⟩ (.slice ca cl cc) (.slice ma7 ml7 mc7)); have hQz := (by first | exact HQx.out.below b8 HQx.out.lt | exact (HQx.out.drew).below b8 HQx.out.lt : Blk w8 q8 #[.int .u64 (ow (oSpan 9 9) 0), .int .u64 (ow (oSpan 9 9) 1), .int .u64 (ow (oSpan 9 9) 2), .int .u64 (ow (oSpan 9 9) 3)] 33); have HLz := Lib.hid hLz; have HQz := Lib.hid hQz; clear b8; obtain ⟨x0, x1, x2, x3, x4, x5, x6, x7, y0, y1, y2, y3, y4, y5, y6, y7, hx⟩ := blk8 hLz.k4; obtain ⟨z0, z1, z2, z3, z4, z5, z6, z7, z8, v0, v1, v2, v3, v4, v5, v6, v7, v8, hz⟩ := blk9n hLz.k5; clear hLz hQz))
    all_goals
     go_wp2_with fail
     first
      | (with_reducible refine post17 HLz.out.b HLz.out.k4 HLz.out.k5 ?_ ?_ ?_ ?_)
      | (with_reducible refine post17d HLz.out.b HLz.out.k4 HLz.out.k5 ?_ ?_ ?_ rfl ?_)
     ·omega
     ·omega
     ·omega
     intro w9 hB9 hk9 hj9 hs9 hz9
     have HA := Lib.hid (HLz.out.ok (FT := fun _ => False) (C := fun _ => true) (d := .one (oSpan 9 9)) HRx.out (trx_leaf rfl) hB9 hs9 hz9)
     clear x0 x1 x2 x3 x4 x5 x6 x7 y0 y1 y2 y3 y4 y5 y6 y7 hx z0 z1 z2 z3 z4 z5 z6 z7 z8 v0 v1 v2 v3 v4 v5 v6 v7 v8 hz
     obtain ⟨x0, x1, x2, x3, x4, x5, x6, x7, _⟩ := blk8 hk9
     obtain ⟨z0, z1, z2, z3, z4, z5, z6, z7, z8, _⟩ := blk9n hj9
     refine bodyPost_ret (v := .tuple #[.agg (rfC s ere p2 st.opened (.slice ca cl cc) (.slice ma7 ml7 mc7) 0 0), .agg (tC (unc (.one (oSpan 9 9))) none 0)]) (by simp [results, Tryz.results94, go_sem, x0, x1, x2, x3, x4, x5, x6, x7, z0, z1, z2, z3, z4, z5, z6, z7, z8]) rfl ?_
     first | exact HA.out | exact HA.out.drew
   by_cases hx0 : c.toNat = 119
   ·have HRx := Lib.hid (show R = .ok (⟨p2, st.opened, st.closed, st.marks ++ [(st.pos, c.toNat)]⟩, .one wordSet) by rw [HR1.out, hx0, HP2.out.1]; rfl)
    have e110 : ((c.toNat : Int) == 110) = false := by rw [beq_eq_false_iff_ne]; omega
    have e116 : ((c.toNat : Int) == 116) = false := by rw [beq_eq_false_iff_ne]; omega
    have e119 : ((c.toNat : Int) == 119) = true := by rw [hx0]; rfl
    have d49 : decide ((49 : Int) ≤ (c.toNat : Int)) = true := by simp; omega
    have d49' : decide (49 ≤ c.toNat) = true := by simp; omega
    have d57 : decide ((c.toNat : Int) ≤ 57) = false := by simp; omega
    have d57' : decide (c.toNat ≤ 57) = false := by simp; omega
    clear hx0
    go_upto_region 25 with fail
    obtain ⟨a0, a1, a2, a3, m0, m1, m2, m3, m4⟩ := blk_four HE1.out.w6
    obtain ⟨g0, g1, g2, g3, k0, k1, k2, k3, k4⟩ := blk_four HE1.out.w8
    obtain ⟨c0, c1, c2, c3, c4, c5, c6, c7, f0, f1, f2, f3, f4, f5, f6, f7, hl⟩ := blk8 HE1.out.f.k2
    go_upto_region 39 with fail
    have HEy := Lib.hid (EsF.put HE1.out.f HE1.out.w6 HE1.out.w8 HE1.out.l6 HE1.out.l8 HE1.out.r8 (t8 := wordSet))
    generalize ((((wc.setCell ⟨q8, 0, none⟩ (.int .u64 (ow wordSet 0))).setCell ⟨q8, 1, none⟩ (.int .u64 (ow wordSet 1))).setCell ⟨q8, 2, none⟩ (.int .u64 (ow wordSet 2))).setCell ⟨q8, 3, none⟩ (.int .u64 (ow wordSet 3))) = wy at *
    clear c0 c1 c2 c3 c4 c5 c6 c7 f0 f1 f2 f3 f4 f5 f6 f7 hl
    clear g0 g1 g2 g3 k0 k1 k2 k3 k4
    clear a0 a1 a2 a3 m0 m1 m2 m3 m4
    obtain ⟨c0, c1, c2, c3, c4, c5, c6, c7, f0, f1, f2, f3, f4, f5, f6, f7, hl⟩ := blk8 HEy.out.f.k2
    go_wp2_with fail
    have hmk := HMk.out _ s ere st.pos st.opened (.slice ca cl cc) (.slice ma ml mc) st.marks c wy HEy.out.f.r.c.form HEy.out.f.r.m (by have := HEy.out.f.r.ml; have := HEy.out.f.r.small; have := HEy.out.f.r.pos; omega)
    with_reducible refine hmk.mono ?_
    clear hmk
    rintro e w7 ⟨mv7, rfl, hm7, b7⟩
    obtain ⟨ma7, ml7, mc7, rfl⟩ := hm7.form
    have HE7 := Lib.hid (HEy.out.step b7)
    have HM7 := Lib.hid (hm7.keep (G := fun b => (F b ∧ b < w.heap.size) ∨ w.heap.size + 3 ≤ b) (Nat.le_refl _) (fun b hf _ => ⟨.inr (by have := HEy.out.f.k5.lt; omega), fun _ => rfl⟩))
    clear b7 hm7
    clear c0 c1 c2 c3 c4 c5 c6 c7 f0 f1 f2 f3 f4 f5 f6 f7 hl
    obtain ⟨c0, c1, c2, c3, c4, c5, c6, c7, f0, f1, f2, f3, f4, f5, f6, f7, hl⟩ := blk8 HE7.out.f.k2
    have hmk2 := HE7.out.marked HM7.out p2 (by have := HP2.out; omega) (by have := HP2.out; omega) (by have := HP2.out; have := HE7.out.f.r.ml; simp; omega)
    have HFx := Lib.hid hmk2.1
    have HQx := Lib.hid hmk2.2
    clear hmk2
    have HSS := Lib.hid (C12.of HFx.out.k2 HQx.out)
    have hn1 : w.heap.size ≠ w.heap.size + 1 := by omega
    have hn2 : q8 ≠ w.heap.size + 1 := by have := HG8.out; omega
    have hn3 : w.heap.size ≠ w.heap.size + 1 + 1 := by omega
    have hn4 : q8 ≠ w.heap.size + 1 + 1 := by have := HG8.out; omega
    go_upto_region 41 with fail
    clear c0 c1 c2 c3 c4 c5 c6 c7 f0 f1 f2 f3 f4 f5 f6 f7 hl
    generalize ((((((((w7.setCell ⟨w.heap.size, 0, none⟩ (.string s)).setCell ⟨w.heap.size, 1, none⟩ (.bool ere)).setCell ⟨w.heap.size, 2, none⟩ (.int .i64 (st.pos : Int))).setCell ⟨w.heap.size, 3, none⟩ (.int .i64 (st.opened : Int))).setCell ⟨w.heap.size, 4, none⟩ (.slice ca cl cc)).setCell ⟨w.heap.size, 5, none⟩ (.slice ma7 ml7 mc7)).setCell ⟨w.heap.size, 6, none⟩ (.int .i64 0)).setCell ⟨w.heap.size, 7, none⟩ (.int .i64 0)).setCell ⟨w.heap.size, 2, none⟩ (.int .i64 (p2 : Int)) = W at *
    go_region_held3 (fun w' => C12 w' w.heap.size q8 (.string s) (.bool ere) (.int .i64 (p2 : Int)) (.int .i64 (st.opened : Int)) (.slice ca cl cc) (.slice ma7 ml7 mc7) (.int .i64 0) (.int .i64 0) (.int .u64 (ow wordSet 0)) (.int .u64 (ow wordSet 1)) (.int .u64 (ow wordSet 2)) (.int .u64 (ow wordSet 3)))
     (first | (with_reducible exact C12.drew HSS.out) | (with_reducible exact C12.of HLz.out.k2 HQz.out) | (with_reducible exact C12.put8 (by assumption) hn1 hn2) | (with_reducible exact C12.put9 (by assumption) hn3 hn4))
     (first | (go_at_call 92; refine (HOne.out wordSet _).mono ?_; rintro e w8 ⟨rfl, b8⟩; have hLz := (by first | exact HFx.out.step b8 | exact (HFx.out.step (Below.refl _ _).drew).step b8 : Fr F w s ere w8 ⟨p2, st.opened, st.closed, st.marks ++ [(st.pos, c.toNat)]⟩ (.slice ca cl cc) (.slice ma7 ml7 mc7)); have hQz := (by first | exact HQx.out.below b8 HQx.out.lt | exact (HQx.out.drew).below b8 HQx.out.lt : Blk w8 q8 #[.int .u64 (ow wordSet 0), .int .u64 (ow wordSet 1), .int .u64 (ow wordSet 2), .int .u64 (ow wordSet 3)] 33); have HLz := Lib.hid hLz; have HQz := Lib.hid hQz; clear b8; obtain ⟨x0, x1, x2, x3, x4, x5, x6, x7, y0, y1, y2, y3, y4, y5, y6, y7, hx⟩ := blk8 hLz.k4; obtain ⟨z0, z1, z2, z3, z4, z5, z6, z7, z8, v0, v1, v2, v3, v4, v5, v6, v7, v8, hz⟩ := blk9n hLz.k5; clear hLz hQz))
    all_goals
     go_wp2_with fail
     first
      | (with_reducible refine post17 HLz.out.b HLz.out.k4 HLz.out.k5 ?_ ?_ ?_ ?_)
      | (with_reducible refine post17d HLz.out.b HLz.out.k4 HLz.out.k5 ?_ ?_ ?_ rfl ?_)
     ·omega
     ·omega
     ·omega
     intro w9 hB9 hk9 hj9 hs9 hz9
     have HA := Lib.hid (HLz.out.ok (FT := fun _ => False) (C := fun _ => true) (d := .one wordSet) HRx.out (trx_leaf rfl) hB9 hs9 hz9)
     clear x0 x1 x2 x3 x4 x5 x6 x7 y0 y1 y2 y3 y4 y5 y6 y7 hx z0 z1 z2 z3 z4 z5 z6 z7 z8 v0 v1 v2 v3 v4 v5 v6 v7 v8 hz
     obtain ⟨x0, x1, x2, x3, x4, x5, x6, x7, _⟩ := blk8 hk9
     obtain ⟨z0, z1, z2, z3, z4, z5, z6, z7, z8, _⟩ := blk9n hj9
     refine bodyPost_ret (v := .tuple #[.agg (rfC s ere p2 st.opened (.slice ca cl cc) (.slice ma7 ml7 mc7) 0 0), .agg (tC (unc (.one wordSet)) none 0)]) (by simp [results, Tryz.results94, go_sem, x0, x1, x2, x3, x4, x5, x6, x7, z0, z1, z2, z3, z4, z5, z6, z7, z8]) rfl ?_
     first | exact HA.out | exact HA.out.drew
   by_cases hx0 : c.toNat = 87
   ·have HRx := Lib.hid (show R = .ok (⟨p2, st.opened, st.closed, st.marks ++ [(st.pos, c.toNat)]⟩, .one (~~~wordSet)) by rw [HR1.out, hx0, HP2.out.1]; rfl)
    have e110 : ((c.toNat : Int) == 110) = false := by rw [beq_eq_false_iff_ne]; omega
    have e116 : ((c.toNat : Int) == 116) = false := by rw [beq_eq_false_iff_ne]; omega
    have e119 : ((c.toNat : Int) == 119) = false := by rw [beq_eq_false_iff_ne]; omega
    have e87 : ((c.toNat : Int) == 87) = true := by rw [hx0]; rfl
    have d49 : decide ((49 : Int) ≤ (c.toNat : Int)) = true := by simp; omega
    have d49' : decide (49 ≤ c.toNat) = true := by simp; omega
    have d57 : decide ((c.toNat : Int) ≤ 57) = false := by simp; omega
    have d57' : decide (c.toNat ≤ 57) = false := by simp; omega
    clear hx0
    go_upto_region 28 with fail
    obtain ⟨a0, a1, a2, a3, m0, m1, m2, m3, m4⟩ := blk_four HE1.out.w6
    go_wp2_with fail
    clear a0 a1 a2 a3 m0 m1 m2 m3 m4
    refine (rnot_any wordSet _).mono ?_
    rintro e w21 ⟨rfl, b21⟩
    have HE21 := Lib.hid (HE1.out.step b21)
    clear b21
    obtain ⟨c0, c1, c2, c3, c4, c5, c6, c7, f0, f1, f2, f3, f4, f5, f6, f7, hl⟩ := blk8 HE21.out.f.k2
    obtain ⟨g0, g1, g2, g3, k0, k1, k2, k3, k4⟩ := blk_four HE21.out.w8
    go_upto_region 39 with fail
    have HEy := Lib.hid (EsF.put HE21.out.f HE21.out.w6 HE21.out.w8 HE21.out.l6 HE21.out.l8 HE21.out.r8 (t8 := (~~~wordSet)))
    generalize ((((w21.setCell ⟨q8, 0, none⟩ (.int .u64 (ow (~~~wordSet) 0))).setCell ⟨q8, 1, none⟩ (.int .u64 (ow (~~~wordSet) 1))).setCell ⟨q8, 2, none⟩ (.int .u64 (ow (~~~wordSet) 2))).setCell ⟨q8, 3, none⟩ (.int .u64 (ow (~~~wordSet) 3))) = wy at *
    clear c0 c1 c2 c3 c4 c5 c6 c7 f0 f1 f2 f3 f4 f5 f6 f7 hl
    clear g0 g1 g2 g3 k0 k1 k2 k3 k4
    obtain ⟨c0, c1, c2, c3, c4, c5, c6, c7, f0, f1, f2, f3, f4, f5, f6, f7, hl⟩ := blk8 HEy.out.f.k2
    go_wp2_with fail
    have hmk := HMk.out _ s ere st.pos st.opened (.slice ca cl cc) (.slice ma ml mc) st.marks c wy HEy.out.f.r.c.form HEy.out.f.r.m (by have := HEy.out.f.r.ml; have := HEy.out.f.r.small; have := HEy.out.f.r.pos; omega)
    with_reducible refine hmk.mono ?_
    clear hmk
    rintro e w7 ⟨mv7, rfl, hm7, b7⟩
    obtain ⟨ma7, ml7, mc7, rfl⟩ := hm7.form
    have HE7 := Lib.hid (HEy.out.step b7)
    have HM7 := Lib.hid (hm7.keep (G := fun b => (F b ∧ b < w.heap.size) ∨ w.heap.size + 3 ≤ b) (Nat.le_refl _) (fun b hf _ => ⟨.inr (by have := HEy.out.f.k5.lt; omega), fun _ => rfl⟩))
    clear b7 hm7
    clear c0 c1 c2 c3 c4 c5 c6 c7 f0 f1 f2 f3 f4 f5 f6 f7 hl
    obtain ⟨c0, c1, c2, c3, c4, c5, c6, c7, f0, f1, f2, f3, f4, f5, f6, f7, hl⟩ := blk8 HE7.out.f.k2
    have hmk2 := HE7.out.marked HM7.out p2 (by have := HP2.out; omega) (by have := HP2.out; omega) (by have := HP2.out; have := HE7.out.f.r.ml; simp; omega)
    have HFx := Lib.hid hmk2.1
    have HQx := Lib.hid hmk2.2
    clear hmk2
    have HSS := Lib.hid (C12.of HFx.out.k2 HQx.out)
    have hn1 : w.heap.size ≠ w.heap.size + 1 := by omega
    have hn2 : q8 ≠ w.heap.size + 1 := by have := HG8.out; omega
    have hn3 : w.heap.size ≠ w.heap.size + 1 + 1 := by omega
    have hn4 : q8 ≠ w.heap.size + 1 + 1 := by have := HG8.out; omega
    go_upto_region 41 with fail
    clear c0 c1 c2 c3 c4 c5 c6 c7 f0 f1 f2 f3 f4 f5 f6 f7 hl
    generalize ((((((((w7.setCell ⟨w.heap.size, 0, none⟩ (.string s)).setCell ⟨w.heap.size, 1, none⟩ (.bool ere)).setCell ⟨w.heap.size, 2, none⟩ (.int .i64 (st.pos : Int))).setCell ⟨w.heap.size, 3, none⟩ (.int .i64 (st.opened : Int))).setCell ⟨w.heap.size, 4, none⟩ (.slice ca cl cc)).setCell ⟨w.heap.size, 5, none⟩ (.slice ma7 ml7 mc7)).setCell ⟨w.heap.size, 6, none⟩ (.int .i64 0)).setCell ⟨w.heap.size, 7, none⟩ (.int .i64 0)).setCell ⟨w.heap.size, 2, none⟩ (.int .i64 (p2 : Int)) = W at *
    go_region_held3 (fun w' => C12 w' w.heap.size q8 (.string s) (.bool ere) (.int .i64 (p2 : Int)) (.int .i64 (st.opened : Int)) (.slice ca cl cc) (.slice ma7 ml7 mc7) (.int .i64 0) (.int .i64 0) (.int .u64 (ow (~~~wordSet) 0)) (.int .u64 (ow (~~~wordSet) 1)) (.int .u64 (ow (~~~wordSet) 2)) (.int .u64 (ow (~~~wordSet) 3)))
     (first | (with_reducible exact C12.drew HSS.out) | (with_reducible exact C12.of HLz.out.k2 HQz.out) | (with_reducible exact C12.put8 (by assumption) hn1 hn2) | (with_reducible exact C12.put9 (by assumption) hn3 hn4))
     (first | (go_at_call 92; refine (HOne.out (~~~wordSet) _).mono ?_; rintro e w8 ⟨rfl, b8⟩; have hLz := (by first | exact HFx.out.step b8 | exact (HFx.out.step (Below.refl _ _).drew).step b8 : Fr F w s ere w8 ⟨p2, st.opened, st.closed, st.marks ++ [(st.pos, c.toNat)]⟩ (.slice ca cl cc) (.slice ma7 ml7 mc7)); have hQz := (by first | exact HQx.out.below b8 HQx.out.lt | exact (HQx.out.drew).below b8 HQx.out.lt : Blk w8 q8 #[.int .u64 (ow (~~~wordSet) 0), .int .u64 (ow (~~~wordSet) 1), .int .u64 (ow (~~~wordSet) 2), .int .u64 (ow (~~~wordSet) 3)] 33); have HLz := Lib.hid hLz; have HQz := Lib.hid hQz; clear b8; obtain ⟨x0, x1, x2, x3, x4, x5, x6, x7, y0, y1, y2, y3, y4, y5, y6, y7, hx⟩ := blk8 hLz.k4; obtain ⟨z0, z1, z2, z3, z4, z5, z6, z7, z8, v0, v1, v2, v3, v4, v5, v6, v7, v8, hz⟩ := blk9n hLz.k5; clear hLz hQz))
    all_goals
     go_wp2_with fail
     first
      | (with_reducible refine post17 HLz.out.b HLz.out.k4 HLz.out.k5 ?_ ?_ ?_ ?_)
      | (with_reducible refine post17d HLz.out.b HLz.out.k4 HLz.out.k5 ?_ ?_ ?_ rfl ?_)
     ·omega
     ·omega
     ·omega
     intro w9 hB9 hk9 hj9 hs9 hz9
     have HA := Lib.hid (HLz.out.ok (FT := fun _ => False) (C := fun _ => true) (d := .one (~~~wordSet)) HRx.out (trx_leaf rfl) hB9 hs9 hz9)
     clear x0 x1 x2 x3 x4 x5 x6 x7 y0 y1 y2 y3 y4 y5 y6 y7 hx z0 z1 z2 z3 z4 z5 z6 z7 z8 v0 v1 v2 v3 v4 v5 v6 v7 v8 hz
     obtain ⟨x0, x1, x2, x3, x4, x5, x6, x7, _⟩ := blk8 hk9
     obtain ⟨z0, z1, z2, z3, z4, z5, z6, z7, z8, _⟩ := blk9n hj9
     refine bodyPost_ret (v := .tuple #[.agg (rfC s ere p2 st.opened (.slice ca cl cc) (.slice ma7 ml7 mc7) 0 0), .agg (tC (unc (.one (~~~wordSet))) none 0)]) (by simp [results, Tryz.results94, go_sem, x0, x1, x2, x3, x4, x5, x6, x7, z0, z1, z2, z3, z4, z5, z6, z7, z8]) rfl ?_
     first | exact HA.out | exact HA.out.drew
   by_cases hx0 : c.toNat = 115
   ·have HSpc := Lib.hid (fun w => rcls_space w)
    have HRx := Lib.hid (show R = .ok (⟨p2, st.opened, st.closed, st.marks ++ [(st.pos, c.toNat)]⟩, .one spaceSet) by rw [HR1.out, hx0, HP2.out.1]; rfl)
    have e110 : ((c.toNat : Int) == 110) = false := by rw [beq_eq_false_iff_ne]; omega
    have e116 : ((c.toNat : Int) == 116) = false := by rw [beq_eq_false_iff_ne]; omega
    have e119 : ((c.toNat : Int) == 119) = false := by rw [beq_eq_false_iff_ne]; omega
    have e87 : ((c.toNat : Int) == 87) = false := by rw [beq_eq_false_iff_ne]; omega
    have e115 : ((c.toNat : Int) == 115) = true := by rw [hx0]; rfl
    have d49 : decide ((49 : Int) ≤ (c.toNat : Int)) = true := by simp; omega
    have d49' : decide (49 ≤ c.toNat) = true := by simp; omega
    have d57 : decide ((c.toNat : Int) ≤ 57) = false := by simp; omega
    have d57' : decide (c.toNat ≤ 57) = false := by simp; omega
    clear hx0
    go_wp2_with fail
    refine (HSpc.out _).mono ?_
    rintro e w21 ⟨rfl, b21⟩
    have HE21 := Lib.hid (HE1.out.step b21)
    clear b21
    obtain ⟨c0, c1, c2, c3, c4, c5, c6, c7, f0, f1, f2, f3, f4, f5, f6, f7, hl⟩ := blk8 HE21.out.f.k2
    obtain ⟨g0, g1, g2, g3, k0, k1, k2, k3, k4⟩ := blk_four HE21.out.w8
    go_upto_region 39 with fail
    have HEy := Lib.hid (EsF.put HE21.out.f HE21.out.w6 HE21.out.w8 HE21.out.l6 HE21.out.l8 HE21.out.r8 (t8 := spaceSet))
    generalize ((((w21.setCell ⟨q8, 0, none⟩ (.int .u64 (ow spaceSet 0))).setCell ⟨q8, 1, none⟩ (.int .u64 (ow spaceSet 1))).setCell ⟨q8, 2, none⟩ (.int .u64 (ow spaceSet 2))).setCell ⟨q8, 3, none⟩ (.int .u64 (ow spaceSet 3))) = wy at *
    clear c0 c1 c2 c3 c4 c5 c6 c7 f0 f1 f2 f3 f4 f5 f6 f7 hl
    clear g0 g1 g2 g3 k0 k1 k2 k3 k4
    obtain ⟨c0, c1, c2, c3, c4, c5, c6, c7, f0, f1, f2, f3, f4, f5, f6, f7, hl⟩ := blk8 HEy.out.f.k2
    go_wp2_with fail
    have hmk := HMk.out _ s ere st.pos st.opened (.slice ca cl cc) (.slice ma ml mc) st.marks c wy HEy.out.f.r.c.form HEy.out.f.r.m (by have := HEy.out.f.r.ml; have := HEy.out.f.r.small; have := HEy.out.f.r.pos; omega)
    with_reducible refine hmk.mono ?_
    clear hmk
    rintro e w7 ⟨mv7, rfl, hm7, b7⟩
    obtain ⟨ma7, ml7, mc7, rfl⟩ := hm7.form
    have HE7 := Lib.hid (HEy.out.step b7)
    have HM7 := Lib.hid (hm7.keep (G := fun b => (F b ∧ b < w.heap.size) ∨ w.heap.size + 3 ≤ b) (Nat.le_refl _) (fun b hf _ => ⟨.inr (by have := HEy.out.f.k5.lt; omega), fun _ => rfl⟩))
    clear b7 hm7
    clear c0 c1 c2 c3 c4 c5 c6 c7 f0 f1 f2 f3 f4 f5 f6 f7 hl
    obtain ⟨c0, c1, c2, c3, c4, c5, c6, c7, f0, f1, f2, f3, f4, f5, f6, f7, hl⟩ := blk8 HE7.out.f.k2
    have hmk2 := HE7.out.marked HM7.out p2 (by have := HP2.out; omega) (by have := HP2.out; omega) (by have := HP2.out; have := HE7.out.f.r.ml; simp; omega)
    have HFx := Lib.hid hmk2.1
    have HQx := Lib.hid hmk2.2
    clear hmk2
    have HSS := Lib.hid (C12.of HFx.out.k2 HQx.out)
    have hn1 : w.heap.size ≠ w.heap.size + 1 := by omega
    have hn2 : q8 ≠ w.heap.size + 1 := by have := HG8.out; omega
    have hn3 : w.heap.size ≠ w.heap.size + 1 + 1 := by omega
    have hn4 : q8 ≠ w.heap.size + 1 + 1 := by have := HG8.out; omega
    go_upto_region 41 with fail
    clear c0 c1 c2 c3 c4 c5 c6 c7 f0 f1 f2 f3 f4 f5 f6 f7 hl
    generalize ((((((((w7.setCell ⟨w.heap.size, 0, none⟩ (.string s)).setCell ⟨w.heap.size, 1, none⟩ (.bool ere)).setCell ⟨w.heap.size, 2, none⟩ (.int .i64 (st.pos : Int))).setCell ⟨w.heap.size, 3, none⟩ (.int .i64 (st.opened : Int))).setCell ⟨w.heap.size, 4, none⟩ (.slice ca cl cc)).setCell ⟨w.heap.size, 5, none⟩ (.slice ma7 ml7 mc7)).setCell ⟨w.heap.size, 6, none⟩ (.int .i64 0)).setCell ⟨w.heap.size, 7, none⟩ (.int .i64 0)).setCell ⟨w.heap.size, 2, none⟩ (.int .i64 (p2 : Int)) = W at *
    go_region_held3 (fun w' => C12 w' w.heap.size q8 (.string s) (.bool ere) (.int .i64 (p2 : Int)) (.int .i64 (st.opened : Int)) (.slice ca cl cc) (.slice ma7 ml7 mc7) (.int .i64 0) (.int .i64 0) (.int .u64 (ow spaceSet 0)) (.int .u64 (ow spaceSet 1)) (.int .u64 (ow spaceSet 2)) (.int .u64 (ow spaceSet 3)))
     (first | (with_reducible exact C12.drew HSS.out) | (with_reducible exact C12.of HLz.out.k2 HQz.out) | (with_reducible exact C12.put8 (by assumption) hn1 hn2) | (with_reducible exact C12.put9 (by assumption) hn3 hn4))
     (first | (go_at_call 92; refine (HOne.out spaceSet _).mono ?_; rintro e w8 ⟨rfl, b8⟩; have hLz := (by first | exact HFx.out.step b8 | exact (HFx.out.step (Below.refl _ _).drew).step b8 : Fr F w s ere w8 ⟨p2, st.opened, st.closed, st.marks ++ [(st.pos, c.toNat)]⟩ (.slice ca cl cc) (.slice ma7 ml7 mc7)); have hQz := (by first | exact HQx.out.below b8 HQx.out.lt | exact (HQx.out.drew).below b8 HQx.out.lt : Blk w8 q8 #[.int .u64 (ow spaceSet 0), .int .u64 (ow spaceSet 1), .int .u64 (ow spaceSet 2), .int .u64 (ow spaceSet 3)] 33); have HLz := Lib.hid hLz; have HQz := Lib.hid hQz; clear b8; obtain ⟨x0, x1, x2, x3, x4, x5, x6, x7, y0, y1, y2, y3, y4, y5, y6, y7, hx⟩ := blk8 hLz.k4; obtain ⟨z0, z1, z2, z3, z4, z5, z6, z7, z8, v0, v1, v2, v3, v4, v5, v6, v7, v8, hz⟩ := blk9n hLz.k5; clear hLz hQz))
    all_goals
     go_wp2_with fail
     first
      | (with_reducible refine post17 HLz.out.b HLz.out.k4 HLz.out.k5 ?_ ?_ ?_ ?_)
      | (with_reducible refine post17d HLz.out.b HLz.out.k4 HLz.out.k5 ?_ ?_ ?_ rfl ?_)
     ·omega
     ·omega
     ·omega
     intro w9 hB9 hk9 hj9 hs9 hz9
     have HA := Lib.hid (HLz.out.ok (FT := fun _ => False) (C := fun _ => true) (d := .one spaceSet) HRx.out (trx_leaf rfl) hB9 hs9 hz9)
     clear x0 x1 x2 x3 x4 x5 x6 x7 y0 y1 y2 y3 y4 y5 y6 y7 hx z0 z1 z2 z3 z4 z5 z6 z7 z8 v0 v1 v2 v3 v4 v5 v6 v7 v8 hz
     obtain ⟨x0, x1, x2, x3, x4, x5, x6, x7, _⟩ := blk8 hk9
     obtain ⟨z0, z1, z2, z3, z4, z5, z6, z7, z8, _⟩ := blk9n hj9
     refine bodyPost_ret (v := .tuple #[.agg (rfC s ere p2 st.opened (.slice ca cl cc) (.slice ma7 ml7 mc7) 0 0), .agg (tC (unc (.one spaceSet)) none 0)]) (by simp [results, Tryz.results94, go_sem, x0, x1, x2, x3, x4, x5, x6, x7, z0, z1, z2, z3, z4, z5, z6, z7, z8]) rfl ?_
     first | exact HA.out | exact HA.out.drew
   by_cases hx0 : c.toNat = 83
   ·have HSpc := Lib.hid (fun w => rcls_space w)
    have HRx := Lib.hid (show R = .ok (⟨p2, st.opened, st.closed, st.marks ++ [(st.pos, c.toNat)]⟩, .one (~~~spaceSet)) by rw [HR1.out, hx0, HP2.out.1]; rfl)
    have e110 : ((c.toNat : Int) == 110) = false := by rw [beq_eq_false_iff_ne]; omega
    have e116 : ((c.toNat : Int) == 116) = false := by rw [beq_eq_false_iff_ne]; omega
    have e119 : ((c.toNat : Int) == 119) = false := by rw [beq_eq_false_iff_ne]; omega
    have e87 : ((c.toNat : Int) == 87) = false := by rw [beq_eq_false_iff_ne]; omega
    have e115 : ((c.toNat : Int) == 115) = false := by rw [beq_eq_false_iff_ne]; omega
    have e83 : ((c.toNat : Int) == 83) = true := by rw [hx0]; rfl
    have d49 : decide ((49 : Int) ≤ (c.toNat : Int)) = true := by simp; omega
    have d49' : decide (49 ≤ c.toNat) = true := by simp; omega
    have d57 : decide ((c.toNat : Int) ≤ 57) = false := by simp; omega
    have d57' : decide (c.toNat ≤ 57) = false := by simp; omega
    clear hx0
    go_wp2_with fail
    refine (HSpc.out _).mono ?_
    rintro e w21 ⟨rfl, b21⟩
    have HE21 := Lib.hid (HE1.out.step b21)
    clear b21
    go_wp2_with fail
    refine (rnot_any spaceSet _).mono ?_
    rintro e w22 ⟨rfl, b22⟩
    have HE22 := Lib.hid (HE21.out.step b22)
    clear b22
    obtain ⟨c0, c1, c2, c3, c4, c5, c6, c7, f0, f1, f2, f3, f4, f5, f6, f7, hl⟩ := blk8 HE22.out.f.k2
    obtain ⟨g0, g1, g2, g3, k0, k1, k2, k3, k4⟩ := blk_four HE22.out.w8
    go_upto_region 39 with fail
    have HEy := Lib.hid (EsF.put HE22.out.f HE22.out.w6 HE22.out.w8 HE22.out.l6 HE22.out.l8 HE22.out.r8 (t8 := (~~~spaceSet)))
    generalize ((((w22.setCell ⟨q8, 0, none⟩ (.int .u64 (ow (~~~spaceSet) 0))).setCell ⟨q8, 1, none⟩ (.int .u64 (ow (~~~spaceSet) 1))).setCell ⟨q8, 2, none⟩ (.int .u64 (ow (~~~spaceSet) 2))).setCell ⟨q8, 3, none⟩ (.int .u64 (ow (~~~spaceSet) 3))) = wy at *
    clear c0 c1 c2 c3 c4 c5 c6 c7 f0 f1 f2 f3 f4 f5 f6 f7 hl
    clear g0 g1 g2 g3 k0 k1 k2 k3 k4
    obtain ⟨c0, c1, c2, c3, c4, c5, c6, c7, f0, f1, f2, f3, f4, f5, f6, f7, hl⟩ := blk8 HEy.out.f.k2
    go_wp2_with fail
    have hmk := HMk.out _ s ere st.pos st.opened (.slice ca cl cc) (.slice ma ml mc) st.marks c wy HEy.out.f.r.c.form HEy.out.f.r.m (by have := HEy.out.f.r.ml; have := HEy.out.f.r.small; have := HEy.out.f.r.pos; omega)
    with_reducible refine hmk.mono ?_
    clear hmk
    rintro e w7 ⟨mv7, rfl, hm7, b7⟩
    obtain ⟨ma7, ml7, mc7, rfl⟩ := hm7.form
    have HE7 := Lib.hid (HEy.out.step b7)
    have HM7 := Lib.hid (hm7.keep (G := fun b => (F b ∧ b < w.heap.size) ∨ w.heap.size + 3 ≤ b) (Nat.le_refl _) (fun b hf _ => ⟨.inr (by have := HEy.out.f.k5.lt; omega), fun _ => rfl⟩))
    clear b7 hm7
    clear c0 c1 c2 c3 c4 c5 c6 c7 f0 f1 f2 f3 f4 f5 f6 f7 hl
    obtain ⟨c0, c1, c2, c3, c4, c5, c6, c7, f0, f1, f2, f3, f4, f5, f6, f7, hl⟩ := blk8 HE7.out.f.k2
    have hmk2 := HE7.out.marked HM7.out p2 (by have := HP2.out; omega) (by have := HP2.out; omega) (by have := HP2.out; have := HE7.out.f.r.ml; simp; omega)
    have HFx := Lib.hid hmk2.1
    have HQx := Lib.hid hmk2.2
    clear hmk2
    have HSS := Lib.hid (C12.of HFx.out.k2 HQx.out)
    have hn1 : w.heap.size ≠ w.heap.size + 1 := by omega
    have hn2 : q8 ≠ w.heap.size + 1 := by have := HG8.out; omega
    have hn3 : w.heap.size ≠ w.heap.size + 1 + 1 := by omega
    have hn4 : q8 ≠ w.heap.size + 1 + 1 := by have := HG8.out; omega
    go_upto_region 41 with fail
    clear c0 c1 c2 c3 c4 c5 c6 c7 f0 f1 f2 f3 f4 f5 f6 f7 hl
    generalize ((((((((w7.setCell ⟨w.heap.size, 0, none⟩ (.string s)).setCell ⟨w.heap.size, 1, none⟩ (.bool ere)).setCell ⟨w.heap.size, 2, none⟩ (.int .i64 (st.pos : Int))).setCell ⟨w.heap.size, 3, none⟩ (.int .i64 (st.opened : Int))).setCell ⟨w.heap.size, 4, none⟩ (.slice ca cl cc)).setCell ⟨w.heap.size, 5, none⟩ (.slice ma7 ml7 mc7)).setCell ⟨w.heap.size, 6, none⟩ (.int .i64 0)).setCell ⟨w.heap.size, 7, none⟩ (.int .i64 0)).setCell ⟨w.heap.size, 2, none⟩ (.int .i64 (p2 : Int)) = W at *
    go_region_held3 (fun w' => C12 w' w.heap.size q8 (.string s) (.bool ere) (.int .i64 (p2 : Int)) (.int .i64 (st.opened : Int)) (.slice ca cl cc) (.slice ma7 ml7 mc7) (.int .i64 0) (.int .i64 0) (.int .u64 (ow (~~~spaceSet) 0)) (.int .u64 (ow (~~~spaceSet) 1)) (.int .u64 (ow (~~~spaceSet) 2)) (.int .u64 (ow (~~~spaceSet) 3)))
     (first | (with_reducible exact C12.drew HSS.out) | (with_reducible exact C12.of HLz.out.k2 HQz.out) | (with_reducible exact C12.put8 (by assumption) hn1 hn2) | (with_reducible exact C12.put9 (by assumption) hn3 hn4))
     (first | (go_at_call 92; refine (HOne.out (~~~spaceSet) _).mono ?_; rintro e w8 ⟨rfl, b8⟩; have hLz := (by first | exact HFx.out.step b8 | exact (HFx.out.step (Below.refl _ _).drew).step b8 : Fr F w s ere w8 ⟨p2, st.opened, st.closed, st.marks ++ [(st.pos, c.toNat)]⟩ (.slice ca cl cc) (.slice ma7 ml7 mc7)); have hQz := (by first | exact HQx.out.below b8 HQx.out.lt | exact (HQx.out.drew).below b8 HQx.out.lt : Blk w8 q8 #[.int .u64 (ow (~~~spaceSet) 0), .int .u64 (ow (~~~spaceSet) 1), .int .u64 (ow (~~~spaceSet) 2), .int .u64 (ow (~~~spaceSet) 3)] 33); have HLz := Lib.hid hLz; have HQz := Lib.hid hQz; clear b8; obtain ⟨x0, x1, x2, x3, x4, x5, x6, x7, y0, y1, y2, y3, y4, y5, y6, y7, hx⟩ := blk8 hLz.k4; obtain ⟨z0, z1, z2, z3, z4, z5, z6, z7, z8, v0, v1, v2, v3, v4, v5, v6, v7, v8, hz⟩ := blk9n hLz.k5; clear hLz hQz))
    all_goals
     go_wp2_with fail
     first
      | (with_reducible refine post17 HLz.out.b HLz.out.k4 HLz.out.k5 ?_ ?_ ?_ ?_)
      | (with_reducible refine post17d HLz.out.b HLz.out.k4 HLz.out.k5 ?_ ?_ ?_ rfl ?_)
     ·omega
     ·omega
     ·omega
     intro w9 hB9 hk9 hj9 hs9 hz9
     have HA := Lib.hid (HLz.out.ok (FT := fun _ => False) (C := fun _ => true) (d := .one (~~~spaceSet)) HRx.out (trx_leaf rfl) hB9 hs9 hz9)
     clear x0 x1 x2 x3 x4 x5 x6 x7 y0 y1 y2 y3 y4 y5 y6 y7 hx z0 z1 z2 z3 z4 z5 z6 z7 z8 v0 v1 v2 v3 v4 v5 v6 v7 v8 hz
     obtain ⟨x0, x1, x2, x3, x4, x5, x6, x7, _⟩ := blk8 hk9
     obtain ⟨z0, z1, z2, z3, z4, z5, z6, z7, z8, _⟩ := blk9n hj9
     refine bodyPost_ret (v := .tuple #[.agg (rfC s ere p2 st.opened (.slice ca cl cc) (.slice ma7 ml7 mc7) 0 0), .agg (tC (unc (.one (~~~spaceSet))) none 0)]) (by simp [results, Tryz.results94, go_sem, x0, x1, x2, x3, x4, x5, x6, x7, z0, z1, z2, z3, z4, z5, z6, z7, z8]) rfl ?_
     first | exact HA.out | exact HA.out.drew
   have hpu : escSet c.toNat = if ohas punctSet c.toNat then some (oSpan c.toNat c.toNat, false) else none := by unfold escSet; rw [if_neg (by omega)]; rw [if_neg (by omega)]; rw [if_neg (by omega)]; rw [if_neg (by omega)]; rw [if_neg (by omega)]; rw [if_neg (by omega)]
   have HPu := Lib.hid hpu
   have e110 : ((c.toNat : Int) == 110) = false := by rw [beq_eq_false_iff_ne]; omega
   have e116 : ((c.toNat : Int) == 116) = false := by rw [beq_eq_false_iff_ne]; omega
   have e119 : ((c.toNat : Int) == 119) = false := by rw [beq_eq_false_iff_ne]; omega
   have e87 : ((c.toNat : Int) == 87) = false := by rw [beq_eq_false_iff_ne]; omega
   have e115 : ((c.toNat : Int) == 115) = false := by rw [beq_eq_false_iff_ne]; omega
   have e83 : ((c.toNat : Int) == 83) = false := by rw [beq_eq_false_iff_ne]; omega
   have HHas := Lib.hid (fun w => rhas_any punctSet (c.toNat : Int) hc1 hc2 w)
   have HPc := Lib.hid (fun w => rcls_punct w)
   clear hpu
   have htn : ((c.toNat : Int)).toNat = c.toNat := by simp
   rw [htn] at HHas
   clear htn
   cases hP : ohas punctSet c.toNat with
   | true =>
    have HRx := Lib.hid (show R = .ok (⟨p2, st.opened, st.closed, st.marks⟩, .one (oSpan (c.toNat : Int) (c.toNat : Int))) by rw [HR1.out, HPu.out, hP, HP2.out.1]; rfl)
    rw [hP] at HHas
    clear hP
    rcases HD0.out with ⟨d49, d49'⟩ | ⟨⟨d49, d49'⟩, d57, d57'⟩
    all_goals
     clear HD0
     go_wp2_with fail
     go_region_with (first | (go_at_call 109; refine (HPc.out _).mono ?_; rintro e w21 ⟨rfl, b21⟩; have HE21 := Lib.hid (by first | exact HE1.out.step b21 | exact (HE1.out.step (Below.refl _ _).drew).step b21 : EsF F w s ere w21 st (.slice ca cl cc) (.slice ma ml mc) q6 q8 (oSpan (c.toNat : Int) (c.toNat : Int))); clear b21) | (go_at_call 110; refine (HHas.out _).mono ?_; rintro e w22 ⟨rfl, b22⟩; have HE22 := Lib.hid (by first | exact HE21.out.step b22 | exact (HE21.out.step (Below.refl _ _).drew).step b22 : EsF F w s ere w22 st (.slice ca cl cc) (.slice ma ml mc) q6 q8 (oSpan (c.toNat : Int) (c.toNat : Int))); clear b22))
     all_goals
      have HEy := HE22
      generalize w22 = wy at *
      obtain ⟨c0, c1, c2, c3, c4, c5, c6, c7, f0, f1, f2, f3, f4, f5, f6, f7, hl⟩ := blk8 HEy.out.f.k2
      go_upto_region 40 with fail
      have HFx := Lib.hid (HFT.out _ HEy.out.f)
      have HQx := Lib.hid (HEy.out.w8.same (far_set _ w.heap.size 2 (.int .i64 (p2 : Int)) (by have := HG8.out; omega)))
      have HSS := Lib.hid (C12.of HFx.out.k2 HQx.out)
      have hn1 : w.heap.size ≠ w.heap.size + 1 := by omega
      have hn2 : q8 ≠ w.heap.size + 1 := by have := HG8.out; omega
      have hn3 : w.heap.size ≠ w.heap.size + 1 + 1 := by omega
      have hn4 : q8 ≠ w.heap.size + 1 + 1 := by have := HG8.out; omega
      go_upto_region 41 with fail
      clear c0 c1 c2 c3 c4 c5 c6 c7 f0 f1 f2 f3 f4 f5 f6 f7 hl
      generalize wy.setCell ⟨w.heap.size, 2, none⟩ (.int .i64 (p2 : Int)) = W at *
      go_region_held3 (fun w' => C12 w' w.heap.size q8 (.string s) (.bool ere) (.int .i64 (p2 : Int)) (.int .i64 (st.opened : Int)) (.slice ca cl cc) (.slice ma ml mc) (.int .i64 0) (.int .i64 0) (.int .u64 (ow (oSpan (c.toNat : Int) (c.toNat : Int)) 0)) (.int .u64 (ow (oSpan (c.toNat : Int) (c.toNat : Int)) 1)) (.int .u64 (ow (oSpan (c.toNat : Int) (c.toNat : Int)) 2)) (.int .u64 (ow (oSpan (c.toNat : Int) (c.toNat : Int)) 3)))
       (first | (with_reducible exact C12.drew HSS.out) | (with_reducible exact C12.of HLz.out.k2 HQz.out) | (with_reducible exact C12.put8 (by assumption) hn1 hn2) | (with_reducible exact C12.put9 (by assumption) hn3 hn4))
       (first | (go_at_call 92; refine (HOne.out (oSpan (c.toNat : Int) (c.toNat : Int)) _).mono ?_; rintro e w8 ⟨rfl, b8⟩; have hLz := (by first | exact HFx.out.step b8 | exact (HFx.out.step (Below.refl _ _).drew).step b8 : Fr F w s ere w8 ⟨p2, st.opened, st.closed, st.marks⟩ (.slice ca cl cc) (.slice ma ml mc)); have hQz := (by first | exact HQx.out.below b8 HQx.out.lt | exact (HQx.out.drew).below b8 HQx.out.lt : Blk w8 q8 #[.int .u64 (ow (oSpan (c.toNat : Int) (c.toNat : Int)) 0), .int .u64 (ow (oSpan (c.toNat : Int) (c.toNat : Int)) 1), .int .u64 (ow (oSpan (c.toNat : Int) (c.toNat : Int)) 2), .int .u64 (ow (oSpan (c.toNat : Int) (c.toNat : Int)) 3)] 33); have HLz := Lib.hid hLz; have HQz := Lib.hid hQz; clear b8; obtain ⟨x0, x1, x2, x3, x4, x5, x6, x7, y0, y1, y2, y3, y4, y5, y6, y7, hx⟩ := blk8 hLz.k4; obtain ⟨z0, z1, z2, z3, z4, z5, z6, z7, z8, v0, v1, v2, v3, v4, v5, v6, v7, v8, hz⟩ := blk9n hLz.k5; clear hLz hQz))
      all_goals
       go_wp2_with fail
       first
        | (with_reducible refine post17 HLz.out.b HLz.out.k4 HLz.out.k5 ?_ ?_ ?_ ?_)
        | (with_reducible refine post17d HLz.out.b HLz.out.k4 HLz.out.k5 ?_ ?_ ?_ rfl ?_)
       ·omega
       ·omega
       ·omega
       intro w9 hB9 hk9 hj9 hs9 hz9
       have HA := Lib.hid (HLz.out.ok (FT := fun _ => False) (C := fun _ => true) (d := .one (oSpan (c.toNat : Int) (c.toNat : Int))) HRx.out (trx_leaf rfl) hB9 hs9 hz9)
       clear x0 x1 x2 x3 x4 x5 x6 x7 y0 y1 y2 y3 y4 y5 y6 y7 hx z0 z1 z2 z3 z4 z5 z6 z7 z8 v0 v1 v2 v3 v4 v5 v6 v7 v8 hz
       obtain ⟨x0, x1, x2, x3, x4, x5, x6, x7, _⟩ := blk8 hk9
       obtain ⟨z0, z1, z2, z3, z4, z5, z6, z7, z8, _⟩ := blk9n hj9
       refine bodyPost_ret (v := .tuple #[.agg (rfC s ere p2 st.opened (.slice ca cl cc) (.slice ma ml mc) 0 0), .agg (tC (unc (.one (oSpan (c.toNat : Int) (c.toNat : Int)))) none 0)]) (by simp [results, Tryz.results94, go_sem, x0, x1, x2, x3, x4, x5, x6, x7, z0, z1, z2, z3, z4, z5, z6, z7, z8]) rfl ?_
       first | exact HA.out | exact HA.out.drew
   | false =>
    have HRx := Lib.hid (show R = .error (2, st.pos) by rw [HR1.out, HPu.out, hP]; rfl)
    rw [hP] at HHas
    clear hP
    rcases HD0.out with ⟨d49, d49'⟩ | ⟨⟨d49, d49'⟩, d57, d57'⟩
    all_goals
     clear HD0
     go_wp2_with fail
     go_region_with (first | (go_at_call 109; refine (HPc.out _).mono ?_; rintro e w21 ⟨rfl, b21⟩; have HE21 := Lib.hid (by first | exact HE1.out.step b21 | exact (HE1.out.step (Below.refl _ _).drew).step b21 : EsF F w s ere w21 st (.slice ca cl cc) (.slice ma ml mc) q6 q8 (oSpan (c.toNat : Int) (c.toNat : Int))); clear b21) | (go_at_call 110; refine (HHas.out _).mono ?_; rintro e w22 ⟨rfl, b22⟩; have HE22 := Lib.hid (by first | exact HE21.out.step b22 | exact (HE21.out.step (Below.refl _ _).drew).step b22 : EsF F w s ere w22 st (.slice ca cl cc) (.slice ma ml mc) q6 q8 (oSpan (c.toNat : Int) (c.toNat : Int))); clear b22))
     all_goals
      have HFl := Lib.hid (fun w => rfail_any s ere st.pos st.opened (.slice ca cl cc) (.slice ma ml mc) 2 (st.pos : Int) w ⟨_, _, _, rfl⟩ ⟨_, _, _, rfl⟩)
      obtain ⟨c0, c1, c2, c3, c4, c5, c6, c7, f0, f1, f2, f3, f4, f5, f6, f7, hl⟩ := blk8 HE22.out.f.k2
      go_wp2_with fail
      with_reducible refine (HFl.out _).mono ?_
      rintro e w23 ⟨rfl, b23⟩
      have HE23 := Lib.hid (HE22.out.step b23)
      clear b23
      clear c0 c1 c2 c3 c4 c5 c6 c7 f0 f1 f2 f3 f4 f5 f6 f7 hl
      obtain ⟨x0, x1, x2, x3, x4, x5, x6, x7, y0, y1, y2, y3, y4, y5, y6, y7, hx⟩ := blk8 HE23.out.f.k4; obtain ⟨z0, z1, z2, z3, z4, z5, z6, z7, z8, v0, v1, v2, v3, v4, v5, v6, v7, v8, hz⟩ := blk9n HE23.out.f.k5
      all_goals
       go_wp2_with fail
       first
        | (with_reducible refine post17 HE23.out.f.b HE23.out.f.k4 HE23.out.f.k5 ?_ ?_ ?_ ?_)
        | (with_reducible refine post17d HE23.out.f.b HE23.out.f.k4 HE23.out.f.k5 ?_ ?_ ?_ rfl ?_)
       ·omega
       ·omega
       ·omega
       intro w9 hB9 hk9 hj9 hs9 hz9
       have HA := Lib.hid (HE23.out.f.err (FT := fun _ => False) (C := fun _ => true) HRx.out rfl (show (2 : Nat) ≠ 0 by decide) hB9)
       clear x0 x1 x2 x3 x4 x5 x6 x7 y0 y1 y2 y3 y4 y5 y6 y7 hx z0 z1 z2 z3 z4 z5 z6 z7 z8 v0 v1 v2 v3 v4 v5 v6 v7 v8 hz
       obtain ⟨x0, x1, x2, x3, x4, x5, x6, x7, _⟩ := blk8 hk9
       obtain ⟨z0, z1, z2, z3, z4, z5, z6, z7, z8, _⟩ := blk9n hj9
       refine bodyPost_ret (v := .tuple #[.agg (rfC s ere st.pos st.opened (.slice ca cl cc) (.slice ma ml mc) 2 (st.pos : Int)), .agg zC]) (by simp [results, Tryz.results94, go_sem, x0, x1, x2, x3, x4, x5, x6, x7, z0, z1, z2, z3, z4, z5, z6, z7, z8]) rfl ?_
       first | exact HA.out | exact HA.out.drew
end Go.Proofs.YtkejeiopfblkgaaGreatDoor
