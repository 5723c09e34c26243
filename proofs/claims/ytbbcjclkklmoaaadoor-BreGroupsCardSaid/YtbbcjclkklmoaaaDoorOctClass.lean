/- Contracts of the classes: octet's and the document's. -/
import Derived.Test.YtbbcjclkklmoaaaDoorOctWalkB
namespace Go.Proofs.YtbbcjclkklmoaaaDoor
open Go.RowKit

/-- The cells of a result that isn't there yet. -/
theorem zblk_cells {w : World} {a : Nat} {T : TypeId} (h : Blk w a #[.int .u64 0, .int .u64 0, .int .u64 0, .int .u64 0] T) :
    w.cell? ⟨a, 0, none⟩ = some (.int .u64 0) ∧ w.cell? ⟨a, 1, none⟩ = some (.int .u64 0) ∧ w.cell? ⟨a, 2, none⟩ = some (.int .u64 0) ∧ w.cell? ⟨a, 3, none⟩ = some (.int .u64 0) :=
  ⟨by rw [h.cell]; rfl, by rw [h.cell]; rfl, by rw [h.cell]; rfl, by rw [h.cell]; rfl⟩

/-- The sets of the classes, as the code makes them. -/
def cLower : OSet := oSpan 97 122
def cUpper : OSet := oSpan 65 90
def cDigit : OSet := oSpan 48 57
def cGraph : OSet := oSpan 33 126
def cAlpha : OSet := cLower ||| cUpper
def cAlnum : OSet := cAlpha ||| cDigit
def cBlank : OSet := ofl [32, 9]
def cXdigit : OSet := cDigit ||| oSpan 65 70 ||| oSpan 97 102
def cSpace : OSet := cBlank ||| oSpan 10 13
def cCntrl : OSet := oSpan 0 31 ||| ofl [127]
def cPrint : OSet := oSpan 32 126
def cPunct : OSet := cGraph &&& ~~~cAlnum

def clsSet (l : List UInt8) : OSet :=
  bif l == [108, 111, 119, 101, 114] then cLower else bif l == [117, 112, 112, 101, 114] then cUpper else bif l == [97, 108, 112, 104, 97] then cAlpha
  else bif l == [100, 105, 103, 105, 116] then cDigit else bif l == [97, 108, 110, 117, 109] then cAlnum else bif l == [120, 100, 105, 103, 105, 116] then cXdigit
  else bif l == [98, 108, 97, 110, 107] then cBlank else bif l == [115, 112, 97, 99, 101] then cSpace else bif l == [99, 110, 116, 114, 108] then cCntrl
  else bif l == [112, 114, 105, 110, 116] then cPrint else bif l == [103, 114, 97, 112, 104] then cGraph else bif l == [112, 117, 110, 99, 116] then cPunct else oz
def clsOk (l : List UInt8) : Bool :=
  l == [108, 111, 119, 101, 114] || l == [117, 112, 112, 101, 114] || l == [97, 108, 112, 104, 97] || l == [100, 105, 103, 105, 116] || l == [97, 108, 110, 117, 109] || l == [120, 100, 105, 103, 105, 116]
  || l == [98, 108, 97, 110, 107] || l == [115, 112, 97, 99, 101] || l == [99, 110, 116, 114, 108] || l == [112, 114, 105, 110, 116] || l == [103, 114, 97, 112, 104] || l == [112, 117, 110, 99, 116]

theorem of_one (x : Int) (h0 : 0 ≤ x) (h1 : x ≤ 255) (W : World) (p : Nat) (hp : p = W.heap.size) :
    Calls Tryd.prog 23 #[.slice (some ⟨p, 0, none⟩) 1 1] (W.alloc (.cells #[.int .u8 x] 5)) fun e w' => e = .returned (.agg #[.int .u64 (ow (ofl [x]) 0), .int .u64 (ow (ofl [x]) 1), .int .u64 (ow (ofl [x]) 2), .int .u64 (ow (ofl [x]) 3)]) ∧ Below W.heap.size W w' := by
  refine (of_any [x] p 0 1 _ (by subst hp; simp) (by simp [maxLen]) (fun i hi => ?_) (fun i => ?_)).mono ?_
  · rw [(Blk.new W _ _ _ hp).cell]
    match i, hi with
    | 0, _ => rfl
  · match i with
    | 0 => exact ⟨h0, h1⟩
    | _ + 1 => simp
  · rintro e w' ⟨rfl, hb⟩
    exact ⟨rfl, ((Below.refl _ _).alloc (Nat.le_refl _) _).trans (hb.mono (by simp))⟩
theorem of_two (x y : Int) (h0 : 0 ≤ x) (h1 : x ≤ 255) (h2 : 0 ≤ y) (h3 : y ≤ 255) (W : World) (p : Nat) (hp : p = W.heap.size) :
    Calls Tryd.prog 23 #[.slice (some ⟨p, 0, none⟩) 2 2] (W.alloc (.cells #[.int .u8 x, .int .u8 y] 5)) fun e w' => e = .returned (.agg #[.int .u64 (ow (ofl [x, y]) 0), .int .u64 (ow (ofl [x, y]) 1), .int .u64 (ow (ofl [x, y]) 2), .int .u64 (ow (ofl [x, y]) 3)]) ∧ Below W.heap.size W w' := by
  refine (of_any [x, y] p 0 2 _ (by subst hp; simp) (by simp [maxLen]) (fun i hi => ?_) (fun i => ?_)).mono ?_
  · rw [(Blk.new W _ _ _ hp).cell]
    match i, hi with
    | 0, _ => rfl
    | 1, _ => rfl
  · match i with
    | 0 => exact ⟨h0, h1⟩
    | 1 => exact ⟨h2, h3⟩
    | _ + 2 => simp
  · rintro e w' ⟨rfl, hb⟩
    exact ⟨rfl, ((Below.refl _ _).alloc (Nat.le_refl _) _).trans (hb.mono (by simp))⟩


set_option maxHeartbeats 1000000 in
theorem lower_any (w : World) :
    Calls Tryd.prog 38 #[] w fun e w' => e = .returned (.agg #[.int .u64 (ow cLower 0), .int .u64 (ow cLower 1), .int .u64 (ow cLower 2), .int .u64 (ow cLower 3)]) ∧ Below w.heap.size w w' := by
  have hB := Blk.new w #[.int .u64 0, .int .u64 0, .int .u64 0, .int .u64 0] 57 _ rfl; have hW := (Below.refl w.heap.size w).alloc (Nat.le_refl _) (.cells #[.int .u64 0, .int .u64 0, .int .u64 0, .int .u64 0] 57)
  go_enter Tryd.func38, Tryd.ntmps38
  go_wp2_with (first | (go_at_call 44; refine (span_any 97 122 _ (by decide) (by decide) (by decide) (by decide)).mono ?_; rintro e w1 ⟨rfl, b1⟩; replace hW := Below.trans hW (b1.mono hW.size); replace hB := Blk.below hB b1 (Blk.lt hB); have f0 := hB.frozen 0; have f1 := hB.frozen 1; have f2 := hB.frozen 2; have f3 := hB.frozen 3; obtain ⟨d0, d1, d2, d3⟩ := zblk_cells hB; have hs := hB.lt))
  refine bodyPost_ret (v := .agg #[.int .u64 (ow (oSpan 97 122) 0), .int .u64 (ow (oSpan 97 122) 1), .int .u64 (ow (oSpan 97 122) 2), .int .u64 (ow (oSpan 97 122) 3)]) (by simp [results, Tryd.results38, go_sem, d0, d1, d2, d3]) rfl ⟨rfl, ?_⟩; repeat (first | exact hW | refine Below.setCell ?_ (by simp) _)

set_option maxHeartbeats 1000000 in
theorem upper_any (w : World) :
    Calls Tryd.prog 39 #[] w fun e w' => e = .returned (.agg #[.int .u64 (ow cUpper 0), .int .u64 (ow cUpper 1), .int .u64 (ow cUpper 2), .int .u64 (ow cUpper 3)]) ∧ Below w.heap.size w w' := by
  have hB := Blk.new w #[.int .u64 0, .int .u64 0, .int .u64 0, .int .u64 0] 57 _ rfl; have hW := (Below.refl w.heap.size w).alloc (Nat.le_refl _) (.cells #[.int .u64 0, .int .u64 0, .int .u64 0, .int .u64 0] 57)
  go_enter Tryd.func39, Tryd.ntmps39
  go_wp2_with (first | (go_at_call 44; refine (span_any 65 90 _ (by decide) (by decide) (by decide) (by decide)).mono ?_; rintro e w1 ⟨rfl, b1⟩; replace hW := Below.trans hW (b1.mono hW.size); replace hB := Blk.below hB b1 (Blk.lt hB); have f0 := hB.frozen 0; have f1 := hB.frozen 1; have f2 := hB.frozen 2; have f3 := hB.frozen 3; obtain ⟨d0, d1, d2, d3⟩ := zblk_cells hB; have hs := hB.lt))
  refine bodyPost_ret (v := .agg #[.int .u64 (ow (oSpan 65 90) 0), .int .u64 (ow (oSpan 65 90) 1), .int .u64 (ow (oSpan 65 90) 2), .int .u64 (ow (oSpan 65 90) 3)]) (by simp [results, Tryd.results39, go_sem, d0, d1, d2, d3]) rfl ⟨rfl, ?_⟩; repeat (first | exact hW | refine Below.setCell ?_ (by simp) _)

set_option maxHeartbeats 1000000 in
theorem digit_any (w : World) :
    Calls Tryd.prog 41 #[] w fun e w' => e = .returned (.agg #[.int .u64 (ow cDigit 0), .int .u64 (ow cDigit 1), .int .u64 (ow cDigit 2), .int .u64 (ow cDigit 3)]) ∧ Below w.heap.size w w' := by
  have hB := Blk.new w #[.int .u64 0, .int .u64 0, .int .u64 0, .int .u64 0] 57 _ rfl; have hW := (Below.refl w.heap.size w).alloc (Nat.le_refl _) (.cells #[.int .u64 0, .int .u64 0, .int .u64 0, .int .u64 0] 57)
  go_enter Tryd.func41, Tryd.ntmps41
  go_wp2_with (first | (go_at_call 44; refine (span_any 48 57 _ (by decide) (by decide) (by decide) (by decide)).mono ?_; rintro e w1 ⟨rfl, b1⟩; replace hW := Below.trans hW (b1.mono hW.size); replace hB := Blk.below hB b1 (Blk.lt hB); have f0 := hB.frozen 0; have f1 := hB.frozen 1; have f2 := hB.frozen 2; have f3 := hB.frozen 3; obtain ⟨d0, d1, d2, d3⟩ := zblk_cells hB; have hs := hB.lt))
  refine bodyPost_ret (v := .agg #[.int .u64 (ow (oSpan 48 57) 0), .int .u64 (ow (oSpan 48 57) 1), .int .u64 (ow (oSpan 48 57) 2), .int .u64 (ow (oSpan 48 57) 3)]) (by simp [results, Tryd.results41, go_sem, d0, d1, d2, d3]) rfl ⟨rfl, ?_⟩; repeat (first | exact hW | refine Below.setCell ?_ (by simp) _)

set_option maxHeartbeats 1000000 in
theorem graph_any (w : World) :
    Calls Tryd.prog 46 #[] w fun e w' => e = .returned (.agg #[.int .u64 (ow cGraph 0), .int .u64 (ow cGraph 1), .int .u64 (ow cGraph 2), .int .u64 (ow cGraph 3)]) ∧ Below w.heap.size w w' := by
  have hB := Blk.new w #[.int .u64 0, .int .u64 0, .int .u64 0, .int .u64 0] 57 _ rfl; have hW := (Below.refl w.heap.size w).alloc (Nat.le_refl _) (.cells #[.int .u64 0, .int .u64 0, .int .u64 0, .int .u64 0] 57)
  go_enter Tryd.func46, Tryd.ntmps46
  go_wp2_with (first | (go_at_call 44; refine (span_any 33 126 _ (by decide) (by decide) (by decide) (by decide)).mono ?_; rintro e w1 ⟨rfl, b1⟩; replace hW := Below.trans hW (b1.mono hW.size); replace hB := Blk.below hB b1 (Blk.lt hB); have f0 := hB.frozen 0; have f1 := hB.frozen 1; have f2 := hB.frozen 2; have f3 := hB.frozen 3; obtain ⟨d0, d1, d2, d3⟩ := zblk_cells hB; have hs := hB.lt))
  refine bodyPost_ret (v := .agg #[.int .u64 (ow (oSpan 33 126) 0), .int .u64 (ow (oSpan 33 126) 1), .int .u64 (ow (oSpan 33 126) 2), .int .u64 (ow (oSpan 33 126) 3)]) (by simp [results, Tryd.results46, go_sem, d0, d1, d2, d3]) rfl ⟨rfl, ?_⟩; repeat (first | exact hW | refine Below.setCell ?_ (by simp) _)

set_option maxHeartbeats 1000000 in
theorem blank_any (w : World) :
    Calls Tryd.prog 45 #[] w fun e w' => e = .returned (.agg #[.int .u64 (ow cBlank 0), .int .u64 (ow cBlank 1), .int .u64 (ow cBlank 2), .int .u64 (ow cBlank 3)]) ∧ Below w.heap.size w w' := by
  have hB := Blk.new w #[.int .u64 0, .int .u64 0, .int .u64 0, .int .u64 0] 57 _ rfl; have hW := (Below.refl w.heap.size w).alloc (Nat.le_refl _) (.cells #[.int .u64 0, .int .u64 0, .int .u64 0, .int .u64 0] 57)
  go_enter Tryd.func45, Tryd.ntmps45
  go_wp2_with (first | (go_at_call 23; refine (of_two 32 9 (by decide) (by decide) (by decide) (by decide) _ _ (by simp)).mono ?_; rintro e w1 ⟨rfl, b1⟩; replace hW := Below.trans hW (b1.mono hW.size); replace hB := Blk.below hB b1 (Blk.lt hB); have f0 := hB.frozen 0; have f1 := hB.frozen 1; have f2 := hB.frozen 2; have f3 := hB.frozen 3; obtain ⟨d0, d1, d2, d3⟩ := zblk_cells hB; have hs := hB.lt))
  refine bodyPost_ret (v := .agg #[.int .u64 (ow (ofl [32, 9]) 0), .int .u64 (ow (ofl [32, 9]) 1), .int .u64 (ow (ofl [32, 9]) 2), .int .u64 (ow (ofl [32, 9]) 3)]) (by simp [results, Tryd.results45, go_sem, d0, d1, d2, d3]) rfl ⟨rfl, ?_⟩; repeat (first | exact hW | refine Below.setCell ?_ (by simp) _)

set_option maxHeartbeats 1000000 in
theorem alpha_any (w : World) :
    Calls Tryd.prog 40 #[] w fun e w' => e = .returned (.agg #[.int .u64 (ow cAlpha 0), .int .u64 (ow cAlpha 1), .int .u64 (ow cAlpha 2), .int .u64 (ow cAlpha 3)]) ∧ Below w.heap.size w w' := by
  have hB := Blk.new w #[.int .u64 0, .int .u64 0, .int .u64 0, .int .u64 0] 57 _ rfl; have hW := (Below.refl w.heap.size w).alloc (Nat.le_refl _) (.cells #[.int .u64 0, .int .u64 0, .int .u64 0, .int .u64 0] 57)
  go_enter Tryd.func40, Tryd.ntmps40
  go_wp2_with (first | (go_at_call 38; refine (lower_any _).mono ?_; rintro e w1 ⟨rfl, b1⟩; replace hW := Below.trans hW (b1.mono hW.size); replace hB := Blk.below hB b1 (Blk.lt hB); have f0 := hB.frozen 0; have f1 := hB.frozen 1; have f2 := hB.frozen 2; have f3 := hB.frozen 3; obtain ⟨d0, d1, d2, d3⟩ := zblk_cells hB; have hs := hB.lt) | (go_at_call 39; refine (upper_any _).mono ?_; rintro e w1 ⟨rfl, b1⟩; replace hW := Below.trans hW (b1.mono hW.size); replace hB := Blk.below hB b1 (Blk.lt hB); have f0 := hB.frozen 0; have f1 := hB.frozen 1; have f2 := hB.frozen 2; have f3 := hB.frozen 3; obtain ⟨d0, d1, d2, d3⟩ := zblk_cells hB; have hs := hB.lt) | (go_at_call 43; refine (or_any _ _ _).mono ?_; rintro e w1 ⟨rfl, b1⟩; replace hW := Below.trans hW (b1.mono hW.size); replace hB := Blk.below hB b1 (Blk.lt hB); have f0 := hB.frozen 0; have f1 := hB.frozen 1; have f2 := hB.frozen 2; have f3 := hB.frozen 3; obtain ⟨d0, d1, d2, d3⟩ := zblk_cells hB; have hs := hB.lt))
  refine bodyPost_ret (v := .agg #[.int .u64 (ow (cLower ||| cUpper) 0), .int .u64 (ow (cLower ||| cUpper) 1), .int .u64 (ow (cLower ||| cUpper) 2), .int .u64 (ow (cLower ||| cUpper) 3)]) (by simp [results, Tryd.results40, go_sem, d0, d1, d2, d3]) rfl ⟨rfl, ?_⟩; repeat (first | exact hW | refine Below.setCell ?_ (by simp) _)

set_option maxHeartbeats 1000000 in
theorem alnum_any (w : World) :
    Calls Tryd.prog 42 #[] w fun e w' => e = .returned (.agg #[.int .u64 (ow cAlnum 0), .int .u64 (ow cAlnum 1), .int .u64 (ow cAlnum 2), .int .u64 (ow cAlnum 3)]) ∧ Below w.heap.size w w' := by
  have hB := Blk.new w #[.int .u64 0, .int .u64 0, .int .u64 0, .int .u64 0] 57 _ rfl; have hW := (Below.refl w.heap.size w).alloc (Nat.le_refl _) (.cells #[.int .u64 0, .int .u64 0, .int .u64 0, .int .u64 0] 57)
  go_enter Tryd.func42, Tryd.ntmps42
  go_wp2_with (first | (go_at_call 40; refine (alpha_any _).mono ?_; rintro e w1 ⟨rfl, b1⟩; replace hW := Below.trans hW (b1.mono hW.size); replace hB := Blk.below hB b1 (Blk.lt hB); have f0 := hB.frozen 0; have f1 := hB.frozen 1; have f2 := hB.frozen 2; have f3 := hB.frozen 3; obtain ⟨d0, d1, d2, d3⟩ := zblk_cells hB; have hs := hB.lt) | (go_at_call 41; refine (digit_any _).mono ?_; rintro e w1 ⟨rfl, b1⟩; replace hW := Below.trans hW (b1.mono hW.size); replace hB := Blk.below hB b1 (Blk.lt hB); have f0 := hB.frozen 0; have f1 := hB.frozen 1; have f2 := hB.frozen 2; have f3 := hB.frozen 3; obtain ⟨d0, d1, d2, d3⟩ := zblk_cells hB; have hs := hB.lt) | (go_at_call 43; refine (or_any _ _ _).mono ?_; rintro e w1 ⟨rfl, b1⟩; replace hW := Below.trans hW (b1.mono hW.size); replace hB := Blk.below hB b1 (Blk.lt hB); have f0 := hB.frozen 0; have f1 := hB.frozen 1; have f2 := hB.frozen 2; have f3 := hB.frozen 3; obtain ⟨d0, d1, d2, d3⟩ := zblk_cells hB; have hs := hB.lt))
  refine bodyPost_ret (v := .agg #[.int .u64 (ow (cAlpha ||| cDigit) 0), .int .u64 (ow (cAlpha ||| cDigit) 1), .int .u64 (ow (cAlpha ||| cDigit) 2), .int .u64 (ow (cAlpha ||| cDigit) 3)]) (by simp [results, Tryd.results42, go_sem, d0, d1, d2, d3]) rfl ⟨rfl, ?_⟩; repeat (first | exact hW | refine Below.setCell ?_ (by simp) _)



theorem ret_cls {s t : OSet} {b c : Bool} (h : s = t) (h2 : b = c) : Ending.returned (.tuple #[.agg #[.int .u64 (ow s 0), .int .u64 (ow s 1), .int .u64 (ow s 2), .int .u64 (ow s 3)], .bool b]) = .returned (.tuple #[.agg #[.int .u64 (ow t 0), .int .u64 (ow t 1), .int .u64 (ow t 2), .int .u64 (ow t 3)], .bool c]) := by rw [h, h2]
set_option maxHeartbeats 4000000 in
theorem class_any (s : ByteArray) (w : World) :
    Calls Tryd.prog 24 #[.string s] w fun e w' => e = .returned (.tuple #[.agg #[.int .u64 (ow (clsSet s.toList) 0), .int .u64 (ow (clsSet s.toList) 1), .int .u64 (ow (clsSet s.toList) 2), .int .u64 (ow (clsSet s.toList) 3)], .bool (clsOk s.toList)]) ∧ Below w.heap.size w w' := by
  have hB := Blk.new w #[.int .u64 0, .int .u64 0, .int .u64 0, .int .u64 0] 57 _ rfl; have hW := (Below.refl w.heap.size w).alloc (Nat.le_refl _) (.cells #[.int .u64 0, .int .u64 0, .int .u64 0, .int .u64 0] 57)
  go_enter Tryd.func24, Tryd.ntmps24
  go_wp2_with (first | (go_at_call 38; refine (lower_any _).mono ?_; rintro e w1 ⟨rfl, b1⟩; replace hW := Below.trans hW (b1.mono hW.size); replace hB := Blk.below hB b1 (Blk.lt hB); have f0 := hB.frozen 0; have f1 := hB.frozen 1; have f2 := hB.frozen 2; have f3 := hB.frozen 3; obtain ⟨d0, d1, d2, d3⟩ := zblk_cells hB; have hs := hB.lt) | (go_at_call 39; refine (upper_any _).mono ?_; rintro e w1 ⟨rfl, b1⟩; replace hW := Below.trans hW (b1.mono hW.size); replace hB := Blk.below hB b1 (Blk.lt hB); have f0 := hB.frozen 0; have f1 := hB.frozen 1; have f2 := hB.frozen 2; have f3 := hB.frozen 3; obtain ⟨d0, d1, d2, d3⟩ := zblk_cells hB; have hs := hB.lt) | (go_at_call 40; refine (alpha_any _).mono ?_; rintro e w1 ⟨rfl, b1⟩; replace hW := Below.trans hW (b1.mono hW.size); replace hB := Blk.below hB b1 (Blk.lt hB); have f0 := hB.frozen 0; have f1 := hB.frozen 1; have f2 := hB.frozen 2; have f3 := hB.frozen 3; obtain ⟨d0, d1, d2, d3⟩ := zblk_cells hB; have hs := hB.lt) | (go_at_call 41; refine (digit_any _).mono ?_; rintro e w1 ⟨rfl, b1⟩; replace hW := Below.trans hW (b1.mono hW.size); replace hB := Blk.below hB b1 (Blk.lt hB); have f0 := hB.frozen 0; have f1 := hB.frozen 1; have f2 := hB.frozen 2; have f3 := hB.frozen 3; obtain ⟨d0, d1, d2, d3⟩ := zblk_cells hB; have hs := hB.lt) | (go_at_call 42; refine (alnum_any _).mono ?_; rintro e w1 ⟨rfl, b1⟩; replace hW := Below.trans hW (b1.mono hW.size); replace hB := Blk.below hB b1 (Blk.lt hB); have f0 := hB.frozen 0; have f1 := hB.frozen 1; have f2 := hB.frozen 2; have f3 := hB.frozen 3; obtain ⟨d0, d1, d2, d3⟩ := zblk_cells hB; have hs := hB.lt) | (go_at_call 45; refine (blank_any _).mono ?_; rintro e w1 ⟨rfl, b1⟩; replace hW := Below.trans hW (b1.mono hW.size); replace hB := Blk.below hB b1 (Blk.lt hB); have f0 := hB.frozen 0; have f1 := hB.frozen 1; have f2 := hB.frozen 2; have f3 := hB.frozen 3; obtain ⟨d0, d1, d2, d3⟩ := zblk_cells hB; have hs := hB.lt) | (go_at_call 46; refine (graph_any _).mono ?_; rintro e w1 ⟨rfl, b1⟩; replace hW := Below.trans hW (b1.mono hW.size); replace hB := Blk.below hB b1 (Blk.lt hB); have f0 := hB.frozen 0; have f1 := hB.frozen 1; have f2 := hB.frozen 2; have f3 := hB.frozen 3; obtain ⟨d0, d1, d2, d3⟩ := zblk_cells hB; have hs := hB.lt) | (go_at_call 44; refine (span_any _ _ _ (by decide) (by decide) (by decide) (by decide)).mono ?_; rintro e w1 ⟨rfl, b1⟩; replace hW := Below.trans hW (b1.mono hW.size); replace hB := Blk.below hB b1 (Blk.lt hB); have f0 := hB.frozen 0; have f1 := hB.frozen 1; have f2 := hB.frozen 2; have f3 := hB.frozen 3; obtain ⟨d0, d1, d2, d3⟩ := zblk_cells hB; have hs := hB.lt) | (go_at_call 23; refine (of_one 127 (by decide) (by decide) _ _ (by simp)).mono ?_; rintro e w1 ⟨rfl, b1⟩; replace hW := Below.trans hW (b1.mono hW.size); replace hB := Blk.below hB b1 (Blk.lt hB); have f0 := hB.frozen 0; have f1 := hB.frozen 1; have f2 := hB.frozen 2; have f3 := hB.frozen 3; obtain ⟨d0, d1, d2, d3⟩ := zblk_cells hB; have hs := hB.lt) | (go_at_call 43; refine (or_any _ _ _).mono ?_; rintro e w1 ⟨rfl, b1⟩; replace hW := Below.trans hW (b1.mono hW.size); replace hB := Blk.below hB b1 (Blk.lt hB); have f0 := hB.frozen 0; have f1 := hB.frozen 1; have f2 := hB.frozen 2; have f3 := hB.frozen 3; obtain ⟨d0, d1, d2, d3⟩ := zblk_cells hB; have hs := hB.lt) | (go_at_call 47; refine (and_any _ _ _).mono ?_; rintro e w1 ⟨rfl, b1⟩; replace hW := Below.trans hW (b1.mono hW.size); replace hB := Blk.below hB b1 (Blk.lt hB); have f0 := hB.frozen 0; have f1 := hB.frozen 1; have f2 := hB.frozen 2; have f3 := hB.frozen 3; obtain ⟨d0, d1, d2, d3⟩ := zblk_cells hB; have hs := hB.lt) | (go_at_call 48; refine (not_any _ _).mono ?_; rintro e w1 ⟨rfl, b1⟩; replace hW := Below.trans hW (b1.mono hW.size); replace hB := Blk.below hB b1 (Blk.lt hB); have f0 := hB.frozen 0; have f1 := hB.frozen 1; have f2 := hB.frozen 2; have f3 := hB.frozen 3; obtain ⟨d0, d1, d2, d3⟩ := zblk_cells hB; have hs := hB.lt))
  · refine bodyPost_ret (v := .tuple #[.agg #[.int .u64 (ow cLower 0), .int .u64 (ow cLower 1), .int .u64 (ow cLower 2), .int .u64 (ow cLower 3)], .bool true]) (by simp [results, Tryd.results24, go_sem, d0, d1, d2, d3]) rfl ⟨ret_cls (by simp only [clsSet, cond_true, *] <;> rfl) (by simp [clsOk, *]), ?_⟩
    repeat (first | exact hW | refine Below.setCell ?_ (by simp) _)
  · refine bodyPost_ret (v := .tuple #[.agg #[.int .u64 (ow cUpper 0), .int .u64 (ow cUpper 1), .int .u64 (ow cUpper 2), .int .u64 (ow cUpper 3)], .bool true]) (by simp [results, Tryd.results24, go_sem, d0, d1, d2, d3]) rfl ⟨ret_cls (by simp only [clsSet, cond_true, cond_false, *] <;> rfl) (by simp [clsOk, *]), ?_⟩
    repeat (first | exact hW | refine Below.setCell ?_ (by simp) _)
  · refine bodyPost_ret (v := .tuple #[.agg #[.int .u64 (ow cAlpha 0), .int .u64 (ow cAlpha 1), .int .u64 (ow cAlpha 2), .int .u64 (ow cAlpha 3)], .bool true]) (by simp [results, Tryd.results24, go_sem, d0, d1, d2, d3]) rfl ⟨ret_cls (by simp only [clsSet, cond_true, cond_false, *] <;> rfl) (by simp [clsOk, *]), ?_⟩
    repeat (first | exact hW | refine Below.setCell ?_ (by simp) _)
  · refine bodyPost_ret (v := .tuple #[.agg #[.int .u64 (ow cDigit 0), .int .u64 (ow cDigit 1), .int .u64 (ow cDigit 2), .int .u64 (ow cDigit 3)], .bool true]) (by simp [results, Tryd.results24, go_sem, d0, d1, d2, d3]) rfl ⟨ret_cls (by simp only [clsSet, cond_true, cond_false, *] <;> rfl) (by simp [clsOk, *]), ?_⟩
    repeat (first | exact hW | refine Below.setCell ?_ (by simp) _)
  · refine bodyPost_ret (v := .tuple #[.agg #[.int .u64 (ow cAlnum 0), .int .u64 (ow cAlnum 1), .int .u64 (ow cAlnum 2), .int .u64 (ow cAlnum 3)], .bool true]) (by simp [results, Tryd.results24, go_sem, d0, d1, d2, d3]) rfl ⟨ret_cls (by simp only [clsSet, cond_true, cond_false, *] <;> rfl) (by simp [clsOk, *]), ?_⟩
    repeat (first | exact hW | refine Below.setCell ?_ (by simp) _)
  · refine bodyPost_ret (v := .tuple #[.agg #[.int .u64 (ow (cDigit ||| oSpan 65 70 ||| oSpan 97 102) 0), .int .u64 (ow (cDigit ||| oSpan 65 70 ||| oSpan 97 102) 1), .int .u64 (ow (cDigit ||| oSpan 65 70 ||| oSpan 97 102) 2), .int .u64 (ow (cDigit ||| oSpan 65 70 ||| oSpan 97 102) 3)], .bool true]) (by simp [results, Tryd.results24, go_sem, d0, d1, d2, d3]) rfl ⟨ret_cls (by simp only [clsSet, cond_true, cond_false, *] <;> rfl) (by simp [clsOk, *]), ?_⟩
    repeat (first | exact hW | refine Below.setCell ?_ (by simp) _)
  · refine bodyPost_ret (v := .tuple #[.agg #[.int .u64 (ow cBlank 0), .int .u64 (ow cBlank 1), .int .u64 (ow cBlank 2), .int .u64 (ow cBlank 3)], .bool true]) (by simp [results, Tryd.results24, go_sem, d0, d1, d2, d3]) rfl ⟨ret_cls (by simp only [clsSet, cond_true, cond_false, *] <;> rfl) (by simp [clsOk, *]), ?_⟩
    repeat (first | exact hW | refine Below.setCell ?_ (by simp) _)
  · refine bodyPost_ret (v := .tuple #[.agg #[.int .u64 (ow (cBlank ||| oSpan 10 13) 0), .int .u64 (ow (cBlank ||| oSpan 10 13) 1), .int .u64 (ow (cBlank ||| oSpan 10 13) 2), .int .u64 (ow (cBlank ||| oSpan 10 13) 3)], .bool true]) (by simp [results, Tryd.results24, go_sem, d0, d1, d2, d3]) rfl ⟨ret_cls (by simp only [clsSet, cond_true, cond_false, *] <;> rfl) (by simp [clsOk, *]), ?_⟩
    repeat (first | exact hW | refine Below.setCell ?_ (by simp) _)
  · refine bodyPost_ret (v := .tuple #[.agg #[.int .u64 (ow (oSpan 0 31 ||| ofl [127]) 0), .int .u64 (ow (oSpan 0 31 ||| ofl [127]) 1), .int .u64 (ow (oSpan 0 31 ||| ofl [127]) 2), .int .u64 (ow (oSpan 0 31 ||| ofl [127]) 3)], .bool true]) (by simp [results, Tryd.results24, go_sem, d0, d1, d2, d3]) rfl ⟨ret_cls (by simp only [clsSet, cond_true, cond_false, *] <;> rfl) (by simp [clsOk, *]), ?_⟩
    repeat (first | exact hW | refine Below.setCell ?_ (by simp) _)
  · refine bodyPost_ret (v := .tuple #[.agg #[.int .u64 (ow (oSpan 32 126) 0), .int .u64 (ow (oSpan 32 126) 1), .int .u64 (ow (oSpan 32 126) 2), .int .u64 (ow (oSpan 32 126) 3)], .bool true]) (by simp [results, Tryd.results24, go_sem, d0, d1, d2, d3]) rfl ⟨ret_cls (by simp only [clsSet, cond_true, cond_false, *] <;> rfl) (by simp [clsOk, *]), ?_⟩
    repeat (first | exact hW | refine Below.setCell ?_ (by simp) _)
  · refine bodyPost_ret (v := .tuple #[.agg #[.int .u64 (ow cGraph 0), .int .u64 (ow cGraph 1), .int .u64 (ow cGraph 2), .int .u64 (ow cGraph 3)], .bool true]) (by simp [results, Tryd.results24, go_sem, d0, d1, d2, d3]) rfl ⟨ret_cls (by simp only [clsSet, cond_true, cond_false, *] <;> rfl) (by simp [clsOk, *]), ?_⟩
    repeat (first | exact hW | refine Below.setCell ?_ (by simp) _)
  · refine bodyPost_ret (v := .tuple #[.agg #[.int .u64 (ow (cGraph &&& ~~~cAlnum) 0), .int .u64 (ow (cGraph &&& ~~~cAlnum) 1), .int .u64 (ow (cGraph &&& ~~~cAlnum) 2), .int .u64 (ow (cGraph &&& ~~~cAlnum) 3)], .bool true]) (by simp [results, Tryd.results24, go_sem, d0, d1, d2, d3]) rfl ⟨ret_cls (by simp only [clsSet, cond_true, cond_false, *] <;> rfl) (by simp [clsOk, *]), ?_⟩
    repeat (first | exact hW | refine Below.setCell ?_ (by simp) _)
  · refine bodyPost_ret (v := .tuple #[.agg #[.int .u64 (ow oz 0), .int .u64 (ow oz 1), .int .u64 (ow oz 2), .int .u64 (ow oz 3)], .bool false]) (by simp [results, Tryd.results24, go_sem, ow_zero]) rfl ⟨ret_cls (by simp only [clsSet, cond_false, *] <;> rfl) (by simp [clsOk, *]), ?_⟩
    repeat (first | exact hW | refine Below.setCell ?_ (by simp) _)


end Go.Proofs.YtbbcjclkklmoaaaDoor
