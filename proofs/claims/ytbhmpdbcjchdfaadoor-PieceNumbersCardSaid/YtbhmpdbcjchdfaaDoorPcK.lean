/- Layer 11: each call's answer at any place; the statements' fixed fact; the first two statements. -/
import Derived.Test.YtbhmpdbcjchdfaaDoorPcL
import Derived.Test.YtbhmpdbcjchdfaaDoorPcN
import Derived.Test.YtbhmpdbcjchdfaaDoorPcT
import Derived.Test.YtbhmpdbcjchdfaaDoorPcV
import Derived.Test.YtbhmpdbcjchdfaaDoorMaB
namespace Go.Proofs.YtbhmpdbcjchdfaaDoor
open Go.RowKit

def pcNumber (L : List UInt8) (a : Int) : Nat × Nat × Nat := pcAt L a (0, 0, 1) (pcNum L)
def pcLines (L : List UInt8) (a : Int) : PcAns := pcAt L a ([], 0, 1) fun k => pcLin (L.drop k) k []
def pcNames (L : List UInt8) (a : Int) (label : Bool) : PcAns := pcAt L a ([], 0, 1) fun k => pcName L k label
def pcBetween (L : List UInt8) (a : Int) (d : UInt8) (rx : Bool) : PcAns := pcAt L a ([], 0, 1) fun k => pcBtw d rx L (L.length + 1) k []

theorem at_cases (s : ByteArray) (a : Int) : (∃ k : Nat, a = k ∧ k ≤ s.size) ∨ ¬ (0 ≤ a ∧ a ≤ (s.size : Int)) := by
  by_cases h : 0 ≤ a ∧ a ≤ (s.size : Int)
  · exact .inl ⟨a.toNat, by omega, by omega⟩
  · exact .inr h
theorem pnumber_any (s : ByteArray) (a : Int) (w : World) (hs : s.size ≤ 4000000) :
    Calls Tryd.prog 9 #[.string s, .int .i64 a] w fun e w' => e = ans3 (pcNumber s.data.toList a) ∧ Below w.heap.size w w' := by
  rcases at_cases s a with ⟨k, rfl, hk⟩ | h
  · unfold pcNumber; rw [pcAt_at _ _ _ _ (by rw [← size_list]; exact hk)]; exact pnumber_at s k w hs hk
  · unfold pcNumber; rw [pcAt_no _ _ _ _ (by rw [← size_list]; exact h)]; exact pnumber_no s a w h
theorem rnumber_any (s : ByteArray) (a : Int) (w : World) (hs : s.size ≤ 4000000) :
    Calls Tryd.prog 10 #[.string s, .int .i64 a] w fun e w' => e = ans3 (pcNumber s.data.toList a) ∧ Below w.heap.size w w' := by
  rcases at_cases s a with ⟨k, rfl, hk⟩ | h
  · unfold pcNumber; rw [pcAt_at _ _ _ _ (by rw [← size_list]; exact hk)]; exact rnumber_at s k w hs hk
  · unfold pcNumber; rw [pcAt_no _ _ _ _ (by rw [← size_list]; exact h)]; exact rnumber_no s a w h
theorem plines_any (s : ByteArray) (a : Int) (w : World) (hs : s.size ≤ 4000000) :
    Calls Tryd.prog 15 #[.string s, .int .i64 a] w fun e w' => e = pcA (pcLines s.data.toList a) ∧ Below w.heap.size w w' := by
  rcases at_cases s a with ⟨k, rfl, hk⟩ | h
  · unfold pcLines; rw [pcAt_at _ _ _ _ (by rw [← size_list]; exact hk)]; exact plines_at s k w hs hk
  · unfold pcLines; rw [pcAt_no _ _ _ _ (by rw [← size_list]; exact h)]; exact plines_no s a w h
theorem rlines_any (s : ByteArray) (a : Int) (w : World) (hs : s.size ≤ 4000000) :
    Calls Tryd.prog 16 #[.string s, .int .i64 a] w fun e w' => e = pcA (pcLines s.data.toList a) ∧ Below w.heap.size w w' := by
  rcases at_cases s a with ⟨k, rfl, hk⟩ | h
  · unfold pcLines; rw [pcAt_at _ _ _ _ (by rw [← size_list]; exact hk)]; exact rlines_at s k w hs hk
  · unfold pcLines; rw [pcAt_no _ _ _ _ (by rw [← size_list]; exact h)]; exact rlines_no s a w h
theorem pname_any (s : ByteArray) (a : Int) (label : Bool) (w : World) (hs : s.size ≤ 4000000) :
    Calls Tryd.prog 17 #[.string s, .int .i64 a, .bool label] w fun e w' => e = pcA (pcNames s.data.toList a label) ∧ Below w.heap.size w w' := by
  rcases at_cases s a with ⟨k, rfl, hk⟩ | h
  · unfold pcNames; rw [pcAt_at _ _ _ _ (by rw [← size_list]; exact hk)]; exact pname_at s k label w hs hk
  · unfold pcNames; rw [pcAt_no _ _ _ _ (by rw [← size_list]; exact h)]; exact pname_no s a label w h
theorem rname_any (s : ByteArray) (a : Int) (label : Bool) (w : World) (hs : s.size ≤ 4000000) :
    Calls Tryd.prog 18 #[.string s, .int .i64 a, .bool label] w fun e w' => e = pcA (pcNames s.data.toList a label) ∧ Below w.heap.size w w' := by
  rcases at_cases s a with ⟨k, rfl, hk⟩ | h
  · unfold pcNames; rw [pcAt_at _ _ _ _ (by rw [← size_list]; exact hk)]; exact rname_at s k label w hs hk
  · unfold pcNames; rw [pcAt_no _ _ _ _ (by rw [← size_list]; exact h)]; exact rname_no s a label w h
theorem pbetween_any (s : ByteArray) (a : Int) (d : UInt8) (rx : Bool) (w : World) (hs : s.size ≤ 4000000) (hG : GP w) :
    Calls Tryd.prog 19 #[.string s, .int .i64 a, .int .u8 d.toNat, .bool rx] w fun e w' => e = pcA (pcBetween s.data.toList a d rx) ∧ Below w.heap.size w w' := by
  rcases at_cases s a with ⟨k, rfl, hk⟩ | h
  · unfold pcBetween; rw [pcAt_at _ _ _ _ (by rw [← size_list]; exact hk)]; exact pbetween_at s k d rx w hs hk hG
  · unfold pcBetween; rw [pcAt_no _ _ _ _ (by rw [← size_list]; exact h)]; exact pbetween_no s a d rx w h
theorem rbetween_any (s : ByteArray) (a : Int) (d : UInt8) (rx : Bool) (w : World) (hs : s.size ≤ 4000000) :
    Calls Tryd.prog 20 #[.string s, .int .i64 a, .int .u8 d.toNat, .bool rx] w fun e w' => e = pcA (pcBetween s.data.toList a d rx) ∧ Below w.heap.size w w' := by
  rcases at_cases s a with ⟨k, rfl, hk⟩ | h
  · unfold pcBetween; rw [pcAt_at _ _ _ _ (by rw [← size_list]; exact hk)]; exact rbetween_at s k d rx w hs hk
  · unfold pcBetween; rw [pcAt_no _ _ _ _ (by rw [← size_list]; exact h)]; exact rbetween_no s a d rx w h

theorem ex_btw : pcBetween [97, 92, 47, 98, 47, 99] 0 47 true = ([97, 47, 98], 5, 0) := by decide +kernel
theorem ex_num : pcNumber [120, 52, 50, 59] 1 = (42, 3, 0) := by decide +kernel
set_option maxHeartbeats 1000000 in
theorem awake11_any (w : World) (hG : GP w) :
    Calls Tryd.prog 8 #[] w fun e w' => e = .returned (.bool true) ∧ Below w.heap.size w w' := by
  have h1 : Calls Tryd.prog 19 #[.string ⟨#[97, 92, 47, 98, 47, 99]⟩, .int .i64 0, .int .u8 47, .bool true] w fun e w' => e = .returned (.tuple #[.string ⟨#[97, 47, 98]⟩, .int .i64 5, .int .i64 0]) ∧ Below w.heap.size w w' := by
    have := pbetween_any ⟨#[97, 92, 47, 98, 47, 99]⟩ 0 47 true w (by decide) hG
    rw [show (⟨#[97, 92, 47, 98, 47, 99]⟩ : ByteArray).data.toList = [97, 92, 47, 98, 47, 99] from rfl, ex_btw] at this
    exact this
  have h2 : ∀ w, Calls Tryd.prog 9 #[.string ⟨#[120, 52, 50, 59]⟩, .int .i64 1] w fun e w' => e = .returned (.tuple #[.int .i64 42, .int .i64 3, .int .i64 0]) ∧ Below w.heap.size w w' := fun w => by
    have := pnumber_any ⟨#[120, 52, 50, 59]⟩ 1 w (by decide)
    rw [show (⟨#[120, 52, 50, 59]⟩ : ByteArray).data.toList = [120, 52, 50, 59] from rfl, ex_num] at this
    exact this
  go_enter Tryd.func8, Tryd.ntmps8
  go_wp2_with (first
    | (go_at_call 19; refine h1.mono ?_; rintro e w1 ⟨rfl, b1⟩)
    | (go_at_call 9; refine (h2 _).mono ?_; rintro e w2 ⟨rfl, b2⟩))
  go_ret
  exact ⟨rfl, b1.trans (b2.mono b1.size)⟩
theorem GP.far {w w' : World} (h : GP w) (hb : Below w.heap.size w w') : GP w' := h.up hb

set_option maxHeartbeats 2000000 in
set_option maxRecDepth 100000 in
theorem ptakes_any (s : ByteArray) (a : Int) (label : Bool) (w : World) (hG : GP w) :
    Calls Tryd.prog 3 #[.string s, .int .i64 a, .bool label] w fun e w' => e = .returned (.bool true) ∧ Below w.heap.size w w' := by
  have hA := awake11_any w hG
  go_enter Tryd.func3, Tryd.ntmps3
  by_cases hs : (300 : Int) < (s.size : Int)
  · have hA2 := fun w' (h : GP w') => awake11_any w' h
    go_wp2_with (go_at_call 8; refine hA.mono ?_)
    rintro e w1 ⟨rfl, b1⟩
    go_wp2_with (go_at_call 8; refine (hA2 w1 (hG.up b1)).mono ?_)
    rintro e w2 ⟨rfl, b2⟩
    go_wp2
    go_ret
    exact ⟨rfl, b1.trans (b2.mono b1.size)⟩
  · have hs' : s.size ≤ 4000000 := by omega
    have c1 := fun w => pnumber_any s a w hs'
    have c2 := fun w => rnumber_any s a w hs'
    have c3 := fun w => pblanks_any s a w hs'
    have c4 := fun w => rblanks_any s a w hs'
    have c5 := fun w => pspace_any s a w hs'
    have c6 := fun w => rspace_any s a w hs'
    have c7 := fun w => plines_any s a w hs'
    have c8 := fun w => rlines_any s a w hs'
    have c9 := fun w => pname_any s a label w hs'
    have c10 := fun w => rname_any s a label w hs'
    obtain ⟨⟨n1, n2, n3⟩, hn⟩ : ∃ r, pcNumber s.data.toList a = r := ⟨_, rfl⟩
    obtain ⟨⟨l1, l2, l3⟩, hl⟩ : ∃ r, pcLines s.data.toList a = r := ⟨_, rfl⟩
    obtain ⟨⟨m1, m2, m3⟩, hm⟩ : ∃ r, pcNames s.data.toList a label = r := ⟨_, rfl⟩
    rw [hn] at c1 c2
    rw [hl] at c7 c8
    rw [hm] at c9 c10
    generalize pcBehind [32, 9] s.data.toList a = b at c3 c4
    generalize pcBehind [32, 9, 10, 59] s.data.toList a = c at c5 c6
    clear hn hl hm
    have d7 : ∀ w, Calls Tryd.prog 15 #[.string s, .int .i64 a] w fun e w' => e = .returned (.tuple #[.string (txt l1), .int .i64 (l2 : Nat), .int .i64 (l3 : Nat)]) ∧ Below w.heap.size w w' := c7
    have d8 : ∀ w, Calls Tryd.prog 16 #[.string s, .int .i64 a] w fun e w' => e = .returned (.tuple #[.string (txt l1), .int .i64 (l2 : Nat), .int .i64 (l3 : Nat)]) ∧ Below w.heap.size w w' := c8
    have d9 : ∀ w, Calls Tryd.prog 17 #[.string s, .int .i64 a, .bool label] w fun e w' => e = .returned (.tuple #[.string (txt m1), .int .i64 (m2 : Nat), .int .i64 (m3 : Nat)]) ∧ Below w.heap.size w w' := c9
    have d10 : ∀ w, Calls Tryd.prog 18 #[.string s, .int .i64 a, .bool label] w fun e w' => e = .returned (.tuple #[.string (txt m1), .int .i64 (m2 : Nat), .int .i64 (m3 : Nat)]) ∧ Below w.heap.size w w' := c10
    clear c7 c8 c9 c10
    generalize txt l1 = tl at d7 d8
    generalize txt m1 = tm at d9 d10
    go_wp2_with (first
      | (go_at_call 8; refine hA.mono ?_; rintro e w1 ⟨rfl, b1⟩)
      | (go_at_call 9; refine (c1 _).mono ?_; rintro e w2 ⟨rfl, b2⟩; replace b2 := b1.trans (b2.mono b1.size); clear b1)
      | (go_at_call 10; refine (c2 _).mono ?_; rintro e w3 ⟨rfl, b3⟩; replace b3 := b2.trans (b3.mono b2.size); clear b2)
      | (go_at_call 11; refine (c3 _).mono ?_; rintro e w4 ⟨rfl, b4⟩; replace b4 := b3.trans (b4.mono b3.size); clear b3)
      | (go_at_call 12; refine (c4 _).mono ?_; rintro e w5 ⟨rfl, b5⟩; replace b5 := b4.trans (b5.mono b4.size); clear b4)
      | (go_at_call 13; refine (c5 _).mono ?_; rintro e w6 ⟨rfl, b6⟩; replace b6 := b5.trans (b6.mono b5.size); clear b5)
      | (go_at_call 14; refine (c6 _).mono ?_; rintro e w7 ⟨rfl, b7⟩; replace b7 := b6.trans (b7.mono b6.size); clear b6)
      | (go_at_call 15; refine (d7 _).mono ?_; rintro e w8 ⟨rfl, b8⟩; replace b8 := b7.trans (b8.mono b7.size); clear b7)
      | (go_at_call 16; refine (d8 _).mono ?_; rintro e w9 ⟨rfl, b9⟩; replace b9 := b8.trans (b9.mono b8.size); clear b8)
      | (go_at_call 17; refine (d9 _).mono ?_; rintro e w10 ⟨rfl, b10⟩; replace b10 := b9.trans (b10.mono b9.size); clear b9)
      | (go_at_call 18; refine (d10 _).mono ?_; rintro e w11 ⟨rfl, b11⟩; replace b11 := b10.trans (b11.mono b10.size); clear b10))
    go_ret
    exact ⟨rfl, b11⟩

theorem u8_wrap (b : Int) : IntKind.u8.wrap b = ((UInt8.ofNat (b % 256).toNat).toNat : Int) := by
  have h : IntKind.u8.wrap b = b % 256 := by simp [IntKind.wrap, IntKind.bits, IntKind.signed]
  rw [h]
  simp
  omega

set_option maxHeartbeats 2000000 in
set_option maxRecDepth 100000 in
theorem pbtw_any (s : ByteArray) (a b : Int) (rx : Bool) (w : World) (hG : GP w) :
    Calls Tryd.prog 4 #[.string s, .agg #[.int .i64 a, .int .i64 b], .bool rx] w fun e w' => e = .returned (.bool true) ∧ Below w.heap.size w w' := by
  have hG0 : GP (w.alloc (.cells #[.int .i64 a, .int .i64 b] 36)) := hG.up ((Below.refl _ w).alloc (Nat.le_refl _) _)
  have hb0 : Below w.heap.size w (w.alloc (.cells #[.int .i64 a, .int .i64 b] 36)) := (Below.refl _ w).alloc (Nat.le_refl _) _
  have hBk := Blk.new w #[.int .i64 a, .int .i64 b] 36 _ rfl
  have hlt := hBk.lt
  have hA := fun w' (h : GP w') => awake11_any w' h
  go_enter Tryd.func4, Tryd.ntmps4
  by_cases hs : (300 : Int) < (s.size : Int)
  · go_wp2_with (go_at_call 8; refine (hA _ hG0).mono ?_)
    rintro e w1 ⟨rfl, b1⟩
    go_wp2_with (go_at_call 8; refine (hA w1 (hG0.up b1)).mono ?_)
    rintro e w2 ⟨rfl, b2⟩
    go_wp2
    go_ret
    exact ⟨rfl, (hb0.trans (b1.mono hb0.size)).trans (b2.mono (hb0.trans (b1.mono hb0.size)).size)⟩
  · have hs' : s.size ≤ 4000000 := by omega
    go_wp2_with (go_at_call 8; refine (hA _ hG0).mono ?_; rintro e w1 ⟨rfl, b1⟩)
    have hB1 := hBk.below b1 hlt
    have e0 := hB1.cell 0
    have e1 := hB1.cell 1
    have hb1 := hb0.trans (b1.mono hb0.size)
    have hG1 := hG0.up b1
    have Wd := u8_wrap b
    obtain ⟨d, hd⟩ : ∃ d, UInt8.ofNat (b % 256).toNat = d := ⟨_, rfl⟩
    rw [hd] at Wd
    clear hd hA hG0 hb0 b1 hBk hB1
    simp only [List.getElem?_toArray, List.getElem?_cons_zero, List.getElem?_cons_succ] at e0 e1
    go_wp2
    go_quiet (fail)
    generalize hW1 : w1.drewN _ = W1
    have hbW : Below w.heap.size w W1 := by rw [← hW1]; exact below_drewN hb1 _
    have hGW : GP W1 := hG.up hbW
    have c1 := pbetween_any s a d rx W1 hs' hGW
    have c2 := fun w => rbetween_any s a d rx w hs'
    obtain ⟨⟨l1, l2, l3⟩, hl⟩ : ∃ r, pcBetween s.data.toList a d rx = r := ⟨_, rfl⟩
    rw [hl] at c1 c2
    clear hl hW1
    have d1 : Calls Tryd.prog 19 #[.string s, .int .i64 a, .int .u8 d.toNat, .bool rx] W1 fun e w' => e = .returned (.tuple #[.string (txt l1), .int .i64 (l2 : Nat), .int .i64 (l3 : Nat)]) ∧ Below W1.heap.size W1 w' := c1
    have d2 : ∀ w, Calls Tryd.prog 20 #[.string s, .int .i64 a, .int .u8 d.toNat, .bool rx] w fun e w' => e = .returned (.tuple #[.string (txt l1), .int .i64 (l2 : Nat), .int .i64 (l3 : Nat)]) ∧ Below w.heap.size w w' := c2
    clear c1 c2
    generalize txt l1 = tl at d1 d2
    go_wp2_with (first
      | (go_at_call 19; refine d1.mono ?_; rintro e w2 ⟨rfl, b2⟩)
      | (go_at_call 20; refine (d2 _).mono ?_; rintro e w3 ⟨rfl, b3⟩))
    go_ret
    have hb2 := hbW.trans (b2.mono hbW.size)
    exact ⟨rfl, hb2.trans (b3.mono hb2.size)⟩
end Go.Proofs.YtbhmpdbcjchdfaaDoor
