/- The statement BreBounds, walked. -/
import Derived.Test.YtbbcjclkklmoaaaDoorBbPD
import Derived.Test.YtbbcjclkklmoaaaDoorTrCaught
import Derived.Deep.RegionHeld3
namespace Go.Proofs.YtbbcjclkklmoaaaDoor
open Go Go.RowKit

theorem dec_lt : ∀ (k n : Nat), n < 10 ^ (k + 1) → (dec n).length ≤ k + 1 := by
  intro k
  induction k with
  | zero => intro n h; rw [dec_small n (by simpa using h)]; simp
  | succ k ih =>
    intro n h
    by_cases h1 : n < 10
    · rw [dec_small n h1]; simp
    · have h2 := ih (n / 10) (by rw [Nat.pow_succ] at h; omega)
      rw [dec_big n h1, List.length_append]
      simp
      omega
theorem dec_five (n : Nat) (h : n ≤ 65535) : (dec n).length ≤ 5 := dec_lt 4 n (by omega)
theorem bnd_no (S : ByteArray) (U : List UInt8) (hS : S.data.toList = 97 :: 92 :: 123 :: U) (hU : 3 + U.length ≤ 250) (hi : ivl (ivclo false) U = none) (w : World) (hG : Gl w) :
    Calls Tryd.prog 10 #[.string S] w fun e w' => e = .returned (.tuple #[.nilIface, .slice none 0 0, .int .i64 1, .int .i64 7]) ∧ Below w.heap.size w w' := by
  refine (bparse_any S w hG).mono ?_
  rw [hS, bound_bad U hU hi]
  rintro e w' ⟨hb, rfl⟩
  exact ⟨rfl, hb⟩
theorem bnd_yes (S : ByteArray) (U : List UInt8) (hS : S.data.toList = 97 :: 92 :: 123 :: U) (hU : 3 + U.length ≤ 250) (m n : Int) (hi : ivl (ivclo false) U = some (m, n, U.length)) (w : World) (hG : Gl w) :
    Calls Tryd.prog 10 #[.string S] w fun e w' => ∃ ma mc, e = .returned (.tuple #[.iface 54 (.agg #[.iface 80 (.agg #[.int .u64 (ow (oSpan 97 97) 0), .int .u64 (ow (oSpan 97 97) 1), .int .u64 (ow (oSpan 97 97) 2), .int .u64 (ow (oSpan 97 97) 3)]), .int .i64 m, .int .i64 n]), .slice ma 0 mc, .int .i64 0, .int .i64 0]) ∧ Below w.heap.size w w' := by
  refine (bparse_any S w hG).mono ?_
  rw [hS, bound_ok U hU m n hi]
  rintro e w' ⟨hb, v, mv, rfl, ⟨k, hn⟩, hm⟩
  obtain ⟨ma, mc, rfl⟩ := own_form' hm
  cases k with
  | zero => exact hn.elim
  | succ k =>
    obtain ⟨u, rfl, hu⟩ := hn
    cases k with
    | zero => exact hu.elim
    | succ k =>
      obtain rfl := hu
      exact ⟨ma, mc, rfl, hb⟩
theorem cat_one (t : ByteArray) (m : Nat) (h : t.data.toList = dec m) : ((ByteArray.mk #[97, 92, 123] ++ t) ++ ByteArray.mk #[92, 125]).data.toList = 97 :: 92 :: 123 :: (dec m ++ [92, 125]) := by
  rw [ByteArray.data_append, ByteArray.data_append, Array.toList_append, Array.toList_append, h]; rfl
theorem cat_open (t : ByteArray) (m : Nat) (h : t.data.toList = dec m) : (((ByteArray.mk #[97, 92, 123] ++ t) ++ ByteArray.mk #[44]) ++ ByteArray.mk #[92, 125]).data.toList = 97 :: 92 :: 123 :: (dec m ++ [44, 92, 125]) := by
  rw [ByteArray.data_append, ByteArray.data_append, ByteArray.data_append, Array.toList_append, Array.toList_append, Array.toList_append, h]
  show [97, 92, 123] ++ dec m ++ [44] ++ [92, 125] = _
  simp
theorem cat_two (t u : ByteArray) (m n : Nat) (h : t.data.toList = dec m) (k : u.data.toList = dec n) : (((ByteArray.mk #[97, 92, 123] ++ t) ++ (ByteArray.mk #[44] ++ u)) ++ ByteArray.mk #[92, 125]).data.toList = 97 :: 92 :: 123 :: (dec m ++ (44 :: (dec n ++ [92, 125]))) := by
  rw [ByteArray.data_append, ByteArray.data_append, ByteArray.data_append, ByteArray.data_append, Array.toList_append, Array.toList_append, Array.toList_append, Array.toList_append, h, k]
  show [97, 92, 123] ++ dec m ++ ([44] ++ dec n) ++ [92, 125] = _
  simp
/-- Three cells are held while calls make memory. -/
structure HeldB (w0 : World) (a : Nat) (x y z : Value) (T : TypeId) (w' : World) : Prop where
  b : Below w0.heap.size w0 w'
  k : Blk w' a #[x, y, z] T
abbrev ReadB (w0 : World) (a : Nat) (x y z : Value) (T : TypeId) (w' : World) : Prop := w'.cell? ⟨a, 0, none⟩ = some x ∧ w'.cell? ⟨a, 1, none⟩ = some y ∧ w'.cell? ⟨a, 2, none⟩ = some z ∧ HeldB w0 a x y z T w'
theorem HeldB.all {w0 : World} {a : Nat} {x y z : Value} {T : TypeId} {w' : World} (h : HeldB w0 a x y z T w') : ReadB w0 a x y z T w' := ⟨(h.k.cell 0).trans rfl, (h.k.cell 1).trans rfl, (h.k.cell 2).trans rfl, h⟩
theorem readb_step {w0 : World} {a : Nat} {x y z : Value} {T : TypeId} {W W' : World} (hb : Below W.heap.size W W') (h : ReadB w0 a x y z T W) : ReadB w0 a x y z T W' := HeldB.all ⟨h.2.2.2.b.trans (hb.mono h.2.2.2.b.size), h.2.2.2.k.below hb h.2.2.2.k.lt⟩
theorem readb_drew {w0 : World} {a : Nat} {x y z : Value} {T : TypeId} {W : World} (h : ReadB w0 a x y z T W) : ReadB w0 a x y z T W.drew := readb_step (Below.drew (Below.refl _ _)) h
theorem readb_alloc {w0 : World} {a : Nat} {x y z : Value} {T : TypeId} {W : World} (h : ReadB w0 a x y z T W) (o : Obj) : ReadB w0 a x y z T (W.alloc o) := readb_step ((Below.refl _ _).alloc (Nat.le_refl _) o) h
theorem of_new97 (w : World) (p : Nat) (hp : p < w.heap.size) (hc : w.cell? ⟨p, 0, none⟩ = some (.int .u8 97)) :
    Calls Tryd.prog 23 #[.slice (some ⟨p, 0, none⟩) 1 1] w fun e w' => e = .returned (.agg #[.int .u64 (ow (ofl [97]) 0), .int .u64 (ow (ofl [97]) 1), .int .u64 (ow (ofl [97]) 2), .int .u64 (ow (ofl [97]) 3)]) ∧ Below w.heap.size w w' :=
  of_any [97] p 0 1 w hp (by simp [maxLen]) (fun i hi => by match i, hi with | 0, _ => exact hc) (fun i => by match i with | 0 => exact ⟨by decide, by decide⟩ | _ + 1 => simp)
theorem nholds_a : nholds (.one (oSpan 97 97)) (ofl [97]) = true := by
  unfold nholds
  rw [show ofl [(97 : Int)] = oSpan 97 97 from ofl_one 97]
  simp
set_option linter.unusedSimpArgs false in
set_option maxRecDepth 100000 in
set_option maxHeartbeats 1000000 in
theorem bb0_ok (m n h : Nat) (hm : m ≤ 65535) (hn : n ≤ 65535) (h0 : h % 3 = 0) (hmo : m ≤ 255) (w : World) (hG : Gl w) :
    Calls Tryd.prog 5 #[.int .u16 (m : Int), .int .u16 (n : Int), .int .u8 (h : Int)] w fun e w' => e = .returned (.bool true) ∧ Below w.heap.size w w' := by
  have haw := awake4_any w hG
  have hnil : ∀ w : World, (binOp BinOp.eql 25 .nilIface .nilIface).run Tryd.prog w = .ok (.bool true) w := fun _ => by kernel_rfl
  have Wm : IntKind.i64.wrap (m : Int) = (m : Int) := IntWalk.i64_in _ (by omega)
  have Wk : IntKind.i64.wrap (n : Int) = (n : Int) := IntWalk.i64_in _ (by omega)
  have HDg := Lib.hid (digits_any m hm)
  have HDn := Lib.hid (digits_any n hn)
  have r1 : (((h : Int) % 3) == 1) = false := by first | (simp; done) | (simp; omega)
  have r2 : (((h : Int) % 3) == 2) = false := by first | (simp; done) | (simp; omega)
  have q0 : decide ((255 : Int) < (m : Int)) = false := by first | (simp; done) | (simp; omega)
  have q1 : decide (255 < m) = false := by first | (simp; done) | (simp; omega)
  have q2 : decide ((0 : Int) ≤ (m : Int)) = true := by first | (simp; done) | (simp; omega)
  have q3 : decide ((m : Int) < (m : Int)) = false := by first | (simp; done) | (simp; omega)
  have q4 : decide (m < m) = false := by first | (simp; done) | (simp; omega)
  have hl1 := dec_five m hm
  have hl2 := dec_five n hn
  have HL1 := Lib.hid hl1
  have HL2 := Lib.hid hl2
  have hi : ivl (ivclo false) (dec m ++ [92, 125]) = some ((m : Int), (m : Int), (dec m ++ [92, 125]).length) := (ivl_one m hmo).trans (by congr 3; simp; try omega)
  have hul : 3 + (dec m ++ [92, 125]).length ≤ 250 := by simp; omega
  have HI := Lib.hid hi
  have HUL := Lib.hid hul
  clear hi hul hl1 hl2 hm hn h0 hmo
  go_enter Tryd.func5, Tryd.ntmps5
  go_wp2_with fail
  refine haw.mono ?_
  rintro e w1 ⟨rfl, hW⟩
  have HGl := Lib.hid (hG.up hW)
  clear haw hG
  go_wp2_with fail
  refine (HDg.out _).mono ?_
  rintro e w2 ⟨t1, rfl, ht1, rfl⟩
  have HT1 := Lib.hid ht1
  have hs0 : t1.data.toList.length ≤ 5 := by rw [ht1]; exact HL1.out
  have hs1 : t1.size ≤ 5 := by simpa using hs0
  clear ht1 hs0
  have hS := cat_one t1 m HT1.out
  have hp := bnd_yes _ _ hS HUL.out _ _ HI.out w1 HGl.out
  clear hS
  go_wp2_with fail
  refine hp.mono ?_
  rintro e w3 ⟨ma, mc, rfl, b3⟩
  have hW3 := hW.trans (b3.mono hW.size)
  clear hp b3
  have hho := fun (W : World) => holds_any (F := fun _ => True) (.one (oSpan 97 97)) (.iface 80 (.agg #[.int .u64 (ow (oSpan 97 97) 0), .int .u64 (ow (oSpan 97 97) 1), .int .u64 (ow (oSpan 97 97) 2), .int .u64 (ow (oSpan 97 97) 3)])) (ofl [97]) W ⟨1, rfl⟩
  rw [nholds_a] at hho
  have hof := fun (W : World) (p : Nat) (hp : p < W.heap.size) (hc : W.cell? ⟨p, 0, none⟩ = some (.int .u8 97)) => of_new97 W p hp hc
  have hall := HeldB.all (w0 := w) (a := w3.heap.size) (x := .iface 80 (.agg #[.int .u64 (ow (oSpan 97 97) 0), .int .u64 (ow (oSpan 97 97) 1), .int .u64 (ow (oSpan 97 97) 2), .int .u64 (ow (oSpan 97 97) 3)])) (y := .int .i64 (m : Int)) (z := .int .i64 (m : Int)) (T := 54) (w' := w3.alloc (.cells #[.iface 80 (.agg #[.int .u64 (ow (oSpan 97 97) 0), .int .u64 (ow (oSpan 97 97) 1), .int .u64 (ow (oSpan 97 97) 2), .int .u64 (ow (oSpan 97 97) 3)]), .int .i64 (m : Int), .int .i64 (m : Int)] 54)) ⟨hW3.alloc hW3.size _, Blk.new _ _ _ _ rfl⟩
  generalize oSpan 97 97 = sa at *
  generalize ofl [97] = sb at *
  go_wp2_with fail
  go_region_held3 (fun w' => w'.cell? ⟨w3.heap.size, 0, none⟩ = some (.iface 80 (.agg #[.int .u64 (ow sa 0), .int .u64 (ow sa 1), .int .u64 (ow sa 2), .int .u64 (ow sa 3)])) ∧ w'.cell? ⟨w3.heap.size, 1, none⟩ = some (.int .i64 (m : Int)) ∧ w'.cell? ⟨w3.heap.size, 2, none⟩ = some (.int .i64 (m : Int)) ∧ HeldB w w3.heap.size (.iface 80 (.agg #[.int .u64 (ow sa 0), .int .u64 (ow sa 1), .int .u64 (ow sa 2), .int .u64 (ow sa 3)])) (.int .i64 (m : Int)) (.int .i64 (m : Int)) 54 w')
    (first | (with_reducible exact hall) | (with_reducible exact readb_drew hall) | (with_reducible exact readb_drew (readb_alloc hall _)) | (with_reducible exact readb_alloc hall _) | (with_reducible exact readb_step hbX (by assumption)) | (with_reducible exact readb_drew (by assumption)) | (with_reducible exact readb_alloc (by assumption) _))
    (first | (go_at_call 23; refine (hof _ _ (by simp) (by simp)).mono ?_; rintro e w' ⟨rfl, hbX⟩) | (go_at_call 22; refine (hho _).mono ?_; rintro e w' ⟨rfl, hbX⟩))
  go_wp2_with fail
  go_ret
  go_split_ands
  exact ⟨rfl, HeldB.b (by assumption)⟩
set_option linter.unusedSimpArgs false in
set_option maxRecDepth 100000 in
set_option maxHeartbeats 1000000 in
theorem bb0_bad (m n h : Nat) (hm : m ≤ 65535) (hn : n ≤ 65535) (h0 : h % 3 = 0) (hmo : 255 < m) (w : World) (hG : Gl w) :
    Calls Tryd.prog 5 #[.int .u16 (m : Int), .int .u16 (n : Int), .int .u8 (h : Int)] w fun e w' => e = .returned (.bool true) ∧ Below w.heap.size w w' := by
  have haw := awake4_any w hG
  have hnil : ∀ w : World, (binOp BinOp.eql 25 .nilIface .nilIface).run Tryd.prog w = .ok (.bool true) w := fun _ => by kernel_rfl
  have Wm : IntKind.i64.wrap (m : Int) = (m : Int) := IntWalk.i64_in _ (by omega)
  have Wk : IntKind.i64.wrap (n : Int) = (n : Int) := IntWalk.i64_in _ (by omega)
  have HDg := Lib.hid (digits_any m hm)
  have HDn := Lib.hid (digits_any n hn)
  have r1 : (((h : Int) % 3) == 1) = false := by first | (simp; done) | (simp; omega)
  have r2 : (((h : Int) % 3) == 2) = false := by first | (simp; done) | (simp; omega)
  have q0 : decide ((255 : Int) < (m : Int)) = true := by first | (simp; done) | (simp; omega)
  have q1 : decide (255 < m) = true := by first | (simp; done) | (simp; omega)
  have hl1 := dec_five m hm
  have hl2 := dec_five n hn
  have HL1 := Lib.hid hl1
  have HL2 := Lib.hid hl2
  have hi : ivl (ivclo false) (dec m ++ [92, 125]) = none := ivl_big m hmo _ rfl
  have hul : 3 + (dec m ++ [92, 125]).length ≤ 250 := by simp; omega
  have HI := Lib.hid hi
  have HUL := Lib.hid hul
  clear hi hul hl1 hl2 hm hn h0 hmo
  go_enter Tryd.func5, Tryd.ntmps5
  go_wp2_with fail
  refine haw.mono ?_
  rintro e w1 ⟨rfl, hW⟩
  have HGl := Lib.hid (hG.up hW)
  clear haw hG
  go_wp2_with fail
  refine (HDg.out _).mono ?_
  rintro e w2 ⟨t1, rfl, ht1, rfl⟩
  have HT1 := Lib.hid ht1
  have hs0 : t1.data.toList.length ≤ 5 := by rw [ht1]; exact HL1.out
  have hs1 : t1.size ≤ 5 := by simpa using hs0
  clear ht1 hs0
  have hS := cat_one t1 m HT1.out
  have hp := bnd_no _ _ hS HUL.out HI.out w1 HGl.out
  clear hS
  go_wp2_with fail
  refine hp.mono ?_
  rintro e w3 ⟨rfl, b3⟩
  have hW3 := hW.trans (b3.mono hW.size)
  clear hp b3
  go_wp2_with fail
  go_ret
  exact ⟨rfl, hW3⟩
set_option linter.unusedSimpArgs false in
set_option maxRecDepth 100000 in
set_option maxHeartbeats 1000000 in
theorem bb1_ok (m n h : Nat) (hm : m ≤ 65535) (hn : n ≤ 65535) (h0 : h % 3 = 1) (hmo : m ≤ 255) (w : World) (hG : Gl w) :
    Calls Tryd.prog 5 #[.int .u16 (m : Int), .int .u16 (n : Int), .int .u8 (h : Int)] w fun e w' => e = .returned (.bool true) ∧ Below w.heap.size w w' := by
  have haw := awake4_any w hG
  have hnil : ∀ w : World, (binOp BinOp.eql 25 .nilIface .nilIface).run Tryd.prog w = .ok (.bool true) w := fun _ => by kernel_rfl
  have Wm : IntKind.i64.wrap (m : Int) = (m : Int) := IntWalk.i64_in _ (by omega)
  have Wk : IntKind.i64.wrap (n : Int) = (n : Int) := IntWalk.i64_in _ (by omega)
  have HDg := Lib.hid (digits_any m hm)
  have HDn := Lib.hid (digits_any n hn)
  have r1 : (((h : Int) % 3) == 1) = true := by first | (simp; done) | (simp; omega)
  have r2 : (((h : Int) % 3) == 2) = false := by first | (simp; done) | (simp; omega)
  have q0 : decide ((255 : Int) < (m : Int)) = false := by first | (simp; done) | (simp; omega)
  have q1 : decide (255 < m) = false := by first | (simp; done) | (simp; omega)
  have hl1 := dec_five m hm
  have hl2 := dec_five n hn
  have HL1 := Lib.hid hl1
  have HL2 := Lib.hid hl2
  have hi : ivl (ivclo false) (dec m ++ [44, 92, 125]) = some ((m : Int), (-1 : Int), (dec m ++ [44, 92, 125]).length) := (ivl_open m hmo).trans (by congr 3; simp; try omega)
  have hul : 3 + (dec m ++ [44, 92, 125]).length ≤ 250 := by simp; omega
  have HI := Lib.hid hi
  have HUL := Lib.hid hul
  clear hi hul hl1 hl2 hm hn h0 hmo
  go_enter Tryd.func5, Tryd.ntmps5
  go_wp2_with fail
  refine haw.mono ?_
  rintro e w1 ⟨rfl, hW⟩
  have HGl := Lib.hid (hG.up hW)
  clear haw hG
  go_wp2_with fail
  refine (HDg.out _).mono ?_
  rintro e w2 ⟨t1, rfl, ht1, rfl⟩
  have HT1 := Lib.hid ht1
  have hs0 : t1.data.toList.length ≤ 5 := by rw [ht1]; exact HL1.out
  have hs1 : t1.size ≤ 5 := by simpa using hs0
  clear ht1 hs0
  have hS := cat_open t1 m HT1.out
  have hp := bnd_yes _ _ hS HUL.out _ _ HI.out w1 HGl.out
  clear hS
  go_wp2_with fail
  refine hp.mono ?_
  rintro e w3 ⟨ma, mc, rfl, b3⟩
  have hW3 := hW.trans (b3.mono hW.size)
  clear hp b3
  have hho := fun (W : World) => holds_any (F := fun _ => True) (.one (oSpan 97 97)) (.iface 80 (.agg #[.int .u64 (ow (oSpan 97 97) 0), .int .u64 (ow (oSpan 97 97) 1), .int .u64 (ow (oSpan 97 97) 2), .int .u64 (ow (oSpan 97 97) 3)])) (ofl [97]) W ⟨1, rfl⟩
  rw [nholds_a] at hho
  have hof := fun (W : World) (p : Nat) (hp : p < W.heap.size) (hc : W.cell? ⟨p, 0, none⟩ = some (.int .u8 97)) => of_new97 W p hp hc
  have hall := HeldB.all (w0 := w) (a := w3.heap.size) (x := .iface 80 (.agg #[.int .u64 (ow (oSpan 97 97) 0), .int .u64 (ow (oSpan 97 97) 1), .int .u64 (ow (oSpan 97 97) 2), .int .u64 (ow (oSpan 97 97) 3)])) (y := .int .i64 (m : Int)) (z := .int .i64 (-1 : Int)) (T := 54) (w' := w3.alloc (.cells #[.iface 80 (.agg #[.int .u64 (ow (oSpan 97 97) 0), .int .u64 (ow (oSpan 97 97) 1), .int .u64 (ow (oSpan 97 97) 2), .int .u64 (ow (oSpan 97 97) 3)]),   .int .i64 (m : Int), .int .i64 (-1 : Int)] 54)) ⟨hW3.alloc hW3.size _, Blk.new _ _ _ _ rfl⟩
  generalize oSpan 97 97 = sa at *
  generalize ofl [97] = sb at *
  go_wp2_with fail
  go_region_held3 (fun w' => w'.cell? ⟨w3.heap.size, 0, none⟩ = some (.iface 80 (.agg #[.int .u64 (ow sa 0), .int .u64 (ow sa 1), .int .u64 (ow sa 2), .int .u64 (ow sa 3)])) ∧ w'.cell? ⟨w3.heap.size, 1, none⟩ = some (.int .i64 (m : Int)) ∧ w'.cell? ⟨w3.heap.size, 2, none⟩ = some (.int .i64 (-1 : Int)) ∧ HeldB w w3.heap.size (.iface 80 (.agg #[.int .u64 (ow sa 0), .int .u64 (ow sa 1), .int .u64 (ow sa 2), .int .u64 (ow sa 3)])) (.int .i64 (m : Int)) (.int .i64 (-1 : Int)) 54 w')
    (first | (with_reducible exact hall) | (with_reducible exact readb_drew hall) | (with_reducible exact readb_drew (readb_alloc hall _)) | (with_reducible exact readb_alloc hall _) | (with_reducible exact readb_step hbX (by assumption)) | (with_reducible exact readb_drew (by assumption)) | (with_reducible exact readb_alloc (by assumption) _))
    (first | (go_at_call 23; refine (hof _ _ (by simp) (by simp)).mono ?_; rintro e w' ⟨rfl, hbX⟩) | (go_at_call 22; refine (hho _).mono ?_; rintro e w' ⟨rfl, hbX⟩))
  go_wp2_with fail
  go_ret
  go_split_ands
  exact ⟨rfl, HeldB.b (by assumption)⟩
set_option linter.unusedSimpArgs false in
set_option maxRecDepth 100000 in
set_option maxHeartbeats 1000000 in
theorem bb1_bad (m n h : Nat) (hm : m ≤ 65535) (hn : n ≤ 65535) (h0 : h % 3 = 1) (hmo : 255 < m) (w : World) (hG : Gl w) :
    Calls Tryd.prog 5 #[.int .u16 (m : Int), .int .u16 (n : Int), .int .u8 (h : Int)] w fun e w' => e = .returned (.bool true) ∧ Below w.heap.size w w' := by
  have haw := awake4_any w hG
  have hnil : ∀ w : World, (binOp BinOp.eql 25 .nilIface .nilIface).run Tryd.prog w = .ok (.bool true) w := fun _ => by kernel_rfl
  have Wm : IntKind.i64.wrap (m : Int) = (m : Int) := IntWalk.i64_in _ (by omega)
  have Wk : IntKind.i64.wrap (n : Int) = (n : Int) := IntWalk.i64_in _ (by omega)
  have HDg := Lib.hid (digits_any m hm)
  have HDn := Lib.hid (digits_any n hn)
  have r1 : (((h : Int) % 3) == 1) = true := by first | (simp; done) | (simp; omega)
  have r2 : (((h : Int) % 3) == 2) = false := by first | (simp; done) | (simp; omega)
  have q0 : decide ((255 : Int) < (m : Int)) = true := by first | (simp; done) | (simp; omega)
  have q1 : decide (255 < m) = true := by first | (simp; done) | (simp; omega)
  have hl1 := dec_five m hm
  have hl2 := dec_five n hn
  have HL1 := Lib.hid hl1
  have HL2 := Lib.hid hl2
  have hi : ivl (ivclo false) (dec m ++ [44, 92, 125]) = none := ivl_big m hmo _ rfl
  have hul : 3 + (dec m ++ [44, 92, 125]).length ≤ 250 := by simp; omega
  have HI := Lib.hid hi
  have HUL := Lib.hid hul
  clear hi hul hl1 hl2 hm hn h0 hmo
  go_enter Tryd.func5, Tryd.ntmps5
  go_wp2_with fail
  refine haw.mono ?_
  rintro e w1 ⟨rfl, hW⟩
  have HGl := Lib.hid (hG.up hW)
  clear haw hG
  go_wp2_with fail
  refine (HDg.out _).mono ?_
  rintro e w2 ⟨t1, rfl, ht1, rfl⟩
  have HT1 := Lib.hid ht1
  have hs0 : t1.data.toList.length ≤ 5 := by rw [ht1]; exact HL1.out
  have hs1 : t1.size ≤ 5 := by simpa using hs0
  clear ht1 hs0
  have hS := cat_open t1 m HT1.out
  have hp := bnd_no _ _ hS HUL.out HI.out w1 HGl.out
  clear hS
  go_wp2_with fail
  refine hp.mono ?_
  rintro e w3 ⟨rfl, b3⟩
  have hW3 := hW.trans (b3.mono hW.size)
  clear hp b3
  go_wp2_with fail
  go_ret
  exact ⟨rfl, hW3⟩
set_option linter.unusedSimpArgs false in
set_option maxRecDepth 100000 in
set_option maxHeartbeats 1000000 in
theorem bb2_ok (m n h : Nat) (hm : m ≤ 65535) (hn : n ≤ 65535) (h0 : h % 3 = 2) (hmo : m ≤ 255) (hno : n ≤ 255) (hle : m ≤ n) (w : World) (hG : Gl w) :
    Calls Tryd.prog 5 #[.int .u16 (m : Int), .int .u16 (n : Int), .int .u8 (h : Int)] w fun e w' => e = .returned (.bool true) ∧ Below w.heap.size w w' := by
  have haw := awake4_any w hG
  have hnil : ∀ w : World, (binOp BinOp.eql 25 .nilIface .nilIface).run Tryd.prog w = .ok (.bool true) w := fun _ => by kernel_rfl
  have Wm : IntKind.i64.wrap (m : Int) = (m : Int) := IntWalk.i64_in _ (by omega)
  have Wk : IntKind.i64.wrap (n : Int) = (n : Int) := IntWalk.i64_in _ (by omega)
  have HDg := Lib.hid (digits_any m hm)
  have HDn := Lib.hid (digits_any n hn)
  have r1 : (((h : Int) % 3) == 1) = false := by first | (simp; done) | (simp; omega)
  have r2 : (((h : Int) % 3) == 2) = true := by first | (simp; done) | (simp; omega)
  have q0 : decide ((255 : Int) < (m : Int)) = false := by first | (simp; done) | (simp; omega)
  have q1 : decide (255 < m) = false := by first | (simp; done) | (simp; omega)
  have q2 : decide ((255 : Int) < (n : Int)) = false := by first | (simp; done) | (simp; omega)
  have q3 : decide (255 < n) = false := by first | (simp; done) | (simp; omega)
  have q4 : decide ((0 : Int) ≤ (n : Int)) = true := by first | (simp; done) | (simp; omega)
  have q5 : decide ((n : Int) < (m : Int)) = false := by first | (simp; done) | (simp; omega)
  have q6 : decide (n < m) = false := by first | (simp; done) | (simp; omega)
  have hl1 := dec_five m hm
  have hl2 := dec_five n hn
  have HL1 := Lib.hid hl1
  have HL2 := Lib.hid hl2
  have hi : ivl (ivclo false) (dec m ++ (44 :: (dec n ++ [92, 125]))) = some ((m : Int), (n : Int), (dec m ++ (44 :: (dec n ++ [92, 125]))).length) := ((ivl_two m n hmo).trans (if_pos ⟨hno, hle⟩)).trans (by congr 3; simp; try omega)
  have hul : 3 + (dec m ++ (44 :: (dec n ++ [92, 125]))).length ≤ 250 := by simp; omega
  have HI := Lib.hid hi
  have HUL := Lib.hid hul
  clear hi hul hl1 hl2 hm hn h0 hmo hno hle
  go_enter Tryd.func5, Tryd.ntmps5
  go_wp2_with fail
  refine haw.mono ?_
  rintro e w1 ⟨rfl, hW⟩
  have HGl := Lib.hid (hG.up hW)
  clear haw hG
  go_wp2_with fail
  refine (HDg.out _).mono ?_
  rintro e w2 ⟨t1, rfl, ht1, rfl⟩
  have HT1 := Lib.hid ht1
  have hs0 : t1.data.toList.length ≤ 5 := by rw [ht1]; exact HL1.out
  have hs1 : t1.size ≤ 5 := by simpa using hs0
  clear ht1 hs0
  go_wp2_with fail
  refine (HDn.out _).mono ?_
  rintro e w2 ⟨t2, rfl, ht2, rfl⟩
  have HT2 := Lib.hid ht2
  have hs0 : t2.data.toList.length ≤ 5 := by rw [ht2]; exact HL2.out
  have hs2 : t2.size ≤ 5 := by simpa using hs0
  clear ht2 hs0
  have hS := cat_two t1 t2 m n HT1.out HT2.out
  have hp := bnd_yes _ _ hS HUL.out _ _ HI.out w1 HGl.out
  clear hS
  go_wp2_with fail
  refine hp.mono ?_
  rintro e w3 ⟨ma, mc, rfl, b3⟩
  have hW3 := hW.trans (b3.mono hW.size)
  clear hp b3
  have hho := fun (W : World) => holds_any (F := fun _ => True) (.one (oSpan 97 97)) (.iface 80 (.agg #[.int .u64 (ow (oSpan 97 97) 0), .int .u64 (ow (oSpan 97 97) 1), .int .u64 (ow (oSpan 97 97) 2), .int .u64 (ow (oSpan 97 97) 3)])) (ofl [97]) W ⟨1, rfl⟩
  rw [nholds_a] at hho
  have hof := fun (W : World) (p : Nat) (hp : p < W.heap.size) (hc : W.cell? ⟨p, 0, none⟩ = some (.int .u8 97)) => of_new97 W p hp hc
  have hall := HeldB.all (w0 := w) (a := w3.heap.size) (x := .iface 80 (.agg #[.int .u64 (ow (oSpan 97 97) 0), .int .u64 (ow (oSpan 97 97) 1), .int .u64 (ow (oSpan 97 97) 2), .int .u64 (ow (oSpan 97 97) 3)])) (y := .int .i64 (m : Int)) (z := .int .i64 (n : Int)) (T := 54) (w' := w3.alloc (.cells #[.iface 80 (.agg #[.int .u64 (ow (oSpan 97 97) 0), .int .u64 (ow (oSpan 97 97) 1), .int .u64 (ow (oSpan 97 97) 2), .int .u64 (ow (oSpan 97 97) 3)]),   .int .i64 (m : Int), .int .i64 (n : Int)] 54)) ⟨hW3.alloc hW3.size _, Blk.new _ _ _ _ rfl⟩
  generalize oSpan 97 97 = sa at *
  generalize ofl [97] = sb at *
  go_wp2_with fail
  go_region_held3 (fun w' => w'.cell? ⟨w3.heap.size, 0, none⟩ = some (.iface 80 (.agg #[.int .u64 (ow sa 0), .int .u64 (ow sa 1), .int .u64 (ow sa 2), .int .u64 (ow sa 3)])) ∧ w'.cell? ⟨w3.heap.size, 1, none⟩ = some (.int .i64 (m : Int)) ∧ w'.cell? ⟨w3.heap.size, 2, none⟩ = some (.int .i64 (n : Int)) ∧ HeldB w w3.heap.size (.iface 80 (.agg #[.int .u64 (ow sa 0), .int .u64 (ow sa 1), .int .u64 (ow sa 2), .int .u64 (ow sa 3)])) (.int .i64 (m : Int)) (.int .i64 (n : Int)) 54 w')
    (first | (with_reducible exact hall) | (with_reducible exact readb_drew hall) | (with_reducible exact readb_drew (readb_alloc hall _)) | (with_reducible exact readb_alloc hall _) | (with_reducible exact readb_step hbX (by assumption)) | (with_reducible exact readb_drew (by assumption)) | (with_reducible exact readb_alloc (by assumption) _))
    (first | (go_at_call 23; refine (hof _ _ (by simp) (by simp)).mono ?_; rintro e w' ⟨rfl, hbX⟩) | (go_at_call 22; refine (hho _).mono ?_; rintro e w' ⟨rfl, hbX⟩))
  go_wp2_with fail
  go_ret
  go_split_ands
  exact ⟨rfl, HeldB.b (by assumption)⟩
set_option linter.unusedSimpArgs false in
set_option maxRecDepth 100000 in
set_option maxHeartbeats 1000000 in
theorem bb2_b1 (m n h : Nat) (hm : m ≤ 65535) (hn : n ≤ 65535) (h0 : h % 3 = 2) (hmo : 255 < m) (w : World) (hG : Gl w) :
    Calls Tryd.prog 5 #[.int .u16 (m : Int), .int .u16 (n : Int), .int .u8 (h : Int)] w fun e w' => e = .returned (.bool true) ∧ Below w.heap.size w w' := by
  have haw := awake4_any w hG
  have hnil : ∀ w : World, (binOp BinOp.eql 25 .nilIface .nilIface).run Tryd.prog w = .ok (.bool true) w := fun _ => by kernel_rfl
  have Wm : IntKind.i64.wrap (m : Int) = (m : Int) := IntWalk.i64_in _ (by omega)
  have Wk : IntKind.i64.wrap (n : Int) = (n : Int) := IntWalk.i64_in _ (by omega)
  have HDg := Lib.hid (digits_any m hm)
  have HDn := Lib.hid (digits_any n hn)
  have r1 : (((h : Int) % 3) == 1) = false := by first | (simp; done) | (simp; omega)
  have r2 : (((h : Int) % 3) == 2) = true := by first | (simp; done) | (simp; omega)
  have q0 : decide ((255 : Int) < (m : Int)) = true := by first | (simp; done) | (simp; omega)
  have q1 : decide (255 < m) = true := by first | (simp; done) | (simp; omega)
  have hl1 := dec_five m hm
  have hl2 := dec_five n hn
  have HL1 := Lib.hid hl1
  have HL2 := Lib.hid hl2
  have hi : ivl (ivclo false) (dec m ++ (44 :: (dec n ++ [92, 125]))) = none := ivl_big m hmo _ rfl
  have hul : 3 + (dec m ++ (44 :: (dec n ++ [92, 125]))).length ≤ 250 := by simp; omega
  have HI := Lib.hid hi
  have HUL := Lib.hid hul
  clear hi hul hl1 hl2 hm hn h0 hmo
  go_enter Tryd.func5, Tryd.ntmps5
  go_wp2_with fail
  refine haw.mono ?_
  rintro e w1 ⟨rfl, hW⟩
  have HGl := Lib.hid (hG.up hW)
  clear haw hG
  go_wp2_with fail
  refine (HDg.out _).mono ?_
  rintro e w2 ⟨t1, rfl, ht1, rfl⟩
  have HT1 := Lib.hid ht1
  have hs0 : t1.data.toList.length ≤ 5 := by rw [ht1]; exact HL1.out
  have hs1 : t1.size ≤ 5 := by simpa using hs0
  clear ht1 hs0
  go_wp2_with fail
  refine (HDn.out _).mono ?_
  rintro e w2 ⟨t2, rfl, ht2, rfl⟩
  have HT2 := Lib.hid ht2
  have hs0 : t2.data.toList.length ≤ 5 := by rw [ht2]; exact HL2.out
  have hs2 : t2.size ≤ 5 := by simpa using hs0
  clear ht2 hs0
  have hS := cat_two t1 t2 m n HT1.out HT2.out
  have hp := bnd_no _ _ hS HUL.out HI.out w1 HGl.out
  clear hS
  go_wp2_with fail
  refine hp.mono ?_
  rintro e w3 ⟨rfl, b3⟩
  have hW3 := hW.trans (b3.mono hW.size)
  clear hp b3
  go_wp2_with fail
  go_ret
  exact ⟨rfl, hW3⟩
set_option linter.unusedSimpArgs false in
set_option maxRecDepth 100000 in
set_option maxHeartbeats 1000000 in
theorem bb2_b2 (m n h : Nat) (hm : m ≤ 65535) (hn : n ≤ 65535) (h0 : h % 3 = 2) (hmo : m ≤ 255) (hno : 255 < n) (w : World) (hG : Gl w) :
    Calls Tryd.prog 5 #[.int .u16 (m : Int), .int .u16 (n : Int), .int .u8 (h : Int)] w fun e w' => e = .returned (.bool true) ∧ Below w.heap.size w w' := by
  have haw := awake4_any w hG
  have hnil : ∀ w : World, (binOp BinOp.eql 25 .nilIface .nilIface).run Tryd.prog w = .ok (.bool true) w := fun _ => by kernel_rfl
  have Wm : IntKind.i64.wrap (m : Int) = (m : Int) := IntWalk.i64_in _ (by omega)
  have Wk : IntKind.i64.wrap (n : Int) = (n : Int) := IntWalk.i64_in _ (by omega)
  have HDg := Lib.hid (digits_any m hm)
  have HDn := Lib.hid (digits_any n hn)
  have r1 : (((h : Int) % 3) == 1) = false := by first | (simp; done) | (simp; omega)
  have r2 : (((h : Int) % 3) == 2) = true := by first | (simp; done) | (simp; omega)
  have q0 : decide ((255 : Int) < (m : Int)) = false := by first | (simp; done) | (simp; omega)
  have q1 : decide (255 < m) = false := by first | (simp; done) | (simp; omega)
  have q2 : decide ((255 : Int) < (n : Int)) = true := by first | (simp; done) | (simp; omega)
  have q3 : decide (255 < n) = true := by first | (simp; done) | (simp; omega)
  have q4 : decide ((0 : Int) ≤ (n : Int)) = true := by first | (simp; done) | (simp; omega)
  have hl1 := dec_five m hm
  have hl2 := dec_five n hn
  have HL1 := Lib.hid hl1
  have HL2 := Lib.hid hl2
  have hi : ivl (ivclo false) (dec m ++ (44 :: (dec n ++ [92, 125]))) = none := (ivl_two m n hmo).trans (if_neg (fun hh => by omega))
  have hul : 3 + (dec m ++ (44 :: (dec n ++ [92, 125]))).length ≤ 250 := by simp; omega
  have HI := Lib.hid hi
  have HUL := Lib.hid hul
  clear hi hul hl1 hl2 hm hn h0 hmo hno
  go_enter Tryd.func5, Tryd.ntmps5
  go_wp2_with fail
  refine haw.mono ?_
  rintro e w1 ⟨rfl, hW⟩
  have HGl := Lib.hid (hG.up hW)
  clear haw hG
  go_wp2_with fail
  refine (HDg.out _).mono ?_
  rintro e w2 ⟨t1, rfl, ht1, rfl⟩
  have HT1 := Lib.hid ht1
  have hs0 : t1.data.toList.length ≤ 5 := by rw [ht1]; exact HL1.out
  have hs1 : t1.size ≤ 5 := by simpa using hs0
  clear ht1 hs0
  go_wp2_with fail
  refine (HDn.out _).mono ?_
  rintro e w2 ⟨t2, rfl, ht2, rfl⟩
  have HT2 := Lib.hid ht2
  have hs0 : t2.data.toList.length ≤ 5 := by rw [ht2]; exact HL2.out
  have hs2 : t2.size ≤ 5 := by simpa using hs0
  clear ht2 hs0
  have hS := cat_two t1 t2 m n HT1.out HT2.out
  have hp := bnd_no _ _ hS HUL.out HI.out w1 HGl.out
  clear hS
  go_wp2_with fail
  refine hp.mono ?_
  rintro e w3 ⟨rfl, b3⟩
  have hW3 := hW.trans (b3.mono hW.size)
  clear hp b3
  go_wp2_with fail
  go_ret
  exact ⟨rfl, hW3⟩
set_option linter.unusedSimpArgs false in
set_option maxRecDepth 100000 in
set_option maxHeartbeats 1000000 in
theorem bb2_b3 (m n h : Nat) (hm : m ≤ 65535) (hn : n ≤ 65535) (h0 : h % 3 = 2) (hmo : m ≤ 255) (hno : n ≤ 255) (hle : n < m) (w : World) (hG : Gl w) :
    Calls Tryd.prog 5 #[.int .u16 (m : Int), .int .u16 (n : Int), .int .u8 (h : Int)] w fun e w' => e = .returned (.bool true) ∧ Below w.heap.size w w' := by
  have haw := awake4_any w hG
  have hnil : ∀ w : World, (binOp BinOp.eql 25 .nilIface .nilIface).run Tryd.prog w = .ok (.bool true) w := fun _ => by kernel_rfl
  have Wm : IntKind.i64.wrap (m : Int) = (m : Int) := IntWalk.i64_in _ (by omega)
  have Wk : IntKind.i64.wrap (n : Int) = (n : Int) := IntWalk.i64_in _ (by omega)
  have HDg := Lib.hid (digits_any m hm)
  have HDn := Lib.hid (digits_any n hn)
  have r1 : (((h : Int) % 3) == 1) = false := by first | (simp; done) | (simp; omega)
  have r2 : (((h : Int) % 3) == 2) = true := by first | (simp; done) | (simp; omega)
  have q0 : decide ((255 : Int) < (m : Int)) = false := by first | (simp; done) | (simp; omega)
  have q1 : decide (255 < m) = false := by first | (simp; done) | (simp; omega)
  have q2 : decide ((255 : Int) < (n : Int)) = false := by first | (simp; done) | (simp; omega)
  have q3 : decide (255 < n) = false := by first | (simp; done) | (simp; omega)
  have q4 : decide ((0 : Int) ≤ (n : Int)) = true := by first | (simp; done) | (simp; omega)
  have q5 : decide ((n : Int) < (m : Int)) = true := by first | (simp; done) | (simp; omega)
  have q6 : decide (n < m) = true := by first | (simp; done) | (simp; omega)
  have hl1 := dec_five m hm
  have hl2 := dec_five n hn
  have HL1 := Lib.hid hl1
  have HL2 := Lib.hid hl2
  have hi : ivl (ivclo false) (dec m ++ (44 :: (dec n ++ [92, 125]))) = none := (ivl_two m n hmo).trans (if_neg (fun hh => by omega))
  have hul : 3 + (dec m ++ (44 :: (dec n ++ [92, 125]))).length ≤ 250 := by simp; omega
  have HI := Lib.hid hi
  have HUL := Lib.hid hul
  clear hi hul hl1 hl2 hm hn h0 hmo hno hle
  go_enter Tryd.func5, Tryd.ntmps5
  go_wp2_with fail
  refine haw.mono ?_
  rintro e w1 ⟨rfl, hW⟩
  have HGl := Lib.hid (hG.up hW)
  clear haw hG
  go_wp2_with fail
  refine (HDg.out _).mono ?_
  rintro e w2 ⟨t1, rfl, ht1, rfl⟩
  have HT1 := Lib.hid ht1
  have hs0 : t1.data.toList.length ≤ 5 := by rw [ht1]; exact HL1.out
  have hs1 : t1.size ≤ 5 := by simpa using hs0
  clear ht1 hs0
  go_wp2_with fail
  refine (HDn.out _).mono ?_
  rintro e w2 ⟨t2, rfl, ht2, rfl⟩
  have HT2 := Lib.hid ht2
  have hs0 : t2.data.toList.length ≤ 5 := by rw [ht2]; exact HL2.out
  have hs2 : t2.size ≤ 5 := by simpa using hs0
  clear ht2 hs0
  have hS := cat_two t1 t2 m n HT1.out HT2.out
  have hp := bnd_no _ _ hS HUL.out HI.out w1 HGl.out
  clear hS
  go_wp2_with fail
  refine hp.mono ?_
  rintro e w3 ⟨rfl, b3⟩
  have hW3 := hW.trans (b3.mono hW.size)
  clear hp b3
  go_wp2_with fail
  go_ret
  exact ⟨rfl, hW3⟩
theorem bbounds_any (m n h : Nat) (hm : m ≤ 65535) (hn : n ≤ 65535) (w : World) (hG : Gl w) :
    Calls Tryd.prog 5 #[.int .u16 (m : Int), .int .u16 (n : Int), .int .u8 (h : Int)] w fun e w' => e = .returned (.bool true) ∧ Below w.heap.size w w' := by
  have h3 : h % 3 = 0 ∨ h % 3 = 1 ∨ h % 3 = 2 := by omega
  rcases h3 with h0 | h0 | h0
  · by_cases hmo : m ≤ 255
    · exact bb0_ok m n h hm hn h0 hmo w hG
    · exact bb0_bad m n h hm hn h0 (by omega) w hG
  · by_cases hmo : m ≤ 255
    · exact bb1_ok m n h hm hn h0 hmo w hG
    · exact bb1_bad m n h hm hn h0 (by omega) w hG
  · by_cases hmo : m ≤ 255
    · by_cases hno : n ≤ 255
      · by_cases hle : m ≤ n
        · exact bb2_ok m n h hm hn h0 hmo hno hle w hG
        · exact bb2_b3 m n h hm hn h0 hmo hno (by omega) w hG
      · exact bb2_b2 m n h hm hn h0 hmo (by omega) w hG
    · exact bb2_b1 m n h hm hn h0 (by omega) w hG
theorem bbounds_int (a : Int) (a0 : 0 ≤ a) (a1 : a ≤ 65535) (b : Int) (b0 : 0 ≤ b) (b1 : b ≤ 65535) (c : Int) (c0 : 0 ≤ c) (_ : c ≤ 255) (w : World) (hG : Gl w) :
    Calls Tryd.prog 5 #[.int .u16 a, .int .u16 b, .int .u8 c] w fun e w' => e = .returned (.bool true) ∧ Below w.heap.size w w' := by
  obtain ⟨m, rfl⟩ : ∃ m : Nat, a = m := ⟨a.toNat, by omega⟩
  obtain ⟨n, rfl⟩ : ∃ n : Nat, b = n := ⟨b.toNat, by omega⟩
  obtain ⟨h, rfl⟩ : ∃ h : Nat, c = h := ⟨c.toNat, by omega⟩
  exact bbounds_any m n h (by omega) (by omega) w hG
end Go.Proofs.YtbbcjclkklmoaaaDoor
