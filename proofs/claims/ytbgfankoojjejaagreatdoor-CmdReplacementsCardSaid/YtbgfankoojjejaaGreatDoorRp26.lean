/- The proof's texts PcB, AdWb: what the claim reaches of them. -/
import Derived.Test.YtbgfankoojjejaaGreatDoorRp25
import Derived.Deep.LoopGhost
import Derived.Test.YtbgfankoojjejaaGreatDoorRp06
import Derived.Test.YtbgfankoojjejaaGreatDoorRp17
import Derived.Test.YtbgfankoojjejaaGreatDoorRp24
import Derived.Test.YtbgfankoojjejaaGreatDoorRp18
set_option linter.unusedSimpArgs false
set_option linter.unusedVariables false
set_option maxHeartbeats 8000000
set_option maxRecDepth 1000000
namespace Go.Proofs.YtbgfankoojjejaaGreatDoor
open Go.RowKit
theorem bat_below {T e : TypeId} {B b : Nat} {p : Value} {bs : List Value} {W W' : World} (h : Lib.BuilderAtF T e B b p bs W) (hb : Below W.heap.size W W') : Lib.BuilderAtF T e B b p bs W' := by
 obtain ⟨hB, v, hv, ⟨hl, hr⟩, hne⟩ := h
 refine ⟨hB, v, by rw [hb.block b (Array.getElem?_eq_some_iff.1 hv).1]; exact hv, ⟨hl, ?_⟩, hne⟩
 rcases hr with h | ⟨g, cap, cur, fz, h1, h2, h3, h4⟩
 ·exact .inl h
 ·exact .inr ⟨g, cap, cur, fz, h1, h2, by rw [hb.block g (Array.getElem?_eq_some_iff.1 h3).1]; exact h3, h4⟩
theorem isb_below {T e : TypeId} {B b : Nat} {bs : List Value} {W W' : World} (h : Lib.IsBuilderF T e B b bs W) (hb : Below W.heap.size W W') : Lib.IsBuilderF T e B b bs W' :=
 h.elim (fun x => .inl (bat_below x hb)) (fun x => .inr (bat_below x hb))
structure GP (w : World) : Prop where
 c0 : w.cell? ⟨0, 0, none⟩ = some (.int .u8 94)
 c1 : w.cell? ⟨0, 1, none⟩ = some (.int .u8 93)
 lt : 0 < w.heap.size
theorem GP.below {w w' : World} {B : Nat} (h : GP w) (hb : Below B w w') (hB : 0 < B) : GP w' :=
 ⟨(hb.cell (p := ⟨0, 0, none⟩) hB).trans h.c0, (hb.cell (p := ⟨0, 1, none⟩) hB).trans h.c1, Nat.lt_of_lt_of_le h.lt hb.size⟩
theorem GP.up {w w' : World} (h : GP w) (hb : Below w.heap.size w w') : GP w' := h.below hb h.lt
theorem txt_eq {s : ByteArray} {l : List UInt8} (h : s.data.toList = l) : s = txt l := by rw [← h, txt_of]
theorem pescaped_at (s : ByteArray) (k : Nat) (d : UInt8) (rx : Bool) (w : World) (hs : s.size ≤ 4000000) (hk : k < s.size) (h92 : s[k] = 92) :
  Calls Tryz.prog 83 #[.string s, .int .i64 k, .int .u8 d.toNat, .bool rx] w fun e w' => e = pcA (pcPart d rx 92 (s.data.toList.drop (k + 1)) k) ∧ Below w.heap.size w w' := by
 have W2 : IntKind.i64.wrap ((k : Int) + 2) = (k : Int) + 2 := IntWalk.i64_in _ (by omega)
 have W1 : IntKind.i64.wrap ((k : Int) + 1) = (k : Int) + 1 := IntWalk.i64_in _ (by omega)
 obtain ⟨R, hR⟩ : ∃ R, pcPart d rx 92 (s.data.toList.drop (k + 1)) k = R := ⟨_, rfl⟩
 rw [hR]
 have HR := Lib.hid hR
 have H92 := Lib.hid h92
 clear hR h92
 go_enter Tryz.func83, Tryz.ntmps83
 by_cases hend : k + 1 < s.size
 ·have c1 : ¬ (s.size : Int) < (k : Int) + 2 := by omega
  have c1' : (k : Int) + 2 ≤ (s.size : Int) := by omega
  have i1 : (k : Int) + 1 < (s.size : Int) := by omega
  have hd := Lib.hid (drop_at s (k + 1) hend)
  have hl1 := Lib.hid (extract_list2 s k (k + 2))
  have hl2 := Lib.hid (extract_list2 s (k + 1) (k + 2))
  have hd0 := Lib.hid (drop_at s k hk)
  obtain ⟨x, hx⟩ : ∃ x, s[k + 1] = x := ⟨_, rfl⟩
  have Hx := Lib.hid hx
  have Hpart := Lib.hid (show R = if x = d then ([x], k + 2, 0) else if (x == 10 && rx) = true then ([], k + 1, 2) else ([92, x], k + 2, 0) by
   rw [← HR.out, hd.out, Hx.out]; rfl)
  by_cases hxd : x = d
  ·have q : ((s[k + 1].toNat : Int) == (d.toNat : Int)) = true := by rw [hx, hxd]; simp
   have Hxd := Lib.hid hxd
   clear hx hxd
   go_wp2
   go_ret3
   refine ⟨?_, Below.refl _ _⟩
   rw [Hpart.out, if_pos Hxd.out]
   exact pcA_mk (txt_eq (by rw [hl2.out, hd.out, Hx.out, show k + 2 - (k + 1) = 1 by omega]; rfl)) rfl rfl
  ·have q : ((s[k + 1].toNat : Int) == (d.toNat : Int)) = false := beq_eq_false_iff_ne.2 fun h => hxd (by rw [← hx]; exact UInt8.toNat_inj.1 (by omega))
   have Hxd := Lib.hid hxd
   clear hxd
   by_cases h10 : x = 10
   ·have q10 : ((s[k + 1].toNat : Int) == 10) = true := by rw [hx, h10]; rfl
    have H10 := Lib.hid h10
    clear hx h10
    cases rx
    ·go_wp2
     go_ret3
     refine ⟨?_, Below.refl _ _⟩
     rw [Hpart.out, if_neg Hxd.out, if_neg (by simp)]
     exact pcA_mk (txt_eq (by rw [hl1.out, hd0.out, hd.out, Hx.out, show k + 2 - k = 2 by omega, H92.out]; rfl)) rfl rfl
    ·go_wp2
     go_ret3
     refine ⟨?_, Below.refl _ _⟩
     rw [Hpart.out, if_neg Hxd.out, if_pos (by rw [H10.out]; rfl)]
     rfl
   ·have q10 : ((s[k + 1].toNat : Int) == 10) = false := beq_eq_false_iff_ne.2 fun h => h10 (by rw [← hx]; exact UInt8.toNat_inj.1 (by show s[k + 1].toNat = 10; omega))
    have H10 := Lib.hid h10
    clear hx h10
    go_wp2
    go_ret3
    refine ⟨?_, Below.refl _ _⟩
    rw [Hpart.out, if_neg Hxd.out, if_neg (by simp [H10.out])]
    exact pcA_mk (txt_eq (by rw [hl1.out, hd0.out, hd.out, Hx.out, show k + 2 - k = 2 by omega, H92.out]; rfl)) rfl rfl
 ·have c1 : (s.size : Int) < (k : Int) + 2 := by omega
  have hd := Lib.hid (drop_end s (k + 1) (by omega))
  have hse : (s.size : Int) = ((k + 1 : Nat) : Int) := by omega
  have Hse := Lib.hid hse
  clear hse hend
  go_wp2
  go_ret3
  refine ⟨?_, Below.refl _ _⟩
  rw [← HR.out, hd.out]
  exact pcA_mk rfl Hse.out rfl
def pcAh (t : List UInt8) (i : Nat) : Nat := if i = 0 then 0 else if i = 1 then pcOpt 94 t else pcAhead t
theorem pcAh_le (t : List UInt8) (i : Nat) : pcAh t i ≤ t.length := by
 unfold pcAh
 split
 ·omega
 ·split
  ·exact pcOpt_le 94 t
  ·exact pcAhead_le t
theorem pcOpt_no {c : UInt8} {s : ByteArray} {p : Nat} (h : s.size ≤ p) : pcOpt c (s.data.toList.drop p) = 0 := by rw [drop_end s p h]; rfl
theorem pcOpt_yes {c : UInt8} {s : ByteArray} {p : Nat} (h : p < s.size) (hc : s[p] = c) : pcOpt c (s.data.toList.drop p) = 1 := by rw [drop_at s p h]; simp [pcOpt, hc]
theorem pcOpt_not {c : UInt8} {s : ByteArray} {p : Nat} (h : p < s.size) (hc : ¬ s[p] = c) : pcOpt c (s.data.toList.drop p) = 0 := by rw [drop_at s p h]; simp [pcOpt, hc]
theorem pcAh_succ (t : List UInt8) (i : Nat) (c : UInt8) (h : (i = 0 ∧ c = 94) ∨ (i = 1 ∧ c = 93)) : pcAh t (i + 1) = pcAh t i + pcOpt c (t.drop (pcAh t i)) := by
 rcases h with ⟨rfl, rfl⟩ | ⟨rfl, rfl⟩
 ·simp [pcAh]
 ·simp [pcAh, pcAhead]
theorem ahead_index0 (a b : Int) (w : World) : (Instr.index 197 (.agg #[.int .u8 a, .int .u8 b]) (.int .i64 0)).run Tryz.prog w = .ok (.int .u8 a) w := by kernel_rfl
theorem ahead_index1 (a b : Int) (w : World) : (Instr.index 197 (.agg #[.int .u8 a, .int .u8 b]) (.int .i64 1)).run Tryz.prog w = .ok (.int .u8 b) w := by kernel_rfl
theorem pbracketEnd_at (s : ByteArray) (k : Nat) (w : World) (hs : s.size ≤ 4000000) (hk : k < s.size) (hG : GP w) :
  Calls Tryz.prog 84 #[.string s, .int .i64 k] w fun e w' => e = .returned (.int .i64 ((k + pcBrk (s.data.toList.drop (k + 1)) : Nat) : Int)) ∧ Below w.heap.size w w' := by
 have W1 : IntKind.i64.wrap ((k : Int) + 1) = (k : Int) + 1 := IntWalk.i64_in _ (by omega)
 have g0 := hG.c0
 have g1 := hG.c1
 have htl : (s.data.toList.drop (k + 1)).length = s.size - (k + 1) := by rw [List.length_drop, ← size_list]
 obtain ⟨R, hR⟩ : ∃ R, k + pcBrk (s.data.toList.drop (k + 1)) = R := ⟨_, rfl⟩
 rw [hR]
 have HR := Lib.hid hR
 clear hR
 go_enter Tryz.func84, Tryz.ntmps84
 go_wp2
 go_loopg [1, 6, 11] 2 (fun g a _ j wx => ∃ i : Nat, i + g = 2 ∧ j = .int .i64 i ∧ a = .int .i64 ((k + 1 + pcAh (s.data.toList.drop (k + 1)) i : Nat) : Int) ∧ wx = w)
 case atStart => exact ⟨0, by omega, rfl, by simp [pcAh], rfl⟩
 case round =>
  obtain ⟨i, hig, rfl, rfl, rfl⟩ := hrel
  have hah := pcAh_le (s.data.toList.drop (k + 1)) i
  obtain ⟨p, hp⟩ : ∃ p, k + 1 + pcAh (s.data.toList.drop (k + 1)) i = p := ⟨_, rfl⟩
  rw [hp]
  have hps : p ≤ s.size := by omega
  cases gk with
  | zero =>
   obtain rfl : i = 2 := by omega
   have hI := indexByte_k (s.extract p s.size) 93 wr
   rw [extractEnd_list, index_len] at hI
   rw [show (((93 : UInt8).toNat : Nat) : Int) = 93 from rfl] at hI
   have hR2 : R = k + (1 + pcAhead (s.data.toList.drop (k + 1)) + min (pcLen (fun b => !(b == 93)) (s.data.toList.drop p) + 1) (s.data.toList.drop p).length) := by
    rw [← HR.out, pcBrk, List.drop_drop, ← hp]
    rfl
   rw [show pcAh (s.data.toList.drop (k + 1)) 2 = pcAhead (s.data.toList.drop (k + 1)) from rfl] at hp
   have hle := pcLen_le (fun b => !(b == 93)) (s.data.toList.drop p)
   have hlen : (s.data.toList.drop p).length = s.size - p := by rw [List.length_drop, ← size_list]
   rw [hlen] at hI hR2 hle
   generalize pcLen (fun b => !(b == 93)) (s.data.toList.drop p) = m at hI hR2 hle
   have hps' : (p : Int) ≤ (s.size : Int) := by omega
   clear hlen hah
   by_cases hm : m < s.size - p
   ·rw [if_pos hm] at hI
    have h0 : (0 : Int) ≤ (m : Int) := by omega
    have Wa : IntKind.i64.wrap ((p : Int) + (m : Int)) = (p : Int) + (m : Int) := IntWalk.i64_in _ (by omega)
    have Wb : IntKind.i64.wrap ((p : Int) + (m : Int) + 1) = (p : Int) + (m : Int) + 1 := IntWalk.i64_in _ (by omega)
    have hRi : (R : Int) = (p : Int) + (m : Int) + 1 := by omega
    have HRi := Lib.hid hRi
    clear hRi hR2 hp
    go_wp2_with (go_at_call 85; refine hI.mono ?_; rintro e w1 ⟨rfl, rfl⟩)
    go_ret
    exact ⟨by rw [HRi.out]; rfl, Below.refl _ _⟩
   ·rw [if_neg hm] at hI
    have hRi : (R : Int) = (s.size : Int) := by omega
    have HRi := Lib.hid hRi
    clear hRi hR2 hp
    go_wp2_with (go_at_call 85; refine hI.mono ?_; rintro e w1 ⟨rfl, rfl⟩)
    go_ret
    exact ⟨by rw [HRi.out]; rfl, Below.refl _ _⟩
  | succ g =>
   have e0 := fun w => ahead_index0 94 93 w
   have e1 := fun w => ahead_index1 94 93 w
   rcases (by omega : i = 0 ∨ i = 1) with rfl | rfl
   ·obtain rfl : g = 1 := by omega
    have hnx : pcAh (s.data.toList.drop (k + 1)) 1 = pcAh (s.data.toList.drop (k + 1)) 0 + pcOpt 94 ((s.data.toList.drop (k + 1)).drop (pcAh (s.data.toList.drop (k + 1)) 0)) := pcAh_succ _ 0 94 (by simp)
    rw [List.drop_drop, hp] at hnx
    have Hnx := Lib.hid hnx
    have Hp := Lib.hid hp
    clear hnx hp hah
    by_cases hlt : p < s.size
    ·have hlti : (p : Int) < (s.size : Int) := by omega
     by_cases hx : s[p] = 94
     ·have q : ((s[p].toNat : Int) == 94) = true := by rw [hx]; rfl
      have Ho := Lib.hid (pcOpt_yes (c := 94) hlt hx)
      have W3 : IntKind.i64.wrap ((p : Int) + 1) = (p : Int) + 1 := IntWalk.i64_in _ (by omega)
      clear hx
      go_wp2
      go_roundg 1
      case measure => omega
      case rel => exact ⟨1, by omega, rfl, congrArg (Value.int .i64) (by have h1 := Hnx.out; rw [Ho.out] at h1; have h2 := Hp.out; omega), rfl⟩
     ·have q : ((s[p].toNat : Int) == 94) = false := beq_eq_false_iff_ne.2 fun h => hx (UInt8.toNat_inj.1 (by show s[p].toNat = 94; omega))
      have Ho := Lib.hid (pcOpt_not (c := 94) hlt hx)
      clear hx
      go_wp2
      go_roundg 1
      case measure => omega
      case rel => exact ⟨1, by omega, rfl, congrArg (Value.int .i64) (by have h1 := Hnx.out; rw [Ho.out] at h1; have h2 := Hp.out; omega), rfl⟩
    ·have hlti : ¬ (p : Int) < (s.size : Int) := by omega
     have Ho := Lib.hid (pcOpt_no (c := 94) (s := s) (p := p) (by omega))
     go_wp2
     go_roundg 1
     case measure => omega
     case rel => exact ⟨1, by omega, rfl, congrArg (Value.int .i64) (by have h1 := Hnx.out; rw [Ho.out] at h1; have h2 := Hp.out; omega), rfl⟩
   ·obtain rfl : g = 0 := by omega
    have hnx : pcAh (s.data.toList.drop (k + 1)) 2 = pcAh (s.data.toList.drop (k + 1)) 1 + pcOpt 93 ((s.data.toList.drop (k + 1)).drop (pcAh (s.data.toList.drop (k + 1)) 1)) := pcAh_succ _ 1 93 (by simp)
    rw [List.drop_drop, hp] at hnx
    have Hnx := Lib.hid hnx
    have Hp := Lib.hid hp
    clear hnx hp hah
    by_cases hlt : p < s.size
    ·have hlti : (p : Int) < (s.size : Int) := by omega
     by_cases hx : s[p] = 93
     ·have q : ((s[p].toNat : Int) == 93) = true := by rw [hx]; rfl
      have Ho := Lib.hid (pcOpt_yes (c := 93) hlt hx)
      have W3 : IntKind.i64.wrap ((p : Int) + 1) = (p : Int) + 1 := IntWalk.i64_in _ (by omega)
      clear hx
      go_wp2
      go_roundg 0
      case measure => omega
      case rel => exact ⟨2, by omega, rfl, congrArg (Value.int .i64) (by have h1 := Hnx.out; rw [Ho.out] at h1; have h2 := Hp.out; omega), rfl⟩
     ·have q : ((s[p].toNat : Int) == 93) = false := beq_eq_false_iff_ne.2 fun h => hx (UInt8.toNat_inj.1 (by show s[p].toNat = 93; omega))
      have Ho := Lib.hid (pcOpt_not (c := 93) hlt hx)
      clear hx
      go_wp2
      go_roundg 0
      case measure => omega
      case rel => exact ⟨2, by omega, rfl, congrArg (Value.int .i64) (by have h1 := Hnx.out; rw [Ho.out] at h1; have h2 := Hp.out; omega), rfl⟩
    ·have hlti : ¬ (p : Int) < (s.size : Int) := by omega
     have Ho := Lib.hid (pcOpt_no (c := 93) (s := s) (p := p) (by omega))
     go_wp2
     go_roundg 0
     case measure => omega
     case rel => exact ⟨2, by omega, rfl, congrArg (Value.int .i64) (by have h1 := Hnx.out; rw [Ho.out] at h1; have h2 := Hp.out; omega), rfl⟩
theorem pparsePart_at (s : ByteArray) (k : Nat) (d : UInt8) (rx : Bool) (w : World) (hs : s.size ≤ 4000000) (hk : k < s.size) (hG : GP w) :
  Calls Tryz.prog 61 #[.string s, .int .i64 k, .int .u8 d.toNat, .bool rx] w fun e w' => e = pcA (pcPart d rx s[k] (s.data.toList.drop (k + 1)) k) ∧ Below w.heap.size w w' := by
 have hki : (k : Int) < (s.size : Int) := by omega
 by_cases h92 : s[k] = 92
 ·have hE := pescaped_at s k d rx w hs hk h92
  rw [← h92] at hE
  have q : ((s[k].toNat : Int) == 92) = true := by rw [h92]; rfl
  clear h92
  generalize pcPart d rx s[k] (s.data.toList.drop (k + 1)) k = R at hE ⊢
  go_enter Tryz.func61, Tryz.ntmps61
  go_wp2_with (go_at_call 83; refine hE.mono ?_; rintro e w1 ⟨rfl, hb⟩)
  go_ret3
  exact ⟨rfl, hb⟩
 ·have q : ((s[k].toNat : Int) == 92) = false := beq_eq_false_iff_ne.2 fun h => h92 (UInt8.toNat_inj.1 (by show s[k].toNat = 92; omega))
  have hB := pbracketEnd_at s k w hs hk hG
  have hcc : ∀ m, (if (rx && s[k] == 91) = true then pcBrk (s.data.toList.drop (k + 1)) else 1) = m → 1 ≤ m ∧ k + m ≤ s.size →
    ∀ W, Calls Tryz.prog 85 #[.string (s.extract k (k + m)), .int .u8 10] W fun e w' => e = .returned (.int .i64 (if pcLen (fun b => !(b == 10)) ((s[k] :: s.data.toList.drop (k + 1)).take m) < m then (pcLen (fun b => !(b == 10)) ((s[k] :: s.data.toList.drop (k + 1)).take m) : Int) else -1)) ∧ w' = W := fun m _ hm W => by
   have h := indexByte_k (s.extract k (k + m)) 10 W
   rw [extract_list2, index_len, show k + m - k = m by omega, drop_at s k hk] at h
   rw [show (((s[k] :: s.data.toList.drop (k + 1)).take m).length) = m by rw [List.length_take, List.length_cons, List.length_drop, ← size_list]; omega] at h
   exact h
  have htx : ∀ m, (s.extract k (k + m)).data.toList = (s[k] :: s.data.toList.drop (k + 1)).take m := fun m => by rw [extract_list2, show k + m - k = m by omega, drop_at s k hk]
  have hbl := pcBrk_le (s.data.toList.drop (k + 1))
  have hbp := pcBrk_pos (s.data.toList.drop (k + 1))
  rw [List.length_drop, ← size_list] at hbl
  have Htx := Lib.hid htx
  have Hcc := Lib.hid hcc
  clear htx hcc
  obtain ⟨R, hR⟩ : ∃ R, pcPart d rx s[k] (s.data.toList.drop (k + 1)) k = R := ⟨_, rfl⟩
  rw [hR]
  have HR := Lib.hid (show R = (let m := if (rx && s[k] == 91) = true then pcBrk (s.data.toList.drop (k + 1)) else 1
   let i := pcLen (fun b => !(b == 10)) ((s[k] :: s.data.toList.drop (k + 1)).take m)
   if i < m then ([], k + i, 2) else ((s[k] :: s.data.toList.drop (k + 1)).take m, k + m, 0)) by rw [← hR]; unfold pcPart; rw [if_neg h92])
  clear hR h92
  have Wk : IntKind.i64.wrap ((k : Int) + 1) = (k : Int) + 1 := IntWalk.i64_in _ (by omega)
  have tail : ∀ m, (if (rx && s[k] == 91) = true then pcBrk (s.data.toList.drop (k + 1)) else 1) = m → 1 ≤ m ∧ k + m ≤ s.size →
    ∃ i : Nat, i ≤ m ∧ (∀ W, Calls Tryz.prog 85 #[.string (s.extract k (k + m)), .int .u8 10] W fun e w' => e = .returned (.int .i64 (if i < m then (i : Int) else -1)) ∧ w' = W) ∧
     Hid (R = if i < m then ([], k + i, 2) else ((s[k] :: s.data.toList.drop (k + 1)).take m, k + m, 0)) := fun m hm1 hm2 => by
   refine ⟨pcLen (fun b => !(b == 10)) ((s[k] :: s.data.toList.drop (k + 1)).take m), ?_, Hcc.out m hm1 hm2, Lib.hid (by rw [HR.out]; simp only [hm1])⟩
   have := pcLen_le (fun b => !(b == 10)) ((s[k] :: s.data.toList.drop (k + 1)).take m)
   have h2 := List.length_take_le m (s[k] :: s.data.toList.drop (k + 1))
   omega
  clear HR Hcc
  by_cases h91 : (rx && s[k] == 91) = true
  ·obtain ⟨i, hi, hI, HR⟩ := tail _ (if_pos h91) (by omega)
   clear tail
   simp only [Bool.and_eq_true] at h91
   obtain ⟨rfl, h91⟩ := h91
   have q91 : ((s[k].toNat : Int) == 91) = true := by rw [eq_of_beq h91]; rfl
   clear h91
   generalize pcBrk (s.data.toList.drop (k + 1)) = m at *
   have hm1 : (k : Int) ≤ ((k + m : Nat) : Int) := by omega
   have hm2 : ((k + m : Nat) : Int) ≤ (s.size : Int) := by omega
   obtain ⟨E, hE⟩ : ∃ E, k + m = E := ⟨_, rfl⟩
   rw [hE] at hB hI hm1 hm2 HR
   have hkE : k ≤ E := by omega
   go_enter Tryz.func61, Tryz.ntmps61
   by_cases him : i < m
   ·rw [if_pos him] at hI
    have h0 : (0 : Int) ≤ (i : Int) := by omega
    have Wi : IntKind.i64.wrap ((k : Int) + (i : Int)) = (k : Int) + (i : Int) := IntWalk.i64_in _ (by omega)
    have HRi := Lib.hid (show R = ([], k + i, 2) by rw [HR.out, if_pos him])
    clear HR him hE
    go_wp2_with (first
     | (go_at_call 84; refine hB.mono ?_; rintro e w1 ⟨rfl, hb⟩)
     | (go_at_call 85; refine (hI _).mono ?_; rintro e w2 ⟨rfl, rfl⟩))
    go_ret3
    refine ⟨?_, hb⟩
    rw [HRi.out]
    exact pcA_mk rfl (by show (k : Int) + (i : Int) = ((k + i : Nat) : Int); omega) rfl
   ·rw [if_neg him] at hI
    have HRi := Lib.hid (show R = ((s[k] :: s.data.toList.drop (k + 1)).take m, E, 0) by rw [HR.out, if_neg him])
    have HE := Lib.hid hE
    clear HR him hE
    go_wp2_with (first
     | (go_at_call 84; refine hB.mono ?_; rintro e w1 ⟨rfl, hb⟩)
     | (go_at_call 85; refine (hI _).mono ?_; rintro e w2 ⟨rfl, rfl⟩))
    go_ret3
    refine ⟨?_, hb⟩
    rw [HRi.out]
    exact pcA_mk (txt_eq (by rw [← HE.out]; exact Htx.out m)) rfl rfl
  ·obtain ⟨i, hi, hI, HR⟩ := tail _ (if_neg h91) (by omega)
   clear tail hB hbl hbp hG
   have q91 : rx = true → ((s[k].toNat : Int) == 91) = false := fun hrx => by
    subst hrx
    exact beq_eq_false_iff_ne.2 fun h => h91 (by
     have : s[k] = 91 := UInt8.toNat_inj.1 (by show s[k].toNat = 91; omega)
     rw [this]; rfl)
   clear h91
   obtain ⟨E, hE⟩ : ∃ E, k + 1 = E := ⟨_, rfl⟩
   rw [hE] at hI HR
   have hEi : ((k : Int) + 1) = (E : Int) := by omega
   rw [hEi] at Wk
   have Wk' : IntKind.i64.wrap ((k : Int) + 1) = (E : Int) := by rw [hEi]; exact Wk
   have hm1 : (k : Int) ≤ (E : Int) := by omega
   have hm2 : (E : Int) ≤ (s.size : Int) := by omega
   have hkE : k ≤ E := by omega
   have HE := Lib.hid hE
   clear hE hEi Wk
   by_cases him : i < 1
   ·rw [if_pos him] at hI
    have h0 : (0 : Int) ≤ (i : Int) := by omega
    have Wi : IntKind.i64.wrap ((k : Int) + (i : Int)) = (k : Int) + (i : Int) := IntWalk.i64_in _ (by omega)
    have HRi := Lib.hid (show R = ([], k + i, 2) by rw [HR.out, if_pos him])
    clear HR him
    go_enter Tryz.func61, Tryz.ntmps61
    cases rx
    ·go_wp2_with (go_at_call 85; refine (hI _).mono ?_; rintro e w2 ⟨rfl, rfl⟩)
     go_ret3
     refine ⟨?_, Below.refl _ _⟩
     rw [HRi.out]
     exact pcA_mk rfl (by show (k : Int) + (i : Int) = ((k + i : Nat) : Int); omega) rfl
    ·have q91' := q91 rfl
     clear q91
     go_wp2_with (go_at_call 85; refine (hI _).mono ?_; rintro e w2 ⟨rfl, rfl⟩)
     go_ret3
     refine ⟨?_, Below.refl _ _⟩
     rw [HRi.out]
     exact pcA_mk rfl (by show (k : Int) + (i : Int) = ((k + i : Nat) : Int); omega) rfl
   ·rw [if_neg him] at hI
    have HRi := Lib.hid (show R = ((s[k] :: s.data.toList.drop (k + 1)).take 1, E, 0) by rw [HR.out, if_neg him]; rfl)
    clear HR him
    go_enter Tryz.func61, Tryz.ntmps61
    cases rx
    ·go_wp2_with (go_at_call 85; refine (hI _).mono ?_; rintro e w2 ⟨rfl, rfl⟩)
     go_ret3
     refine ⟨?_, Below.refl _ _⟩
     rw [HRi.out]
     exact pcA_mk (txt_eq (by rw [← HE.out]; exact Htx.out 1)) rfl rfl
    ·have q91' := q91 rfl
     clear q91
     go_wp2_with (go_at_call 85; refine (hI _).mono ?_; rintro e w2 ⟨rfl, rfl⟩)
     go_ret3
     refine ⟨?_, Below.refl _ _⟩
     rw [HRi.out]
     exact pcA_mk (txt_eq (by rw [← HE.out]; exact Htx.out 1)) rfl rfl
theorem pbetween_at (s : ByteArray) (k : Nat) (d : UInt8) (rx : Bool) (w : World) (hs : s.size ≤ 4000000) (hk : k ≤ s.size) (hG : GP w) :
  Calls Tryz.prog 43 #[.string s, .int .i64 k, .int .u8 d.toNat, .bool rx] w fun e w' => e = pcA (pcBtw d rx s.data.toList (s.size + 1) k []) ∧ Below w.heap.size w w' := by
 have hP := place_yes s k w hk
 obtain ⟨R, hR⟩ : ∃ R, pcBtw d rx s.data.toList (s.size + 1) k [] = R := ⟨_, rfl⟩
 rw [hR]
 have HR := Lib.hid hR
 clear hR
 go_enter Tryz.func43, Tryz.ntmps43
 go_wp2_with (go_at_call 51; refine hP.mono ?_; rintro e w' ⟨rfl, rfl⟩)
 clear hP
 go_loopw [1, 12, 13, 14] (fun i _ _ _ wr => ∃ (p n : Nat) (acc : List UInt8), p ≤ s.size ∧ s.size < p + n ∧ i = .int .i64 p ∧ Lib.IsBuilderF 102 5 w'.heap.size w'.heap.size (Lib.byteCells acc) wr ∧ Below w'.heap.size w' wr ∧ acc.length ≤ p ∧ pcBtw d rx s.data.toList n p acc = R) (fun i _ _ _ _ => s.size - (intOf i).toNat)
 case atStart => exact ⟨k, s.size + 1, [], hk, by omega, rfl, Lib.IsBuilderF.of (Lib.fresh_isBuilder 102 5 w'), (Below.refl _ w').alloc (Nat.le_refl _) _, by simp, HR.out⟩
 case round =>
  obtain ⟨p, n, acc, hp, hn, rfl, hI, hbw, hal, hacc⟩ := hrel
  obtain ⟨n, rfl⟩ : ∃ m, n = m + 1 := ⟨n - 1, by omega⟩
  have HA := Lib.hid hacc
  clear hacc
  have hsz := hbw.size
  by_cases hlt : p < s.size
  ·have hlti : (p : Int) < (s.size : Int) := by omega
   have Hd := Lib.hid (drop_at s p hlt)
   by_cases hc : s[p] = d
   ·have q : ((s[p].toNat : Int) == (d.toNat : Int)) = true := by rw [hc]; simp
    have Hc := Lib.hid hc
    clear hc
    have Wp : IntKind.i64.wrap ((p : Int) + 1) = (p : Int) + 1 := IntWalk.i64_in _ (by omega)
    have hS := builderString_k w'.heap.size w'.heap.size acc wr hI hsz
    go_wp2_with (go_at_call 55; refine hS.mono ?_; rintro e W2 ⟨rfl, _, b2, _⟩)
    go_ret3
    refine ⟨?_, hbw.trans b2⟩
    rw [← HA.out, pcBtw_del (t := s.data.toList.drop (p + 1)) (by rw [Hd.out, Hc.out])]
    rfl
   ·have q : ((s[p].toNat : Int) == (d.toNat : Int)) = false := beq_eq_false_iff_ne.2 fun h => hc (UInt8.toNat_inj.1 (by omega))
    have hPP := pparsePart_at s p d rx wr hs hlt (hG.below hbw hG.lt)
    obtain ⟨x, e, er, hx⟩ : ∃ x e er, pcPart d rx s[p] (s.data.toList.drop (p + 1)) p = (x, e, er) := ⟨_, _, _, rfl⟩
    rw [hx] at hPP
    have hxs := txt_size x
    by_cases her : er = 0
    ·subst her
     obtain ⟨h1, h2, h3⟩ := pcPart_ok hx
     rw [List.length_drop, ← size_list] at h2
     have Hn := Lib.hid (pcBtw_part (n := n) (acc := acc) (L := s.data.toList) (p := p) Hd.out hc hx)
     have hlen : (Lib.byteCells acc).length + (txt x).size ≤ 140737488355328 := by rw [Lib.byteCells_length]; omega
     clear hx hc
     go_wp2_with (first
      | (go_at_call 61; refine hPP.mono ?_; rintro e w1 ⟨rfl, b1⟩)
      | (go_at_call 62; refine (writeString_k w'.heap.size w'.heap.size _ _ _ (isb_below hI b1) hlen (Nat.le_trans hsz b1.size)).mono ?_; rintro e w2 ⟨rfl, h4, b2, _⟩))
     go_roundw
     case rel =>
      refine ⟨e, n, acc ++ x, by omega, by omega, rfl, ?_, (hbw.trans (b1.mono hsz)).trans b2, by simp; omega, by rw [← Hn.out]; exact HA.out⟩
      rw [Lib.byteCells_append]
      exact Or.inr h4
     case measure => simp [intOf]; omega
    ·obtain ⟨rfl, h2, h3⟩ := pcPart_err hx her
     have qe : (((er : Nat) : Int) != 0) = true := bne_iff_ne.2 (by omega)
     have Hn := Lib.hid (pcBtw_err (n := n) (acc := acc) (L := s.data.toList) (p := p) Hd.out hc her hx)
     clear hx hc h3 her
     go_wp2_with (first
      | (go_at_call 61; refine hPP.mono ?_; rintro e w1 ⟨rfl, b1⟩))
     go_ret3
     refine ⟨?_, hbw.trans (b1.mono hsz)⟩
     rw [← HA.out, Hn.out]
     rfl
  ·have hlti : ¬ (p : Int) < (s.size : Int) := by omega
   have Hd := Lib.hid (drop_end s p (by omega))
   go_wp2
   go_ret3
   refine ⟨?_, hbw⟩
   rw [← HA.out, pcBtw_nil Hd.out]
   exact pcA_mk rfl rfl rfl
end Go.Proofs.YtbgfankoojjejaaGreatDoor
namespace Go.Proofs.YtbgfankoojjejaaGreatDoor
open Go Go.RowKit
def DelA (w : World) (r : AdRd (List UInt8 × Nd)) (e : Ending) (w' : World) : Prop := Below w.heap.size w w' ∧ match r with
 | .error q => e = .returned (.tuple #[.agg #[.string ⟨#[]⟩, .nilIface, .slice none 0 0], .int .i64 (q.2 : Int), .int .i64 (q.1 : Int)])
 | .ok q => ∃ tv mv, e = .returned (.tuple #[.agg #[.string (txt q.1.1), tv, mv], .int .i64 (q.2.2 : Int), .int .i64 0]) ∧ NdX (fun b => w.heap.size ≤ b ∧ mv.ownBlock ≠ some b) w' q.1.2 tv ∧ w'.ownsRow w.heap.size 77 2 mv q.2.1.length (wmC q.2.1)
theorem delim_btw {ext : Bool} {L : List UInt8} {b : Nat} {d : UInt8} {t : List UInt8} {p e : Nat} (hb : b ≤ L.length) (h : pcBtw d true L (L.length + 1) b [] = (t, p, e)) :
  delimM ext L b d = if e = 0 then (if t = [] then .error (2, b) else match parseM ext t with | .error q => .error (q.1, b) | .ok q => .ok ((t, q.2), wmMove b (q.1.marks.map wmOf), p)) else .error (e, p) := by
 unfold delimM pcBetween
 rw [pcAt_at _ _ _ _ hb, h]
 rfl
theorem anyparse (ext : Bool) (s : ByteArray) (w : World) (hG : Gl w) : Calls Tryz.prog (if ext then 68 else 67) #[.string s] w fun e w' => PAns (parseM ext s.data.toList) w e w' := by
 cases ext
 ·exact bparse_any s w hG
 ·exact eparse_any s w hG
theorem pdelim_any (ext : Bool) (s : ByteArray) (b : Nat) (d : UInt8) (w : World) (hs : s.size ≤ 4000000) (hb : b ≤ s.size) (hG : Gl w) (hP : GP w) :
  Calls Tryz.prog 48 #[.string s, .int .i64 (b : Int), .int .u8 d.toNat, .bool ext] w (DelA w (delimM ext s.data.toList b d)) := by
 have hA := (Below.refl w.heap.size w).alloc (Nat.le_refl _) (.cells #[.string ⟨#[]⟩, .nilIface, .slice none 0 0] 93)
 have hR0 := Blk.new w #[.string ⟨#[]⟩, .nilIface, .slice none 0 0] 93 w.heap.size rfl
 obtain ⟨W, hW⟩ : ∃ W, w.alloc (.cells #[.string ⟨#[]⟩, .nilIface, .slice none 0 0] 93) = W := ⟨_, rfl⟩
 rw [hW] at hA hR0
 have hbt := pbetween_at s b d true W hs hb (hP.up hA)
 obtain ⟨⟨t, p, e0⟩, hR⟩ : ∃ R, pcBtw d true s.data.toList (s.size + 1) b [] = R := ⟨_, rfl⟩
 rw [hR] at hbt
 rw [delim_btw (ext := ext) (t := t) (p := p) (e := e0) (by rw [← size_list]; exact hb) (by rw [← size_list]; exact hR)]
 have HA := Lib.hid hA
 have HR0 := Lib.hid hR0
 have HG := Lib.hid (hG.up hA)
 clear hR hA hR0 hG hP
 obtain ⟨z0, z1, z2, v0, v1, v2, hz⟩ := blk3 HR0.out
 have hbt : Calls Tryz.prog 43 #[.string s, .int .i64 b, .int .u8 d.toNat, .bool true] W fun e w' => e = .returned (.tuple #[.string (txt t), .int .i64 (p : Int), .int .i64 (e0 : Int)]) ∧ Below W.heap.size W w' := hbt
 obtain ⟨T, hT⟩ : ∃ T, txt t = T := ⟨_, rfl⟩
 have hTl : T.data.toList = t := by rw [← hT, txt_list]
 have hT1 : T.toList.isEmpty = t.isEmpty := by rw [ByteArray.toList_eq, hTl]
 rw [hT] at hbt
 have HT := Lib.hid hTl
 have HTx := Lib.hid hT
 clear hTl hT
 by_cases he : e0 = 0
 ·subst he
  rw [if_pos rfl]
  by_cases ht : t = []
  ·rw [if_pos ht]
   have c1 : T.toList.isEmpty = true := by rw [hT1, ht]; rfl
   have c2 : T.toList = [] := List.isEmpty_iff.1 c1
   clear ht hT1
   go_enter Tryz.func48, Tryz.ntmps48
   go_wp2_with (go_at_call 43; refine hbt.mono ?_; clear hbt; rintro e w1 ⟨rfl, b1⟩; have B1 := Lib.hid (HA.out.trans (b1.mono HA.out.size)); have K1 := Lib.hid (HR0.out.below b1 HR0.out.lt); clear b1 z0 z1 z2 v0 v1 v2 hz; obtain ⟨z0, z1, z2, v0, v1, v2, hz⟩ := blk3 K1.out)
   first
    | (with_reducible refine post3 B1.out K1.out (Nat.le_refl _) ?_; intro w9 hB9 hk9 hs9 hz9)
    | (have hB9 := B1.out; have hk9 := K1.out; generalize w1 = w9 at *)
   clear z0 z1 z2 v0 v1 v2 hz
   obtain ⟨z0, z1, z2, _⟩ := blk3 hk9
   refine bodyPost_ret (v := .tuple #[.agg #[.string ⟨#[]⟩, .nilIface, .slice none 0 0], .int .i64 (b : Int), .int .i64 2]) (by simp [results, Tryz.results48, go_sem, z0, z1, z2]) rfl ?_
   exact ⟨hB9, rfl⟩
  ·rw [if_neg ht]
   have c1 : T.toList.isEmpty = false := by rw [hT1]; cases t <;> simp_all
   have c2 : ¬ T.toList = [] := fun h => by rw [h] at c1; cases c1
   clear ht hT1
   have hpa := fun w1 (hb1 : Below W.heap.size W w1) => anyparse ext T w1 (HG.out.up hb1)
   rw [HT.out] at hpa
   have hwe : ∀ q, parseM ext t = .error q → q.1 ≠ 0 := fun q h => whole_err h
   have hwm : ∀ q, parseM ext t = .ok q → q.1.marks.length ≤ 250 := fun q h => by
    have := whole_mks (st := q.1) (d := q.2) h
    unfold parseM at h
    split at h
    ·cases h
    ·omega
   obtain ⟨R, hRp⟩ : ∃ R, parseM ext t = R := ⟨_, rfl⟩
   rw [hRp] at hpa hwe hwm ⊢
   clear hRp
   cases R with
   | error q =>
    obtain ⟨n, k⟩ := q
    have hn : n ≠ 0 := hwe _ rfl
    have hnn : ((n : Int) != 0) = true := by simp; omega
    clear hwe hwm hn
    cases ext
    all_goals
     simp only [Bool.false_eq_true, if_false, if_true] at hpa
     go_enter Tryz.func48, Tryz.ntmps48
     go_wp2_with (first
      | (go_at_call 43; refine hbt.mono ?_; clear hbt; rintro e w1 ⟨rfl, b1⟩; have hp1 := hpa w1 b1; have B1 := Lib.hid (HA.out.trans (b1.mono HA.out.size)); have K1 := Lib.hid (HR0.out.below b1 HR0.out.lt); clear b1 hpa z0 z1 z2 v0 v1 v2 hz; obtain ⟨z0, z1, z2, v0, v1, v2, hz⟩ := blk3 K1.out)
      | (go_at_call 67; refine hp1.mono ?_; clear hp1; rintro e w2 ⟨b2, rfl⟩; have B2 := Lib.hid (B1.out.trans (b2.mono B1.out.size)); have K2 := Lib.hid (K1.out.below b2 K1.out.lt); clear b2 z0 z1 z2 v0 v1 v2 hz; obtain ⟨z0, z1, z2, v0, v1, v2, hz⟩ := blk3 K2.out)
      | (go_at_call 68; refine hp1.mono ?_; clear hp1; rintro e w2 ⟨b2, rfl⟩; have B2 := Lib.hid (B1.out.trans (b2.mono B1.out.size)); have K2 := Lib.hid (K1.out.below b2 K1.out.lt); clear b2 z0 z1 z2 v0 v1 v2 hz; obtain ⟨z0, z1, z2, v0, v1, v2, hz⟩ := blk3 K2.out))
     first
      | (with_reducible refine post3 B2.out K2.out (Nat.le_refl _) ?_; intro w9 hB9 hk9 hs9 hz9)
      | (have hB9 := B2.out; have hk9 := K2.out; generalize w2 = w9 at *)
     clear z0 z1 z2 v0 v1 v2 hz
     obtain ⟨z0, z1, z2, _⟩ := blk3 hk9
     refine bodyPost_ret (v := .tuple #[.agg #[.string ⟨#[]⟩, .nilIface, .slice none 0 0], .int .i64 (b : Int), .int .i64 (n : Int)]) (by simp [results, Tryz.results48, go_sem, z0, z1, z2]) rfl ?_
     exact ⟨hB9, rfl⟩
   | ok q =>
    obtain ⟨st, dn⟩ := q
    show Calls _ _ _ _ (DelA w (.ok ((t, dn), wmMove (b : Int) (st.marks.map wmOf), p)))
    have hm250 : st.marks.length ≤ 250 := hwm _ rfl
    obtain ⟨n, hn⟩ : ∃ n, st.marks.length = n := ⟨_, rfl⟩
    have hmn : (st.marks.map wmOf).length = n := by simp [hn]
    simp only [PAns, hn, marksC_wm] at hpa
    rw [hn] at hm250
    have Hmn := Lib.hid hmn
    clear hwe hwm hn hmn
    generalize st.marks.map wmOf = l at hpa Hmn ⊢
    have HF : ∀ (w' : World) (tv : Value) (a' : Option Addr) (c' : Nat), Below w.heap.size w w' → NdX (fun b => w.heap.size ≤ b ∧ (Value.slice a' n c').ownBlock ≠ some b) w' dn tv → w'.ownsRow w.heap.size 77 2 (.slice a' n c') n (wmC (wmMove (b : Int) l)) →
      DelA w (.ok ((t, dn), wmMove (b : Int) l, p)) (.returned (.tuple #[.agg #[.string T, tv, .slice a' n c'], .int .i64 (p : Int), .int .i64 0])) w' := fun w' tv a' c' h1 h2 h3 => by
     refine ⟨h1, tv, .slice a' n c', ?_, h2, ?_⟩
     ·rw [← HTx.out]
     ·show w'.ownsRow w.heap.size 77 2 _ (wmMove (b : Int) l).length (wmC (wmMove (b : Int) l))
      rw [wmMove_len, Hmn.out]
      exact h3
    have HFh := Lib.hid HF
    clear HF
    cases ext
    all_goals
     simp only [Bool.false_eq_true, if_false, if_true] at hpa
     go_enter Tryz.func48, Tryz.ntmps48
     go_upto_region 10 with (first
      | (go_at_call 43; refine hbt.mono ?_; clear hbt; rintro e w1 ⟨rfl, b1⟩; have hp1 := hpa w1 b1; have B1 := Lib.hid (HA.out.trans (b1.mono HA.out.size)); have K1 := Lib.hid (HR0.out.below b1 HR0.out.lt); clear b1 hpa z0 z1 z2 v0 v1 v2 hz; obtain ⟨z0, z1, z2, v0, v1, v2, hz⟩ := blk3 K1.out)
      | (go_at_call 67; refine hp1.mono ?_; clear hp1; rintro e w2 ⟨b2, tv, mv, rfl, hd, hm⟩)
      | (go_at_call 68; refine hp1.mono ?_; clear hp1; rintro e w2 ⟨b2, tv, mv, rfl, hd, hm⟩))
     obtain ⟨ma, mc, rfl⟩ := own_form' hm
     have B2 := Lib.hid (B1.out.trans (b2.mono B1.out.size))
     have K2 := Lib.hid (K1.out.below b2 K1.out.lt)
     have HD2 := Lib.hid (NdX.keep (G := fun b => w1.heap.size ≤ b ∧ b < w2.heap.size) (Nat.le_refl _) (fun b hb hl => ⟨⟨hb, hl⟩, fun _ => rfl⟩) hd)
     have hmv := pmoved' Hmn.out ma mc (b : Int) w1.heap.size w2 hm (by omega)
     have hsh := hd.elim fun _ h => nd_shape h
     clear b2 hd hm z0 z1 z2 v0 v1 v2 hz
     obtain ⟨z0, z1, z2, v0, v1, v2, hz⟩ := blk3 K2.out
     rcases hsh with ⟨T9, q9, rfl⟩ | rfl
     all_goals
      go_wp2_with (go_at_call 69; refine hmv.mono ?_; clear hmv; rintro e w3 ⟨a3, c3, rfl, b3, ho3⟩; have B3 := Lib.hid (B2.out.trans (b3.mono B2.out.size)); have K3 := Lib.hid (K2.out.below b3 K2.out.lt); have HD3 := Lib.hid (NdX.below b3 HD2.out); have HO3 := Lib.hid ho3; have hb3 := Lib.hid b3.size; clear b3 ho3 z0 z1 z2 v0 v1 v2 hz; obtain ⟨z0, z1, z2, v0, v1, v2, hz⟩ := blk3 K3.out)
      with_reducible refine post3 B3.out K3.out (Nat.le_refl _) ?_
      intro w9 hB9 hk9 hs9 hz9
      have hne : ∀ g, (Value.slice a3 n c3).ownBlock = some g → g ≠ w.heap.size := fun g hg e => by
       have := own_of HO3.out g hg
       have := K2.out.lt
       omega
      have hfin := HFh.out w9 _ a3 c3 hB9 (NdX.keep (G := fun b => w.heap.size ≤ b ∧ (Value.slice a3 n c3).ownBlock ≠ some b) (by omega) (fun b hb hl => ⟨⟨Nat.le_trans B1.out.size hb.1, fun e => by have := own_of HO3.out b e; have := hb.2; omega⟩, fun o => World.cell?_of_block (w := w3) (a := ⟨b, o, none⟩) (hs9 b (by have := K1.out.lt; have := hb.1; omega))⟩) HD3.out) (own_row_same (own_less (Nat.le_trans B2.out.size (Nat.le_refl _)) HO3.out) fun g hg => hs9 g (hne g hg))
      clear z0 z1 z2 v0 v1 v2 hz
      obtain ⟨z0, z1, z2, _⟩ := blk3 hk9
      refine bodyPost_ret (by simp [results, Tryz.results48, go_sem, z0, z1, z2]) rfl hfin
 ·rw [if_neg he]
  have hnn : ((e0 : Int) != 0) = true := by simp; omega
  clear he hT1
  go_enter Tryz.func48, Tryz.ntmps48
  go_wp2_with (go_at_call 43; refine hbt.mono ?_; clear hbt; rintro e w1 ⟨rfl, b1⟩; have B1 := Lib.hid (HA.out.trans (b1.mono HA.out.size)); have K1 := Lib.hid (HR0.out.below b1 HR0.out.lt); clear b1 z0 z1 z2 v0 v1 v2 hz; obtain ⟨z0, z1, z2, v0, v1, v2, hz⟩ := blk3 K1.out)
  first
   | (with_reducible refine post3 B1.out K1.out (Nat.le_refl _) ?_; intro w9 hB9 hk9 hs9 hz9)
   | (have hB9 := B1.out; have hk9 := K1.out; generalize w1 = w9 at *)
  clear z0 z1 z2 v0 v1 v2 hz
  obtain ⟨z0, z1, z2, _⟩ := blk3 hk9
  refine bodyPost_ret (v := .tuple #[.agg #[.string ⟨#[]⟩, .nilIface, .slice none 0 0], .int .i64 (p : Int), .int .i64 (e0 : Int)]) (by simp [results, Tryz.results48, go_sem, z0, z1, z2]) rfl ?_
  exact ⟨hB9, rfl⟩
end Go.Proofs.YtbgfankoojjejaaGreatDoor
