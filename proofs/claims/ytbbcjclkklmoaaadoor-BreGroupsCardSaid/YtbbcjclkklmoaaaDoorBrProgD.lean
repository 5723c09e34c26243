/- The program's bracket expressions, walked: an item. -/
import Derived.Test.YtbbcjclkklmoaaaDoorBrProgBC
namespace Go.Proofs.YtbbcjclkklmoaaaDoor
open Go.RowKit

theorem sub_toList (s : ByteArray) (i j : Nat) : (s.extract i j).toList = sub s.data.toList i j := by
  rw [ByteArray.toList_eq, ByteArray.data_extract, Array.toList_extract, List.extract_eq_take_drop]
  rfl
theorem sub_byt (s : ByteArray) (i j : Nat) (h : i < j) : byt (s.extract i j).data.toList 0 = byt s.data.toList i := by
  rw [ByteArray.data_extract, Array.toList_extract, List.extract_eq_take_drop]
  unfold byt
  rw [List.getD_eq_getElem?_getD, List.getD_eq_getElem?_getD, List.getElem?_take_of_lt (by omega), List.getElem?_drop]
  rfl
/-- Does a [ with an opener behind it stand at a place? -/
def prf (s : List UInt8) (k o : Nat) : Bool := decide (k + 1 < s.length) && decide (byt s k = 91) && decide (byt s (k + 1) = o)
theorem opens_prf (s : List UInt8) (k : Nat) : opens s k = (prf s k 58 || prf s k 61 || prf s k 46) := by
  unfold opens prf
  cases decide (k + 1 < s.length) <;> cases decide (byt s k = 91) <;> cases decide (byt s (k + 1) = 58) <;> cases decide (byt s (k + 1) = 61) <;> rfl
theorem pprf (s : ByteArray) (k o : Nat) (w : World) (ho : o < 256) :
    Calls Tryd.prog 89 #[.string (s.extract k s.size), .string (strOfNums [91, (o : Int)])] w fun e w' => e = .returned (.bool (prf s.data.toList k o)) ∧ w = w' := by
  have h := prefix_any (s.extract k s.size) (strOfNums [((91 : Nat) : Int), (o : Int)]) w
  rw [ext_list, nums_two, show UInt8.ofNat 91 = 91 from rfl, pre_two, show (UInt8.ofNat o).toNat = o by simp; omega] at h
  exact h
/-- What parseItem answers. -/
def pgI (a : Itm) : Value := pgV a.set a.may (if a.err = 0 then a.next else a.place) a.err
theorem ret_pg {a b : Itm} (h : a = b) : Ending.returned (pgI a) = .returned (pgI b) := by rw [h]
theorem opened_any (s : ByteArray) (k o : Nat) (w : World) (hs : s.size ≤ 1000000) (hp : prf s.data.toList k o = true) (ho : o = 58 ∨ o = 61 ∨ o = 46) (hG : Gl w) :
    Calls Tryd.prog 110 #[.string s, .int .i64 (k : Int), .int .u8 (o : Int)] w fun e w' => e = .returned (pgI (itm s.data.toList k)) ∧ Below w.heap.size w w' := by
  have hop : opens s.data.toList k = true := by
    rw [opens_prf]
    rcases ho with rfl | rfl | rfl <;> rw [hp] <;> simp
  unfold prf at hp
  simp only [Bool.and_eq_true, decide_eq_true_eq, plist_size] at hp
  obtain ⟨⟨hk, h91⟩, hb⟩ := hp
  have hi : itm s.data.toList k = (match fnd s.data.toList o (from1 s.data.toList k) with
      | some e => boxed s.data.toList k e
      | none => ⟨oz, false, 0, 5, s.data.toList.length⟩) := by
    unfold itm
    rw [if_neg (by rw [plist_size]; omega), if_pos hop, hb]
    rfl
  have hf : from1 s.data.toList k = if o = 58 then k + 2 else k + 3 := by unfold from1; rw [hb]
  have hcl : ∀ w, Gl w → Calls Tryd.prog 112 #[.string s, .int .i64 ((k : Int) + 2), .int .u8 (o : Int)] w fun e w' => e = .returned (.int .i64 (clo s.data.toList o (from1 s.data.toList k))) ∧ Below w.heap.size w w' := by
    intro w hG
    obtain ⟨m, hm⟩ := hG.ml
    rw [hf]
    by_cases h58 : o = 58
    · rw [if_pos h58]
      exact closer58 s (k + 2) o w m hs (by omega) (by omega) h58 hm (Nat.lt_of_lt_of_le (by decide) hG.lt)
    · rw [if_neg h58]
      exact closer_one s (k + 2) o w m hs (by omega) (by omega) h58 hm (Nat.lt_of_lt_of_le (by decide) hG.lt)
  cases hx : fnd s.data.toList o (from1 s.data.toList k) with
  | none =>
    rw [hx] at hi
    simp only at hi
    rw [hi]
    have hc0 : clo s.data.toList o (from1 s.data.toList k) = -1 := by unfold clo; rw [hx]
    refine (opened_none s k o w hs (by omega) hG (fun w hG => by have := hcl w hG; rw [hc0] at this; exact this)).mono ?_
    rintro e w' ⟨rfl, b⟩
    refine ⟨?_, b⟩
    unfold pgI
    rw [plist_size]
    rfl
  | some x =>
    rw [hx] at hi
    simp only at hi
    rw [hi]
    have hge := fnd_ge _ _ _ _ hx
    rw [plist_size] at hge
    have hc0 : clo s.data.toList o (from1 s.data.toList k) = (x : Int) := by unfold clo; rw [hx]
    have hcl2 : ∀ w, Gl w → Calls Tryd.prog 112 #[.string s, .int .i64 ((k : Int) + 2), .int .u8 (o : Int)] w fun e w' => e = .returned (.int .i64 (x : Int)) ∧ Below w.heap.size w w' := fun w hG => by
      have := hcl w hG; rw [hc0] at this; exact this
    unfold boxed
    rw [hb]
    by_cases h58 : o = 58
    · rw [if_pos h58] at hf ⊢
      refine (opened_some s k o x (clsSet (sub s.data.toList (k + 2) x)) false (clsOk (sub s.data.toList (k + 2) x)) w hs (by omega) hG (by omega) (by omega) hcl2 (fun w => ?_)).mono ?_
      · have := named58 (s.extract (k + 2) x) w
        rw [sub_toList] at this
        rw [h58]
        exact this
      · rintro e w' ⟨rfl, b⟩
        refine ⟨?_, b⟩
        cases clsOk (sub s.data.toList (k + 2) x) <;> rfl
    · rw [if_neg h58] at hf ⊢
      by_cases hx3 : x = k + 3
      · rw [if_pos hx3]
        refine (opened_some s k o x (oSpan (byt s.data.toList (k + 2)) (byt s.data.toList (k + 2))) (decide (o = 46)) true w hs (by omega) hG (by omega) (by omega) hcl2 (fun w => ?_)).mono ?_
        · have := named_one (s.extract (k + 2) x) (o : Int) w (by omega) (by simp; omega)
          rw [sub_byt s (k + 2) x (by omega)] at this
          rw [show decide (o = 46) = ((o : Int) == 46) by rcases ho with rfl | rfl | rfl <;> rfl]
          exact this
        · rintro e w' ⟨rfl, b⟩
          exact ⟨rfl, b⟩
      · rw [if_neg hx3]
        refine (opened_some s k o x oz false false w hs (by omega) hG (by omega) (by omega) hcl2 (fun w => named_none (s.extract (k + 2) x) (o : Int) w (by omega) (by simp; omega))).mono ?_
        rintro e w' ⟨rfl, b⟩
        exact ⟨rfl, b⟩
theorem opn_index0 (a b c : Int) (w : World) : (Instr.index 176 (.agg #[.int .u8 a, .int .u8 b, .int .u8 c]) (.int .i64 0)).run Tryd.prog w = .ok (.int .u8 a) w := by kernel_rfl
theorem opn_index1 (a b c : Int) (w : World) : (Instr.index 176 (.agg #[.int .u8 a, .int .u8 b, .int .u8 c]) (.int .i64 1)).run Tryd.prog w = .ok (.int .u8 b) w := by kernel_rfl
theorem opn_index2 (a b c : Int) (w : World) : (Instr.index 176 (.agg #[.int .u8 a, .int .u8 b, .int .u8 c]) (.int .i64 2)).run Tryd.prog w = .ok (.int .u8 c) w := by kernel_rfl
set_option linter.unusedSimpArgs false in
set_option maxRecDepth 100000 in
set_option maxHeartbeats 4000000 in
theorem pitem_any (s : ByteArray) (k : Nat) (w : World) (hs : s.size ≤ 1000000) (hk : k < s.size) (hG : Gl w) :
    Calls Tryd.prog 107 #[.string s, .int .i64 (k : Int)] w fun e w' => e = .returned (pgI (itm s.data.toList k)) ∧ Below w.heap.size w w' := by
  obtain ⟨cs, may, pl, er, hv⟩ : ∃ cs m pl er, pgI (itm s.data.toList k) = pgV cs m pl er := ⟨_, _, _, _, rfl⟩
  rw [hv]
  have Hv := Lib.hid hv
  clear hv
  have hB := Blk.new w #[.int .u64 0, .int .u64 0, .int .u64 0, .int .u64 0, .bool false] 171 _ rfl
  have hW := (Below.refl w.heap.size w).alloc (Nat.le_refl _) (.cells #[.int .u64 0, .int .u64 0, .int .u64 0, .int .u64 0, .bool false] 171)
  have hG1 := hG.up hW
  obtain ⟨_, o0, o1, o2, _, _⟩ := hG1
  have i0 := opn_index0 58 61 46
  have i1 := opn_index1 58 61 46
  have i2 := opn_index2 58 61 46
  go_enter Tryd.func107, Tryd.ntmps107
  go_wp2_with fail
  clear o0 o1 o2
  go_loopw [10] (fun i wr => ∃ j : Nat, j ≤ 3 ∧ i = .int .i64 j ∧ (0 < j → prf s.data.toList k 58 = false) ∧ (1 < j → prf s.data.toList k 61 = false) ∧ (2 < j → prf s.data.toList k 46 = false) ∧ Below w.heap.size w wr ∧ Blk wr w.heap.size #[.int .u64 0, .int .u64 0, .int .u64 0, .int .u64 0, .bool false] 171) (fun i _ => 4 - (intOf i).toNat)
  case atStart => exact ⟨0, by omega, rfl, fun h => by omega, fun h => by omega, fun h => by omega, hW, hB⟩
  case round =>
    clear hW hB
    obtain ⟨j, hj, rfl, p0, p1, p2, hW, hB⟩ := hrel
    have hG1 := hG.up hW
    obtain rfl | rfl | rfl | rfl : j = 0 ∨ j = 1 ∨ j = 2 ∨ j = 3 := by omega
    · have kc := pconv2d wr 91 58
      have hGd : Gl (wr.alloc (.cells #[.int .u8 91, .int .u8 58] 5)).drew := hG.up (hW.alloc hW.size _).drew
      cases hp : prf s.data.toList k 58
      · go_wp2_with fail
        go_region_with (go_at_call 89; refine (pprf s k 58 _ (by decide)).mono ?_; rintro e w1 ⟨rfl, rfl⟩)
        go_wp2_with fail
        all_goals exact ⟨⟨1, by decide, rfl, (by first | exact fun _ => hp | exact fun _ => trivial | exact fun h => absurd h (by decide)), (by first | exact fun _ => hp | exact fun _ => trivial | exact fun h => absurd h (by decide)), (by first | exact fun _ => hp | exact fun _ => trivial | exact fun h => absurd h (by decide)), (hW.alloc hW.size _).drew, (hB.alloc _).drew⟩, by simp [intOf]⟩
      · go_wp2_with fail
        go_region_with (go_at_call 89; refine (pprf s k 58 _ (by decide)).mono ?_; rintro e w1 ⟨rfl, rfl⟩)
        go_wp2_with fail
        all_goals
          refine (opened_any s k 58 _ hs hp (by decide) hGd).mono ?_
          rintro e w1 ⟨he, b1⟩
          rw [Hv.out] at he
          subst he
          replace hW := (hW.alloc hW.size _).drew.trans (b1.mono (hW.alloc hW.size _).size)
          replace hB := (hB.alloc _).drew.below b1 (hB.alloc _).lt
          clear b1 hGd kc
          obtain ⟨d0, d1, d2, d3, d4⟩ := ziblk_cells hB; have f0 := hB.frozen 0; have f1 := hB.frozen 1; have f2 := hB.frozen 2; have f3 := hB.frozen 3; have f4 := hB.frozen 4; have hlB := hB.lt
          unfold pgV
          go_wp2_with fail
          refine bodyPost_ret (v := pgV cs may pl er) (by simp [results, Tryd.results107, go_sem, d0, d1, d2, d3, d4, pgV, hlB]) rfl ⟨rfl, ?_⟩
          repeat (first | (with_reducible exact hW) | refine Below.setCell ?_ (by first | omega | (simp; omega) | simp) _ | refine Below.alloc ?_ (by first | omega | (simp; omega) | simp) _)
    · have kc := pconv2d wr 91 61
      have hGd : Gl (wr.alloc (.cells #[.int .u8 91, .int .u8 61] 5)).drew := hG.up (hW.alloc hW.size _).drew
      have q0 := p0 (by decide)
      cases hp : prf s.data.toList k 61
      · go_wp2_with fail
        go_region_with (go_at_call 89; refine (pprf s k 61 _ (by decide)).mono ?_; rintro e w1 ⟨rfl, rfl⟩)
        go_wp2_with fail
        all_goals exact ⟨⟨2, by decide, rfl, (by first | exact fun _ => hp | exact fun _ => trivial | exact fun h => absurd h (by decide) | exact fun _ => q0), (by first | exact fun _ => hp | exact fun _ => trivial | exact fun h => absurd h (by decide) | exact fun _ => q0), (by first | exact fun _ => hp | exact fun _ => trivial | exact fun h => absurd h (by decide) | exact fun _ => q0), (hW.alloc hW.size _).drew, (hB.alloc _).drew⟩, by simp [intOf]⟩
      · go_wp2_with fail
        go_region_with (go_at_call 89; refine (pprf s k 61 _ (by decide)).mono ?_; rintro e w1 ⟨rfl, rfl⟩)
        go_wp2_with fail
        all_goals
          refine (opened_any s k 61 _ hs hp (by decide) hGd).mono ?_
          rintro e w1 ⟨he, b1⟩
          rw [Hv.out] at he
          subst he
          replace hW := (hW.alloc hW.size _).drew.trans (b1.mono (hW.alloc hW.size _).size)
          replace hB := (hB.alloc _).drew.below b1 (hB.alloc _).lt
          clear b1 hGd kc
          obtain ⟨d0, d1, d2, d3, d4⟩ := ziblk_cells hB; have f0 := hB.frozen 0; have f1 := hB.frozen 1; have f2 := hB.frozen 2; have f3 := hB.frozen 3; have f4 := hB.frozen 4; have hlB := hB.lt
          unfold pgV
          go_wp2_with fail
          refine bodyPost_ret (v := pgV cs may pl er) (by simp [results, Tryd.results107, go_sem, d0, d1, d2, d3, d4, pgV, hlB]) rfl ⟨rfl, ?_⟩
          repeat (first | (with_reducible exact hW) | refine Below.setCell ?_ (by first | omega | (simp; omega) | simp) _ | refine Below.alloc ?_ (by first | omega | (simp; omega) | simp) _)
    · have kc := pconv2d wr 91 46
      have hGd : Gl (wr.alloc (.cells #[.int .u8 91, .int .u8 46] 5)).drew := hG.up (hW.alloc hW.size _).drew
      have q0 := p0 (by decide)
      have q1 := p1 (by decide)
      cases hp : prf s.data.toList k 46
      · go_wp2_with fail
        go_region_with (go_at_call 89; refine (pprf s k 46 _ (by decide)).mono ?_; rintro e w1 ⟨rfl, rfl⟩)
        go_wp2_with fail
        all_goals exact ⟨⟨3, by decide, rfl, (by first | exact fun _ => hp | exact fun _ => trivial | exact fun h => absurd h (by decide) | exact fun _ => q0 | exact fun _ => q1), (by first | exact fun _ => hp | exact fun _ => trivial | exact fun h => absurd h (by decide) | exact fun _ => q0 | exact fun _ => q1), (by first | exact fun _ => hp | exact fun _ => trivial | exact fun h => absurd h (by decide) | exact fun _ => q0 | exact fun _ => q1), (hW.alloc hW.size _).drew, (hB.alloc _).drew⟩, by simp [intOf]⟩
      · go_wp2_with fail
        go_region_with (go_at_call 89; refine (pprf s k 46 _ (by decide)).mono ?_; rintro e w1 ⟨rfl, rfl⟩)
        go_wp2_with fail
        all_goals
          refine (opened_any s k 46 _ hs hp (by decide) hGd).mono ?_
          rintro e w1 ⟨he, b1⟩
          rw [Hv.out] at he
          subst he
          replace hW := (hW.alloc hW.size _).drew.trans (b1.mono (hW.alloc hW.size _).size)
          replace hB := (hB.alloc _).drew.below b1 (hB.alloc _).lt
          clear b1 hGd kc
          obtain ⟨d0, d1, d2, d3, d4⟩ := ziblk_cells hB; have f0 := hB.frozen 0; have f1 := hB.frozen 1; have f2 := hB.frozen 2; have f3 := hB.frozen 3; have f4 := hB.frozen 4; have hlB := hB.lt
          unfold pgV
          go_wp2_with fail
          refine bodyPost_ret (v := pgV cs may pl er) (by simp [results, Tryd.results107, go_sem, d0, d1, d2, d3, d4, pgV, hlB]) rfl ⟨rfl, ?_⟩
          repeat (first | (with_reducible exact hW) | refine Below.setCell ?_ (by first | omega | (simp; omega) | simp) _ | refine Below.alloc ?_ (by first | omega | (simp; omega) | simp) _)
    · have hop : opens s.data.toList k = false := by rw [opens_prf, p0 (by decide), p1 (by decide), p2 (by decide)]; rfl
      have Hi := Lib.hid (show itm s.data.toList k = ⟨oSpan (s[k].toNat : Int) (s[k].toNat : Int), true, k + 1, 0, 0⟩ by
        unfold itm
        rw [if_neg (by rw [plist_size]; omega), hop, if_neg (by decide), pbyt_at s k hk])
      have Wk : IntKind.i64.wrap ((k : Int) + 1) = (k : Int) + 1 := IntWalk.i64_in _ (by omega)
      clear hop p0 p1 p2
      go_wp2_with fail
      refine (of_one (s[k].toNat : Int) (pu8a _) (pu8b _) _ _ (by simp)).mono ?_
      rintro e w1 ⟨rfl, b1⟩
      rw [ofl_one]
      replace hW := hW.trans (b1.mono hW.size); replace hB := hB.below b1 hB.lt; clear b1
      obtain ⟨d0, d1, d2, d3, d4⟩ := ziblk_cells hB; have f0 := hB.frozen 0; have f1 := hB.frozen 1; have f2 := hB.frozen 2; have f3 := hB.frozen 3; have f4 := hB.frozen 4; have hlB := hB.lt
      go_wp2_with fail
      refine bodyPost_ret (v := pgV (oSpan (s[k].toNat : Int) (s[k].toNat : Int)) true (k + 1) 0) (by simp [results, Tryd.results107, go_sem, d0, d1, d2, d3, d4, pgV, hlB]) rfl ⟨?_, ?_⟩
      · rw [← Hv.out, Hi.out]; rfl
      · repeat (first | (with_reducible exact hW) | refine Below.setCell ?_ (by first | omega | (simp; omega) | simp) _ | refine Below.alloc ?_ (by first | omega | (simp; omega) | simp) _)
end Go.Proofs.YtbbcjclkklmoaaaDoor
