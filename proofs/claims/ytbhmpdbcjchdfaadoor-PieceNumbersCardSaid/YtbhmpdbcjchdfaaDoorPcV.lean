/- The document's own Between (layer 11), walked. -/
import Derived.Test.YtbhmpdbcjchdfaaDoorPcU
import Derived.Deep.LoopGhost
namespace Go.Proofs.YtbhmpdbcjchdfaaDoor
open Go.RowKit

theorem take_step (s : ByteArray) (q m : Nat) (h : q < s.size) : (s.data.toList.drop q).take (m + 1) = s[q] :: (s.data.toList.drop (q + 1)).take m := by rw [drop_at s q h]; rfl

set_option maxHeartbeats 8000000 in
set_option maxRecDepth 1000000 in
theorem rbetween_at (s : ByteArray) (k : Nat) (d : UInt8) (rx : Bool) (w : World) (hs : s.size ≤ 4000000) (hk : k ≤ s.size) :
    Calls Tryd.prog 20 #[.string s, .int .i64 k, .int .u8 d.toNat, .bool rx] w fun e w' => e = pcA (pcBtw d rx s.data.toList (s.size + 1) k []) ∧ Below w.heap.size w w' := by
  have hP := over_no s k w hk
  obtain ⟨R, hR⟩ : ∃ R, pcBtw d rx s.data.toList (s.size + 1) k [] = R := ⟨_, rfl⟩
  rw [hR]
  have HR := Lib.hid hR
  clear hR
  go_enter Tryd.func20, Tryd.ntmps20
  go_wp2_with (go_at_call 23; refine hP.mono ?_; rintro e w' ⟨rfl, rfl⟩)
  clear hP
  go_loopw [1, 11, 12, 13, 14] (fun i o _ _ _ wr => ∃ (p n : Nat) (acc : List UInt8), p ≤ s.size ∧ s.size < p + n ∧ i = .int .i64 p ∧ o = .string (txt acc) ∧ Below w'.heap.size w' wr ∧ acc.length ≤ p ∧ pcBtw d rx s.data.toList n p acc = R) (fun i _ _ _ _ _ => s.size - (intOf i).toNat)
  case atStart => exact ⟨k, s.size + 1, [], hk, by omega, rfl, rfl, Below.refl _ w', by simp, HR.out⟩
  case round =>
    obtain ⟨p, n, acc, hp, hn, rfl, rfl, hbw, hal, hacc⟩ := hrel
    obtain ⟨n, rfl⟩ : ∃ m, n = m + 1 := ⟨n - 1, by omega⟩
    have HA := Lib.hid hacc
    clear hacc
    have hts : (txt acc).size ≤ 4000000 := by rw [txt_size]; omega
    by_cases hlt : p < s.size
    · have hlti : (p : Int) < (s.size : Int) := by omega
      have Hd := Lib.hid (drop_at s p hlt)
      have Wp : IntKind.i64.wrap ((p : Int) + 1) = (p : Int) + 1 := IntWalk.i64_in _ (by omega)
      by_cases hc : s[p] = d
      · have q : ((s[p].toNat : Int) == (d.toNat : Int)) = true := by rw [hc]; simp
        have Hc := Lib.hid hc
        clear hc
        go_wp2
        go_ret3
        refine ⟨?_, hbw⟩
        rw [← HA.out, pcBtw_del (t := s.data.toList.drop (p + 1)) (by rw [Hd.out, Hc.out])]
        rfl
      · have q : ((s[p].toNat : Int) == (d.toNat : Int)) = false := beq_eq_false_iff_ne.2 fun h => hc (UInt8.toNat_inj.1 (by omega))
        by_cases h10 : s[p] = 10
        · have q10 : ((s[p].toNat : Int) == 10) = true := by rw [h10]; rfl
          have Hn := Lib.hid (pcBtw_err (n := n) (acc := acc) (L := s.data.toList) (p := p) Hd.out hc (by decide : ¬ (2 : Nat) = 0) (by rw [h10]; exact pcPart_ten d rx _ p))
          clear h10 hc
          go_wp2
          go_ret3
          refine ⟨?_, hbw⟩
          rw [← HA.out, Hn.out]
          rfl
        · have q10 : ((s[p].toNat : Int) == 10) = false := beq_eq_false_iff_ne.2 fun h => h10 (UInt8.toNat_inj.1 (by show s[p].toNat = 10; omega))
          by_cases h92 : s[p] = 92
          · have q92 : ((s[p].toNat : Int) == 92) = true := by rw [h92]; rfl
            have W2 : IntKind.i64.wrap ((p : Int) + 2) = (p : Int) + 2 := IntWalk.i64_in _ (by omega)
            by_cases hend : p + 1 = s.size
            · have qe : ((p : Int) + 1 == (s.size : Int)) = true := beq_iff_eq.2 (by omega)
              have Hn := Lib.hid (pcBtw_err (n := n) (acc := acc) (L := s.data.toList) (p := p) Hd.out hc (by decide : ¬ (5 : Nat) = 0) (by rw [h92, drop_end s (p + 1) (by omega)]; exact pcPart_bs_end d rx p))
              have hse : (s.size : Int) = ((p + 1 : Nat) : Int) := by omega
              have Hse := Lib.hid hse
              clear h92 hc h10 hend hse
              go_wp2
              go_ret3
              refine ⟨?_, hbw⟩
              rw [← HA.out, Hn.out]
              exact pcA_mk rfl Hse.out rfl
            · have qe : ((p : Int) + 1 == (s.size : Int)) = false := beq_eq_false_iff_ne.2 (by omega)
              have hlt2 : p + 1 < s.size := by omega
              have hlt2i : (p : Int) + 1 < (s.size : Int) := by omega
              have hlt3i : (p : Int) + 2 ≤ (s.size : Int) := by omega
              have Hex := Lib.hid (extract_one' s (p + 1) hlt2)
              have hes : (s.extract (p + 1) (p + 2)).size = 1 := by rw [Hex.out, txt_size]; rfl
              have hpart := pcPart_bs d rx s[p + 1] (s.data.toList.drop (p + 2)) p
              rw [← drop_at s (p + 1) hlt2] at hpart
              by_cases hyd : s[p + 1] = d
              · rw [if_pos hyd] at hpart
                have Hn := Lib.hid (pcBtw_part (n := n) (acc := acc) (L := s.data.toList) (p := p) Hd.out hc (by rw [h92]; exact hpart))
                have qyd : ((s[p + 1].toNat : Int) != (d.toNat : Int)) = false := by rw [hyd]; simp
                clear hpart
                by_cases hy10 : s[p + 1] = 10
                · have qy : ((s[p + 1].toNat : Int) == 10) = true := by rw [hy10]; rfl
                  have qd : ((d.toNat : Int) != 10) = false := by rw [← hyd, hy10]; rfl
                  clear h92 hc h10 hend hyd hy10
                  cases rx
                  · go_wp2
                    go_roundw
                    case rel => exact ⟨p + 2, n, acc ++ [s[p + 1]], by omega, by omega, rfl, by rw [Hex.out, txt_append], hbw, by simp; omega, by rw [← Hn.out]; exact HA.out⟩
                    case measure => simp [intOf]; omega
                  · go_wp2
                    go_roundw
                    case rel => exact ⟨p + 2, n, acc ++ [s[p + 1]], by omega, by omega, rfl, by rw [Hex.out, txt_append], hbw, by simp; omega, by rw [← Hn.out]; exact HA.out⟩
                    case measure => simp [intOf]; omega
                · have qy : ((s[p + 1].toNat : Int) == 10) = false := beq_eq_false_iff_ne.2 fun h => hy10 (UInt8.toNat_inj.1 (by show s[p + 1].toNat = 10; omega))
                  clear h92 hc h10 hend hyd hy10
                  go_wp2
                  go_roundw
                  case rel => exact ⟨p + 2, n, acc ++ [s[p + 1]], by omega, by omega, rfl, by rw [Hex.out, txt_append], hbw, by simp; omega, by rw [← Hn.out]; exact HA.out⟩
                  case measure => simp [intOf]; omega
              · rw [if_neg hyd] at hpart
                have qyd : ((s[p + 1].toNat : Int) != (d.toNat : Int)) = true := bne_iff_ne.2 fun h => hyd (UInt8.toNat_inj.1 (by omega))
                have h2s : (txt acc ++ (⟨#[92]⟩ : ByteArray)).size ≤ 4000001 := by rw [show (⟨#[92]⟩ : ByteArray) = txt [92] from rfl, txt_append, txt_size]; simp; omega
                by_cases hy10 : s[p + 1] = 10
                · have qy : ((s[p + 1].toNat : Int) == 10) = true := by rw [hy10]; rfl
                  have qd : ((d.toNat : Int) != 10) = true := bne_iff_ne.2 fun h => hyd (by rw [hy10]; exact (UInt8.toNat_inj.1 (by show d.toNat = 10; omega)).symm)
                  cases rx
                  · rw [if_neg (by simp)] at hpart
                    have Hn := Lib.hid (pcBtw_part (n := n) (acc := acc) (L := s.data.toList) (p := p) Hd.out hc (by rw [h92]; exact hpart))
                    clear h92 hc h10 hend hyd hy10 hpart
                    go_wp2
                    go_roundw
                    case rel => exact ⟨p + 2, n, acc ++ [92, s[p + 1]], by omega, by omega, rfl, by rw [Hex.out, show (⟨#[92]⟩ : ByteArray) = txt [92] from rfl, txt_append, txt_append]; simp, hbw, by simp; omega, by rw [← Hn.out]; exact HA.out⟩
                    case measure => simp [intOf]; omega
                  · rw [if_pos (by rw [hy10]; rfl)] at hpart
                    have Hn := Lib.hid (pcBtw_err (n := n) (acc := acc) (L := s.data.toList) (p := p) Hd.out hc (by decide : ¬ (2 : Nat) = 0) (by rw [h92]; exact hpart))
                    clear h92 hc h10 hend hyd hy10 hpart
                    go_wp2
                    go_ret3
                    refine ⟨?_, hbw⟩
                    rw [← HA.out, Hn.out]
                    rfl
                · have qy : ((s[p + 1].toNat : Int) == 10) = false := beq_eq_false_iff_ne.2 fun h => hy10 (UInt8.toNat_inj.1 (by show s[p + 1].toNat = 10; omega))
                  rw [if_neg (by simp [hy10])] at hpart
                  have Hn := Lib.hid (pcBtw_part (n := n) (acc := acc) (L := s.data.toList) (p := p) Hd.out hc (by rw [h92]; exact hpart))
                  clear h92 hc h10 hend hyd hy10 hpart
                  go_wp2
                  go_roundw
                  case rel => exact ⟨p + 2, n, acc ++ [92, s[p + 1]], by omega, by omega, rfl, by rw [Hex.out, show (⟨#[92]⟩ : ByteArray) = txt [92] from rfl, txt_append, txt_append]; simp, hbw, by simp; omega, by rw [← Hn.out]; exact HA.out⟩
                  case measure => simp [intOf]; omega
          · have q92 : ((s[p].toNat : Int) == 92) = false := beq_eq_false_iff_ne.2 fun h => h92 (UInt8.toNat_inj.1 (by show s[p].toNat = 92; omega))
            by_cases h91 : s[p] = 91
            · have q91 : ((s[p].toNat : Int) == 91) = true := by rw [h91]; rfl
              cases rx with
              | false =>
                have Hn := Lib.hid (pcBtw_part (n := n) (acc := acc) (L := s.data.toList) (p := p) Hd.out hc (pcPart_plain d false s[p] (s.data.toList.drop (p + 1)) p h10 h92 rfl))
                have Hex := Lib.hid (extract_one' s p hlt)
                have hes : (s.extract p (p + 1)).size = 1 := by rw [Hex.out, txt_size]; rfl
                clear h92 hc h10 h91
                go_wp2
                go_roundw
                case rel => exact ⟨p + 1, n, acc ++ [s[p]], by omega, by omega, by go_num, by rw [Hex.out, txt_append], hbw, by simp; omega, by rw [← Hn.out]; exact HA.out⟩
                case measure => simp [intOf]; omega
              | true =>
                have hB := rbracket_at s p wr hs hlt
                have hb1 := pcBrk_le (s.data.toList.drop (p + 1))
                have hb2 := pcBrk_pos (s.data.toList.drop (p + 1))
                rw [List.length_drop, ← size_list] at hb1
                obtain ⟨i, hi⟩ : ∃ i, pcLen (fun b => !(b == 10)) (((91 : UInt8) :: s.data.toList.drop (p + 1)).take (pcBrk (s.data.toList.drop (p + 1)))) = i := ⟨_, rfl⟩
                have hpart := pcPart_brk d (s.data.toList.drop (p + 1)) p i hi
                rw [← h91, ← drop_at s p hlt] at hi
                obtain ⟨E, hE⟩ : ∃ E, p + pcBrk (s.data.toList.drop (p + 1)) = E := ⟨_, rfl⟩
                have hdt : ((91 : UInt8) :: s.data.toList.drop (p + 1)).take (pcBrk (s.data.toList.drop (p + 1))) = (s.extract p E).data.toList := by
                  rw [extract_list2, ← h91, ← drop_at s p hlt, ← hE, show p + pcBrk (s.data.toList.drop (p + 1)) - p = pcBrk (s.data.toList.drop (p + 1)) by omega]
                rw [hdt] at hpart
                rw [hE] at hB hpart
                have hbE : pcBrk (s.data.toList.drop (p + 1)) = E - p := by omega
                rw [hbE] at hpart hi hb1 hb2
                have hpE : p < E := by omega
                have hEs : E ≤ s.size := by omega
                have hEi : (E : Int) ≤ (s.size : Int) := by omega
                have hpEi : (p : Int) ≤ (E : Int) := by omega
                have hesz : (s.extract p E).size = E - p := by simp; omega
                have Hpart := Lib.hid (show pcPart d true s[p] (s.data.toList.drop (p + 1)) p = if i < E - p then ([], p + i, 2) else ((s.extract p E).data.toList, E, 0) by rw [h91]; exact hpart)
                have Hi := Lib.hid hi
                have Hc := Lib.hid hc
                clear hpart hi hdt hE hbE hb1 hb2 h91 h92 h10 hc
                go_wp2_with (go_at_call 31; refine hB.mono ?_; rintro e w1 ⟨rfl, b1⟩)
                have hbw1 := hbw.trans (b1.mono hbw.size)
                clear hB b1
                go_loopg [14] (E - p) (fun g a wx => ∃ j : Nat, j + g = E - p ∧ a = .int .i64 ((p + j : Nat) : Int) ∧ j + pcLen (fun b => !(b == 10)) ((s.data.toList.drop (p + j)).take g) = i ∧ w1 = wx)
                case atStart => exact ⟨0, by omega, rfl, by simpa using Hi.out, rfl⟩
                case round =>
                  obtain ⟨j, hjg, rfl, hji, rfl⟩ := hrel
                  obtain ⟨r, hr⟩ : ∃ r, p + j = r := ⟨_, rfl⟩
                  rw [hr] at hji ⊢
                  have Hji := Lib.hid hji
                  clear hji
                  cases gk with
                  | zero =>
                    have hrE : r = E := by omega
                    have hri : ¬ (r : Int) < (E : Int) := by omega
                    have Hn := Lib.hid (pcBtw_part (n := n) (acc := acc) (L := s.data.toList) (p := p) Hd.out Hc.out (by
                      rw [Hpart.out, if_neg]
                      have h1 := Hji.out
                      rw [List.take_zero, pcLen_nil] at h1
                      omega))
                    have hesz' : (txt acc).size + (s.extract p E).size ≤ 8000000 := by omega
                    clear hr
                    go_wp2
                    go_roundw
                    case rel => exact ⟨E, n, acc ++ (s.extract p E).data.toList, by omega, by omega, rfl, by rw [← txt_append, txt_of], hbw1, by rw [List.length_append, ← size_list (s.extract p E)]; omega, by rw [← Hn.out]; exact HA.out⟩
                    case measure => simp [intOf]; omega
                  | succ g =>
                    have hri : (r : Int) < (E : Int) := by omega
                    have hrs : r < s.size := by omega
                    have hrsi : (r : Int) < (s.size : Int) := by omega
                    have Wr : IntKind.i64.wrap ((r : Int) + 1) = (r : Int) + 1 := IntWalk.i64_in _ (by omega)
                    have Ht := Lib.hid (take_step s r g hrs)
                    by_cases hx : s[r] = 10
                    · have qx : ((s[r].toNat : Int) == 10) = true := by rw [hx]; rfl
                      have Hx := Lib.hid hx
                      have Hr := Lib.hid hr
                      have Hn := Lib.hid (pcBtw_err (n := n) (acc := acc) (L := s.data.toList) (p := p) (e := 2) (k := r) (x := []) Hd.out Hc.out (by decide : ¬ (2 : Nat) = 0) (by
                        have h1 := Hji.out
                        rw [Ht.out, Hx.out, pcLen_no rfl] at h1
                        rw [Hpart.out, if_pos (by omega), show p + i = r by omega]))
                      clear hx hr
                      go_wp2
                      go_ret3
                      refine ⟨?_, hbw1⟩
                      rw [← HA.out, Hn.out]
                      rfl
                    · have qx : ((s[r].toNat : Int) == 10) = false := beq_eq_false_iff_ne.2 fun h => hx (UInt8.toNat_inj.1 (by show s[r].toNat = 10; omega))
                      have Hr := Lib.hid hr
                      have Hs := Lib.hid (show j + 1 + pcLen (fun b => !(b == 10)) ((s.data.toList.drop (r + 1)).take g) = i by
                        have h1 := Hji.out
                        rw [Ht.out, pcLen_yes (by simp [hx])] at h1
                        omega)
                      clear hx hr
                      go_wp2
                      go_roundg g
                      case measure => omega
                      case rel => exact ⟨j + 1, by omega, congrArg (Value.int .i64) (by have := Hr.out; omega), by rw [show p + (j + 1) = r + 1 by have := Hr.out; omega]; exact Hs.out, by first | rfl | trivial⟩
            · have q91 : ((s[p].toNat : Int) == 91) = false := beq_eq_false_iff_ne.2 fun h => h91 (UInt8.toNat_inj.1 (by show s[p].toNat = 91; omega))
              have Hn := Lib.hid (pcBtw_part (n := n) (acc := acc) (L := s.data.toList) (p := p) Hd.out hc (pcPart_plain d rx s[p] (s.data.toList.drop (p + 1)) p h10 h92 (by
                rw [show (s[p] == 91) = false from beq_eq_false_iff_ne.2 h91, Bool.and_false])))
              have Hex := Lib.hid (extract_one' s p hlt)
              have hes : (s.extract p (p + 1)).size = 1 := by rw [Hex.out, txt_size]; rfl
              clear h92 hc h10 h91
              go_wp2
              go_roundw
              case rel => exact ⟨p + 1, n, acc ++ [s[p]], by omega, by omega, by go_num, by rw [Hex.out, txt_append], hbw, by simp; omega, by rw [← Hn.out]; exact HA.out⟩
              case measure => simp [intOf]; omega
    · have hlti : ¬ (p : Int) < (s.size : Int) := by omega
      have Hd := Lib.hid (drop_end s p (by omega))
      go_wp2
      go_ret3
      refine ⟨?_, hbw⟩
      rw [← HA.out, pcBtw_nil Hd.out]
      exact pcA_mk rfl rfl rfl
theorem rbetween_no (s : ByteArray) (a : Int) (d : UInt8) (rx : Bool) (w : World) (h : ¬ (0 ≤ a ∧ a ≤ (s.size : Int))) :
    Calls Tryd.prog 20 #[.string s, .int .i64 a, .int .u8 d.toNat, .bool rx] w fun e w' => e = pcA ([], 0, 1) ∧ Below w.heap.size w w' := by
  have hP := over_yes s a w h
  clear h
  go_enter Tryd.func20, Tryd.ntmps20
  go_wp2_with (go_at_call 23; refine hP.mono ?_; rintro e w' ⟨rfl, rfl⟩)
  go_ret3
  exact ⟨rfl, Below.refl _ _⟩
end Go.Proofs.YtbhmpdbcjchdfaaDoor
