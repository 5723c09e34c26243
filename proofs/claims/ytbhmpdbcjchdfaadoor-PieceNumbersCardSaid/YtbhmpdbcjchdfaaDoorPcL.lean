/- Package piece, walked: a text's lines. -/
import Derived.Test.YtbhmpdbcjchdfaaDoorPcW
namespace Go.Proofs.YtbhmpdbcjchdfaaDoor
open Go.RowKit

set_option maxHeartbeats 4000000 in
set_option maxRecDepth 1000000 in
theorem plines_at (s : ByteArray) (k : Nat) (w : World) (hs : s.size ≤ 4000000) (hk : k ≤ s.size) :
    Calls Tryd.prog 15 #[.string s, .int .i64 k] w fun e w' => e = pcA (pcLin (s.data.toList.drop k) k []) ∧ Below w.heap.size w w' := by
  have hP := place_yes s k w hk
  obtain ⟨R, hR⟩ : ∃ R, pcLin (s.data.toList.drop k) k [] = R := ⟨_, rfl⟩
  rw [hR]
  have HR := Lib.hid hR
  clear hR
  go_enter Tryd.func15, Tryd.ntmps15
  go_wp2_with (go_at_call 21; refine hP.mono ?_; rintro e w' ⟨rfl, rfl⟩)
  clear hP
  go_loopw [1] (fun i wr => ∃ (p : Nat) (acc : List UInt8), p ≤ s.size ∧ i = .int .i64 p ∧ Lib.IsBuilderF 49 5 w'.heap.size w'.heap.size (Lib.byteCells acc) wr ∧ Below w'.heap.size w' wr ∧ w'.heap.size ≤ wr.heap.size ∧ acc.length ≤ p ∧ pcLin (s.data.toList.drop p) p acc = R) (fun i _ => s.size - (intOf i).toNat)
  case atStart => exact ⟨k, [], hk, rfl, Lib.IsBuilderF.of (Lib.fresh_isBuilder 49 5 w'), (Below.refl _ w').alloc (Nat.le_refl _) _, by simp, by simp, HR.out⟩
  case round =>
    obtain ⟨p, acc, hp, rfl, hI, hbw, hsz, hal, hacc⟩ := hrel
    have HA := Lib.hid hacc
    clear hacc
    have hlc : (Lib.byteCells acc).length + 1 ≤ 140737488355328 := by rw [Lib.byteCells_length]; omega
    have fin : ∀ W1 : World, Lib.BuilderAtF 49 5 w'.heap.size w'.heap.size (.pointer (some ⟨w'.heap.size, 0, none⟩)) (Lib.byteCells acc ++ [.int .u8 10]) W1 → Lib.IsBuilderF 49 5 w'.heap.size w'.heap.size (Lib.byteCells (acc ++ [10])) W1 := fun W1 h => by
      rw [Lib.byteCells_append]; exact Or.inr h
    by_cases hlt : p < s.size
    · have hlti : (p : Int) < (s.size : Int) := by omega
      have hd := drop_at s p hlt
      have Hd := Lib.hid hd
      clear hd
      have hx256 := s[p].toNat_lt
      by_cases h10 : s[p] = 10
      · have q10 : ((s[p].toNat : Int) != 10) = false := by rw [h10]; rfl
        have Hx := Lib.hid h10
        clear h10 hx256
        have hmn : IntKind.i64.wrap ((p : Int) + 1) = (p : Int) + 1 := IntWalk.i64_in _ (by omega)
        have hle : (p : Int) + 1 ≤ (s.size : Int) := by omega
        go_wp2_with (go_at_call 25; refine (writeByte_k w'.heap.size w'.heap.size _ _ _ hI hlc hsz).mono ?_)
        rintro e W1 ⟨rfl, h1, b1, _⟩
        go_wp2_with (go_at_call 26; refine (builderString_k w'.heap.size w'.heap.size (acc ++ [10]) _ (fin W1 h1) (by have := b1.size; omega)).mono ?_)
        rintro e W2 ⟨rfl, _, b2, _⟩
        go_wp2
        go_ret3
        refine ⟨?_, (hbw.trans b1).trans b2⟩
        rw [← HA.out, Hd.out, Hx.out, pcLin_nl]
        exact pcA_mk rfl (by show min ((p : Int) + 1) (s.size : Int) = ((p + 1 : Nat) : Int); omega) rfl
      · have q10 : ((s[p].toNat : Int) != 10) = true := bne_iff_ne.2 fun h => h10 (UInt8.toNat_inj.1 (by show s[p].toNat = 10; omega))
        have H10 := Lib.hid h10
        clear h10
        by_cases h92 : s[p] = 92
        · have q92 : ((s[p].toNat : Int) == 92) = true := by rw [h92]; rfl
          have Hx := Lib.hid h92
          clear h92 hx256
          have hmn : IntKind.i64.wrap ((p : Int) + 1) = (p : Int) + 1 := IntWalk.i64_in _ (by omega)
          by_cases hend : p + 1 = s.size
          · have qe : ((p : Int) + 1 == (s.size : Int)) = true := beq_iff_eq.2 (by omega)
            have Hde := Lib.hid (drop_end s (p + 1) (by omega))
            have He := Lib.hid hend
            clear hend
            go_wp2
            go_ret3
            refine ⟨?_, hbw⟩
            rw [← HA.out, Hd.out, Hx.out, Hde.out, pcLin_tail]
            rfl
          · have qe : ((p : Int) + 1 == (s.size : Int)) = false := beq_eq_false_iff_ne.2 (by omega)
            have hlt2 : p + 1 < s.size := by omega
            have hlt2i : (p : Int) + 1 < (s.size : Int) := by omega
            have Hde := Lib.hid (drop_at s (p + 1) hlt2)
            have hmn2 : IntKind.i64.wrap ((p : Int) + 1 + 1) = (p : Int) + 1 + 1 := IntWalk.i64_in _ (by omega)
            go_wp2_with (go_at_call 25; refine (writeByte_k w'.heap.size w'.heap.size _ _ _ hI hlc hsz).mono ?_)
            rintro e W1 ⟨rfl, h1, b1, _⟩
            go_wp2
            go_roundw
            case rel =>
              refine ⟨p + 2, acc ++ [s[p + 1]], by omega, by go_num, ?_, hbw.trans b1, Nat.le_trans hsz b1.size, by simp; omega, ?_⟩
              · rw [Lib.byteCells_append]; exact Or.inr h1
              · rw [← HA.out, Hd.out, Hx.out, Hde.out, pcLin_bs]
            case measure => simp [intOf]; omega
        · have q92 : ((s[p].toNat : Int) == 92) = false := beq_eq_false_iff_ne.2 fun h => h92 (UInt8.toNat_inj.1 (by show s[p].toNat = 92; omega))
          have H92 := Lib.hid h92
          clear h92 hx256
          have hmn : IntKind.i64.wrap ((p : Int) + 1) = (p : Int) + 1 := IntWalk.i64_in _ (by omega)
          go_wp2_with (go_at_call 25; refine (writeByte_k w'.heap.size w'.heap.size _ _ _ hI hlc hsz).mono ?_)
          rintro e W1 ⟨rfl, h1, b1, _⟩
          go_wp2
          go_roundw
          case rel =>
            refine ⟨p + 1, acc ++ [s[p]], by omega, by go_num, ?_, hbw.trans b1, Nat.le_trans hsz b1.size, by simp; omega, ?_⟩
            · rw [Lib.byteCells_append]; exact Or.inr h1
            · rw [← HA.out, Hd.out, pcLin_else _ _ _ _ H10.out H92.out]
          case measure => simp [intOf]; omega
    · have hlti : ¬ (p : Int) < (s.size : Int) := by omega
      have hpe : p = s.size := by omega
      have Hd := Lib.hid (drop_end s p (by omega))
      have hmn : IntKind.i64.wrap ((p : Int) + 1) = (p : Int) + 1 := IntWalk.i64_in _ (by omega)
      have hle : ¬ (p : Int) + 1 ≤ (s.size : Int) := by omega
      have He := Lib.hid hpe
      clear hpe
      go_wp2_with (go_at_call 25; refine (writeByte_k w'.heap.size w'.heap.size _ _ _ hI hlc hsz).mono ?_; rintro e W1 ⟨rfl, h1, b1, _⟩)
      go_wp2_with (go_at_call 26; refine (builderString_k w'.heap.size w'.heap.size (acc ++ [10]) _ (fin W1 h1) (by have := b1.size; omega)).mono ?_; rintro e W2 ⟨rfl, _, b2, _⟩)
      go_wp2
      go_ret3
      refine ⟨?_, (hbw.trans b1).trans b2⟩
      rw [← HA.out, Hd.out, pcLin]
      exact pcA_mk rfl (by show min ((p : Int) + 1) (s.size : Int) = (p : Int); omega) rfl
theorem plines_no (s : ByteArray) (a : Int) (w : World) (h : ¬ (0 ≤ a ∧ a ≤ (s.size : Int))) :
    Calls Tryd.prog 15 #[.string s, .int .i64 a] w fun e w' => e = pcA ([], 0, 1) ∧ Below w.heap.size w w' := by
  have hP := place_no s a w h
  clear h
  go_enter Tryd.func15, Tryd.ntmps15
  go_wp2_with (go_at_call 21; refine hP.mono ?_; rintro e w' ⟨rfl, rfl⟩)
  go_ret3
  exact ⟨rfl, Below.refl _ _⟩
end Go.Proofs.YtbhmpdbcjchdfaaDoor
