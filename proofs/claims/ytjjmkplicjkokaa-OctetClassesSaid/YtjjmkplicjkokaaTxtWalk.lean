/- Contracts of the calls on texts: Wide and Narrow, of octet and of the document's own answers. -/
import Derived.Test.YtjjmkplicjkokaaRows
import Derived.Test.YtjjmkplicjkokaaTxtMath
import Derived.Test.YtjjmkplicjkokaaBuild
import Derived.Test.YtjjmkplicjkokaaBlk
import Derived.WalkKit
import Derived.WalkSpells
import Derived.WalkLawsBesides
import Derived.BigCall
import Derived.BigQuiet
import Derived.Deep.QuietTactic
import Derived.Lib.Hide
namespace Go.Proofs.Ytjjmkplicjkokaa
open Go.RowKit

theorem ret_str {a b : ByteArray} (h : a = b) : Ending.returned (.string a) = .returned (.string b) := by rw [h]
theorem ret_str_bool {a b : ByteArray} {c d : Bool} (h : a = b) (h2 : c = d) : Ending.returned (.tuple #[.string a, .bool c]) = .returned (.tuple #[.string b, .bool d]) := by rw [h, h2]

theorem extract_one (s : ByteArray) (k : Nat) (h : k < s.size) : s.extract k (k + 1) = txt [s[k]] := by
  refine ByteArray.ext ?_
  have hk : k < s.data.size := h
  simp only [ByteArray.data_extract, txt]
  refine Array.ext (by simp; omega) fun i h1 h2 => ?_
  simp at h2
  subst h2
  simp
  rfl

theorem list_take_snoc (s : ByteArray) (k : Nat) (h : k < s.size) : s.data.toList.take (k + 1) = s.data.toList.take k ++ [s[k]] := by
  rw [List.take_succ_eq_append_getElem (by simpa using h)]; rfl
theorem list_drop_cons (s : ByteArray) (k : Nat) (h : k < s.size) : s.data.toList.drop k = s[k] :: s.data.toList.drop (k + 1) := by
  rw [List.drop_eq_getElem_cons (by simpa using h)]; rfl

set_option maxHeartbeats 4000000 in
set_option maxRecDepth 1000000 in
theorem wide_any (s : ByteArray) (w : World) (hs : s.size ≤ 35184372088832) :
    Calls Try.prog 24 #[.string s] w fun e w' => e = .returned (.string (txt (wideL s.data.toList))) ∧ Below w.heap.size w w' := by
  go_enter Try.func24, Try.ntmps24
  go_wp2
  go_loopw [7] (fun i wr => ∃ k : Nat, k ≤ s.size ∧ i = .int .i64 k ∧ Lib.IsBuilderF 55 5 w.heap.size w.heap.size (Lib.byteCells (wideL (s.data.toList.take k))) wr ∧ Below w.heap.size w wr ∧ w.heap.size ≤ wr.heap.size) (fun i _ => s.size - (intOf i).toNat)
  case atStart =>
    refine ⟨0, by omega, rfl, Lib.IsBuilderF.of (Lib.fresh_isBuilder 55 5 w), (Below.refl _ w).alloc (Nat.le_refl _) _, by simp⟩
  case round =>
    obtain ⟨k, hk, rfl, hI, hbw, hsz⟩ := hrel
    have hlen := wideL_len (s.data.toList.take k)
    have hl2 : (s.data.toList.take k).length ≤ k := List.length_take_le _ _
    have hlc : (Lib.byteCells (wideL (s.data.toList.take k))).length ≤ 2 * k := by rw [Lib.byteCells_length]; omega
    by_cases hlt : k < s.size
    · have hb := s[k].toNat_lt
      have Hn := Lib.hid (show wideL (s.data.toList.take (k + 1)) = wideL (s.data.toList.take k) ++ wide1 s[k] by rw [list_take_snoc s k hlt, wideL_snoc])
      go_wp2_with (go_at_call 39; refine (writeRune_k w.heap.size w.heap.size _ _ (by omega) (by omega) _ hI (by omega) hsz).mono ?_)
      rintro e W1 ⟨rfl, h1, b1, _⟩
      go_wp2
      go_roundw
      case rel =>
        refine ⟨k + 1, by omega, by go_num, ?_, hbw.trans b1, Nat.le_trans hsz b1.size⟩
        rw [Hn.out, Lib.byteCells_append, ← rune_wide, Lib.byteCells_encodeRune]
        exact Or.inr h1
      case measure => simp [intOf]; omega
    · have Hk := Lib.hid (show s.data.toList.take k = s.data.toList from List.take_of_length_le (by rw [← size_list]; omega))
      go_wp2_with (go_at_call 40; refine (builderString_k w.heap.size w.heap.size _ _ hI hsz).mono ?_)
      rintro e W1 ⟨rfl, _, b1, _⟩
      go_wp2
      go_ret
      exact ⟨ret_str (by rw [Hk.out]; rfl), hbw.trans b1⟩

theorem conv_two (W : World) (x y : Int) : (convert 46 9 (.slice (some ⟨W.heap.size, 0, none⟩) 2 2)).run Try.prog (W.alloc (.cells #[.int .u8 x, .int .u8 y] 5)) = .ok (.string (strOfNums [x, y])) (W.alloc (.cells #[.int .u8 x, .int .u8 y] 5)) :=
  run_convert_bytes_arg _ 46 5 Try.underlying46 Try.underlying5 _ 0 2 2 [x, y] rfl (fun i hi => by
    rw [(Blk.new W _ _ _ rfl).cell]
    match i, hi with
    | 0, _ => rfl
    | 1, _ => rfl) _ Try.underlying9

set_option maxRecDepth 100000 in
set_option maxHeartbeats 1000000 in
theorem rwide_any (s : ByteArray) (w : World) (hs : s.size ≤ 35184372088832) :
    Calls Try.prog 26 #[.string s] w fun e w' => e = .returned (.string (txt (wideL s.data.toList))) ∧ Below w.heap.size w w' := by
  go_enter Try.func26, Try.ntmps26
  go_wp2
  go_loopw [3, 8] (fun o i wr => ∃ k : Nat, k ≤ s.size ∧ i = .int .i64 k ∧ o = .string (txt (wideL (s.data.toList.take k))) ∧ Below w.heap.size w wr ∧ w.heap.size ≤ wr.heap.size) (fun _ i _ => s.size - (intOf i).toNat)
  case atStart => exact ⟨0, by omega, rfl, rfl, Below.refl _ _, Nat.le_refl _⟩
  case round =>
    obtain ⟨k, hk, rfl, rfl, hbw, hsz⟩ := hrel
    have hlen := wideL_len (s.data.toList.take k)
    have hl2 : (s.data.toList.take k).length ≤ k := List.length_take_le _ _
    have hA : (txt (wideL (s.data.toList.take k))).size ≤ 70368744177664 := by rw [txt_size]; omega
    by_cases hlt : k < s.size
    · have hb := s[k].toNat_lt
      have Hn := Lib.hid (show wideL (s.data.toList.take (k + 1)) = wideL (s.data.toList.take k) ++ wide1 s[k] by rw [list_take_snoc s k hlt, wideL_snoc])
      have Hx := Lib.hid (extract_one s k hlt)
      by_cases hl : s[k].toNat < 128
      · have hl' : (s[k].toNat : Int) < 128 := by omega
        have H1 := Lib.hid (show wide1 s[k] = [s[k]] from if_pos hl)
        go_wp2
        go_roundw
        case rel => exact ⟨k + 1, by omega, by go_num, by rw [Hn.out, H1.out, Hx.out, txt_append], hbw, hsz⟩
        case measure => simp [intOf]; omega
      · have hl' : ¬ (s[k].toNat : Int) < 128 := by omega
        have H1 := Lib.hid (show strOfNums [192 + (s[k].toNat : Int) / 64, 128 + (s[k].toNat : Int) % 64] = txt (wide1 s[k]) by
          rw [wide1, if_neg hl]
          unfold strOfNums txt
          rw [show (192 + (s[k].toNat : Int) / 64) = ((192 + s[k].toNat / 64 : Nat) : Int) by omega, show (128 + (s[k].toNat : Int) % 64) = ((128 + s[k].toNat % 64 : Nat) : Int) by omega]
          rfl)
        have hB : (strOfNums [192 + (s[k].toNat : Int) / 64, 128 + (s[k].toNat : Int) % 64]).size ≤ 2 := by rw [strOfNums_size]; simp
        have kc := conv_two wr
        go_wp2
        go_roundw
        case rel => exact ⟨k + 1, by omega, by go_num, by rw [Hn.out, H1.out, txt_append], hbw.alloc hsz _, by simp; omega⟩
        case measure => simp [intOf]; omega
    · have Hk := Lib.hid (show s.data.toList.take k = s.data.toList from List.take_of_length_le (by rw [← size_list]; omega))
      go_wp2
      go_ret
      exact ⟨ret_str (by rw [Hk.out]), hbw⟩

/-- What narrowing answers: the text, or the empty one; and whether there is one. -/
def narrowS (l : List UInt8) : List UInt8 := (narrowL l).getD []
def narrowOk (l : List UInt8) : Bool := (narrowL l).isSome

set_option maxHeartbeats 4000000 in
set_option maxRecDepth 1000000 in
theorem narrow_any (s : ByteArray) (w : World) (hs : s.size ≤ 35184372088832) :
    Calls Try.prog 25 #[.string s] w fun e w' => e = .returned (.tuple #[.string (txt (narrowS s.data.toList)), .bool (narrowOk s.data.toList)]) ∧ Below w.heap.size w w' := by
  go_enter Try.func25, Try.ntmps25
  go_wp2
  go_loopw [] (fun wr => ∃ (pos : Nat) (acc : List UInt8), Lib.IsBuilderF 55 5 w.heap.size w.heap.size (Lib.byteCells acc) wr ∧ wr.heap[w.heap.size + 1]? = some (.stringIter s pos) ∧ Below w.heap.size w wr ∧ (narrowL (s.data.toList.drop pos)).map (acc ++ ·) = narrowL s.data.toList ∧ acc.length ≤ pos ∧ acc.length ≤ s.size) (fun wr => s.size - wr.iterPos (w.heap.size + 1))
  case atStart =>
    refine ⟨0, [], (Lib.IsBuilderF.of (Lib.fresh_isBuilder 55 5 w)).alloc _, ?_, ((Below.refl _ w).alloc (Nat.le_refl _) _).alloc (by simp) _, ?_, by simp, by simp⟩
    · have := World.iter_heap (w.alloc (.cells #[.pointer none, .slice none 0 0] 55)) s 0
      simpa using this
    · rw [List.drop_zero]
      cases narrowL s.data.toList <;> rfl
  case round =>
    obtain ⟨pos, acc, hI, hit, hbw, hacc, hal, hal2⟩ := hrel
    have Hacc := Lib.hid hacc
    clear hacc
    have hsz : w.heap.size + 1 < wr.heap.size := (Array.getElem?_eq_some_iff.1 hit).1
    by_cases hp : pos < s.size
    · have hnx : ∀ ty, (Instr.next (.pointer (some ⟨w.heap.size + 1, 0, none⟩)) true ty).run Try.prog wr = _ := fun ty => Lib.run_next_any_at wr (w.heap.size + 1) s pos ty hit hp
      have hd1 := decode_le s pos
      have hI2 := hI.iterAt hit (pos + (Utf8.decode s pos).2)
      have hit2 := Lib.iterAt_heap wr (w.heap.size + 1) s pos (pos + (Utf8.decode s pos).2) hit
      have hbw2 := Lib.below_iterAt hbw (k := w.heap.size + 1) (by omega) s (pos + (Utf8.decode s pos).2)
      have hsz2 : w.heap.size ≤ (wr.iterAt (w.heap.size + 1) s (pos + (Utf8.decode s pos).2)).heap.size := by rw [Lib.iterAt_size]; omega
      rcases narrow_step s pos hp with ⟨hbig, hno⟩ | ⟨hsm, hwd, hyes⟩
      · have Hno := Lib.hid hno
        clear hno
        have Hall := Lib.hid (show narrowL s.data.toList = none by rw [← Hacc.out, Hno.out]; rfl)
        go_wp2
        go_ret2
        exact ⟨ret_str_bool (by rw [narrowS, Hall.out]; rfl) (by rw [narrowOk, Hall.out]; rfl), hbw2⟩
      · have Hyes := Lib.hid hyes
        clear hyes
        have hlc : (Lib.byteCells acc).length + 1 ≤ 140737488355328 := by rw [Lib.byteCells_length]; omega
        go_wp2_with (go_at_call 41; refine (writeByte_k w.heap.size w.heap.size _ _ _ hI2 hlc hsz2).mono ?_)
        rintro e W1 ⟨rfl, h1, b1, k1⟩
        go_wp2
        go_roundw
        case rel =>
          refine ⟨pos + (Utf8.decode s pos).2, acc ++ [UInt8.ofNat (Utf8.decode s pos).1], ?_, k1.iter hit2 (by omega), hbw2.trans b1, ?_, by simp; omega, by simp; omega⟩
          · rw [Lib.byteCells_append]
            refine Or.inr ?_
            have e1 : Lib.byteCells [UInt8.ofNat (Utf8.decode s pos).1] = [.int .u8 ((Utf8.decode s pos).1 : Int)] := by
              simp only [Lib.byteCells, List.map_cons, List.map_nil]
              rw [ofNat_toNat _ (by omega)]
            rw [e1]
            exact h1
          · rw [← Hacc.out, Hyes.out]
            cases narrowL (s.data.toList.drop (pos + (Utf8.decode s pos).2)) <;> simp
        case measure =>
          simp only [World.iterPos, k1.iter hit2 (by omega), hit]
          omega
    · have hnx : ∀ ty, (Instr.next (.pointer (some ⟨w.heap.size + 1, 0, none⟩)) true ty).run Try.prog wr = _ := fun ty => Lib.run_next_end_at wr (w.heap.size + 1) s pos ty hit hp
      have Hall := Lib.hid (show narrowL s.data.toList = some acc by
        rw [← Hacc.out, List.drop_eq_nil_of_le (by rw [← size_list]; omega)]; simp [narrowL])
      go_wp2_with (go_at_call 40; refine (builderString_k w.heap.size w.heap.size acc _ hI (by omega)).mono ?_)
      rintro e W1 ⟨rfl, _, b1, _⟩
      go_wp2
      go_ret2
      exact ⟨ret_str_bool (by rw [narrowS, Hall.out]; rfl) (by rw [narrowOk, Hall.out]; rfl), hbw.trans b1⟩

def strLen : Value → Nat | .string s => s.size | _ => 0
theorem extract_list (s : ByteArray) (k : Nat) : (s.extract k s.size).data.toList = s.data.toList.drop k := by
  rw [ByteArray.data_extract, Array.toList_extract, List.extract_eq_take_drop]
  exact List.take_of_length_le (by rw [List.length_drop]; exact Nat.le_refl _)
theorem extract_size (s : ByteArray) (k : Nat) : (s.extract k s.size).size = s.size - k := by
  rw [size_list, extract_list, List.length_drop, ← size_list]
theorem extract_first (s : ByteArray) (h : 0 < s.size) : s.extract 0 1 = txt [s[0]] := extract_one s 0 h
theorem first_list (s : ByteArray) (h : 0 < s.size) : s.data.toList = s[0] :: (s.extract 1 s.size).data.toList := by
  have := list_drop_cons s 0 h
  rw [List.drop_zero] at this
  rw [extract_list]
  exact this
theorem second_list (s : ByteArray) (h : 1 < s.size) : s.data.toList = s[0] :: s[1] :: (s.extract 2 s.size).data.toList := by
  rw [first_list s (by omega), extract_list, extract_list, list_drop_cons s 1 h]
theorem nonempty_test (s : ByteArray) (h : 0 < s.size) : (!s.toList.isEmpty) = true := by
  rw [ByteArray.toList_eq, first_list s h]; rfl
theorem empty_test (s : ByteArray) (h : ¬ 0 < s.size) : (!s.toList.isEmpty) = false := by
  have : s.data.toList = [] := List.eq_nil_of_length_eq_zero (by rw [← size_list]; omega)
  rw [ByteArray.toList_eq, this]; rfl

theorem conv_one (W : World) (x : Int) : (convert 46 9 (.slice (some ⟨W.heap.size, 0, none⟩) 1 1)).run Try.prog (W.alloc (.cells #[.int .u8 x] 5)) = .ok (.string (strOfNums [x])) (W.alloc (.cells #[.int .u8 x] 5)) :=
  run_convert_bytes_arg _ 46 5 Try.underlying46 Try.underlying5 _ 0 1 1 [x] rfl (fun i hi => by
    rw [(Blk.new W _ _ _ rfl).cell]
    match i, hi with
    | 0, _ => rfl) _ Try.underlying9

theorem conv_size (b c : Int) : (strOfNums [((b - 192) % 256 * 64 + c - 128) % 256]).size ≤ 1 := by rw [strOfNums_size]; simp
theorem conv_byte (b c : Int) (x y : Nat) (hb : b = (x : Int)) (hc : c = (y : Int)) (h : x = 194 ∨ x = 195) (h4 : 128 ≤ y) (h5 : y < 192) :
    strOfNums [((b - 192) % 256 * 64 + c - 128) % 256] = txt [UInt8.ofNat ((x - 192) * 64 + y - 128)] := by
  rw [show ((b - 192) % 256 * 64 + c - 128) % 256 = (((x - 192) * 64 + y - 128 : Nat) : Int) by omega]
  rfl

set_option maxRecDepth 100000 in
set_option maxHeartbeats 2000000 in
theorem rnarrow_any (s : ByteArray) (w : World) (hs : s.size ≤ 35184372088832) :
    Calls Try.prog 27 #[.string s] w fun e w' => e = .returned (.tuple #[.string (txt (narrowS s.data.toList)), .bool (narrowOk s.data.toList)]) ∧ Below w.heap.size w w' := by
  go_enter Try.func27, Try.ntmps27
  go_wp2
  go_loopw [0, 4] (fun t o wr => ∃ (t0 : ByteArray) (acc : List UInt8), t = .string t0 ∧ o = .string (txt acc) ∧ Below w.heap.size w wr ∧ w.heap.size ≤ wr.heap.size ∧ (narrowL t0.data.toList).map (acc ++ ·) = narrowL s.data.toList ∧ acc.length + t0.size ≤ s.size) (fun t _ _ => strLen t)
  case atStart =>
    refine ⟨s, [], rfl, rfl, Below.refl _ _, Nat.le_refl _, ?_, by simp⟩
    cases narrowL s.data.toList <;> rfl
  case round =>
    obtain ⟨t0, acc, rfl, rfl, hbw, hsz, hacc, hle⟩ := hrel
    have Hacc := Lib.hid hacc
    clear hacc
    by_cases h0 : 0 < t0.size
    · have hb := t0[0].toNat_lt
      have hA : (txt acc).size ≤ 70368744177664 := by rw [txt_size]; omega
      have hne := nonempty_test t0 h0
      have Hf := Lib.hid (first_list t0 h0)
      have Hs1 := Lib.hid (extract_size t0 1)
      by_cases hl : t0[0].toNat < 128
      · have hl' : (t0[0].toNat : Int) < 128 := by omega
        have Hx := Lib.hid (extract_first t0 h0)
        go_wp2
        refine ⟨⟨t0.extract 1 t0.size, acc ++ [t0[0]], rfl, by rw [Hx.out, txt_append], hbw, hsz, ?_, ?_⟩, ?_⟩
        · rw [← Hacc.out, Hf.out, narrow_low _ _ hl]
          cases narrowL (t0.extract 1 t0.size).data.toList <;> simp
        · rw [Hs1.out]; simp; omega
        · simp only [strLen]; rw [Hs1.out]; omega
      · have hl' : ¬ (t0[0].toNat : Int) < 128 := by omega
        by_cases hgood : 1 < t0.size ∧ (t0[0].toNat = 194 ∨ t0[0].toNat = 195)
        · obtain ⟨h3, h2⟩ := hgood
          have h3' : (1 : Int) < (t0.size : Int) := by omega
          have hc := t0[1].toNat_lt
          have Hs2 := Lib.hid (extract_size t0 2)
          have Hf2 := Lib.hid (second_list t0 h3)
          have Hno : ∀ hh : ¬ (128 ≤ t0[1].toNat ∧ t0[1].toNat < 192), narrowL s.data.toList = none := fun hh => by
            rw [← Hacc.out, Hf.out, narrow_bad _ _ hl]
            · rfl
            · intro c r hcr hbad
              have := Hf2.out
              rw [Hf.out, hcr] at this
              simp only [List.cons.injEq] at this
              rw [this.2.1] at hbad
              exact hh hbad.2
          have HNo := Lib.hid Hno
          clear Hno
          by_cases h4 : 128 ≤ t0[1].toNat
          · have h4' : (128 : Int) ≤ (t0[1].toNat : Int) := by omega
            by_cases h5 : t0[1].toNat < 192
            · have h5' : (t0[1].toNat : Int) < 192 := by omega
              have Hstep := Lib.hid (narrow_two t0[0] t0[1] (t0.extract 2 t0.size).data.toList h2 h4 h5)
              have hB := conv_size (t0[0].toNat : Int) (t0[1].toNat : Int)
              have HE := Lib.hid (conv_byte (t0[0].toNat : Int) (t0[1].toNat : Int) _ _ rfl rfl h2 h4 h5)
              have kc := conv_one wr
              have e12 : ((t0[0].toNat : Int) == 194) = true ∨ (((t0[0].toNat : Int) == 194) = false ∧ ((t0[0].toNat : Int) == 195) = true) := by
                rcases h2 with h2 | h2
                · left; rw [h2]; rfl
                · right; rw [h2]; exact ⟨rfl, rfl⟩
              have H2 := Lib.hid h2
              clear h2
              rcases e12 with e1 | ⟨e1, e2⟩
              all_goals
                go_wp2
                refine ⟨⟨t0.extract 2 t0.size, acc ++ [UInt8.ofNat ((t0[0].toNat - 192) * 64 + t0[1].toNat - 128)], rfl, by rw [HE.out, txt_append], hbw.alloc hsz _, by simp; omega, ?_, ?_⟩, ?_⟩
                · rw [← Hacc.out, Hf2.out, Hstep.out]
                  cases narrowL (t0.extract 2 t0.size).data.toList <;> simp
                · rw [Hs2.out]; simp; omega
                · simp only [strLen]; rw [Hs2.out]; omega
            · have h5' : ¬ (t0[1].toNat : Int) < 192 := by omega
              have Hall := Lib.hid (HNo.out (by omega))
              have e12 : ((t0[0].toNat : Int) == 194) = true ∨ (((t0[0].toNat : Int) == 194) = false ∧ ((t0[0].toNat : Int) == 195) = true) := by
                rcases h2 with h2 | h2
                · left; rw [h2]; rfl
                · right; rw [h2]; exact ⟨rfl, rfl⟩
              clear h2
              rcases e12 with e1 | ⟨e1, e2⟩
              all_goals
                go_wp2
                go_ret2
                exact ⟨ret_str_bool (by rw [narrowS, Hall.out]; rfl) (by rw [narrowOk, Hall.out]; rfl), hbw⟩
          · have h4' : ¬ (128 : Int) ≤ (t0[1].toNat : Int) := by omega
            have Hall := Lib.hid (HNo.out (by omega))
            have e12 : ((t0[0].toNat : Int) == 194) = true ∨ (((t0[0].toNat : Int) == 194) = false ∧ ((t0[0].toNat : Int) == 195) = true) := by
              rcases h2 with h2 | h2
              · left; rw [h2]; rfl
              · right; rw [h2]; exact ⟨rfl, rfl⟩
            clear h2
            rcases e12 with e1 | ⟨e1, e2⟩
            all_goals
              go_wp2
              go_ret2
              exact ⟨ret_str_bool (by rw [narrowS, Hall.out]; rfl) (by rw [narrowOk, Hall.out]; rfl), hbw⟩
        · have Hall := Lib.hid (show narrowL s.data.toList = none by
            rw [← Hacc.out, Hf.out, narrow_bad _ _ hl]
            · rfl
            · intro c r hcr hbad
              refine hgood ⟨?_, hbad.1⟩
              have := Hs1.out
              rw [size_list, hcr, List.length_cons] at this
              omega)
          have e12 : (((t0[0].toNat : Int) == 194) = true ∧ ¬ 1 < t0.size) ∨ (((t0[0].toNat : Int) == 194) = false ∧ ((t0[0].toNat : Int) == 195) = true ∧ ¬ 1 < t0.size) ∨ (((t0[0].toNat : Int) == 194) = false ∧ ((t0[0].toNat : Int) == 195) = false) := by
            by_cases a1 : t0[0].toNat = 194
            · left; refine ⟨by rw [a1]; rfl, by omega⟩
            · right
              by_cases a2 : t0[0].toNat = 195
              · left; refine ⟨by rw [a2]; rfl, by rw [a2]; rfl, by omega⟩
              · right; refine ⟨?_, ?_⟩ <;> (rw [beq_eq_false_iff_ne]; omega)
          clear hgood
          rcases e12 with ⟨e1, e3⟩ | ⟨e1, e2, e3⟩ | ⟨e1, e2⟩
          all_goals
            go_wp2
            go_ret2
            exact ⟨ret_str_bool (by rw [narrowS, Hall.out]; rfl) (by rw [narrowOk, Hall.out]; rfl), hbw⟩
    · have hne := empty_test t0 h0
      have Hall := Lib.hid (show narrowL s.data.toList = some acc by
        rw [← Hacc.out, show t0.data.toList = [] from List.eq_nil_of_length_eq_zero (by rw [← size_list]; omega)]; simp [narrowL])
      go_wp2
      go_ret2
      exact ⟨ret_str_bool (by rw [narrowS, Hall.out]; rfl) (by rw [narrowOk, Hall.out]; rfl), hbw⟩

end Go.Proofs.Ytjjmkplicjkokaa
