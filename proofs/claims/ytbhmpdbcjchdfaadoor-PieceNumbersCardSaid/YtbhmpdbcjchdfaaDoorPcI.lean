/- strings.IndexAny of a text of any bytes and two ASCII bytes: what a name's end wants (the library's contracts ask for a text of ASCII bytes, or for more than eight). -/
import Derived.Test.YtbhmpdbcjchdfaaDoorPcW
import Derived.Laws.Runes
import Derived.Shelf.Small.Utf8
import Derived.Deep.LoopGhost
import Derived.WalkMore
namespace Go.Proofs.YtbhmpdbcjchdfaaDoor
open Go.RowKit

set_option maxRecDepth 1000000 in
set_option maxHeartbeats 4000000 in
/-- The rune that is no rune: none of the two. -/
theorem indexRune_err (t : ByteArray) (ht : t.size = 2) (ha : ∀ i (h : i < t.size), t[i].toNat < 128) (w : World) :
    Calls Tryd.prog 46 #[.string t, .int .i32 65533] w fun e w' => e = .returned (.int .i64 (-1)) ∧ Below w.heap.size w w' := by
  go_enter Tryd.func46, Tryd.ntmps46
  have HA := Lib.hid ha
  clear ha
  go_wp2
  go_loopg [5, 6] 2 (fun g _ _ wx => ∃ i : Nat, i + g = 2 ∧ wx = w.iter t i)
  case atStart => exact ⟨0, by omega, rfl⟩
  case round =>
    obtain ⟨i, hig, rfl⟩ := hrel
    cases gk with
    | zero =>
      obtain rfl : i = 2 := by omega
      have hnx := fun ty => run_next_end (P := Tryd.prog) w t 2 ty (by omega)
      go_wp2
      go_ret
      exact ⟨rfl, (Below.refl _ w).alloc (Nat.le_refl _) _⟩
    | succ g =>
      have hi : i < t.size := by omega
      have h128 := HA.out i hi
      have hnx := fun ty => run_next_ascii (P := Tryd.prog) w t i ty hi h128
      have hq : ((t[i].toNat : Int) == 65533) = false := beq_eq_false_iff_ne.2 (by omega)
      go_wp2
      go_roundg g
      case measure => omega
      case rel => exact ⟨i + 1, by omega, rfl⟩

set_option maxRecDepth 1000000 in
set_option maxHeartbeats 4000000 in
/-- Any other rune beyond ASCII. -/
theorem indexRune_hi (t : ByteArray) (ht : t.size = 2) (ha : ∀ i (h : i < t.size), t[i].toNat < 128) (r : Int) (hv : Utf8.valid r = true) (h128 : 128 ≤ r) (hm : r ≤ 1114111) (hne : ¬ r = 65533) (w : World) :
    Calls Tryd.prog 46 #[.string t, .int .i32 r] w fun e w' => e = .returned (.int .i64 (-1)) ∧ Below w.heap.size w w' := by
  obtain ⟨e2, e4, elast⟩ := encode_facts r hv h128
  have hq : (r == 65533) = false := beq_eq_false_iff_ne.2 hne
  have hV : Calls Tryd.prog 53 #[.int .i32 r] w fun e w' => e = .returned (.bool true) ∧ w' = w := by
    have := Any.utf8_ValidRune (P := Tryd.prog) (ρ := pren161) { play161 with } r w
    rw [show Lib.validRune r = true from by rw [← hv, validRune_eq]; rfl] at this
    exact this
  generalize hE : Utf8.encode r = E at e2 e4 elast
  have hc1 : (r < 128) = False := eq_false (by omega)
  have h0 : (0 : Int) ≤ r := by omega
  have hL1 : IntKind.i64.wrap ((E.size : Int) - 1) = (E.size : Int) - 1 := IntWalk.i64_in _ (by omega)
  clear hne hv
  have hcv : ∀ w, (convert 21 9 (.int .i32 r)).run Tryd.prog w = .ok (.string E) w := fun w => by
    rw [← hE]; exact run_convert_int_string w 21 9 .i32 r (by rw [Tryd.underlying21]; rfl) Tryd.underlying9
  go_enter Tryd.func46, Tryd.ntmps46
  by_cases hs2 : E.size = 2
  · have hlast := elast (by omega)
    have hL2 : IntKind.i64.wrap ((E.size : Int) - 1) = 1 := by rw [hL1]; omega
    have h1a := ha 1 (by omega)
    have hq59 : ((t[1]'(by omega)).toNat : Int) != (E[1]'(by omega)).toNat := bne_iff_ne.2 (by
      have : (E[E.size - 1]'(by omega)) = E[1]'(by omega) := by congr 1; omega
      rw [this] at hlast; omega)
    have hlt1 : (1 : Int) < (E.size : Int) := by omega
    have htt : (t.size : Int) = 2 := by omega
    have hw2 : IntKind.i64.wrap 2 = 2 := by decide
    have hle2 : (2 : Int) ≤ (t.size : Int) := by omega
    have hIB : ∀ (c : UInt8) w, Calls Tryd.prog 44 #[.string ByteArray.empty, .int .u8 c.toNat] w fun e w' => e = .returned (.int .i64 (-1)) ∧ w' = w := fun c w =>
      indexByte_k ByteArray.empty c w
    clear hlast elast hE ha h1a
    go_wp2_with (go_at_call 53; refine hV.mono ?_; rintro e w' ⟨rfl, rfl⟩)
    go_step3
    go_wp2
    refine wp_loop_rounds 1 ?_
    rw [rounds_succ]
    go_wp2
    go_step3
    go_wp2
    go_quiet (fail)
    generalize hW1 : w'.drewN _ = W1
    go_wp2
    go_quiet (first | (go_at_call 44; exact Calls.quiet_of_same (hIB _ _)))
    go_wp2
    simp only [Exit.inBlock, Exit.then, Exit.noGoto]
    go_ret
    refine ⟨rfl, below_drewN ?_ _⟩
    rw [← hW1]
    exact below_drewN (Below.refl _ _) _
  · have hge : ¬ ((E.size : Int) - 1 < (t.size : Int)) := by omega
    clear elast hE ha
    go_wp2_with (go_at_call 53; refine hV.mono ?_; rintro e w' ⟨rfl, rfl⟩)
    go_step3
    go_wp2
    refine wp_loop_rounds 1 ?_
    rw [rounds_succ]
    go_wp2
    try rw [Exit.noGoto_ret]
    go_ret
    exact ⟨rfl, Below.refl _ _⟩

theorem decodeN_hiB (n b c d e : Nat) (hn : 1 ≤ n) (h : ¬ b < 128) (hb : b < 256) :
    128 ≤ (Lib.decodeN n b c d e).1 ∧ (Lib.decodeN n b c d e).1 ≤ 1114111 ∧ ((Lib.decodeN n b c d e).1 < 55296 ∨ 57343 < (Lib.decodeN n b c d e).1) ∧ 1 ≤ (Lib.decodeN n b c d e).2 ∧ (Lib.decodeN n b c d e).2 ≤ n ∧ (Lib.decodeN n b c d e).2 ≤ 4 ∧
      (2 ≤ (Lib.decodeN n b c d e).2 → 128 ≤ c) ∧ (3 ≤ (Lib.decodeN n b c d e).2 → 128 ≤ d) ∧ (4 ≤ (Lib.decodeN n b c d e).2 → 128 ≤ e) := by
  unfold Lib.decodeN
  rw [if_neg h]
  repeat' split
  all_goals (simp only; omega)
theorem decode_hiB (s : ByteArray) (pos : Nat) (hp : pos < s.size) (h : ¬ s[pos].toNat < 128) :
    128 ≤ (Utf8.decode s pos).1 ∧ (Utf8.decode s pos).1 ≤ 1114111 ∧ Utf8.valid ((Utf8.decode s pos).1 : Int) = true ∧ 1 ≤ (Utf8.decode s pos).2 ∧ pos + (Utf8.decode s pos).2 ≤ s.size ∧
      ∀ (j : Nat) b, pos ≤ j → j < pos + (Utf8.decode s pos).2 → s.data.toList[j]? = some b → 128 ≤ b.toNat := by
  have hx : s.data.toList[pos]? = some s[pos] := Lib.data_getElem? s pos hp
  have h0 : (s.data.toList.getD pos 0) = s[pos] := by rw [List.getD_eq_getElem?_getD, hx]; rfl
  have H := decodeN_hiB (s.data.toList.length - pos) (s.data.toList.getD pos 0).toNat (s.data.toList.getD (pos + 1) 0).toNat (s.data.toList.getD (pos + 2) 0).toNat (s.data.toList.getD (pos + 3) 0).toNat (by rw [← size_list]; omega) (by rw [h0]; exact h) (UInt8.toNat_lt _)
  rw [← decode_list] at H
  obtain ⟨h1, h2, h3, h4, h5, h6, h7, h8, h9⟩ := H
  rw [← size_list] at h5
  refine ⟨h1, h2, ?_, h4, by omega, fun j b hj1 hj2 hb => ?_⟩
  · simp only [Utf8.valid, Bool.or_eq_true, Bool.and_eq_true, decide_eq_true_eq]; omega
  · have hg : ∀ k, j = k → (s.data.toList.getD k 0) = b := fun k hk => by rw [List.getD_eq_getElem?_getD, ← hk, hb]; rfl
    by_cases c0 : j = pos
    · rw [← hg pos c0, h0]; omega
    by_cases c1 : j = pos + 1
    · rw [← hg (pos + 1) c1]; exact h7 (by omega)
    by_cases c2 : j = pos + 2
    · rw [← hg (pos + 2) c2]; exact h8 (by omega)
    · rw [← hg (pos + 3) (by omega)]; exact h9 (by omega)

theorem asc_two : ∀ i (h : i < (⟨#[10, 59]⟩ : ByteArray).size), (⟨#[10, 59]⟩ : ByteArray)[i].toNat < 128 := fun i h => by
  match i, h with
  | 0, _ => exact of_decide_eq_true rfl
  | 1, _ => exact of_decide_eq_true rfl
theorem asc_name : ∀ (j : Nat) b, (⟨#[10, 59]⟩ : ByteArray).data.toList[j]? = some b → b.toNat < 128 := ascii_of_all (by decide)
theorem asc_line : ∀ (j : Nat) b, (⟨#[10]⟩ : ByteArray).data.toList[j]? = some b → b.toNat < 128 := ascii_of_all (by decide)

set_option maxRecDepth 1000000 in
set_option maxHeartbeats 4000000 in
theorem indexAny_short (s : ByteArray) (w : World) (h8 : s.size ≤ 8) :
    Calls Tryd.prog 34 #[.string s, .string ⟨#[10, 59]⟩] w fun e w' => e = .returned (.int .i64 (Lib.indexAny s.data.toList [10, 59])) ∧ Below w.heap.size w w' := by
  have h8z : decide ((8 : Int) < (s.size : Int)) = false := decide_eq_false (by omega)
  have hU := Any.strings_shouldUseASCIISet (P := Tryd.prog) (ρ := pren153) { play153 with } (s.size : Int) w
  rw [h8z] at hU
  have hA : ∀ (x : UInt8) w, x.toNat < 128 → Calls Tryd.prog 46 #[.string ⟨#[10, 59]⟩, .int .i32 x.toNat] w fun e w' => e = .returned (.int .i64 (Lib.indexByte [10, 59] x)) ∧ w' = w := fun x w h => by
    have := Any.strings_IndexRune_ascii (P := Tryd.prog) (ρ := pren153) { play153 with } ⟨#[10, 59]⟩ (x.toNat : Int) w (by omega) (by omega)
    rw [Lib.byte_back'] at this
    exact this
  have hH : ∀ (r : Int) w, Utf8.valid r = true → 128 ≤ r → r ≤ 1114111 → Calls Tryd.prog 46 #[.string ⟨#[10, 59]⟩, .int .i32 r] w fun e w' => e = .returned (.int .i64 (-1)) ∧ Below w.heap.size w w' := fun r w hv h1 h2 => by
    by_cases h : r = 65533
    · rw [h]; exact indexRune_err ⟨#[10, 59]⟩ rfl asc_two w
    · exact indexRune_hi ⟨#[10, 59]⟩ rfl asc_two r hv h1 h2 h w
  go_enter Tryd.func34, Tryd.ntmps34
  go_wp2_with (go_at_call 47; refine hU.mono ?_; rintro e w' ⟨rfl, rfl⟩)
  go_loopw [9, 10] (fun _ _ wr => ∃ pos : Nat, wr.heap[w'.heap.size]? = some (.stringIter s pos) ∧ Below w'.heap.size w' wr ∧ pos ≤ s.size ∧ Lib.NoAny s.data.toList [10, 59] pos) (fun _ _ wr => s.size - wr.iterPos w'.heap.size)
  case atStart =>
    refine ⟨0, ?_, (Below.refl _ w').alloc (Nat.le_refl _) _, by omega, Lib.NoAny.zero _ _⟩
    have := World.iter_heap w' s 0
    simpa using this
  case round =>
    obtain ⟨pos, hit, hbw, hple, hno⟩ := hrel
    have HN := Lib.hid hno
    clear hno
    have hsz : w'.heap.size < wr.heap.size := (Array.getElem?_eq_some_iff.1 hit).1
    by_cases hp : pos < s.size
    · obtain ⟨x, hx⟩ : ∃ x, s[pos] = x := ⟨_, rfl⟩
      have hxl : s.data.toList[pos]? = some x := by rw [← hx]; exact Lib.data_getElem? s pos hp
      by_cases h128 : x.toNat < 128
      · have hnx : ∀ ty, (Instr.next (.pointer (some ⟨w'.heap.size, 0, none⟩)) true ty).run Tryd.prog wr = _ := fun ty => Lib.run_next_ascii_at wr w'.heap.size s pos ty hit hp (by rw [hx]; exact h128)
        rw [hx] at hnx
        have Hx := Lib.hid hxl
        have hA1 := hA x (wr.iterAt w'.heap.size s (pos + 1)) h128
        have hit2 := Lib.iterAt_heap wr w'.heap.size s pos (pos + 1) hit
        have hbw2 := Lib.below_iterAt hbw (k := w'.heap.size) (by omega) s (pos + 1)
        clear hxl hx hA hH
        cases hin : ([10, 59] : List UInt8).contains x with
        | true =>
          have hge : (0 : Int) ≤ Lib.indexByte [10, 59] x := of_decide_eq_true ((Lib.contains_iff_indexByte _ _).symm.trans hin)
          have Hin := Lib.hid hin
          clear hin
          generalize Lib.indexByte [10, 59] x = ix at *
          go_wp2_with (go_at_call 46; refine hA1.mono ?_; rintro e w' ⟨rfl, rfl⟩)
          go_ret
          exact ⟨by rw [Lib.indexAny_hit HN.out Hx.out Hin.out]; rfl, hbw2⟩
        | false =>
          have hlt : ¬ (0 : Int) ≤ Lib.indexByte [10, 59] x := of_decide_eq_false ((Lib.contains_iff_indexByte _ _).symm.trans hin)
          have Hin := Lib.hid hin
          clear hin
          generalize Lib.indexByte [10, 59] x = ix at *
          go_wp2_with (go_at_call 46; refine hA1.mono ?_; rintro e w' ⟨rfl, rfl⟩)
          go_roundw
          case rel => exact ⟨pos + 1, hit2, hbw2, by omega, HN.out.succ Hx.out Hin.out⟩
          case measure => simp only [World.iterPos, hit2, hit]; omega
      · have hnx : ∀ ty, (Instr.next (.pointer (some ⟨w'.heap.size, 0, none⟩)) true ty).run Tryd.prog wr = _ := fun ty => Lib.run_next_any_at wr w'.heap.size s pos ty hit hp
        obtain ⟨d1, d2, d3, d4, d5, d6⟩ := decode_hiB s pos hp (by rw [hx]; exact h128)
        have hH1 := hH ((Utf8.decode s pos).1 : Int) (wr.iterAt w'.heap.size s (pos + (Utf8.decode s pos).2)) d3 (by omega) (by omega)
        have hit2 := Lib.iterAt_heap wr w'.heap.size s pos (pos + (Utf8.decode s pos).2) hit
        have hbw2 := Lib.below_iterAt hbw (k := w'.heap.size) (by omega) s (pos + (Utf8.decode s pos).2)
        have hsz2 : w'.heap.size < (wr.iterAt w'.heap.size s (pos + (Utf8.decode s pos).2)).heap.size := by rw [Lib.iterAt_size]; exact hsz
        have Hno := Lib.hid (show Lib.NoAny s.data.toList [10, 59] (pos + (Utf8.decode s pos).2) from fun j b hj hb => by
          by_cases hjp : j < pos
          · exact HN.out j b hjp hb
          · have := d6 j b (by omega) hj hb
            cases hc : ([10, 59] : List UInt8).contains b with
            | false => rfl
            | true =>
              simp at hc
              rcases hc with rfl | rfl <;> simp at this)
        clear d1 d2 d3 d6 hxl hx hA hH h128 HN
        generalize (Utf8.decode s pos).1 = dr at *
        generalize (Utf8.decode s pos).2 = dn at *
        go_wp2_with (go_at_call 46; refine hH1.mono ?_; rintro e w1 ⟨rfl, hb1⟩)
        have hit3 : w1.heap[w'.heap.size]? = some (.stringIter s (pos + dn)) := by rw [hb1.block _ hsz2]; exact hit2
        go_roundw
        case rel => exact ⟨pos + dn, hit3, hbw2.trans (hb1.mono (by omega)), d5, Hno.out⟩
        case measure => simp only [World.iterPos, hit3, hit]; omega
    · have hnx : ∀ ty, (Instr.next (.pointer (some ⟨w'.heap.size, 0, none⟩)) true ty).run Tryd.prog wr = _ := fun ty => Lib.run_next_end_at wr w'.heap.size s pos ty hit hp
      clear hA hH
      go_wp2
      go_ret
      refine ⟨?_, hbw⟩
      rw [Lib.indexAny_none (by rw [← Lib.size_eq, show s.size = pos by omega]; exact HN.out)]
      rfl
theorem indexAny_any (s : ByteArray) (label : Bool) (w : World) (hs : s.size ≤ 4000000) :
    Calls Tryd.prog 34 #[.string s, .string (if label then ⟨#[10, 59]⟩ else ⟨#[10]⟩)] w fun e w' => e = .returned (.int .i64 (Lib.indexAny s.data.toList (if label then [10, 59] else [10]))) ∧ Below w.heap.size w w' := by
  cases label with
  | false => exact (indexAny_one s ⟨#[10]⟩ w rfl asc_line).mono fun e w' ⟨h1, h2⟩ => ⟨h1, h2 ▸ Below.refl _ _⟩
  | true =>
    by_cases h8 : s.size ≤ 8
    · exact indexAny_short s w h8
    · exact indexAny_long s ⟨#[10, 59]⟩ w (by decide) (by omega) (by omega) (by decide) asc_name
end Go.Proofs.YtbhmpdbcjchdfaaDoor
