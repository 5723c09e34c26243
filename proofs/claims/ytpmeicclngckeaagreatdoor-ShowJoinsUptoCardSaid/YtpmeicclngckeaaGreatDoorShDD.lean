/- ShD: The document's trees as texts (placketref06.ere, Ere), walked.
   ShDE: The document's trees as texts (placketref06.Ere), walked. -/
import Derived.Test.YtpmeicclngckeaaGreatDoorShRR
import Derived.Test.YtpmeicclngckeaaGreatDoorShIT
import Derived.Test.YtpmeicclngckeaaGreatDoorShMa
import Derived.Test.YtpmeicclngckeaaGreatDoorTrWk
import Derived.Test.YtpmeicclngckeaaGreatDoorTrRight
namespace Go.Proofs.YtpmeicclngckeaaGreatDoor
open Go Go.RowKit

/-- What is asked of a smaller tree. -/
def REreOk (N : Nat) : Prop := ∀ (t : Tr) (a : Option Addr) (cap : Nat) (w : World), TrD N w t a cap → numOk (canon t) = true → nsize (canon t) ≤ 300000 → Calls Tryz.prog 43 #[tV t a cap] w (RTxt w (nT (canon t)))
theorem nTs_take (l : List Nd) (k : Nat) (h : k < l.length) : nTs (l.take (k + 1)) = nTs (l.take k) ++ nT l[k] := by
  rw [List.take_succ_eq_append_getElem h, nTs_app, nTs, nTs, List.append_nil]
theorem nTb_take (l : List Nd) (k : Nat) (h : k < l.length) : nTb (l.take (k + 1)) = nTb (l.take k) ++ 124 :: nT l[k] := by
  rw [List.take_succ_eq_append_getElem h, nTb_app, nTb, nTb, List.append_nil]
theorem numOks_take (l : List Nd) (k : Nat) (h : numOks l = true) : numOks (l.take k) = true := by
  induction l generalizing k with
  | nil => simpa using h
  | cons d ds ih =>
    cases k with
    | zero => rfl
    | succ k =>
      rw [numOks, Bool.and_eq_true] at h
      rw [List.take_succ_cons, numOks, h.1, ih k h.2]
      rfl
/-- The text of the first parts of an Alt. -/
def altT (l : List Nd) (k : Nat) : List UInt8 := (nTb (l.take k)).drop 1
theorem altT_succ (l : List Nd) (k : Nat) (h : k < l.length) : altT l (k + 1) = altT l k ++ (if 0 < k then [124] else []) ++ nT l[k] := by
  unfold altT
  rw [nTb_take l k h]
  by_cases h0 : 0 < k
  · rw [if_pos h0]
    have hn : l.take k ≠ [] := by
      intro e
      have := congrArg List.length e
      rw [List.length_take, List.length_nil] at this
      omega
    rw [nTb_cons (l.take k) hn]
    simp
  · obtain rfl : k = 0 := by omega
    simp [nTb]
theorem part_len (l : List Nd) (k : Nat) (h : numOks l = true) (hz : nsizes l ≤ 300000) : (nTs (l.take k)).length ≤ 900000000 ∧ (altT l k).length ≤ 900000000 := by
  have h1 := nTs_le (l.take k) (numOks_take l k h)
  have h2 := nTb_le (l.take k) (numOks_take l k h)
  have h3 := nsizes_le l k
  unfold altT
  rw [List.length_drop]
  omega
set_option maxRecDepth 100000 in
set_option maxHeartbeats 1000000 in
theorem rere_one (s : OSet) (mn mx num : Int) (ps : List Tr) (a : Option Addr) (cap : Nat) (w : World) : Calls Tryz.prog 43 #[.agg #[.int .i64 1, .int .u64 (ow s 0), .int .u64 (ow s 1), .int .u64 (ow s 2), .int .u64 (ow s 3), .slice a ps.length cap, .int .i64 mn, .int .i64 mx, .int .i64 num]] w (RTxt w (setT s)) := by
  have hT := (Blk.new w #[.int .i64 1, .int .u64 (ow s 0), .int .u64 (ow s 1), .int .u64 (ow s 2), .int .u64 (ow s 3), .slice a ps.length cap, .int .i64 mn, .int .i64 mx, .int .i64 num] 39 _ rfl); have hW := (Below.refl w.heap.size w).alloc (Nat.le_refl _) (.cells #[.int .i64 1, .int .u64 (ow s 0), .int .u64 (ow s 1), .int .u64 (ow s 2), .int .u64 (ow s 3), .slice a ps.length cap, .int .i64 mn, .int .i64 mx, .int .i64 num] 39)
  have c0 := (hT.cell 0).trans rfl; have c1 := (hT.cell 1).trans rfl; have c2 := (hT.cell 2).trans rfl; have c3 := (hT.cell 3).trans rfl; have c4 := (hT.cell 4).trans rfl; have c5 := (hT.cell 5).trans rfl; have c6 := (hT.cell 6).trans rfl; have c7 := (hT.cell 7).trans rfl; have c8 := (hT.cell 8).trans rfl
  go_enter Tryz.func43, Tryz.ntmps43
  go_wp2_with fail
  refine (rshset_any s _).mono ?_
  rintro e w1 ⟨⟨S, rfl, hS⟩, b1⟩
  go_wp2_with fail
  go_ret
  exact ⟨⟨S, rfl, hS⟩, hW.trans (b1.mono hW.size)⟩
set_option maxRecDepth 100000 in
set_option maxHeartbeats 1000000 in
theorem rere_cat (N : Nat) (ih : REreOk N) (s : OSet) (mn mx num : Int) (ps : List Tr) (a : Option Addr) (cap : Nat) (w : World) (h : RowD N w ps a cap) (hn : numOks (ps.map canon) = true) (hz : nsizes (ps.map canon) ≤ 300000) : Calls Tryz.prog 43 #[.agg #[.int .i64 2, .int .u64 (ow s 0), .int .u64 (ow s 1), .int .u64 (ow s 2), .int .u64 (ow s 3), .slice a ps.length cap, .int .i64 mn, .int .i64 mx, .int .i64 num]] w (RTxt w (nTs (ps.map canon))) := by
  have hT := (Blk.new w #[.int .i64 2, .int .u64 (ow s 0), .int .u64 (ow s 1), .int .u64 (ow s 2), .int .u64 (ow s 3), .slice a ps.length cap, .int .i64 mn, .int .i64 mx, .int .i64 num] 39 _ rfl); have hW := (Below.refl w.heap.size w).alloc (Nat.le_refl _) (.cells #[.int .i64 2, .int .u64 (ow s 0), .int .u64 (ow s 1), .int .u64 (ow s 2), .int .u64 (ow s 3), .slice a ps.length cap, .int .i64 mn, .int .i64 mx, .int .i64 num] 39)
  have hR := h.below hW
  have hl1 := hR.1
  have hl2 := hR.2.1
  unfold maxLen at hl2
  have HR := Lib.hid hR
  have HN := Lib.hid hn
  have HZ := Lib.hid hz
  have HW := Lib.hid hW
  have HT := Lib.hid hT
  have c0 := (hT.cell 0).trans rfl; have c1 := (hT.cell 1).trans rfl; have c2 := (hT.cell 2).trans rfl; have c3 := (hT.cell 3).trans rfl; have c4 := (hT.cell 4).trans rfl; have c5 := (hT.cell 5).trans rfl; have c6 := (hT.cell 6).trans rfl; have c7 := (hT.cell 7).trans rfl; have c8 := (hT.cell 8).trans rfl
  generalize hW1 : w.alloc (.cells #[.int .i64 2, .int .u64 (ow s 0), .int .u64 (ow s 1), .int .u64 (ow s 2), .int .u64 (ow s 3), .slice a ps.length cap, .int .i64 mn, .int .i64 mx, .int .i64 num] 39) = W1 at *
  clear h hR hn hz hT hW
  go_enter Tryz.func43, Tryz.ntmps43
  go_wp2_with fail
  clear c0 c1 c2 c3 c4 c5 c6 c7 c8 hW1
  go_loopw [3, 18] (fun o i wr => ∃ (k : Nat) (S : ByteArray), k ≤ ps.length ∧ i = .int .i64 k ∧ o = .string S ∧ S.data.toList = nTs ((ps.map canon).take k) ∧ Below W1.heap.size W1 wr) (fun _ i _ => ps.length - (intOf i).toNat)
  case atStart => exact ⟨0, _, by omega, rfl, rfl, rfl, Below.refl _ _⟩
  case round =>
    obtain ⟨k, S, hk, rfl, rfl, hS, hV⟩ := hrel
    have hSz : S.size ≤ 900000000 := by rw [← ba_len, hS]; exact (part_len _ k HN.out HZ.out).1
    have hT := HT.out.below hV HT.out.lt
    have c0 := (hT.cell 0).trans rfl; have c1 := (hT.cell 1).trans rfl; have c2 := (hT.cell 2).trans rfl; have c3 := (hT.cell 3).trans rfl; have c4 := (hT.cell 4).trans rfl; have c5 := (hT.cell 5).trans rfl; have c6 := (hT.cell 6).trans rfl; have c7 := (hT.cell 7).trans rfl; have c8 := (hT.cell 8).trans rfl
    clear hT
    by_cases hlt : k < ps.length
    · obtain ⟨b, o, rfl, hbl, hx⟩ := HR.out.2.2 (by omega)
      obtain ⟨a', cap', h9, hr⟩ := hx k hlt
      replace h9 := h9.below hV hbl
      replace hr := hr.below hV
      have hlt2 : k < (ps.map canon).length := by simpa using hlt
      have hnk := numOks_all _ HN.out _ (List.getElem_mem hlt2)
      have hst := nTs_take (ps.map canon) k hlt2
      have hsz := nsizes_take (ps.map canon) k hlt2
      have hsz2 := nsizes_le (ps.map canon) (k + 1)
      have hzz := HZ.out
      rw [List.getElem_map] at hnk hst hsz
      obtain ⟨d0, d1, d2, d3, d4, d5, d6, d7, d8⟩ := h9
      clear hx
      generalize ps[k] = x at *
      have hxs : nsize (canon x) ≤ 300000 := by omega
      have hxl := nT_le (canon x) hnk
      have HS := Lib.hid hS
      have HST := Lib.hid hst
      have hcall := ih x a' cap' wr hr hnk hxs
      clear hS hst hsz hsz2 hzz hnk hlt2 hr
      unfold tV at hcall
      by_cases hk0 : 0 < k
      · go_wp2_with fail
        refine hcall.mono ?_
        rintro e w2 ⟨⟨X, rfl, hX⟩, b2⟩
        have hXz : X.size ≤ 900000000 := by rw [← ba_len, hX]; omega
        have HX := Lib.hid hX
        have hV2 := hV.trans (b2.mono hV.size)
        clear hX hcall b2 hV c0 c1 c2 c3 c4 c5 c6 c7 c8 d0 d1 d2 d3 d4 d5 d6 d7 d8
        go_wp2_with fail
        go_roundw
        case rel => exact ⟨k + 1, _, by omega, by go_num, rfl, by rw [HST.out, ← HS.out, ← HX.out]; simp [ByteArray.data_append], hV2⟩
        case measure => simp [intOf]; omega
      · go_wp2_with fail
        refine hcall.mono ?_
        rintro e w2 ⟨⟨X, rfl, hX⟩, b2⟩
        have hXz : X.size ≤ 900000000 := by rw [← ba_len, hX]; omega
        have HX := Lib.hid hX
        have hV2 := hV.trans (b2.mono hV.size)
        clear hX hcall b2 hV c0 c1 c2 c3 c4 c5 c6 c7 c8 d0 d1 d2 d3 d4 d5 d6 d7 d8
        go_wp2_with fail
        go_roundw
        case rel => exact ⟨k + 1, _, by omega, by go_num, rfl, by rw [HST.out, ← HS.out, ← HX.out]; simp [ByteArray.data_append], hV2⟩
        case measure => simp [intOf]; omega
    · obtain rfl : k = ps.length := by omega
      have hS2 : S.data.toList = nTs (ps.map canon) := by rw [hS]; rw [List.take_of_length_le (by simp)]
      clear hS
      go_wp2_with fail
      go_ret
      exact ⟨⟨S, rfl, hS2⟩, HW.out.trans (hV.mono HW.out.size)⟩
set_option maxRecDepth 100000 in
set_option maxHeartbeats 1000000 in
theorem rere_alt (N : Nat) (ih : REreOk N) (s : OSet) (mn mx num : Int) (ps : List Tr) (a : Option Addr) (cap : Nat) (w : World) (h : RowD N w ps a cap) (hn : numOks (ps.map canon) = true) (hz : nsizes (ps.map canon) ≤ 300000) : Calls Tryz.prog 43 #[.agg #[.int .i64 3, .int .u64 (ow s 0), .int .u64 (ow s 1), .int .u64 (ow s 2), .int .u64 (ow s 3), .slice a ps.length cap, .int .i64 mn, .int .i64 mx, .int .i64 num]] w (RTxt w (altT (ps.map canon) (ps.map canon).length)) := by
  have hT := (Blk.new w #[.int .i64 3, .int .u64 (ow s 0), .int .u64 (ow s 1), .int .u64 (ow s 2), .int .u64 (ow s 3), .slice a ps.length cap, .int .i64 mn, .int .i64 mx, .int .i64 num] 39 _ rfl); have hW := (Below.refl w.heap.size w).alloc (Nat.le_refl _) (.cells #[.int .i64 3, .int .u64 (ow s 0), .int .u64 (ow s 1), .int .u64 (ow s 2), .int .u64 (ow s 3), .slice a ps.length cap, .int .i64 mn, .int .i64 mx, .int .i64 num] 39)
  have hR := h.below hW
  have hl1 := hR.1
  have hl2 := hR.2.1
  unfold maxLen at hl2
  have HR := Lib.hid hR
  have HN := Lib.hid hn
  have HZ := Lib.hid hz
  have HW := Lib.hid hW
  have HT := Lib.hid hT
  have c0 := (hT.cell 0).trans rfl; have c1 := (hT.cell 1).trans rfl; have c2 := (hT.cell 2).trans rfl; have c3 := (hT.cell 3).trans rfl; have c4 := (hT.cell 4).trans rfl; have c5 := (hT.cell 5).trans rfl; have c6 := (hT.cell 6).trans rfl; have c7 := (hT.cell 7).trans rfl; have c8 := (hT.cell 8).trans rfl
  generalize hW1 : w.alloc (.cells #[.int .i64 3, .int .u64 (ow s 0), .int .u64 (ow s 1), .int .u64 (ow s 2), .int .u64 (ow s 3), .slice a ps.length cap, .int .i64 mn, .int .i64 mx, .int .i64 num] 39) = W1 at *
  clear h hR hn hz hT hW
  go_enter Tryz.func43, Tryz.ntmps43
  go_wp2_with fail
  clear c0 c1 c2 c3 c4 c5 c6 c7 c8 hW1
  go_loopw [3, 18] (fun o i wr => ∃ (k : Nat) (S : ByteArray), k ≤ ps.length ∧ i = .int .i64 k ∧ o = .string S ∧ S.data.toList = altT (ps.map canon) k ∧ Below W1.heap.size W1 wr) (fun _ i _ => ps.length - (intOf i).toNat)
  case atStart => exact ⟨0, _, by omega, rfl, rfl, rfl, Below.refl _ _⟩
  case round =>
    obtain ⟨k, S, hk, rfl, rfl, hS, hV⟩ := hrel
    have hSz : S.size ≤ 900000000 := by rw [← ba_len, hS]; exact (part_len _ k HN.out HZ.out).2
    have hT := HT.out.below hV HT.out.lt
    have c0 := (hT.cell 0).trans rfl; have c1 := (hT.cell 1).trans rfl; have c2 := (hT.cell 2).trans rfl; have c3 := (hT.cell 3).trans rfl; have c4 := (hT.cell 4).trans rfl; have c5 := (hT.cell 5).trans rfl; have c6 := (hT.cell 6).trans rfl; have c7 := (hT.cell 7).trans rfl; have c8 := (hT.cell 8).trans rfl
    clear hT
    by_cases hlt : k < ps.length
    · obtain ⟨b, o, rfl, hbl, hx⟩ := HR.out.2.2 (by omega)
      obtain ⟨a', cap', h9, hr⟩ := hx k hlt
      replace h9 := h9.below hV hbl
      replace hr := hr.below hV
      have hlt2 : k < (ps.map canon).length := by simpa using hlt
      have hnk := numOks_all _ HN.out _ (List.getElem_mem hlt2)
      have hst := altT_succ (ps.map canon) k hlt2
      have hsz := nsizes_take (ps.map canon) k hlt2
      have hsz2 := nsizes_le (ps.map canon) (k + 1)
      have hzz := HZ.out
      rw [List.getElem_map] at hnk hst hsz
      obtain ⟨d0, d1, d2, d3, d4, d5, d6, d7, d8⟩ := h9
      clear hx
      generalize ps[k] = x at *
      have hxs : nsize (canon x) ≤ 300000 := by omega
      have hxl := nT_le (canon x) hnk
      have HS := Lib.hid hS
      have HST := Lib.hid hst
      have hcall := ih x a' cap' wr hr hnk hxs
      clear hS hst hsz hsz2 hzz hnk hlt2 hr
      unfold tV at hcall
      by_cases hk0 : 0 < k
      · rw [if_pos hk0] at HST
        go_wp2_with fail
        refine hcall.mono ?_
        rintro e w2 ⟨⟨X, rfl, hX⟩, b2⟩
        have hXz : X.size ≤ 900000000 := by rw [← ba_len, hX]; omega
        have HX := Lib.hid hX
        have hV2 := hV.trans (b2.mono hV.size)
        clear hX hcall b2 hV c0 c1 c2 c3 c4 c5 c6 c7 c8 d0 d1 d2 d3 d4 d5 d6 d7 d8
        go_wp2_with fail
        go_roundw
        case rel => exact ⟨k + 1, _, by omega, by go_num, rfl, by rw [HST.out, ← HS.out, ← HX.out]; simp [ByteArray.data_append], hV2⟩
        case measure => simp [intOf]; omega
      · rw [if_neg hk0] at HST
        go_wp2_with fail
        refine hcall.mono ?_
        rintro e w2 ⟨⟨X, rfl, hX⟩, b2⟩
        have hXz : X.size ≤ 900000000 := by rw [← ba_len, hX]; omega
        have HX := Lib.hid hX
        have hV2 := hV.trans (b2.mono hV.size)
        clear hX hcall b2 hV c0 c1 c2 c3 c4 c5 c6 c7 c8 d0 d1 d2 d3 d4 d5 d6 d7 d8
        go_wp2_with fail
        go_roundw
        case rel => exact ⟨k + 1, _, by omega, by go_num, rfl, by rw [HST.out, ← HS.out, ← HX.out]; simp [ByteArray.data_append], hV2⟩
        case measure => simp [intOf]; omega
    · obtain rfl : k = ps.length := by omega
      have hS2 : S.data.toList = altT (ps.map canon) (ps.map canon).length := by rw [hS]; rw [List.length_map]
      clear hS
      go_wp2_with fail
      go_ret
      exact ⟨⟨S, rfl, hS2⟩, HW.out.trans (hV.mono HW.out.size)⟩
/-- A node in its box. -/
structure HeldT (w0 : World) (p : Nat) (cs : Array Value) (w' : World) : Prop where
  below : Below w0.heap.size w0 w'
  blk : Blk w' p cs 39
theorem HeldT.all {w : World} {s : OSet} {k mn mx num : Int} {ps : List Tr} {a : Option Addr} {cap : Nat} {w' : World} (h : HeldT w w.heap.size #[.int .i64 k, .int .u64 (ow s 0), .int .u64 (ow s 1), .int .u64 (ow s 2), .int .u64 (ow s 3), .slice a ps.length cap, .int .i64 mn, .int .i64 mx, .int .i64 num] w') : (w'.cell? ⟨w.heap.size, 0, none⟩ = some (.int .i64 k) ∧ w'.cell? ⟨w.heap.size, 1, none⟩ = some (.int .u64 (ow s 0)) ∧ w'.cell? ⟨w.heap.size, 2, none⟩ = some (.int .u64 (ow s 1)) ∧ w'.cell? ⟨w.heap.size, 3, none⟩ = some (.int .u64 (ow s 2)) ∧ w'.cell? ⟨w.heap.size, 4, none⟩ = some (.int .u64 (ow s 3)) ∧ w'.cell? ⟨w.heap.size, 5, none⟩ = some (.slice a ps.length cap) ∧ w'.cell? ⟨w.heap.size, 6, none⟩ = some (.int .i64 mn) ∧ w'.cell? ⟨w.heap.size, 7, none⟩ = some (.int .i64 mx) ∧ w'.cell? ⟨w.heap.size, 8, none⟩ = some (.int .i64 num)) ∧ HeldT w w.heap.size #[.int .i64 k, .int .u64 (ow s 0), .int .u64 (ow s 1), .int .u64 (ow s 2), .int .u64 (ow s 3), .slice a ps.length cap, .int .i64 mn, .int .i64 mx, .int .i64 num] w' := by
  have hT := h.blk
  have c0 := (hT.cell 0).trans rfl; have c1 := (hT.cell 1).trans rfl; have c2 := (hT.cell 2).trans rfl; have c3 := (hT.cell 3).trans rfl; have c4 := (hT.cell 4).trans rfl; have c5 := (hT.cell 5).trans rfl; have c6 := (hT.cell 6).trans rfl; have c7 := (hT.cell 7).trans rfl; have c8 := (hT.cell 8).trans rfl
  exact ⟨⟨c0, c1, c2, c3, c4, c5, c6, c7, c8⟩, h⟩
theorem HeldT.step {w0 : World} {p : Nat} {cs : Array Value} {W W' : World} (h : HeldT w0 p cs W) (hb : Below W.heap.size W W') : HeldT w0 p cs W' := ⟨h.below.trans (hb.mono h.below.size), h.blk.below hb h.blk.lt⟩
theorem HeldT.drew {w0 : World} {p : Nat} {cs : Array Value} {W : World} (h : HeldT w0 p cs W) : HeldT w0 p cs W.drew := ⟨h.below.drew, h.blk⟩
set_option maxRecDepth 100000 in
set_option maxHeartbeats 2000000 in
theorem rere_rep (N : Nat) (ih : REreOk N) (s : OSet) (mn mx num : Int) (ps : List Tr) (a : Option Addr) (cap : Nat) (w : World) (h : TrD (N + 1) w (.mk 4 s mn mx num ps) a cap) (ho : okRep mn mx = true) (hn : numOk (canon (tof (.mk 4 s mn mx num ps))) = true) (hz : nsize (canon (tof (.mk 4 s mn mx num ps))) ≤ 300000) : Calls Tryz.prog 43 #[.agg #[.int .i64 4, .int .u64 (ow s 0), .int .u64 (ow s 1), .int .u64 (ow s 2), .int .u64 (ow s 3), .slice a ps.length cap, .int .i64 mn, .int .i64 mx, .int .i64 num]] w (RTxt w (nT (canon (tof (.mk 4 s mn mx num ps))) ++ timesT mn mx)) := by
  have hT := (Blk.new w #[.int .i64 4, .int .u64 (ow s 0), .int .u64 (ow s 1), .int .u64 (ow s 2), .int .u64 (ow s 3), .slice a ps.length cap, .int .i64 mn, .int .i64 mx, .int .i64 num] 39 _ rfl); have hW := (Below.refl w.heap.size w).alloc (Nat.le_refl _) (.cells #[.int .i64 4, .int .u64 (ow s 0), .int .u64 (ow s 1), .int .u64 (ow s 2), .int .u64 (ow s 3), .slice a ps.length cap, .int .i64 mn, .int .i64 mx, .int .i64 num] 39)
  have hof : ∀ W, HeldT w w.heap.size #[.int .i64 4, .int .u64 (ow s 0), .int .u64 (ow s 1), .int .u64 (ow s 2), .int .u64 (ow s 3), .slice a ps.length cap, .int .i64 mn, .int .i64 mx, .int .i64 num] W → Calls Tryz.prog 70 #[.agg #[.int .i64 4, .int .u64 (ow s 0), .int .u64 (ow s 1), .int .u64 (ow s 2), .int .u64 (ow s 3), .slice a ps.length cap, .int .i64 mn, .int .i64 mx, .int .i64 num]] W fun e w' => ∃ a' cap', e = .returned (tV (tof (.mk 4 s mn mx num ps)) a' cap') ∧ TrD N w' (tof (.mk 4 s mn mx num ps)) a' cap' ∧ Below W.heap.size W w' := fun W hb => tof_any N _ a cap W (h.below hb.below) (.inl rfl)
  have hti := fun W => rshtimes_any mn mx ho W
  have hlen := timesT_le mn mx ho
  have hxl := nT_le _ hn
  generalize tof (.mk 4 s mn mx num ps) = x at *
  have hall := (show HeldT w w.heap.size #[.int .i64 4, .int .u64 (ow s 0), .int .u64 (ow s 1), .int .u64 (ow s 2), .int .u64 (ow s 3), .slice a ps.length cap, .int .i64 mn, .int .i64 mx, .int .i64 num] _ from ⟨hW, hT⟩)
  have c0 := (hT.cell 0).trans rfl; have c1 := (hT.cell 1).trans rfl; have c2 := (hT.cell 2).trans rfl; have c3 := (hT.cell 3).trans rfl; have c4 := (hT.cell 4).trans rfl; have c5 := (hT.cell 5).trans rfl; have c6 := (hT.cell 6).trans rfl; have c7 := (hT.cell 7).trans rfl; have c8 := (hT.cell 8).trans rfl
  clear hT hW h
  go_enter Tryz.func43, Tryz.ntmps43
  go_upto_region 16 with fail
  clear c0 c1 c2 c3 c4 c5 c6 c7 c8
  go_region_held3 (fun w' => (w'.cell? ⟨w.heap.size, 0, none⟩ = some (.int .i64 4) ∧ w'.cell? ⟨w.heap.size, 1, none⟩ = some (.int .u64 (ow s 0)) ∧ w'.cell? ⟨w.heap.size, 2, none⟩ = some (.int .u64 (ow s 1)) ∧ w'.cell? ⟨w.heap.size, 3, none⟩ = some (.int .u64 (ow s 2)) ∧ w'.cell? ⟨w.heap.size, 4, none⟩ = some (.int .u64 (ow s 3)) ∧ w'.cell? ⟨w.heap.size, 5, none⟩ = some (.slice a ps.length cap) ∧ w'.cell? ⟨w.heap.size, 6, none⟩ = some (.int .i64 mn) ∧ w'.cell? ⟨w.heap.size, 7, none⟩ = some (.int .i64 mx) ∧ w'.cell? ⟨w.heap.size, 8, none⟩ = some (.int .i64 num)) ∧ HeldT w w.heap.size #[.int .i64 4, .int .u64 (ow s 0), .int .u64 (ow s 1), .int .u64 (ow s 2), .int .u64 (ow s 3), .slice a ps.length cap, .int .i64 mn, .int .i64 mx, .int .i64 num] w') (first | with_reducible exact HeldT.all (hall) | with_reducible exact HeldT.all (HeldT.step (by go_split_ands; assumption) hbX) | with_reducible exact HeldT.all (HeldT.drew (by go_split_ands; assumption)))
    (first | (go_at_call 70; refine (hof _ (by go_split_ands; assumption)).mono ?_; rintro e w' ⟨a', cap', rfl, hTr, hbX⟩) | (go_at_call 43; refine (ih x a' cap' _ hTr hn hz).mono ?_; rintro e w' ⟨⟨S, rfl, hS⟩, hbX⟩; have hSz : S.size ≤ 900000000 := (by rw [← ba_len, hS]; omega)) | (go_at_call 71; refine (hti _).mono ?_; rintro e w' ⟨⟨X, rfl, hX⟩, hbX⟩; have hXz : X.size ≤ 20 := (by rw [← ba_len, hX]; exact hlen); have hc1 : ¬ ((9223372036854775807 : Int) < (S.size : Int) + (X.size : Int)) := (by omega); have hc3 : (S.size : Int) + (X.size : Int) ≤ 9223372036854775807 := (by omega); have hc2 : ¬ (9223372036854775807 < S.size + X.size) := (by omega); have hc4 : S.size + X.size ≤ 9223372036854775807 := (by omega)))
  go_wp2_with fail
  go_ret
  go_split_ands
  exact ⟨⟨_, rfl, by rw [← hS, ← hX]; simp [ByteArray.data_append]⟩, HeldT.below (by assumption)⟩
set_option maxRecDepth 100000 in
set_option maxHeartbeats 2000000 in
theorem rere_group (N : Nat) (ih : REreOk N) (s : OSet) (mn mx num : Int) (ps : List Tr) (a : Option Addr) (cap : Nat) (w : World) (h : TrD (N + 1) w (.mk 5 s mn mx num ps) a cap) (hn : numOk (canon (tof (.mk 5 s mn mx num ps))) = true) (hz : nsize (canon (tof (.mk 5 s mn mx num ps))) ≤ 300000) : Calls Tryz.prog 43 #[.agg #[.int .i64 5, .int .u64 (ow s 0), .int .u64 (ow s 1), .int .u64 (ow s 2), .int .u64 (ow s 3), .slice a ps.length cap, .int .i64 mn, .int .i64 mx, .int .i64 num]] w (RTxt w (40 :: (nT (canon (tof (.mk 5 s mn mx num ps))) ++ [41]))) := by
  have hT := (Blk.new w #[.int .i64 5, .int .u64 (ow s 0), .int .u64 (ow s 1), .int .u64 (ow s 2), .int .u64 (ow s 3), .slice a ps.length cap, .int .i64 mn, .int .i64 mx, .int .i64 num] 39 _ rfl); have hW := (Below.refl w.heap.size w).alloc (Nat.le_refl _) (.cells #[.int .i64 5, .int .u64 (ow s 0), .int .u64 (ow s 1), .int .u64 (ow s 2), .int .u64 (ow s 3), .slice a ps.length cap, .int .i64 mn, .int .i64 mx, .int .i64 num] 39)
  have hof := tof_any N _ a cap _ (h.below hW) (.inr rfl)
  have hof2 : Calls Tryz.prog 70 #[.agg #[.int .i64 5, .int .u64 (ow s 0), .int .u64 (ow s 1), .int .u64 (ow s 2), .int .u64 (ow s 3), .slice a ps.length cap, .int .i64 mn, .int .i64 mx, .int .i64 num]] (w.alloc (.cells #[.int .i64 5, .int .u64 (ow s 0), .int .u64 (ow s 1), .int .u64 (ow s 2), .int .u64 (ow s 3), .slice a ps.length cap, .int .i64 mn, .int .i64 mx, .int .i64 num] 39)) fun e w' => ∃ a' cap', e = .returned (tV (tof (.mk 5 s mn mx num ps)) a' cap') ∧ TrD N w' (tof (.mk 5 s mn mx num ps)) a' cap' ∧ Below (w.alloc (.cells #[.int .i64 5, .int .u64 (ow s 0), .int .u64 (ow s 1), .int .u64 (ow s 2), .int .u64 (ow s 3), .slice a ps.length cap, .int .i64 mn, .int .i64 mx, .int .i64 num] 39)).heap.size (w.alloc (.cells #[.int .i64 5, .int .u64 (ow s 0), .int .u64 (ow s 1), .int .u64 (ow s 2), .int .u64 (ow s 3), .slice a ps.length cap, .int .i64 mn, .int .i64 mx, .int .i64 num] 39)) w' := hof
  have hxl := nT_le _ hn
  generalize tof (.mk 5 s mn mx num ps) = x at *
  have c0 := (hT.cell 0).trans rfl; have c1 := (hT.cell 1).trans rfl; have c2 := (hT.cell 2).trans rfl; have c3 := (hT.cell 3).trans rfl; have c4 := (hT.cell 4).trans rfl; have c5 := (hT.cell 5).trans rfl; have c6 := (hT.cell 6).trans rfl; have c7 := (hT.cell 7).trans rfl; have c8 := (hT.cell 8).trans rfl
  clear hT h hof
  go_enter Tryz.func43, Tryz.ntmps43
  go_wp2_with fail
  refine hof2.mono ?_
  clear hof2 c0 c1 c2 c3 c4 c5 c6 c7 c8
  rintro e w1 ⟨a', cap', rfl, hTr, b1⟩
  have hW1 := hW.trans (b1.mono hW.size)
  go_wp2_with fail
  refine (ih x a' cap' _ hTr hn hz).mono ?_
  rintro e w2 ⟨⟨S, rfl, hS⟩, b2⟩
  have hSz : S.size ≤ 900000000 := by rw [← ba_len, hS]; omega
  have HS := Lib.hid hS
  clear hS
  go_wp2_with fail
  go_ret
  exact ⟨⟨_, rfl, by rw [← HS.out]; simp [ByteArray.data_append]⟩, hW1.trans (b2.mono hW1.size)⟩
set_option maxRecDepth 100000 in
set_option maxHeartbeats 2000000 in
theorem rere_back (s : OSet) (mn mx num : Int) (ps : List Tr) (a : Option Addr) (cap : Nat) (w : World) (h1 : 1 ≤ num) (h2 : num ≤ 1000000) : Calls Tryz.prog 43 #[.agg #[.int .i64 6, .int .u64 (ow s 0), .int .u64 (ow s 1), .int .u64 (ow s 2), .int .u64 (ow s 3), .slice a ps.length cap, .int .i64 mn, .int .i64 mx, .int .i64 num]] w (RTxt w (92 :: dec num.toNat)) := by
  have hT := (Blk.new w #[.int .i64 6, .int .u64 (ow s 0), .int .u64 (ow s 1), .int .u64 (ow s 2), .int .u64 (ow s 3), .slice a ps.length cap, .int .i64 mn, .int .i64 mx, .int .i64 num] 39 _ rfl); have hW := (Below.refl w.heap.size w).alloc (Nat.le_refl _) (.cells #[.int .i64 6, .int .u64 (ow s 0), .int .u64 (ow s 1), .int .u64 (ow s 2), .int .u64 (ow s 3), .slice a ps.length cap, .int .i64 mn, .int .i64 mx, .int .i64 num] 39)
  have hlen := dec_le7 num.toNat (by omega)
  have c0 := (hT.cell 0).trans rfl; have c1 := (hT.cell 1).trans rfl; have c2 := (hT.cell 2).trans rfl; have c3 := (hT.cell 3).trans rfl; have c4 := (hT.cell 4).trans rfl; have c5 := (hT.cell 5).trans rfl; have c6 := (hT.cell 6).trans rfl; have c7 := (hT.cell 7).trans rfl; have c8 := (hT.cell 8).trans rfl
  clear hT
  go_enter Tryz.func43, Tryz.ntmps43
  go_wp2_with fail
  refine (rdigits_s num (by omega) h2 _).mono ?_
  rintro e w1 ⟨⟨S, rfl, hS⟩, b1⟩
  have hSz : S.size ≤ 7 := by rw [← ba_len, hS]; exact hlen
  have HS := Lib.hid hS
  clear hS
  go_wp2_with fail
  go_ret
  exact ⟨⟨_, rfl, by rw [← HS.out]; simp [ByteArray.data_append]⟩, hW.trans (b1.mono hW.size)⟩
set_option maxRecDepth 100000 in
set_option maxHeartbeats 2000000 in
theorem rere_start (s : OSet) (mn mx num : Int) (ps : List Tr) (a : Option Addr) (cap : Nat) (w : World) : Calls Tryz.prog 43 #[.agg #[.int .i64 7, .int .u64 (ow s 0), .int .u64 (ow s 1), .int .u64 (ow s 2), .int .u64 (ow s 3), .slice a ps.length cap, .int .i64 mn, .int .i64 mx, .int .i64 num]] w (RTxt w [94]) := by
  have hT := (Blk.new w #[.int .i64 7, .int .u64 (ow s 0), .int .u64 (ow s 1), .int .u64 (ow s 2), .int .u64 (ow s 3), .slice a ps.length cap, .int .i64 mn, .int .i64 mx, .int .i64 num] 39 _ rfl); have hW := (Below.refl w.heap.size w).alloc (Nat.le_refl _) (.cells #[.int .i64 7, .int .u64 (ow s 0), .int .u64 (ow s 1), .int .u64 (ow s 2), .int .u64 (ow s 3), .slice a ps.length cap, .int .i64 mn, .int .i64 mx, .int .i64 num] 39)
  have c0 := (hT.cell 0).trans rfl; have c1 := (hT.cell 1).trans rfl; have c2 := (hT.cell 2).trans rfl; have c3 := (hT.cell 3).trans rfl; have c4 := (hT.cell 4).trans rfl; have c5 := (hT.cell 5).trans rfl; have c6 := (hT.cell 6).trans rfl; have c7 := (hT.cell 7).trans rfl; have c8 := (hT.cell 8).trans rfl
  clear hT
  go_enter Tryz.func43, Tryz.ntmps43
  go_wp2_with fail
  go_ret
  exact ⟨⟨_, rfl, rfl⟩, hW⟩
set_option maxRecDepth 100000 in
set_option maxHeartbeats 2000000 in
theorem rere_fin (s : OSet) (mn mx num : Int) (ps : List Tr) (a : Option Addr) (cap : Nat) (w : World) : Calls Tryz.prog 43 #[.agg #[.int .i64 8, .int .u64 (ow s 0), .int .u64 (ow s 1), .int .u64 (ow s 2), .int .u64 (ow s 3), .slice a ps.length cap, .int .i64 mn, .int .i64 mx, .int .i64 num]] w (RTxt w [36]) := by
  have hT := (Blk.new w #[.int .i64 8, .int .u64 (ow s 0), .int .u64 (ow s 1), .int .u64 (ow s 2), .int .u64 (ow s 3), .slice a ps.length cap, .int .i64 mn, .int .i64 mx, .int .i64 num] 39 _ rfl); have hW := (Below.refl w.heap.size w).alloc (Nat.le_refl _) (.cells #[.int .i64 8, .int .u64 (ow s 0), .int .u64 (ow s 1), .int .u64 (ow s 2), .int .u64 (ow s 3), .slice a ps.length cap, .int .i64 mn, .int .i64 mx, .int .i64 num] 39)
  have c0 := (hT.cell 0).trans rfl; have c1 := (hT.cell 1).trans rfl; have c2 := (hT.cell 2).trans rfl; have c3 := (hT.cell 3).trans rfl; have c4 := (hT.cell 4).trans rfl; have c5 := (hT.cell 5).trans rfl; have c6 := (hT.cell 6).trans rfl; have c7 := (hT.cell 7).trans rfl; have c8 := (hT.cell 8).trans rfl
  clear hT
  go_enter Tryz.func43, Tryz.ntmps43
  go_wp2_with fail
  go_ret
  exact ⟨⟨_, rfl, rfl⟩, hW⟩
set_option maxRecDepth 100000 in
set_option maxHeartbeats 2000000 in
theorem rere_none (k : Int) (h1 : k ≠ 1) (h2 : k ≠ 2) (h3 : k ≠ 3) (h4 : k ≠ 4) (h5 : k ≠ 5) (h6 : k ≠ 6) (h7 : k ≠ 7) (h8 : k ≠ 8) (s : OSet) (mn mx num : Int) (ps : List Tr) (a : Option Addr) (cap : Nat) (w : World) : Calls Tryz.prog 43 #[.agg #[.int .i64 k, .int .u64 (ow s 0), .int .u64 (ow s 1), .int .u64 (ow s 2), .int .u64 (ow s 3), .slice a ps.length cap, .int .i64 mn, .int .i64 mx, .int .i64 num]] w (RTxt w []) := by
  have hT := (Blk.new w #[.int .i64 k, .int .u64 (ow s 0), .int .u64 (ow s 1), .int .u64 (ow s 2), .int .u64 (ow s 3), .slice a ps.length cap, .int .i64 mn, .int .i64 mx, .int .i64 num] 39 _ rfl); have hW := (Below.refl w.heap.size w).alloc (Nat.le_refl _) (.cells #[.int .i64 k, .int .u64 (ow s 0), .int .u64 (ow s 1), .int .u64 (ow s 2), .int .u64 (ow s 3), .slice a ps.length cap, .int .i64 mn, .int .i64 mx, .int .i64 num] 39)
  have e1 : (k == 1) = false := by simp; omega
  have e2 : (k == 2) = false := by simp; omega
  have e3 : (k == 3) = false := by simp; omega
  have e4 : (k == 4) = false := by simp; omega
  have e5 : (k == 5) = false := by simp; omega
  have e6 : (k == 6) = false := by simp; omega
  have e7 : (k == 7) = false := by simp; omega
  have e8 : (k == 8) = false := by simp; omega
  clear h1 h2 h3 h4 h5 h6 h7 h8
  have c0 := (hT.cell 0).trans rfl; have c1 := (hT.cell 1).trans rfl; have c2 := (hT.cell 2).trans rfl; have c3 := (hT.cell 3).trans rfl; have c4 := (hT.cell 4).trans rfl; have c5 := (hT.cell 5).trans rfl; have c6 := (hT.cell 6).trans rfl; have c7 := (hT.cell 7).trans rfl; have c8 := (hT.cell 8).trans rfl
  clear hT
  go_enter Tryz.func43, Tryz.ntmps43
  go_wp2_with fail
  go_ret
  exact ⟨⟨_, rfl, rfl⟩, hW⟩
/-- A tree's text. -/
theorem rere_any : ∀ N, REreOk N
  | 0, t, a, cap, w, h, _, _ => (trd_zero h).elim
  | N + 1, t, a, cap, w, h, hn, hz => by
    have ih := rere_any N
    by_cases k1 : t.kind = 1
    · have hc := canon_1 t k1
      obtain ⟨k, s, mn, mx, num, ps⟩ := t
      obtain rfl : k = 1 := k1
      rw [hc]
      exact rere_one s mn mx num ps a cap w
    by_cases k2 : t.kind = 2
    · have hc := canon_2 t k2
      obtain ⟨k, s, mn, mx, num, ps⟩ := t
      obtain rfl : k = 2 := k2
      rw [hc] at hn hz ⊢
      rw [numOk] at hn
      rw [nsize] at hz
      have hz2 : 1 + nsizes (ps.map canon) ≤ 300000 := hz
      exact rere_cat N ih s mn mx num ps a cap w h.row hn (by omega)
    by_cases k3 : t.kind = 3
    · have hc := canon_3 t k3
      obtain ⟨k, s, mn, mx, num, ps⟩ := t
      obtain rfl : k = 3 := k3
      rw [hc] at hn hz ⊢
      rw [numOk] at hn
      rw [nsize] at hz
      have hz2 : 1 + nsizes (ps.map canon) ≤ 300000 := hz
      have hr := rere_alt N ih s mn mx num ps a cap w h.row hn (by omega)
      unfold altT at hr
      rw [List.take_length] at hr
      exact hr
    by_cases k4 : t.kind = 4
    · have hc := (canon_4 t k4).1
      obtain ⟨k, s, mn, mx, num, ps⟩ := t
      obtain rfl : k = 4 := k4
      rw [hc] at hn hz ⊢
      rw [numOk, Bool.and_eq_true] at hn
      rw [nsize] at hz
      exact rere_rep N ih s mn mx num ps a cap w h hn.1 hn.2 (by omega)
    by_cases k5 : t.kind = 5
    · have hc := (canon_5 t k5).1
      obtain ⟨k, s, mn, mx, num, ps⟩ := t
      obtain rfl : k = 5 := k5
      rw [hc] at hn hz ⊢
      rw [numOk] at hn
      rw [nsize] at hz
      exact rere_group N ih s mn mx num ps a cap w h hn (by omega)
    by_cases k6 : t.kind = 6
    · have hc := canon_6 t k6
      obtain ⟨k, s, mn, mx, num, ps⟩ := t
      obtain rfl : k = 6 := k6
      rw [hc] at hn ⊢
      rw [numOk, Bool.and_eq_true, decide_eq_true_eq, decide_eq_true_eq] at hn
      exact rere_back s mn mx num ps a cap w hn.1 hn.2
    by_cases k7 : t.kind = 7
    · have hc := canon_7 t k7
      obtain ⟨k, s, mn, mx, num, ps⟩ := t
      obtain rfl : k = 7 := k7
      rw [hc]
      exact rere_start s mn mx num ps a cap w
    by_cases k8 : t.kind = 8
    · have hc := canon_8 t k8
      obtain ⟨k, s, mn, mx, num, ps⟩ := t
      obtain rfl : k = 8 := k8
      rw [hc]
      exact rere_fin s mn mx num ps a cap w
    have hc := canon_0 t k1 k2 k3 k4 k5 k6 k7 k8
    obtain ⟨k, s, mn, mx, num, ps⟩ := t
    rw [hc]
    exact rere_none k k1 k2 k3 k4 k5 k6 k7 k8 s mn mx num ps a cap w
end Go.Proofs.YtpmeicclngckeaaGreatDoor
namespace Go.Proofs.YtpmeicclngckeaaGreatDoor
open Go Go.RowKit

set_option linter.unusedSimpArgs false in
set_option maxRecDepth 100000 in
set_option maxHeartbeats 2000000 in
theorem right6 (N : Nat) (t : Tr) (a : Option Addr) (cap : Nat) (w : World) (h : TrD N w t a cap) (hkn : tknown t = true) (hb : ngroups (canon t) ≤ 4000000) :
    Calls Tryz.prog 19 #[tV t a cap] w fun e w' => e = .returned (.bool (nrightB (canon t))) ∧ Below w.heap.size w w' := by
  have hW := (Below.refl w.heap.size w).alloc (Nat.le_refl _) (.cells (tC t a cap) 39)
  have hI := rright_any N t a cap 0 [] none 0 _ (h.below hW) hkn (IntsAt.nil _) (by omega) (by omega) (by simp; exact hb)
  unfold nrightB
  generalize nright (canon t) 0 [] = R at hI ⊢
  clear h
  unfold tV at hI ⊢
  simp only [List.length_nil] at hI
  go_enter Tryz.func19, Tryz.ntmps19
  go_wp2_with fail
  refine hI.mono ?_
  clear hI
  rintro e w1 ⟨he, b1⟩
  cases R with
  | none =>
    replace he : e = _ := he
    subst he
    go_wp2_with fail
    go_ret
    exact ⟨rfl, hW.trans (b1.mono hW.size)⟩
  | some q =>
    obtain ⟨a9, cap9, rfl, h9⟩ := he
    clear h9
    go_wp2_with fail
    go_ret
    exact ⟨rfl, hW.trans (b1.mono hW.size)⟩
/-- A tree's text, or none. -/
def ereT (d : Nd) : List UInt8 := if nrightB d then nT d else []
set_option maxRecDepth 100000 in
set_option maxHeartbeats 1000000 in
theorem rEre_any (N : Nat) (t : Tr) (a : Option Addr) (cap : Nat) (w : World) (h : TrD N w t a cap) (hk : tknown t = true) (hz : nsize (canon t) ≤ 300000) :
    Calls Tryz.prog 16 #[tV t a cap] w (RTxt w (ereT (canon t))) := by
  have hT := (Blk.new w (tC t a cap) 39 _ rfl)
  have hW := (Below.refl w.heap.size w).alloc (Nat.le_refl _) (.cells (tC t a cap) 39)
  have hgr := ngroups_size (canon t)
  have hr := right6 N t a cap _ (h.below hW) hk (by omega)
  have hTr := h.below hW
  have c0 := (hT.cell 0).trans rfl; have c1 := (hT.cell 1).trans rfl; have c2 := (hT.cell 2).trans rfl; have c3 := (hT.cell 3).trans rfl; have c4 := (hT.cell 4).trans rfl; have c5 := (hT.cell 5).trans rfl; have c6 := (hT.cell 6).trans rfl; have c7 := (hT.cell 7).trans rfl; have c8 := (hT.cell 8).trans rfl
  unfold tV at hr ⊢
  have hlT := hT.lt
  cases hb : nrightB (canon t) with
  | false =>
    have HE := Lib.hid (show ereT (canon t) = [] by unfold ereT; rw [hb]; rfl)
    rw [hb] at hr
    go_enter Tryz.func16, Tryz.ntmps16
    go_wp2_with fail
    refine hr.mono ?_
    rintro e w1 ⟨rfl, b1⟩
    go_wp2_with fail
    go_ret
    exact ⟨⟨_, rfl, by rw [HE.out]⟩, hW.trans (b1.mono hW.size)⟩
  | true =>
    have HE := Lib.hid (show ereT (canon t) = nT (canon t) by unfold ereT; rw [hb]; rfl)
    have hn := right_numOk (canon t) hb (by omega)
    rw [hb] at hr
    go_enter Tryz.func16, Tryz.ntmps16
    go_wp2_with fail
    refine hr.mono ?_
    rintro e w1 ⟨rfl, b1⟩
    have hT1 := hT.below b1 hlT
    have hTr1 := hTr.below b1
    clear c0 c1 c2 c3 c4 c5 c6 c7 c8 hr hT hTr
    have c0 := (hT1.cell 0).trans rfl; have c1 := (hT1.cell 1).trans rfl; have c2 := (hT1.cell 2).trans rfl; have c3 := (hT1.cell 3).trans rfl; have c4 := (hT1.cell 4).trans rfl; have c5 := (hT1.cell 5).trans rfl; have c6 := (hT1.cell 6).trans rfl; have c7 := (hT1.cell 7).trans rfl; have c8 := (hT1.cell 8).trans rfl
    have hB1 := hW.trans (b1.mono hW.size)
    have hc := rere_any N t a cap w1 hTr1 hn hz
    unfold tV at hc
    clear hT1 hTr1 b1
    go_wp2_with fail
    refine hc.mono ?_
    rintro e w2 ⟨⟨S, rfl, hS⟩, b2⟩
    go_wp2_with fail
    go_ret
    exact ⟨⟨_, rfl, by rw [HE.out]; exact hS⟩, hB1.trans (b2.mono hB1.size)⟩
end Go.Proofs.YtpmeicclngckeaaGreatDoor
