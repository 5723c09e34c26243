/- The statement BracketItems, walked. -/
import Derived.Test.YtehikndlcepkgaaDoorBrRanges
import Derived.Test.YtehikndlcepkgaaDoorBrShift
import Derived.OpenShut
import Derived.Test.YtehikndlcepkgaaDoorOctOpen
namespace Go.Proofs.YtehikndlcepkgaaDoor
open Go.RowKit

/-- Bytes, each between [. and .]. -/
def itZ (zs : List Int) : List UInt8 := zs.flatMap fun z => [91, 46, UInt8.ofNat z.toNat, 46, 93]
theorem itZ_len (zs : List Int) : (itZ zs).length = 5 * zs.length := by
  induction zs with
  | nil => rfl
  | cons z zs ih =>
    have : itZ (z :: zs) = [91, 46, UInt8.ofNat z.toNat, 46, 93] ++ itZ zs := rfl
    rw [this, List.length_append, ih]
    simp only [List.length_cons, List.length_nil]
    omega
theorem itZ_snoc (zs : List Int) (k : Nat) (h : k < zs.length) : itZ (zs.take (k + 1)) = itZ (zs.take k) ++ [91, 46, UInt8.ofNat (zs.getD k 0).toNat, 46, 93] := by
  unfold itZ
  rw [List.take_succ_eq_append_getElem h, List.flatMap_append]
  simp [List.getD, List.getElem?_eq_getElem h]
theorem itZ_head (zs : List Int) : byt (itZ zs ++ [93]) 0 = 91 ∨ byt (itZ zs ++ [93]) 0 = 93 := by
  cases zs with
  | nil => exact Or.inr rfl
  | cons z zs => exact Or.inl rfl
theorem rst_items (zs : List Int) : ∀ (_ : ∀ z ∈ zs, 0 ≤ z ∧ z ≤ 255) (fl : Bool) (acc : OSet) (_ : fl = false ∨ zs ≠ []), rst (itZ zs ++ [93]) fl 0 acc = .ok (zs.foldl (fun s z => s ||| obit z.toNat) acc, (itZ zs).length + 1) := by
  induction zs with
  | nil =>
    intro _ fl acc hf
    obtain rfl : fl = false := hf.resolve_right (by simp)
    rw [rst, if_pos ⟨rfl, (by decide : 0 < 1), rfl⟩]
    rfl
  | cons z zs ih =>
    intro hz fl acc _
    have ih := ih (fun y hy => hz y (List.mem_cons_of_mem _ hy)) false
    have hz0 := hz z List.mem_cons_self
    have hc : (UInt8.ofNat z.toNat).toNat = z.toNat := by simp; omega
    have hL : itZ (z :: zs) ++ [93] = [91, 46, UInt8.ofNat z.toNat, 46, 93] ++ (itZ zs ++ [93]) := rfl
    have hlen : (itZ (z :: zs)).length = (itZ zs).length + 5 := by rw [itZ_len, itZ_len]; simp only [List.length_cons]; omega
    have hi : itm (itZ (z :: zs) ++ [93]) 0 = ⟨oSpan z.toNat z.toNat, true, 5, 0, 0⟩ := by
      have := itm_dot (itZ (z :: zs) ++ [93]) 0 (by rw [List.length_append, hlen]; simp) rfl rfl rfl rfl
      rw [show byt (itZ (z :: zs) ++ [93]) (0 + 2) = z.toNat from hc] at this
      exact this
    have h5 : byt (itZ (z :: zs) ++ [93]) 5 ≠ 45 := by
      have := byt_app [91, 46, UInt8.ofNat z.toNat, 46, 93] (itZ zs ++ [93]) 0
      rw [hL, show (5 : Nat) = 0 + [91, 46, UInt8.ofNat z.toNat, 46, 93].length from rfl, this]
      rcases itZ_head zs with h | h <;> omega
    have he := elm_plain (itZ (z :: zs) ++ [93]) 0 _ hi rfl (fun h => h5 h.2.1)
    have h0 : ¬ (fl = false ∧ 0 < (itZ (z :: zs) ++ [93]).length ∧ byt (itZ (z :: zs) ++ [93]) 0 = 93) := by
      rintro ⟨_, _, h⟩
      rw [show byt (itZ (z :: zs) ++ [93]) 0 = 91 from rfl] at h
      omega
    rw [rst_ok _ _ _ _ _ _ h0 he]
    have hr := rst_app [91, 46, UInt8.ofNat z.toNat, 46, 93] (itZ zs ++ [93]) false 0 (acc ||| oSpan z.toNat z.toNat)
    rw [← hL, ih _ (Or.inl rfl)] at hr
    refine hr.trans ?_
    have ho : oSpan (z.toNat : Int) z.toNat = obit z.toNat := by
      rw [← ofl_one]
      show oz ||| obit ((z.toNat : Int)).toNat = _
      rw [Int.toNat_natCast]
      simp [oz]
    rw [hlen, ho]
    show Except.ok (_, (itZ zs).length + 1 + 5) = Except.ok (_, (itZ zs).length + 5 + 1)
    rfl
theorem prs_items (zs : List Int) (hz : ∀ z ∈ zs, 0 ≤ z ∧ z ≤ 255) (hn : zs ≠ []) : prs (itZ zs ++ [93]) 0 = (ofl zs, (((itZ zs).length + 1 : Nat) : Int), 0) := by
  have hc : car (itZ zs ++ [93]) 0 = false := by
    cases zs with
    | nil => exact absurd rfl hn
    | cons z zs =>
      unfold car
      rw [show byt (itZ (z :: zs) ++ [93]) 0 = 91 from rfl]
      simp
  have h := prs_ok (itZ zs ++ [93]) 0 (by omega) (ofl zs) ((itZ zs).length + 1) (by
    rw [hc]
    exact rst_items zs hz true oz (Or.inr hn))
  rw [hc] at h
  exact h
theorem prs_nitems (zs : List Int) (hz : ∀ z ∈ zs, 0 ≤ z ∧ z ≤ 255) (hn : zs ≠ []) : prs (94 :: (itZ zs ++ [93])) 0 = (~~~(ofl zs), (((itZ zs).length + 2 : Nat) : Int), 0) := by
  have h0 := prs_items zs hz hn
  obtain ⟨t, j, e, h1, h2⟩ := prs_nots (itZ zs ++ [93]) (by rw [List.length_append]; simp) (by
    cases zs with
    | nil => exact absurd rfl hn
    | cons z zs => rw [show byt (itZ (z :: zs) ++ [93]) 0 = 91 from rfl]; decide)
  rw [h0] at h1
  injection h1 with ha hb
  injection hb with hb hc
  rcases h2 with ⟨_, _, h2⟩ | ⟨h2, _⟩
  · rw [h2, ← ha]
    rw [show j = (itZ zs).length + 1 by omega]
  · exact absurd hc.symm h2
set_option linter.unusedSimpArgs false in
set_option maxRecDepth 100000 in
set_option maxHeartbeats 4000000 in
theorem items_plain (zs : List Int) (b o cap : Nat) (w : World) (hG : Gl w) (hb : b < w.heap.size) (hm : zs.length ≤ 60) (h1 : 0 < zs.length)
    (hc : ∀ i, i < zs.length → w.cell? ⟨b, o + i, none⟩ = some (.int .u8 (zs.getD i 0))) (hr : ∀ i, 0 ≤ zs.getD i 0 ∧ zs.getD i 0 ≤ 255) :
    Calls Tryd.prog 6 #[.slice (some ⟨b, o, none⟩) zs.length cap, .bool false] w fun e w' => e = .returned (.bool true) ∧ Below w.heap.size w w' := by
  have hall : ∀ z ∈ zs, 0 ≤ z ∧ z ≤ 255 := fun z hz => by
    obtain ⟨i, hi, rfl⟩ := List.getElem_of_mem hz
    have := hr i
    simpa [List.getD, List.getElem?_eq_getElem hi] using this
  have hne : zs ≠ [] := by intro h; rw [h] at h1; simp at h1
  have Hp := Lib.hid (prs_items zs hall hne)
  have Hc := Lib.hid hc
  have Hr := Lib.hid hr
  clear hc hr hall hne
  have e1 : decide ((60 : Int) < (zs.length : Int)) = false := decide_eq_false (by omega)
  have e2 : decide (60 < zs.length) = false := decide_eq_false (by omega)
  have e3 : ((zs.length : Int) == 0) = false := by rw [beq_eq_false_iff_ne]; omega
  go_enter Tryd.func6, Tryd.ntmps6
  go_wp2_with fail
  refine (awake_any _ hG).mono ?_
  rintro e w1 ⟨rfl, hW1⟩
  have hs1 := hW1.size
  go_wp2_with fail
  go_loopw [5, 29] (fun sv i wr => ∃ (k : Nat) (S : ByteArray), k ≤ zs.length ∧ i = .int .i64 k ∧ sv = .string S ∧ S.data.toList = [] ++ itZ (zs.take k) ∧ Below w.heap.size w wr ∧ Blk wr w1.heap.size (oc (ofl (zs.take k))) 29) (fun _ i _ => zs.length - (intOf i).toNat)
  case atStart =>
    have hz : oc oz = #[.int .u64 0, .int .u64 0, .int .u64 0, .int .u64 0] := by unfold oc; rw [ow_zero, ow_zero, ow_zero, ow_zero]
    exact ⟨0, _, by omega, rfl, rfl, rfl, hW1.alloc hW1.size _, by rw [List.take_zero, ofl_nil, hz]; exact Blk.new _ _ _ _ rfl⟩
  case round =>
    obtain ⟨k, S, hk, rfl, rfl, hS, hW, hO⟩ := hrel
    have hSz : S.size ≤ 301 := by
      rw [← plist_size, hS, List.length_append, itZ_len, List.length_take]
      simp only [List.length_cons, List.length_nil]
      omega
    by_cases hlt : k < zs.length
    · have hz := Hr.out k
      have c9 := (hW.cell (p := ⟨b, o + k, none⟩) hb).trans (Hc.out k hlt)
      have Hs := Lib.hid (itZ_snoc zs k hlt)
      have Ho := Lib.hid (ofl_snoc zs k hlt)
      generalize zs.getD k 0 = z at hz c9 Hs Ho
      have kc := pconv1 wr z
      have hB1 : (strOfNums [z]).size ≤ 1 := by rw [strOfNums_size]; simp
      obtain ⟨c0, c1, c2, c3⟩ := oblk_cells hO
      have hlO := hO.lt
      have HS := Lib.hid hS
      clear hS
      go_wp2_with fail
      refine (with_any (ofl (zs.take k)) z hz.1 hz.2 _).mono ?_
      rintro e w2 ⟨rfl, b2⟩
      replace hO := (hO.alloc (.cells #[.int .u8 z] 5)).below b2 (hO.alloc _).lt
      replace hW := (hW.alloc hW.size (.cells #[.int .u8 z] 5)).trans (b2.mono (hW.alloc hW.size _).size)
      clear b2 c0 c1 c2 c3 kc hlO
      obtain ⟨c0, c1, c2, c3⟩ := oblk_cells hO
      have f0 := hO.frozen 0
      have f1 := hO.frozen 1
      have f2 := hO.frozen 2
      have f3 := hO.frozen 3
      have hlO := hO.lt
      go_wp2_with fail
      go_roundw
      case rel =>
        refine ⟨k + 1, _, by omega, by go_num, rfl, ?_, ?_, ?_⟩
        · rw [Hs.out, ← List.append_assoc, ← HS.out]
          simp [strOfNums, ByteArray.data_append]
        · repeat (first | (with_reducible exact hW) | refine Below.setCell ?_ (by first | omega | (simp; omega) | simp) _)
        · rw [Ho.out]; exact oblk_store hO _
      case measure => simp [intOf]; omega
    · obtain rfl : k = zs.length := by omega
      rw [List.take_length] at hS hO
      obtain ⟨c0, c1, c2, c3⟩ := oblk_cells hO
      have hlO := hO.lt
      have HS := Lib.hid hS
      clear hS
      go_wp2_with fail
      have hl2 : (S ++ (⟨#[93]⟩ : ByteArray)).data.toList = itZ zs ++ [93] := by
        have := HS.out
        simp only [List.nil_append] at this
        rw [← this]
        simp [ByteArray.data_append]
      have hpb := parse_any (S ++ (⟨#[93]⟩ : ByteArray)) 0 wr (by rw [← plist_size, hl2, List.length_append, itZ_len]; simp; omega) (hG.up hW)
      rw [hl2, Hp.out] at hpb
      have hSz2 : S.size + 1 = (itZ zs).length + 1 := by rw [← plist_size, HS.out]; simp
      refine hpb.mono ?_
      clear hpb hl2
      rintro e w2 ⟨rfl, b2⟩
      replace hW := hW.trans (b2.mono hW.size)
      replace hO := hO.below b2 hO.lt
      clear b2 c0 c1 c2 c3 hlO
      obtain ⟨c0, c1, c2, c3⟩ := oblk_cells hO
      have hlO := hO.lt
      have Wj : IntKind.i64.wrap ((S.size : Int) + 1) = (((itZ zs).length + 1 : Nat) : Int) := by
        rw [IntWalk.i64_in _ (by omega)]
        omega
      have hq := fun w => (oset_eql (ofl zs) (ofl zs) w).trans (by rw [decide_eq_true rfl])
      unfold prV
      go_wp2_with fail
      go_ret
      exact ⟨rfl, hW.alloc hW.size _⟩

set_option linter.unusedSimpArgs false in
set_option maxRecDepth 100000 in
set_option maxHeartbeats 4000000 in
theorem items_not (zs : List Int) (b o cap : Nat) (w : World) (hG : Gl w) (hb : b < w.heap.size) (hm : zs.length ≤ 60) (h1 : 0 < zs.length)
    (hc : ∀ i, i < zs.length → w.cell? ⟨b, o + i, none⟩ = some (.int .u8 (zs.getD i 0))) (hr : ∀ i, 0 ≤ zs.getD i 0 ∧ zs.getD i 0 ≤ 255) :
    Calls Tryd.prog 6 #[.slice (some ⟨b, o, none⟩) zs.length cap, .bool true] w fun e w' => e = .returned (.bool true) ∧ Below w.heap.size w w' := by
  have hall : ∀ z ∈ zs, 0 ≤ z ∧ z ≤ 255 := fun z hz => by
    obtain ⟨i, hi, rfl⟩ := List.getElem_of_mem hz
    have := hr i
    simpa [List.getD, List.getElem?_eq_getElem hi] using this
  have hne : zs ≠ [] := by intro h; rw [h] at h1; simp at h1
  have Hp := Lib.hid (prs_nitems zs hall hne)
  have Hc := Lib.hid hc
  have Hr := Lib.hid hr
  clear hc hr hall hne
  have e1 : decide ((60 : Int) < (zs.length : Int)) = false := decide_eq_false (by omega)
  have e2 : decide (60 < zs.length) = false := decide_eq_false (by omega)
  have e3 : ((zs.length : Int) == 0) = false := by rw [beq_eq_false_iff_ne]; omega
  go_enter Tryd.func6, Tryd.ntmps6
  go_wp2_with fail
  refine (awake_any _ hG).mono ?_
  rintro e w1 ⟨rfl, hW1⟩
  have hs1 := hW1.size
  go_wp2_with fail
  go_loopw [5, 29] (fun sv i wr => ∃ (k : Nat) (S : ByteArray), k ≤ zs.length ∧ i = .int .i64 k ∧ sv = .string S ∧ S.data.toList = [94] ++ itZ (zs.take k) ∧ Below w.heap.size w wr ∧ Blk wr w1.heap.size (oc (ofl (zs.take k))) 29) (fun _ i _ => zs.length - (intOf i).toNat)
  case atStart =>
    have hz : oc oz = #[.int .u64 0, .int .u64 0, .int .u64 0, .int .u64 0] := by unfold oc; rw [ow_zero, ow_zero, ow_zero, ow_zero]
    exact ⟨0, _, by omega, rfl, rfl, rfl, hW1.alloc hW1.size _, by rw [List.take_zero, ofl_nil, hz]; exact Blk.new _ _ _ _ rfl⟩
  case round =>
    obtain ⟨k, S, hk, rfl, rfl, hS, hW, hO⟩ := hrel
    have hSz : S.size ≤ 301 := by
      rw [← plist_size, hS, List.length_append, itZ_len, List.length_take]
      simp only [List.length_cons, List.length_nil]
      omega
    by_cases hlt : k < zs.length
    · have hz := Hr.out k
      have c9 := (hW.cell (p := ⟨b, o + k, none⟩) hb).trans (Hc.out k hlt)
      have Hs := Lib.hid (itZ_snoc zs k hlt)
      have Ho := Lib.hid (ofl_snoc zs k hlt)
      generalize zs.getD k 0 = z at hz c9 Hs Ho
      have kc := pconv1 wr z
      have hB1 : (strOfNums [z]).size ≤ 1 := by rw [strOfNums_size]; simp
      obtain ⟨c0, c1, c2, c3⟩ := oblk_cells hO
      have hlO := hO.lt
      have HS := Lib.hid hS
      clear hS
      go_wp2_with fail
      refine (with_any (ofl (zs.take k)) z hz.1 hz.2 _).mono ?_
      rintro e w2 ⟨rfl, b2⟩
      replace hO := (hO.alloc (.cells #[.int .u8 z] 5)).below b2 (hO.alloc _).lt
      replace hW := (hW.alloc hW.size (.cells #[.int .u8 z] 5)).trans (b2.mono (hW.alloc hW.size _).size)
      clear b2 c0 c1 c2 c3 kc hlO
      obtain ⟨c0, c1, c2, c3⟩ := oblk_cells hO
      have f0 := hO.frozen 0
      have f1 := hO.frozen 1
      have f2 := hO.frozen 2
      have f3 := hO.frozen 3
      have hlO := hO.lt
      go_wp2_with fail
      go_roundw
      case rel =>
        refine ⟨k + 1, _, by omega, by go_num, rfl, ?_, ?_, ?_⟩
        · rw [Hs.out, ← List.append_assoc, ← HS.out]
          simp [strOfNums, ByteArray.data_append]
        · repeat (first | (with_reducible exact hW) | refine Below.setCell ?_ (by first | omega | (simp; omega) | simp) _)
        · rw [Ho.out]; exact oblk_store hO _
      case measure => simp [intOf]; omega
    · obtain rfl : k = zs.length := by omega
      rw [List.take_length] at hS hO
      obtain ⟨c0, c1, c2, c3⟩ := oblk_cells hO
      have hlO := hO.lt
      have HS := Lib.hid hS
      clear hS
      go_wp2_with fail
      obtain ⟨nt, hnt⟩ : ∃ nt, ~~~(ofl zs) = nt := ⟨_, rfl⟩
      have hna := rnot_any (ofl zs)
      rw [hnt] at Hp hna
      clear hnt
      refine (hna _).mono ?_
      rintro e w3 ⟨rfl, b3⟩
      replace hW := hW.trans (b3.mono hW.size)
      replace hO := hO.below b3 hO.lt
      clear b3 c0 c1 c2 c3 hlO
      obtain ⟨c0, c1, c2, c3⟩ := oblk_cells hO
      have f0 := hO.frozen 0
      have f1 := hO.frozen 1
      have f2 := hO.frozen 2
      have f3 := hO.frozen 3
      have hlO := hO.lt
      go_wp2_with fail
      have hO2 : Blk ((((w3.setCell ⟨w1.heap.size, 0, none⟩ (.int .u64 (ow nt 0))).setCell ⟨w1.heap.size, 1, none⟩ (.int .u64 (ow nt 1))).setCell ⟨w1.heap.size, 2, none⟩ (.int .u64 (ow nt 2))).setCell ⟨w1.heap.size, 3, none⟩ (.int .u64 (ow nt 3))) w1.heap.size (oc nt) 29 := oblk_store hO nt
      have hW2 : Below w.heap.size w ((((w3.setCell ⟨w1.heap.size, 0, none⟩ (.int .u64 (ow nt 0))).setCell ⟨w1.heap.size, 1, none⟩ (.int .u64 (ow nt 1))).setCell ⟨w1.heap.size, 2, none⟩ (.int .u64 (ow nt 2))).setCell ⟨w1.heap.size, 3, none⟩ (.int .u64 (ow nt 3))) := by
        repeat (first | (with_reducible exact hW) | refine Below.setCell ?_ (by first | omega | (simp; omega) | simp) _)
      generalize ((((w3.setCell ⟨w1.heap.size, 0, none⟩ (.int .u64 (ow nt 0))).setCell ⟨w1.heap.size, 1, none⟩ (.int .u64 (ow nt 1))).setCell ⟨w1.heap.size, 2, none⟩ (.int .u64 (ow nt 2))).setCell ⟨w1.heap.size, 3, none⟩ (.int .u64 (ow nt 3))) = wr2 at hO2 hW2 ⊢
      clear hO hW c0 c1 c2 c3 f0 f1 f2 f3 hlO
      have hO := hO2
      have hW := hW2
      clear hO2 hW2
      obtain ⟨c0, c1, c2, c3⟩ := oblk_cells hO
      have hlO := hO.lt
      have hl2 : (S ++ (⟨#[93]⟩ : ByteArray)).data.toList = 94 :: (itZ zs ++ [93]) := by
        rw [ByteArray.data_append, Array.toList_append, HS.out]
        rfl
      have hpb := parse_any (S ++ (⟨#[93]⟩ : ByteArray)) 0 wr2 (by rw [← plist_size, hl2, List.length_cons, List.length_append, itZ_len]; simp; omega) (hG.up hW)
      rw [hl2, Hp.out] at hpb
      have hSz2 : S.size + 1 = (itZ zs).length + 2 := by rw [← plist_size, HS.out]; simp
      refine hpb.mono ?_
      clear hpb hl2
      rintro e w2 ⟨rfl, b2⟩
      replace hW := hW.trans (b2.mono hW.size)
      replace hO := hO.below b2 hO.lt
      clear b2 c0 c1 c2 c3 hlO
      obtain ⟨c0, c1, c2, c3⟩ := oblk_cells hO
      have hlO := hO.lt
      have Wj : IntKind.i64.wrap ((S.size : Int) + 1) = (((itZ zs).length + 2 : Nat) : Int) := by
        rw [IntWalk.i64_in _ (by omega)]
        omega
      have hq := fun w => (oset_eql nt nt w).trans (by rw [decide_eq_true rfl])
      unfold prV
      go_wp2_with fail
      go_ret
      exact ⟨rfl, hW.alloc hW.size _⟩

set_option linter.unusedSimpArgs false in
set_option maxRecDepth 100000 in
set_option maxHeartbeats 2000000 in
theorem items_zero (a : Option Addr) (cap : Nat) (nt : Bool) (w : World) (hG : Gl w) :
    Calls Tryd.prog 6 #[.slice a 0 cap, .bool nt] w fun e w' => e = .returned (.bool true) ∧ Below w.heap.size w w' := by
  go_enter Tryd.func6, Tryd.ntmps6
  go_wp2_with fail
  refine (awake_any _ hG).mono ?_
  rintro e w1 ⟨rfl, hW⟩
  go_wp2_with fail
  refine (awake_any _ (hG.up hW)).mono ?_
  rintro e w2 ⟨rfl, b2⟩
  go_wp2_with fail
  go_ret
  exact ⟨rfl, hW.trans (b2.mono hW.size)⟩
set_option linter.unusedSimpArgs false in
set_option maxRecDepth 100000 in
set_option maxHeartbeats 2000000 in
theorem items_long (a : Option Addr) (len cap : Nat) (nt : Bool) (w : World) (hG : Gl w) (hl : 60 < len) :
    Calls Tryd.prog 6 #[.slice a len cap, .bool nt] w fun e w' => e = .returned (.bool true) ∧ Below w.heap.size w w' := by
  have e1 : decide ((60 : Int) < (len : Int)) = true := decide_eq_true (by omega)
  have e2 : decide (60 < len) = true := decide_eq_true hl
  have e3 : ((len : Int) == 0) = false := by rw [beq_eq_false_iff_ne]; omega
  go_enter Tryd.func6, Tryd.ntmps6
  go_wp2_with fail
  refine (awake_any _ hG).mono ?_
  rintro e w1 ⟨rfl, hW⟩
  go_wp2_with fail
  refine (awake_any _ (hG.up hW)).mono ?_
  rintro e w2 ⟨rfl, b2⟩
  go_wp2_with fail
  go_ret
  exact ⟨rfl, hW.trans (b2.mono hW.size)⟩
theorem items_law (a : Option Addr) (len cap : Nat) (zs : List Int) {w0 : World} (hrow : IsRow .u8 w0 a len cap zs) (nt : Bool) (w : World) (hG : Gl w) (hw : w0 = w) :
    Calls Tryd.prog 6 #[.slice a len cap, .bool nt] w fun e w' => e = .returned (.bool true) ∧ Below w.heap.size w w' := by
  subst hw
  by_cases hl : 60 < len
  · exact items_long a len cap nt w0 hG hl
  · by_cases hz : len = 0
    · subst hz; exact items_zero a cap nt w0 hG
    · rcases hrow with ⟨_, h2, _, _⟩ | ⟨ad, rfl, hlc, _, hzl, hc, hwf⟩
      · exact absurd h2 hz
      · obtain ⟨b, o, rfl, hc2⟩ := ints_at hc (by omega)
        have hb := World.block_lt_of_cell? w0 _ (hc2 0 (by omega))
        have hlen : (zs.take len).length = len := by rw [List.length_take]; omega
        have hcs : ∀ i, i < (zs.take len).length → w0.cell? ⟨b, o + i, none⟩ = some (.int .u8 ((zs.take len).getD i 0)) := fun i hi => by
          rw [hc2 i (by omega)]
          simp only [List.getD]
          rw [List.getElem?_take_of_lt (by omega)]
        have hrs : ∀ i, 0 ≤ (zs.take len).getD i 0 ∧ (zs.take len).getD i 0 ≤ 255 := fun i => by
          simp only [List.getD]
          by_cases hi : i < len
          · rw [List.getElem?_take_of_lt hi]
            have := range_u8 hwf i
            exact this
          · rw [List.getElem?_eq_none (by omega)]; simp
        cases nt
        · have h := items_plain (zs.take len) b o cap w0 hG hb (by omega) (by omega) hcs hrs
          rw [hlen] at h
          exact h
        · have h := items_not (zs.take len) b o cap w0 hG hb (by omega) (by omega) hcs hrs
          rw [hlen] at h
          exact h
theorem items_all (a : Option Addr) (len cap : Nat) (zs : List Int) {w0 : World} (hrow : IsRow .u8 w0 a len cap zs) (nt : Bool) (w : World) (hG : Gl w) (hw : w0 = w := by rfl) :
    Calls Tryd.prog 6 #[.slice a len cap, .bool nt] w fun e w' => e = .returned (.bool true) ∧ Below w.heap.size w w' := items_law a len cap zs hrow nt w hG hw
end Go.Proofs.YtehikndlcepkgaaDoor
