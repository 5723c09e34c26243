/- Layer 11: quoted bytes, texts and numbers: the statements' mathematics and walks. -/
import Derived.Test.YtbhmpdbcjchdfaaDoorPcK
import Derived.Deep.LoopGhost
namespace Go.Proofs.YtbhmpdbcjchdfaaDoor
open Go.RowKit

theorem drop_one {L t : List UInt8} {a : UInt8} {p : Nat} (h : L.drop p = a :: t) : L.drop (p + 1) = t := by
  rw [← List.drop_drop, h]; rfl
theorem drop_two {L t : List UInt8} {a b : UInt8} {p : Nat} (h : L.drop p = a :: b :: t) : L.drop (p + 2) = t := by
  rw [← List.drop_drop, h]; rfl

/-- Bytes, each delimiter behind a backslash. -/
def pcQ (d : UInt8) (l : List UInt8) : List UInt8 := l.flatMap fun c => if c = d then [92, c] else [c]
theorem pcQ_cons (d c : UInt8) (l : List UInt8) : pcQ d (c :: l) = (if c = d then [92, c] else [c]) ++ pcQ d l := rfl
theorem pcQ_snoc (d c : UInt8) (l : List UInt8) : pcQ d (l ++ [c]) = pcQ d l ++ (if c = d then [92, c] else [c]) := by simp [pcQ]
theorem pcQ_len (d : UInt8) : ∀ l : List UInt8, (pcQ d l).length ≤ 2 * l.length
  | [] => Nat.le_refl _
  | c :: l => by
    have := pcQ_len d l
    rw [pcQ_cons]
    split <;> simp <;> omega
theorem pcQ_ge (d : UInt8) : ∀ l : List UInt8, l.length ≤ (pcQ d l).length
  | [] => Nat.le_refl _
  | c :: l => by
    have := pcQ_ge d l
    rw [pcQ_cons]
    split <;> simp <;> omega
def pcGood (d c : UInt8) : Prop := ¬ c = 10 ∧ ¬ c = 92 ∧ (c = 91 → d = 91)
theorem btw_quoted (d : UInt8) (rx : Bool) (hd2 : ¬ d = 92) (L rest : List UInt8) : ∀ (l : List UInt8) (p n : Nat) (acc : List UInt8), (∀ c ∈ l, pcGood d c) → L.drop p = pcQ d l ++ d :: rest → l.length < n →
    pcBtw d rx L n p acc = (acc ++ l, p + (pcQ d l).length + 1, 0)
  | [], p, n, acc, _, hL, hn => by
    obtain ⟨m, rfl⟩ : ∃ m, n = m + 1 := ⟨n - 1, by simp at hn; omega⟩
    rw [pcBtw_del hL]
    simp [pcQ]
  | c :: l, p, n, acc, hg, hL, hn => by
    obtain ⟨m, rfl⟩ : ∃ m, n = m + 1 := ⟨n - 1, by simp at hn; omega⟩
    have hgc := hg c (by simp)
    have hm : l.length < m := by simp at hn; omega
    rw [pcQ_cons] at hL ⊢
    by_cases hc : c = d
    · rw [if_pos hc] at hL ⊢
      have hL' : L.drop p = 92 :: c :: (pcQ d l ++ d :: rest) := hL
      rw [pcBtw_part hL' (fun h => hd2 h.symm) (by rw [pcPart_bs, if_pos hc])]
      rw [btw_quoted d rx hd2 L rest l (p + 2) m (acc ++ [c]) (fun x hx => hg x (by simp [hx])) (drop_two hL') hm]
      simp
      omega
    · rw [if_neg hc] at hL ⊢
      have hL' : L.drop p = c :: (pcQ d l ++ d :: rest) := hL
      rw [pcBtw_part hL' hc (pcPart_plain d rx c _ p hgc.1 hgc.2.1 (by
        rw [show (c == 91) = false from beq_eq_false_iff_ne.2 fun h => hc (by rw [h, hgc.2.2 h]), Bool.and_false]))]
      rw [btw_quoted d rx hd2 L rest l (p + 1) m (acc ++ [c]) (fun x hx => hg x (by simp [hx])) (drop_one hL') hm]
      simp
      omega

/-- Bytes, each behind a backslash. -/
def pcB (l : List UInt8) : List UInt8 := l.flatMap fun c => [92, c]
theorem pcB_snoc (c : UInt8) (l : List UInt8) : pcB (l ++ [c]) = pcB l ++ [92, c] := by simp [pcB]
theorem pcB_len : ∀ l : List UInt8, (pcB l).length = 2 * l.length
  | [] => rfl
  | c :: l => by
    have := pcB_len l
    show (92 :: c :: pcB l).length = _
    simp
    omega
theorem lin_quoted (rest : List UInt8) : ∀ (l : List UInt8) (p : Nat) (acc : List UInt8), pcLin (pcB l ++ 10 :: rest) p acc = (acc ++ l ++ [10], p + 2 * l.length + 1, 0)
  | [], p, acc => by
    show pcLin (10 :: rest) p acc = _
    rw [pcLin_nl]
    simp
  | c :: l, p, acc => by
    show pcLin (92 :: c :: (pcB l ++ 10 :: rest)) p acc = _
    rw [pcLin_bs, lin_quoted rest l (p + 2) (acc ++ [c])]
    simp
    omega

/- A number's digits. -/
def pcFold (k : Nat) (l : List UInt8) : Nat := l.foldl (fun n b => n * 10 + (b.toNat - 48)) k
theorem pcFold_cons (k : Nat) (c : UInt8) (l : List UInt8) : pcFold k (c :: l) = pcFold (k * 10 + (c.toNat - 48)) l := by unfold pcFold; rw [List.foldl_cons]
theorem pcFold_zero (l : List UInt8) : pcFold 0 l = pcVal l := rfl
theorem is_digits (T rest : List UInt8) (hT : ∀ b ∈ T, pcDigits.contains b = true) (hr : ∀ b, rest[0]? = some b → pcDigits.contains b = false) : pcIs pcDigits (T ++ rest) = T.length := by
  refine pcLen_is (by simp) (fun j b hj hb => ?_) (fun b hb => ?_)
  · rw [List.getElem?_append_left hj] at hb
    exact hT b (List.mem_of_getElem? hb)
  · rw [List.getElem?_append_right (Nat.le_refl _), Nat.sub_self] at hb
    exact hr b hb
theorem num_digits (T rest : List UInt8) (m : Nat) (hT : ∀ b ∈ T, pcDigits.contains b = true) (hr : ∀ b, rest[0]? = some b → pcDigits.contains b = false) (h1 : 1 ≤ T.length) (h9 : T.length ≤ 9) (hm : pcFold 0 T = m) :
    pcNumber (120 :: (T ++ rest)) 1 = (m, 1 + T.length, 0) := by
  subst hm
  have h : pcNumber (120 :: (T ++ rest)) ((1 : Nat) : Int) = pcNum (120 :: (T ++ rest)) 1 := pcAt_at _ _ _ _ (Nat.succ_le_succ (Nat.zero_le _))
  have h2 := pcNum_ok (L := 120 :: (T ++ rest)) (k := 1) (j := T.length) (is_digits T rest hT hr) (by omega) h9
  have h3 : ((120 :: (T ++ rest)).drop 1).take T.length = T := List.take_left
  rw [h3] at h2
  exact h.trans h2

theorem conv1 (W : World) (x : Int) : (convert 40 9 (.slice (some ⟨W.heap.size, 0, none⟩) 1 1)).run Tryd.prog (W.alloc (.cells #[.int .u8 x] 5)) = .ok (.string (strOfNums [x])) (W.alloc (.cells #[.int .u8 x] 5)) :=
  run_convert_bytes_arg _ 40 5 Tryd.underlying40 Tryd.underlying5 _ 0 1 1 [x] rfl (fun i hi => by
    rw [(Blk.new W _ _ _ rfl).cell]
    match i, hi with
    | 0, _ => rfl) _ Tryd.underlying9
theorem nums1 (d : UInt8) : strOfNums [(d.toNat : Int)] = txt [d] := by
  unfold strOfNums txt
  simp

set_option maxHeartbeats 4000000 in
set_option maxRecDepth 100000 in
theorem ptexts_any (s : ByteArray) (w : World) (hG : GP w) :
    Calls Tryd.prog 6 #[.string s] w fun e w' => e = .returned (.bool true) ∧ Below w.heap.size w w' := by
  have hA := fun w' (h : GP w') => awake11_any w' h
  go_enter Tryd.func6, Tryd.ntmps6
  by_cases hs : (200 : Int) < (s.size : Int)
  · go_wp2_with (go_at_call 8; refine (hA _ hG).mono ?_)
    rintro e w1 ⟨rfl, b1⟩
    go_wp2_with (go_at_call 8; refine (hA w1 (hG.up b1)).mono ?_)
    rintro e w2 ⟨rfl, b2⟩
    go_wp2
    go_ret
    exact ⟨rfl, b1.trans (b2.mono b1.size)⟩
  · have hs' : s.size ≤ 200 := by omega
    go_wp2_with (go_at_call 8; refine (hA _ hG).mono ?_; rintro e w1 ⟨rfl, b1⟩)
    clear hA hG
    go_loopg [3, 4, 18] s.size (fun g t _ a wx => ∃ i : Nat, i + g = s.size ∧ a = .int .i64 i ∧ t = .string (txt (pcB (s.data.toList.take i))) ∧ w1 = wx)
    case atStart => exact ⟨0, by omega, rfl, rfl, rfl⟩
    case round =>
      obtain ⟨i, hig, rfl, rfl, rfl⟩ := hrel
      have hlen := pcB_len (s.data.toList.take i)
      rw [List.length_take, ← size_list] at hlen
      have hts := txt_size (pcB (s.data.toList.take i))
      cases gk with
      | zero =>
        obtain rfl : i = s.size := by omega
        rw [List.take_of_length_le (by rw [← size_list]; exact Nat.le_refl _)] at hlen hts
        rw [List.take_of_length_le (by rw [← size_list]; exact Nat.le_refl _)]
        have hii : ¬ (s.size : Int) < (s.size : Int) := by omega
        have hC : Calls Tryd.prog 15 #[.string (txt (pcB s.data.toList) ++ ⟨#[10, 114, 101, 115, 116]⟩), .int .i64 0] w1 fun e w' => e = .returned (.tuple #[.string (s ++ ⟨#[10]⟩), .int .i64 (((txt (pcB s.data.toList)).size : Int) + 1), .int .i64 0]) ∧ Below w1.heap.size w1 w' := by
          have h := plines_any (txt (pcB s.data.toList) ++ ⟨#[10, 114, 101, 115, 116]⟩) 0 w1 (by rw [show (⟨#[10, 114, 101, 115, 116]⟩ : ByteArray) = txt [10, 114, 101, 115, 116] from rfl, txt_append, txt_size]; simp; omega)
          have hv : pcLines (txt (pcB s.data.toList) ++ ⟨#[10, 114, 101, 115, 116]⟩).data.toList 0 = (s.data.toList ++ [10], 2 * s.size + 1, 0) := by
            rw [show (⟨#[10, 114, 101, 115, 116]⟩ : ByteArray) = txt [10, 114, 101, 115, 116] from rfl, txt_append, txt_list]
            unfold pcLines
            have h0 := pcAt_at (pcB s.data.toList ++ [10, 114, 101, 115, 116]) 0 (([], 0, 1) : PcAns) (fun k => pcLin ((pcB s.data.toList ++ [10, 114, 101, 115, 116]).drop k) k []) (Nat.zero_le _)
            rw [show ((0 : Nat) : Int) = 0 from rfl] at h0
            rw [h0, List.drop_zero, lin_quoted, ← size_list]
            simp
          rw [hv] at h
          refine h.mono fun e w' ⟨he, hb⟩ => ⟨?_, hb⟩
          rw [he]
          refine (pcA_mk ?_ ?_ rfl).symm
          · show s ++ ⟨#[10]⟩ = txt (s.data.toList ++ [10])
            rw [← txt_append, txt_of]; rfl
          · show ((txt (pcB s.data.toList)).size : Int) + 1 = ((2 * s.size + 1 : Nat) : Int)
            omega
        generalize txt (pcB s.data.toList) = TX at hC hts ⊢
        have hcs : (TX.size : Int) + 5 ≤ 1000 := by omega
        have Wt : IntKind.i64.wrap ((TX.size : Int) + 1) = (TX.size : Int) + 1 := IntWalk.i64_in _ (by omega)
        go_wp2_with (go_at_call 15; refine hC.mono ?_; rintro e w2 ⟨rfl, b2⟩)
        go_ret
        exact ⟨rfl, b1.trans (b2.mono b1.size)⟩
      | succ g =>
        have hi : i < s.size := by omega
        have hii : (i : Int) < (s.size : Int) := by omega
        have hii' : (i : Int) + 1 ≤ (s.size : Int) := by omega
        have Wi : IntKind.i64.wrap ((i : Int) + 1) = (i : Int) + 1 := IntWalk.i64_in _ (by omega)
        have Hex := Lib.hid (extract_one' s i hi)
        have hes : (s.extract i (i + 1)).size = 1 := by rw [Hex.out, txt_size]; rfl
        have h2s : ((⟨#[92]⟩ : ByteArray) ++ s.extract i (i + 1)).size = 2 := by rw [Hex.out, show (⟨#[92]⟩ : ByteArray) = txt [92] from rfl, txt_append, txt_size]; rfl
        have Hn := Lib.hid (show txt (pcB (s.data.toList.take (i + 1))) = txt (pcB (s.data.toList.take i)) ++ ((⟨#[92]⟩ : ByteArray) ++ s.extract i (i + 1)) by
          rw [Hex.out, show (⟨#[92]⟩ : ByteArray) = txt [92] from rfl, txt_append, txt_append, List.take_add_one, Lib.data_getElem? s i hi, Option.toList_some, pcB_snoc]; rfl)
        go_wp2
        go_roundg g
        case measure => omega
        case rel => exact ⟨i + 1, by omega, by go_num, by rw [Hn.out], by first | rfl | trivial⟩

set_option maxHeartbeats 4000000 in
set_option maxRecDepth 100000 in
theorem pquoted_any (s : ByteArray) (d : UInt8) (rx : Bool) (w : World) (hG : GP w) :
    Calls Tryd.prog 5 #[.string s, .int .u8 d.toNat, .bool rx] w fun e w' => e = .returned (.bool true) ∧ Below w.heap.size w w' := by
  have hA := fun w' (h : GP w') => awake11_any w' h
  have quick : ∀ w1, Below w.heap.size w w1 → Calls Tryd.prog 8 #[] w1 fun e w' => e = .returned (.bool true) ∧ Below w.heap.size w w' := fun w1 b1 =>
    (hA w1 (hG.up b1)).mono fun e w' ⟨h1, h2⟩ => ⟨h1, b1.trans (h2.mono b1.size)⟩
  go_enter Tryd.func5, Tryd.ntmps5
  by_cases hs : (200 : Int) < (s.size : Int)
  · go_wp2_with (go_at_call 8; refine (hA _ hG).mono ?_)
    rintro e w1 ⟨rfl, b1⟩
    go_wp2_with (go_at_call 8; refine (quick w1 b1).mono ?_)
    rintro e w2 ⟨rfl, b2⟩
    go_wp2
    go_ret
    exact ⟨rfl, b2⟩
  by_cases hd10 : d = 10
  · have q10 : ((d.toNat : Int) == 10) = true := by rw [hd10]; rfl
    clear hd10
    go_wp2_with (go_at_call 8; refine (hA _ hG).mono ?_; rintro e w1 ⟨rfl, b1⟩)
    go_wp2_with (go_at_call 8; refine (quick w1 b1).mono ?_; rintro e w2 ⟨rfl, b2⟩)
    go_ret
    exact ⟨rfl, b2⟩
  have q10 : ((d.toNat : Int) == 10) = false := beq_eq_false_iff_ne.2 fun h => hd10 (UInt8.toNat_inj.1 (by show d.toNat = 10; omega))
  by_cases hd92 : d = 92
  · have q92 : ((d.toNat : Int) == 92) = true := by rw [hd92]; rfl
    clear hd92
    go_wp2_with (go_at_call 8; refine (hA _ hG).mono ?_; rintro e w1 ⟨rfl, b1⟩)
    go_wp2_with (go_at_call 8; refine (quick w1 b1).mono ?_; rintro e w2 ⟨rfl, b2⟩)
    go_ret
    exact ⟨rfl, b2⟩
  have q92 : ((d.toNat : Int) == 92) = false := beq_eq_false_iff_ne.2 fun h => hd92 (UInt8.toNat_inj.1 (by show d.toNat = 92; omega))
  have hs' : s.size ≤ 200 := by omega
  go_wp2_with (go_at_call 8; refine (hA _ hG).mono ?_; rintro e w1 ⟨rfl, b1⟩)
  have hG1 := hG.up b1
  have Hd92 := Lib.hid hd92
  clear hA hG quick hd10 hd92
  go_loopg [7, 8, 9, 31] s.size (fun g t _ _ a wx => ∃ i : Nat, i + g = s.size ∧ a = .int .i64 i ∧ t = .string (txt (pcQ d (s.data.toList.take i))) ∧ Hid (∀ c ∈ s.data.toList.take i, pcGood d c) ∧ w1 = wx)
  case atStart => exact ⟨0, by omega, rfl, rfl, Lib.hid (fun c h => by simp at h), rfl⟩
  case round =>
    obtain ⟨i, hig, rfl, rfl, HG, rfl⟩ := hrel
    have hlen := pcQ_len d (s.data.toList.take i)
    rw [List.length_take, ← size_list] at hlen
    have hts := txt_size (pcQ d (s.data.toList.take i))
    cases gk with
    | zero =>
      obtain rfl : i = s.size := by omega
      rw [List.take_of_length_le (by rw [← size_list]; exact Nat.le_refl _)] at hlen hts HG
      rw [List.take_of_length_le (by rw [← size_list]; exact Nat.le_refl _)]
      have hii : ¬ (s.size : Int) < (s.size : Int) := by omega
      have kc := conv1 w1 d.toNat
      rw [nums1] at kc
      have hTs : (txt (pcQ d s.data.toList ++ [d])).size = (txt (pcQ d s.data.toList)).size + 1 := by rw [txt_size, txt_size]; simp
      have hG2 : GP (w1.alloc (.cells #[.int .u8 d.toNat] 5)) := hG1.up ((Below.refl _ w1).alloc (Nat.le_refl _) _)
      have hb2 : Below w.heap.size w (w1.alloc (.cells #[.int .u8 d.toNat] 5)) := b1.alloc b1.size _
      have hC : Calls Tryd.prog 19 #[.string (txt (pcQ d s.data.toList ++ [d]) ++ ⟨#[114, 101, 115, 116]⟩), .int .i64 0, .int .u8 d.toNat, .bool rx] (w1.alloc (.cells #[.int .u8 d.toNat] 5)) fun e w' => e = .returned (.tuple #[.string s, .int .i64 ((txt (pcQ d s.data.toList ++ [d])).size : Int), .int .i64 0]) ∧ Below (w1.alloc (.cells #[.int .u8 d.toNat] 5)).heap.size (w1.alloc (.cells #[.int .u8 d.toNat] 5)) w' := by
        have hr : txt (pcQ d s.data.toList ++ [d]) ++ ⟨#[114, 101, 115, 116]⟩ = txt (pcQ d s.data.toList ++ d :: [114, 101, 115, 116]) := by
          rw [show (⟨#[114, 101, 115, 116]⟩ : ByteArray) = txt [114, 101, 115, 116] from rfl, txt_append]; simp
        rw [hr]
        have h := pbetween_any (txt (pcQ d s.data.toList ++ d :: [114, 101, 115, 116])) 0 d rx _ (by rw [txt_size]; simp; omega) hG2
        have hv : pcBetween (txt (pcQ d s.data.toList ++ d :: [114, 101, 115, 116])).data.toList 0 d rx = (s.data.toList, (pcQ d s.data.toList).length + 1, 0) := by
          rw [txt_list]
          have h0 : pcBetween (pcQ d s.data.toList ++ d :: [114, 101, 115, 116]) ((0 : Nat) : Int) d rx = pcBtw d rx (pcQ d s.data.toList ++ d :: [114, 101, 115, 116]) ((pcQ d s.data.toList ++ d :: [114, 101, 115, 116]).length + 1) 0 [] := pcAt_at _ _ _ _ (Nat.zero_le _)
          have hql : s.data.toList.length ≤ (pcQ d s.data.toList).length := pcQ_ge d _
          refine h0.trans ((btw_quoted d rx Hd92.out _ [114, 101, 115, 116] s.data.toList 0 _ [] HG.out rfl (by rw [List.length_append]; omega)).trans ?_)
          simp
        rw [hv] at h
        refine h.mono fun e w' ⟨he, hb⟩ => ⟨?_, hb⟩
        rw [he]
        refine (pcA_mk (txt_of s).symm ?_ rfl).symm
        show ((txt (pcQ d s.data.toList ++ [d])).size : Int) = (((pcQ d s.data.toList).length + 1 : Nat) : Int)
        rw [txt_size]; simp
      have ha : txt (pcQ d s.data.toList) ++ txt [d] = txt (pcQ d s.data.toList ++ [d]) := txt_append _ _
      have hd1 : (txt [d]).size = 1 := by rw [txt_size]; rfl
      generalize txt (pcQ d s.data.toList ++ [d]) = TX at hC hTs ha
      generalize txt (pcQ d s.data.toList) = TY at hts hTs ha ⊢
      generalize txt [d] = TD at kc ha hd1
      have hTXs : TX.size ≤ 401 := by omega
      go_wp2_with (go_at_call 19; refine hC.mono ?_; rintro e w2 ⟨rfl, b2⟩)
      go_ret
      exact ⟨rfl, hb2.trans (b2.mono hb2.size)⟩
    | succ g =>
      have hi : i < s.size := by omega
      have hii : (i : Int) < (s.size : Int) := by omega
      have hii' : (i : Int) + 1 ≤ (s.size : Int) := by omega
      have Wi : IntKind.i64.wrap ((i : Int) + 1) = (i : Int) + 1 := IntWalk.i64_in _ (by omega)
      have Hex := Lib.hid (extract_one' s i hi)
      have hes : (s.extract i (i + 1)).size = 1 := by rw [Hex.out, txt_size]; rfl
      have h2s : (txt (pcQ d (s.data.toList.take i)) ++ (⟨#[92]⟩ : ByteArray)).size ≤ 401 := by rw [show (⟨#[92]⟩ : ByteArray) = txt [92] from rfl, txt_append, txt_size]; simp; omega
      by_cases hx10 : s[i] = 10
      · have qx : ((s[i].toNat : Int) == 10) = true := by rw [hx10]; rfl
        clear hx10
        go_wp2
        go_ret
        exact ⟨rfl, b1⟩
      have qx10 : ((s[i].toNat : Int) == 10) = false := beq_eq_false_iff_ne.2 fun h => hx10 (UInt8.toNat_inj.1 (by show s[i].toNat = 10; omega))
      by_cases hx92 : s[i] = 92
      · have qx : ((s[i].toNat : Int) == 92) = true := by rw [hx92]; rfl
        clear hx92 hx10
        go_wp2
        go_ret
        exact ⟨rfl, b1⟩
      have qx92 : ((s[i].toNat : Int) == 92) = false := beq_eq_false_iff_ne.2 fun h => hx92 (UInt8.toNat_inj.1 (by show s[i].toNat = 92; omega))
      by_cases hx91 : s[i] = 91
      · have qx91 : ((s[i].toNat : Int) == 91) = true := by rw [hx91]; rfl
        by_cases hd91 : d = 91
        · have qd : ((d.toNat : Int) != 91) = false := by rw [hd91]; rfl
          have hxd : s[i] = d := by rw [hx91, hd91]
          have qxd : ((s[i].toNat : Int) == (d.toNat : Int)) = true := by rw [hxd]; simp
          have Hg := Lib.hid (show ∀ c ∈ s.data.toList.take (i + 1), pcGood d c from fun c hc => by
            rw [List.take_add_one, Lib.data_getElem? s i hi, Option.toList_some, List.mem_append] at hc
            rcases hc with hc | hc
            · exact HG.out c hc
            · simp at hc; rw [hc]; exact ⟨hx10, hx92, fun _ => hd91⟩)
          have Hn := Lib.hid (show txt (pcQ d (s.data.toList.take (i + 1))) = txt (pcQ d (s.data.toList.take i)) ++ (⟨#[92]⟩ : ByteArray) ++ s.extract i (i + 1) by
            rw [Hex.out, show (⟨#[92]⟩ : ByteArray) = txt [92] from rfl, txt_append, txt_append, List.take_add_one, Lib.data_getElem? s i hi, Option.toList_some, pcQ_snoc, if_pos hxd]; simp)
          clear hxd hx10 hx92 hx91 hd91
          generalize txt (pcQ d (s.data.toList.take i)) = TY at hts h2s Hn ⊢
          go_wp2
          go_roundg g
          case measure => omega
          case rel => exact ⟨i + 1, by omega, by go_num, by rw [Hn.out], Hg, by first | rfl | trivial⟩
        · have qd : ((d.toNat : Int) != 91) = true := bne_iff_ne.2 fun h => hd91 (UInt8.toNat_inj.1 (by show d.toNat = 91; omega))
          clear hd91 hx91 hx92 hx10
          go_wp2
          go_ret
          exact ⟨rfl, b1⟩
      · have qx91 : ((s[i].toNat : Int) == 91) = false := beq_eq_false_iff_ne.2 fun h => hx91 (UInt8.toNat_inj.1 (by show s[i].toNat = 91; omega))
        have Hg := Lib.hid (show ∀ c ∈ s.data.toList.take (i + 1), pcGood d c from fun c hc => by
          rw [List.take_add_one, Lib.data_getElem? s i hi, Option.toList_some, List.mem_append] at hc
          rcases hc with hc | hc
          · exact HG.out c hc
          · simp at hc; rw [hc]; exact ⟨hx10, hx92, fun h => absurd h hx91⟩)
        by_cases hxd : s[i] = d
        · have qxd : ((s[i].toNat : Int) == (d.toNat : Int)) = true := by rw [hxd]; simp
          have Hn := Lib.hid (show txt (pcQ d (s.data.toList.take (i + 1))) = txt (pcQ d (s.data.toList.take i)) ++ (⟨#[92]⟩ : ByteArray) ++ s.extract i (i + 1) by
            rw [Hex.out, show (⟨#[92]⟩ : ByteArray) = txt [92] from rfl, txt_append, txt_append, List.take_add_one, Lib.data_getElem? s i hi, Option.toList_some, pcQ_snoc, if_pos hxd]; simp)
          clear hxd hx10 hx92 hx91
          generalize txt (pcQ d (s.data.toList.take i)) = TY at hts h2s Hn ⊢
          go_wp2
          go_roundg g
          case measure => omega
          case rel => exact ⟨i + 1, by omega, by go_num, by rw [Hn.out], Hg, by first | rfl | trivial⟩
        · have qxd : ((s[i].toNat : Int) == (d.toNat : Int)) = false := beq_eq_false_iff_ne.2 fun h => hxd (UInt8.toNat_inj.1 (by omega))
          have Hn := Lib.hid (show txt (pcQ d (s.data.toList.take (i + 1))) = txt (pcQ d (s.data.toList.take i)) ++ s.extract i (i + 1) by
            rw [Hex.out, txt_append, List.take_add_one, Lib.data_getElem? s i hi, Option.toList_some, pcQ_snoc, if_neg hxd])
          clear hxd hx10 hx92 hx91
          generalize txt (pcQ d (s.data.toList.take i)) = TY at hts h2s Hn ⊢
          go_wp2
          go_roundg g
          case measure => omega
          case rel => exact ⟨i + 1, by omega, by go_num, by rw [Hn.out], Hg, by first | rfl | trivial⟩
end Go.Proofs.YtbhmpdbcjchdfaaDoor
