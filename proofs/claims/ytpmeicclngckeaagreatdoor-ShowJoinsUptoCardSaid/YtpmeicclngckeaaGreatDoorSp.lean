/- SpWalk: Contracts of Spans, of octet and of the document.
   SpRow: A row of spans in memory, read cell by cell.
   SpLeast: The least byte of a set: math/bits.TrailingZeros64 by its contract, laid by hand; Least. -/
import Derived.Test.YtpmeicclngckeaaGreatDoorOctW
import Derived.Test.YtpmeicclngckeaaGreatDoorMaA
import Derived.Shelf.Spec.TrailingZeros
namespace Go.Proofs.YtpmeicclngckeaaGreatDoor
open Go.RowKit

/-- The cells of some spans. -/
def flat (l : List (Nat × Nat)) : List Value := l.flatMap (fun p => [.int .u8 (p.1 : Int), .int .u8 (p.2 : Int)])
theorem flat_len (l : List (Nat × Nat)) : (flat l).length = l.length * 2 := by
  induction l with
  | nil => rfl
  | cons p l ih =>
    have e : flat (p :: l) = [.int .u8 (p.1 : Int), .int .u8 (p.2 : Int)] ++ flat l := rfl
    rw [e, List.length_append, ih]
    simp
    omega
theorem flat_snoc (l : List (Nat × Nat)) (p : Nat × Nat) : flat (l ++ [p]) = flat l ++ [.int .u8 (p.1 : Int), .int .u8 (p.2 : Int)] := by
  unfold flat
  rw [List.flatMap_append]
  rfl
theorem flat_at (l : List (Nat × Nat)) : ∀ i, ∀ h : i < l.length, (flat l)[i * 2]? = some (.int .u8 ((l[i]).1 : Int)) ∧ (flat l)[i * 2 + 1]? = some (.int .u8 ((l[i]).2 : Int)) := by
  induction l with
  | nil => intro i h; simp at h
  | cons p l ih =>
    have e : flat (p :: l) = .int .u8 (p.1 : Int) :: .int .u8 (p.2 : Int) :: flat l := rfl
    intro i h
    cases i with
    | zero => rw [e]; exact ⟨rfl, rfl⟩
    | succ i =>
      have := ih i (by simpa using h)
      rw [e, show (i + 1) * 2 = i * 2 + 1 + 1 by omega, List.getElem?_cons_succ, List.getElem?_cons_succ, List.getElem?_cons_succ, List.getElem?_cons_succ, List.getElem_cons_succ]
      exact this

theorem own_grow {w : World} {base g cap k : Nat} {e : TypeId} {cur : Array Value} (a : List (Nat × Nat)) (p : Nat × Nat) (hg : base ≤ g) (hh : w.heap[g]? = some (.cells cur e (0, 0))) (hn : (a ++ [p]).length ≤ cap) (hcap : cap ≤ maxLen) (hcs : cur.size = cap * 2)
    (htk : cur.toList.take ((a ++ [p]).length * 2) = flat (a ++ [p])) :
    (w.setCell ⟨g, a.length * 2 + 1, none⟩ (.int .u8 (k : Int))).ownsRow base e 2 (.slice (some ⟨g, 0, none⟩) (a.length + 1) cap) (a.length + 1) (flat (a ++ [(p.1, k)])) := by
  refine ⟨by rw [flat_len]; simp, .inr ⟨g, cap, cur.setIfInBounds (a.length * 2 + 1) (.int .u8 (k : Int)), rfl, hg, ?_, by simpa using hn, hcap, by simpa using hcs, ?_⟩⟩
  · simp only [World.setCell, Array.getElem?_modify, if_true, hh]
    rfl
  · rw [Array.toList_setIfInBounds, List.take_set]
    have e2 : (a ++ [p]).length = a.length + 1 := by simp
    rw [e2] at htk
    rw [htk, flat_snoc, flat_snoc, List.set_append_right _ _ (by rw [flat_len]; omega), flat_len]
    rw [show a.length * 2 + 1 - a.length * 2 = 1 by omega]
    rfl

theorem own_ge {w : World} {base : Nat} {e : TypeId} {size : Nat} {v : Value} {n : Nat} {xs : List Value} (h : w.ownsRow base e size v n xs) : ∀ k, v.ownBlock = some k → base ≤ k := by
  obtain ⟨_, h2⟩ := h
  intro k hk
  rcases h2 with ⟨rfl, _⟩ | ⟨g, cap, cur, rfl, hg, _⟩
  · simp [Value.ownBlock] at hk
  · simp [Value.ownBlock] at hk; omega
theorem sp_info : (Tryz.prog.info? 62).map (fun i => (i.zero, i.size, i.bytes)) = some (some (.agg #[.int .u8 0, .int .u8 0]), 2, 2) := by kernel_rfl
theorem own_below {w w' : World} {base : Nat} {e : TypeId} {size : Nat} {v : Value} {n : Nat} {xs : List Value} (h : w.ownsRow base e size v n xs) (hb : Below w.heap.size w w') : w'.ownsRow base e size v n xs := by
  obtain ⟨h1, h2⟩ := h
  refine ⟨h1, ?_⟩
  rcases h2 with h2 | ⟨g, cap, cur, a, b, c, d⟩
  · exact .inl h2
  · exact .inr ⟨g, cap, cur, a, b, by rw [hb.block g (Array.getElem?_eq_some_iff.1 c).1]; exact c, d⟩

def SpansPost (s : OSet) (w : World) (e : Ending) (w' : World) : Prop :=
  ∃ v, e = .returned v ∧ w'.ownsRow (w.heap.size + 1) 62 2 v (sps s).length (flat (sps s)) ∧ Below w.heap.size w w'

set_option maxRecDepth 100000 in
set_option maxHeartbeats 4000000 in
theorem spans_any (s : OSet) (w : World) :
    Calls Tryz.prog 81 #[.agg #[.int .u64 (ow s 0), .int .u64 (ow s 1), .int .u64 (ow s 2), .int .u64 (ow s 3)]] w (SpansPost s w) := by
  obtain ⟨i0, hi, hz0, hz1, hz2⟩ := info_parts sp_info
  go_enter Tryz.func81, Tryz.ntmps81
  go_wp2
  go_loopw [3, 4, 8] (fun v f i wr => ∃ k : Nat, k ≤ 256 ∧ i = .int .i64 k ∧ f = .bool (prv s k) ∧ wr.ownsRow (w.heap.size + 1) 62 2 v (spTo s k).length (flat (spTo s k)) ∧ Below w.heap.size w wr ∧ Blk wr w.heap.size (oc s) 27) (fun _ _ i _ => 256 - (intOf i).toNat)
  case atStart =>
    exact ⟨0, by omega, rfl, rfl, World.ownsRow_nil _ _ _ _, (Below.refl _ _).alloc (Nat.le_refl _) _, Blk.new _ (oc s) _ _ rfl⟩
  case round =>
    obtain ⟨k, hk, rfl, rfl, hown, hbw, hblk⟩ := hrel
    have hsz := hblk.lt
    by_cases hlt : k < 256
    · obtain ⟨c0, c1, c2, c3⟩ := oblk_cells hblk
      have hlen := spTo_len s k
      go_wp2_with fail
      refine (has_any s k (by omega) (by omega) _).mono ?_
      rintro e w1 ⟨rfl, hb1⟩
      rw [show ((k : Int)).toNat = k by omega]
      have hown1 := own_below hown hb1
      have hblk1 := hblk.below hb1 hblk.lt
      have hbw1 := hbw.trans (hb1.mono hbw.size)
      have hsz1 := hblk1.lt
      have Hs := Lib.hid (show spTo s (k + 1) = if ohas s k then (if prv s k then grow1 (spTo s k) k else spTo s k ++ [(k, k)]) else spTo s k from rfl)
      have Hp := Lib.hid (prv_succ s k)
      clear hown hblk hbw c0 c1 c2 c3 hb1
      cases hx : ohas s k
      · have Hx := Lib.hid hx
        clear hx
        go_wp2
        go_roundw
        case rel => exact ⟨k + 1, by omega, by go_num, by rw [Hp.out, Hx.out], by rw [Hs.out, Hx.out]; exact hown1, hbw1, hblk1⟩
        case measure => simp [intOf]; omega
      · have Hx := Lib.hid hx
        clear hx
        cases hq : prv s k
        · have Hq := Lib.hid hq
          clear hq
          go_wp2_with (at_builtin; refine wpList_append_own _ rfl _ _ 60 rfl (w.heap.size + 1) 62 i0 (.agg #[.int .u8 0, .int .u8 0]) 2 2 Tryz.underlying60 hi hz0 hz1 hz2 rfl (by decide) _ _ _ rfl (hown1.alloc _) ⟨w1.heap.size, 0, none⟩ 1 1 [.int .u8 (k : Int), .int .u8 (k : Int)] rfl rfl ?c1 ?c2 ?c3 ?c4 ?c5 ?_)
          case c1 =>
            intro j u hj
            match j, hj with
            | 0, hj => simp at hj; subst hj; simp [Addr.add]
            | 1, hj => simp at hj; subst hj; simp [Addr.add]
          case c2 => intro u hu; simp at hu; subst hu; rfl
          case c3 => unfold maxLen; omega
          case c4 => omega
          case c5 => simp; omega
          · intro v' w3 hown' hgrow _
            go_wp2
            go_roundw
            case rel =>
              refine ⟨k + 1, by omega, by go_num, by rw [Hp.out, Hx.out], ?_, ?_, ?_⟩
              · rw [Hs.out, Hx.out, Hq.out]
                simp only [if_true, if_false, Bool.false_eq_true]
                rw [List.length_append, flat_snoc]
                exact hown'
              · exact hbw1.trans (((Below.refl w.heap.size w1).alloc (by omega) _).grown hgrow (by simp; omega) (fun j hj => by have := own_ge hown1 j hj; omega))
              · exact hblk1.below (((Below.refl (w.heap.size + 1) w1).alloc (by omega) _).grown hgrow (by simp; omega) (own_ge hown1)) (by omega)
            case measure => simp [intOf]; omega
        · have Hq := Lib.hid hq
          clear hq
          obtain ⟨a, p, hl, hpk⟩ := (spOk s k).last Hq.out
          have Hl := Lib.hid hl
          rw [hl] at hown1 hlen
          clear hl
          obtain ⟨_, hown2⟩ := hown1
          rcases hown2 with ⟨_, hz⟩ | ⟨g, capv, cur, rfl, hg, hh, hn, hcap, hcs, htk⟩
          · simp at hz
          · have hfro : ∀ j, w1.frozen? ⟨g, j, none⟩ = false := fun j => by simp [World.frozen?, hh]
            have hlen2 : (a ++ [p]).length = a.length + 1 := by simp
            have hcel : w1.cell? ⟨g, a.length * 2 + 1, none⟩ = some (.int .u8 (p.2 : Int)) := by
              have h1 : w1.cell? ⟨g, a.length * 2 + 1, none⟩ = cur[a.length * 2 + 1]? := by simp [World.cell?, hh]
              have h2 := (flat_at (a ++ [p]) a.length (by simp)).2
              rw [← htk, List.getElem?_take_of_lt (by rw [hlen2]; omega)] at h2
              rw [h1]
              simpa using h2
            have Hg := Lib.hid (own_grow (k := k) a p hg hh hn hcap hcs htk)
            clear htk hcs
            generalize (a ++ [p]).length = n at hn hlen2 hlen ⊢
            subst hlen2
            go_wp2
            refine ⟨⟨k + 1, by omega, by go_num, by rw [Hp.out, Hx.out], ?_, hbw1.setCell (by simp; omega) _, hblk1.set_other _ (by simp; omega) _⟩, by simp [intOf]; omega⟩
            have e : spTo s (k + 1) = a ++ [(p.1, k)] := by
              rw [Hs.out, Hx.out, Hq.out]
              simp only [if_true]
              rw [Hl.out, grow1_snoc]
            rw [e, show (a ++ [(p.1, k)]).length = a.length + 1 by simp]
            exact Hg.out
    · have hk2 : k = 256 := by omega
      subst hk2
      go_wp2
      go_ret
      exact ⟨_, rfl, hown, hbw⟩
set_option maxRecDepth 100000 in
set_option maxHeartbeats 4000000 in
theorem rspans_any (s : OSet) (w : World) :
    Calls Tryz.prog 27 #[.agg #[.int .u64 (ow s 0), .int .u64 (ow s 1), .int .u64 (ow s 2), .int .u64 (ow s 3)]] w (SpansPost s w) := by
  obtain ⟨i0, hi, hz0, hz1, hz2⟩ := info_parts sp_info
  go_enter Tryz.func27, Tryz.ntmps27
  go_wp2
  go_loopw [3, 5] (fun v i wr => ∃ k : Nat, k ≤ 256 ∧ i = .int .i64 k ∧ wr.ownsRow (w.heap.size + 1) 62 2 v (spTo s k).length (flat (spTo s k)) ∧ Below w.heap.size w wr ∧ Blk wr w.heap.size (oc s) 24) (fun _ i _ => 256 - (intOf i).toNat)
  case atStart =>
    exact ⟨0, by omega, rfl, World.ownsRow_nil _ _ _ _, (Below.refl _ _).alloc (Nat.le_refl _) _, Blk.new _ (oc s) _ _ rfl⟩
  case round =>
    obtain ⟨k, hk, rfl, hown, hbw, hblk⟩ := hrel
    have hsz := hblk.lt
    by_cases hlt : k < 256
    · obtain ⟨c0, c1, c2, c3⟩ := oblk_cells hblk
      have hlen := spTo_len s k
      go_wp2_with fail
      refine (rhas_any s k (by omega) (by omega) _).mono ?_
      rintro e w1 ⟨rfl, hb1⟩
      rw [show ((k : Int)).toNat = k by omega]
      have hown1 := own_below hown hb1
      have hblk1 := hblk.below hb1 hblk.lt
      have hbw1 := hbw.trans (hb1.mono hbw.size)
      have hsz1 := hblk1.lt
      have Hs := Lib.hid (show spTo s (k + 1) = if ohas s k then (if prv s k then grow1 (spTo s k) k else spTo s k ++ [(k, k)]) else spTo s k from rfl)
      have Hp := Lib.hid (prv_succ s k)
      clear hown hblk hbw c0 c1 c2 c3 hb1
      cases hx : ohas s k
      · have Hx := Lib.hid hx
        clear hx
        go_wp2
        go_roundw
        case rel => exact ⟨k + 1, by omega, by go_num, by rw [Hs.out, Hx.out]; exact hown1, hbw1, hblk1⟩
        case measure => simp [intOf]; omega
      · have Hx := Lib.hid hx
        clear hx
        by_cases hk0 : 0 < k
        · have hpv : ohas s (k - 1) = prv s k := by simp [prv, hk0]
          have Hpv := Lib.hid hpv
          clear hpv
          obtain ⟨c0, c1, c2, c3⟩ := oblk_cells hblk1
          go_wp2_with fail
          refine (rhas_any s ((k : Int) - 1) (by omega) (by omega) _).mono ?_
          rintro e w1 ⟨rfl, hb2⟩
          rw [show ((k : Int) - 1).toNat = k - 1 by omega, Hpv.out]
          replace hown1 := own_below hown1 hb2
          replace hbw1 := hbw1.trans (hb2.mono hbw1.size)
          replace hblk1 := hblk1.below hb2 hblk1.lt
          replace hsz1 := hblk1.lt
          clear c0 c1 c2 c3 hb2
          cases hq : prv s k
          · have Hq := Lib.hid hq
            clear hq
            go_wp2_with (at_builtin; refine wpList_append_own _ rfl _ _ 60 rfl (w.heap.size + 1) 62 i0 (.agg #[.int .u8 0, .int .u8 0]) 2 2 Tryz.underlying60 hi hz0 hz1 hz2 rfl (by decide) _ _ _ rfl (hown1.alloc _) ⟨w1.heap.size, 0, none⟩ 1 1 [.int .u8 (k : Int), .int .u8 (k : Int)] rfl rfl ?c1 ?c2 ?c3 ?c4 ?c5 ?_)
            case c1 =>
              intro j u hj
              match j, hj with
              | 0, hj => simp at hj; subst hj; simp [Addr.add]
              | 1, hj => simp at hj; subst hj; simp [Addr.add]
            case c2 => intro u hu; simp at hu; subst hu; rfl
            case c3 => unfold maxLen; omega
            case c4 => omega
            case c5 => simp; omega
            · intro v' w3 hown' hgrow _
              go_wp2
              go_roundw
              case rel =>
                refine ⟨k + 1, by omega, by go_num, ?_, ?_, ?_⟩
                · rw [Hs.out, Hx.out, Hq.out]
                  simp only [if_true, if_false, Bool.false_eq_true]
                  rw [List.length_append, flat_snoc]
                  exact hown'
                · exact hbw1.trans (((Below.refl w.heap.size w1).alloc (by omega) _).grown hgrow (by simp; omega) (fun j hj => by have := own_ge hown1 j hj; omega))
                · exact hblk1.below (((Below.refl (w.heap.size + 1) w1).alloc (by omega) _).grown hgrow (by simp; omega) (own_ge hown1)) (by omega)
              case measure => simp [intOf]; omega
          · have Hq := Lib.hid hq
            clear hq
            obtain ⟨a, p, hl, hpk⟩ := (spOk s k).last Hq.out
            have Hl := Lib.hid hl
            rw [hl] at hown1 hlen
            clear hl
            obtain ⟨_, hown2⟩ := hown1
            rcases hown2 with ⟨_, hz⟩ | ⟨g, capv, cur, rfl, hg, hh, hn, hcap, hcs, htk⟩
            · simp at hz
            · have hfro : ∀ j, w1.frozen? ⟨g, j, none⟩ = false := fun j => by simp [World.frozen?, hh]
              have hlen2 : (a ++ [p]).length = a.length + 1 := by simp
              have hcel : w1.cell? ⟨g, a.length * 2 + 1, none⟩ = some (.int .u8 (p.2 : Int)) := by
                have h1 : w1.cell? ⟨g, a.length * 2 + 1, none⟩ = cur[a.length * 2 + 1]? := by simp [World.cell?, hh]
                have h2 := (flat_at (a ++ [p]) a.length (by simp)).2
                rw [← htk, List.getElem?_take_of_lt (by rw [hlen2]; omega)] at h2
                rw [h1]
                simpa using h2
              have Hg := Lib.hid (own_grow (k := k) a p hg hh hn hcap hcs htk)
              clear htk hcs
              generalize (a ++ [p]).length = n at hn hlen2 hlen ⊢
              subst hlen2
              go_wp2
              refine ⟨⟨k + 1, by omega, by go_num, ?_, hbw1.setCell (by simp; omega) _, hblk1.set_other _ (by simp; omega) _⟩, by simp [intOf]; omega⟩
              have e : spTo s (k + 1) = a ++ [(p.1, k)] := by
                rw [Hs.out, Hx.out, Hq.out]
                simp only [if_true]
                rw [Hl.out, grow1_snoc]
              rw [e, show (a ++ [(p.1, k)]).length = a.length + 1 by simp]
              exact Hg.out
        · have Hq := Lib.hid (show prv s k = false by simp [prv, hk0])
          go_wp2_with (at_builtin; refine wpList_append_own _ rfl _ _ 60 rfl (w.heap.size + 1) 62 i0 (.agg #[.int .u8 0, .int .u8 0]) 2 2 Tryz.underlying60 hi hz0 hz1 hz2 rfl (by decide) _ _ _ rfl (hown1.alloc _) ⟨w1.heap.size, 0, none⟩ 1 1 [.int .u8 (k : Int), .int .u8 (k : Int)] rfl rfl ?c1 ?c2 ?c3 ?c4 ?c5 ?_)
          case c1 =>
            intro j u hj
            match j, hj with
            | 0, hj => simp at hj; subst hj; simp [Addr.add]
            | 1, hj => simp at hj; subst hj; simp [Addr.add]
          case c2 => intro u hu; simp at hu; subst hu; rfl
          case c3 => unfold maxLen; omega
          case c4 => omega
          case c5 => simp; omega
          · intro v' w3 hown' hgrow _
            go_wp2
            go_roundw
            case rel =>
              refine ⟨k + 1, by omega, by go_num, ?_, ?_, ?_⟩
              · rw [Hs.out, Hx.out, Hq.out]
                simp only [if_true, if_false, Bool.false_eq_true]
                rw [List.length_append, flat_snoc]
                exact hown'
              · exact hbw1.trans (((Below.refl w.heap.size w1).alloc (by omega) _).grown hgrow (by simp; omega) (fun j hj => by have := own_ge hown1 j hj; omega))
              · exact hblk1.below (((Below.refl (w.heap.size + 1) w1).alloc (by omega) _).grown hgrow (by simp; omega) (own_ge hown1)) (by omega)
            case measure => simp [intOf]; omega
    · have hk2 : k = 256 := by omega
      subst hk2
      go_wp2
      go_ret
      exact ⟨_, rfl, hown, hbw⟩
end Go.Proofs.YtpmeicclngckeaaGreatDoor
namespace Go.Proofs.YtpmeicclngckeaaGreatDoor
open Go.RowKit

/-- A row of spans in memory: its cells. -/
structure RowS (g : Nat) (l : List (Nat × Nat)) (w : World) : Prop where
  lt : 0 < l.length → g < w.heap.size
  c1 : ∀ i, ∀ h : i < l.length, w.cell? ⟨g, i * 2, none⟩ = some (.int .u8 ((l[i]).1 : Int))
  c2 : ∀ i, ∀ h : i < l.length, w.cell? ⟨g, i * 2 + 1, none⟩ = some (.int .u8 ((l[i]).2 : Int))
theorem RowS.below {g : Nat} {l : List (Nat × Nat)} {w w' : World} (h : RowS g l w) (hb : Below w.heap.size w w') : RowS g l w' :=
  ⟨fun h0 => Nat.lt_of_lt_of_le (h.lt h0) hb.size, fun i hi => (hb.cell (p := ⟨g, i * 2, none⟩) (h.lt (by omega))).trans (h.c1 i hi), fun i hi => (hb.cell (p := ⟨g, i * 2 + 1, none⟩) (h.lt (by omega))).trans (h.c2 i hi)⟩
theorem own_form {w : World} {B : Nat} {e : TypeId} {v : Value} {l : List (Nat × Nat)} (h : w.ownsRow B e 2 v l.length (flat l)) :
    ∃ a c g, v = .slice a l.length c ∧ (0 < l.length → a = some ⟨g, 0, none⟩) ∧ l.length ≤ c ∧ RowS g l w := by
  obtain ⟨_, h2⟩ := h
  rcases h2 with ⟨rfl, hz⟩ | ⟨g, cap, cur, rfl, hg, hh, hn, hcap, hcs, htk⟩
  · exact ⟨none, 0, 0, by rw [hz], fun h => by omega, by omega, ⟨fun h => by omega, fun i hi => by omega, fun i hi => by omega⟩⟩
  · refine ⟨_, cap, g, rfl, fun _ => rfl, hn, ⟨fun _ => (Array.getElem?_eq_some_iff.1 hh).1, fun i hi => ?_, fun i hi => ?_⟩⟩
    · have h1 : w.cell? ⟨g, i * 2, none⟩ = cur[i * 2]? := by simp [World.cell?, hh]
      have h2 := (flat_at l i hi).1
      rw [← htk, List.getElem?_take_of_lt (by omega)] at h2
      rw [h1]
      simpa using h2
    · have h1 : w.cell? ⟨g, i * 2 + 1, none⟩ = cur[i * 2 + 1]? := by simp [World.cell?, hh]
      have h2 := (flat_at l i hi).2
      rw [← htk, List.getElem?_take_of_lt (by omega)] at h2
      rw [h1]
      simpa using h2
end Go.Proofs.YtpmeicclngckeaaGreatDoor
namespace Go.Proofs.YtpmeicclngckeaaGreatDoor
open Go.RowKit Go.Shelf

def zren : Go.Shelf.Ren := ⟨fun | 29 => 78 | n => n, fun | 0 => 0 | 3 => 3 | 4 => 4 | 5 => 5 | 22 => 22 | 25 => 180 | 54 => 181 | n => n, fun | 1 => 0 | n => n⟩
theorem zlays : Go.Proofs.Lays7.n29 Tryz.prog zren := {
  mixed := by kernel_rfl
  f29 := Tryz.func78.trans (congrArg some (by kernel_rfl))
  t0 := Tryz.underlying0
  a0 := Tryz.isAgg0
  z0 := Tryz.sizeOf0
  v0 := Tryz.zeroValue0
  i0 := by kernel_rfl
  t3 := Tryz.underlying3
  a3 := Tryz.isAgg3
  z3 := Tryz.sizeOf3
  v3 := Tryz.zeroValue3
  i3 := by kernel_rfl
  t4 := Tryz.underlying4
  a4 := Tryz.isAgg4
  z4 := Tryz.sizeOf4
  v4 := Tryz.zeroValue4
  i4 := by kernel_rfl
  t5 := Tryz.underlying5
  a5 := Tryz.isAgg5
  z5 := Tryz.sizeOf5
  v5 := Tryz.zeroValue5
  i5 := by kernel_rfl
  t22 := Tryz.underlying22
  a22 := Tryz.isAgg22
  z22 := Tryz.sizeOf22
  v22 := Tryz.zeroValue22
  i22 := by kernel_rfl
  t25 := Tryz.underlying180
  a25 := Tryz.isAgg180
  z25 := Tryz.sizeOf180
  v25 := Tryz.zeroValue180
  i25 := by kernel_rfl
  t54 := Tryz.underlying181
  a54 := Tryz.isAgg181
  z54 := Tryz.sizeOf181
  g1 := by kernel_rfl }
/-- The table that TrailingZeros64 reads lies in the world. -/
def TabIn (w : World) : Prop := TabAt 0 Lib.deBruijn64tab w
theorem tabIn_below {w w' : World} {B : Nat} (h : TabIn w) (hb : Below B w w') (hB : 0 < B) : TabIn w' := fun j hj => (hb.cell (p := ⟨0, j, none⟩) hB).trans (h j hj)
theorem zeros_any (s : OSet) (i : Nat) (w : World) (hT : TabIn w) :
    Calls Tryz.prog 78 #[.int .u64 (ow s i)] w fun e w' => e = .returned (.int .i64 (Lib.ctz 64 (owN s i) : Int)) ∧ w = w' :=
  (Any7.bits_TrailingZeros64 zlays (owN s i) (owN_lt s i) w (fun _ => hT)).mono fun _ _ ⟨h1, h2⟩ => ⟨h1, h2.symm⟩

/-- Where the least 1 of a word stands. -/
theorem ctz_of (x c : Nat) (hx : x < 18446744073709551616) (h1 : x.testBit c = true) (h2 : ∀ j, j < c → x.testBit j = false) : Lib.ctz 64 x = c := by
  have hx0 : x ≠ 0 := by
    rintro rfl
    simp at h1
  obtain ⟨m, hm, hlt⟩ := Lib.ctzFrom_spec 64 x (by omega) hx
  unfold Lib.ctz
  rw [if_neg hx0]
  generalize Lib.ctzFrom 64 x = d at hm hlt
  have hd : x.testBit d = true := by
    rw [hm, Nat.testBit_two_pow_mul]
    simp
  have hd2 : ∀ j, j < d → x.testBit j = false := fun j hj => by
    rw [hm, Nat.testBit_two_pow_mul]
    simp; omega
  rcases Nat.lt_trichotomy c d with h | h | h
  · rw [hd2 c h] at h1; cases h1
  · exact h.symm
  · rw [h2 d h] at hd; cases hd

theorem word_zero (s : OSet) (i k : Nat) (h : ∀ b, b < k → ohas s b = false) (hk : 64 * i + 64 ≤ k) : ow s i = 0 := by
  have : owN s i = 0 := by
    refine (owN_eq s i 0 (by decide) fun j hj => ?_).symm
    have := h (64 * i + j) (by omega)
    unfold ohas at this
    simp [this]
  unfold ow
  rw [this]
  rfl
theorem word_least (s : OSet) (k : Nat) (h1 : ohas s k = true) (h : ∀ b, b < k → ohas s b = false) : (ow s (k / 64) != 0) = true ∧ Lib.ctz 64 (owN s (k / 64)) = k % 64 := by
  have hb : (owN s (k / 64)).testBit (k % 64) = true := by
    rw [owN_testBit, show 64 * (k / 64) + k % 64 = k by omega]
    unfold ohas at h1
    simp [h1]
    omega
  refine ⟨?_, ctz_of _ _ (owN_lt _ _) hb fun j hj => ?_⟩
  · rw [bne_iff_ne]
    intro h0
    have : owN s (k / 64) = 0 := by unfold ow at h0; omega
    rw [this] at hb
    simp at hb
  · rw [owN_testBit]
    have := h (64 * (k / 64) + j) (by omega)
    unfold ohas at this
    simp [this]

theorem least_index0 (a b c d : Int) (w : World) : (Instr.index 27 (.agg #[.int .u64 a, .int .u64 b, .int .u64 c, .int .u64 d]) (.int .i64 0)).run Tryz.prog w = .ok (.int .u64 a) w := by kernel_rfl
theorem least_index1 (a b c d : Int) (w : World) : (Instr.index 27 (.agg #[.int .u64 a, .int .u64 b, .int .u64 c, .int .u64 d]) (.int .i64 1)).run Tryz.prog w = .ok (.int .u64 b) w := by kernel_rfl
theorem least_index2 (a b c d : Int) (w : World) : (Instr.index 27 (.agg #[.int .u64 a, .int .u64 b, .int .u64 c, .int .u64 d]) (.int .i64 2)).run Tryz.prog w = .ok (.int .u64 c) w := by kernel_rfl
theorem least_index3 (a b c d : Int) (w : World) : (Instr.index 27 (.agg #[.int .u64 a, .int .u64 b, .int .u64 c, .int .u64 d]) (.int .i64 3)).run Tryz.prog w = .ok (.int .u64 d) w := by kernel_rfl

set_option maxHeartbeats 2000000 in
theorem least_some (s : OSet) (k : Nat) (hk : k < 256) (h1 : ohas s k = true) (h : ∀ b, b < k → ohas s b = false) (w : World) (hT : TabIn w) (hg : 0 < w.heap.size) :
    Calls Tryz.prog 51 #[.agg #[.int .u64 (ow s 0), .int .u64 (ow s 1), .int .u64 (ow s 2), .int .u64 (ow s 3)]] w fun e w' => e = .returned (.tuple #[.int .u8 (k : Int), .bool true]) ∧ Below w.heap.size w w' := by
  have i0 := least_index0 (ow s 0) (ow s 1) (ow s 2) (ow s 3)
  have i1 := least_index1 (ow s 0) (ow s 1) (ow s 2) (ow s 3)
  have i2 := least_index2 (ow s 0) (ow s 1) (ow s 2) (ow s 3)
  have i3 := least_index3 (ow s 0) (ow s 1) (ow s 2) (ow s 3)
  obtain ⟨w1, w2⟩ := word_least s k h1 h
  have hT1 : TabIn (w.alloc (.cells #[.int .u64 (ow s 0), .int .u64 (ow s 1), .int .u64 (ow s 2), .int .u64 (ow s 3)] 27)) := tabIn_below hT ((Below.refl w.heap.size w).alloc (Nat.le_refl _) _) hg
  have Hz := Lib.hid (fun i (hi : 64 * i + 64 ≤ k) => show (ow s i != 0) = false by rw [word_zero s i k h hi]; rfl)
  clear h1 h hT
  have hc : k % 64 < 64 := by omega
  generalize hcc : k % 64 = c at w2 hc
  have Hc := Lib.hid hcc
  clear hcc
  have hq : k / 64 = 0 ∨ k / 64 = 1 ∨ k / 64 = 2 ∨ k / 64 = 3 := by omega
  rcases hq with hq | hq | hq | hq
  · rw [hq] at w1 w2
    have Hq := Lib.hid hq
    clear hq
    have He := Lib.hid (show ((64 * 0 + c : Nat) : Int) = (k : Int) by have := Hq.out; have := Hc.out; omega)
    go_enter Tryz.func51, Tryz.ntmps51
    go_wp2
    refine wp_loop_rounds 1 ?_
    rw [rounds_succ]
    go_wp2_with (go_at_call 78; refine (zeros_any s _ _ hT1).mono ?_; rintro e w' ⟨rfl, rfl⟩)
    go_ret2
    refine ⟨by rw [← He.out]; simp, (Below.refl _ _).alloc (Nat.le_refl _) _⟩
  · rw [hq] at w1 w2
    have Hq := Lib.hid hq
    clear hq
    have z0 := Hz.out 0 (by have := Hq.out; omega)
    have He := Lib.hid (show ((64 * 1 + c : Nat) : Int) = (k : Int) by have := Hq.out; have := Hc.out; omega)
    go_enter Tryz.func51, Tryz.ntmps51
    go_wp2
    refine wp_loop_rounds 2 ?_
    rw [rounds_succ]
    go_wp2
    rw [rounds_succ]
    go_wp2_with (go_at_call 78; refine (zeros_any s _ _ hT1).mono ?_; rintro e w' ⟨rfl, rfl⟩)
    go_ret2
    refine ⟨by rw [← He.out]; simp, (Below.refl _ _).alloc (Nat.le_refl _) _⟩
  · rw [hq] at w1 w2
    have Hq := Lib.hid hq
    clear hq
    have z0 := Hz.out 0 (by have := Hq.out; omega)
    have z1 := Hz.out 1 (by have := Hq.out; omega)
    have He := Lib.hid (show ((64 * 2 + c : Nat) : Int) = (k : Int) by have := Hq.out; have := Hc.out; omega)
    go_enter Tryz.func51, Tryz.ntmps51
    go_wp2
    refine wp_loop_rounds 3 ?_
    rw [rounds_succ]
    go_wp2
    rw [rounds_succ]
    go_wp2
    rw [rounds_succ]
    go_wp2_with (go_at_call 78; refine (zeros_any s _ _ hT1).mono ?_; rintro e w' ⟨rfl, rfl⟩)
    go_ret2
    refine ⟨by rw [← He.out]; simp, (Below.refl _ _).alloc (Nat.le_refl _) _⟩
  · rw [hq] at w1 w2
    have Hq := Lib.hid hq
    clear hq
    have z0 := Hz.out 0 (by have := Hq.out; omega)
    have z1 := Hz.out 1 (by have := Hq.out; omega)
    have z2 := Hz.out 2 (by have := Hq.out; omega)
    have He := Lib.hid (show ((64 * 3 + c : Nat) : Int) = (k : Int) by have := Hq.out; have := Hc.out; omega)
    go_enter Tryz.func51, Tryz.ntmps51
    go_wp2
    refine wp_loop_rounds 4 ?_
    rw [rounds_succ]
    go_wp2
    rw [rounds_succ]
    go_wp2
    rw [rounds_succ]
    go_wp2
    rw [rounds_succ]
    go_wp2_with (go_at_call 78; refine (zeros_any s _ _ hT1).mono ?_; rintro e w' ⟨rfl, rfl⟩)
    go_ret2
    refine ⟨by rw [← He.out]; simp, (Below.refl _ _).alloc (Nat.le_refl _) _⟩

set_option maxHeartbeats 2000000 in
theorem least_none (s : OSet) (hs : s = oz) (w : World) :
    Calls Tryz.prog 51 #[.agg #[.int .u64 (ow s 0), .int .u64 (ow s 1), .int .u64 (ow s 2), .int .u64 (ow s 3)]] w fun e w' => e = .returned (.tuple #[.int .u8 0, .bool false]) ∧ Below w.heap.size w w' := by
  have i0 := least_index0 (ow s 0) (ow s 1) (ow s 2) (ow s 3)
  have i1 := least_index1 (ow s 0) (ow s 1) (ow s 2) (ow s 3)
  have i2 := least_index2 (ow s 0) (ow s 1) (ow s 2) (ow s 3)
  have i3 := least_index3 (ow s 0) (ow s 1) (ow s 2) (ow s 3)
  have z0 : (ow s 0 != 0) = false := by rw [hs, ow_zero]; rfl
  have z1 : (ow s 1 != 0) = false := by rw [hs, ow_zero]; rfl
  have z2 : (ow s 2 != 0) = false := by rw [hs, ow_zero]; rfl
  have z3 : (ow s 3 != 0) = false := by rw [hs, ow_zero]; rfl
  clear hs
  go_enter Tryz.func51, Tryz.ntmps51
  go_wp2
  refine wp_loop_rounds 5 ?_
  iterate 5 (rw [rounds_succ]; go_wp2)
  go_ret2
  exact ⟨rfl, (Below.refl _ _).alloc (Nat.le_refl _) _⟩

end Go.Proofs.YtpmeicclngckeaaGreatDoor
