/- Contracts of Spans, of octet and of the document. -/
import Derived.Test.YtehikndlcepkgaaDoorOctWalkB
import Derived.Test.YtehikndlcepkgaaDoorSpMath
namespace Go.Proofs.YtehikndlcepkgaaDoor
open Go.RowKit

/-- The cells of some spans. -/
def flat (l : List (Nat × Nat)) : List Value := l.flatMap (fun p => [.int .u8 (p.1 : Int), .int .u8 (p.2 : Int)])
theorem flat_len (l : List (Nat × Nat)) : (flat l).length = l.length * 2 := by
  induction l with
  | nil => rfl
  | cons p l ih =>
    have e : flat (p :: l) = [.int .u8 (p.1 : Int), .int .u8 (p.2 : Int)] ++ flat l := rfl
    rw [e, List.length_append, ih]
    simp
    omega
theorem flat_snoc (l : List (Nat × Nat)) (p : Nat × Nat) : flat (l ++ [p]) = flat l ++ [.int .u8 (p.1 : Int), .int .u8 (p.2 : Int)] := by
  unfold flat
  rw [List.flatMap_append]
  rfl
theorem flat_at (l : List (Nat × Nat)) : ∀ i, ∀ h : i < l.length, (flat l)[i * 2]? = some (.int .u8 ((l[i]).1 : Int)) ∧ (flat l)[i * 2 + 1]? = some (.int .u8 ((l[i]).2 : Int)) := by
  induction l with
  | nil => intro i h; simp at h
  | cons p l ih =>
    have e : flat (p :: l) = .int .u8 (p.1 : Int) :: .int .u8 (p.2 : Int) :: flat l := rfl
    intro i h
    cases i with
    | zero => rw [e]; exact ⟨rfl, rfl⟩
    | succ i =>
      have := ih i (by simpa using h)
      rw [e, show (i + 1) * 2 = i * 2 + 1 + 1 by omega, List.getElem?_cons_succ, List.getElem?_cons_succ, List.getElem?_cons_succ, List.getElem?_cons_succ, List.getElem_cons_succ]
      exact this

theorem own_grow {w : World} {base g cap k : Nat} {e : TypeId} {cur : Array Value} (a : List (Nat × Nat)) (p : Nat × Nat) (hg : base ≤ g) (hh : w.heap[g]? = some (.cells cur e (0, 0))) (hn : (a ++ [p]).length ≤ cap) (hcap : cap ≤ maxLen) (hcs : cur.size = cap * 2)
    (htk : cur.toList.take ((a ++ [p]).length * 2) = flat (a ++ [p])) :
    (w.setCell ⟨g, a.length * 2 + 1, none⟩ (.int .u8 (k : Int))).ownsRow base e 2 (.slice (some ⟨g, 0, none⟩) (a.length + 1) cap) (a.length + 1) (flat (a ++ [(p.1, k)])) := by
  refine ⟨by rw [flat_len]; simp, .inr ⟨g, cap, cur.setIfInBounds (a.length * 2 + 1) (.int .u8 (k : Int)), rfl, hg, ?_, by simpa using hn, hcap, by simpa using hcs, ?_⟩⟩
  · simp only [World.setCell, Array.getElem?_modify, if_true, hh]
    rfl
  · rw [Array.toList_setIfInBounds, List.take_set]
    have e2 : (a ++ [p]).length = a.length + 1 := by simp
    rw [e2] at htk
    rw [htk, flat_snoc, flat_snoc, List.set_append_right _ _ (by rw [flat_len]; omega), flat_len]
    rw [show a.length * 2 + 1 - a.length * 2 = 1 by omega]
    rfl

theorem own_ge {w : World} {base : Nat} {e : TypeId} {size : Nat} {v : Value} {n : Nat} {xs : List Value} (h : w.ownsRow base e size v n xs) : ∀ k, v.ownBlock = some k → base ≤ k := by
  obtain ⟨_, h2⟩ := h
  intro k hk
  rcases h2 with ⟨rfl, _⟩ | ⟨g, cap, cur, rfl, hg, _⟩
  · simp [Value.ownBlock] at hk
  · simp [Value.ownBlock] at hk; omega
theorem sp_info : (Tryd.prog.info? 55).map (fun i => (i.zero, i.size, i.bytes)) = some (some (.agg #[.int .u8 0, .int .u8 0]), 2, 2) := by kernel_rfl
theorem own_below {w w' : World} {base : Nat} {e : TypeId} {size : Nat} {v : Value} {n : Nat} {xs : List Value} (h : w.ownsRow base e size v n xs) (hb : Below w.heap.size w w') : w'.ownsRow base e size v n xs := by
  obtain ⟨h1, h2⟩ := h
  refine ⟨h1, ?_⟩
  rcases h2 with h2 | ⟨g, cap, cur, a, b, c, d⟩
  · exact .inl h2
  · exact .inr ⟨g, cap, cur, a, b, by rw [hb.block g (Array.getElem?_eq_some_iff.1 c).1]; exact c, d⟩

def SpansPost (s : OSet) (w : World) (e : Ending) (w' : World) : Prop :=
  ∃ v, e = .returned v ∧ w'.ownsRow (w.heap.size + 1) 55 2 v (sps s).length (flat (sps s)) ∧ Below w.heap.size w w'

set_option maxRecDepth 100000 in
set_option maxHeartbeats 4000000 in
theorem rspans_any (s : OSet) (w : World) :
    Calls Tryd.prog 29 #[.agg #[.int .u64 (ow s 0), .int .u64 (ow s 1), .int .u64 (ow s 2), .int .u64 (ow s 3)]] w (SpansPost s w) := by
  obtain ⟨i0, hi, hz0, hz1, hz2⟩ := info_parts sp_info
  go_enter Tryd.func29, Tryd.ntmps29
  go_wp2
  go_loopw [3, 5] (fun v i wr => ∃ k : Nat, k ≤ 256 ∧ i = .int .i64 k ∧ wr.ownsRow (w.heap.size + 1) 55 2 v (spTo s k).length (flat (spTo s k)) ∧ Below w.heap.size w wr ∧ Blk wr w.heap.size (oc s) 29) (fun _ i _ => 256 - (intOf i).toNat)
  case atStart =>
    exact ⟨0, by omega, rfl, World.ownsRow_nil _ _ _ _, (Below.refl _ _).alloc (Nat.le_refl _) _, Blk.new _ (oc s) _ _ rfl⟩
  case round =>
    obtain ⟨k, hk, rfl, hown, hbw, hblk⟩ := hrel
    have hsz := hblk.lt
    by_cases hlt : k < 256
    · obtain ⟨c0, c1, c2, c3⟩ := oblk_cells hblk
      have hlen := spTo_len s k
      go_wp2_with fail
      refine (rhas_any s k (by omega) (by omega) _).mono ?_
      rintro e w1 ⟨rfl, hb1⟩
      rw [show ((k : Int)).toNat = k by omega]
      have hown1 := own_below hown hb1
      have hblk1 := hblk.below hb1 hblk.lt
      have hbw1 := hbw.trans (hb1.mono hbw.size)
      have hsz1 := hblk1.lt
      have Hs := Lib.hid (show spTo s (k + 1) = if ohas s k then (if prv s k then grow1 (spTo s k) k else spTo s k ++ [(k, k)]) else spTo s k from rfl)
      have Hp := Lib.hid (prv_succ s k)
      clear hown hblk hbw c0 c1 c2 c3 hb1
      cases hx : ohas s k
      · have Hx := Lib.hid hx
        clear hx
        go_wp2
        go_roundw
        case rel => exact ⟨k + 1, by omega, by go_num, by rw [Hs.out, Hx.out]; exact hown1, hbw1, hblk1⟩
        case measure => simp [intOf]; omega
      · have Hx := Lib.hid hx
        clear hx
        by_cases hk0 : 0 < k
        · have hpv : ohas s (k - 1) = prv s k := by simp [prv, hk0]
          have Hpv := Lib.hid hpv
          clear hpv
          obtain ⟨c0, c1, c2, c3⟩ := oblk_cells hblk1
          go_wp2_with fail
          refine (rhas_any s ((k : Int) - 1) (by omega) (by omega) _).mono ?_
          rintro e w1 ⟨rfl, hb2⟩
          rw [show ((k : Int) - 1).toNat = k - 1 by omega, Hpv.out]
          replace hown1 := own_below hown1 hb2
          replace hbw1 := hbw1.trans (hb2.mono hbw1.size)
          replace hblk1 := hblk1.below hb2 hblk1.lt
          replace hsz1 := hblk1.lt
          clear c0 c1 c2 c3 hb2
          cases hq : prv s k
          · have Hq := Lib.hid hq
            clear hq
            go_wp2_with (at_builtin; refine wpList_append_own _ rfl _ _ 56 rfl (w.heap.size + 1) 55 i0 (.agg #[.int .u8 0, .int .u8 0]) 2 2 Tryd.underlying56 hi hz0 hz1 hz2 rfl (by decide) _ _ _ rfl (hown1.alloc _) ⟨w1.heap.size, 0, none⟩ 1 1 [.int .u8 (k : Int), .int .u8 (k : Int)] rfl rfl ?c1 ?c2 ?c3 ?c4 ?c5 ?_)
            case c1 =>
              intro j u hj
              match j, hj with
              | 0, hj => simp at hj; subst hj; simp [Addr.add]
              | 1, hj => simp at hj; subst hj; simp [Addr.add]
            case c2 => intro u hu; simp at hu; subst hu; rfl
            case c3 => unfold maxLen; omega
            case c4 => omega
            case c5 => simp; omega
            · intro v' w3 hown' hgrow _
              go_wp2
              go_roundw
              case rel =>
                refine ⟨k + 1, by omega, by go_num, ?_, ?_, ?_⟩
                · rw [Hs.out, Hx.out, Hq.out]
                  simp only [if_true, if_false, Bool.false_eq_true]
                  rw [List.length_append, flat_snoc]
                  exact hown'
                · exact hbw1.trans (((Below.refl w.heap.size w1).alloc (by omega) _).grown hgrow (by simp; omega) (fun j hj => by have := own_ge hown1 j hj; omega))
                · exact hblk1.below (((Below.refl (w.heap.size + 1) w1).alloc (by omega) _).grown hgrow (by simp; omega) (own_ge hown1)) (by omega)
              case measure => simp [intOf]; omega
          · have Hq := Lib.hid hq
            clear hq
            obtain ⟨a, p, hl, hpk⟩ := (spOk s k).last Hq.out
            have Hl := Lib.hid hl
            rw [hl] at hown1 hlen
            clear hl
            obtain ⟨_, hown2⟩ := hown1
            rcases hown2 with ⟨_, hz⟩ | ⟨g, capv, cur, rfl, hg, hh, hn, hcap, hcs, htk⟩
            · simp at hz
            · have hfro : ∀ j, w1.frozen? ⟨g, j, none⟩ = false := fun j => by simp [World.frozen?, hh]
              have hlen2 : (a ++ [p]).length = a.length + 1 := by simp
              have hcel : w1.cell? ⟨g, a.length * 2 + 1, none⟩ = some (.int .u8 (p.2 : Int)) := by
                have h1 : w1.cell? ⟨g, a.length * 2 + 1, none⟩ = cur[a.length * 2 + 1]? := by simp [World.cell?, hh]
                have h2 := (flat_at (a ++ [p]) a.length (by simp)).2
                rw [← htk, List.getElem?_take_of_lt (by rw [hlen2]; omega)] at h2
                rw [h1]
                simpa using h2
              have Hg := Lib.hid (own_grow (k := k) a p hg hh hn hcap hcs htk)
              clear htk hcs
              generalize (a ++ [p]).length = n at hn hlen2 hlen ⊢
              subst hlen2
              go_wp2
              refine ⟨⟨k + 1, by omega, by go_num, ?_, hbw1.setCell (by simp; omega) _, hblk1.set_other _ (by simp; omega) _⟩, by simp [intOf]; omega⟩
              have e : spTo s (k + 1) = a ++ [(p.1, k)] := by
                rw [Hs.out, Hx.out, Hq.out]
                simp only [if_true]
                rw [Hl.out, grow1_snoc]
              rw [e, show (a ++ [(p.1, k)]).length = a.length + 1 by simp]
              exact Hg.out
        · have Hq := Lib.hid (show prv s k = false by simp [prv, hk0])
          go_wp2_with (at_builtin; refine wpList_append_own _ rfl _ _ 56 rfl (w.heap.size + 1) 55 i0 (.agg #[.int .u8 0, .int .u8 0]) 2 2 Tryd.underlying56 hi hz0 hz1 hz2 rfl (by decide) _ _ _ rfl (hown1.alloc _) ⟨w1.heap.size, 0, none⟩ 1 1 [.int .u8 (k : Int), .int .u8 (k : Int)] rfl rfl ?c1 ?c2 ?c3 ?c4 ?c5 ?_)
          case c1 =>
            intro j u hj
            match j, hj with
            | 0, hj => simp at hj; subst hj; simp [Addr.add]
            | 1, hj => simp at hj; subst hj; simp [Addr.add]
          case c2 => intro u hu; simp at hu; subst hu; rfl
          case c3 => unfold maxLen; omega
          case c4 => omega
          case c5 => simp; omega
          · intro v' w3 hown' hgrow _
            go_wp2
            go_roundw
            case rel =>
              refine ⟨k + 1, by omega, by go_num, ?_, ?_, ?_⟩
              · rw [Hs.out, Hx.out, Hq.out]
                simp only [if_true, if_false, Bool.false_eq_true]
                rw [List.length_append, flat_snoc]
                exact hown'
              · exact hbw1.trans (((Below.refl w.heap.size w1).alloc (by omega) _).grown hgrow (by simp; omega) (fun j hj => by have := own_ge hown1 j hj; omega))
              · exact hblk1.below (((Below.refl (w.heap.size + 1) w1).alloc (by omega) _).grown hgrow (by simp; omega) (own_ge hown1)) (by omega)
            case measure => simp [intOf]; omega
    · have hk2 : k = 256 := by omega
      subst hk2
      go_wp2
      go_ret
      exact ⟨_, rfl, hown, hbw⟩
end Go.Proofs.YtehikndlcepkgaaDoor
