/- The builder lays again what was laid: again. -/
import Derived.Test.YtjjhkagpoicimaaCbB
import Derived.Test.YtjjhkagpoicimaaCoMc
import Derived.Deep.LoopGhost
import Derived.Deep.DeepCutAuto
import Derived.Deep.CutBlock
import Derived.Outline
namespace Go.Proofs.Ytjjhkagpoicimaa
open Go Go.RowKit

theorem inF_take (l : List Inn) (j : Nat) (h : j < l.length) : ∀ i, i < 7 → (inF l)[j * 7 + i]? = (inC l[j])[i]? := by
  induction l generalizing j with
  | nil => simp at h
  | cons x l ih =>
    intro i hi
    show (inC x ++ inF l)[j * 7 + i]? = _
    have hx : (inC x).length = 7 := rfl
    cases j with
    | zero => rw [List.getElem?_append_left (by rw [hx]; omega)]; simp
    | succ j =>
      rw [List.getElem?_append_right (by rw [hx]; omega), hx, show (j + 1) * 7 + i - 7 = j * 7 + i by omega, ih j (by simpa using h) i hi]
      rfl
/-- An instruction of the row, as it is read: where the row lies, its cells. -/
theorem Bld.inst {B p : Nat} {w : World} {l : List Inn} {g : Int} {k : Nat} {bk : Bool} {a : Option Addr} {c : Nat} {tv : Value} {ts : List Value} (h : Bld B p w l g k bk (.slice a l.length c) tv ts) (h0 : 0 < l.length) :
    l.length ≤ c ∧ c ≤ maxLen ∧ ∃ q, a = some ⟨q, 0, none⟩ ∧ B ≤ q ∧ q < w.heap.size ∧ q ≠ p ∧ (∀ j (hj : j < l.length) i, i < 7 → w.cell? ⟨q, j * 7 + i, none⟩ = (inC l[j])[i]?) ∧ ∀ j, w.frozen? ⟨q, j, none⟩ = false := by
  obtain ⟨h1, h2⟩ := h.io
  rcases h2 with ⟨h2, h3⟩ | ⟨q, cap, cur, h2, hB, hh, hn, hcap, hcs, htk⟩
  · omega
  · injection h2 with e1 e2 e3
    subst e3
    have hip := h.ip
    subst e1
    refine ⟨hn, hcap, q, rfl, hB, (Array.getElem?_eq_some_iff.1 hh).1, fun e => hip (by rw [e]; rfl), fun j hj i hi => ?_, fun j => by simp [World.frozen?, hh]⟩
    have hlt : j * 7 + i < l.length * 7 := by omega
    have h4 : w.cell? ⟨q, j * 7 + i, none⟩ = cur[j * 7 + i]? := by simp [World.cell?, hh]
    rw [h4, ← inF_take l j hj i hi, ← htk, List.getElem?_take_of_lt hlt, Array.getElem?_toList]
/-- The row of instructions as it was when it began to be read: it is the builder's still, or lies aside, untouched. -/
def OldR (p q0 : Nat) (l : List Inn) (w : World) (iv tv : Value) : Prop :=
  iv.ownBlock = some q0 ∨ (q0 < w.heap.size ∧ q0 ≠ p ∧ iv.ownBlock ≠ some q0 ∧ tv.ownBlock ≠ some q0 ∧ ∀ j (hj : j < l.length) i, i < 7 → w.cell? ⟨q0, j * 7 + i, none⟩ = (inC l[j])[i]?)
theorem OldR.cells {B p q0 : Nat} {w : World} {l m : List Inn} {g : Int} {k : Nat} {bk : Bool} {iv tv : Value} {ts : List Value} (h : OldR p q0 l w iv tv) (hB : Bld B p w (l ++ m) g k bk iv tv ts) :
    ∀ j (hj : j < l.length) i, i < 7 → w.cell? ⟨q0, j * 7 + i, none⟩ = (inC l[j])[i]? := by
  rcases h with h | ⟨_, _, _, _, h⟩
  · intro j hj i hi
    obtain ⟨a, c, rfl⟩ := co_form hB.io
    obtain ⟨_, _, q, rfl, _, _, _, hc, _⟩ := hB.inst (by rw [List.length_append]; omega)
    have hq : q = q0 := by simpa [Value.ownBlock] using h
    subst hq
    rw [hc j (by rw [List.length_append]; omega) i hi, List.getElem_append_left hj]
  · exact h
theorem OldR.below {p q0 : Nat} {w w' : World} {l : List Inn} {iv tv : Value} (h : OldR p q0 l w iv tv) (hb : Below w.heap.size w w') : OldR p q0 l w' iv tv :=
  h.imp id fun ⟨h1, h2, h3, h4, h5⟩ => ⟨Nat.lt_of_lt_of_le h1 hb.size, h2, h3, h4, fun j hj i hi => by rw [hb.cell (p := ⟨q0, j * 7 + i, none⟩) h1]; exact h5 j hj i hi⟩
theorem OldR.step {B p q0 : Nat} {w w' : World} {l m : List Inn} {g : Int} {k : Nat} {bk : Bool} {iv tv iv' : Value} {ts : List Value} (h : OldR p q0 l w iv tv) (hB : Bld B p w (l ++ m) g k bk iv tv ts) (hS : CStep p w iv tv w' iv' tv) (hM : Mv p w iv w' iv') : OldR p q0 l w' iv' tv := by
  have hc := h.cells hB
  rcases h with h | ⟨h1, h2, h3, h4, h5⟩
  · have hlt := co_own_lt hB.io q0 h
    have hqp : q0 ≠ p := fun e => hB.ip (by rw [h, e])
    rcases hM with hM | hM
    · exact .inl (hM.trans h)
    · obtain ⟨e1, e2⟩ := hM q0 hlt hqp
      exact .inr ⟨Nat.lt_of_lt_of_le hlt hS.size, hqp, e2, hB.it q0 h, fun j hj i hi => by rw [World.cell?_of_block (w := w) (a := ⟨q0, j * 7 + i, none⟩) e1]; exact hc j hj i hi⟩
  · obtain ⟨⟨_, f2, f3⟩, f4⟩ := hS.keep q0 ⟨h2, h3, h4⟩ h1
    exact .inr ⟨Nat.lt_of_lt_of_le h1 hS.size, h2, f2, f3, fun j hj i hi => by rw [f4]; exact h5 j hj i hi⟩
theorem mem_bd {l : List Inn} (h : ∀ i ∈ l, -1000000 ≤ i.x ∧ i.x ≤ 10000000 ∧ -1000000 ≤ i.y ∧ i.y ≤ 10000000) (j : Nat) (hj : j < l.length) : -1000000 ≤ l[j].x ∧ l[j].x ≤ 10000000 ∧ -1000000 ≤ l[j].y ∧ l[j].y ≤ 10000000 := h _ (List.getElem_mem hj)

theorem by_1 {x : Inn} (b c : Nat) (h : (x.op == 1) = true) : x.by b c = ⟨x.op, x.set, x.x + b, x.y + b⟩ := by
  have h : x.op = 1 := by simpa using h
  unfold Inn.by
  rw [if_pos h]
theorem by_2 {x : Inn} (b c : Nat) (h : (x.op == 2) = true) : x.by b c = ⟨x.op, x.set, x.x + b, x.y⟩ := by
  have h : x.op = 2 := by simpa using h
  unfold Inn.by
  rw [if_neg (by omega), if_pos h]
theorem by_7 {x : Inn} (b c : Nat) (h : (x.op == 7) = true) : x.by b c = ⟨x.op, x.set, x.x + c, x.y⟩ := by
  have h : x.op = 7 := by simpa using h
  unfold Inn.by
  rw [if_neg (by omega), if_neg (by omega), if_pos (.inl h)]
theorem by_8 {x : Inn} (b c : Nat) (h : (x.op == 8) = true) : x.by b c = ⟨x.op, x.set, x.x + c, x.y⟩ := by
  have h : x.op = 8 := by simpa using h
  unfold Inn.by
  rw [if_neg (by omega), if_neg (by omega), if_pos (.inr h)]
theorem by_0 {x : Inn} (b c : Nat) (h1 : (x.op == 1) = false) (h2 : (x.op == 2) = false) (h7 : (x.op == 7) = false) (h8 : (x.op == 8) = false) : x.by b c = ⟨x.op, x.set, x.x, x.y⟩ := by
  have h1 : x.op ≠ 1 := by simpa using h1
  have h2 : x.op ≠ 2 := by simpa using h2
  have h7 : x.op ≠ 7 := by simpa using h7
  have h8 : x.op ≠ 8 := by simpa using h8
  unfold Inn.by
  rw [if_neg h1, if_neg h2, if_neg (by omega)]

theorem again_not {k b c K : Nat} (l : List Inn) (P z q n : Nat) (h : ¬ 3000 < l.length) (hb : l.length - P = b) (hc : k - q = c) (hK : k + n = K) : againT l P z q n k = (l ++ ((l.drop P).take z).map (·.by b c), K) := by
  subst hb hc hK
  unfold againT
  rw [if_neg h]
  rfl
/-- A stretch: where, how many; its first loop, how many. -/
abbrev StV (P z q n : Nat) : Value := .agg #[.int .i64 (P : Int), .int .i64 (z : Int), .int .i64 (q : Int), .int .i64 (n : Int)]

set_option linter.unusedSimpArgs false in
set_option maxRecDepth 100000 in
set_option maxHeartbeats 4000000 in
theorem again_any {B p : Nat} {l : List Inn} {g : Int} {k : Nat} {bk : Bool} {iv tv : Value} {ts : List Value} (P z q n : Nat) (w : World) (h : Bld B p w l g k bk iv tv ts) (h0 : 0 < l.length) (hP : P + z ≤ l.length) (hq : q ≤ k) (hl : l.length ≤ 100000) (hk : k ≤ 100000) (hn : n ≤ 100000) (hbd : ∀ i ∈ l, -1000000 ≤ i.x ∧ i.x ≤ 10000000 ∧ -1000000 ≤ i.y ∧ i.y ≤ 10000000) :
    Calls Try.prog 60 #[.pointer (some ⟨p, 0, none⟩), StV P z q n] w fun e w' => e = .returned (.tuple #[]) ∧ ∃ iv', Bld B p w' (againT l P z q n k).1 g (againT l P z q n k).2 bk iv' tv ts ∧ CStep p w iv tv w' iv' tv := by
  have hAa := (Below.refl w.heap.size w).alloc (Nat.le_refl _) (.cells #[.int .i64 (P : Int), .int .i64 (z : Int), .int .i64 (q : Int), .int .i64 (n : Int)] 123)
  have hA := h.below hAa
  have hS := CStep.of_below (p := p) (iv := iv) (tv := tv) hAa
  have hBx := Blk.new w #[.int .i64 (P : Int), .int .i64 (z : Int), .int .i64 (q : Int), .int .i64 (n : Int)] 123 w.heap.size rfl
  have hsz1 : w.heap.size < (w.alloc (.cells #[.int .i64 (P : Int), .int .i64 (z : Int), .int .i64 (q : Int), .int .i64 (n : Int)] 123)).heap.size := by simp
  have hoff0 : OffC p iv tv w.heap.size := ⟨fun e => by have := h.blk.lt; omega, fun e => by have := co_own_lt h.io _ e; omega, fun e => by have := co_own_lt h.to _ e; omega⟩
  have hT := toolong_any _ hA
  go_enter Try.func60, Try.ntmps60
  by_cases hlong : 3000 < l.length
  · have hd : decide (3000 < l.length) = true := decide_eq_true hlong
    rw [hd] at hT
    have Hfin := Lib.hid (And.intro hA hS)
    clear hA hS hBx hAa h hbd
    go_wp2_with (go_at_call 24; refine hT.mono ?_; rintro e w' ⟨rfl, rfl⟩)
    refine bodyPost_ret (results_none rfl _ _ _) rfl ?_
    refine ⟨rfl, iv, ?_⟩
    unfold againT
    rw [if_pos hlong]
    exact Hfin.out
  · have hd : decide (3000 < l.length) = false := decide_eq_false hlong
    rw [hd] at hT
    obtain ⟨ia, ic, rfl⟩ := co_form hA.io
    have hc := hA.cells
    have c0 := hc.c0
    have c2 := hc.c2
    have e0 := hBx.cell 0
    have e1 := hBx.cell 1
    have e2 := hBx.cell 2
    have e3 := hBx.cell 3
    simp only [List.getElem?_toArray, List.getElem?_cons_zero, List.getElem?_cons_succ] at e0 e1 e2 e3
    obtain ⟨hlc, hcm, q0, rfl, hBq, hq0, hqp, hcell, hfz⟩ := hA.inst h0
    have Wb : IntKind.i64.wrap ((l.length : Int) - (P : Int)) = ((l.length - P : Nat) : Int) := by rw [IntWalk.i64_in _ (by omega)]; omega
    have Wq : IntKind.i64.wrap ((k : Int) - (q : Int)) = ((k - q : Nat) : Int) := by rw [IntWalk.i64_in _ (by omega)]; omega
    have Ws : IntKind.i64.wrap ((P : Int) + (z : Int)) = ((P + z : Nat) : Int) := by rw [IntWalk.i64_in _ (by omega)]; omega
    have g1 : (P : Int) ≤ ((P + z : Nat) : Int) := by omega
    have g2 : ((P + z : Nat) : Int) ≤ (l.length : Int) := by omega
    have g3 : ((P + z : Nat) : Int) ≤ (ic : Int) := by omega
    obtain ⟨s0, hs0⟩ : ∃ s, s = w.heap.size := ⟨_, rfl⟩
    obtain ⟨E, hE⟩ : ∃ E, P + z = E := ⟨_, rfl⟩
    obtain ⟨b, hb⟩ : ∃ b, l.length - P = b := ⟨_, rfl⟩
    obtain ⟨c, hcq⟩ : ∃ c, k - q = c := ⟨_, rfl⟩
    rw [hE] at Ws g1 g2 g3
    rw [hb] at Wb
    rw [hcq] at Wq
    have hpl := hA.blk.lt
    have Hc := Lib.hid hcell
    have HA := Lib.hid hA
    have HS := Lib.hid hS
    have HBx := Lib.hid hBx
    clear hc hA hS hBx hcell hAa h
    generalize hW1 : w.alloc (.cells #[.int .i64 (P : Int), .int .i64 (z : Int), .int .i64 (q : Int), .int .i64 (n : Int)] 123) = W1 at *
    by_cases hz : z = 0
    · have Hz := Lib.hid hz
      clear hz
      by_cases hip : P = ic
      · subst hip
        go_wp2_with (go_at_call 24; refine hT.mono ?_; rintro e w' ⟨rfl, rfl⟩)
        go_quiet (fail)
        go_wp2
        go_quiet (fail)
        go_wp2
        generalize hV : (World.drewN (World.drewN _ _) _) = V
        have hbV : Below w'.heap.size w' V := by rw [← hV]; exact below_drewN (below_drewN (Below.refl _ _) _) _
        have x3 : V.cell? ⟨w.heap.size, 3, none⟩ = some (.int .i64 (n : Int)) := by rw [hbV.cell (p := ⟨w.heap.size, 3, none⟩) hsz1]; exact e3
        have hBr := HA.out.below hbV
        have hSr := HS.out.trans (CStep.of_below hbV)
        clear hV hT e0 e1 e2 c0 c2 hfz
        go_loopw [41] (fun j wr => j = .int .i64 0 ∧ wr = V) (fun j _ => 0)
        case atStart => exact ⟨rfl, rfl⟩
        case round =>
          obtain ⟨rfl, rfl⟩ := hrel
          have hlti : ¬ (0 : Int) < ((E - P : Nat) : Int) := by have := Hz.out; omega
          go_wp2_with fail
          have H0 := Lib.hid (show l ++ ((l.drop P).take z).map (·.by b c) = l by rw [Hz.out]; simp)
          have hkk : k + n ≤ 200000 := by omega
          obtain ⟨K, hK⟩ : ∃ K, k + n = K := ⟨_, rfl⟩
          have Wk : IntKind.i64.wrap ((k : Int) + (n : Int)) = (K : Int) := by rw [IntWalk.i64_in _ (by omega)]; omega
          have hcr := hBr.cells
          have r2 := hcr.c2
          have y2 := hcr.z2
          have HEQ := Lib.hid (again_not l P z q n hlong hb hcq hK)
          have hfin := fun n' => ((hBr.below (below_drewN (Below.refl _ _) n')).setLoops K)
          have Hfin := Lib.hid hfin
          have HSr := Lib.hid hSr
          clear hcr hfin hBr hSr
          go_wp2_with fail
          go_region
          all_goals go_wp2_with fail
          all_goals go_end0
          all_goals
            refine ⟨rfl, (.slice (some ⟨q0, 0, none⟩) l.length P), ?_⟩
            rw [HEQ.out, H0.out]
            obtain ⟨f1, f2⟩ := Hfin.out 1
            exact ⟨f1, (HSr.out.trans (CStep.of_below (below_drewN (Below.refl wr.heap.size wr) 1))).trans f2⟩
      · have hne' : ¬ ic = P := fun e => hip e.symm
        go_wp2_with (go_at_call 24; refine hT.mono ?_; rintro e w' ⟨rfl, rfl⟩)
        go_quiet (fail)
        go_wp2
        go_quiet (fail)
        go_wp2
        generalize hV : (World.drewN (World.drewN _ _) _) = V
        have hbV : Below w'.heap.size w' V := by rw [← hV]; exact below_drewN (below_drewN (Below.refl _ _) _) _
        have x3 : V.cell? ⟨w.heap.size, 3, none⟩ = some (.int .i64 (n : Int)) := by rw [hbV.cell (p := ⟨w.heap.size, 3, none⟩) hsz1]; exact e3
        have hBr := HA.out.below hbV
        have hSr := HS.out.trans (CStep.of_below hbV)
        clear hV hT e0 e1 e2 c0 c2 hfz
        go_loopw [41] (fun j wr => j = .int .i64 0 ∧ wr = V) (fun j _ => 0)
        case atStart => exact ⟨rfl, rfl⟩
        case round =>
          obtain ⟨rfl, rfl⟩ := hrel
          have hlti : ¬ (0 : Int) < ((E - P : Nat) : Int) := by have := Hz.out; omega
          go_wp2_with fail
          have H0 := Lib.hid (show l ++ ((l.drop P).take z).map (·.by b c) = l by rw [Hz.out]; simp)
          have hkk : k + n ≤ 200000 := by omega
          obtain ⟨K, hK⟩ : ∃ K, k + n = K := ⟨_, rfl⟩
          have Wk : IntKind.i64.wrap ((k : Int) + (n : Int)) = (K : Int) := by rw [IntWalk.i64_in _ (by omega)]; omega
          have hcr := hBr.cells
          have r2 := hcr.c2
          have y2 := hcr.z2
          have HEQ := Lib.hid (again_not l P z q n hlong hb hcq hK)
          have hfin := fun n' => ((hBr.below (below_drewN (Below.refl _ _) n')).setLoops K)
          have Hfin := Lib.hid hfin
          have HSr := Lib.hid hSr
          clear hcr hfin hBr hSr
          go_wp2_with fail
          go_region
          all_goals go_wp2_with fail
          all_goals go_end0
          all_goals
            refine ⟨rfl, (.slice (some ⟨q0, 0, none⟩) l.length ic), ?_⟩
            rw [HEQ.out, H0.out]
            obtain ⟨f1, f2⟩ := Hfin.out 1
            exact ⟨f1, (HSr.out.trans (CStep.of_below (below_drewN (Below.refl wr.heap.size wr) 1))).trans f2⟩
    · have hne : ¬ ic = P := by omega
      have hne' : ¬ P = ic := by omega
      go_wp2_with (go_at_call 24; refine hT.mono ?_; rintro e w' ⟨rfl, rfl⟩)
      go_quiet (fail)
      go_wp2
      go_quiet (fail)
      go_wp2
      generalize hZ : E - P = Z
      obtain rfl : Z = z := by omega
      generalize hV : (World.drewN (World.drewN _ _) _) = V
      have hbV : Below w'.heap.size w' V := by rw [← hV]; exact below_drewN (below_drewN (Below.refl _ _) _) _
      clear hV hT e0 e1 e2 c0 c2 hfz
      go_loopw [41] (fun j wr => ∃ (i : Nat) (iv' : Value), i ≤ Z ∧ j = .int .i64 i ∧ Bld B p wr (l ++ ((l.drop P).take i).map (·.by b c)) g k bk iv' tv ts ∧ CStep p w (.slice (some ⟨q0, 0, none⟩) l.length ic) tv wr iv' tv ∧ OldR p q0 l wr iv' tv ∧ OffC p iv' tv w.heap.size ∧ w.heap.size < wr.heap.size ∧ wr.cell? ⟨w.heap.size, 3, none⟩ = some (.int .i64 n)) (fun j _ => Z - (intOf j).toNat)
      case atStart =>
        refine ⟨0, .slice (some ⟨q0, 0, none⟩) l.length ic, by omega, rfl, ?_, HS.out.trans (CStep.of_below hbV), .inl rfl, ?_, ?_, ?_⟩
        · rw [List.take_zero, List.map_nil, List.append_nil]
          exact HA.out.below hbV
        · exact hoff0
        · exact Nat.lt_of_lt_of_le hsz1 hbV.size
        · rw [hbV.cell (p := ⟨w.heap.size, 3, none⟩) hsz1]
          exact e3
      case round =>
        obtain ⟨i, ivr, hi, rfl, hBr, hSr, hO, hoff, hslt, x3⟩ := hrel
        have hlL : (l ++ ((l.drop P).take i).map (·.by b c)).length = l.length + i := by simp; omega
        by_cases hlt : i < Z
        · have hlti : (i : Int) < (Z : Int) := by omega
          have hxb := mem_bd hbd (P + i) (by omega)
          have hce := (hO.cells hBr) (P + i) (by omega)
          have hsn : ((l.drop P).take (i + 1)).map (·.by b c) = ((l.drop P).take i).map (·.by b c) ++ [(l[P + i]'(by omega)).by b c] := by
            rw [List.take_succ_eq_append_getElem (by simp; omega), List.map_append]
            simp
          obtain ⟨x, hx⟩ : ∃ x, l[P + i]'(by omega) = x := ⟨_, rfl⟩
          rw [hx] at hxb hce hsn
          have hadr : ∀ t, (P + i) * 7 + t = P * 7 + i * 7 + t := fun t => by omega
          have d0 := hce 0 (by omega)
          have d1 := hce 1 (by omega)
          have d2 := hce 2 (by omega)
          have d3 := hce 3 (by omega)
          have d4 := hce 4 (by omega)
          have d5 := hce 5 (by omega)
          have d6 := hce 6 (by omega)
          simp only [inC, List.getElem?_cons_zero, List.getElem?_cons_succ, hadr, Nat.add_zero] at d0 d1 d2 d3 d4 d5 d6
          have hlay := fun y : Inn => lay_any y (wr.alloc (.cells (inC y).toArray 49)) (hBr.below ((Below.refl wr.heap.size wr).alloc (Nat.le_refl _) _)) (by omega)
          have HL := Lib.hid hlay
          clear hlay
          have HB := Lib.hid hBr
          have HS2 := Lib.hid hSr
          have HO := Lib.hid hO
          have Hsn := Lib.hid hsn
          have Hx := Lib.hid hx
          have HOff := Lib.hid hoff
          clear hoff hBr hSr hO hsn hx hce hadr hbd HA HS Hc HBx
          go_wp2_with fail
          all_goals
            have hL := HL.out (x.by b c)
          all_goals first
            | (have hy := by_1 (x := x) b c (by assumption); rw [hy] at hL)
            | (have hy := by_2 (x := x) b c (by assumption); rw [hy] at hL)
            | (have hy := by_7 (x := x) b c (by assumption); rw [hy] at hL)
            | (have hy := by_8 (x := x) b c (by assumption); rw [hy] at hL)
            | (have hy := by_0 (x := x) b c (by assumption) (by assumption) (by assumption) (by assumption); rw [hy] at hL)
          all_goals
            refine hL.mono ?_
            clear hL
            rintro e w2 ⟨rfl, iv2, hB2, hS2, hM2⟩
            go_wp2_with fail
            go_roundw
            case rel =>
              obtain ⟨h5, h6⟩ := hS2.keep _ (HOff.out) (by simp; omega)
              refine ⟨i + 1, iv2, by omega, rfl, ?_, (HS2.out.trans (CStep.of_below ((Below.refl _ _).alloc (Nat.le_refl _) _))).trans hS2, (HO.out.below ((Below.refl _ _).alloc (Nat.le_refl _) _)).step (HB.out.below ((Below.refl _ _).alloc (Nat.le_refl _) _)) hS2 hM2, h5, ?_, ?_⟩
              · rw [Hsn.out, hy, ← List.append_assoc]
                exact hB2
              · have := hS2.size
                simp at this
                omega
              · rw [h6 3, ((Below.refl wr.heap.size wr).alloc (Nat.le_refl _) _).cell (p := ⟨w.heap.size, 3, none⟩) hslt]
                exact x3
            case measure => simp [intOf]; omega
        · have hlti : ¬ (i : Int) < (Z : Int) := by omega
          obtain rfl : i = Z := by omega
          have hkk : k + n ≤ 200000 := by omega
          obtain ⟨K, hK⟩ : ∃ K, k + n = K := ⟨_, rfl⟩
          have Wk : IntKind.i64.wrap ((k : Int) + (n : Int)) = (K : Int) := by rw [IntWalk.i64_in _ (by omega)]; omega
          have hcr := hBr.cells
          have r2 := hcr.c2
          have y2 := hcr.z2
          have HEQ := Lib.hid (again_not l P i q n hlong hb hcq hK)
          have hfin := fun n' => ((hBr.below (below_drewN (Below.refl _ _) n')).setLoops K)
          have Hfin := Lib.hid hfin
          have HSr := Lib.hid hSr
          clear hcr hfin hBr hSr
          go_wp2_with fail
          go_region
          all_goals go_wp2_with fail
          all_goals go_end0
          all_goals
            refine ⟨rfl, ivr, ?_⟩
            rw [HEQ.out]
            obtain ⟨f1, f2⟩ := Hfin.out 1
            exact ⟨f1, (HSr.out.trans (CStep.of_below (below_drewN (Below.refl wr.heap.size wr) 1))).trans f2⟩
end Go.Proofs.Ytjjhkagpoicimaa
