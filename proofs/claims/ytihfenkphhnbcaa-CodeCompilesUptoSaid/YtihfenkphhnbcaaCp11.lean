/- The proof's texts CbC, CoMf, CoMg: what the claim reaches of them. -/
import Derived.Test.YtihfenkphhnbcaaCp05
import Derived.Test.YtihfenkphhnbcaaCp02
import Derived.Deep.LoopGhost
import Derived.Deep.DeepCutAuto
import Derived.Deep.CutBlock
import Derived.Outline
import Derived.Test.YtihfenkphhnbcaaCp03
namespace Go.Proofs.Ytihfenkphhnbcaa
open Go Go.RowKit
theorem inF_take (l : List Inn) (j : Nat) (h : j < l.length) : ∀ i, i < 7 → (inF l)[j * 7 + i]? = (inC l[j])[i]? := by
  induction l generalizing j with
  | nil => simp at h
  | cons x l ih =>
    intro i hi
    show (inC x ++ inF l)[j * 7 + i]? = _
    have hx : (inC x).length = 7 := rfl
    cases j with
    | zero => rw [List.getElem?_append_left (by rw [hx]; omega)]; simp
    | succ j =>
      rw [List.getElem?_append_right (by rw [hx]; omega), hx, show (j + 1) * 7 + i - 7 = j * 7 + i by omega, ih j (by simpa using h) i hi]
      rfl
theorem Bld.inst {B p : Nat} {w : World} {l : List Inn} {g : Int} {k : Nat} {bk : Bool} {a : Option Addr} {c : Nat} {tv : Value} {ts : List Value} (h : Bld B p w l g k bk (.slice a l.length c) tv ts) (h0 : 0 < l.length) :
    l.length ≤ c ∧ c ≤ maxLen ∧ ∃ q, a = some ⟨q, 0, none⟩ ∧ B ≤ q ∧ q < w.heap.size ∧ q ≠ p ∧ (∀ j (hj : j < l.length) i, i < 7 → w.cell? ⟨q, j * 7 + i, none⟩ = (inC l[j])[i]?) ∧ ∀ j, w.frozen? ⟨q, j, none⟩ = false := by
  obtain ⟨h1, h2⟩ := h.io
  rcases h2 with ⟨h2, h3⟩ | ⟨q, cap, cur, h2, hB, hh, hn, hcap, hcs, htk⟩
  · omega
  · injection h2 with e1 e2 e3
    subst e3
    have hip := h.ip
    subst e1
    refine ⟨hn, hcap, q, rfl, hB, (Array.getElem?_eq_some_iff.1 hh).1, fun e => hip (by rw [e]; rfl), fun j hj i hi => ?_, fun j => by simp [World.frozen?, hh]⟩
    have hlt : j * 7 + i < l.length * 7 := by omega
    have h4 : w.cell? ⟨q, j * 7 + i, none⟩ = cur[j * 7 + i]? := by simp [World.cell?, hh]
    rw [h4, ← inF_take l j hj i hi, ← htk, List.getElem?_take_of_lt hlt, Array.getElem?_toList]
def OldR (p q0 : Nat) (l : List Inn) (w : World) (iv tv : Value) : Prop :=
  iv.ownBlock = some q0 ∨ (q0 < w.heap.size ∧ q0 ≠ p ∧ iv.ownBlock ≠ some q0 ∧ tv.ownBlock ≠ some q0 ∧ ∀ j (hj : j < l.length) i, i < 7 → w.cell? ⟨q0, j * 7 + i, none⟩ = (inC l[j])[i]?)
theorem OldR.cells {B p q0 : Nat} {w : World} {l m : List Inn} {g : Int} {k : Nat} {bk : Bool} {iv tv : Value} {ts : List Value} (h : OldR p q0 l w iv tv) (hB : Bld B p w (l ++ m) g k bk iv tv ts) :
    ∀ j (hj : j < l.length) i, i < 7 → w.cell? ⟨q0, j * 7 + i, none⟩ = (inC l[j])[i]? := by
  rcases h with h | ⟨_, _, _, _, h⟩
  · intro j hj i hi
    obtain ⟨a, c, rfl⟩ := co_form hB.io
    obtain ⟨_, _, q, rfl, _, _, _, hc, _⟩ := hB.inst (by rw [List.length_append]; omega)
    have hq : q = q0 := by simpa [Value.ownBlock] using h
    subst hq
    rw [hc j (by rw [List.length_append]; omega) i hi, List.getElem_append_left hj]
  · exact h
theorem OldR.below {p q0 : Nat} {w w' : World} {l : List Inn} {iv tv : Value} (h : OldR p q0 l w iv tv) (hb : Below w.heap.size w w') : OldR p q0 l w' iv tv :=
  h.imp id fun ⟨h1, h2, h3, h4, h5⟩ => ⟨Nat.lt_of_lt_of_le h1 hb.size, h2, h3, h4, fun j hj i hi => by rw [hb.cell (p := ⟨q0, j * 7 + i, none⟩) h1]; exact h5 j hj i hi⟩
theorem OldR.step {B p q0 : Nat} {w w' : World} {l m : List Inn} {g : Int} {k : Nat} {bk : Bool} {iv tv iv' : Value} {ts : List Value} (h : OldR p q0 l w iv tv) (hB : Bld B p w (l ++ m) g k bk iv tv ts) (hS : CStep p w iv tv w' iv' tv) (hM : Mv p w iv w' iv') : OldR p q0 l w' iv' tv := by
  have hc := h.cells hB
  rcases h with h | ⟨h1, h2, h3, h4, h5⟩
  · have hlt := co_own_lt hB.io q0 h
    have hqp : q0 ≠ p := fun e => hB.ip (by rw [h, e])
    rcases hM with hM | hM
    · exact .inl (hM.trans h)
    · obtain ⟨e1, e2⟩ := hM q0 hlt hqp
      exact .inr ⟨Nat.lt_of_lt_of_le hlt hS.size, hqp, e2, hB.it q0 h, fun j hj i hi => by rw [World.cell?_of_block (w := w) (a := ⟨q0, j * 7 + i, none⟩) e1]; exact hc j hj i hi⟩
  · obtain ⟨⟨_, f2, f3⟩, f4⟩ := hS.keep q0 ⟨h2, h3, h4⟩ h1
    exact .inr ⟨Nat.lt_of_lt_of_le h1 hS.size, h2, f2, f3, fun j hj i hi => by rw [f4]; exact h5 j hj i hi⟩
theorem mem_bd {l : List Inn} (h : ∀ i ∈ l, -1000000 ≤ i.x ∧ i.x ≤ 10000000 ∧ -1000000 ≤ i.y ∧ i.y ≤ 10000000) (j : Nat) (hj : j < l.length) : -1000000 ≤ l[j].x ∧ l[j].x ≤ 10000000 ∧ -1000000 ≤ l[j].y ∧ l[j].y ≤ 10000000 := h _ (List.getElem_mem hj)
theorem by_1 {x : Inn} (b c : Nat) (h : (x.op == 1) = true) : x.by b c = ⟨x.op, x.set, x.x + b, x.y + b⟩ := by
  have h : x.op = 1 := by simpa using h
  unfold Inn.by
  rw [if_pos h]
theorem by_2 {x : Inn} (b c : Nat) (h : (x.op == 2) = true) : x.by b c = ⟨x.op, x.set, x.x + b, x.y⟩ := by
  have h : x.op = 2 := by simpa using h
  unfold Inn.by
  rw [if_neg (by omega), if_pos h]
theorem by_7 {x : Inn} (b c : Nat) (h : (x.op == 7) = true) : x.by b c = ⟨x.op, x.set, x.x + c, x.y⟩ := by
  have h : x.op = 7 := by simpa using h
  unfold Inn.by
  rw [if_neg (by omega), if_neg (by omega), if_pos (.inl h)]
theorem by_8 {x : Inn} (b c : Nat) (h : (x.op == 8) = true) : x.by b c = ⟨x.op, x.set, x.x + c, x.y⟩ := by
  have h : x.op = 8 := by simpa using h
  unfold Inn.by
  rw [if_neg (by omega), if_neg (by omega), if_pos (.inr h)]
theorem by_0 {x : Inn} (b c : Nat) (h1 : (x.op == 1) = false) (h2 : (x.op == 2) = false) (h7 : (x.op == 7) = false) (h8 : (x.op == 8) = false) : x.by b c = ⟨x.op, x.set, x.x, x.y⟩ := by
  have h1 : x.op ≠ 1 := by simpa using h1
  have h2 : x.op ≠ 2 := by simpa using h2
  have h7 : x.op ≠ 7 := by simpa using h7
  have h8 : x.op ≠ 8 := by simpa using h8
  unfold Inn.by
  rw [if_neg h1, if_neg h2, if_neg (by omega)]
theorem again_not {k b c K : Nat} (l : List Inn) (P z q n : Nat) (h : ¬ 3000 < l.length) (hb : l.length - P = b) (hc : k - q = c) (hK : k + n = K) : againT l P z q n k = (l ++ ((l.drop P).take z).map (·.by b c), K) := by
  subst hb hc hK
  unfold againT
  rw [if_neg h]
  rfl
abbrev StV (P z q n : Nat) : Value := .agg #[.int .i64 (P : Int), .int .i64 (z : Int), .int .i64 (q : Int), .int .i64 (n : Int)]
set_option linter.unusedSimpArgs false in
set_option maxRecDepth 100000 in
set_option maxHeartbeats 4000000 in
theorem again_any {B p : Nat} {l : List Inn} {g : Int} {k : Nat} {bk : Bool} {iv tv : Value} {ts : List Value} (P z q n : Nat) (w : World) (h : Bld B p w l g k bk iv tv ts) (h0 : 0 < l.length) (hP : P + z ≤ l.length) (hq : q ≤ k) (hl : l.length ≤ 100000) (hk : k ≤ 100000) (hn : n ≤ 100000) (hbd : ∀ i ∈ l, -1000000 ≤ i.x ∧ i.x ≤ 10000000 ∧ -1000000 ≤ i.y ∧ i.y ≤ 10000000) :
    Calls Try.prog 60 #[.pointer (some ⟨p, 0, none⟩), StV P z q n] w fun e w' => e = .returned (.tuple #[]) ∧ ∃ iv', Bld B p w' (againT l P z q n k).1 g (againT l P z q n k).2 bk iv' tv ts ∧ CStep p w iv tv w' iv' tv := by
  have hAa := (Below.refl w.heap.size w).alloc (Nat.le_refl _) (.cells #[.int .i64 (P : Int), .int .i64 (z : Int), .int .i64 (q : Int), .int .i64 (n : Int)] 123)
  have hA := h.below hAa
  have hS := CStep.of_below (p := p) (iv := iv) (tv := tv) hAa
  have hBx := Blk.new w #[.int .i64 (P : Int), .int .i64 (z : Int), .int .i64 (q : Int), .int .i64 (n : Int)] 123 w.heap.size rfl
  have hsz1 : w.heap.size < (w.alloc (.cells #[.int .i64 (P : Int), .int .i64 (z : Int), .int .i64 (q : Int), .int .i64 (n : Int)] 123)).heap.size := by simp
  have hoff0 : OffC p iv tv w.heap.size := ⟨fun e => by have := h.blk.lt; omega, fun e => by have := co_own_lt h.io _ e; omega, fun e => by have := co_own_lt h.to _ e; omega⟩
  have hT := toolong_any _ hA
  go_enter Try.func60, Try.ntmps60
  by_cases hlong : 3000 < l.length
  · have hd : decide (3000 < l.length) = true := decide_eq_true hlong
    rw [hd] at hT
    have Hfin := Lib.hid (And.intro hA hS)
    clear hA hS hBx hAa h hbd
    go_wp2_with (go_at_call 24; refine hT.mono ?_; rintro e w' ⟨rfl, rfl⟩)
    refine bodyPost_ret (results_none rfl _ _ _) rfl ?_
    refine ⟨rfl, iv, ?_⟩
    unfold againT
    rw [if_pos hlong]
    exact Hfin.out
  · have hd : decide (3000 < l.length) = false := decide_eq_false hlong
    rw [hd] at hT
    obtain ⟨ia, ic, rfl⟩ := co_form hA.io
    have hc := hA.cells
    have c0 := hc.c0
    have c2 := hc.c2
    have e0 := hBx.cell 0
    have e1 := hBx.cell 1
    have e2 := hBx.cell 2
    have e3 := hBx.cell 3
    simp only [List.getElem?_toArray, List.getElem?_cons_zero, List.getElem?_cons_succ] at e0 e1 e2 e3
    obtain ⟨hlc, hcm, q0, rfl, hBq, hq0, hqp, hcell, hfz⟩ := hA.inst h0
    have Wb : IntKind.i64.wrap ((l.length : Int) - (P : Int)) = ((l.length - P : Nat) : Int) := by rw [IntWalk.i64_in _ (by omega)]; omega
    have Wq : IntKind.i64.wrap ((k : Int) - (q : Int)) = ((k - q : Nat) : Int) := by rw [IntWalk.i64_in _ (by omega)]; omega
    have Ws : IntKind.i64.wrap ((P : Int) + (z : Int)) = ((P + z : Nat) : Int) := by rw [IntWalk.i64_in _ (by omega)]; omega
    have g1 : (P : Int) ≤ ((P + z : Nat) : Int) := by omega
    have g2 : ((P + z : Nat) : Int) ≤ (l.length : Int) := by omega
    have g3 : ((P + z : Nat) : Int) ≤ (ic : Int) := by omega
    obtain ⟨s0, hs0⟩ : ∃ s, s = w.heap.size := ⟨_, rfl⟩
    obtain ⟨E, hE⟩ : ∃ E, P + z = E := ⟨_, rfl⟩
    obtain ⟨b, hb⟩ : ∃ b, l.length - P = b := ⟨_, rfl⟩
    obtain ⟨c, hcq⟩ : ∃ c, k - q = c := ⟨_, rfl⟩
    rw [hE] at Ws g1 g2 g3
    rw [hb] at Wb
    rw [hcq] at Wq
    have hpl := hA.blk.lt
    have Hc := Lib.hid hcell
    have HA := Lib.hid hA
    have HS := Lib.hid hS
    have HBx := Lib.hid hBx
    clear hc hA hS hBx hcell hAa h
    generalize hW1 : w.alloc (.cells #[.int .i64 (P : Int), .int .i64 (z : Int), .int .i64 (q : Int), .int .i64 (n : Int)] 123) = W1 at *
    by_cases hz : z = 0
    · have Hz := Lib.hid hz
      clear hz
      by_cases hip : P = ic
      · subst hip
        go_wp2_with (go_at_call 24; refine hT.mono ?_; rintro e w' ⟨rfl, rfl⟩)
        go_quiet (fail)
        go_wp2
        go_quiet (fail)
        go_wp2
        generalize hV : (World.drewN (World.drewN _ _) _) = V
        have hbV : Below w'.heap.size w' V := by rw [← hV]; exact below_drewN (below_drewN (Below.refl _ _) _) _
        have x3 : V.cell? ⟨w.heap.size, 3, none⟩ = some (.int .i64 (n : Int)) := by rw [hbV.cell (p := ⟨w.heap.size, 3, none⟩) hsz1]; exact e3
        have hBr := HA.out.below hbV
        have hSr := HS.out.trans (CStep.of_below hbV)
        clear hV hT e0 e1 e2 c0 c2 hfz
        go_loopw [41] (fun j wr => j = .int .i64 0 ∧ wr = V) (fun j _ => 0)
        case atStart => exact ⟨rfl, rfl⟩
        case round =>
          obtain ⟨rfl, rfl⟩ := hrel
          have hlti : ¬ (0 : Int) < ((E - P : Nat) : Int) := by have := Hz.out; omega
          go_wp2_with fail
          have H0 := Lib.hid (show l ++ ((l.drop P).take z).map (·.by b c) = l by rw [Hz.out]; simp)
          have hkk : k + n ≤ 200000 := by omega
          obtain ⟨K, hK⟩ : ∃ K, k + n = K := ⟨_, rfl⟩
          have Wk : IntKind.i64.wrap ((k : Int) + (n : Int)) = (K : Int) := by rw [IntWalk.i64_in _ (by omega)]; omega
          have hcr := hBr.cells
          have r2 := hcr.c2
          have y2 := hcr.z2
          have HEQ := Lib.hid (again_not l P z q n hlong hb hcq hK)
          have hfin := fun n' => ((hBr.below (below_drewN (Below.refl _ _) n')).setLoops K)
          have Hfin := Lib.hid hfin
          have HSr := Lib.hid hSr
          clear hcr hfin hBr hSr
          go_wp2_with fail
          go_region
          all_goals go_wp2_with fail
          all_goals go_end0
          all_goals
            refine ⟨rfl, (.slice (some ⟨q0, 0, none⟩) l.length P), ?_⟩
            rw [HEQ.out, H0.out]
            obtain ⟨f1, f2⟩ := Hfin.out 1
            exact ⟨f1, (HSr.out.trans (CStep.of_below (below_drewN (Below.refl wr.heap.size wr) 1))).trans f2⟩
      · have hne' : ¬ ic = P := fun e => hip e.symm
        go_wp2_with (go_at_call 24; refine hT.mono ?_; rintro e w' ⟨rfl, rfl⟩)
        go_quiet (fail)
        go_wp2
        go_quiet (fail)
        go_wp2
        generalize hV : (World.drewN (World.drewN _ _) _) = V
        have hbV : Below w'.heap.size w' V := by rw [← hV]; exact below_drewN (below_drewN (Below.refl _ _) _) _
        have x3 : V.cell? ⟨w.heap.size, 3, none⟩ = some (.int .i64 (n : Int)) := by rw [hbV.cell (p := ⟨w.heap.size, 3, none⟩) hsz1]; exact e3
        have hBr := HA.out.below hbV
        have hSr := HS.out.trans (CStep.of_below hbV)
        clear hV hT e0 e1 e2 c0 c2 hfz
        go_loopw [41] (fun j wr => j = .int .i64 0 ∧ wr = V) (fun j _ => 0)
        case atStart => exact ⟨rfl, rfl⟩
        case round =>
          obtain ⟨rfl, rfl⟩ := hrel
          have hlti : ¬ (0 : Int) < ((E - P : Nat) : Int) := by have := Hz.out; omega
          go_wp2_with fail
          have H0 := Lib.hid (show l ++ ((l.drop P).take z).map (·.by b c) = l by rw [Hz.out]; simp)
          have hkk : k + n ≤ 200000 := by omega
          obtain ⟨K, hK⟩ : ∃ K, k + n = K := ⟨_, rfl⟩
          have Wk : IntKind.i64.wrap ((k : Int) + (n : Int)) = (K : Int) := by rw [IntWalk.i64_in _ (by omega)]; omega
          have hcr := hBr.cells
          have r2 := hcr.c2
          have y2 := hcr.z2
          have HEQ := Lib.hid (again_not l P z q n hlong hb hcq hK)
          have hfin := fun n' => ((hBr.below (below_drewN (Below.refl _ _) n')).setLoops K)
          have Hfin := Lib.hid hfin
          have HSr := Lib.hid hSr
          clear hcr hfin hBr hSr
          go_wp2_with fail
          go_region
          all_goals go_wp2_with fail
          all_goals go_end0
          all_goals
            refine ⟨rfl, (.slice (some ⟨q0, 0, none⟩) l.length ic), ?_⟩
            rw [HEQ.out, H0.out]
            obtain ⟨f1, f2⟩ := Hfin.out 1
            exact ⟨f1, (HSr.out.trans (CStep.of_below (below_drewN (Below.refl wr.heap.size wr) 1))).trans f2⟩
    · have hne : ¬ ic = P := by omega
      have hne' : ¬ P = ic := by omega
      go_wp2_with (go_at_call 24; refine hT.mono ?_; rintro e w' ⟨rfl, rfl⟩)
      go_quiet (fail)
      go_wp2
      go_quiet (fail)
      go_wp2
      generalize hZ : E - P = Z
      obtain rfl : Z = z := by omega
      generalize hV : (World.drewN (World.drewN _ _) _) = V
      have hbV : Below w'.heap.size w' V := by rw [← hV]; exact below_drewN (below_drewN (Below.refl _ _) _) _
      clear hV hT e0 e1 e2 c0 c2 hfz
      go_loopw [41] (fun j wr => ∃ (i : Nat) (iv' : Value), i ≤ Z ∧ j = .int .i64 i ∧ Bld B p wr (l ++ ((l.drop P).take i).map (·.by b c)) g k bk iv' tv ts ∧ CStep p w (.slice (some ⟨q0, 0, none⟩) l.length ic) tv wr iv' tv ∧ OldR p q0 l wr iv' tv ∧ OffC p iv' tv w.heap.size ∧ w.heap.size < wr.heap.size ∧ wr.cell? ⟨w.heap.size, 3, none⟩ = some (.int .i64 n)) (fun j _ => Z - (intOf j).toNat)
      case atStart =>
        refine ⟨0, .slice (some ⟨q0, 0, none⟩) l.length ic, by omega, rfl, ?_, HS.out.trans (CStep.of_below hbV), .inl rfl, ?_, ?_, ?_⟩
        · rw [List.take_zero, List.map_nil, List.append_nil]
          exact HA.out.below hbV
        · exact hoff0
        · exact Nat.lt_of_lt_of_le hsz1 hbV.size
        · rw [hbV.cell (p := ⟨w.heap.size, 3, none⟩) hsz1]
          exact e3
      case round =>
        obtain ⟨i, ivr, hi, rfl, hBr, hSr, hO, hoff, hslt, x3⟩ := hrel
        have hlL : (l ++ ((l.drop P).take i).map (·.by b c)).length = l.length + i := by simp; omega
        by_cases hlt : i < Z
        · have hlti : (i : Int) < (Z : Int) := by omega
          have hxb := mem_bd hbd (P + i) (by omega)
          have hce := (hO.cells hBr) (P + i) (by omega)
          have hsn : ((l.drop P).take (i + 1)).map (·.by b c) = ((l.drop P).take i).map (·.by b c) ++ [(l[P + i]'(by omega)).by b c] := by
            rw [List.take_succ_eq_append_getElem (by simp; omega), List.map_append]
            simp
          obtain ⟨x, hx⟩ : ∃ x, l[P + i]'(by omega) = x := ⟨_, rfl⟩
          rw [hx] at hxb hce hsn
          have hadr : ∀ t, (P + i) * 7 + t = P * 7 + i * 7 + t := fun t => by omega
          have d0 := hce 0 (by omega)
          have d1 := hce 1 (by omega)
          have d2 := hce 2 (by omega)
          have d3 := hce 3 (by omega)
          have d4 := hce 4 (by omega)
          have d5 := hce 5 (by omega)
          have d6 := hce 6 (by omega)
          simp only [inC, List.getElem?_cons_zero, List.getElem?_cons_succ, hadr, Nat.add_zero] at d0 d1 d2 d3 d4 d5 d6
          have hlay := fun y : Inn => lay_any y (wr.alloc (.cells (inC y).toArray 49)) (hBr.below ((Below.refl wr.heap.size wr).alloc (Nat.le_refl _) _)) (by omega)
          have HL := Lib.hid hlay
          clear hlay
          have HB := Lib.hid hBr
          have HS2 := Lib.hid hSr
          have HO := Lib.hid hO
          have Hsn := Lib.hid hsn
          have Hx := Lib.hid hx
          have HOff := Lib.hid hoff
          clear hoff hBr hSr hO hsn hx hce hadr hbd HA HS Hc HBx
          go_wp2_with fail
          all_goals
            have hL := HL.out (x.by b c)
          all_goals first
            | (have hy := by_1 (x := x) b c (by assumption); rw [hy] at hL)
            | (have hy := by_2 (x := x) b c (by assumption); rw [hy] at hL)
            | (have hy := by_7 (x := x) b c (by assumption); rw [hy] at hL)
            | (have hy := by_8 (x := x) b c (by assumption); rw [hy] at hL)
            | (have hy := by_0 (x := x) b c (by assumption) (by assumption) (by assumption) (by assumption); rw [hy] at hL)
          all_goals
            refine hL.mono ?_
            clear hL
            rintro e w2 ⟨rfl, iv2, hB2, hS2, hM2⟩
            go_wp2_with fail
            go_roundw
            case rel =>
              obtain ⟨h5, h6⟩ := hS2.keep _ (HOff.out) (by simp; omega)
              refine ⟨i + 1, iv2, by omega, rfl, ?_, (HS2.out.trans (CStep.of_below ((Below.refl _ _).alloc (Nat.le_refl _) _))).trans hS2, (HO.out.below ((Below.refl _ _).alloc (Nat.le_refl _) _)).step (HB.out.below ((Below.refl _ _).alloc (Nat.le_refl _) _)) hS2 hM2, h5, ?_, ?_⟩
              · rw [Hsn.out, hy, ← List.append_assoc]
                exact hB2
              · have := hS2.size
                simp at this
                omega
              · rw [h6 3, ((Below.refl wr.heap.size wr).alloc (Nat.le_refl _) _).cell (p := ⟨w.heap.size, 3, none⟩) hslt]
                exact x3
            case measure => simp [intOf]; omega
        · have hlti : ¬ (i : Int) < (Z : Int) := by omega
          obtain rfl : i = Z := by omega
          have hkk : k + n ≤ 200000 := by omega
          obtain ⟨K, hK⟩ : ∃ K, k + n = K := ⟨_, rfl⟩
          have Wk : IntKind.i64.wrap ((k : Int) + (n : Int)) = (K : Int) := by rw [IntWalk.i64_in _ (by omega)]; omega
          have hcr := hBr.cells
          have r2 := hcr.c2
          have y2 := hcr.z2
          have HEQ := Lib.hid (again_not l P i q n hlong hb hcq hK)
          have hfin := fun n' => ((hBr.below (below_drewN (Below.refl _ _) n')).setLoops K)
          have Hfin := Lib.hid hfin
          have HSr := Lib.hid hSr
          clear hcr hfin hBr hSr
          go_wp2_with fail
          go_region
          all_goals go_wp2_with fail
          all_goals go_end0
          all_goals
            refine ⟨rfl, ivr, ?_⟩
            rw [HEQ.out]
            obtain ⟨f1, f2⟩ := Hfin.out 1
            exact ⟨f1, (HSr.out.trans (CStep.of_below (below_drewN (Below.refl wr.heap.size wr) 1))).trans f2⟩
end Go.Proofs.Ytihfenkphhnbcaa
namespace Go.Proofs.Ytihfenkphhnbcaa
set_option linter.unusedVariables false
def Grw (n k n' k' : Nat) : Prop := n ≤ n' ∧ k ≤ k' ∧ k' + n ≤ k + n'
theorem Grw.refl (n k : Nat) : Grw n k n k := ⟨Nat.le_refl _, Nat.le_refl _, Nat.le_refl _⟩
theorem Grw.trans {n k n' k' n2 k2 : Nat} (h : Grw n k n' k') (g : Grw n' k' n2 k2) : Grw n k n2 k2 := by
  obtain ⟨h1, h2, h3⟩ := h
  obtain ⟨g1, g2, g3⟩ := g
  exact ⟨by omega, by omega, by omega⟩
def Fit (n k : Nat) : CTk → Prop
  | .lay d => cok d = true
  | .save m => 1 ≤ m ∧ m ≤ 1000000
  | .turn ds => coks ds = true
  | .branch s ds js => coks ds = true ∧ ds ≠ [] ∧ s < n ∧ js.length ≤ s ∧ ∀ j ∈ js, j < n
  | .jumps js => ∀ j ∈ js, j < n
  | .rep mn mx P q => okRep mn mx = true ∧ mx ≠ 0 ∧ P ≤ n ∧ q ≤ k ∧ k + P ≤ q + n ∧ (mn = 0 → 2 ≤ P ∧ 1 ≤ q)
theorem Fit.up {n k n' k' : Nat} {t : CTk} (h : Fit n k t) (g : Grw n k n' k') : Fit n' k' t := by
  obtain ⟨g1, g2, g3⟩ := g
  cases t with
  | lay d => exact h
  | save m => exact h
  | turn ds => exact h
  | branch s ds js => exact ⟨h.1, h.2.1, by have := h.2.2.1; omega, h.2.2.2.1, fun j hj => by have := h.2.2.2.2 j hj; omega⟩
  | jumps js => exact fun j hj => by have := h j hj; omega
  | rep mn mx P q =>
    obtain ⟨h1, h2, h3, h4, h5, h6⟩ := h
    exact ⟨h1, h2, by omega, by omega, by omega, h6⟩
theorem okrep_parts {mn mx : Int} (h : okRep mn mx = true) : 0 ≤ mn ∧ mn ≤ 255 ∧ (mx = -1 ∨ (mn ≤ mx ∧ mx ≤ 255)) := by
  unfold okRep at h
  simp only [Bool.and_eq_true, Bool.or_eq_true, decide_eq_true_eq] at h
  exact ⟨h.1.1, h.1.2, h.2⟩
theorem again_grw (l : List Inn) (P z k q k1 : Nat) (h1 : P + z ≤ l.length) (h2 : q ≤ z) : Grw l.length k1 (again l P z k q k1).1.length (again l P z k q k1).2 ∧ (again l P z k q k1).1.length = l.length + z := by
  have h3 : (again l P z k q k1).1.length = l.length + z := by simp [again]; omega
  refine ⟨⟨by omega, by simp [again], ?_⟩, h3⟩
  rw [h3]; simp [again]; omega
theorem againT_grw (l : List Inn) (P z k q k1 : Nat) (h1 : P + z ≤ l.length) (h2 : q ≤ z) : Grw l.length k1 (againT l P z k q k1).1.length (againT l P z k q k1).2 ∧ (againT l P z k q k1).1.length ≤ max l.length (3000 + z) := by
  unfold againT
  split
  · exact ⟨.refl _ _, by simp only; omega⟩
  · obtain ⟨h3, h4⟩ := again_grw l P z k q k1 h1 h2
    exact ⟨h3, by omega⟩
theorem againsT_grw (P z k q : Nat) (h2 : q ≤ z) : ∀ (n : Nat) (l : List Inn) (k1 : Nat), P + z ≤ l.length →
    Grw l.length k1 (againsT P z k q n l k1).1.length (againsT P z k q n l k1).2 ∧ (againsT P z k q n l k1).1.length ≤ max l.length (3000 + z)
  | 0, l, k1, _ => ⟨.refl _ _, by simp only [againsT]; omega⟩
  | n + 1, l, k1, h1 => by
    obtain ⟨a1, a2⟩ := againT_grw l P z k q k1 h1 h2
    obtain ⟨b1, b2⟩ := againsT_grw P z k q h2 n (againT l P z k q k1).1 (againT l P z k q k1).2 (by have := a1.1; omega)
    exact ⟨a1.trans b1, by rw [againsT]; omega⟩
theorem agroundsT_grw (P z k q E : Nat) (h2 : q ≤ z) : ∀ (n : Nat) (l : List Inn) (k1 : Nat), P + z ≤ l.length →
    Grw l.length k1 (agroundsT P z k q E n l k1).1.length (agroundsT P z k q E n l k1).2 ∧ (agroundsT P z k q E n l k1).1.length ≤ max l.length (3000 + z) + 3 * n
  | 0, l, k1, _ => ⟨.refl _ _, by simp only [agroundsT]; omega⟩
  | n + 1, l, k1, h1 => by
    rw [agroundsT]
    have hl : (l ++ [ins 1 (l.length + 1 : Nat) E, ins 7 k1 0]).length = l.length + 2 := by simp
    obtain ⟨a1, a2⟩ := againT_grw (l ++ [ins 1 (l.length + 1 : Nat) E, ins 7 k1 0]) P z k q (k1 + 1) (by omega) h2
    generalize againT (l ++ [ins 1 (l.length + 1 : Nat) E, ins 7 k1 0]) P z k q (k1 + 1) = r at *
    have hr : (r.1 ++ [ins 8 k1 0]).length = r.1.length + 1 := by simp
    obtain ⟨a3, a4, a5⟩ := a1
    obtain ⟨b1, b2⟩ := agroundsT_grw P z k q E h2 n (r.1 ++ [ins 8 k1 0]) r.2 (by omega)
    exact ⟨Grw.trans ⟨by omega, by omega, by omega⟩ b1, by omega⟩
theorem rept_grw (mn mx : Int) (P z k q : Nat) (l : List Inn) (k1 : Nat) (ho : okRep mn mx = true) (h1 : P + z ≤ l.length) (h2 : q ≤ z) (hl : l.length ≤ 3000) :
    Grw l.length k1 (repT mn mx P z k q l k1).1.length (repT mn mx P z k q l k1).2 ∧ (repT mn mx P z k q l k1).1.length ≤ 7000 := by
  obtain ⟨o1, o2, o3⟩ := okrep_parts ho
  have hR : (if mx = -1 then 1 else (mx - mn).toNat) ≤ 255 := by split <;> omega
  have hJ : (if mx = -1 then 1 else 0) ≤ 1 := by split <;> omega
  unfold repT
  generalize (if mx = -1 then 1 else (mx - mn).toNat) = R at *
  generalize (if mx = -1 then 1 else 0) = J at *
  by_cases h : mn = 0
  · rw [if_pos h]
    simp only [List.length_append, List.length_replicate]
    generalize hL : (upd l (P - 2) (fun i => { i with y := ((P - 2 + R * (z + 3) + J : Nat) : Int) }) ++ [ins 8 (k - 1 : Nat) 0]) = L
    have hLl : L.length = l.length + 1 := by rw [← hL]; simp [upd_len]
    obtain ⟨a1, a2⟩ := agroundsT_grw P z k q (P - 2 + R * (z + 3) + J) h2 (R - 1) L k1 (by omega)
    obtain ⟨a3, a4, a5⟩ := a1
    exact ⟨⟨by omega, by omega, by omega⟩, by omega⟩
  · rw [if_neg h]
    simp only [List.length_append, List.length_replicate]
    obtain ⟨a1, a2⟩ := againsT_grw P z k q h2 (mn.toNat - 1) l k1 h1
    generalize againsT P z k q (mn.toNat - 1) l k1 = r at *
    obtain ⟨b1, b2⟩ := agroundsT_grw P z k q (P + mn.toNat * z + R * (z + 3) + J) h2 R r.1 r.2 (by have := a1.1; omega)
    obtain ⟨c1, c2, c3⟩ := a1.trans b1
    exact ⟨⟨by omega, by omega, by omega⟩, by omega⟩
theorem coturn_fit (ds : List Nd) (n k : Nat) (h : coks ds = true) : ∀ t ∈ coTurn ds, Fit n k t := by
  cases ds with
  | nil => intro t ht; simp [coTurn] at ht
  | cons d ds =>
    rw [coks, Bool.and_eq_true] at h
    intro t ht
    simp only [coTurn, List.mem_cons, List.not_mem_nil, or_false] at ht
    rcases ht with rfl | rfl
    · exact h.1
    · exact h.2
theorem brst_fit (ds : List Nd) (js : List Nat) (l : List Inn) (k : Nat) (h : coks ds = true) (hn : js.length ≤ l.length) (hj : ∀ j ∈ js, j < l.length) :
    Grw l.length k (brSt ds js l).1.length k ∧ (brSt ds js l).1.length ≤ l.length + 1 ∧ ∀ t ∈ (brSt ds js l).2, Fit (brSt ds js l).1.length k t := by
  cases ds with
  | nil => exact ⟨.refl _ _, by simp [brSt], fun t ht => by simp [brSt] at ht⟩
  | cons d ds =>
    rw [coks, Bool.and_eq_true] at h
    rw [brSt]
    split
    · refine ⟨.refl _ _, by simp, fun t ht => ?_⟩
      simp only [List.mem_cons, List.not_mem_nil, or_false] at ht
      rcases ht with rfl | rfl
      · exact h.1
      · exact hj
    · rename_i he
      have hl : (l ++ [ins 1 (l.length + 1 : Nat) 0]).length = l.length + 1 := by simp
      refine ⟨⟨by simp only; omega, Nat.le_refl _, by simp only; omega⟩, by simp only; omega, fun t ht => ?_⟩
      simp only [List.mem_cons, List.not_mem_nil, or_false] at ht
      rcases ht with rfl | rfl
      · exact h.1
      · exact ⟨h.2, by simpa using he, by simp only; omega, hn, fun j hm => by have := hj j hm; simp only; omega⟩
theorem stp_fit (t : CTk) (l : List Inn) (k : Nat) (h : Fit l.length k t) (hl : l.length ≤ 3000) :
    Grw l.length k (stp t l k).1.1.length (stp t l k).1.2 ∧ (stp t l k).1.1.length ≤ 7000 ∧ ∀ u ∈ (stp t l k).2, Fit (stp t l k).1.1.length (stp t l k).1.2 u := by
  cases t with
  | save m => refine ⟨⟨?_, ?_, ?_⟩, ?_, ?_⟩ <;> simp [stp]; omega
  | turn ds => exact ⟨.refl _ _, by simp only [stp]; omega, coturn_fit ds _ _ h⟩
  | branch s ds js =>
    obtain ⟨h1, h2, h3, h5, h4⟩ := h
    have hL : (upd (l ++ [ins 2 0 0]) s fun i => { i with y := (l.length + 1 : Nat) }).length = l.length + 1 := by simp [upd_len]
    obtain ⟨a1, a2, a3⟩ := brst_fit ds (js ++ [l.length]) (upd (l ++ [ins 2 0 0]) s fun i => { i with y := (l.length + 1 : Nat) }) k h1 (by rw [hL]; simp; omega) (fun j hm => by
      rcases List.mem_append.1 hm with hm | hm
      · have := h4 j hm; omega
      · obtain rfl : j = l.length := by simpa using hm
        omega)
    rw [hL] at a1 a2
    exact ⟨Grw.trans ⟨by omega, Nat.le_refl _, by omega⟩ a1, by simp only [stp]; omega, a3⟩
  | jumps js => refine ⟨⟨?_, ?_, ?_⟩, ?_, ?_⟩ <;> simp [stp, patch_len]; omega
  | rep mn mx P q =>
    obtain ⟨h1, h2, h3, h4, h5, h6⟩ := h
    obtain ⟨a1, a2⟩ := rept_grw mn mx P (l.length - P) q (k - q) l k h1 (by omega) (by omega) hl
    exact ⟨a1, a2, fun u hu => by simp [stp] at hu⟩
  | lay d =>
    cases d with
    | empty => refine ⟨⟨?_, ?_, ?_⟩, ?_, ?_⟩ <;> simp [stp]; omega
    | one s => refine ⟨⟨?_, ?_, ?_⟩, ?_, ?_⟩ <;> simp [stp]; omega
    | back n => refine ⟨⟨?_, ?_, ?_⟩, ?_, ?_⟩ <;> simp [stp]; omega
    | start => refine ⟨⟨?_, ?_, ?_⟩, ?_, ?_⟩ <;> simp [stp]; omega
    | fin => refine ⟨⟨?_, ?_, ?_⟩, ?_, ?_⟩ <;> simp [stp]; omega
    | cat ds =>
      have h : coks ds = true := by have h : cok (.cat ds) = true := h; rwa [cok] at h
      exact ⟨.refl _ _, by simp only [stp]; omega, coturn_fit ds _ _ h⟩
    | alt ds =>
      have h : cok (.alt ds) = true := h
      rw [cok, Bool.and_eq_true] at h
      obtain ⟨a1, a2, a3⟩ := brst_fit ds [] l k h.2 (by simp) (by simp)
      exact ⟨a1, by simp only [stp]; omega, a3⟩
    | group n d =>
      have h : cok (.group n d) = true := h
      simp only [cok, Bool.and_eq_true, decide_eq_true_eq] at h
      refine ⟨⟨?_, ?_, ?_⟩, ?_, ?_⟩
      any_goals (simp [stp]; done)
      · simp [stp]; omega
      · intro u hu
        simp only [stp, List.mem_cons, List.not_mem_nil, or_false] at hu
        rcases hu with rfl | rfl
        · exact h.2
        · exact h.1
    | rep d mn mx =>
      have h : cok (.rep d mn mx) = true := h
      rw [cok, Bool.and_eq_true, Bool.and_eq_true] at h
      rw [stp]
      split
      · exact ⟨.refl _ _, by simp only; omega, fun u hu => by simp at hu⟩
      · rename_i h0
        split
        · rename_i h3
          have hL : (l ++ [ins 1 (l.length + 1 : Nat) 0, ins 7 k 0]).length = l.length + 2 := by simp
          refine ⟨⟨by simp only; omega, by simp only; omega, by simp only; omega⟩, by simp only; omega, fun u hu => ?_⟩
          simp only [List.mem_cons, List.not_mem_nil, or_false] at hu
          rcases hu with rfl | rfl
          · exact h.2.2
          · exact ⟨h.1, h0, by simp only; omega, by simp only; omega, by simp only; omega, fun _ => ⟨by omega, by omega⟩⟩
        · rename_i h3
          refine ⟨.refl _ _, by simp only; omega, fun u hu => ?_⟩
          simp only [List.mem_cons, List.not_mem_nil, or_false] at hu
          rcases hu with rfl | rfl
          · exact h.2.2
          · exact ⟨h.1, h0, by simp only; omega, by simp only; omega, by simp only; omega, fun h4 => absurd h4 h3⟩
end Go.Proofs.Ytihfenkphhnbcaa
namespace Go.Proofs.Ytihfenkphhnbcaa
set_option linter.unusedVariables false
def Bi (p : Nat) (i : Inn) : Prop := 0 ≤ i.op ∧ i.op ≤ 9 ∧ 0 ≤ i.x ∧ i.x ≤ 3000000 + p ∧ 0 ≤ i.y ∧ i.y ≤ 3000000 + p
def Bd (l : List Inn) : Prop := ∀ p i, l[p]? = some i → Bi p i
theorem bd_app {l m : List Inn} (h : Bd l) (k : ∀ p i, m[p]? = some i → Bi (l.length + p) i) : Bd (l ++ m) := by
  intro p i hp
  by_cases hl : p < l.length
  · rw [List.getElem?_append_left hl] at hp; exact h p i hp
  · rw [List.getElem?_append_right (by omega)] at hp
    have := k _ i hp
    rwa [show l.length + (p - l.length) = p by omega] at this
theorem bd_one {l : List Inn} {i : Inn} (h : Bd l) (k : Bi l.length i) : Bd (l ++ [i]) := bd_app h fun p j hp => by
  cases p with
  | zero => simp at hp; subst hp; exact k
  | succ p => simp at hp
theorem bd_rep {l : List Inn} {i : Inn} (h : Bd l) (n : Nat) (k : ∀ p, Bi p i) : Bd (l ++ List.replicate n i) := bd_app h fun p j hp => by
  rw [List.getElem?_replicate] at hp
  split at hp
  · injection hp with hp; subst hp; exact k _
  · cases hp
theorem bd_upd {l : List Inn} (h : Bd l) (j : Nat) (f : Inn → Inn) (k : ∀ i, Bi j i → Bi j (f i)) : Bd (upd l j f) := by
  intro p i hp
  unfold upd at hp
  rw [List.getElem?_set] at hp
  split at hp
  · rename_i hj
    subst hj
    split at hp
    · rename_i hl
      injection hp with hp
      subst hp
      refine k _ ?_
      rw [List.getD_eq_getElem?_getD, List.getElem?_eq_getElem hl]
      exact h _ _ (List.getElem?_eq_getElem hl)
    · cases hp
  · exact h p i hp
theorem bd_patch (v : Nat) (hv : v ≤ 3000000) : ∀ (js : List Nat) {l : List Inn}, Bd l → Bd (patch (v : Nat) js l)
  | [], l, h => h
  | j :: js, l, h => bd_patch v hv js (bd_upd h j _ fun i ⟨h1, h2, h3, h4, h5, h6⟩ => ⟨h1, h2, by simp only; omega, by simp only; omega, h5, h6⟩)
theorem bi_by {p b q : Nat} {i : Inn} (h : Bi p i) (hq : q ≤ b) : Bi (p + b) (i.by b q) := by
  obtain ⟨h1, h2, h3, h4, h5, h6⟩ := h
  unfold Inn.by
  split
  · exact ⟨h1, h2, by simp only; omega, by simp only; omega, by simp only; omega, by simp only; omega⟩
  · split
    · exact ⟨h1, h2, by simp only; omega, by simp only; omega, h5, by simp only; omega⟩
    · split
      · exact ⟨h1, h2, by simp only; omega, by simp only; omega, h5, by simp only; omega⟩
      · exact ⟨h1, h2, h3, by omega, h5, by omega⟩
theorem bd_again {l : List Inn} (P z k q k1 : Nat) (h : Bd l) (hP : P ≤ l.length) (hk : k1 + P ≤ k + l.length) : Bd (again l P z k q k1).1 := by
  unfold again
  refine bd_app h fun p i hp => ?_
  rw [List.getElem?_map, Option.map_eq_some_iff] at hp
  obtain ⟨j, hj, rfl⟩ := hp
  rw [List.getElem?_take] at hj
  split at hj
  · rw [List.getElem?_drop] at hj
    have := bi_by (b := l.length - P) (q := k1 - k) (h _ _ hj) (by omega)
    rwa [show P + p + (l.length - P) = l.length + p by omega] at this
  · cases hj
theorem bd_againT {l : List Inn} (P z k q k1 : Nat) (h : Bd l) (hP : P ≤ l.length) (hk : k1 + P ≤ k + l.length) : Bd (againT l P z k q k1).1 := by
  unfold againT
  split
  · exact h
  · exact bd_again P z k q k1 h hP hk
theorem bd_againsT (P z k q : Nat) (h2 : q ≤ z) : ∀ (n : Nat) (l : List Inn) (k1 : Nat), Bd l → P + z ≤ l.length → k1 + P ≤ k + l.length → Bd (againsT P z k q n l k1).1
  | 0, l, k1, h, _, _ => h
  | n + 1, l, k1, h, h1, hk => by
    obtain ⟨⟨a1, a2, a3⟩, _⟩ := againT_grw l P z k q k1 h1 h2
    exact bd_againsT P z k q h2 n _ _ (bd_againT P z k q k1 h (by omega) hk) (by omega) (by omega)
theorem bd_agroundsT (P z k q E : Nat) (h2 : q ≤ z) (hE : E ≤ 3000000) (hk0 : k ≤ 3000000) : ∀ (n : Nat) (l : List Inn) (k1 : Nat), Bd l → P + z ≤ l.length → k1 + P ≤ k + l.length → Bd (agroundsT P z k q E n l k1).1
  | 0, l, k1, h, _, _ => h
  | n + 1, l, k1, h, h1, hk => by
    rw [agroundsT]
    have hl : (l ++ [ins 1 (l.length + 1 : Nat) E, ins 7 k1 0]).length = l.length + 2 := by simp
    obtain ⟨⟨a1, a2, a3⟩, _⟩ := againT_grw (l ++ [ins 1 (l.length + 1 : Nat) E, ins 7 k1 0]) P z k q (k1 + 1) (by omega) h2
    have hb : Bd (l ++ [ins 1 (l.length + 1 : Nat) E, ins 7 k1 0]) := by
      have := bd_one (bd_one h (i := ins 1 (l.length + 1 : Nat) E) ⟨by simp only [ins]; omega, by simp only [ins]; omega, by simp only [ins]; omega, by simp only [ins]; omega, by simp only [ins]; omega, by simp only [ins]; omega⟩) (i := ins 7 k1 0)
        ⟨by simp only [ins]; omega, by simp only [ins]; omega, by simp only [ins]; omega, by simp only [ins, List.length_append, List.length_cons, List.length_nil]; omega, by simp only [ins]; omega, by simp only [ins]; omega⟩
      simpa using this
    have hr := bd_againT P z k q (k1 + 1) hb (by omega) (by omega)
    generalize againT (l ++ [ins 1 (l.length + 1 : Nat) E, ins 7 k1 0]) P z k q (k1 + 1) = r at *
    have hrl : (r.1 ++ [ins 8 k1 0]).length = r.1.length + 1 := by simp
    exact bd_agroundsT P z k q E h2 hE hk0 n _ _ (bd_one hr ⟨by simp only [ins]; omega, by simp only [ins]; omega, by simp only [ins]; omega, by simp only [ins]; omega, by simp only [ins]; omega, by simp only [ins]; omega⟩) (by omega) (by omega)
theorem bd_rept (mn mx : Int) (P z k q : Nat) (l : List Inn) (k1 : Nat) (ho : okRep mn mx = true) (h1 : P + z ≤ l.length) (h2 : q ≤ z) (hl : l.length ≤ 3000) (hk0 : k ≤ 3000) (hk : k1 + P ≤ k + l.length) (h : Bd l) : Bd (repT mn mx P z k q l k1).1 := by
  obtain ⟨o1, o2, o3⟩ := okrep_parts ho
  have hR : (if mx = -1 then 1 else (mx - mn).toNat) ≤ 255 := by split <;> omega
  have hJ : (if mx = -1 then 1 else 0) ≤ 1 := by split <;> omega
  unfold repT
  generalize (if mx = -1 then 1 else (mx - mn).toNat) = R at *
  generalize (if mx = -1 then 1 else 0) = J at *
  have hm : R * (z + 3) ≤ 255 * 3003 := Nat.mul_le_mul hR (by omega)
  have hm2 : mn.toNat * z ≤ 255 * 3000 := Nat.mul_le_mul (by omega) (by omega)
  by_cases h0 : mn = 0
  · rw [if_pos h0]
    simp only
    generalize hE : P - 2 + R * (z + 3) + J = E
    have hu : Bd (upd l (P - 2) (fun i => { i with y := (E : Int) }) ++ [ins 8 (k - 1 : Nat) 0]) :=
      bd_one (bd_upd h _ _ fun i ⟨b1, b2, b3, b4, b5, b6⟩ => ⟨b1, b2, b3, b4, by simp only; omega, by simp only; omega⟩) ⟨by simp only [ins]; omega, by simp only [ins]; omega, by simp only [ins]; omega, by simp only [ins]; omega, by simp only [ins]; omega, by simp only [ins]; omega⟩
    have hul : (upd l (P - 2) (fun i => { i with y := (E : Int) }) ++ [ins 8 (k - 1 : Nat) 0]).length = l.length + 1 := by simp [upd_len]
    exact bd_rep (bd_agroundsT P z k q E h2 (by omega) (by omega) (R - 1) _ k1 hu (by omega) (by omega)) J fun p => ⟨by simp only [ins]; omega, by simp only [ins]; omega, by simp only [ins]; omega, by simp only [ins]; omega, by simp only [ins]; omega, by simp only [ins]; omega⟩
  · rw [if_neg h0]
    simp only
    obtain ⟨⟨a1, a2, a3⟩, _⟩ := againsT_grw P z k q h2 (mn.toNat - 1) l k1 h1
    have hb := bd_againsT P z k q h2 (mn.toNat - 1) l k1 h h1 hk
    exact bd_rep (bd_agroundsT P z k q _ h2 (by omega) (by omega) R _ _ hb (by omega) (by omega)) J fun p => ⟨by simp only [ins]; omega, by simp only [ins]; omega, by simp only [ins]; omega, by simp only [ins]; omega, by simp only [ins]; omega, by simp only [ins]; omega⟩
theorem bd_brst (ds : List Nd) (js : List Nat) (l : List Inn) (h : Bd l) : Bd (brSt ds js l).1 := by
  cases ds with
  | nil => exact h
  | cons d ds =>
    rw [brSt]
    split
    · exact h
    · exact bd_one h ⟨by simp only [ins]; omega, by simp only [ins]; omega, by simp only [ins]; omega, by simp only [ins]; omega, by simp only [ins]; omega, by simp only [ins]; omega⟩
theorem stp_bd (t : CTk) (l : List Inn) (k : Nat) (hf : Fit l.length k t) (hl : l.length ≤ 3000) (hk : k ≤ l.length) (h : Bd l) : Bd (stp t l k).1.1 := by
  cases t with
  | save m => obtain ⟨f1, f2⟩ := hf; exact bd_one h ⟨by simp only [ins]; omega, by simp only [ins]; omega, by simp only [ins]; omega, by simp only [ins]; omega, by simp only [ins]; omega, by simp only [ins]; omega⟩
  | turn ds => exact h
  | branch s ds js =>
    refine bd_brst ds _ _ (bd_upd (bd_one h ⟨by simp only [ins]; omega, by simp only [ins]; omega, by simp only [ins]; omega, by simp only [ins]; omega, by simp only [ins]; omega, by simp only [ins]; omega⟩) s _ fun i ⟨b1, b2, b3, b4, b5, b6⟩ => ⟨b1, b2, b3, b4, by simp only; omega, by simp only; omega⟩)
  | jumps js => exact bd_patch _ (by omega) js h
  | rep mn mx P q =>
    obtain ⟨h1, h2, h3, h4, h5, h6⟩ := hf
    exact bd_rept mn mx P (l.length - P) q (k - q) l k h1 (by omega) (by omega) hl (by omega) (by omega) h
  | lay d =>
    cases d with
    | empty => exact h
    | one s => exact bd_one h ⟨by simp only; omega, by simp only; omega, by simp only; omega, by simp only; omega, by simp only; omega, by simp only; omega⟩
    | back n =>
      have hf : cok (.back n) = true := hf
      simp only [cok, Bool.and_eq_true, decide_eq_true_eq] at hf
      exact bd_one h ⟨by simp only [ins]; omega, by simp only [ins]; omega, by simp only [ins]; omega, by simp only [ins]; omega, by simp only [ins]; omega, by simp only [ins]; omega⟩
    | start => exact bd_one h ⟨by simp only [ins]; omega, by simp only [ins]; omega, by simp only [ins]; omega, by simp only [ins]; omega, by simp only [ins]; omega, by simp only [ins]; omega⟩
    | fin => exact bd_one h ⟨by simp only [ins]; omega, by simp only [ins]; omega, by simp only [ins]; omega, by simp only [ins]; omega, by simp only [ins]; omega, by simp only [ins]; omega⟩
    | cat ds => exact h
    | alt ds => exact bd_brst ds [] l h
    | group n d =>
      have hf : cok (.group n d) = true := hf
      simp only [cok, Bool.and_eq_true, decide_eq_true_eq] at hf
      exact bd_one h ⟨by simp only [ins]; omega, by simp only [ins]; omega, by simp only [ins]; omega, by simp only [ins]; omega, by simp only [ins]; omega, by simp only [ins]; omega⟩
    | rep d mn mx =>
      rw [stp]
      split
      · exact h
      · split
        · have ha : Bd (l ++ [ins 1 (l.length + 1 : Nat) 0]) := bd_one h ⟨by simp only [ins]; omega, by simp only [ins]; omega, by simp only [ins]; omega, by simp only [ins]; omega, by simp only [ins]; omega, by simp only [ins]; omega⟩
          have hb := bd_one ha (i := ins 7 k 0) ⟨by simp only [ins]; omega, by simp only [ins]; omega, by simp only [ins]; omega, by simp only [ins, List.length_append, List.length_cons, List.length_nil]; omega, by simp only [ins]; omega, by simp only [ins]; omega⟩
          simpa using hb
        · exact h
end Go.Proofs.Ytihfenkphhnbcaa
