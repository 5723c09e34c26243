/- The proof's texts CbE: what the claim reaches of them. -/
import Derived.Test.YtihfenkphhnbcaaCp12
import Derived.Deep.LoopGhost
import Derived.Deep.DeepCutAuto
import Derived.Deep.CutBlock
import Derived.Outline
namespace Go.Proofs.Ytihfenkphhnbcaa
open Go Go.RowKit
def tailT (m P z q n E R J F : Nat) (L : List Inn) (K : Nat) : List Inn × Nat :=
  let r := againsT P z q n m L K
  let s := agroundsT P z q n E R r.1 r.2
  (s.1 ++ List.replicate J (ins 2 F 0), s.2)
structure RSt (B p S : Nat) (w W1 : World) (iv tv : Value) (ts : List Value) (g : Int) (bk : Bool) (P z q n X : Nat) (wr : World) (L : List Inn) (K : Nat) (iv' : Value) : Prop where
  bld : Bld B p wr L g K bk iv' tv ts
  cs : CStep p w iv tv wr iv' tv
  off : OffC p iv' tv S
  sz : S < wr.heap.size
  cells : ∀ o, wr.cell? ⟨S, o, none⟩ = W1.cell? ⟨S, o, none⟩
  ok : AgOk P z q n X L K
theorem RSt.next {B p S : Nat} {w W1 : World} {iv tv : Value} {ts : List Value} {g : Int} {bk : Bool} {P z q n X X2 : Nat} {wr w2 : World} {L L2 : List Inn} {K K2 : Nat} {iv' iv2 : Value} (h : RSt B p S w W1 iv tv ts g bk P z q n X wr L K iv')
    (hB : Bld B p w2 L2 g K2 bk iv2 tv ts) (hS : CStep p wr iv' tv w2 iv2 tv) (ho : AgOk P z q n X2 L2 K2) : RSt B p S w W1 iv tv ts g bk P z q n X2 w2 L2 K2 iv2 :=
  ⟨hB, h.cs.trans hS, (hS.keep _ h.off h.sz).1, Nat.lt_of_lt_of_le h.sz hS.size, fun o => ((hS.keep _ h.off h.sz).2 o).trans (h.cells o), ho⟩
theorem rept_some {m x M Q F R z3 Y E : Nat} (P z q n : Nat) (l : List Inn) (k : Nat) (h1 : 1 ≤ m) (hM : m - 1 = M) (hQ : m * z = Q) (hF : P + Q = F) (hR : x - m = R) (hz : z + 3 = z3) (hY : R * z3 = Y) (hE : F + Y = E) :
    repT (m : Int) (x : Int) P z q n l k = tailT M P z q n E R 0 F l k := by
  subst hM hQ hF hR hz hY hE
  unfold repT tailT
  rw [if_neg (by omega), if_neg (by omega), if_neg (by omega), Int.toNat_natCast, show ((x : Int) - (m : Int)).toNat = x - m by omega]
  rfl
theorem AgOk.updY {P z q n M K F E : Nat} {L : List Inn} (h : AgOk P z q n M L K) (hE : E ≤ 3000000) : AgOk P z q n M (upd L F fun i => { i with y := (E : Int) }) K := by
  obtain ⟨h1, h2, h3, h4, h5, h6⟩ := h
  have hl := upd_len L F fun i => { i with y := (E : Int) }
  exact ⟨by omega, by omega, by omega, by omega, by omega, bd_upd h6 _ _ fun i ⟨b1, b2, b3, b4, b5, b6⟩ => ⟨b1, b2, b3, b4, by simp only; omega, by simp only; omega⟩⟩
theorem rept_more {m M Q F z3 E0 E : Nat} (P z q n : Nat) (l : List Inn) (k : Nat) (h1 : 1 ≤ m) (hM : m - 1 = M) (hQ : m * z = Q) (hF : P + Q = F) (hz : z + 3 = z3) (hE0 : F + z3 = E0) (hE : E0 + 1 = E) :
    repT (m : Int) (-1) P z q n l k = tailT M P z q n E 1 1 F l k := by
  subst hM hQ hF hz hE0 hE
  unfold repT tailT
  rw [if_pos rfl, if_pos rfl, if_neg (by omega), Int.toNat_natCast, Nat.one_mul]
theorem rept_none {x F R z3 Y E : Nat} (P z q n : Nat) (l : List Inn) (k : Nat) (hF : P - 2 = F) (hR : x - 1 = R) (hz : z + 3 = z3) (hY : x * z3 = Y) (hE : F + Y = E) :
    repT 0 (x : Int) P z q n l k = tailT 0 P z q n E R 0 F (upd l F (fun i => { i with y := (E : Int) }) ++ [ins 8 (q - 1 : Nat) 0]) k := by
  subst hF hR hz hY hE
  unfold repT tailT
  have hx1 : ¬ ((x : Int) = -1) := by omega
  simp only [if_neg hx1, if_true]
  rw [show ((x : Int) - 0).toNat = x by omega]
  rfl
theorem rept_any {F z3 E0 E : Nat} (P z q n : Nat) (l : List Inn) (k : Nat) (hF : P - 2 = F) (hz : z + 3 = z3) (hE0 : F + z3 = E0) (hE : E0 + 1 = E) :
    repT 0 (-1) P z q n l k = tailT 0 P z q n E 0 1 F (upd l F (fun i => { i with y := (E : Int) }) ++ [ins 8 (q - 1 : Nat) 0]) k := by
  subst hF hz hE0 hE
  unfold repT tailT
  rw [if_pos rfl, if_pos rfl, if_pos rfl, Nat.one_mul]
  rfl
set_option linter.unusedSimpArgs false in
set_option maxRecDepth 100000 in
set_option maxHeartbeats 8000000 in
theorem endrep_some {B p : Nat} {l : List Inn} {g : Int} {k : Nat} {bk : Bool} {iv tv : Value} {ts : List Value} (ty : TypeId) (pv : Value) (m x : Nat) (P z q n : Nat) (w : World) (h : Bld B p w l g k bk iv tv ts) (hA : AgOk P z q n 3000 l k) (hn : n ≤ z) (hq : q ≤ 3000) (hm : m ≤ x) (hx : x ≤ 255) (h1 : 1 ≤ m) :
    Calls Try.prog 59 #[.pointer (some ⟨p, 0, none⟩), .agg #[.iface ty pv, .int .i64 (m : Int), .int .i64 (x : Int)], StV P z q n] w fun e w' => e = .returned (.tuple #[]) ∧ ∃ iv', Bld B p w' (repT (m : Int) (x : Int) P z q n l k).1 g (repT (m : Int) (x : Int) P z q n l k).2 bk iv' tv ts ∧ CStep p w iv tv w' iv' tv := by
  have hAa := ((Below.refl w.heap.size w).alloc (Nat.le_refl _) (.cells #[.iface ty pv, .int .i64 (m : Int), .int .i64 (x : Int)] 57)).alloc (by simp) (.cells #[.int .i64 (P : Int), .int .i64 (z : Int), .int .i64 (q : Int), .int .i64 (n : Int)] 123)
  have hB := h.below hAa
  have hS := CStep.of_below (p := p) (iv := iv) (tv := tv) hAa
  have hB0 := (Blk.new w #[.iface ty pv, .int .i64 (m : Int), .int .i64 (x : Int)] 57 w.heap.size rfl).below ((Below.refl (w.heap.size + 1) _).alloc (by simp) (.cells #[.int .i64 (P : Int), .int .i64 (z : Int), .int .i64 (q : Int), .int .i64 (n : Int)] 123)) (by omega)
  have hB1 := Blk.new (w.alloc (.cells #[.iface ty pv, .int .i64 (m : Int), .int .i64 (x : Int)] 57)) #[.int .i64 (P : Int), .int .i64 (z : Int), .int .i64 (q : Int), .int .i64 (n : Int)] 123 (w.heap.size + 1) (by simp)
  have r1 := hB0.cell 1
  have r2 := hB0.cell 2
  have e0 := hB1.cell 0
  have e1 := hB1.cell 1
  have e2 := hB1.cell 2
  have e3 := hB1.cell 3
  simp only [List.getElem?_toArray, List.getElem?_cons_zero, List.getElem?_cons_succ] at r1 r2 e0 e1 e2 e3
  have hsz1 : w.heap.size + 1 < ((w.alloc (.cells #[.iface ty pv, .int .i64 (m : Int), .int .i64 (x : Int)] 57)).alloc (.cells #[.int .i64 (P : Int), .int .i64 (z : Int), .int .i64 (q : Int), .int .i64 (n : Int)] 123)).heap.size := by simp
  have hoff0 : OffC p iv tv (w.heap.size + 1) := ⟨fun e => by have := h.blk.lt; omega, fun e => by have := co_own_lt h.io _ e; omega, fun e => by have := co_own_lt h.«to» _ e; omega⟩
  have hoff1 : OffC p iv tv w.heap.size := ⟨fun e => by have := h.blk.lt; omega, fun e => by have := co_own_lt h.io _ e; omega, fun e => by have := co_own_lt h.«to» _ e; omega⟩
  have W0 : IntKind.i64.wrap ((x : Int) - (m : Int)) = ((x - m : Nat) : Int) := by rw [IntWalk.i64_in _ (by omega)]; omega
  have hzb : z ≤ 3000 := by have := hA.part; have := hA.len; omega
  have hPb : P ≤ 3000 := by have := hA.part; have := hA.len; omega
  have Hq1 : m * z ≤ 255 * 3000 := Nat.mul_le_mul (by omega) hzb
  have Hq2 : (x - m) * (z + 3) ≤ 255 * 3003 := Nat.mul_le_mul (by omega) (by omega)
  obtain ⟨Q, hQ⟩ : ∃ Q, m * z = Q := ⟨_, rfl⟩
  obtain ⟨F, hF⟩ : ∃ F, P + Q = F := ⟨_, rfl⟩
  obtain ⟨R, hR⟩ : ∃ R, x - m = R := ⟨_, rfl⟩
  obtain ⟨z3, hz3⟩ : ∃ z3, z + 3 = z3 := ⟨_, rfl⟩
  obtain ⟨Y, hY⟩ : ∃ Y, R * z3 = Y := ⟨_, rfl⟩
  obtain ⟨E, hE⟩ : ∃ E, F + Y = E := ⟨_, rfl⟩
  obtain ⟨M, hM⟩ : ∃ M, m - 1 = M := ⟨_, rfl⟩
  rw [hR] at W0 Hq2
  rw [hQ] at Hq1
  rw [hz3, hY] at Hq2
  have W1' : IntKind.i64.wrap ((m : Int) * (z : Int)) = (Q : Int) := by rw [← Int.natCast_mul, hQ, IntWalk.i64_in _ (by omega)]
  have W2 : IntKind.i64.wrap ((P : Int) + (Q : Int)) = (F : Int) := by rw [IntWalk.i64_in _ (by omega)]; omega
  have W3 : IntKind.i64.wrap ((z : Int) + 3) = (z3 : Int) := by rw [IntWalk.i64_in _ (by omega)]; omega
  have W4 : IntKind.i64.wrap ((R : Int) * (z3 : Int)) = (Y : Int) := by rw [← Int.natCast_mul, hY, IntWalk.i64_in _ (by omega)]
  have W5 : IntKind.i64.wrap ((F : Int) + (Y : Int)) = (E : Int) := by rw [IntWalk.i64_in _ (by omega)]; omega
  have W6 : IntKind.i64.wrap ((E : Int)) = (E : Int) := by rw [IntWalk.i64_in _ (by omega)]
  have W7 : IntKind.i64.wrap ((m : Int) - 1) = (M : Int) := by rw [IntWalk.i64_in _ (by omega)]; omega
  have b1 : ((x : Int) == -1) = false := beq_eq_false_iff_ne.2 (by omega)
  have b2 : ((m : Int) == 0) = false := beq_eq_false_iff_ne.2 (by omega)
  have HB := Lib.hid hB
  have HS := Lib.hid hS
  have HA := Lib.hid hA
  clear hB hS hA hAa hB0 hB1 h
  generalize hW1 : (w.alloc (.cells #[.iface ty pv, .int .i64 (m : Int), .int .i64 (x : Int)] 57)).alloc (.cells #[.int .i64 (P : Int), .int .i64 (z : Int), .int .i64 (q : Int), .int .i64 (n : Int)] 123) = W1 at *
  go_enter Try.func59, Try.ntmps59
  have HRE := Lib.hid (rept_some P z q n l k h1 hM hQ hF hR hz3 hY hE)
  have hM255 : M ≤ 255 := by omega
  have hR255 : R ≤ 255 := by omega
  have hEb : E ≤ 3000000 := by omega
  clear hM hQ hF hR hz3 hY hE
  have hst0 : RSt B p (w.heap.size + 1) w W1 iv tv ts g bk P z q n 6100 W1 l k iv := ⟨HB.out, HS.out, hoff0, hsz1, fun _ => rfl, HA.out.mono (by omega)⟩
  have Hst0 := Lib.hid hst0
  clear hst0
  go_wp2_with fail
  clear W0 W1' W2 W3 W4 W5 W6 W7 b1 b2 r1 r2 hoff0 hsz1
  go_loopw [65] (fun j wr => ∃ (i : Nat) (L : List Inn) (K : Nat) (iv' : Value), i ≤ M ∧ j = .int .i64 i ∧ RSt B p (w.heap.size + 1) w W1 iv tv ts g bk P z q n 6100 wr L K iv' ∧ againsT P z q n (M - i) L K = againsT P z q n M l k) (fun j _ => M - (intOf j).toNat)
  case atStart => exact ⟨0, l, k, iv, by omega, rfl, Hst0.out, rfl⟩
  case round =>
    obtain ⟨i, L, K, iv', hi, rfl, hst, hag⟩ := hrel
    by_cases hlt : i < M
    · have hlti : (i : Int) < (M : Int) := by omega
      have Wi : IntKind.i64.wrap ((i : Int) + 1) = (i : Int) + 1 := IntWalk.i64_in _ (by omega)
      have f0 := (hst.cells 0).trans e0
      have f1 := (hst.cells 1).trans e1
      have f2 := (hst.cells 2).trans e2
      have f3 := (hst.cells 3).trans e3
      have hl1 := hst.ok.len
      have hk1 : K ≤ 100000 := by have := hst.ok.by'; omega
      have hA1 := again_any P z q n wr hst.bld hst.ok.pos hst.ok.part hst.ok.lo (by omega) hk1 (by omega) (hst.ok.inn (by omega))
      have Hst := Lib.hid hst
      have Hag := Lib.hid hag
      clear hst hag
      go_wp2_with (go_at_call 60; refine hA1.mono ?_; rintro e w2 ⟨rfl, iv2, hB2, hS2⟩)
      go_roundw
      case rel =>
        refine ⟨i + 1, _, _, iv2, by omega, rfl, Hst.out.next hB2 hS2 (Hst.out.ok.again hn (by omega)), ?_⟩
        rw [← Hag.out, show M - i = (M - (i + 1)) + 1 by omega]
        rfl
      case measure => simp [intOf]; omega
    · have hlti : ¬ (i : Int) < (M : Int) := by omega
      obtain rfl : M = i := by omega
      rw [Nat.sub_self] at hag
      have Hst := Lib.hid hst
      have Hag := Lib.hid (show againsT P z q n M l k = (L, K) from hag.symm)
      clear hst hag hlt hi
      go_wp2_with fail
      clear hlti
      go_loopw [72] (fun j wr => ∃ (i : Nat) (L' : List Inn) (K' : Nat) (iv' : Value), i ≤ R ∧ j = .int .i64 i ∧ RSt B p (w.heap.size + 1) w W1 iv tv ts g bk P z q n (6100 + 3 * i) wr L' K' iv' ∧ agroundsT P z q n E (R - i) L' K' = agroundsT P z q n E R L K) (fun j _ => R - (intOf j).toNat)
      case atStart => exact ⟨0, L, K, iv', by omega, rfl, Hst.out, rfl⟩
      case round =>
        clear Hst
        obtain ⟨i, L', K', iv3, hi, rfl, hst, hag⟩ := hrel
        by_cases hlt : i < R
        · have hlti : (i : Int) < (R : Int) := by omega
          have Wi : IntKind.i64.wrap ((i : Int) + 1) = (i : Int) + 1 := IntWalk.i64_in _ (by omega)
          have f0 := (hst.cells 0).trans e0
          have f1 := (hst.cells 1).trans e1
          have f2 := (hst.cells 2).trans e2
          have f3 := (hst.cells 3).trans e3
          have hl1 := hst.ok.len
          have hk1 : K' ≤ 99000 := by have := hst.ok.by'; omega
          have hE1 := enter_any E wr hst.bld (by omega) (by omega)
          have Hst3 := Lib.hid hst
          have Hag2 := Lib.hid hag
          clear hst hag
          go_wp2_with (first
              | (go_at_call 57; refine hE1.mono ?_; clear hE1; rintro e w2 ⟨rfl, iv2, hB2, hS2⟩; have hst2 := Hst3.out.next hB2 hS2 (Hst3.out.ok.enter (by omega) (by omega)); clear hB2 hS2 f0 f1 f2 f3; have f0 := (hst2.cells 0).trans e0; have f1 := (hst2.cells 1).trans e1; have f2 := (hst2.cells 2).trans e2; have f3 := (hst2.cells 3).trans e3; have hA2 := again_any P z q n w2 hst2.bld hst2.ok.pos hst2.ok.part hst2.ok.lo (by have := hst2.ok.len; omega) (by omega) (by omega) (hst2.ok.inn (by omega)); have Hst2 := Lib.hid hst2; clear hst2)
              | (go_at_call 60; refine hA2.mono ?_; clear hA2; rintro e w4 ⟨rfl, iv4, hB4, hS4⟩; have hst4 := Hst2.out.next hB4 hS4 (Hst2.out.ok.again hn (by omega)); have hL4 := lay_ins 8 K' 0 w4 hst4.bld (by have := hst4.ok.len; omega); have Hst4 := Lib.hid hst4; clear hB4 hS4 hst4)
              | (go_at_call 22; refine hL4.mono ?_; clear hL4; rintro e w5 ⟨rfl, iv5, hB5, hS5, _⟩))
          go_roundw
          case rel =>
            refine ⟨i + 1, _, _, iv5, by omega, rfl, (Hst4.out.next hB5 hS5 ((Hst4.out.ok.one ?_).mono (by omega))), ?_⟩
            · exact ⟨by simp only [ins]; omega, by simp only [ins]; omega, by simp only [ins]; omega, by simp only [ins]; omega, by simp only [ins]; omega, by simp only [ins]; omega⟩
            · rw [← Hag2.out, show R - i = (R - (i + 1)) + 1 by omega]
              rfl
          case measure => simp [intOf]; omega
        · have hlti : ¬ (i : Int) < (R : Int) := by omega
          obtain rfl : R = i := by omega
          rw [Nat.sub_self] at hag
          have Hst3 := Lib.hid hst
          have Hag2 := Lib.hid (show agroundsT P z q n E R L K = (L', K') from hag.symm)
          clear hst hag hlt hi
          go_wp2_with fail
          clear hlti
          go_loopw [86] (fun j wr' => j = .int .i64 0 ∧ wr = wr') (fun j _ => 0)
          case atStart => exact ⟨rfl, rfl⟩
          case round =>
            obtain ⟨rfl, rfl⟩ := hrel
            go_wp2_with fail
            go_end0
            refine ⟨rfl, iv3, ?_⟩
            rw [HRE.out]
            unfold tailT
            rw [Hag.out]
            simp only [Hag2.out, List.replicate_zero, List.append_nil]
            exact ⟨Hst3.out.bld, Hst3.out.cs⟩
set_option linter.unusedSimpArgs false in
set_option maxRecDepth 100000 in
set_option maxHeartbeats 8000000 in
theorem endrep_more {B p : Nat} {l : List Inn} {g : Int} {k : Nat} {bk : Bool} {iv tv : Value} {ts : List Value} (ty : TypeId) (pv : Value) (m : Nat) (P z q n : Nat) (w : World) (h : Bld B p w l g k bk iv tv ts) (hA : AgOk P z q n 3000 l k) (hn : n ≤ z) (hq : q ≤ 3000) (hx : m ≤ 255) (h1 : 1 ≤ m) :
    Calls Try.prog 59 #[.pointer (some ⟨p, 0, none⟩), .agg #[.iface ty pv, .int .i64 (m : Int), .int .i64 (-1)], StV P z q n] w fun e w' => e = .returned (.tuple #[]) ∧ ∃ iv', Bld B p w' (repT (m : Int) (-1) P z q n l k).1 g (repT (m : Int) (-1) P z q n l k).2 bk iv' tv ts ∧ CStep p w iv tv w' iv' tv := by
  have hAa := ((Below.refl w.heap.size w).alloc (Nat.le_refl _) (.cells #[.iface ty pv, .int .i64 (m : Int), .int .i64 (-1)] 57)).alloc (by simp) (.cells #[.int .i64 (P : Int), .int .i64 (z : Int), .int .i64 (q : Int), .int .i64 (n : Int)] 123)
  have hB := h.below hAa
  have hS := CStep.of_below (p := p) (iv := iv) (tv := tv) hAa
  have hB0 := (Blk.new w #[.iface ty pv, .int .i64 (m : Int), .int .i64 (-1)] 57 w.heap.size rfl).below ((Below.refl (w.heap.size + 1) _).alloc (by simp) (.cells #[.int .i64 (P : Int), .int .i64 (z : Int), .int .i64 (q : Int), .int .i64 (n : Int)] 123)) (by omega)
  have hB1 := Blk.new (w.alloc (.cells #[.iface ty pv, .int .i64 (m : Int), .int .i64 (-1)] 57)) #[.int .i64 (P : Int), .int .i64 (z : Int), .int .i64 (q : Int), .int .i64 (n : Int)] 123 (w.heap.size + 1) (by simp)
  have r1 := hB0.cell 1
  have r2 := hB0.cell 2
  have e0 := hB1.cell 0
  have e1 := hB1.cell 1
  have e2 := hB1.cell 2
  have e3 := hB1.cell 3
  simp only [List.getElem?_toArray, List.getElem?_cons_zero, List.getElem?_cons_succ] at r1 r2 e0 e1 e2 e3
  have hsz1 : w.heap.size + 1 < ((w.alloc (.cells #[.iface ty pv, .int .i64 (m : Int), .int .i64 (-1)] 57)).alloc (.cells #[.int .i64 (P : Int), .int .i64 (z : Int), .int .i64 (q : Int), .int .i64 (n : Int)] 123)).heap.size := by simp
  have hoff0 : OffC p iv tv (w.heap.size + 1) := ⟨fun e => by have := h.blk.lt; omega, fun e => by have := co_own_lt h.io _ e; omega, fun e => by have := co_own_lt h.«to» _ e; omega⟩
  have hoff1 : OffC p iv tv w.heap.size := ⟨fun e => by have := h.blk.lt; omega, fun e => by have := co_own_lt h.io _ e; omega, fun e => by have := co_own_lt h.«to» _ e; omega⟩
  have hzb : z ≤ 3000 := by have := hA.part; have := hA.len; omega
  have hPb : P ≤ 3000 := by have := hA.part; have := hA.len; omega
  obtain ⟨z3, hz3⟩ : ∃ z3, z + 3 = z3 := ⟨_, rfl⟩
  have W3 : IntKind.i64.wrap ((z : Int) + 3) = (z3 : Int) := by rw [IntWalk.i64_in _ (by omega)]; omega
  have Hq1 : m * z ≤ 255 * 3000 := Nat.mul_le_mul (by omega) hzb
  obtain ⟨Q, hQ⟩ : ∃ Q, m * z = Q := ⟨_, rfl⟩
  obtain ⟨F, hF⟩ : ∃ F, P + Q = F := ⟨_, rfl⟩
  obtain ⟨E0, hE0⟩ : ∃ E0, F + z3 = E0 := ⟨_, rfl⟩
  obtain ⟨E, hE⟩ : ∃ E, E0 + 1 = E := ⟨_, rfl⟩
  obtain ⟨M, hM⟩ : ∃ M, m - 1 = M := ⟨_, rfl⟩
  rw [hQ] at Hq1
  have W1' : IntKind.i64.wrap ((m : Int) * (z : Int)) = (Q : Int) := by rw [← Int.natCast_mul, hQ, IntWalk.i64_in _ (by omega)]
  have W2 : IntKind.i64.wrap ((P : Int) + (Q : Int)) = (F : Int) := by rw [IntWalk.i64_in _ (by omega)]; omega
  have W4 : IntKind.i64.wrap ((z3 : Int)) = (z3 : Int) := by rw [IntWalk.i64_in _ (by omega)]
  have W5 : IntKind.i64.wrap ((F : Int) + (z3 : Int)) = (E0 : Int) := by rw [IntWalk.i64_in _ (by omega)]; omega
  have W6 : IntKind.i64.wrap ((E0 : Int) + 1) = (E : Int) := by rw [IntWalk.i64_in _ (by omega)]; omega
  have W7 : IntKind.i64.wrap ((m : Int) - 1) = (M : Int) := by rw [IntWalk.i64_in _ (by omega)]; omega
  have b2 : ((m : Int) == 0) = false := beq_eq_false_iff_ne.2 (by omega)
  have HB := Lib.hid hB
  have HS := Lib.hid hS
  have HA := Lib.hid hA
  clear hB hS hA hAa hB0 hB1 h
  generalize hW1 : (w.alloc (.cells #[.iface ty pv, .int .i64 (m : Int), .int .i64 (-1)] 57)).alloc (.cells #[.int .i64 (P : Int), .int .i64 (z : Int), .int .i64 (q : Int), .int .i64 (n : Int)] 123) = W1 at *
  go_enter Try.func59, Try.ntmps59
  have HRE := Lib.hid (rept_more P z q n l k h1 hM hQ hF hz3 hE0 hE)
  have hM255 : M ≤ 255 := by omega
  have hEb : E ≤ 3000000 := by omega
  clear hM hQ hF hz3 hE0 hE
  have hst0 : RSt B p (w.heap.size + 1) w W1 iv tv ts g bk P z q n 6100 W1 l k iv := ⟨HB.out, HS.out, hoff0, hsz1, fun _ => rfl, HA.out.mono (by omega)⟩
  have Hst0 := Lib.hid hst0
  clear hst0
  go_wp2_with fail
  clear W3 W1' W2 W4 W5 W6 W7 b2 r1 r2 hoff0 hsz1
  go_loopw [65] (fun j wr => ∃ (i : Nat) (L : List Inn) (K : Nat) (iv' : Value), i ≤ M ∧ j = .int .i64 i ∧ RSt B p (w.heap.size + 1) w W1 iv tv ts g bk P z q n 6100 wr L K iv' ∧ againsT P z q n (M - i) L K = againsT P z q n M l k) (fun j _ => M - (intOf j).toNat)
  case atStart => exact ⟨0, l, k, iv, by omega, rfl, Hst0.out, rfl⟩
  case round =>
    obtain ⟨i, L, K, iv', hi, rfl, hst, hag⟩ := hrel
    by_cases hlt : i < M
    · have hlti : (i : Int) < (M : Int) := by omega
      have Wi : IntKind.i64.wrap ((i : Int) + 1) = (i : Int) + 1 := IntWalk.i64_in _ (by omega)
      have f0 := (hst.cells 0).trans e0
      have f1 := (hst.cells 1).trans e1
      have f2 := (hst.cells 2).trans e2
      have f3 := (hst.cells 3).trans e3
      have hl1 := hst.ok.len
      have hk1 : K ≤ 100000 := by have := hst.ok.by'; omega
      have hA1 := again_any P z q n wr hst.bld hst.ok.pos hst.ok.part hst.ok.lo (by omega) hk1 (by omega) (hst.ok.inn (by omega))
      have Hst := Lib.hid hst
      have Hag := Lib.hid hag
      clear hst hag
      go_wp2_with (go_at_call 60; refine hA1.mono ?_; rintro e w2 ⟨rfl, iv2, hB2, hS2⟩)
      go_roundw
      case rel =>
        refine ⟨i + 1, _, _, iv2, by omega, rfl, Hst.out.next hB2 hS2 (Hst.out.ok.again hn (by omega)), ?_⟩
        rw [← Hag.out, show M - i = (M - (i + 1)) + 1 by omega]
        rfl
      case measure => simp [intOf]; omega
    · have hlti : ¬ (i : Int) < (M : Int) := by omega
      obtain rfl : M = i := by omega
      rw [Nat.sub_self] at hag
      have Hst := Lib.hid hst
      have Hag := Lib.hid (show againsT P z q n M l k = (L, K) from hag.symm)
      clear hst hag hlt hi
      go_wp2_with fail
      clear hlti
      obtain ⟨L5, K5, h5⟩ : ∃ L5 K5, agroundsT P z q n E 1 L K = (L5, K5) := ⟨_, _, rfl⟩
      have Hag2 := Lib.hid h5
      clear h5
      go_loopw [72] (fun j wr' => (j = .int .i64 0 ∧ wr = wr') ∨ (j = .int .i64 1 ∧ ∃ iv5, RSt B p (w.heap.size + 1) w W1 iv tv ts g bk P z q n 6103 wr' L5 K5 iv5)) (fun j _ => 1 - (intOf j).toNat)
      case atStart => exact .inl ⟨rfl, rfl⟩
      case round =>
        rcases hrel with ⟨rfl, rfl⟩ | ⟨rfl, iv5, hst5⟩
        · have hst := Hst.out
          have f0 := (hst.cells 0).trans e0
          have f1 := (hst.cells 1).trans e1
          have f2 := (hst.cells 2).trans e2
          have f3 := (hst.cells 3).trans e3
          have hl1 := hst.ok.len
          have hk1 : K ≤ 99000 := by have := hst.ok.by'; omega
          have hE1 := enter_any E wr hst.bld (by omega) (by omega)
          have Hst3 := Lib.hid hst
          clear hst
          go_wp2_with (first
              | (go_at_call 57; refine hE1.mono ?_; clear hE1; rintro e w2 ⟨rfl, iv2, hB2, hS2⟩; have hst2 := Hst3.out.next hB2 hS2 (Hst3.out.ok.enter (by omega) (by omega)); clear hB2 hS2 f0 f1 f2 f3; have f0 := (hst2.cells 0).trans e0; have f1 := (hst2.cells 1).trans e1; have f2 := (hst2.cells 2).trans e2; have f3 := (hst2.cells 3).trans e3; have hA2 := again_any P z q n w2 hst2.bld hst2.ok.pos hst2.ok.part hst2.ok.lo (by have := hst2.ok.len; omega) (by omega) (by omega) (hst2.ok.inn (by omega)); have Hst2 := Lib.hid hst2; clear hst2)
              | (go_at_call 60; refine hA2.mono ?_; clear hA2; rintro e w4 ⟨rfl, iv4, hB4, hS4⟩; have hst4 := Hst2.out.next hB4 hS4 (Hst2.out.ok.again hn (by omega)); have hL4 := lay_ins 8 K 0 w4 hst4.bld (by have := hst4.ok.len; omega); have Hst4 := Lib.hid hst4; clear hB4 hS4 hst4)
              | (go_at_call 22; refine hL4.mono ?_; clear hL4; rintro e w5 ⟨rfl, iv5, hB5, hS5, _⟩))
          go_roundw
          case rel =>
            have e5 := (Hst4.out.next hB5 hS5 ((Hst4.out.ok.one (show Bi _ (ins 8 K 0) from ⟨by simp only [ins]; omega, by simp only [ins]; omega, by simp only [ins]; omega, by simp only [ins]; omega, by simp only [ins]; omega, by simp only [ins]; omega⟩)).mono (show _ ≤ 6103 by omega)))
            have e6 : _ = L5 := congrArg Prod.fst Hag2.out
            have e7 : _ = K5 := congrArg Prod.snd Hag2.out
            rw [← e6, ← e7]
            exact .inr ⟨rfl, iv5, e5⟩
          case measure => simp [intOf]
        · have Hst5 := Lib.hid hst5
          clear hst5
          go_wp2_with fail
          go_loopw [86] (fun j wr' => (j = .int .i64 0 ∧ wr = wr') ∨ (j = .int .i64 1 ∧ ∃ iv6, Bld B p wr' (L5 ++ [ins 2 F 0]) g K5 bk iv6 tv ts ∧ CStep p w iv tv wr' iv6 tv)) (fun j _ => 1 - (intOf j).toNat)
          case atStart => exact .inl ⟨rfl, rfl⟩
          case round =>
            rcases hrel with ⟨rfl, rfl⟩ | ⟨rfl, iv6, hB6, hS6⟩
            · have hst := Hst5.out
              have hL7 := lay_ins 2 F 0 wr hst.bld (by have := hst.ok.len; omega)
              have Hst6 := Lib.hid hst
              clear hst
              go_wp2_with (go_at_call 22; refine hL7.mono ?_; clear hL7; rintro e w7 ⟨rfl, iv7, hB7, hS7, _⟩)
              go_roundw
              case rel => exact .inr ⟨rfl, iv7, hB7, Hst6.out.cs.trans hS7⟩
              case measure => simp [intOf]
            · have HB6 := Lib.hid hB6
              have HS6 := Lib.hid hS6
              clear hB6 hS6
              go_wp2_with fail
              go_end0
              refine ⟨rfl, iv6, ?_⟩
              rw [HRE.out]
              unfold tailT
              rw [Hag.out]
              simp only [Hag2.out]
              exact ⟨HB6.out, HS6.out⟩
set_option linter.unusedSimpArgs false in
set_option maxRecDepth 100000 in
set_option maxHeartbeats 8000000 in
theorem endrep_none {B p : Nat} {l : List Inn} {g : Int} {k : Nat} {bk : Bool} {iv tv : Value} {ts : List Value} (ty : TypeId) (pv : Value) (x : Nat) (P z q n : Nat) (w : World) (h : Bld B p w l g k bk iv tv ts) (hA : AgOk P z q n 3000 l k) (hn : n ≤ z) (hq : q ≤ 3000) (h0 : 1 ≤ x) (hx : x ≤ 255) (h1 : 2 ≤ P) (h2 : 1 ≤ q) :
    Calls Try.prog 59 #[.pointer (some ⟨p, 0, none⟩), .agg #[.iface ty pv, .int .i64 0, .int .i64 (x : Int)], StV P z q n] w fun e w' => e = .returned (.tuple #[]) ∧ ∃ iv', Bld B p w' (repT 0 (x : Int) P z q n l k).1 g (repT 0 (x : Int) P z q n l k).2 bk iv' tv ts ∧ CStep p w iv tv w' iv' tv := by
  have hAa := ((Below.refl w.heap.size w).alloc (Nat.le_refl _) (.cells #[.iface ty pv, .int .i64 0, .int .i64 (x : Int)] 57)).alloc (by simp) (.cells #[.int .i64 (P : Int), .int .i64 (z : Int), .int .i64 (q : Int), .int .i64 (n : Int)] 123)
  have hB := h.below hAa
  have hS := CStep.of_below (p := p) (iv := iv) (tv := tv) hAa
  have hB0 := (Blk.new w #[.iface ty pv, .int .i64 0, .int .i64 (x : Int)] 57 w.heap.size rfl).below ((Below.refl (w.heap.size + 1) _).alloc (by simp) (.cells #[.int .i64 (P : Int), .int .i64 (z : Int), .int .i64 (q : Int), .int .i64 (n : Int)] 123)) (by omega)
  have hB1 := Blk.new (w.alloc (.cells #[.iface ty pv, .int .i64 0, .int .i64 (x : Int)] 57)) #[.int .i64 (P : Int), .int .i64 (z : Int), .int .i64 (q : Int), .int .i64 (n : Int)] 123 (w.heap.size + 1) (by simp)
  have r1 := hB0.cell 1
  have r2 := hB0.cell 2
  have e0 := hB1.cell 0
  have e1 := hB1.cell 1
  have e2 := hB1.cell 2
  have e3 := hB1.cell 3
  simp only [List.getElem?_toArray, List.getElem?_cons_zero, List.getElem?_cons_succ] at r1 r2 e0 e1 e2 e3
  have hsz1 : w.heap.size + 1 < ((w.alloc (.cells #[.iface ty pv, .int .i64 0, .int .i64 (x : Int)] 57)).alloc (.cells #[.int .i64 (P : Int), .int .i64 (z : Int), .int .i64 (q : Int), .int .i64 (n : Int)] 123)).heap.size := by simp
  have hoff0 : OffC p iv tv (w.heap.size + 1) := ⟨fun e => by have := h.blk.lt; omega, fun e => by have := co_own_lt h.io _ e; omega, fun e => by have := co_own_lt h.«to» _ e; omega⟩
  have hoff1 : OffC p iv tv w.heap.size := ⟨fun e => by have := h.blk.lt; omega, fun e => by have := co_own_lt h.io _ e; omega, fun e => by have := co_own_lt h.«to» _ e; omega⟩
  have hzb : z ≤ 3000 := by have := hA.part; have := hA.len; omega
  have hPb : P ≤ 3000 := by have := hA.part; have := hA.len; omega
  obtain ⟨z3, hz3⟩ : ∃ z3, z + 3 = z3 := ⟨_, rfl⟩
  have W3 : IntKind.i64.wrap ((z : Int) + 3) = (z3 : Int) := by rw [IntWalk.i64_in _ (by omega)]; omega
  obtain ⟨F, hF⟩ : ∃ F, P - 2 = F := ⟨_, rfl⟩
  obtain ⟨q1, hq1⟩ : ∃ q1, q - 1 = q1 := ⟨_, rfl⟩
  have W2 : IntKind.i64.wrap ((P : Int) - 2) = (F : Int) := by rw [IntWalk.i64_in _ (by omega)]; omega
  have Wp : IntKind.i64.wrap ((P : Int)) = (P : Int) := by rw [IntWalk.i64_in _ (by omega)]
  have Wq : IntKind.i64.wrap ((q : Int) - 1) = (q1 : Int) := by rw [IntWalk.i64_in _ (by omega)]; omega
  have hFl : F < l.length := by have := hA.part; omega
  have hFi : (F : Int) < (l.length : Int) := by omega
  have Hq2 : x * (z + 3) ≤ 255 * 3003 := Nat.mul_le_mul (by omega) (by omega)
  obtain ⟨R, hR⟩ : ∃ R, x - 1 = R := ⟨_, rfl⟩
  obtain ⟨Y, hY⟩ : ∃ Y, x * z3 = Y := ⟨_, rfl⟩
  obtain ⟨E, hE⟩ : ∃ E, F + Y = E := ⟨_, rfl⟩
  rw [hz3, hY] at Hq2
  have W4 : IntKind.i64.wrap ((x : Int) * (z3 : Int)) = (Y : Int) := by rw [← Int.natCast_mul, hY, IntWalk.i64_in _ (by omega)]
  have W5 : IntKind.i64.wrap ((F : Int) + (Y : Int)) = (E : Int) := by rw [IntWalk.i64_in _ (by omega)]; omega
  have W6 : IntKind.i64.wrap ((E : Int)) = (E : Int) := by rw [IntWalk.i64_in _ (by omega)]
  have W8 : IntKind.i64.wrap ((x : Int)) = (x : Int) := by rw [IntWalk.i64_in _ (by omega)]
  have W9 : IntKind.i64.wrap ((x : Int) - 1) = (R : Int) := by rw [IntWalk.i64_in _ (by omega)]; omega
  have b1 : ((x : Int) == -1) = false := beq_eq_false_iff_ne.2 (by omega)
  have HB := Lib.hid hB
  have HS := Lib.hid hS
  have HA := Lib.hid hA
  clear hB hS hA hAa hB0 hB1 h
  generalize hW1 : (w.alloc (.cells #[.iface ty pv, .int .i64 0, .int .i64 (x : Int)] 57)).alloc (.cells #[.int .i64 (P : Int), .int .i64 (z : Int), .int .i64 (q : Int), .int .i64 (n : Int)] 123) = W1 at *
  go_enter Try.func59, Try.ntmps59
  have hre := (rept_none P z q n l k hF hR hz3 hY hE)
  have hR255 : R ≤ 255 := by omega
  have hEb : E ≤ 3000000 := by omega
  clear hF hR hz3 hY hE
  obtain ⟨ia, ic, hiv⟩ := co_form HB.out.io
  subst hiv
  obtain ⟨hlc, hcm, q0, rfl, hBq, hq0, hqp, hcell, hfz⟩ := HB.out.inst (by omega)
  have hfy := hfz (F * 7 + 6)
  have c0 := HB.out.cells.c0
  have hnq : ¬ q0 = w.heap.size + 1 := fun e => hoff0.2.1 (by rw [e]; rfl)
  have hnq' : ¬ w.heap.size + 1 = q0 := fun e => hnq e.symm
  have hnr : ¬ q0 = w.heap.size := fun e => hoff1.2.1 (by rw [e]; rfl)
  have hnr' : ¬ w.heap.size = q0 := fun e => hnr e.symm
  have hcy := (hcell F hFl 6 (by omega)).trans rfl
  obtain ⟨hBy, hSy⟩ := HB.out.setY F hFl (E : Int)
  have hL1 := lay_ins 8 q1 0 _ hBy (by rw [upd_len]; have := HA.out.len; omega)
  have Hfz := Lib.hid hfz
  have HSy := Lib.hid hSy
  have Hce := Lib.hid hcell
  clear hfz hSy hcell hBy
  go_wp2_with (go_at_call 22; refine hL1.mono ?_; clear hL1; rintro e w1 ⟨rfl, iv1, hB1, hS1, _⟩; have hS01 := HSy.out.trans hS1; have r1' := ((hS01.keep _ hoff1 (by omega)).2 1).trans r1)
  have hoS := (hS01.keep _ hoff0 hsz1)
  have hok : AgOk P z q n 6100 ((upd l F fun i => { i with y := (E : Int) }) ++ [ins 8 q1 0]) k := ((HA.out.updY hEb).one ⟨by simp only [ins]; omega, by simp only [ins]; omega, by simp only [ins]; omega, by simp only [ins]; omega, by simp only [ins]; omega, by simp only [ins]; omega⟩).mono (by omega)
  rw [hq1] at hre
  clear hq1
  obtain ⟨L0, hL0⟩ : ∃ L0, (upd l F fun i => { i with y := (E : Int) }) ++ [ins 8 q1 0] = L0 := ⟨_, rfl⟩
  rw [hL0] at hB1 hok hre
  have HRE := Lib.hid hre
  have hst0 : RSt B p (w.heap.size + 1) w W1 (.slice (some ⟨q0, 0, none⟩) l.length ic) tv ts g bk P z q n 6100 w1 L0 k iv1 := ⟨hB1, HS.out.trans hS01, hoS.1, Nat.lt_of_lt_of_le hsz1 hS01.size, hoS.2, hok⟩
  have Hst0 := Lib.hid hst0
  clear hst0 hL0 hB1 hok hre hoS hS01 hS1 HSy c0 hfy hcy hnq hnq' hnr hnr' Hfz Hce r1 r2 r1' hoff0 hoff1 hsz1
  clear W3 W2 Wp Wq W4 W5 W6 W8 W9 b1
  go_loopw [65] (fun j wr' => j = .int .i64 0 ∧ w1 = wr') (fun j _ => 0)
  case atStart => exact ⟨rfl, rfl⟩
  case round =>
    obtain ⟨rfl, rfl⟩ := hrel
    have Hag := Lib.hid (show againsT P z q n 0 L0 k = (L0, k) from rfl)
    go_wp2_with fail
    go_loopw [72] (fun j wr => ∃ (i : Nat) (L' : List Inn) (K' : Nat) (iv' : Value), i ≤ R ∧ j = .int .i64 i ∧ RSt B p (w.heap.size + 1) w W1 (.slice (some ⟨q0, 0, none⟩) l.length ic) tv ts g bk P z q n (6100 + 3 * i) wr L' K' iv' ∧ agroundsT P z q n E (R - i) L' K' = agroundsT P z q n E R L0 k) (fun j _ => R - (intOf j).toNat)
    case atStart => exact ⟨0, L0, k, iv1, by omega, rfl, Hst0.out, rfl⟩
    case round =>
      clear Hst0
      obtain ⟨i, L', K', iv3, hi, rfl, hst, hag⟩ := hrel
      by_cases hlt : i < R
      · have hlti : (i : Int) < (R : Int) := by omega
        have Wi : IntKind.i64.wrap ((i : Int) + 1) = (i : Int) + 1 := IntWalk.i64_in _ (by omega)
        have f0 := (hst.cells 0).trans e0
        have f1 := (hst.cells 1).trans e1
        have f2 := (hst.cells 2).trans e2
        have f3 := (hst.cells 3).trans e3
        have hl1 := hst.ok.len
        have hk1 : K' ≤ 99000 := by have := hst.ok.by'; omega
        have hE1 := enter_any E wr hst.bld (by omega) (by omega)
        have Hst3 := Lib.hid hst
        have Hag2 := Lib.hid hag
        clear hst hag
        go_wp2_with (first
            | (go_at_call 57; refine hE1.mono ?_; clear hE1; rintro e w2 ⟨rfl, iv2, hB2, hS2⟩; have hst2 := Hst3.out.next hB2 hS2 (Hst3.out.ok.enter (by omega) (by omega)); clear hB2 hS2 f0 f1 f2 f3; have f0 := (hst2.cells 0).trans e0; have f1 := (hst2.cells 1).trans e1; have f2 := (hst2.cells 2).trans e2; have f3 := (hst2.cells 3).trans e3; have hA2 := again_any P z q n w2 hst2.bld hst2.ok.pos hst2.ok.part hst2.ok.lo (by have := hst2.ok.len; omega) (by omega) (by omega) (hst2.ok.inn (by omega)); have Hst2 := Lib.hid hst2; clear hst2)
            | (go_at_call 60; refine hA2.mono ?_; clear hA2; rintro e w4 ⟨rfl, iv4, hB4, hS4⟩; have hst4 := Hst2.out.next hB4 hS4 (Hst2.out.ok.again hn (by omega)); have hL4 := lay_ins 8 K' 0 w4 hst4.bld (by have := hst4.ok.len; omega); have Hst4 := Lib.hid hst4; clear hB4 hS4 hst4)
            | (go_at_call 22; refine hL4.mono ?_; clear hL4; rintro e w5 ⟨rfl, iv5, hB5, hS5, _⟩))
        go_roundw
        case rel =>
          refine ⟨i + 1, _, _, iv5, by omega, rfl, (Hst4.out.next hB5 hS5 ((Hst4.out.ok.one ?_).mono (by omega))), ?_⟩
          · exact ⟨by simp only [ins]; omega, by simp only [ins]; omega, by simp only [ins]; omega, by simp only [ins]; omega, by simp only [ins]; omega, by simp only [ins]; omega⟩
          · rw [← Hag2.out, show R - i = (R - (i + 1)) + 1 by omega]
            rfl
        case measure => simp [intOf]; omega
      · have hlti : ¬ (i : Int) < (R : Int) := by omega
        obtain rfl : R = i := by omega
        rw [Nat.sub_self] at hag
        have Hst3 := Lib.hid hst
        have Hag2 := Lib.hid (show agroundsT P z q n E R L0 k = (L', K') from hag.symm)
        clear hst hag hlt hi
        go_wp2_with fail
        clear hlti
        go_loopw [86] (fun j wr' => j = .int .i64 0 ∧ wr = wr') (fun j _ => 0)
        case atStart => exact ⟨rfl, rfl⟩
        case round =>
          obtain ⟨rfl, rfl⟩ := hrel
          go_wp2_with fail
          go_end0
          refine ⟨rfl, iv3, ?_⟩
          rw [HRE.out]
          unfold tailT
          rw [Hag.out]
          simp only [Hag2.out, List.replicate_zero, List.append_nil]
          exact ⟨Hst3.out.bld, Hst3.out.cs⟩
set_option linter.unusedSimpArgs false in
set_option maxRecDepth 100000 in
set_option maxHeartbeats 8000000 in
theorem endrep_any0 {B p : Nat} {l : List Inn} {g : Int} {k : Nat} {bk : Bool} {iv tv : Value} {ts : List Value} (ty : TypeId) (pv : Value)  (P z q n : Nat) (w : World) (h : Bld B p w l g k bk iv tv ts) (hA : AgOk P z q n 3000 l k) (hn : n ≤ z) (hq : q ≤ 3000) (h1 : 2 ≤ P) (h2 : 1 ≤ q) :
    Calls Try.prog 59 #[.pointer (some ⟨p, 0, none⟩), .agg #[.iface ty pv, .int .i64 0, .int .i64 (-1)], StV P z q n] w fun e w' => e = .returned (.tuple #[]) ∧ ∃ iv', Bld B p w' (repT 0 (-1) P z q n l k).1 g (repT 0 (-1) P z q n l k).2 bk iv' tv ts ∧ CStep p w iv tv w' iv' tv := by
  have hAa := ((Below.refl w.heap.size w).alloc (Nat.le_refl _) (.cells #[.iface ty pv, .int .i64 0, .int .i64 (-1)] 57)).alloc (by simp) (.cells #[.int .i64 (P : Int), .int .i64 (z : Int), .int .i64 (q : Int), .int .i64 (n : Int)] 123)
  have hB := h.below hAa
  have hS := CStep.of_below (p := p) (iv := iv) (tv := tv) hAa
  have hB0 := (Blk.new w #[.iface ty pv, .int .i64 0, .int .i64 (-1)] 57 w.heap.size rfl).below ((Below.refl (w.heap.size + 1) _).alloc (by simp) (.cells #[.int .i64 (P : Int), .int .i64 (z : Int), .int .i64 (q : Int), .int .i64 (n : Int)] 123)) (by omega)
  have hB1 := Blk.new (w.alloc (.cells #[.iface ty pv, .int .i64 0, .int .i64 (-1)] 57)) #[.int .i64 (P : Int), .int .i64 (z : Int), .int .i64 (q : Int), .int .i64 (n : Int)] 123 (w.heap.size + 1) (by simp)
  have r1 := hB0.cell 1
  have r2 := hB0.cell 2
  have e0 := hB1.cell 0
  have e1 := hB1.cell 1
  have e2 := hB1.cell 2
  have e3 := hB1.cell 3
  simp only [List.getElem?_toArray, List.getElem?_cons_zero, List.getElem?_cons_succ] at r1 r2 e0 e1 e2 e3
  have hsz1 : w.heap.size + 1 < ((w.alloc (.cells #[.iface ty pv, .int .i64 0, .int .i64 (-1)] 57)).alloc (.cells #[.int .i64 (P : Int), .int .i64 (z : Int), .int .i64 (q : Int), .int .i64 (n : Int)] 123)).heap.size := by simp
  have hoff0 : OffC p iv tv (w.heap.size + 1) := ⟨fun e => by have := h.blk.lt; omega, fun e => by have := co_own_lt h.io _ e; omega, fun e => by have := co_own_lt h.«to» _ e; omega⟩
  have hoff1 : OffC p iv tv w.heap.size := ⟨fun e => by have := h.blk.lt; omega, fun e => by have := co_own_lt h.io _ e; omega, fun e => by have := co_own_lt h.«to» _ e; omega⟩
  have hzb : z ≤ 3000 := by have := hA.part; have := hA.len; omega
  have hPb : P ≤ 3000 := by have := hA.part; have := hA.len; omega
  obtain ⟨z3, hz3⟩ : ∃ z3, z + 3 = z3 := ⟨_, rfl⟩
  have W3 : IntKind.i64.wrap ((z : Int) + 3) = (z3 : Int) := by rw [IntWalk.i64_in _ (by omega)]; omega
  obtain ⟨F, hF⟩ : ∃ F, P - 2 = F := ⟨_, rfl⟩
  obtain ⟨q1, hq1⟩ : ∃ q1, q - 1 = q1 := ⟨_, rfl⟩
  have W2 : IntKind.i64.wrap ((P : Int) - 2) = (F : Int) := by rw [IntWalk.i64_in _ (by omega)]; omega
  have Wp : IntKind.i64.wrap ((P : Int)) = (P : Int) := by rw [IntWalk.i64_in _ (by omega)]
  have Wq : IntKind.i64.wrap ((q : Int) - 1) = (q1 : Int) := by rw [IntWalk.i64_in _ (by omega)]; omega
  have hFl : F < l.length := by have := hA.part; omega
  have hFi : (F : Int) < (l.length : Int) := by omega
  obtain ⟨E0, hE0⟩ : ∃ E0, F + z3 = E0 := ⟨_, rfl⟩
  obtain ⟨E, hE⟩ : ∃ E, E0 + 1 = E := ⟨_, rfl⟩
  have W4 : IntKind.i64.wrap ((z3 : Int)) = (z3 : Int) := by rw [IntWalk.i64_in _ (by omega)]
  have W5 : IntKind.i64.wrap ((F : Int) + (z3 : Int)) = (E0 : Int) := by rw [IntWalk.i64_in _ (by omega)]; omega
  have W6 : IntKind.i64.wrap ((E0 : Int) + 1) = (E : Int) := by rw [IntWalk.i64_in _ (by omega)]; omega
  have HB := Lib.hid hB
  have HS := Lib.hid hS
  have HA := Lib.hid hA
  clear hB hS hA hAa hB0 hB1 h
  generalize hW1 : (w.alloc (.cells #[.iface ty pv, .int .i64 0, .int .i64 (-1)] 57)).alloc (.cells #[.int .i64 (P : Int), .int .i64 (z : Int), .int .i64 (q : Int), .int .i64 (n : Int)] 123) = W1 at *
  go_enter Try.func59, Try.ntmps59
  have hre := (rept_any P z q n l k hF hz3 hE0 hE)
  have hEb : E ≤ 3000000 := by omega
  clear hF hz3 hE0 hE
  obtain ⟨ia, ic, hiv⟩ := co_form HB.out.io
  subst hiv
  obtain ⟨hlc, hcm, q0, rfl, hBq, hq0, hqp, hcell, hfz⟩ := HB.out.inst (by omega)
  have hfy := hfz (F * 7 + 6)
  have c0 := HB.out.cells.c0
  have hnq : ¬ q0 = w.heap.size + 1 := fun e => hoff0.2.1 (by rw [e]; rfl)
  have hnq' : ¬ w.heap.size + 1 = q0 := fun e => hnq e.symm
  have hnr : ¬ q0 = w.heap.size := fun e => hoff1.2.1 (by rw [e]; rfl)
  have hnr' : ¬ w.heap.size = q0 := fun e => hnr e.symm
  have hcy := (hcell F hFl 6 (by omega)).trans rfl
  obtain ⟨hBy, hSy⟩ := HB.out.setY F hFl (E : Int)
  have hL1 := lay_ins 8 q1 0 _ hBy (by rw [upd_len]; have := HA.out.len; omega)
  have Hfz := Lib.hid hfz
  have HSy := Lib.hid hSy
  have Hce := Lib.hid hcell
  clear hfz hSy hcell hBy
  go_wp2_with (go_at_call 22; refine hL1.mono ?_; clear hL1; rintro e w1 ⟨rfl, iv1, hB1, hS1, _⟩; have hS01 := HSy.out.trans hS1; have r1' := ((hS01.keep _ hoff1 (by omega)).2 1).trans r1)
  have hoS := (hS01.keep _ hoff0 hsz1)
  have hok : AgOk P z q n 6100 ((upd l F fun i => { i with y := (E : Int) }) ++ [ins 8 q1 0]) k := ((HA.out.updY hEb).one ⟨by simp only [ins]; omega, by simp only [ins]; omega, by simp only [ins]; omega, by simp only [ins]; omega, by simp only [ins]; omega, by simp only [ins]; omega⟩).mono (by omega)
  rw [hq1] at hre
  clear hq1
  obtain ⟨L0, hL0⟩ : ∃ L0, (upd l F fun i => { i with y := (E : Int) }) ++ [ins 8 q1 0] = L0 := ⟨_, rfl⟩
  rw [hL0] at hB1 hok hre
  have HRE := Lib.hid hre
  have hst0 : RSt B p (w.heap.size + 1) w W1 (.slice (some ⟨q0, 0, none⟩) l.length ic) tv ts g bk P z q n 6100 w1 L0 k iv1 := ⟨hB1, HS.out.trans hS01, hoS.1, Nat.lt_of_lt_of_le hsz1 hS01.size, hoS.2, hok⟩
  have Hst0 := Lib.hid hst0
  clear hst0 hL0 hB1 hok hre hoS hS01 hS1 HSy c0 hfy hcy hnq hnq' hnr hnr' Hfz Hce r1 r2 r1' hoff0 hoff1 hsz1
  clear W3 W2 Wp Wq W4 W5 W6
  go_loopw [65] (fun j wr' => j = .int .i64 0 ∧ w1 = wr') (fun j _ => 0)
  case atStart => exact ⟨rfl, rfl⟩
  case round =>
    obtain ⟨rfl, rfl⟩ := hrel
    have Hag := Lib.hid (show againsT P z q n 0 L0 k = (L0, k) from rfl)
    go_wp2_with fail
    go_loopw [72] (fun j wr' => j = .int .i64 0 ∧ w1 = wr') (fun j _ => 0)
    case atStart => exact ⟨rfl, rfl⟩
    case round =>
      obtain ⟨rfl, rfl⟩ := hrel
      have Hag2 := Lib.hid (show agroundsT P z q n E 0 L0 k = (L0, k) from rfl)
      go_wp2_with fail
      go_loopw [86] (fun j wr' => (j = .int .i64 0 ∧ w1 = wr') ∨ (j = .int .i64 1 ∧ ∃ iv6, Bld B p wr' (L0 ++ [ins 2 F 0]) g k bk iv6 tv ts ∧  CStep p w (.slice (some ⟨q0, 0, none⟩) l.length ic) tv wr' iv6 tv)) (fun j _ => 1 - (intOf j).toNat)
      case atStart => exact .inl ⟨rfl, rfl⟩
      case round =>
        rcases hrel with ⟨rfl, rfl⟩ | ⟨rfl, iv6, hB6, hS6⟩
        · have hst := Hst0.out
          have hL7 := lay_ins 2 F 0 w1 hst.bld (by have := hst.ok.len; omega)
          have Hst6 := Lib.hid hst
          clear hst
          go_wp2_with (go_at_call 22; refine hL7.mono ?_; clear hL7; rintro e w7 ⟨rfl, iv7, hB7, hS7, _⟩)
          go_roundw
          case rel => exact .inr ⟨rfl, iv7, hB7, Hst6.out.cs.trans hS7⟩
          case measure => simp [intOf]
        · have HB6 := Lib.hid hB6
          have HS6 := Lib.hid hS6
          clear hB6 hS6
          go_wp2_with fail
          go_end0
          refine ⟨rfl, iv6, ?_⟩
          rw [HRE.out]
          unfold tailT
          rw [Hag.out]
          simp only [Hag2.out]
          exact ⟨HB6.out, HS6.out⟩
theorem endrep_any {B p : Nat} {l : List Inn} {g : Int} {k : Nat} {bk : Bool} {iv tv : Value} {ts : List Value} (ty : TypeId) (pv : Value) (mn mx : Int) (P z q n : Nat) (w : World) (h : Bld B p w l g k bk iv tv ts) (hA : AgOk P z q n 3000 l k) (hn : n ≤ z) (hq : q ≤ 3000) (ho : okRep mn mx = true) (h0 : mx ≠ 0) (h1 : mn = 0 → 2 ≤ P ∧ 1 ≤ q) :
    Calls Try.prog 59 #[.pointer (some ⟨p, 0, none⟩), .agg #[.iface ty pv, .int .i64 mn, .int .i64 mx], StV P z q n] w fun e w' => e = .returned (.tuple #[]) ∧ ∃ iv', Bld B p w' (repT mn mx P z q n l k).1 g (repT mn mx P z q n l k).2 bk iv' tv ts ∧ CStep p w iv tv w' iv' tv := by
  obtain ⟨o1, o2, o3⟩ := okrep_parts ho
  obtain ⟨m, rfl⟩ : ∃ m : Nat, mn = m := ⟨mn.toNat, by omega⟩
  by_cases hm : m = 0
  · subst hm
    obtain ⟨h2, h3⟩ := h1 rfl
    by_cases hx : mx = -1
    · subst hx
      exact endrep_any0 ty pv P z q n w h hA hn hq h2 h3
    · obtain ⟨x, rfl⟩ : ∃ x : Nat, mx = x := ⟨mx.toNat, by omega⟩
      exact endrep_none ty pv x P z q n w h hA hn hq (by omega) (by omega) h2 h3
  · by_cases hx : mx = -1
    · subst hx
      exact endrep_more ty pv m P z q n w h hA hn hq (by omega) (by omega)
    · obtain ⟨x, rfl⟩ : ∃ x : Nat, mx = x := ⟨mx.toNat, by omega⟩
      exact endrep_some ty pv m x P z q n w h hA hn hq (by omega) (by omega) (by omega)
end Go.Proofs.Ytihfenkphhnbcaa
