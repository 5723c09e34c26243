/- Compile: the program of any tree, or what is wrong with it. -/
import Derived.Test.YtjjhkagpoicimaaCbT
import Derived.Test.YtjjhkagpoicimaaNdRight
import Derived.Test.YtjjhkagpoicimaaNdAb
import Derived.Laws.ResultCell
namespace Go.Proofs.Ytjjhkagpoicimaa
open Go Go.RowKit

theorem blk4 {w : World} {b : Nat} {T : TypeId} {v0 v1 v2 v3 : Value} (h : Blk w b #[v0, v1, v2, v3] T) :
    w.cell? ⟨b, 0, none⟩ = some v0 ∧ w.cell? ⟨b, 1, none⟩ = some v1 ∧ w.cell? ⟨b, 2, none⟩ = some v2 ∧ w.cell? ⟨b, 3, none⟩ = some v3 ∧
    w.frozen? ⟨b, 0, none⟩ = false ∧ w.frozen? ⟨b, 1, none⟩ = false ∧ w.frozen? ⟨b, 2, none⟩ = false ∧ w.frozen? ⟨b, 3, none⟩ = false ∧ b < w.heap.size :=
  ⟨(h.cell 0).trans rfl, (h.cell 1).trans rfl, (h.cell 2).trans rfl, (h.cell 3).trans rfl, h.frozen 0, h.frozen 1, h.frozen 2, h.frozen 3, h.lt⟩
theorem blk_like {w w' : World} {p : Nat} {cs : Array Value} {T : TypeId} (h : Blk w p cs T) (e : w'.heap[p]? = w.heap[p]?) : Blk w' p cs T := by
  unfold Blk at h ⊢
  rw [e, h]
theorem put4 {w0 w : World} {p : Nat} {T : TypeId} {u0 u1 u2 u3 : Value} (hb : Below w0.heap.size w0 w) (hp : w0.heap.size ≤ p) (h : Blk w p #[u0, u1, u2, u3] T) (v0 v1 v2 v3 : Value) (w' : World)
    (hw : ((((w.setCell ⟨p, 0, none⟩ v0).setCell ⟨p, 1, none⟩ v1).setCell ⟨p, 2, none⟩ v2).setCell ⟨p, 3, none⟩ v3) = w') :
    Below w0.heap.size w0 w' ∧ Blk w' p #[v0, v1, v2, v3] T ∧ (∀ b, b ≠ p → w'.heap[b]? = w.heap[b]?) ∧ w'.heap.size = w.heap.size := by
  subst hw
  have h9 := (((h.set 0 v0).set 1 v1).set 2 v2).set 3 v3
  have o1 : ∀ (w : World) (j : Nat) (v : Value) b, b ≠ p → (w.setCell ⟨p, j, none⟩ v).heap[b]? = w.heap[b]? := fun w j v b hb => Below.heap_setCell _ _ _ _ (fun e => hb e)
  refine ⟨?_, h9, fun b hb => ?_, by simp [World.setCell]⟩
  · exact (((hb.setCell (p := ⟨p, 0, none⟩) hp v0).setCell (p := ⟨p, 1, none⟩) hp v1).setCell (p := ⟨p, 2, none⟩) hp v2).setCell (p := ⟨p, 3, none⟩) hp v3
  · rw [o1 _ _ _ _ hb, o1 _ _ _ _ hb, o1 _ _ _ _ hb, o1 _ _ _ _ hb]
theorem post4 {P : Program} {fn : Func} {Q : Ending → World → Prop} {e : Exit} {act : Act} {w0 w : World} {p : Nat} {T : TypeId} {u0 u1 u2 u3 : Value} (hb : Below w0.heap.size w0 w) (h : Blk w p #[u0, u1, u2, u3] T) (hp : w0.heap.size ≤ p) {v0 v1 v2 v3 : Value}
    (H : ∀ w', Below w0.heap.size w0 w' → Blk w' p #[v0, v1, v2, v3] T → (∀ b, b ≠ p → w'.heap[b]? = w.heap[b]?) → w'.heap.size = w.heap.size → bodyPost P fn Q e act w') :
    bodyPost P fn Q e act ((((w.setCell ⟨p, 0, none⟩ v0).setCell ⟨p, 1, none⟩ v1).setCell ⟨p, 2, none⟩ v2).setCell ⟨p, 3, none⟩ v3) := by
  obtain ⟨h1, h2, h3, h4⟩ := put4 hb hp h v0 v1 v2 v3 _ rfl
  exact H _ h1 h2 h3 h4
/-- A tree's program. -/
def prg (d : Nd) : List Inn := [ins 3 0 0] ++ cd d 1 0 ++ [ins 3 1 0] ++ [ins 9 0 0]
theorem prg_len (d : Nd) : (prg d).length = csz d + 3 := by simp [prg, cd_len]
abbrev PrV (iv : Value) (g k : Int) (bk : Bool) : Value := .agg #[iv, .int .i64 g, .int .i64 k, .bool bk]
/-- What Compile answers. -/
def CompOk (w : World) (d : Nd) (e : Ending) (w' : World) : Prop :=
  Below w.heap.size w w' ∧ ((nrightB d = false ∧ e = .returned (.tuple #[PrV nilS 0 0 false, .int .i64 2])) ∨
    (nrightB d = true ∧ 3000 < csz d + 3 ∧ e = .returned (.tuple #[PrV nilS 0 0 false, .int .i64 3])) ∨
    (nrightB d = true ∧ csz d + 3 ≤ 3000 ∧ ∃ iv, e = .returned (.tuple #[PrV iv (ngroups d : Int) (clp d : Int) (nbacks d), .int .i64 0]) ∧ w'.ownsRow w.heap.size 49 7 iv (prg d).length (inF (prg d))))
/-- The builder as it is made. -/
theorem bld_new {B p : Nat} (w : World) (g : Int) (bk : Bool) (hp : p = w.heap.size) (hB : B ≤ p) : Bld B p (w.alloc (.cells #[nilS, .int .i64 g, .int .i64 0, .bool bk, nilS] 65)) [] g 0 bk nilS nilS [] :=
  ⟨Blk.new w _ _ p hp, World.ownsRow_nil _ _ _ _, World.ownsRow_nil _ _ _ _, hB, nil_own p, nil_own p, fun b h => absurd h (nil_own b)⟩
theorem own_less {w : World} {B C : Nat} (h : B ≤ C) {e : TypeId} {size n : Nat} {v : Value} {xs : List Value} (k : w.ownsRow C e size v n xs) : w.ownsRow B e size v n xs := by
  obtain ⟨h1, h2⟩ := k
  refine ⟨h1, ?_⟩
  rcases h2 with h2 | ⟨g, cap, cur, a, b, c⟩
  · exact .inl h2
  · exact .inr ⟨g, cap, cur, a, by omega, c⟩
theorem eqv_prg {d : Nd} {L : List Inn} {K : Nat} (h : Eqv (L, K) (dens [.lay d] ([ins 3 0 0], 0))) : (L ++ [ins 3 1 0] ++ [ins 9 0 0] = prg d ∧ K = clp d) ∨ (3000 < L.length ∧ 3000 < csz d + 3) := by
  have e : dens [.lay d] ([ins 3 0 0], 0) = ([ins 3 0 0] ++ cd d 1 0, 0 + clp d) := rfl
  rw [e] at h
  rcases h with h | ⟨h1, h2⟩
  · injection h with h1 h2
    exact .inl ⟨by rw [h1]; rfl, by omega⟩
  · refine .inr ⟨h1, ?_⟩
    simp only [List.length_append, cd_len, List.length_cons, List.length_nil] at h2
    omega
theorem nrightB_cok {d : Nd} (h : nrightB d = true) (hs : nsize d ≤ 1000000) : cok d = true := by
  unfold nrightB at h
  obtain ⟨x, hx⟩ := Option.isSome_iff_exists.1 h
  exact right_cok d 0 [] x hx (by omega) (by simp) (by omega)

set_option linter.unusedVariables false in
set_option linter.unusedSimpArgs false in
set_option maxRecDepth 100000 in
set_option maxHeartbeats 4000000 in
theorem compile_any (d : Nd) (v : Value) (w : World) (hd : NdX (fun k => k < w.heap.size) w d v) (hsz : nsize d ≤ 1000000) : Calls Try.prog 9 #[v] w (CompOk w d) := by
  have hsh : (∃ T q, v = .iface T q) ∨ v = .nilIface := hd.elim fun _ h => nd_shape h
  have hA : Below w.heap.size w (w.alloc (.cells #[nilS, .int .i64 0, .int .i64 0, .bool false] 32)) := (Below.refl _ w).alloc (Nat.le_refl _) _
  have hR0 := Blk.new w #[nilS, .int .i64 0, .int .i64 0, .bool false] 32 w.heap.size rfl
  have hdk : ∀ (W : World), Below w.heap.size w W → NdX (fun k => k < W.heap.size) W d v := fun W hW => hd.keep hW.size fun b hb hl => ⟨Nat.lt_of_lt_of_le hl hW.size, fun o => hW.cell (p := ⟨b, o, none⟩) hl⟩
  have hdw : ∀ (W : World), Below w.heap.size w W → NdX (fun k => k < w.heap.size) W d v := fun W hW => hd.keep hW.size fun b hb hl => ⟨hb, fun o => hW.cell (p := ⟨b, o, none⟩) hl⟩
  have hRt := pright_any d v _ (hdk _ hA) (by omega)
  have HA := Lib.hid hA
  have HR0 := Lib.hid hR0
  have Hdk := Lib.hid hdk
  have Hdw := Lib.hid hdw
  clear hd hdk hdw
  cases hr : nrightB d with
  | false =>
    rw [hr] at hRt
    have HR := Lib.hid hr
    clear hr
    rcases hsh with ⟨T, q, rfl⟩ | rfl
    all_goals
      go_enter Try.func9, Try.ntmps9
      go_upto_region 2 with (go_at_call 20; refine hRt.mono ?_; rintro e w1 ⟨rfl, b1⟩)
      have b01 := HA.out.trans (b1.mono HA.out.size)
      have hR1 := HR0.out.below b1 HR0.out.lt
      obtain ⟨z0, z1, z2, z3, v0, v1, v2, v3, hz⟩ := blk4 hR1
      have HB := Lib.hid b01
      have HK := Lib.hid hR1
      clear b1 b01 hR1 hRt
      go_wp2_with fail
      first
        | (with_reducible refine post4 HB.out HK.out (Nat.le_refl _) ?_; intro w9 hB9 hk9 hs9 hz9)
        | (have hB9 := HB.out; have hk9 := HK.out; generalize w1 = w9 at *)
      clear z0 z1 z2 z3 v0 v1 v2 v3 hz
      obtain ⟨z0, z1, z2, z3, _⟩ := blk4 hk9
      refine bodyPost_ret (v := .tuple #[PrV nilS 0 0 false, .int .i64 2]) (by simp [results, Try.results9, go_sem, z0, z1, z2, z3]) rfl ?_
      exact ⟨hB9, .inl ⟨HR.out, rfl⟩⟩
  | true =>
    have hcok := nrightB_cok hr hsz
    rw [hr] at hRt
    have HR := Lib.hid hr
    have HC := Lib.hid hcok
    clear hr hcok
    go_enter Try.func9, Try.ntmps9
    go_upto_region 3 with (go_at_call 20; refine hRt.mono ?_; clear hRt; rintro e w1 ⟨rfl, b1⟩)
    have b01 := HA.out.trans (b1.mono HA.out.size)
    have k1 := HR0.out.below b1 HR0.out.lt
    have B1 := Lib.hid b01
    have K1 := Lib.hid k1
    clear b1 b01 k1
    go_upto_region 4 with (first
      | (go_at_call 14; refine (pgroups_any d _ _ (Hdk.out _ B1.out) (by omega)).mono ?_; rintro e w2 ⟨rfl, b2⟩; have B2 := Lib.hid (B1.out.trans (b2.mono B1.out.size)); have K2 := Lib.hid (K1.out.below b2 K1.out.lt); clear b2)
      | (go_at_call 21; refine (pbacks_any d _ _ (Hdk.out _ B2.out) (by omega)).mono ?_; rintro e w3 ⟨rfl, b3⟩; have B3 := Lib.hid (B2.out.trans (b3.mono B2.out.size)); have K3 := Lib.hid (K2.out.below b3 K2.out.lt); clear b3))
    obtain ⟨p, hp⟩ : ∃ p, w3.heap.size = p := ⟨_, rfl⟩
    have hk3 := K3.out.lt
    have hB4 := bld_new (B := w.heap.size + 1) w3 (ngroups d : Int) (nbacks d) hp.symm (by omega)
    have hA4 : Below w3.heap.size w3 (w3.alloc (.cells #[nilS, .int .i64 (ngroups d : Int), .int .i64 0, .bool (nbacks d), nilS] 65)) := (Below.refl _ w3).alloc (Nat.le_refl _) _
    have b4 := B3.out.trans (hA4.mono B3.out.size)
    have k4 := K3.out.below hA4 K3.out.lt
    change Code.wp _ _ _ _ (w3.alloc (.cells #[nilS, .int .i64 (ngroups d : Int), .int .i64 0, .bool (nbacks d), nilS] 65))
    generalize w3.alloc (.cells #[nilS, .int .i64 (ngroups d : Int), .int .i64 0, .bool (nbacks d), nilS] 65) = w4 at *
    rw [hp]
    have hL := lay_ins 3 0 0 w4 hB4 (by simp)
    have B4 := Lib.hid b4
    have K4 := Lib.hid k4
    have HB4 := Lib.hid hB4
    have Hp := Lib.hid hp
    clear hA4 b4 k4 hB4 hp
    go_upto_region 5 with (go_at_call 22; refine hL.mono ?_; clear hL; rintro e w5 ⟨rfl, iv5, hB5, hC5, _⟩)
    have l5 := hC5.low HB4.out
    have b5 := B4.out.trans (l5.mono (Nat.le_succ _))
    have k5 := blk_like K4.out (l5.block _ (Nat.lt_succ_self _))
    have hbp := hB5.bp
    have hd5 : NdX (OffC p iv5 nilS) w5 d v := (Hdw.out _ b5).keep (Nat.le_refl _) fun b hb hl => ⟨⟨by omega, fun e => by have := own_of hB5.io b e; omega, nil_own b⟩, fun _ => rfl⟩
    have hW := whole_any d w5 hB5 hd5 HC.out (bd_one (l := []) (fun p i h => by simp at h) ⟨by simp [ins], by simp [ins], by simp [ins], by simp [ins], by simp [ins], by simp [ins]⟩) (by simp) (by simp) hsz
    have B5 := Lib.hid b5
    have K5 := Lib.hid k5
    clear hC5 l5 b5 k5 hd5 hB5
    go_upto_region 6 with (go_at_call 23; refine hW.mono ?_; clear hW; rintro e w6 ⟨rfl, ⟨iv6, tv6, us6, L, K, hB6, hE, _, hL7, hK7⟩, l6⟩)
    have hL := lay_ins 3 1 0 w6 hB6 (by omega)
    have B6 := Lib.hid (B5.out.trans (l6.mono (Nat.le_succ _)))
    have K6 := Lib.hid (blk_like K5.out (l6.block _ (Nat.lt_succ_self _)))
    have HB6 := Lib.hid hB6
    have HE := Lib.hid (eqv_prg hE)
    clear l6 hB6 hE
    go_upto_region 7 with (go_at_call 22; refine hL.mono ?_; clear hL; rintro e w7 ⟨rfl, iv7, hB7, hC7, _⟩)
    have l7 := hC7.low HB6.out
    have hL := lay_ins 9 0 0 w7 hB7 (by simp; omega)
    have B7 := Lib.hid (B6.out.trans (l7.mono (Nat.le_succ _)))
    have K7 := Lib.hid (blk_like K6.out (l7.block _ (Nat.lt_succ_self _)))
    have HB7 := Lib.hid hB7
    clear hC7 l7 hB7
    go_upto_region 8 with (go_at_call 22; refine hL.mono ?_; clear hL; rintro e w8 ⟨rfl, iv8, hB8, hC8, _⟩)
    have l8 := hC8.low HB7.out
    have hTL := toolong_any w8 hB8
    have B8 := Lib.hid (B7.out.trans (l8.mono (Nat.le_succ _)))
    have K8 := Lib.hid (blk_like K7.out (l8.block _ (Nat.lt_succ_self _)))
    have HB8 := Lib.hid hB8
    have hlen8 : (L ++ [ins 3 1 0] ++ [ins 9 0 0]).length = L.length + 2 := by simp
    rw [hlen8] at hTL
    obtain ⟨z0, z1, z2, z3, v0, v1, v2, v3, hz⟩ := blk4 K8.out
    clear hC8 l8
    by_cases hlong : 3000 < L.length + 2
    · have hdl : decide (3000 < L.length + 2) = true := decide_eq_true hlong
      rw [hdl] at hTL
      have hfin : 3000 < csz d + 3 := by
        rcases HE.out with ⟨h1, _⟩ | ⟨_, h2⟩
        · have := congrArg List.length h1
          rw [hlen8, prg_len] at this
          omega
        · exact h2
      clear hB8 hdl hlen8
      go_upto_region 9 with (go_at_call 24; refine hTL.mono ?_; clear hTL; rintro e w5 ⟨rfl, rfl⟩)
      go_wp2_with fail
      first
        | (with_reducible refine post4 B8.out K8.out (Nat.le_refl _) ?_; intro w9 hB9 hk9 hs9 hz9)
        | (have hB9 := B8.out; have hk9 := K8.out)
      clear z0 z1 z2 z3 v0 v1 v2 v3 hz
      obtain ⟨z0, z1, z2, z3, _⟩ := blk4 hk9
      refine bodyPost_ret (v := .tuple #[PrV nilS 0 0 false, .int .i64 3]) (by simp [results, Try.results9, go_sem, z0, z1, z2, z3]) rfl ?_
      exact ⟨hB9, .inr (.inl ⟨HR.out, hfin, rfl⟩)⟩
    · have hdl : decide (3000 < L.length + 2) = false := decide_eq_false hlong
      rw [hdl] at hTL
      have hfin : L ++ [ins 3 1 0] ++ [ins 9 0 0] = prg d ∧ K = clp d := by
        rcases HE.out with h1 | ⟨h2, _⟩
        · exact h1
        · omega
      obtain ⟨h1, rfl⟩ := hfin
      have hpl : csz d + 3 ≤ 3000 := by
        have := congrArg List.length h1
        rw [hlen8, prg_len] at this
        omega
      rw [h1] at hB8
      have hc8 := hB8.cells
      have c0 := hc8.c0
      have c1 := hc8.c1
      have c2 := hc8.c2
      have c3 := hc8.c3
      have HB9 := Lib.hid hB8
      obtain ⟨ia, ic, rfl⟩ := co_form hB8.io
      clear hB8 hdl hlen8 hc8 h1
      go_upto_region 10 with (go_at_call 24; refine hTL.mono ?_; clear hTL; rintro e w5 ⟨rfl, rfl⟩)
      go_wp2_with fail
      with_reducible refine post4 B8.out K8.out (Nat.le_refl _) ?_
      intro w9 hB9 hk9 hs9 hz9
      clear z0 z1 z2 z3 v0 v1 v2 v3 hz c0 c1 c2 c3
      obtain ⟨z0, z1, z2, z3, _⟩ := blk4 hk9
      refine bodyPost_ret (v := .tuple #[PrV (.slice ia (prg d).length ic) (ngroups d : Int) (clp d : Int) (nbacks d), .int .i64 0]) (by simp [results, Try.results9, go_sem, z0, z1, z2, z3]) rfl ?_
      refine ⟨hB9, .inr (.inr ⟨HR.out, hpl, _, rfl, own_less (Nat.le_succ _) (own_row_same HB9.out.io fun b hb => hs9 b fun e => ?_)⟩)⟩
      have := own_of HB9.out.io b hb
      omega
end Go.Proofs.Ytjjhkagpoicimaa
