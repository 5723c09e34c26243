/- Package files, walked: Add. -/
import Derived.Test.YtnognicabhgmcaaDoorFiWb
namespace Go.Proofs.YtnognicabhgmcaaDoor
open Go Go.RowKit

theorem fi_step_append {P : Program} {w : World} {ops : Array Oper} {o : Oper} {a : Act} {K : Act → World → Prop} {Q : Exit → Act → World → Prop} {E : Prop} (hgd : o.guard = none) (s x : Operand) (t : TypeId)
    (ho : o.op = .call { callee := .builtin .append, args := #[s, x], argTypes := #[t, t] })
    (base : Nat) (e : TypeId) (i : TypeInfo) (z : Value) (size bytes : Nat) (ht : P.underlying t = some (.slice e)) (hi : P.info? e = some i) (hz : i.zero = some z)
    (hsize : i.size = size) (hby : i.bytes = bytes) (hzs : z.cells.size = size) (hsz : 0 < size)
    (v : Value) (n : Nat) (xs : List Value) (hs : a.eval s = v) (hown : w.ownsRow base e size v n xs)
    (oa : Option Addr) (m c : Nat) (news : List Value) (hx : a.eval x = .slice oa m c) (hl : news.length = m * size) (hnews : 0 < m → ∃ a, oa = some a ∧ ∀ j u, news[j]? = some u → w.cell? (a.add j) = some u) (h1 : ∀ u ∈ news, u.oneCell' = true)
    (h63 : n + m ≤ maxLen) (hbytes : (n + m) * bytes ≤ 140737488355328) (hbase : base ≤ w.heap.size)
    (h : ∀ v' w', w'.ownsRow base e size v' (n + m) (xs ++ news) → w.grownBy w' v.ownBlock → (v'.ownBlock = v.ownBlock ∨ v'.ownBlock = some w.heap.size) → K (a.put o.dst v') w') :
    if Region.wanted o (yielded ops a.tmps) = true then Oper.wp P o a w K Q else E := by
  rw [if_pos (by simp [Region.wanted, hgd])]
  obtain ⟨v', w', hr, h2, h3, h4⟩ := run_append_own_any (P := P) w base t o.type e i z size bytes ht hi hz hsize hby hzs hsz v n xs hown oa m c news hl hnews h1 h63 hbytes hbase
  unfold Oper.wp execOp
  simp only [ho, resolve, invoke, builtin, Sem.run_bind, Sem.run_pure, Result.andThen_ok, List.map_toArray, List.map_cons, List.map_nil, hs, hx, hr]
  exact h v' w' h2 h3 h4
/-- A new row, as it is read. -/
theorem ln_read {w w' : World} {ls : List (List UInt8)} {v : Value} (h : LnNew w ls v w') : ∃ a c, v = .slice a ls.length c ∧ (0 < ls.length → ∃ b, a = some b ∧ ∀ j u, (lnC ls)[j]? = some u → w'.cell? (b.add j) = some u) := by
  obtain ⟨a, c, hv, _, _, hc⟩ := fi_row_cells h.1
  refine ⟨a, c, hv, fun h0 => ?_⟩
  obtain ⟨g, hg, _, h2⟩ := hc h0
  refine ⟨_, hg, fun j u hj => ?_⟩
  rw [Go.WideShapes.add_plain, Nat.zero_add]
  exact h2 j u hj
variable {F : Nat → Prop} {p mp n : Nat} {V : List UInt8 → Value} {l : List Fl} {w w1 w6 : World} {x : List UInt8} {v6 : Value}
/-- Behind the append. -/
theorem add_fin (h : FAt F p mp n V l w) (hb : Below w.heap.size w w1) (hg : w1.grownBy w6 (V x).ownBlock) (hat : v6.ownBlock = (V x).ownBlock ∨ v6.ownBlock = some w1.heap.size) :
    FBut (· ≠ x) (fun b => F b ∨ w.heap.size ≤ b) p mp n V l w6 ∧ (∀ b, v6.ownBlock = some b → b ≠ p ∧ b ≠ mp ∧ (F b ∨ w.heap.size ≤ b) ∧ ∀ y, y ≠ x → (V y).ownBlock ≠ some b) ∧ Turn F w w6 := by
  have h1 := h.below hb
  refine ⟨FBut.wider (F := F) (h1.kept (fun _ _ => trivial) (hg.block p h1.blk.lt fun e => (h.off x trivial p e.symm).1 rfl) (hg.block mp h1.mlt fun e => (h.off x trivial mp e.symm).2.1 rfl) fun y hy b hv => hg.block b (h1.blt trivial hv) fun e => h.apart y x trivial trivial hy b hv e.symm) fun b _ f => .inl f, fun b hb' => ?_, ?_⟩
  · rcases hat with e | e
    · rw [e] at hb'
      have h2 := h.off x trivial b hb'
      exact ⟨h2.1, h2.2.1, .inl h2.2.2, fun y hy hv => h.apart y x trivial trivial hy b hv hb'⟩
    · rw [e] at hb'
      injection hb' with hb'
      have h3 := hb.size
      have h4 := h.blk.lt
      have h5 := h.mlt
      exact ⟨by omega, by omega, .inr (by omega), fun y hy hv => by have := h.blt (x := y) trivial hv; omega⟩
  · refine (Turn.of_below hb).trans (Turn.of_grown (F := fun b => F b) hg fun b e _ => (h.off x trivial b e).2.2) fun b f _ => f
theorem add_end {V' : List UInt8 → Value} {w7 : World} {k : List Fl} (h : FAt F p mp n V l w) (h1 : FAt (fun b => F b ∨ w.heap.size ≤ b) p mp (n + 1) V' k w7) (ht : Turn F w w6) (hg : w6.grownBy w7 (some mp)) : FAt (fun b => F b ∨ w.heap.size ≤ b) p mp (n + 1) V' k w7 ∧ Turn F w w7 :=
  ⟨h1, ht.trans (Turn.of_grown (F := F) hg fun b e _ => by injection e with e; subst e; exact h.mF) fun b f _ => f⟩
/-- What Add leaves. -/
def AddP (F : Nat → Prop) (p mp n : Nat) (l : List Fl) (w w' : World) : Prop := ∃ V', FAt (fun b => F b ∨ w.heap.size ≤ b) p mp (n + 1) V' l w' ∧ Turn F w w'
/-- Lines just made, of which there are m. -/
structure Mid (m : Nat) (ls : List (List UInt8)) (w w1 : World) (a1 : Option Addr) : Prop where
  b : Below w.heap.size w w1
  r : 0 < m → ∃ b, a1 = some b ∧ ∀ j u, (lnC ls)[j]? = some u → w1.cell? (b.add j) = some u
theorem cut_mid {s : ByteArray} {m : Nat} {ls : List (List UInt8)} (hls : fCut s.data.toList = ls) (hm : ls.length = m) (hs : s.size ≤ 1000) (hG : GM w) (W : World) (hb : Below w.heap.size w W) : Calls Tryd.prog 21 #[.string s] W fun e w1 => ∃ a1 c1, e = .returned (.slice a1 m c1) ∧ Mid m ls w w1 a1 := by
  refine (ficut_any s W (by omega) (hG.up hb)).mono ?_
  rintro e w1 ⟨v1, rfl, h1⟩
  rw [hls] at h1
  obtain ⟨a1, c1, rfl, hr1⟩ := ln_read h1
  rw [hm] at hr1 ⊢
  exact ⟨a1, c1, rfl, hb.trans (h1.2.mono hb.size), hr1⟩
set_option linter.unusedVariables false in
set_option linter.unusedSimpArgs false in
set_option maxRecDepth 100000 in
set_option maxHeartbeats 4000000 in
theorem fiadd_any (x : List UInt8) (s : ByteArray) (h : FAt F p mp n V l w) (hx : x.length ≤ maxLen) (hn : n < maxLen) (hl : (gl l x).length ≤ 100000) (hs : s.size ≤ 1000) (hG : GM w) :
    Calls Tryd.prog 10 #[.pointer (some ⟨p, 0, none⟩), .string (txt x), .string s] w fun e w' => e = .returned (.tuple #[]) ∧ AddP F p mp n (fAdd l x s.data.toList) w w' := by
  obtain ⟨i0, hi, hz0, hz1, hz2⟩ := str_info
  have hlk := (h.below (Below.refl _ w).drew).look hx
  have c0 : w.cell? ⟨p, 0, none⟩ = some (.map (some mp)) := (h.blk.cell 0).trans rfl
  have hcl := cut_len s.data.toList
  rw [show s.data.toList.length = s.size from rfl] at hcl
  have hadd : fAdd l x s.data.toList = put x (gl l x ++ fCut s.data.toList) l := fPut_put h.srt _ _
  have HADD := Lib.hid hadd
  obtain ⟨ls, hls⟩ : ∃ ls, fCut s.data.toList = ls := ⟨_, rfl⟩
  rw [hls] at hcl
  have HLS := Lib.hid hls
  obtain ⟨k, hk⟩ : ∃ k, (gl l x).length = k := ⟨_, rfl⟩
  obtain ⟨m, hm⟩ : ∃ m, ls.length = m := ⟨_, rfl⟩
  have hm1 : k + m ≤ maxLen := by unfold maxLen; omega
  have hm2 : (k + m) * 16 ≤ 140737488355328 := by omega
  have hlm : (lnC ls).length = m * 1 := by rw [lnC_len]; omega
  have hC := fun (W : World) (hb : Below w.heap.size w W) => cut_mid hls hm hs hG W hb
  have HK := Lib.hid hk
  have HM := Lib.hid hm
  have HH := Lib.hid h
  have HX := Lib.hid hx
  have HN := Lib.hid hn
  clear hadd hls hk hm h hx hn hl hs hG hcl
  go_enter Tryd.func10, Tryd.ntmps10
  go_region_law (first
    | (go_simp; go_at_call 21; refine (hC _ (by first | exact Below.refl _ _ | exact (Below.refl _ _).drew)).mono ?_; rintro e w1 ⟨a1, c1, rfl, h1⟩; have B1 := Lib.hid h1; have f1 : w1.cell? ⟨p, 0, none⟩ = some (.map (some mp)) := ((HH.out.below B1.out.b).blk.cell 0).trans rfl; have l1 := (HH.out.below B1.out.b).look HX.out; clear h1)
    | (refine fi_step_append rfl _ _ 36 rfl 0 9 i0 (.string ⟨#[]⟩) 1 16 Tryd.underlying36 hi hz0 hz1 hz2 rfl (by decide) (V x) k (lnC (gl l x)) rfl (by rw [← HK.out]; exact (HH.out.below B1.out.b).row x trivial) a1 m c1 (lnC ls) rfl hlm B1.out.r (lnC_one ls) hm1 hm2 (Nat.zero_le _) ?_; intro v6 w6 hown6 hgr6 hat6; have H6 := Lib.hid (add_fin HH.out B1.out.b hgr6 hat6); have O6 := Lib.hid hown6; clear hown6 hgr6 hat6)
    | (go_simp; go_at_call 24; refine (fiput_any (F := fun b => F b ∨ w.heap.size ≤ b) (ls := gl l x ++ ls) H6.out.1 HX.out HN.out (by rw [List.length_append, HK.out, HM.out, lnC_append]; exact O6.out) H6.out.2.1).mono ?_; rintro e w7 ⟨rfl, h7, g7⟩; have H7 := Lib.hid (add_end HH.out h7 H6.out.2.2 g7); clear h7 g7))
  all_goals (try go_wp2_with fail)
  all_goals go_end0
  all_goals exact ⟨rfl, by rw [HADD.out, HLS.out]; exact ⟨_, H7.out⟩⟩
end Go.Proofs.YtnognicabhgmcaaDoor
