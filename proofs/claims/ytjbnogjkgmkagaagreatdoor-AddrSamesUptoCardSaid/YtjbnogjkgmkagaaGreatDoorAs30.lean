/- The proof's texts NdPrS, AdWj, AdWk, AdOt: what the claim reaches of them. -/
import Derived.Test.YtjbnogjkgmkagaaGreatDoorAs29
import Derived.Test.YtjbnogjkgmkagaaGreatDoorAs16
import Derived.Test.YtjbnogjkgmkagaaGreatDoorAs07
import Derived.Deep.LoopGhost
import Derived.Deep.DeepCutAuto
import Derived.Deep.RegionWith
import Derived.Test.YtjbnogjkgmkagaaGreatDoorAs03
import Derived.Test.YtjbnogjkgmkagaaGreatDoorAs04
namespace Go.Proofs.YtjbnogjkgmkagaaGreatDoor
open Go Go.RowKit
def psame (T : List (Nd × Nd)) : Bool := T.all (fun p => nsame p.1 p.2)
def psize (T : List (Nd × Nd)) : Nat := nsizes (T.map Prod.fst)
theorem psame_snoc (T : List (Nd × Nd)) (d e : Nd) : psame (T ++ [(d, e)]) = (psame T && nsame d e) := by unfold psame; rw [List.all_append]; simp
theorem psame_append (T U : List (Nd × Nd)) : psame (T ++ U) = (psame T && psame U) := by unfold psame; rw [List.all_append]
theorem nsames_zip (l m : List Nd) (h : l.length = m.length) : nsames l m = psame (l.zip m) := by
 induction l generalizing m with
 | nil =>
  cases m with
  | nil => rfl
  | cons e es => simp at h
 | cons d ds ih =>
  cases m with
  | nil => simp at h
  | cons e es => rw [nsames, ih es (by simpa using h)]; rfl
theorem psize_append (T U : List (Nd × Nd)) : psize (T ++ U) = psize T + psize U := by unfold psize; rw [List.map_append, nsizes_append]
theorem psize_one (d e : Nd) : psize [(d, e)] = nsize d := by simp [psize, nsizes]
theorem psize_zip (l m : List Nd) (h : l.length = m.length) : psize (l.zip m) = nsizes l := by unfold psize; rw [List.map_fst_zip (by omega)]
theorem psize_len (T : List (Nd × Nd)) : T.length ≤ psize T := by have := nsizes_length (T.map Prod.fst); unfold psize; simpa using this
theorem zip_take (l m : List Nd) (k : Nat) (h1 : k < l.length) (h2 : k < m.length) : (l.zip m).take (k + 1) = (l.zip m).take k ++ [(l[k], m[k])] := by
 rw [List.take_succ_eq_append_getElem (by rw [List.length_zip]; omega), List.getElem_zip]
def Off (sv : Value) (b : Nat) : Prop := sv.ownBlock ≠ some b
def PrC (G : Nat → Prop) (W : World) : List (Nd × Nd) → List Value → Prop
 | [], us => us = []
 | x :: s, us => ∃ v y us', us = v :: y :: us' ∧ NdX G W x.1 v ∧ NdX G W x.2 y ∧ PrC G W s us'
theorem PrC.len {G : Nat → Prop} {W : World} : ∀ {s : List (Nd × Nd)} {us : List Value}, PrC G W s us → us.length = s.length * 2
 | [], us, h => by rw [show us = [] from h]; rfl
 | x :: s, us, ⟨v, y, us', h, _, _, h4⟩ => by rw [h]; have := PrC.len h4; simp [this]; omega
theorem PrC.keep {F G : Nat → Prop} {W W' : World} (hs : W.heap.size ≤ W'.heap.size) (hF : ∀ b, F b → b < W.heap.size → G b ∧ ∀ o, W'.cell? ⟨b, o, none⟩ = W.cell? ⟨b, o, none⟩) :
  ∀ {s : List (Nd × Nd)} {us : List Value}, PrC F W s us → PrC G W' s us
 | [], _, h => h
 | _ :: _, _, ⟨v, y, us', h, h2, h3, h4⟩ => ⟨v, y, us', h, h2.keep hs hF, h3.keep hs hF, PrC.keep hs hF h4⟩
theorem PrC.snoc {G : Nat → Prop} {W : World} {d e : Nd} {v y : Value} (hd : NdX G W d v) (he : NdX G W e y) :
  ∀ {s : List (Nd × Nd)} {us : List Value}, PrC G W s us → PrC G W (s ++ [(d, e)]) (us ++ [v, y])
 | [], us, h => by obtain rfl : us = [] := h; exact ⟨v, y, [], rfl, hd, he, rfl⟩
 | _ :: _, _, ⟨v', y', us', h, h2, h3, h4⟩ => ⟨v', y', _, by rw [h]; rfl, h2, h3, PrC.snoc hd he h4⟩
theorem PrC.last {G : Nat → Prop} {W : World} {d e : Nd} :
  ∀ {s : List (Nd × Nd)} {us : List Value}, PrC G W (s ++ [(d, e)]) us → ∃ us' v y, us = us' ++ [v, y] ∧ NdX G W d v ∧ NdX G W e y ∧ PrC G W s us'
 | [], us, ⟨v, y, us', h, h2, h3, h4⟩ => by obtain rfl : us' = [] := h4; exact ⟨[], v, y, h, h2, h3, rfl⟩
 | x :: s, us, ⟨v', y', us', h, h2, h3, h4⟩ => by
  obtain ⟨us2, v, y, e, g2, g3, g4⟩ := PrC.last h4
  exact ⟨v' :: y' :: us2, v, y, by rw [h, e]; rfl, g2, g3, v', y', us2, rfl, h2, h3, g4⟩
structure Prs (base : Nat) (W : World) (T : List (Nd × Nd)) (sv : Value) (us : List Value) : Prop where
 row : W.ownsRow base 104 2 sv T.length us
 cells : PrC (Off sv) W T us
theorem off_below {sv : Value} {W W' : World} (hb : Below W.heap.size W W') : ∀ b, Off sv b → b < W.heap.size → Off sv b ∧ ∀ o, W'.cell? ⟨b, o, none⟩ = W.cell? ⟨b, o, none⟩ :=
 fun b hf hlt => ⟨hf, fun o => hb.cell (p := ⟨b, o, none⟩) hlt⟩
theorem off_grown {sv v' : Value} {W W' : World} (hg : W.grownBy W' sv.ownBlock) (hat : v'.ownBlock = sv.ownBlock ∨ v'.ownBlock = some W.heap.size) : ∀ b, Off sv b → b < W.heap.size → Off v' b ∧ ∀ o, W'.cell? ⟨b, o, none⟩ = W.cell? ⟨b, o, none⟩ := by
 intro b hf hlt
 refine ⟨?_, fun o => World.cell?_of_block (w := W) (a := ⟨b, o, none⟩) (hg.block b hlt (fun e => hf e.symm))⟩
 rcases hat with e | e
 ·unfold Off; rw [e]; exact hf
 ·unfold Off; rw [e]; intro e2; injection e2 with e2; omega
theorem Prs.mem {base : Nat} {W W' : World} {T : List (Nd × Nd)} {sv : Value} {us : List Value} (h : Prs base W T sv us) (hb : Below W.heap.size W W') : Prs base W' T sv us :=
 ⟨own_row_same h.row (fun g hg => hb.block _ (h.row.lt g hg).2), h.cells.keep hb.size (off_below hb)⟩
theorem Prs.push {base : Nat} {W W' : World} {T : List (Nd × Nd)} {sv v' v y : Value} {us : List Value} {d e : Nd} (h : Prs base W T sv us) (hd : NdX (Off sv) W d v) (he : NdX (Off sv) W e y)
  (hown : W'.ownsRow base 104 2 v' (T.length + 1) (us ++ [v, y])) (hg : W.grownBy W' sv.ownBlock) (hat : v'.ownBlock = sv.ownBlock ∨ v'.ownBlock = some W.heap.size) : Prs base W' (T ++ [(d, e)]) v' (us ++ [v, y]) := by
 have hk := off_grown hg hat
 exact ⟨by rw [List.length_append]; exact hown, PrC.snoc (hd.keep hg.size hk) (he.keep hg.size hk) (h.cells.keep hg.size hk)⟩
theorem Prs.top {base : Nat} {W : World} {T : List (Nd × Nd)} {sv : Value} {us : List Value} {d e : Nd} (h : Prs base W (T ++ [(d, e)]) sv us) :
  ∃ g cap v y us', sv = .slice (some ⟨g, 0, none⟩) (T.length + 1) cap ∧ T.length + 1 ≤ cap ∧ base ≤ g ∧ g < W.heap.size ∧ W.cell? ⟨g, T.length * 2, none⟩ = some v ∧ W.cell? ⟨g, T.length * 2 + 1, none⟩ = some y ∧ NdX (Off sv) W d v ∧ NdX (Off sv) W e y ∧ Prs base W T (.slice (some ⟨g, 0, none⟩) T.length cap) us' := by
 have hrow := h.row
 rw [List.length_append] at hrow
 obtain ⟨g, cap, rfl⟩ := ownsRow_succ hrow
 obtain ⟨us', v, y, rfl, h1, h2, h3⟩ := h.cells.last
 have hl := h3.len
 have hg := hrow.lt g rfl
 refine ⟨g, cap, v, y, us', rfl, row_cap hrow, hg.1, hg.2, ?_, ?_, h1, h2, ownsRow_pop hl hrow, h3⟩
 ·rw [hrow.cellAt (T.length * 2) (show T.length * 2 < (T.length + 1) * 2 by omega), ← hl, List.getElem?_append_right (Nat.le_refl _)]
  simp
 ·rw [hrow.cellAt (T.length * 2 + 1) (show T.length * 2 + 1 < (T.length + 1) * 2 by omega), ← hl, List.getElem?_append_right (by omega)]
  rw [show us'.length + 1 - us'.length = 1 by omega]
  rfl
theorem pair_info : ∃ i, Tryz.prog.info? 104 = some i ∧ i.zero = some (.agg #[.nilIface, .nilIface]) ∧ i.size = 2 ∧ i.bytes = 32 := by
 have h : (Tryz.prog.info? 104).map (fun i => (i.zero, i.size, i.bytes)) = some (some (.agg #[.nilIface, .nilIface]), 2, 32) := by kernel_rfl
 obtain ⟨i, hi, he⟩ := Option.map_eq_some_iff.1 h
 injection he with h1 h2
 injection h2 with h2 h3
 exact ⟨i, hi, h1, h2, h3⟩
end Go.Proofs.YtjbnogjkgmkagaaGreatDoor
namespace Go.Proofs.YtjbnogjkgmkagaaGreatDoor
open Go Go.RowKit
theorem ndrw_off {g n n' cap b0 : Nat} {w : World} {l : List Nd} {a : Option Addr} {c : Nat} (h : NdRw (fun b => Off (.slice (some ⟨g, 0, none⟩) n cap) b ∨ b0 ≤ b) w l a c) (hg : g < b0) : NdRw (Off (.slice (some ⟨g, 0, none⟩) n' cap)) w l a c :=
 h.keep (Nat.le_refl _) (fun b hb _ => ⟨Or.elim hb (fun h => h) (fun h e => by simp [Value.ownBlock] at e; omega), fun _ => rfl⟩)
set_option linter.unusedSimpArgs false in
set_option maxRecDepth 100000 in
set_option maxHeartbeats 8000000 in
theorem psame_any (d e : Nd) (v y : Value) (w : World) (h : NdX (fun k => k < w.heap.size) w d v) (k : NdX (fun k => k < w.heap.size) w e y) (hsz : nsize d ≤ 4000000) :
  Calls Tryz.prog 28 #[v, y] w fun r w' => r = .returned (.bool (nsame d e)) ∧ Below w.heap.size w w' := by
 obtain ⟨i0, hi, hz0, hz1, hz2⟩ := pair_info
 obtain ⟨R, hR⟩ : ∃ R, R = nsame d e := ⟨_, rfl⟩
 rw [← hR]
 have HR := Lib.hid hR
 clear hR
 have hs1 : (∃ T q, v = .iface T q) ∨ v = .nilIface := h.elim fun _ h => nd_shape h
 have hs2 : (∃ T q, y = .iface T q) ∨ y = .nilIface := k.elim fun _ h => nd_shape h
 go_enter Tryz.func28, Tryz.ntmps28
 go_upto_region 1 with fail
 go_cut [5] from 11 (fun tv wx => ∃ us, Prs w.heap.size wx [(d, e)] tv us ∧ Below w.heap.size w wx)
 case first =>
  have hP : ∀ (v y : Value), NdX (fun k => k < w.heap.size) w d v → NdX (fun k => k < w.heap.size) w e y → Prs w.heap.size (w.alloc (.cells #[v, y] 104)) [(d, e)] (.slice (some ⟨w.heap.size, 0, none⟩) 1 1) [v, y] := by
   intro v y h k
   have hB := (Below.refl w.heap.size w).alloc (Nat.le_refl _) (.cells #[v, y] 104)
   have hk : ∀ b, b < w.heap.size → b < w.heap.size → Off (.slice (some ⟨w.heap.size, 0, none⟩) 1 1) b ∧ ∀ o, (w.alloc (.cells #[v, y] 104)).cell? ⟨b, o, none⟩ = w.cell? ⟨b, o, none⟩ := fun b hb _ =>
    ⟨fun e2 => by simp [Value.ownBlock] at e2; omega, fun o => hB.cell (p := ⟨b, o, none⟩) hb⟩
   exact ⟨World.ownsRow_lit w #[v, y] 1 (Nat.le_refl _) (by decide) rfl, v, y, [], rfl, h.keep hB.size hk, k.keep hB.size hk, rfl⟩
  have hP2 := hP v y h k
  clear hP h k
  rcases hs1 with ⟨T1, q1, rfl⟩ | rfl
  all_goals
   rcases hs2 with ⟨T2, q2, rfl⟩ | rfl
   all_goals
    go_wp2_with fail
    go_meet
    exact ⟨_, hP2, (Below.refl w.heap.size w).alloc (Nat.le_refl _) _⟩
 case rest =>
  clear hs1 hs2 h k
  obtain ⟨us0, hP0, hW0⟩ := hcut
  go_wp2_with fail
  go_loopg [5] (psize [(d, e)] + 1) (fun gk tv wr => ∃ T us pv, pv = tv ∧ Prs w.heap.size wr T pv us ∧ R = psame T ∧ psize T + 1 ≤ gk ∧ psize T ≤ 4000000 ∧ Below w.heap.size w wr)
  case atStart => exact ⟨_, us0, _, rfl, hP0, by rw [HR.out]; simp [psame], Nat.le_refl _, by rw [psize_one]; exact hsz, hW0⟩
  case round =>
   obtain ⟨T, us, pv, hpv, hP, hRT, hgk, hsT, hW⟩ := hrel
   subst hpv
   clear hP0 hW0
   rcases List.eq_nil_or_concat T with rfl | ⟨T, ⟨d1, e1⟩, rfl⟩
   ·obtain ⟨a0, c0, rfl⟩ : ∃ a c, pv = .slice a 0 c := by
     rcases hP.row.2 with ⟨e, _⟩ | ⟨g, cap, cur, e, _⟩
     ·exact ⟨_, _, e⟩
     ·exact ⟨_, _, e⟩
    have Hr := Lib.hid hRT
    clear hRT hgk hsT
    go_wp2_with fail
    go_ret
    exact ⟨by rw [Hr.out]; rfl, hW⟩
   ·rw [List.concat_eq_append] at hP hRT hgk hsT
    have hlT := psize_len T
    rw [psize_append, psize_one] at hgk hsT
    rw [psame_snoc, nsame_kids] at hRT
    have Hr := Lib.hid hRT
    have Hg := Lib.hid hgk
    have Hs := Lib.hid hsT
    have Hk := Lib.hid (nsize_kids d1)
    obtain ⟨g, cap, va, vb, us', rfl, hcap, hbg, hgl, q0, q1, hd1, he1, hP1⟩ := hP.top
    have Wn : IntKind.i64.wrap ((T.length : Int) + 1 - 1) = (T.length : Int) := by rw [IntWalk.i64_in _ (by omega)]; omega
    have hcp2 : (T.length : Int) ≤ (cap : Int) := by omega
    have hcp3 : ¬ cap = 0 := by omega
    have hT8 : T.length ≤ 4000000 := by omega
    clear hRT hgk hsT hP hlT
    go_upto_region 3 with fail
    go_cut [6] from 18 (fun x wx => ∃ p, x = .pointer (some ⟨p, 0, none⟩) ∧ wx.cell? ⟨p, 0, none⟩ = some va ∧ wx.cell? ⟨p, 1, none⟩ = some vb ∧ p < wx.heap.size ∧ Below wr.heap.size wr wx)
    case first =>
     have h1 : (∃ T q, va = .iface T q) ∨ va = .nilIface := hd1.elim fun _ h => nd_shape h
     have h2 : (∃ T q, vb = .iface T q) ∨ vb = .nilIface := he1.elim fun _ h => nd_shape h
     clear hd1 he1 hP1
     rcases h1 with ⟨T1, q1, rfl⟩ | rfl
     all_goals
      rcases h2 with ⟨T2, q2, rfl⟩ | rfl
      all_goals
       go_wp2_with fail
       go_meet
       have hbk := fun a b => Blk.new wr #[a, b] 104 _ rfl
       exact ⟨_, rfl, ((hbk _ _).cell 0).trans rfl, ((hbk _ _).cell 1).trans rfl, (hbk _ _).lt, (Below.refl wr.heap.size wr).alloc (Nat.le_refl _) _⟩
    case rest =>
     obtain ⟨p, rfl, p0, p1, hpl, hV⟩ := hcut
     clear q0 q1
     replace hd1 := hd1.below hV
     replace he1 := he1.below hV
     replace hP1 := hP1.mem hV
     replace hW := hW.trans (hV.mono hW.size)
     have hgl2 : g < wc.heap.size := Nat.lt_of_lt_of_le hgl hV.size
     have hI1 := fun w' (hb : Below wc.heap.size wc w') => inner_any d1 va w' (hd1.below hb)
     have hI2 := fun w' (hb : Below wc.heap.size wc w') => inner_any e1 vb w' (he1.below hb)
     have hAl := fun w' (hb : Below wc.heap.size wc w') => alike_any d1 e1 va vb w' (hd1.below hb) (he1.below hb)
     clear hV
     generalize nkids d1 = l at hI1 Hr Hk
     generalize nkids e1 = m at hI2 Hr
     generalize nhead d1 e1 = hh at hAl Hr
     clear hd1 he1
     go_upto_region 5 with fail
     go_cut [7, 8] from 29 (fun x z wx => ∃ a1 c1 a2 c2, x = .slice a1 l.length c1 ∧ z = .slice a2 m.length c2 ∧ NdRw (Off (.slice (some ⟨g, 0, none⟩) T.length cap)) wx l a1 c1 ∧ NdRw (Off (.slice (some ⟨g, 0, none⟩) T.length cap)) wx m a2 c2 ∧ Below wc.heap.size wc wx)
     case first =>
      clear hAl
      go_region_with (first
       | (go_at_call_of 42 va; refine (hI1 _ (by first | exact hX9 | exact Below.drew (Below.refl _ _))).mono ?_; rintro r w8 ⟨a1, c1, rfl, hR1, b8⟩; have hX8 : Below wc.heap.size wc w8 := (by first | exact hX9.trans (b8.mono hX9.size) | exact (Below.drew (Below.refl _ _)).trans b8); have k80 := (hX8.cell (p := ⟨p, 0, none⟩) hpl).trans p0; have k81 := (hX8.cell (p := ⟨p, 1, none⟩) hpl).trans p1; replace hR1 := ndrw_off (n' := T.length) hR1 (by first | exact Nat.lt_of_lt_of_le hgl2 hX9.size | exact hgl2); (try have hR2' := hR2.below b8))
       | (go_at_call_of 42 vb; refine (hI2 _ (by first | exact hX8 | exact Below.drew (Below.refl _ _))).mono ?_; rintro r w9 ⟨a2, c2, rfl, hR2, b9⟩; have hX9 : Below wc.heap.size wc w9 := (by first | exact hX8.trans (b9.mono hX8.size) | exact (Below.drew (Below.refl _ _)).trans b9); have k90 := (hX9.cell (p := ⟨p, 0, none⟩) hpl).trans p0; have k91 := (hX9.cell (p := ⟨p, 1, none⟩) hpl).trans p1; replace hR2 := ndrw_off (n' := T.length) hR2 (by first | exact Nat.lt_of_lt_of_le hgl2 hX8.size | exact hgl2); (try have hR1' := hR1.below b9)))
      all_goals go_wp2_with fail
      all_goals go_meet
      all_goals first | exact ⟨a1, c1, a2, c2, rfl, rfl, hR1', hR2, hX9⟩ | exact ⟨a1, c1, a2, c2, rfl, rfl, hR1, hR2', hX8⟩
     case rest =>
      obtain ⟨a1, c1, a2, c2, rfl, rfl, hR1, hR2, hV⟩ := hcut
      have hA2 := hAl _ hV
      clear hAl hI1 hI2
      have k0 := (hV.cell (p := ⟨p, 0, none⟩) hpl).trans p0
      have k1 := (hV.cell (p := ⟨p, 1, none⟩) hpl).trans p1
      clear p0 p1
      replace hP1 := hP1.mem hV
      replace hW := hW.trans (hV.mono hW.size)
      clear hV
      cases hh
      ·have Hf := Lib.hid (show R = false by rw [Hr.out, Bool.false_and, Bool.and_false])
       go_wp2_with (go_at_call 43; refine hA2.mono ?_; rintro r w3 ⟨rfl, b3⟩)
       go_ret
       exact ⟨nd_ret_bool Hf.out.symm, hW.trans (b3.mono hW.size)⟩
      ·by_cases hl : l.length = m.length
       ·have e1 : ((l.length : Int) != (m.length : Int)) = false := by simp [hl]
        have Hl := Lib.hid hl
        have HRn := Lib.hid (show R = psame (T ++ l.zip m) by rw [Hr.out, psame_append, nsames_zip _ _ hl]; rfl)
        have Hgn := Lib.hid (show psize (T ++ l.zip m) + 1 < gk by have h1 := Hg.out; have h2 := Hk.out; rw [psize_append, psize_zip _ _ hl]; omega)
        have Hsn := Lib.hid (show psize (T ++ l.zip m) ≤ 4000000 by have h1 := Hs.out; have h2 := Hk.out; rw [psize_append, psize_zip _ _ hl]; omega)
        have hbd : T.length + l.length + 1 ≤ 4000000 := by have h1 := Hs.out; have h2 := Hk.out; have h3 := psize_len T; have h4 := nsizes_length l; omega
        have hq1 := hR1.1
        have hq2 := hR1.2.1
        have hq3 := hR2.1
        have hq4 := hR2.2.1
        unfold maxLen at hq2 hq4
        clear hl Hr Hg Hs Hk HR
        go_wp2_with (go_at_call 43; refine hA2.mono ?_; rintro r w3 ⟨rfl, b3⟩)
        replace hP1 := hP1.mem b3
        replace hR1 := hR1.below b3
        replace hR2 := hR2.below b3
        replace hW := hW.trans (b3.mono hW.size)
        clear b3 hA2 k0 k1
        go_loopw [5, 50] (fun tv i wq => ∃ (k : Nat) (us2 : List Value) (pv : Value), k ≤ l.length ∧ i = .int .i64 k ∧ pv = tv ∧ Prs w.heap.size wq (T ++ (l.zip m).take k) pv us2 ∧ NdRw (Off pv) wq l a1 c1 ∧ NdRw (Off pv) wq m a2 c2 ∧ Below w.heap.size w wq) (fun _ i _ => l.length - (intOf i).toNat)
        case atStart => exact ⟨0, us', _, Nat.zero_le _, rfl, rfl, by rw [List.take_zero, List.append_nil]; exact hP1, hR1, hR2, hW⟩
        case round =>
         clear hP1 hR1 hR2 hW
         obtain ⟨k, us2, pv, hk, rfl, hpv, hP, hR1, hR2, hW⟩ := hrel
         subst hpv
         by_cases hlt : k < l.length
         ·have hkm : k < m.length := by have := Hl.out; omega
          obtain ⟨b1, o1, rfl, _, hb1, hx1⟩ := hR1.2.2 (by omega)
          obtain ⟨b2, o2, rfl, _, hb2, hx2⟩ := hR2.2.2 (by omega)
          obtain ⟨u1, hu1, hn1⟩ := hx1 k hlt
          obtain ⟨u2, hu2, hn2⟩ := hx2 k hkm
          have Hz := Lib.hid (zip_take l m k hlt hkm)
          have hlen2 : (T ++ (l.zip m).take k).length = T.length + k := by have := Hl.out; rw [List.length_append, List.length_take, List.length_zip]; omega
          have hA := fun o => (Below.refl wr.heap.size wr).alloc (Nat.le_refl _) o
          have hPd := fun o => hP.mem (hA o)
          have hrow := fun o => (hPd o).row
          rw [hlen2] at hrow
          have hm1 : T.length + k + 1 ≤ maxLen := by unfold maxLen; omega
          have hm2 : (T.length + k + 1) * 32 ≤ 140737488355328 := by omega
          clear hx1 hx2
          have hPush : ∀ (o : Obj) (w4 : World) (v4 : Value), w4.ownsRow w.heap.size 104 2 v4 (T.length + k + 1) (us2 ++ [u1, u2]) → (wr.alloc o).grownBy w4 pv.ownBlock → (v4.ownBlock = pv.ownBlock ∨ v4.ownBlock = some (wr.alloc o).heap.size) →
            Prs w.heap.size w4 (T ++ (l.zip m).take (k + 1)) v4 (us2 ++ [u1, u2]) ∧ NdRw (Off v4) w4 l (some ⟨b1, o1, none⟩) c1 ∧ NdRw (Off v4) w4 m (some ⟨b2, o2, none⟩) c2 ∧ Below w.heap.size w w4 := by
           intro o w4 v4 hown hgrow hat
           have hkp := off_grown hgrow hat
           refine ⟨?_, (hR1.below (hA o)).keep hgrow.size hkp, (hR2.below (hA o)).keep hgrow.size hkp, (hW.trans ((hA o).mono hW.size)).grown hgrow (Nat.le_trans hW.size (hA o).size) (fun k hk => (hP.row.lt k hk).1)⟩
           rw [Hz.out, ← List.append_assoc]
           exact (hPd o).push (hn1.below (hA o)) (hn2.below (hA o)) (by rw [hlen2]; exact hown) hgrow hat
          have h1 : (∃ T q, u1 = .iface T q) ∨ u1 = .nilIface := hn1.elim fun _ h => nd_shape h
          have h2 : (∃ T q, u2 = .iface T q) ∨ u2 = .nilIface := hn2.elim fun _ h => nd_shape h
          have hbase := fun o => Nat.le_trans hW.size (hA o).size
          clear hPd hR1 hR2 hW hP hn1 hn2 hA hlen2
          rcases h1 with ⟨T1, r1, rfl⟩ | rfl
          all_goals
           rcases h2 with ⟨T2, r2, rfl⟩ | rfl
           all_goals
            go_wp2_with (at_builtin; refine wpList_append_any _ rfl _ _ 105 rfl w.heap.size 104 i0 (.agg #[.nilIface, .nilIface]) 2 32 Tryz.underlying105 hi hz0 hz1 hz2 rfl (by decide) _ _ _ rfl (hrow _) (some ⟨wr.heap.size, 0, none⟩) 1 1 [_, _] rfl rfl (fun _ => ⟨_, rfl, cell_two_new _ _ _ _⟩) (by intro y hy; simp at hy; rcases hy with rfl | rfl <;> rfl) hm1 hm2 (hbase _) ?_; intro v4 w4 hown hgrow hat)
            obtain ⟨g1, g2, g3, g4⟩ := hPush _ _ _ hown hgrow hat
            clear hrow hbase hPush hown hgrow hat
            go_roundw
            case rel => exact ⟨k + 1, _, _, by omega, by go_num, rfl, g1, g2, g3, g4⟩
            case measure => simp [intOf]; omega
         ·obtain rfl : k = l.length := by omega
          have hz2 : (l.zip m).take l.length = l.zip m := List.take_of_length_le (by rw [List.length_zip]; omega)
          rw [hz2] at hP
          go_wp2_with fail
          go_roundg (psize (T ++ l.zip m) + 1)
          case measure => exact Hgn.out
          case rel => exact ⟨_, _, _, rfl, hP, HRn.out, Nat.le_refl _, Hsn.out, hW⟩
       ·have e1 : ((l.length : Int) != (m.length : Int)) = true := by simp; omega
        have Hf := Lib.hid (show R = false by rw [Hr.out, nsames_len _ _ hl, Bool.and_false, Bool.and_false])
        clear hl
        go_wp2_with (go_at_call 43; refine hA2.mono ?_; rintro r w3 ⟨rfl, b3⟩)
        go_ret
        exact ⟨nd_ret_bool Hf.out.symm, hW.trans (b3.mono hW.size)⟩
end Go.Proofs.YtjbnogjkgmkagaaGreatDoor
namespace Go.Proofs.YtjbnogjkgmkagaaGreatDoor
open Go Go.RowKit
def adSameI (x y : Adr) (R : Bool) : Bool :=
 if x.kind = y.kind then (if x.kind = 1 ∨ x.kind = 4 then R else if x.kind = 3 then (match x.tree, y.tree with | some d, some e => nsame d e | _, _ => true) else true) else false
def AdFine (x : Adr) : Prop := x.kind = 3 → ∃ d, x.tree = some d ∧ nsize d ≤ 4000000
set_option linter.unusedVariables false in
set_option linter.unusedSimpArgs false in
set_option maxRecDepth 100000 in
set_option maxHeartbeats 4000000 in
theorem psameI_any (x y : Adr) (lx ly : Int) (sx sy : ByteArray) (tx ty : Value) (w : World) (hx : TrO (fun b => b < w.heap.size) w x.tree tx) (hy : TrO (fun b => b < w.heap.size) w y.tree ty) (fx : AdFine x) (fy : AdFine y) :
  Calls Tryz.prog 15 #[.agg #[.int .i64 (x.kind : Int), .int .i64 lx, .string sx, tx], .agg #[.int .i64 (y.kind : Int), .int .i64 ly, .string sy, ty]] w fun e w' => e = .returned (.bool (adSameI x y (decide (lx = ly)))) ∧ Below w.heap.size w w' := by
 have hw2 : ∀ W2, Below w.heap.size w W2 → ∀ {t v}, TrO (fun b => b < w.heap.size) w t v → TrO (fun b => b < W2.heap.size) W2 t v := fun W2 hb t v h => TrO.keep hb.size (fun b hb1 hl => ⟨Nat.lt_of_lt_of_le hl hb.size, fun o => hb.cell (p := ⟨b, o, none⟩) hl⟩) h
 have hX := Blk.new w #[.int .i64 (x.kind : Int), .int .i64 lx, .string sx, tx] 38 _ rfl
 have hb1 := (Below.refl w.heap.size w).alloc (Nat.le_refl _) (.cells #[.int .i64 (x.kind : Int), .int .i64 lx, .string sx, tx] 38)
 have hs1 := World.size_alloc w (.cells #[.int .i64 (x.kind : Int), .int .i64 lx, .string sx, tx] 38)
 obtain ⟨W1, hW1⟩ : ∃ W1, w.alloc (.cells #[.int .i64 (x.kind : Int), .int .i64 lx, .string sx, tx] 38) = W1 := ⟨_, rfl⟩
 rw [hW1] at hX hb1 hs1
 have hY := Blk.new W1 #[.int .i64 (y.kind : Int), .int .i64 ly, .string sy, ty] 38 _ rfl
 have hb2 := hb1.alloc hb1.size (.cells #[.int .i64 (y.kind : Int), .int .i64 ly, .string sy, ty] 38)
 replace hX := hX.alloc (.cells #[.int .i64 (y.kind : Int), .int .i64 ly, .string sy, ty] 38)
 obtain ⟨W2, hW2⟩ : ∃ W2, W1.alloc (.cells #[.int .i64 (y.kind : Int), .int .i64 ly, .string sy, ty] 38) = W2 := ⟨_, rfl⟩
 rw [hW2] at hX hY hb2
 obtain ⟨p, hp⟩ : ∃ p, W1.heap.size = p := ⟨_, rfl⟩
 rw [hp] at hY
 obtain ⟨x0, x1, x2, x3, _, _, _, _, hxl⟩ := blk4 hX
 obtain ⟨y0, y1, y2, y3, _, _, _, _, hyl⟩ := blk4 hY
 have HB := Lib.hid hb2
 have HX := Lib.hid (hw2 _ hb2 hx)
 have HY := Lib.hid (hw2 _ hb2 hy)
 have hshx := hx.shape
 have hshy := hy.shape
 clear hX hY hb1 hb2 hs1 hx hy hw2
 by_cases hk : x.kind = y.kind
 ·have hkk : ((x.kind : Int) != (y.kind : Int)) = false := by simp [hk]
  by_cases h14 : x.kind = 1 ∨ x.kind = 4
  ·rw [show adSameI x y (decide (lx = ly)) = decide (lx = ly) by unfold adSameI; rw [if_pos hk, if_pos h14]]
   have hl : (lx == ly) = decide (lx = ly) := by
    by_cases h : lx = ly
    ·rw [decide_eq_true h]; simp [h]
    ·rw [decide_eq_false h]; simp; omega
   generalize decide (lx = ly) = R at hl ⊢
   rcases h14 with h | h
   ·have q1 : ((x.kind : Int) == 1) = true := by simp [h]
    clear h hk fx fy
    rcases hshx with ⟨T8, q8, rfl⟩ | rfl <;> rcases hshy with ⟨T9, q9, rfl⟩ | rfl
    all_goals
     go_enter Tryz.func15, Tryz.ntmps15
     go_wp2_with fail
     go_ret
     exact ⟨rfl, HB.out⟩
   ·have q1 : ((x.kind : Int) == 1) = false := by simp [h]
    have q4 : ((x.kind : Int) == 4) = true := by simp [h]
    clear h hk fx fy
    rcases hshx with ⟨T8, q8, rfl⟩ | rfl <;> rcases hshy with ⟨T9, q9, rfl⟩ | rfl
    all_goals
     go_enter Tryz.func15, Tryz.ntmps15
     go_wp2_with fail
     go_ret
     exact ⟨rfl, HB.out⟩
  ·have q1 : ((x.kind : Int) == 1) = false := by simp; omega
   have q4 : ((x.kind : Int) == 4) = false := by simp; omega
   by_cases h3 : x.kind = 3
   ·obtain ⟨d, hd, hsz⟩ := fx h3
    obtain ⟨e, he, _⟩ := fy (hk ▸ h3)
    rw [show adSameI x y (decide (lx = ly)) = nsame d e by unfold adSameI; rw [if_pos hk, if_neg h14, if_pos h3, hd, he]]
    have q3 : ((x.kind : Int) == 3) = true := by simp [h3]
    have hX := HX.out
    have hY := HY.out
    rw [hd] at hX
    rw [he] at hY
    have hS := psame_any d e tx ty W2 hX hY hsz
    generalize nsame d e = R at hS ⊢
    clear hk h14 h3 fx fy hX hY hd he
    rcases hshx with ⟨T8, q8, rfl⟩ | rfl <;> rcases hshy with ⟨T9, q9, rfl⟩ | rfl
    all_goals
     go_enter Tryz.func15, Tryz.ntmps15
     go_wp2_with (go_at_call 28; refine hS.mono ?_; clear hS; rintro e w3 ⟨rfl, b3⟩)
     go_ret
     exact ⟨rfl, HB.out.trans (b3.mono HB.out.size)⟩
   ·rw [show adSameI x y (decide (lx = ly)) = true by unfold adSameI; rw [if_pos hk, if_neg h14, if_neg h3]]
    have q3 : ((x.kind : Int) == 3) = false := by simp; omega
    clear hk h14 h3 fx fy
    rcases hshx with ⟨T8, q8, rfl⟩ | rfl <;> rcases hshy with ⟨T9, q9, rfl⟩ | rfl
    all_goals
     go_enter Tryz.func15, Tryz.ntmps15
     go_wp2_with fail
     go_ret
     exact ⟨rfl, HB.out⟩
 ·rw [show adSameI x y (decide (lx = ly)) = false by unfold adSameI; rw [if_neg hk]]
  have hkk : ((x.kind : Int) != (y.kind : Int)) = true := by simp; omega
  clear hk fx fy
  rcases hshx with ⟨T8, q8, rfl⟩ | rfl <;> rcases hshy with ⟨T9, q9, rfl⟩ | rfl
  all_goals
   go_enter Tryz.func15, Tryz.ntmps15
   go_wp2_with fail
   go_ret
   exact ⟨rfl, HB.out⟩
end Go.Proofs.YtjbnogjkgmkagaaGreatDoor
namespace Go.Proofs.YtjbnogjkgmkagaaGreatDoor
open Go Go.RowKit
def gdSameI (g h : Grd) (R1 R2 : Bool) : Bool := g.no == h.no && (adSameI g.a h.a R1 && adSameI g.b h.b R2)
structure Gd3 (B : Nat) (g h : Grd) (ta tb tc td : Value) (W : World) : Prop where
 a : TrO (fun b => b < B) W g.a.tree ta
 b : TrO (fun b => b < B) W g.b.tree tb
 c : TrO (fun b => b < B) W h.a.tree tc
 d : TrO (fun b => b < B) W h.b.tree td
abbrev Gd2 (g h : Grd) (ta tb tc td : Value) (W : World) : Prop := Gd3 W.heap.size g h ta tb tc td W
theorem Gd3.keep {B : Nat} {g h : Grd} {ta tb tc td : Value} {w W : World} (k : Gd3 B g h ta tb tc td w) (hs : w.heap.size ≤ W.heap.size) (hb : ∀ b, b < B → W.heap[b]? = w.heap[b]?) : Gd3 B g h ta tb tc td W := by
 have e : ∀ {t : Option Nd} {v : Value}, TrO (fun b => b < B) w t v → TrO (fun b => b < B) W t v := fun k => TrO.keep hs (fun b h1 _ => ⟨h1, fun o => World.cell?_of_block (w := w) (a := ⟨b, o, none⟩) (hb b h1)⟩) k
 exact ⟨e k.a, e k.b, e k.c, e k.d⟩
theorem tro_up {w W : World} (hb : Below w.heap.size w W) {t : Option Nd} {v : Value} (h : TrO (fun b => b < w.heap.size) w t v) : TrO (fun b => b < W.heap.size) W t v :=
 TrO.keep hb.size (fun b _ hl => ⟨Nat.lt_of_lt_of_le hl hb.size, fun o => hb.cell (p := ⟨b, o, none⟩) hl⟩) h
theorem gd2_up {g h : Grd} {ta tb tc td : Value} {w W : World} (k : Gd2 g h ta tb tc td w) (hb : Below w.heap.size w W) : Gd2 g h ta tb tc td W := ⟨tro_up hb k.a, tro_up hb k.b, tro_up hb k.c, tro_up hb k.d⟩
set_option linter.unusedVariables false in
set_option linter.unusedSimpArgs false in
set_option maxRecDepth 100000 in
set_option maxHeartbeats 4000000 in
theorem psameJ_any (g h : Grd) (la lb lc ld : Int) (sa sb sc sd : ByteArray) (ta tb tc td : Value) (w : World) (k : Gd2 g h ta tb tc td w) (fa : AdFine g.a) (fb : AdFine g.b) (fc : AdFine h.a) (fd : AdFine h.b) :
  Calls Tryz.prog 13 #[.agg #[.int .i64 (g.a.kind : Int), .int .i64 la, .string sa, ta, .int .i64 (g.b.kind : Int), .int .i64 lb, .string sb, tb, .bool g.no], .agg #[.int .i64 (h.a.kind : Int), .int .i64 lc, .string sc, tc, .int .i64 (h.b.kind : Int), .int .i64 ld, .string sd, td, .bool h.no]] w fun e w' => e = .returned (.bool (gdSameI g h (decide (la = lc)) (decide (lb = ld)))) ∧ Below w.heap.size w w' := by
 have hX := Blk.new w #[.int .i64 (g.a.kind : Int), .int .i64 la, .string sa, ta, .int .i64 (g.b.kind : Int), .int .i64 lb, .string sb, tb, .bool g.no] 40 _ rfl
 have hb1 := (Below.refl w.heap.size w).alloc (Nat.le_refl _) (.cells #[.int .i64 (g.a.kind : Int), .int .i64 la, .string sa, ta, .int .i64 (g.b.kind : Int), .int .i64 lb, .string sb, tb, .bool g.no] 40)
 obtain ⟨W1, hW1⟩ : ∃ W1, w.alloc (.cells #[.int .i64 (g.a.kind : Int), .int .i64 la, .string sa, ta, .int .i64 (g.b.kind : Int), .int .i64 lb, .string sb, tb, .bool g.no] 40) = W1 := ⟨_, rfl⟩
 rw [hW1] at hX hb1
 have hY := Blk.new W1 #[.int .i64 (h.a.kind : Int), .int .i64 lc, .string sc, tc, .int .i64 (h.b.kind : Int), .int .i64 ld, .string sd, td, .bool h.no] 40 _ rfl
 have hb2 := hb1.alloc hb1.size (.cells #[.int .i64 (h.a.kind : Int), .int .i64 lc, .string sc, tc, .int .i64 (h.b.kind : Int), .int .i64 ld, .string sd, td, .bool h.no] 40)
 replace hX := hX.alloc (.cells #[.int .i64 (h.a.kind : Int), .int .i64 lc, .string sc, tc, .int .i64 (h.b.kind : Int), .int .i64 ld, .string sd, td, .bool h.no] 40)
 obtain ⟨W2, hW2⟩ : ∃ W2, W1.alloc (.cells #[.int .i64 (h.a.kind : Int), .int .i64 lc, .string sc, tc, .int .i64 (h.b.kind : Int), .int .i64 ld, .string sd, td, .bool h.no] 40) = W2 := ⟨_, rfl⟩
 rw [hW2] at hX hY hb2
 obtain ⟨p, hp⟩ : ∃ p, W1.heap.size = p := ⟨_, rfl⟩
 rw [hp] at hY
 have HX := Lib.hid hX
 have HY := Lib.hid hY
 obtain ⟨⟨x0, x1, x2, x3, x4, x5, x6, x7, x8⟩, _, _, _, _, _, _, _, _, _, hxl⟩ := blk9v hX
 obtain ⟨⟨y0, y1, y2, y3, y4, y5, y6, y7, y8⟩, _, _, _, _, _, _, _, _, _, hyl⟩ := blk9v hY
 have HB := Lib.hid hb2
 have hK := gd2_up k hb2
 have hs1 := psameI_any g.a h.a la lc sa sc ta tc W2 hK.a hK.c fa fc
 have hs2 := fun w' (hb : Below W2.heap.size W2 w') => psameI_any g.b h.b lb ld sb sd tb td w' (gd2_up hK hb).b (gd2_up hK hb).d fb fd
 clear hX hY hb1 hb2 k hK fa fb fc fd
 unfold gdSameI
 generalize adSameI g.a h.a (decide (la = lc)) = R1 at hs1 ⊢
 generalize adSameI g.b h.b (decide (lb = ld)) = R2 at hs2 ⊢
 obtain ⟨n, hn⟩ : ∃ n, (g.no == h.no) = n := ⟨_, rfl⟩
 rw [hn]
 cases n
 ·clear hs1 hs2
  go_enter Tryz.func13, Tryz.ntmps13
  go_wp2_with fail
  go_ret
  exact ⟨rfl, HB.out⟩
 ·cases R1
  ·clear hs2
   go_enter Tryz.func13, Tryz.ntmps13
   go_wp2_with (go_at_call 15; refine hs1.mono ?_; clear hs1; rintro e w3 ⟨rfl, b3⟩)
   go_ret
   exact ⟨rfl, HB.out.trans (b3.mono HB.out.size)⟩
  ·go_enter Tryz.func13, Tryz.ntmps13
   go_wp2_with (first
    | (go_at_call 15; refine hs1.mono ?_; clear hs1; rintro e w3 ⟨rfl, b3⟩; have hs4 := hs2 w3 b3; clear hs2; have B3 := Lib.hid (HB.out.trans (b3.mono HB.out.size)); have X3 := Lib.hid (HX.out.below b3 HX.out.lt); have Y3 := Lib.hid (HY.out.below b3 HY.out.lt); clear b3 x0 x1 x2 x3 x4 x5 x6 x7 x8 hxl y0 y1 y2 y3 y4 y5 y6 y7 y8 hyl; obtain ⟨⟨x0, x1, x2, x3, x4, x5, x6, x7, x8⟩, _, _, _, _, _, _, _, _, _, hxl⟩ := blk9v X3.out; obtain ⟨⟨y0, y1, y2, y3, y4, y5, y6, y7, y8⟩, _, _, _, _, _, _, _, _, _, hyl⟩ := blk9v Y3.out)
    | (go_at_call 15; refine hs4.mono ?_; clear hs4; rintro e w4 ⟨rfl, b4⟩))
   go_ret
   exact ⟨rfl, B3.out.trans (b4.mono B3.out.size)⟩
end Go.Proofs.YtjbnogjkgmkagaaGreatDoor
namespace Go.Proofs.YtjbnogjkgmkagaaGreatDoor
open Go Go.RowKit
theorem blk25v {w : World} {b : Nat} {T : TypeId} {v0 v1 v2 v3 v4 v5 v6 v7 v8 v9 v10 v11 v12 v13 v14 v15 v16 v17 v18 v19 v20 v21 v22 v23 v24 : Value} (h : Blk w b #[v0, v1, v2, v3, v4, v5, v6, v7, v8, v9, v10, v11, v12, v13, v14, v15, v16, v17, v18, v19, v20, v21, v22, v23, v24] T) :
  (w.cell? ⟨b, 0, none⟩ = some v0 ∧ w.cell? ⟨b, 1, none⟩ = some v1 ∧ w.cell? ⟨b, 2, none⟩ = some v2 ∧ w.cell? ⟨b, 3, none⟩ = some v3 ∧ w.cell? ⟨b, 4, none⟩ = some v4 ∧ w.cell? ⟨b, 5, none⟩ = some v5 ∧ w.cell? ⟨b, 6, none⟩ = some v6 ∧ w.cell? ⟨b, 7, none⟩ = some v7 ∧ w.cell? ⟨b, 8, none⟩ = some v8 ∧ w.cell? ⟨b, 9, none⟩ = some v9 ∧ w.cell? ⟨b, 10, none⟩ = some v10 ∧ w.cell? ⟨b, 11, none⟩ = some v11 ∧ w.cell? ⟨b, 12, none⟩ = some v12 ∧ w.cell? ⟨b, 13, none⟩ = some v13 ∧ w.cell? ⟨b, 14, none⟩ = some v14 ∧ w.cell? ⟨b, 15, none⟩ = some v15 ∧ w.cell? ⟨b, 16, none⟩ = some v16 ∧ w.cell? ⟨b, 17, none⟩ = some v17 ∧ w.cell? ⟨b, 18, none⟩ = some v18 ∧ w.cell? ⟨b, 19, none⟩ = some v19 ∧ w.cell? ⟨b, 20, none⟩ = some v20 ∧ w.cell? ⟨b, 21, none⟩ = some v21 ∧ w.cell? ⟨b, 22, none⟩ = some v22 ∧ w.cell? ⟨b, 23, none⟩ = some v23 ∧ w.cell? ⟨b, 24, none⟩ = some v24) ∧ b < w.heap.size :=
 ⟨⟨(h.cell 0).trans rfl, (h.cell 1).trans rfl, (h.cell 2).trans rfl, (h.cell 3).trans rfl, (h.cell 4).trans rfl, (h.cell 5).trans rfl, (h.cell 6).trans rfl, (h.cell 7).trans rfl, (h.cell 8).trans rfl, (h.cell 9).trans rfl, (h.cell 10).trans rfl, (h.cell 11).trans rfl, (h.cell 12).trans rfl, (h.cell 13).trans rfl, (h.cell 14).trans rfl, (h.cell 15).trans rfl, (h.cell 16).trans rfl, (h.cell 17).trans rfl, (h.cell 18).trans rfl, (h.cell 19).trans rfl, (h.cell 20).trans rfl, (h.cell 21).trans rfl, (h.cell 22).trans rfl, (h.cell 23).trans rfl, (h.cell 24).trans rfl⟩, h.lt⟩
def dgA (ka la : Int) (sa : ByteArray) (ta : Tr) (aa : Option Addr) (ca : Nat) (kb lb : Int) (sb : ByteArray) (tb : Tr) (ab : Option Addr) (cb : Nat) (no : Bool) : Array Value := #[.int .i64 ka, .int .i64 la, .string sa, .int .i64 ta.kind, .int .u64 (ow ta.set 0), .int .u64 (ow ta.set 1), .int .u64 (ow ta.set 2), .int .u64 (ow ta.set 3), .slice aa ta.parts.length ca, .int .i64 ta.mn, .int .i64 ta.mx, .int .i64 ta.num, .int .i64 kb, .int .i64 lb, .string sb, .int .i64 tb.kind, .int .u64 (ow tb.set 0), .int .u64 (ow tb.set 1), .int .u64 (ow tb.set 2), .int .u64 (ow tb.set 3), .slice ab tb.parts.length cb, .int .i64 tb.mn, .int .i64 tb.mx, .int .i64 tb.num, .bool no]
set_option linter.unusedVariables false in
set_option linter.unusedSimpArgs false in
set_option maxRecDepth 100000 in
set_option maxHeartbeats 4000000 in
theorem dsameG_any (N : Nat) (ka la : Int) (sa : ByteArray) (ta : Tr) (aa : Option Addr) (ca : Nat) (kb lb : Int) (sb : ByteArray) (tb : Tr) (ab : Option Addr) (cb : Nat) (n1 : Bool) (kc lc : Int) (sc : ByteArray) (tc : Tr) (ac : Option Addr) (cc : Nat) (kd ld : Int) (sd : ByteArray) (td : Tr) (ad : Option Addr) (cd : Nat) (n2 : Bool) (w : World)
  (h1 : TrD N w ta aa ca) (h2 : TrD N w tb ab cb) (h3 : TrD N w tc ac cc) (h4 : TrD N w td ad cd) (g1 : tknown ta = true) (g2 : tknown tb = true) (g3 : tknown tc = true) (g4 : tknown td = true) :
  Calls Tryz.prog 14 #[.agg (dgA ka la sa ta aa ca kb lb sb tb ab cb n1), .agg (dgA kc lc sc tc ac cc kd ld sd td ad cd n2)] w fun e w' => e = .returned (.bool (ddSame ka kc (decide (la = lc)) (nsame (canon ta) (canon tc)) && (ddSame kb kd (decide (lb = ld)) (nsame (canon tb) (canon td)) && n1 == n2))) ∧ Below w.heap.size w w' := by
 obtain ⟨W1, hW1⟩ : ∃ W1, w.alloc (.cells (dgA ka la sa ta aa ca kb lb sb tb ab cb n1) 31) = W1 := ⟨_, rfl⟩
 have hX := blkOfAlloc hW1
 have hb1 := belowOfAlloc hW1
 obtain ⟨W2, hW2⟩ : ∃ W2, W1.alloc (.cells (dgA kc lc sc tc ac cc kd ld sd td ad cd n2) 31) = W2 := ⟨_, rfl⟩
 have hY := blkOfAlloc hW2
 have hX2 := hX.below (belowOfAlloc hW2) hX.lt
 have hb2 := hb1.trans ((belowOfAlloc hW2).mono hb1.size)
 obtain ⟨p, hp⟩ : ∃ p, W1.heap.size = p := ⟨_, rfl⟩
 rw [hp] at hY
 have s1 := dsame_any N ka la kc lc sa sc ta tc aa ac ca cc W2 (h1.below hb2) (h3.below hb2) g1 g3
 have s2 := fun w3 (b3 : Below W2.heap.size W2 w3) => dsame_any N kb lb kd ld sb sd tb td ab ad cb cd w3 ((h2.below hb2).below b3) ((h4.below hb2).below b3) g2 g4
 unfold daA at s1 s2
 unfold dgA at hX2 hY hW1 hW2 ⊢
 have HX := Lib.hid hX2
 have HY := Lib.hid hY
 have HB := Lib.hid hb2
 obtain ⟨⟨x0, x1, x2, x3, x4, x5, x6, x7, x8, x9, x10, x11, x12, x13, x14, x15, x16, x17, x18, x19, x20, x21, x22, x23, x24⟩, hxl⟩ := blk25v hX2
 obtain ⟨⟨y0, y1, y2, y3, y4, y5, y6, y7, y8, y9, y10, y11, y12, y13, y14, y15, y16, y17, y18, y19, y20, y21, y22, y23, y24⟩, hyl⟩ := blk25v hY
 clear hX hX2 hY hb1 hb2 h1 h2 h3 h4 g1 g2 g3 g4
 generalize ddSame ka kc (decide (la = lc)) (nsame (canon ta) (canon tc)) = R1 at s1 ⊢
 generalize ddSame kb kd (decide (lb = ld)) (nsame (canon tb) (canon td)) = R2 at s2 ⊢
 obtain ⟨n, hn⟩ : ∃ n, (n1 == n2) = n := ⟨_, rfl⟩
 rw [hn]
 cases R1
 ·clear s2
  go_enter Tryz.func14, Tryz.ntmps14
  go_wp2_with (go_at_call 16; refine s1.mono ?_; clear s1; rintro e w3 ⟨rfl, b3⟩)
  go_ret
  exact ⟨rfl, HB.out.trans (b3.mono HB.out.size)⟩
 ·cases R2 <;> cases n
  all_goals
   go_enter Tryz.func14, Tryz.ntmps14
   go_wp2_with (first
    | (go_at_call 16; refine s1.mono ?_; clear s1; rintro e w3 ⟨rfl, b3⟩; have s4 := s2 w3 b3; clear s2; have B3 := Lib.hid (HB.out.trans (b3.mono HB.out.size)); have X3 := Lib.hid (HX.out.below b3 HX.out.lt); have Y3 := Lib.hid (HY.out.below b3 HY.out.lt); clear b3 x0 x1 x2 x3 x4 x5 x6 x7 x8 x9 x10 x11 x12 x13 x14 x15 x16 x17 x18 x19 x20 x21 x22 x23 x24 hxl y0 y1 y2 y3 y4 y5 y6 y7 y8 y9 y10 y11 y12 y13 y14 y15 y16 y17 y18 y19 y20 y21 y22 y23 y24 hyl; obtain ⟨⟨x0, x1, x2, x3, x4, x5, x6, x7, x8, x9, x10, x11, x12, x13, x14, x15, x16, x17, x18, x19, x20, x21, x22, x23, x24⟩, hxl⟩ := blk25v X3.out; obtain ⟨⟨y0, y1, y2, y3, y4, y5, y6, y7, y8, y9, y10, y11, y12, y13, y14, y15, y16, y17, y18, y19, y20, y21, y22, y23, y24⟩, hyl⟩ := blk25v Y3.out)
    | (go_at_call 16; refine s4.mono ?_; clear s4; rintro e w4 ⟨rfl, b4⟩; replace x24 : w4.cell? ⟨w.heap.size, 24, none⟩ = some (.bool n1) := (b4.cell (p := ⟨_, 24, none⟩) hxl).trans x24; replace y24 : w4.cell? ⟨p, 24, none⟩ = some (.bool n2) := (b4.cell (p := ⟨_, 24, none⟩) hyl).trans y24; clear x0 x1 x2 x3 x4 x5 x6 x7 x8 x9 x10 x11 x12 x13 x14 x15 x16 x17 x18 x19 x20 x21 x22 x23 y0 y1 y2 y3 y4 y5 y6 y7 y8 y9 y10 y11 y12 y13 y14 y15 y16 y17 y18 y19 y20 y21 y22 y23))
   go_ret
   exact ⟨by simp [hn], B3.out.trans (b4.mono B3.out.size)⟩
def drV (b : Bool) (T : TypeId) (q : Value) : Value := if b = true then .iface T q else .nilIface
def drTree (kd : Int) (t : Tr) : Option Nd := if kd = 3 then some (canon t) else none
set_option linter.unusedVariables false in
set_option linter.unusedSimpArgs false in
set_option maxRecDepth 100000 in
set_option maxHeartbeats 4000000 in
theorem dreal_any (N : Nat) (kd ln : Int) (s : ByteArray) (t : Tr) (a : Option Addr) (cap : Nat) (w : World) (h : TrD N w t a cap) (hs : nsize (canon t) ≤ 4000000) :
  Calls Tryz.prog 27 #[.agg (daA kd ln s t a cap)] w fun e w' => ∃ T q, e = .returned (.agg #[.int .i64 kd, .int .i64 ln, .string s, drV (decide (kd = 3)) T q]) ∧ TrO (fun b => w.heap.size ≤ b) w' (drTree kd t) (drV (decide (kd = 3)) T q) ∧ Below w.heap.size w w' := by
 obtain ⟨W1, hW1⟩ : ∃ W1, w.alloc (.cells (daA kd ln s t a cap) 29) = W1 := ⟨_, rfl⟩
 have hX := blkOfAlloc hW1
 have hb1 := belowOfAlloc hW1
 obtain ⟨W2, hW2⟩ : ∃ W2, W1.alloc (.cells adZ 38) = W2 := ⟨_, rfl⟩
 have hY0 := blkOfAlloc hW2
 have hX2 := hX.below (belowOfAlloc hW2) hX.lt
 have hb2 := hb1.trans ((belowOfAlloc hW2).mono hb1.size)
 obtain ⟨p, hp⟩ : ∃ p, W1.heap.size = p := ⟨_, rfl⟩
 have Hwp := Lib.hid (show w.heap.size ≤ p by rw [← hp]; exact hb1.size)
 rw [hp] at hY0
 unfold daA at hX hX2 hW1 ⊢
 have HB := Lib.hid hb2
 have HX := Lib.hid hX2
 have HY := Lib.hid hY0
 have HH := Lib.hid h
 obtain ⟨⟨x0, x1, x2⟩, ⟨x3, x4, x5, x6, x7, x8, x9, xa, xb⟩, hxl⟩ := blk12v hX2
 clear hX hX2 hY0 hb1 hb2 h
 go_enter Tryz.func27, Tryz.ntmps27
 go_upto_region 2 with fail
 generalize hW3 : W2.alloc _ = W3
 have HB3 := Lib.hid (HB.out.trans ((belowOfAlloc hW3).mono HB.out.size))
 have HX3 := Lib.hid (HX.out.below (belowOfAlloc hW3) HX.out.lt)
 have HY3 := Lib.hid (HY.out.below (belowOfAlloc hW3) HY.out.lt)
 have HQ3 := Lib.hid (blkOfAlloc hW3)
 obtain ⟨q, hq⟩ : ∃ q, W2.heap.size = q := ⟨_, rfl⟩
 have Hpq := Lib.hid (show p < q by rw [← hq]; exact HY.out.lt)
 rw [hq] at HQ3 ⊢
 clear x0 x1 x2 x3 x4 x5 x6 x7 x8 x9 xa xb hxl hW1 hW2 hW3 hp hq
 obtain ⟨⟨x0, x1, x2⟩, ⟨x3, x4, x5, x6, x7, x8, x9, xa, xb⟩, hxl⟩ := blk12v HX3.out
 obtain ⟨y0, y1, y2, y3, v0, v1, v2, v3, hyl⟩ := blk4 HY3.out
 obtain ⟨q0, q1, q2, q3, u0, u1, u2, u3, hql⟩ := blk4 HQ3.out
 by_cases h3 : kd = 3
 ·have e3 : (kd == 3) = true := by simp [h3]
  have H3 := Lib.hid h3
  have hL := lreal_any N t a cap W3 (HH.out.below HB3.out) hs
  unfold tV at hL
  clear h3
  go_upto_region 4 with (go_at_call 41; refine hL.mono ?_; clear hL; rintro e w4 ⟨T4, v4, rfl, hN, b4⟩; have HN := Lib.hid hN; have HB4 := Lib.hid (HB3.out.trans (b4.mono HB3.out.size)); have HY4 := Lib.hid (HY3.out.below b4 HY3.out.lt); have HQ4 := Lib.hid (HQ3.out.below b4 HQ3.out.lt); have S4 := Lib.hid b4.size; clear hN b4 x0 x1 x2 x3 x4 x5 x6 x7 x8 x9 xa xb hxl y0 y1 y2 y3 v0 v1 v2 v3 hyl q0 q1 q2 q3 u0 u1 u2 u3; obtain ⟨q0, q1, q2, q3, u0, u1, u2, u3, hql4⟩ := blk4 HQ4.out)
  have HQ5 := Lib.hid (show Blk (w4.setCell ⟨q, 3, none⟩ (.iface T4 v4)) q #[.int .i64 kd, .int .i64 ln, .string s, .iface T4 v4] _ from HQ4.out.set 3 (.iface T4 v4))
  have o1 : ∀ b, b ≠ q → (w4.setCell ⟨q, 3, none⟩ (.iface T4 v4)).heap[b]? = w4.heap[b]? := fun b hb => Below.heap_setCell _ _ _ _ (fun e => hb e)
  have s1 : (w4.setCell ⟨q, 3, none⟩ (.iface T4 v4)).heap.size = w4.heap.size := by simp [World.setCell]
  have HY5 := Lib.hid (blk_like HY4.out (o1 p (by have := Hpq.out; omega)))
  have HB5 := Lib.hid (HB4.out.setCell (p := ⟨q, 3, none⟩) (by have := Hpq.out; have := Hwp.out; show w.heap.size ≤ q; omega) (.iface T4 v4))
  have HO := Lib.hid o1
  have HZ := Lib.hid s1
  clear o1 s1 q0 q1 q2 q3 u0 u1 u2 u3 hql4
  generalize w4.setCell ⟨q, 3, none⟩ (.iface T4 v4) = w5 at *
  obtain ⟨q0, q1, q2, q3, _⟩ := blk4 HQ5.out
  obtain ⟨y0, y1, y2, y3, v0, v1, v2, v3, hyl⟩ := blk4 HY5.out
  go_wp2_with fail
  with_reducible refine post4 HB5.out HY5.out Hwp.out ?_
  intro w9 hB9 hk9 hs9 hz9
  clear y0 y1 y2 y3 v0 v1 v2 v3 hyl q0 q1 q2 q3
  obtain ⟨y0, y1, y2, y3, _⟩ := blk4 hk9
  refine bodyPost_ret (v := .agg #[.int .i64 kd, .int .i64 ln, .string s, .iface T4 v4]) (by simp [results, Tryz.results27, go_sem, y0, y1, y2, y3]) rfl ?_
  refine ⟨T4, v4, by rw [decide_eq_true H3.out]; rfl, ?_, hB9⟩
  rw [decide_eq_true H3.out, show drTree kd t = some (canon t) by unfold drTree; rw [if_pos H3.out]]
  show TrO _ w9 _ (.iface T4 v4)
  refine TrO.keep (w := w4) (t := some (canon t)) (by rw [hz9, HZ.out]; exact Nat.le_refl _) (fun b hb hl => ⟨by have := HB3.out.size; omega, fun o => World.cell?_of_block (w := w4) (a := ⟨b, o, none⟩) ((hs9 b ?_).trans (HO.out b ?_))⟩) (show TrO (fun b => W3.heap.size ≤ b) w4 (some (canon t)) _ from ⟨_, HN.out⟩)
  ·have := Hpq.out; omega
  ·omega
 ·have e3 : (kd == 3) = false := by simp [h3]
  have H3 := Lib.hid h3
  clear h3
  go_wp2_with fail
  with_reducible refine post4 HB3.out HY3.out Hwp.out ?_
  intro w9 hB9 hk9 hs9 hz9
  clear y0 y1 y2 y3 v0 v1 v2 v3 hyl q0 q1 q2 q3 u0 u1 u2 u3 hql
  obtain ⟨y0, y1, y2, y3, _⟩ := blk4 hk9
  refine bodyPost_ret (v := .agg #[.int .i64 kd, .int .i64 ln, .string s, .nilIface]) (by simp [results, Tryz.results27, go_sem, y0, y1, y2, y3]) rfl ?_
  refine ⟨0, .nilIface, by rw [decide_eq_false H3.out]; rfl, ?_, hB9⟩
  rw [decide_eq_false H3.out, show drTree kd t = none by unfold drTree; rw [if_neg H3.out]]
  rfl
end Go.Proofs.YtjbnogjkgmkagaaGreatDoor
