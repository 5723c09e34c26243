/- The proof's texts NdPrS, Idx, ShDD, Cmn: what the claim reaches of them. -/
import Derived.Test.YtpmeicclngckeaaGreatDoorBk13
import Derived.Test.YtpmeicclngckeaaGreatDoorBk14
import Derived.Test.YtpmeicclngckeaaGreatDoorBk03
import Derived.Deep.LoopGhost
import Derived.Deep.DeepCutAuto
import Derived.Deep.RegionWith
import Derived.Test.YtpmeicclngckeaaGreatDoorBk05
import Derived.Shelf.Strings.Search3
import Derived.Shelf.Strings.Prefix
import Derived.Lib.IndexMore
import Derived.Test.YtpmeicclngckeaaGreatDoorBk02
import Derived.Laws.BytesArg
import Derived.Test.YtpmeicclngckeaaGreatDoorBk12
import Derived.Deep.RegionHeld3
import Derived.BigQuiet
import Derived.Test.YtpmeicclngckeaaGreatDoorBk08
import Derived.Test.YtpmeicclngckeaaGreatDoorBk01
import Derived.Deep.QuietTactic
import Derived.Deep.CutBlock
import Derived.Deep.RegionLaw
import Derived.Deep.AppendLies
import Derived.Test.YtpmeicclngckeaaGreatDoorBk06
namespace Go.Proofs.YtpmeicclngckeaaGreatDoor
open Go Go.RowKit
def psame (T : List (Nd × Nd)) : Bool := T.all (fun p => nsame p.1 p.2)
def psize (T : List (Nd × Nd)) : Nat := nsizes (T.map Prod.fst)
theorem psame_snoc (T : List (Nd × Nd)) (d e : Nd) : psame (T ++ [(d, e)]) = (psame T && nsame d e) := by unfold psame; rw [List.all_append]; simp
theorem psame_append (T U : List (Nd × Nd)) : psame (T ++ U) = (psame T && psame U) := by unfold psame; rw [List.all_append]
theorem nsames_zip (l m : List Nd) (h : l.length = m.length) : nsames l m = psame (l.zip m) := by
  induction l generalizing m with
  | nil =>
    cases m with
    | nil => rfl
    | cons e es => simp at h
  | cons d ds ih =>
    cases m with
    | nil => simp at h
    | cons e es => rw [nsames, ih es (by simpa using h)]; rfl
theorem psize_append (T U : List (Nd × Nd)) : psize (T ++ U) = psize T + psize U := by unfold psize; rw [List.map_append, nsizes_append]
theorem psize_one (d e : Nd) : psize [(d, e)] = nsize d := by simp [psize, nsizes]
theorem psize_zip (l m : List Nd) (h : l.length = m.length) : psize (l.zip m) = nsizes l := by unfold psize; rw [List.map_fst_zip (by omega)]
theorem psize_len (T : List (Nd × Nd)) : T.length ≤ psize T := by have := nsizes_length (T.map Prod.fst); unfold psize; simpa using this
theorem zip_take (l m : List Nd) (k : Nat) (h1 : k < l.length) (h2 : k < m.length) : (l.zip m).take (k + 1) = (l.zip m).take k ++ [(l[k], m[k])] := by
  rw [List.take_succ_eq_append_getElem (by rw [List.length_zip]; omega), List.getElem_zip]
def Off (sv : Value) (b : Nat) : Prop := sv.ownBlock ≠ some b
def PrC (G : Nat → Prop) (W : World) : List (Nd × Nd) → List Value → Prop
  | [], us => us = []
  | x :: s, us => ∃ v y us', us = v :: y :: us' ∧ NdX G W x.1 v ∧ NdX G W x.2 y ∧ PrC G W s us'
theorem PrC.len {G : Nat → Prop} {W : World} : ∀ {s : List (Nd × Nd)} {us : List Value}, PrC G W s us → us.length = s.length * 2
  | [], us, h => by rw [show us = [] from h]; rfl
  | x :: s, us, ⟨v, y, us', h, _, _, h4⟩ => by rw [h]; have := PrC.len h4; simp [this]; omega
theorem PrC.keep {F G : Nat → Prop} {W W' : World} (hs : W.heap.size ≤ W'.heap.size) (hF : ∀ b, F b → b < W.heap.size → G b ∧ ∀ o, W'.cell? ⟨b, o, none⟩ = W.cell? ⟨b, o, none⟩) :
    ∀ {s : List (Nd × Nd)} {us : List Value}, PrC F W s us → PrC G W' s us
  | [], _, h => h
  | _ :: _, _, ⟨v, y, us', h, h2, h3, h4⟩ => ⟨v, y, us', h, h2.keep hs hF, h3.keep hs hF, PrC.keep hs hF h4⟩
theorem PrC.snoc {G : Nat → Prop} {W : World} {d e : Nd} {v y : Value} (hd : NdX G W d v) (he : NdX G W e y) :
    ∀ {s : List (Nd × Nd)} {us : List Value}, PrC G W s us → PrC G W (s ++ [(d, e)]) (us ++ [v, y])
  | [], us, h => by obtain rfl : us = [] := h; exact ⟨v, y, [], rfl, hd, he, rfl⟩
  | _ :: _, _, ⟨v', y', us', h, h2, h3, h4⟩ => ⟨v', y', _, by rw [h]; rfl, h2, h3, PrC.snoc hd he h4⟩
theorem PrC.last {G : Nat → Prop} {W : World} {d e : Nd} :
    ∀ {s : List (Nd × Nd)} {us : List Value}, PrC G W (s ++ [(d, e)]) us → ∃ us' v y, us = us' ++ [v, y] ∧ NdX G W d v ∧ NdX G W e y ∧ PrC G W s us'
  | [], us, ⟨v, y, us', h, h2, h3, h4⟩ => by obtain rfl : us' = [] := h4; exact ⟨[], v, y, h, h2, h3, rfl⟩
  | x :: s, us, ⟨v', y', us', h, h2, h3, h4⟩ => by
    obtain ⟨us2, v, y, e, g2, g3, g4⟩ := PrC.last h4
    exact ⟨v' :: y' :: us2, v, y, by rw [h, e]; rfl, g2, g3, v', y', us2, rfl, h2, h3, g4⟩
structure Prs (base : Nat) (W : World) (T : List (Nd × Nd)) (sv : Value) (us : List Value) : Prop where
  row : W.ownsRow base 142 2 sv T.length us
  cells : PrC (Off sv) W T us
theorem off_below {sv : Value} {W W' : World} (hb : Below W.heap.size W W') : ∀ b, Off sv b → b < W.heap.size → Off sv b ∧ ∀ o, W'.cell? ⟨b, o, none⟩ = W.cell? ⟨b, o, none⟩ :=
  fun b hf hlt => ⟨hf, fun o => hb.cell (p := ⟨b, o, none⟩) hlt⟩
theorem off_grown {sv v' : Value} {W W' : World} (hg : W.grownBy W' sv.ownBlock) (hat : v'.ownBlock = sv.ownBlock ∨ v'.ownBlock = some W.heap.size) : ∀ b, Off sv b → b < W.heap.size → Off v' b ∧ ∀ o, W'.cell? ⟨b, o, none⟩ = W.cell? ⟨b, o, none⟩ := by
  intro b hf hlt
  refine ⟨?_, fun o => World.cell?_of_block (w := W) (a := ⟨b, o, none⟩) (hg.block b hlt (fun e => hf e.symm))⟩
  rcases hat with e | e
  · unfold Off; rw [e]; exact hf
  · unfold Off; rw [e]; intro e2; injection e2 with e2; omega
theorem Prs.mem {base : Nat} {W W' : World} {T : List (Nd × Nd)} {sv : Value} {us : List Value} (h : Prs base W T sv us) (hb : Below W.heap.size W W') : Prs base W' T sv us :=
  ⟨own_row_same h.row (fun g hg => hb.block _ (h.row.lt g hg).2), h.cells.keep hb.size (off_below hb)⟩
theorem Prs.push {base : Nat} {W W' : World} {T : List (Nd × Nd)} {sv v' v y : Value} {us : List Value} {d e : Nd} (h : Prs base W T sv us) (hd : NdX (Off sv) W d v) (he : NdX (Off sv) W e y)
    (hown : W'.ownsRow base 142 2 v' (T.length + 1) (us ++ [v, y])) (hg : W.grownBy W' sv.ownBlock) (hat : v'.ownBlock = sv.ownBlock ∨ v'.ownBlock = some W.heap.size) : Prs base W' (T ++ [(d, e)]) v' (us ++ [v, y]) := by
  have hk := off_grown hg hat
  exact ⟨by rw [List.length_append]; exact hown, PrC.snoc (hd.keep hg.size hk) (he.keep hg.size hk) (h.cells.keep hg.size hk)⟩
theorem Prs.top {base : Nat} {W : World} {T : List (Nd × Nd)} {sv : Value} {us : List Value} {d e : Nd} (h : Prs base W (T ++ [(d, e)]) sv us) :
    ∃ g cap v y us', sv = .slice (some ⟨g, 0, none⟩) (T.length + 1) cap ∧ T.length + 1 ≤ cap ∧ base ≤ g ∧ g < W.heap.size ∧ W.cell? ⟨g, T.length * 2, none⟩ = some v ∧ W.cell? ⟨g, T.length * 2 + 1, none⟩ = some y ∧ NdX (Off sv) W d v ∧ NdX (Off sv) W e y ∧ Prs base W T (.slice (some ⟨g, 0, none⟩) T.length cap) us' := by
  have hrow := h.row
  rw [List.length_append] at hrow
  obtain ⟨g, cap, rfl⟩ := ownsRow_succ hrow
  obtain ⟨us', v, y, rfl, h1, h2, h3⟩ := h.cells.last
  have hl := h3.len
  have hg := hrow.lt g rfl
  refine ⟨g, cap, v, y, us', rfl, row_cap hrow, hg.1, hg.2, ?_, ?_, h1, h2, ownsRow_pop hl hrow, h3⟩
  · rw [hrow.cellAt (T.length * 2) (show T.length * 2 < (T.length + 1) * 2 by omega), ← hl, List.getElem?_append_right (Nat.le_refl _)]
    simp
  · rw [hrow.cellAt (T.length * 2 + 1) (show T.length * 2 + 1 < (T.length + 1) * 2 by omega), ← hl, List.getElem?_append_right (by omega)]
    rw [show us'.length + 1 - us'.length = 1 by omega]
    rfl
theorem pair_info : ∃ i, Tryz.prog.info? 142 = some i ∧ i.zero = some (.agg #[.nilIface, .nilIface]) ∧ i.size = 2 ∧ i.bytes = 32 := by
  have h : (Tryz.prog.info? 142).map (fun i => (i.zero, i.size, i.bytes)) = some (some (.agg #[.nilIface, .nilIface]), 2, 32) := by kernel_rfl
  obtain ⟨i, hi, he⟩ := Option.map_eq_some_iff.1 h
  injection he with h1 h2
  injection h2 with h2 h3
  exact ⟨i, hi, h1, h2, h3⟩
end Go.Proofs.YtpmeicclngckeaaGreatDoor
namespace Go.Proofs.YtpmeicclngckeaaGreatDoor
open Go Go.RowKit
theorem ndrw_off {g n n' cap b0 : Nat} {w : World} {l : List Nd} {a : Option Addr} {c : Nat} (h : NdRw (fun b => Off (.slice (some ⟨g, 0, none⟩) n cap) b ∨ b0 ≤ b) w l a c) (hg : g < b0) : NdRw (Off (.slice (some ⟨g, 0, none⟩) n' cap)) w l a c :=
  h.keep (Nat.le_refl _) (fun b hb _ => ⟨Or.elim hb (fun h => h) (fun h e => by simp [Value.ownBlock] at e; omega), fun _ => rfl⟩)
set_option linter.unusedSimpArgs false in
set_option maxRecDepth 100000 in
set_option maxHeartbeats 8000000 in
theorem psame_any (d e : Nd) (v y : Value) (w : World) (h : NdX (fun k => k < w.heap.size) w d v) (k : NdX (fun k => k < w.heap.size) w e y) (hsz : nsize d ≤ 4000000) :
    Calls Tryz.prog 46 #[v, y] w fun r w' => r = .returned (.bool (nsame d e)) ∧ Below w.heap.size w w' := by
  obtain ⟨i0, hi, hz0, hz1, hz2⟩ := pair_info
  obtain ⟨R, hR⟩ : ∃ R, R = nsame d e := ⟨_, rfl⟩
  rw [← hR]
  have HR := Lib.hid hR
  clear hR
  have hs1 : (∃ T q, v = .iface T q) ∨ v = .nilIface := h.elim fun _ h => nd_shape h
  have hs2 : (∃ T q, y = .iface T q) ∨ y = .nilIface := k.elim fun _ h => nd_shape h
  go_enter Tryz.func46, Tryz.ntmps46
  go_upto_region 1 with fail
  go_cut [5] from 11 (fun tv wx => ∃ us, Prs w.heap.size wx [(d, e)] tv us ∧ Below w.heap.size w wx)
  case first =>
    have hP : ∀ (v y : Value), NdX (fun k => k < w.heap.size) w d v → NdX (fun k => k < w.heap.size) w e y → Prs w.heap.size (w.alloc (.cells #[v, y] 142)) [(d, e)] (.slice (some ⟨w.heap.size, 0, none⟩) 1 1) [v, y] := by
      intro v y h k
      have hB := (Below.refl w.heap.size w).alloc (Nat.le_refl _) (.cells #[v, y] 142)
      have hk : ∀ b, b < w.heap.size → b < w.heap.size → Off (.slice (some ⟨w.heap.size, 0, none⟩) 1 1) b ∧ ∀ o, (w.alloc (.cells #[v, y] 142)).cell? ⟨b, o, none⟩ = w.cell? ⟨b, o, none⟩ := fun b hb _ =>
        ⟨fun e2 => by simp [Value.ownBlock] at e2; omega, fun o => hB.cell (p := ⟨b, o, none⟩) hb⟩
      exact ⟨World.ownsRow_lit w #[v, y] 1 (Nat.le_refl _) (by decide) rfl, v, y, [], rfl, h.keep hB.size hk, k.keep hB.size hk, rfl⟩
    have hP2 := hP v y h k
    clear hP h k
    rcases hs1 with ⟨T1, q1, rfl⟩ | rfl
    all_goals
      rcases hs2 with ⟨T2, q2, rfl⟩ | rfl
      all_goals
        go_wp2_with fail
        go_meet
        exact ⟨_, hP2, (Below.refl w.heap.size w).alloc (Nat.le_refl _) _⟩
  case rest =>
    clear hs1 hs2 h k
    obtain ⟨us0, hP0, hW0⟩ := hcut
    go_wp2_with fail
    go_loopg [5] (psize [(d, e)] + 1) (fun gk tv wr => ∃ T us pv, pv = tv ∧ Prs w.heap.size wr T pv us ∧ R = psame T ∧ psize T + 1 ≤ gk ∧ psize T ≤ 4000000 ∧ Below w.heap.size w wr)
    case atStart => exact ⟨_, us0, _, rfl, hP0, by rw [HR.out]; simp [psame], Nat.le_refl _, by rw [psize_one]; exact hsz, hW0⟩
    case round =>
      obtain ⟨T, us, pv, hpv, hP, hRT, hgk, hsT, hW⟩ := hrel
      subst hpv
      clear hP0 hW0
      rcases List.eq_nil_or_concat T with rfl | ⟨T, ⟨d1, e1⟩, rfl⟩
      · obtain ⟨a0, c0, rfl⟩ : ∃ a c, pv = .slice a 0 c := by
          rcases hP.row.2 with ⟨e, _⟩ | ⟨g, cap, cur, e, _⟩
          · exact ⟨_, _, e⟩
          · exact ⟨_, _, e⟩
        have Hr := Lib.hid hRT
        clear hRT hgk hsT
        go_wp2_with fail
        go_ret
        exact ⟨by rw [Hr.out]; rfl, hW⟩
      · rw [List.concat_eq_append] at hP hRT hgk hsT
        have hlT := psize_len T
        rw [psize_append, psize_one] at hgk hsT
        rw [psame_snoc, nsame_kids] at hRT
        have Hr := Lib.hid hRT
        have Hg := Lib.hid hgk
        have Hs := Lib.hid hsT
        have Hk := Lib.hid (nsize_kids d1)
        obtain ⟨g, cap, va, vb, us', rfl, hcap, hbg, hgl, q0, q1, hd1, he1, hP1⟩ := hP.top
        have Wn : IntKind.i64.wrap ((T.length : Int) + 1 - 1) = (T.length : Int) := by rw [IntWalk.i64_in _ (by omega)]; omega
        have hcp2 : (T.length : Int) ≤ (cap : Int) := by omega
        have hcp3 : ¬ cap = 0 := by omega
        have hT8 : T.length ≤ 4000000 := by omega
        clear hRT hgk hsT hP hlT
        go_upto_region 3 with fail
        go_cut [6] from 18 (fun x wx => ∃ p, x = .pointer (some ⟨p, 0, none⟩) ∧ wx.cell? ⟨p, 0, none⟩ = some va ∧ wx.cell? ⟨p, 1, none⟩ = some vb ∧ p < wx.heap.size ∧ Below wr.heap.size wr wx)
        case first =>
          have h1 : (∃ T q, va = .iface T q) ∨ va = .nilIface := hd1.elim fun _ h => nd_shape h
          have h2 : (∃ T q, vb = .iface T q) ∨ vb = .nilIface := he1.elim fun _ h => nd_shape h
          clear hd1 he1 hP1
          rcases h1 with ⟨T1, q1, rfl⟩ | rfl
          all_goals
            rcases h2 with ⟨T2, q2, rfl⟩ | rfl
            all_goals
              go_wp2_with fail
              go_meet
              have hbk := fun a b => Blk.new wr #[a, b] 142 _ rfl
              exact ⟨_, rfl, ((hbk _ _).cell 0).trans rfl, ((hbk _ _).cell 1).trans rfl, (hbk _ _).lt, (Below.refl wr.heap.size wr).alloc (Nat.le_refl _) _⟩
        case rest =>
          obtain ⟨p, rfl, p0, p1, hpl, hV⟩ := hcut
          clear q0 q1
          replace hd1 := hd1.below hV
          replace he1 := he1.below hV
          replace hP1 := hP1.mem hV
          replace hW := hW.trans (hV.mono hW.size)
          have hgl2 : g < wc.heap.size := Nat.lt_of_lt_of_le hgl hV.size
          have hI1 := fun w' (hb : Below wc.heap.size wc w') => inner_any d1 va w' (hd1.below hb)
          have hI2 := fun w' (hb : Below wc.heap.size wc w') => inner_any e1 vb w' (he1.below hb)
          have hAl := fun w' (hb : Below wc.heap.size wc w') => alike_any d1 e1 va vb w' (hd1.below hb) (he1.below hb)
          clear hV
          generalize nkids d1 = l at hI1 Hr Hk
          generalize nkids e1 = m at hI2 Hr
          generalize nhead d1 e1 = hh at hAl Hr
          clear hd1 he1
          go_upto_region 5 with fail
          go_cut [7, 8] from 29 (fun x z wx => ∃ a1 c1 a2 c2, x = .slice a1 l.length c1 ∧ z = .slice a2 m.length c2 ∧ NdRw (Off (.slice (some ⟨g, 0, none⟩) T.length cap)) wx l a1 c1 ∧ NdRw (Off (.slice (some ⟨g, 0, none⟩) T.length cap)) wx m a2 c2 ∧ Below wc.heap.size wc wx)
          case first =>
            clear hAl
            go_region_with (first
              | (go_at_call_of 75 va; refine (hI1 _ (by first | exact hX9 | exact Below.drew (Below.refl _ _))).mono ?_; rintro r w8 ⟨a1, c1, rfl, hR1, b8⟩; have hX8 : Below wc.heap.size wc w8 := (by first | exact hX9.trans (b8.mono hX9.size) | exact (Below.drew (Below.refl _ _)).trans b8); have k80 := (hX8.cell (p := ⟨p, 0, none⟩) hpl).trans p0; have k81 := (hX8.cell (p := ⟨p, 1, none⟩) hpl).trans p1; replace hR1 := ndrw_off (n' := T.length) hR1 (by first | exact Nat.lt_of_lt_of_le hgl2 hX9.size | exact hgl2); (try have hR2' := hR2.below b8))
              | (go_at_call_of 75 vb; refine (hI2 _ (by first | exact hX8 | exact Below.drew (Below.refl _ _))).mono ?_; rintro r w9 ⟨a2, c2, rfl, hR2, b9⟩; have hX9 : Below wc.heap.size wc w9 := (by first | exact hX8.trans (b9.mono hX8.size) | exact (Below.drew (Below.refl _ _)).trans b9); have k90 := (hX9.cell (p := ⟨p, 0, none⟩) hpl).trans p0; have k91 := (hX9.cell (p := ⟨p, 1, none⟩) hpl).trans p1; replace hR2 := ndrw_off (n' := T.length) hR2 (by first | exact Nat.lt_of_lt_of_le hgl2 hX8.size | exact hgl2); (try have hR1' := hR1.below b9)))
            all_goals go_wp2_with fail
            all_goals go_meet
            all_goals first | exact ⟨a1, c1, a2, c2, rfl, rfl, hR1', hR2, hX9⟩ | exact ⟨a1, c1, a2, c2, rfl, rfl, hR1, hR2', hX8⟩
          case rest =>
            obtain ⟨a1, c1, a2, c2, rfl, rfl, hR1, hR2, hV⟩ := hcut
            have hA2 := hAl _ hV
            clear hAl hI1 hI2
            have k0 := (hV.cell (p := ⟨p, 0, none⟩) hpl).trans p0
            have k1 := (hV.cell (p := ⟨p, 1, none⟩) hpl).trans p1
            clear p0 p1
            replace hP1 := hP1.mem hV
            replace hW := hW.trans (hV.mono hW.size)
            clear hV
            cases hh
            · have Hf := Lib.hid (show R = false by rw [Hr.out, Bool.false_and, Bool.and_false])
              go_wp2_with (go_at_call 76; refine hA2.mono ?_; rintro r w3 ⟨rfl, b3⟩)
              go_ret
              exact ⟨nd_ret_bool Hf.out.symm, hW.trans (b3.mono hW.size)⟩
            · by_cases hl : l.length = m.length
              · have e1 : ((l.length : Int) != (m.length : Int)) = false := by simp [hl]
                have Hl := Lib.hid hl
                have HRn := Lib.hid (show R = psame (T ++ l.zip m) by rw [Hr.out, psame_append, nsames_zip _ _ hl]; rfl)
                have Hgn := Lib.hid (show psize (T ++ l.zip m) + 1 < gk by have h1 := Hg.out; have h2 := Hk.out; rw [psize_append, psize_zip _ _ hl]; omega)
                have Hsn := Lib.hid (show psize (T ++ l.zip m) ≤ 4000000 by have h1 := Hs.out; have h2 := Hk.out; rw [psize_append, psize_zip _ _ hl]; omega)
                have hbd : T.length + l.length + 1 ≤ 4000000 := by have h1 := Hs.out; have h2 := Hk.out; have h3 := psize_len T; have h4 := nsizes_length l; omega
                have hq1 := hR1.1
                have hq2 := hR1.2.1
                have hq3 := hR2.1
                have hq4 := hR2.2.1
                unfold maxLen at hq2 hq4
                clear hl Hr Hg Hs Hk HR
                go_wp2_with (go_at_call 76; refine hA2.mono ?_; rintro r w3 ⟨rfl, b3⟩)
                replace hP1 := hP1.mem b3
                replace hR1 := hR1.below b3
                replace hR2 := hR2.below b3
                replace hW := hW.trans (b3.mono hW.size)
                clear b3 hA2 k0 k1
                go_loopw [5, 50] (fun tv i wq => ∃ (k : Nat) (us2 : List Value) (pv : Value), k ≤ l.length ∧ i = .int .i64 k ∧ pv = tv ∧ Prs w.heap.size wq (T ++ (l.zip m).take k) pv us2 ∧ NdRw (Off pv) wq l a1 c1 ∧ NdRw (Off pv) wq m a2 c2 ∧ Below w.heap.size w wq) (fun _ i _ => l.length - (intOf i).toNat)
                case atStart => exact ⟨0, us', _, Nat.zero_le _, rfl, rfl, by rw [List.take_zero, List.append_nil]; exact hP1, hR1, hR2, hW⟩
                case round =>
                  clear hP1 hR1 hR2 hW
                  obtain ⟨k, us2, pv, hk, rfl, hpv, hP, hR1, hR2, hW⟩ := hrel
                  subst hpv
                  by_cases hlt : k < l.length
                  · have hkm : k < m.length := by have := Hl.out; omega
                    obtain ⟨b1, o1, rfl, _, hb1, hx1⟩ := hR1.2.2 (by omega)
                    obtain ⟨b2, o2, rfl, _, hb2, hx2⟩ := hR2.2.2 (by omega)
                    obtain ⟨u1, hu1, hn1⟩ := hx1 k hlt
                    obtain ⟨u2, hu2, hn2⟩ := hx2 k hkm
                    have Hz := Lib.hid (zip_take l m k hlt hkm)
                    have hlen2 : (T ++ (l.zip m).take k).length = T.length + k := by have := Hl.out; rw [List.length_append, List.length_take, List.length_zip]; omega
                    have hA := fun o => (Below.refl wr.heap.size wr).alloc (Nat.le_refl _) o
                    have hPd := fun o => hP.mem (hA o)
                    have hrow := fun o => (hPd o).row
                    rw [hlen2] at hrow
                    have hm1 : T.length + k + 1 ≤ maxLen := by unfold maxLen; omega
                    have hm2 : (T.length + k + 1) * 32 ≤ 140737488355328 := by omega
                    clear hx1 hx2
                    have hPush : ∀ (o : Obj) (w4 : World) (v4 : Value), w4.ownsRow w.heap.size 142 2 v4 (T.length + k + 1) (us2 ++ [u1, u2]) → (wr.alloc o).grownBy w4 pv.ownBlock → (v4.ownBlock = pv.ownBlock ∨ v4.ownBlock = some (wr.alloc o).heap.size) →
                        Prs w.heap.size w4 (T ++ (l.zip m).take (k + 1)) v4 (us2 ++ [u1, u2]) ∧ NdRw (Off v4) w4 l (some ⟨b1, o1, none⟩) c1 ∧ NdRw (Off v4) w4 m (some ⟨b2, o2, none⟩) c2 ∧ Below w.heap.size w w4 := by
                      intro o w4 v4 hown hgrow hat
                      have hkp := off_grown hgrow hat
                      refine ⟨?_, (hR1.below (hA o)).keep hgrow.size hkp, (hR2.below (hA o)).keep hgrow.size hkp, (hW.trans ((hA o).mono hW.size)).grown hgrow (Nat.le_trans hW.size (hA o).size) (fun k hk => (hP.row.lt k hk).1)⟩
                      rw [Hz.out, ← List.append_assoc]
                      exact (hPd o).push (hn1.below (hA o)) (hn2.below (hA o)) (by rw [hlen2]; exact hown) hgrow hat
                    have h1 : (∃ T q, u1 = .iface T q) ∨ u1 = .nilIface := hn1.elim fun _ h => nd_shape h
                    have h2 : (∃ T q, u2 = .iface T q) ∨ u2 = .nilIface := hn2.elim fun _ h => nd_shape h
                    have hbase := fun o => Nat.le_trans hW.size (hA o).size
                    clear hPd hR1 hR2 hW hP hn1 hn2 hA hlen2
                    rcases h1 with ⟨T1, r1, rfl⟩ | rfl
                    all_goals
                      rcases h2 with ⟨T2, r2, rfl⟩ | rfl
                      all_goals
                        go_wp2_with (at_builtin; refine wpList_append_any _ rfl _ _ 143 rfl w.heap.size 142 i0 (.agg #[.nilIface, .nilIface]) 2 32 Tryz.underlying143 hi hz0 hz1 hz2 rfl (by decide) _ _ _ rfl (hrow _) (some ⟨wr.heap.size, 0, none⟩) 1 1 [_, _] rfl rfl (fun _ => ⟨_, rfl, cell_two_new _ _ _ _⟩) (by intro y hy; simp at hy; rcases hy with rfl | rfl <;> rfl) hm1 hm2 (hbase _) ?_; intro v4 w4 hown hgrow hat)
                        obtain ⟨g1, g2, g3, g4⟩ := hPush _ _ _ hown hgrow hat
                        clear hrow hbase hPush hown hgrow hat
                        go_roundw
                        case rel => exact ⟨k + 1, _, _, by omega, by go_num, rfl, g1, g2, g3, g4⟩
                        case measure => simp [intOf]; omega
                  · obtain rfl : k = l.length := by omega
                    have hz2 : (l.zip m).take l.length = l.zip m := List.take_of_length_le (by rw [List.length_zip]; omega)
                    rw [hz2] at hP
                    go_wp2_with fail
                    go_roundg (psize (T ++ l.zip m) + 1)
                    case measure => exact Hgn.out
                    case rel => exact ⟨_, _, _, rfl, hP, HRn.out, Nat.le_refl _, Hsn.out, hW⟩
              · have e1 : ((l.length : Int) != (m.length : Int)) = true := by simp; omega
                have Hf := Lib.hid (show R = false by rw [Hr.out, nsames_len _ _ hl, Bool.and_false, Bool.and_false])
                clear hl
                go_wp2_with (go_at_call 76; refine hA2.mono ?_; rintro r w3 ⟨rfl, b3⟩)
                go_ret
                exact ⟨nd_ret_bool Hf.out.symm, hW.trans (b3.mono hW.size)⟩
end Go.Proofs.YtpmeicclngckeaaGreatDoor
namespace Go.Proofs.YtpmeicclngckeaaGreatDoor
open Go.RowKit Go.Shelf
theorem pconv2 (W : World) (x y : Int) : (convert 52 9 (.slice (some ⟨W.heap.size, 0, none⟩) 2 2)).run Tryz.prog (W.alloc (.cells #[.int .u8 x, .int .u8 y] 5)) = .ok (.string (strOfNums [x, y])) (W.alloc (.cells #[.int .u8 x, .int .u8 y] 5)) :=
  run_convert_bytes_arg _ 52 5 Tryz.underlying52 Tryz.underlying5 _ 0 2 2 [x, y] rfl (fun i hi => by
    rw [(Blk.new W _ _ _ rfl).cell]
    match i, hi with
    | 0, _ => rfl
    | 1, _ => rfl) _ Tryz.underlying9
theorem pconv2d (W : World) (x y : Int) : (convert 52 9 (.slice (some ⟨W.heap.size, 0, none⟩) 2 2)).run Tryz.prog (W.alloc (.cells #[.int .u8 x, .int .u8 y] 5)).drew = .ok (.string (strOfNums [x, y])) (W.alloc (.cells #[.int .u8 x, .int .u8 y] 5)).drew := pconv2 W.drew x y
theorem nums_two (x y : Nat) : (strOfNums [(x : Int), (y : Int)]).data.toList = [UInt8.ofNat x, UInt8.ofNat y] := rfl
theorem ext_list (s : ByteArray) (k : Nat) : (s.extract k s.size).data.toList = s.data.toList.drop k := by
  rw [ByteArray.data_extract, Array.toList_extract, List.extract_eq_take_drop]
  rw [List.take_of_length_le]
  simp
def iren : Go.Shelf.Ren := ⟨fun | 143 => 158 | 217 => 160 | 219 => 159 | 224 => 162 | 225 => 161 | 266 => 164 | 267 => 163 | 314 => 165 | n => n, fun | 3 => 3 | 4 => 4 | 5 => 5 | 9 => 9 | 46 => 180 | 51 => 200 | 146 => 230 | n => n, fun | 1 => 4 | n => n⟩
theorem ilays : Go.Proofs.Lays.n143 Tryz.prog iren := {
  mixed := by kernel_rfl
  f143 := Tryz.func158.trans (congrArg some (by kernel_rfl))
  f217 := Tryz.func160.trans (congrArg some (by kernel_rfl))
  f219 := Tryz.func159.trans (congrArg some (by kernel_rfl))
  f224 := Tryz.func162.trans (congrArg some (by kernel_rfl))
  f225 := Tryz.func161.trans (congrArg some (by kernel_rfl))
  f266 := Tryz.func164.trans (congrArg some (by kernel_rfl))
  f267 := Tryz.func163.trans (congrArg some (by kernel_rfl))
  f314 := Tryz.func165.trans (congrArg some (by kernel_rfl))
  t3 := Tryz.underlying3
  a3 := Tryz.isAgg3
  z3 := Tryz.sizeOf3
  v3 := Tryz.zeroValue3
  t4 := Tryz.underlying4
  a4 := Tryz.isAgg4
  z4 := Tryz.sizeOf4
  v4 := Tryz.zeroValue4
  t5 := Tryz.underlying5
  a5 := Tryz.isAgg5
  z5 := Tryz.sizeOf5
  v5 := Tryz.zeroValue5
  t9 := Tryz.underlying9
  a9 := Tryz.isAgg9
  z9 := Tryz.sizeOf9
  v9 := Tryz.zeroValue9
  t46 := Tryz.underlying180
  a46 := Tryz.isAgg180
  z46 := Tryz.sizeOf180
  v46 := Tryz.zeroValue180
  t51 := Tryz.underlying200
  a51 := Tryz.isAgg200
  z51 := Tryz.sizeOf200
  v51 := Tryz.zeroValue200
  t146 := Tryz.underlying230
  a146 := Tryz.isAgg230
  z146 := Tryz.sizeOf230
  v146 := Tryz.zeroValue230
  g1 := by kernel_rfl }
theorem index_any (s t : ByteArray) (m : Int) (w : World) (hs : s.size < 4294967281) (hm : w.cell? ⟨4, 0, none⟩ = some (.int .i64 m)) :
    Calls Tryz.prog 158 #[.string s, .string t] w fun e w' => e = .returned (.int .i64 (Lib.index s.data.toList t.data.toList)) ∧ w = w' :=
  (Any.strings_Index ilays s t m w hs hm).mono fun _ _ ⟨h1, h2⟩ => ⟨h1, h2.symm⟩
def pren : Go.Shelf.Ren := ⟨fun | 99 => 115 | 206 => 137 | n => n, fun | 3 => 3 | 4 => 4 | 9 => 9 | n => n, fun n => n⟩
theorem play0 : Go.Proofs.Lays.n99 Tryz.prog pren := {
  mixed := by kernel_rfl
  f99 := Tryz.func115.trans (congrArg some (by kernel_rfl))
  f206 := Tryz.func137.trans (congrArg some (by kernel_rfl))
  t3 := Tryz.underlying3
  a3 := Tryz.isAgg3
  z3 := Tryz.sizeOf3
  v3 := Tryz.zeroValue3
  t4 := Tryz.underlying4
  a4 := Tryz.isAgg4
  z4 := Tryz.sizeOf4
  v4 := Tryz.zeroValue4
  t9 := Tryz.underlying9
  a9 := Tryz.isAgg9
  z9 := Tryz.sizeOf9
  v9 := Tryz.zeroValue9 }
theorem prefix_any (s t : ByteArray) (w : World) :
    Calls Tryz.prog 115 #[.string s, .string t] w fun e w' => e = .returned (.bool (Lib.hasPrefix s.data.toList t.data.toList)) ∧ w = w' :=
  (Any.strings_HasPrefix play0 s t w).mono fun _ _ ⟨h1, h2⟩ => ⟨h1, h2.symm⟩
end Go.Proofs.YtpmeicclngckeaaGreatDoor
namespace Go.Proofs.YtpmeicclngckeaaGreatDoor
open Go Go.RowKit
end Go.Proofs.YtpmeicclngckeaaGreatDoor
namespace Go.Proofs.YtpmeicclngckeaaGreatDoor
open Go Go.RowKit
def ereT (d : Nd) : List UInt8 := if nrightB d then nT d else []
end Go.Proofs.YtpmeicclngckeaaGreatDoor
namespace Go.Proofs.YtpmeicclngckeaaGreatDoor
open Go Go.RowKit
def markC (m : Nat × Nat) : List Value := [.int .i64 (m.1 : Int), .string ⟨#[92, UInt8.ofNat m.2]⟩]
def marksC (l : List (Nat × Nat)) : List Value := l.flatMap markC
theorem marksC_snoc (l : List (Nat × Nat)) (m : Nat × Nat) : marksC (l ++ [m]) = marksC l ++ markC m := by unfold marksC; rw [List.flatMap_append]; simp
theorem mark_info : ∃ i, Tryz.prog.info? 174 = some i ∧ i.zero = some (.agg #[.int .i64 0, .string ⟨#[]⟩]) ∧ i.size = 2 ∧ i.bytes = 24 := by
  have h : (Tryz.prog.info? 174).map (fun i => (i.zero, i.size, i.bytes)) = some (some (.agg #[.int .i64 0, .string ⟨#[]⟩]), 2, 24) := by kernel_rfl
  obtain ⟨i, hi, he⟩ := Option.map_eq_some_iff.1 h
  injection he with h1 h2
  injection h2 with h2 h3
  exact ⟨i, hi, h1, h2, h3⟩
theorem own_lt' {B : Nat} {w : World} {e : TypeId} {size n : Nat} {v : Value} {us : List Value} (h : w.ownsRow B e size v n us) (g : Nat) (hg : v.ownBlock = some g) : g < w.heap.size := by
  rcases h.2 with ⟨rfl, _⟩ | ⟨g', cap, cur, rfl, _, hh, _⟩
  · simp [Value.ownBlock] at hg
  · simp [Value.ownBlock] at hg
    subst hg
    exact (Array.getElem?_eq_some_iff.1 hh).1
structure AtSet (w0 : World) (a : Nat) (t : OSet) (wx : World) : Prop where
  b : Below w0.heap.size w0 wx
  s : Blk wx a #[.int .u64 (ow t 0), .int .u64 (ow t 1), .int .u64 (ow t 2), .int .u64 (ow t 3)] 27
  lo : w0.heap.size ≤ a
theorem blk_four {w : World} {a : Nat} {x y z u : Value} {T : TypeId} (h : Blk w a #[x, y, z, u] T) : w.cell? ⟨a, 0, none⟩ = some x ∧ w.cell? ⟨a, 1, none⟩ = some y ∧ w.cell? ⟨a, 2, none⟩ = some z ∧ w.cell? ⟨a, 3, none⟩ = some u ∧
    w.frozen? ⟨a, 0, none⟩ = false ∧ w.frozen? ⟨a, 1, none⟩ = false ∧ w.frozen? ⟨a, 2, none⟩ = false ∧ w.frozen? ⟨a, 3, none⟩ = false ∧ a < w.heap.size :=
  ⟨(h.cell 0).trans rfl, (h.cell 1).trans rfl, (h.cell 2).trans rfl, (h.cell 3).trans rfl, h.frozen 0, h.frozen 1, h.frozen 2, h.frozen 3, h.lt⟩
theorem xi_len (cl L : List UInt8) (q : Int × Int × Nat) (h0 : cl ≠ []) (h : ivl cl L = some q) : q.2.2 ≤ L.length := by
  unfold ivl at h
  split at h
  · rename_i hc
    injection h with h
    subst h
    rw [Bool.and_eq_true] at hc
    exact word_len _ _ _ hc.2 h0
  · cases h
theorem own_form' {w : World} {B : Nat} {e : TypeId} {size n : Nat} {v : Value} {us : List Value} (h : w.ownsRow B e size v n us) : ∃ a c, v = .slice a n c := by
  rcases h.2 with ⟨rfl, h0⟩ | ⟨g, cap, cur, rfl, _⟩
  · exact ⟨none, 0, by rw [h0]⟩
  · exact ⟨_, _, rfl⟩
def PAns (r : ReRes (ReSt × Nd)) (w : World) (e : Ending) (w' : World) : Prop := Below w.heap.size w w' ∧ match r with
  | .error q => e = .returned (.tuple #[.nilIface, .slice none 0 0, .int .i64 (q.2 : Int), .int .i64 (q.1 : Int)])
  | .ok q => ∃ v mv, e = .returned (.tuple #[v, mv, .int .i64 0, .int .i64 0]) ∧ NdX (fun b => w.heap.size ≤ b) w' q.2 v ∧ w'.ownsRow w.heap.size 174 2 mv q.1.marks.length (marksC q.1.marks)
theorem rep_none {s : List UInt8} {k : Nat} (h0 : chAt s k 42 = false) (h1 : esAt s k 43 = false) (h2 : esAt s k 63 = false) (h : esAt s k 123 = false) : repAt false s k = .none := by unfold repAt; simp [h0, h1, h2, opAt, h]
theorem rep_star {s : List UInt8} {k : Nat} (h : chAt s k 42 = true) : repAt false s k = .some 0 (-1) 0 (k + 1) := by unfold repAt; rw [if_pos h]
theorem rep_plus {s : List UInt8} {k : Nat} (h0 : chAt s k 42 = false) (h : esAt s k 43 = true) : repAt false s k = .some 1 (-1) 43 (k + 2) := by unfold repAt; simp [h0, opAt, opLen, h]
theorem rep_ask {s : List UInt8} {k : Nat} (h0 : chAt s k 42 = false) (h1 : esAt s k 43 = false) (h : esAt s k 63 = true) : repAt false s k = .some 0 1 63 (k + 2) := by unfold repAt; simp [h0, h1, opAt, opLen, h]
theorem rep_intv {s : List UInt8} {k : Nat} {m n : Int} {j : Nat} (h0 : chAt s k 42 = false) (h1 : esAt s k 43 = false) (h2 : esAt s k 63 = false) (h : esAt s k 123 = true) (hi : intv false s (k + 2) = some (m, n, j)) : repAt false s k = .some m n 0 j := by unfold repAt; simp [h0, h1, h2, opAt, opLen, h, hi]
theorem rep_bad {s : List UInt8} {k : Nat} (h0 : chAt s k 42 = false) (h1 : esAt s k 43 = false) (h2 : esAt s k 63 = false) (h : esAt s k 123 = true) (hi : intv false s (k + 2) = none) : repAt false s k = .bad := by unfold repAt; simp [h0, h1, h2, opAt, opLen, h, hi]
theorem not_oz : (~~~oz : OSet) = oSpan 0 255 := by decide +kernel
end Go.Proofs.YtpmeicclngckeaaGreatDoor
