/- Right of the program. -/
import Derived.Test.YtjjhkagpoicimaaNdAb
import Derived.Test.YtjjhkagpoicimaaNdFits
import Derived.Test.YtjjhkagpoicimaaMaA
namespace Go.Proofs.Ytjjhkagpoicimaa
open Go Go.RowKit

attribute [local go_sem] Oper.semAt_some
theorem blrow_of {w : World} {base : Nat} {e : TypeId} {es : List Bool} {v : Value} (h : w.ownsRow base e 1 v es.length (es.map Value.bool)) : BlRow w es v := by
  have hr := h
  obtain ⟨_, h2⟩ := h
  rcases h2 with ⟨rfl, h0⟩ | ⟨g, cap, cur, rfl, hg, hh, hn, hcap, hcs, htk⟩
  · exact ⟨none, 0, by rw [h0], by omega, by decide, fun h => by omega⟩
  · refine ⟨some ⟨g, 0, none⟩, cap, rfl, hn, hcap, fun h0 => ⟨g, rfl, (Array.getElem?_eq_some_iff.1 hh).1, fun i hi => ?_⟩⟩
    rw [hr.cellAt i (by omega), List.getElem?_map, List.getElem?_eq_getElem hi]
    rfl
theorem bool_info : ∃ i, Try.prog.info? 4 = some i ∧ i.zero = some (.bool false) ∧ i.size = 1 ∧ i.bytes = 1 := by
  have h : (Try.prog.info? 4).map (fun i => (i.zero, i.size, i.bytes)) = some (some (.bool false), 1, 1) := by kernel_rfl
  obtain ⟨i, hi, he⟩ := Option.map_eq_some_iff.1 h
  injection he with h1 h2
  injection h2 with h2 h3
  exact ⟨i, hi, h1, h2, h3⟩
/-- Between two rounds. -/
structure RtI (w0 : World) (d : Nd) (pre : List (Nd × Bool)) (C : Nat → Prop) (W : World) (es : List Bool) (ev : Value) (x : Value) : Prop where
  st : rsf (.ok []) pre = .ok es
  res : Boxed W w0.heap.size 4 x
  var : Boxed W (w0.heap.size + 1) 95 ev
  row : W.ownsRow w0.heap.size 4 1 ev es.length (es.map Value.bool)
  own : ∀ k, C k ↔ ev.ownBlock = some k
  below : Below w0.heap.size w0 W
  far : ∀ k, C k → w0.heap.size + 3 ≤ k
theorem RtI.other {w0 : World} {d : Nd} {pre : List (Nd × Bool)} {C : Nat → Prop} {X Y : World} {es : List Bool} {ev x : Value} (h : RtI w0 d pre C X es ev x) (ho : Other (w0.heap.size + 3) C X Y) : RtI w0 d pre C Y es ev x :=
  ⟨h.st, Boxed.same h.res (ho.block _ h.res.lt (.inl (by omega))), Boxed.same h.var (ho.block _ h.var.lt (.inl (by omega))), own_row_same h.row (fun g hg => ho.block _ (h.row.lt g hg).2 (.inr ((h.own g).2 hg))), h.own,
    h.below.trans ⟨ho.os, ho.tape, ho.output, ho.size, fun k hk => ho.block k (Nat.lt_of_lt_of_le hk h.below.size) (.inl (by omega))⟩, h.far⟩
theorem RtI.mem {w0 : World} {d : Nd} {pre : List (Nd × Bool)} {C : Nat → Prop} {X Y : World} {es : List Bool} {ev x : Value} (h : RtI w0 d pre C X es ev x) (hb : Below X.heap.size X Y) : RtI w0 d pre C Y es ev x :=
  ⟨h.st, Boxed.same h.res (hb.block _ h.res.lt), Boxed.same h.var (hb.block _ h.var.lt), own_row_same h.row (fun g hg => hb.block _ (h.row.lt g hg).2), h.own, h.below.trans (hb.mono h.below.size), h.far⟩
theorem RtI.next {w0 : World} {d : Nd} {pre : List (Nd × Bool)} {C : Nat → Prop} {X : World} {es : List Bool} {ev x : Value} {y : Nd × Bool} (h : RtI w0 d pre C X es ev x) (hs : rs (.ok es) y = .ok es) : RtI w0 d (pre ++ [y]) C X es ev x :=
  ⟨by rw [rsf_snoc, h.st, hs], h.res, h.var, h.row, h.own, h.below, h.far⟩
/-- One more group has begun. -/
theorem RtI.push {w0 : World} {d : Nd} {pre : List (Nd × Bool)} {C : Nat → Prop} {W w2 w3 : World} {es : List Bool} {ev x v' : Value} {y : Nd × Bool} {tmp : Obj} (h : RtI w0 d pre C W es ev x) (hb : Below W.heap.size W w2) (hlt : w0.heap.size + 3 ≤ W.heap.size) (hs : rs (.ok es) y = .ok (es ++ [false]))
    (hown : w3.ownsRow w0.heap.size 4 1 v' (es.length + 1) (es.map Value.bool ++ [.bool false])) (hg : (w2.alloc tmp).grownBy w3 ev.ownBlock) (hat : v'.ownBlock = ev.ownBlock ∨ v'.ownBlock = some (w2.alloc tmp).heap.size) :
    Boxed w3 (w0.heap.size + 1) 95 ev ∧ RtI w0 d (pre ++ [y]) (fun k => v'.ownBlock = some k) (w3.setCell ⟨w0.heap.size + 1, 0, none⟩ v') (es ++ [false]) v' x ∧ Rdn w0.heap.size (w0.heap.size + 3) C (fun k => v'.ownBlock = some k) W (w3.setCell ⟨w0.heap.size + 1, 0, none⟩ v') := by
  have h2 := (h.mem hb).mem ((Below.refl _ w2).alloc (Nat.le_refl _) tmp)
  have hsz := hb.size
  have hne : ∀ k, k < w0.heap.size + 3 → some k ≠ ev.ownBlock := fun k hk e => by have := h.far k ((h.own k).2 e.symm); omega
  have hfar : ∀ k, v'.ownBlock = some k → w0.heap.size + 3 ≤ k := fun k hk => by
    rcases hat with e | e
    · exact h.far k ((h.own k).2 (by rw [← e]; exact hk))
    · rw [e] at hk; injection hk with hk; simp at hk; omega
  have hv3 : Boxed w3 (w0.heap.size + 1) 95 ev := h2.var.kept hg (hne _ (by omega))
  have hblk : ∀ k, k < (w2.alloc tmp).heap.size → some k ≠ ev.ownBlock → k ≠ w0.heap.size + 1 → (w3.setCell ⟨w0.heap.size + 1, 0, none⟩ v').heap[k]? = (w2.alloc tmp).heap[k]? := fun k hk h1 h3 =>
    (Below.heap_setCell _ _ _ _ h3).trans (hg.block k hk h1)
  have hBl : Below w0.heap.size (w2.alloc tmp) (w3.setCell ⟨w0.heap.size + 1, 0, none⟩ v') := by
    refine ((Below.refl _ _).grown hg h2.below.size (fun k hk => ?_)).setCell (p := ⟨w0.heap.size + 1, 0, none⟩) (by simp) _
    have := h.far k ((h.own k).2 hk)
    omega
  refine ⟨hv3, ⟨by rw [rsf_snoc, h.st, hs], ?_, hv3.set v', ?_, fun k => Iff.rfl, h2.below.trans hBl, hfar⟩, ⟨?_, ?_, ?_⟩⟩
  · exact Boxed.same h2.res (hblk _ h2.res.lt (hne _ (by omega)) (by omega))
  · rw [List.map_append, List.length_append]
    exact own_row_same hown (fun g hg' => Below.heap_setCell _ _ _ _ (by have := hfar g hg'; simp; omega))
  · exact Nat.le_trans hsz (Nat.le_trans (Nat.le_of_lt (by simp)) hBl.size)
  · intro k hk hkc
    rcases hkc with hk0 | ⟨hk0, hkc⟩
    · rw [hblk k (by simp; omega) (hne k (by omega)) (by omega), Below.heap_alloc _ _ _ (by omega), hb.block k hk]
    · rw [hblk k (by simp; omega) (fun e => hkc ((h.own k).2 e.symm)) (by omega), Below.heap_alloc _ _ _ (by omega), hb.block k hk]
  · intro k hk
    have h5 := (hown.lt k hk).2
    have h6 : w3.heap.size ≤ (w3.setCell ⟨w0.heap.size + 1, 0, none⟩ v').heap.size := by simp [World.setCell]
    rcases hat with e | e
    · exact .inl ((h.own k).2 (by rw [← e]; exact hk))
    · right
      rw [e] at hk; injection hk with hk; simp at hk
      omega
/-- A group has ended. -/
theorem RtI.mark {w0 : World} {d : Nd} {pre : List (Nd × Bool)} {C : Nat → Prop} {W : World} {es : List Bool} {g cap k : Nat} {x : Value} {y : Nd × Bool} (h : RtI w0 d pre C W es (.slice (some ⟨g, 0, none⟩) es.length cap) x) (hs : rs (.ok es) y = .ok (es.set k true)) :
    RtI w0 d (pre ++ [y]) C (W.setCell ⟨g, k, none⟩ (.bool true)) (es.set k true) (.slice (some ⟨g, 0, none⟩) es.length cap) x ∧ Rdn w0.heap.size (w0.heap.size + 3) C C W (W.setCell ⟨g, k, none⟩ (.bool true)) := by
  have hg : C g := (h.own g).2 rfl
  have hfar := h.far g hg
  refine ⟨⟨by rw [rsf_snoc, h.st, hs], ?_, ?_, ?_, h.own, h.below.setCell (p := ⟨g, k, none⟩) (by show w0.heap.size ≤ g; omega) _, h.far⟩, ⟨by simp [World.setCell], ?_, fun _ hc => .inl hc⟩⟩
  · exact Boxed.same h.res (Below.heap_setCell _ _ _ _ (by simp; omega))
  · exact Boxed.same h.var (Below.heap_setCell _ _ _ _ (by simp; omega))
  · have := (h.row.stored k (.bool true)).1
    rw [List.length_set, List.map_set]
    exact this
  · intro j _ hj
    refine Below.heap_setCell _ _ _ _ ?_
    show j ≠ g
    rcases hj with hj | hj
    · omega
    · exact fun e => hj.2 (e ▸ hg)
set_option linter.unusedSimpArgs false in
set_option maxRecDepth 100000 in
set_option maxHeartbeats 4000000 in
theorem pright_any (d : Nd) (v : Value) (w : World) (h : NdX (fun k => k < w.heap.size) w d v) (hsz : nsize d ≤ 4000000) :
    Calls Try.prog 20 #[v] w fun e w' => e = .returned (.bool (nrightB d)) ∧ Below w.heap.size w w' := by
  have hsh : (∃ T q, v = .iface T q) ∨ v = .nilIface := h.elim fun _ h => nd_shape h
  obtain ⟨i0, hi, hz0, hz1, hz2⟩ := bool_info
  refine (callsIn_wide (n := 3)).1 ?_
  refine callsIn_of_wp_marks Try.func20 rfl trivial ?_ rfl
  simp only [Try.ntmps20, List.size_toArray, List.length_cons, List.length_nil, Nat.reduceAdd, Nat.reduceSub, Array.replicate_succ, Array.replicate_zero, List.push_toArray, List.append_toArray, List.nil_append, List.cons_append]
  gi_wp2_with (refine ⟨trivial, ?_⟩; gi_at_call 30; refine (callsIn_wide.2 (walk_any _ _ hsh)).mono ?_; rintro e w' ⟨rfl, rfl⟩)
  obtain ⟨V, hV⟩ : ∃ V, ((w.alloc (.cells #[.bool false] 4)).alloc (.cells #[.slice none 0 0] 95)).alloc (.cells #[v] 37) = V := ⟨_, rfl⟩
  have hB : Below w.heap.size w V := by rw [← hV]; exact (((Below.refl _ w).alloc (Nat.le_refl _) _).alloc (by simp) _).alloc (by simp; omega) _
  have hVs : V.heap.size = w.heap.size + 3 := by rw [← hV]; simp
  have hc : V.cell? ⟨w.heap.size + 1 + 1, 0, none⟩ = some v := by
    have h1 := (Boxed.new ((w.alloc (.cells #[.bool false] 4)).alloc (.cells #[.slice none 0 0] 95)) 37 v).cell
    rw [World.size_alloc, World.size_alloc, hV] at h1
    exact h1
  have hb0 : Boxed V w.heap.size 4 (.bool false) := by
    have h1 := ((Boxed.new w 4 (.bool false)).alloc (.cells #[.slice none 0 0] 95)).alloc (.cells #[v] 37)
    rw [hV] at h1
    exact h1
  have hb1 : Boxed V (w.heap.size + 1) 95 (.slice none 0 0) := by
    have h1 := (Boxed.new (w.alloc (.cells #[.bool false] 4)) 95 (.slice none 0 0)).alloc (.cells #[v] 37)
    rw [World.size_alloc, hV] at h1
    exact h1
  rw [hV]
  refine wpIn_rangeFunc_cells (gf := 37) (lb := #[.pointer (some ⟨w.heap.size + 1 + 1, 0, none⟩)]) rfl (enters_of Try.func37 (by kernel_rfl) rfl)
    (walk_gives d hsz w.heap.size (w.heap.size + 1 + 1) v V (by omega) hc (h.below hB)) (Below.refl _ _) (by omega)
    (fun pre x args C b W hk => by obtain ⟨_, rfl, _⟩ := hk; rfl)
    (fun pre x args C b W k o hk h1 h2 => nd_ok_put hk h1 h2)
    (fun pre C W => ∃ es ev x, RtI w d pre C W es ev x) (fun c W => c = .ret ∧ nrightB d = false ∧ Boxed W w.heap.size 4 (.bool false) ∧ Below w.heap.size w W)
    (fun pre C X Y hk ho => by obtain ⟨es, ev, x, hk⟩ := hk; rw [hVs] at ho; exact ⟨es, ev, x, hk.other ho⟩)
    (fun c X Y hk ho => ⟨hk.1, hk.2.1, Boxed.same hk.2.2.1 (ho.block _ hk.2.2.1.lt (.inl (by omega))), hk.2.2.2.trans ⟨ho.os, ho.tape, ho.output, ho.size, fun k hlt => ho.block k (Nat.lt_of_lt_of_le hlt hk.2.2.2.size) (.inl (by omega))⟩⟩)
    ⟨[], .slice none 0 0, .bool false, rfl, hb0, hb1, World.ownsRow_nil _ _ _ _, fun k => ⟨fun h => h.elim, fun h => by simp [Value.ownBlock] at h⟩, hB, fun k h => h.elim⟩ ?round ?done ?stop
  case round =>
    rintro l pre ⟨d', b⟩ args C W hI hOk hC hlt
    obtain ⟨v', rfl, hsuf, hv'⟩ := hOk
    obtain ⟨num, u, hu, hTA, hnum⟩ := assert_group hv'
    gi_wp2
    clear hI hlt hv'
    intro W es ev x hI hOk hlt
    obtain ⟨v2, ha, _, hv⟩ := hOk
    obtain rfl : v' = v2 := by simpa using ha
    clear ha
    have hel : es.length ≤ 8000000 := by
      have h1 := rs_len pre [] es hI.st
      have h2 := pre_len hsuf
      simp at h1
      omega
    have hF := fun w' (hb : Below W.heap.size W w') => fits_any d' v' es ev w' (hv.below hb) ((blrow_of hI.row).below hb) hel
    clear hv
    have hA := fun u => (Below.refl W.heap.size W).alloc (Nat.le_refl _) (.cells #[.int .i64 num, u] 74)
    have hIA := fun u => hI.mem (hA u)
    have hcA := fun u => (hIA u).var.cell
    cases b with
    | true =>
      cases hf : fitsM d' es
      · have Hn := Lib.hid (show nrightB d = false by
          obtain ⟨suf, hs⟩ := hsuf
          exact right_no (by rw [← hs, rsf_append, hI.st, rsf_cons, rs_in_no hf, rsf_no]))
        rw [hf] at hF
        clear hf hsuf
        rcases hu with ⟨T, q, rfl⟩ | rfl
        all_goals
          gi_wp2_with (refine ⟨trivial, ?_⟩; gi_at_call 33; refine (CallsIn.inRound l (callsIn_wide.2 (hF _ (hA _)))).mono ?_; rintro e w2 ⟨rfl, b2⟩; have hI2 := (hIA _).mem b2; have hc2 := hI2.res.cell; have hf2 := hI2.res.frozen)
          exact ⟨((Rdn.below (hA _)).trans (Rdn.below b2)).trans (Rdn.setCell _ _ _ _ (Nat.le_refl _) (by simp)), rfl, Hn.out, Boxed.set _ hI2.res, hI2.below.setCell (p := ⟨w.heap.size, 0, none⟩) (Nat.le_refl _) _⟩
      · rw [hf] at hF
        cases hG : ngrp d'
        · rw [hG] at hTA
          have Hn := Lib.hid (rs_in hf hG)
          clear hf hsuf hG
          rcases hu with ⟨T, q, rfl⟩ | rfl
          all_goals
            gi_wp2_with (refine ⟨trivial, ?_⟩; gi_at_call 33; refine (CallsIn.inRound l (callsIn_wide.2 (hF _ (hA _)))).mono ?_; rintro e w2 ⟨rfl, b2⟩; have hI2 := (hIA _).mem b2)
            exact ⟨C, (Rdn.below (hA _)).trans (Rdn.below b2), es, ev, x, hI2.next Hn.out⟩
        · rw [hG] at hTA
          have hs : rs (.ok es) (d', true) = .ok (es ++ [false]) := by simp [rs, hf, hG]
          have hm1 : es.length + 1 ≤ maxLen := by unfold maxLen; omega
          have hm2 : (es.length + 1) * 1 ≤ 140737488355328 := by omega
          have hPush := fun u w2 w3 v' (hb : Below W.heap.size W w2) => hI.push (w2 := w2) (w3 := w3) (v' := v') (tmp := .cells #[.bool false] u) hb (by omega) hs
          have hone : ∀ u ∈ [Value.bool false], u.oneCell' = true := by intro u hu; simp at hu; subst hu; rfl
          clear hf hsuf hG hs
          rcases hu with ⟨T, q, rfl⟩ | rfl
          all_goals
            gi_wp2_with (first | (refine ⟨trivial, ?_⟩; gi_at_call 33; refine (CallsIn.inRound l (callsIn_wide.2 (hF _ (hA _)))).mono ?_; rintro e w2 ⟨rfl, b2⟩; have hI2 := (hIA _).mem b2; have hc2 := hI2.var.cell; have hf2 := hI2.var.frozen) | (gi_at_builtin; refine wpListIn_append_own_at _ rfl _ _ 95 rfl w.heap.size 4 i0 (.bool false) 1 1 Try.underlying95 hi hz0 hz1 hz2 rfl (by decide) _ _ _ rfl (hI2.row.alloc _) ⟨w2.heap.size, 0, none⟩ 1 1 [.bool false] rfl rfl (cell_one_new _ _ _) hone hm1 hm2 (by simp; have := hI2.below.size; omega) ?_; intro v3 w3 hown' hgrow _ hat; obtain ⟨hv3, hI3, hR3⟩ := hPush _ w2 w3 v3 ((hA _).trans (b2.mono (hA _).size)) hown' hgrow hat; have hc3 := hv3.cell; have hf3 := hv3.frozen; obtain ⟨g', cap', rfl⟩ := ownsRow_succ hown'))
            exact ⟨_, hR3, _, _, _, hI3⟩
    | false =>
      cases hG : ngrp d'
      · rw [hG] at hTA
        have Hn := Lib.hid (rs_out (.ok es) hG)
        clear hG hsuf
        rcases hu with ⟨T, q, rfl⟩ | rfl
        all_goals
          gi_wp2
          refine ⟨trivial, ?_⟩
          gi_wp2
          exact ⟨C, Rdn.below (hA _), es, ev, x, (hIA _).next Hn.out⟩
      · rw [hG] at hTA
        obtain ⟨hn1, hn2⟩ := right_ends hsuf hI.st hG
        obtain ⟨n, dd, rfl⟩ : ∃ n dd, d' = .group n dd := by cases d' <;> first | exact ⟨_, _, rfl⟩ | cases hG
        obtain rfl : num = n := hnum n dd rfl
        obtain ⟨k, rfl⟩ : ∃ k : Nat, num = (k : Int) + 1 := ⟨(num - 1).toNat, by have : 1 ≤ num := hn1; omega⟩
        have hk : k < es.length := by have : (k : Int) + 1 ≤ (es.length : Int) := hn2; omega
        have hs : rs (.ok es) (.group ((k : Int) + 1) dd, false) = .ok (es.set k true) := by
          rw [rs_close (n := (k : Int) + 1) hn1 hn2, show ((k : Int) + 1 - 1).toNat = k by omega]
        obtain ⟨g, cap, rfl⟩ : ∃ g cap, ev = .slice (some ⟨g, 0, none⟩) es.length cap := by
          obtain ⟨g, cap, h1, _⟩ := hI.row.form (by omega)
          exact ⟨g, cap, h1⟩
        have Wn : IntKind.i64.wrap ((k : Int) + 1 - 1) = (k : Int) := by rw [IntWalk.i64_in _ (by omega)]; omega
        have hcE := fun u => (show (W.alloc (.cells #[.int .i64 ((k : Int) + 1), u] 74)).cell? ⟨g, k, none⟩ = some (.bool es[k]) by rw [(hIA u).row.cellAt k (by omega), List.getElem?_map, List.getElem?_eq_getElem hk]; rfl)
        have hfE := fun u => (hIA u).row.frozenAt k
        have hSet := fun u => (hIA u).mark hs
        clear hG hsuf hn1 hn2 hs hnum
        rcases hu with ⟨T, q, rfl⟩ | rfl
        all_goals
          gi_wp2
          refine ⟨trivial, ?_⟩
          gi_wp2
          exact ⟨C, (Rdn.below (hA _)).trans (hSet _).2, _, _, _, (hSet _).1⟩
  case done =>
    rintro xs C W rfl ⟨es, ev, x, hI⟩ hK
    have hc := hI.res.cell
    have hf := hI.res.frozen
    have Hn := Lib.hid (right_ok hI.st)
    gi_wp2
    have hK' : (W.setCell ⟨w.heap.size, 0, none⟩ (.bool true)).heap[V.heap.size]? = some (.deferred (some [])) := (Below.heap_setCell _ _ _ _ (by simp; omega)).trans hK
    refine ⟨by simp, .inl ⟨_, _, rfl, run_takeDeferred hK', ?_⟩⟩
    have hc5 : ((W.setCell ⟨w.heap.size, 0, none⟩ (.bool true)).putObj V.heap.size (.deferred none)).cell? ⟨w.heap.size, 0, none⟩ = some (.bool true) :=
      (Boxed.same (Boxed.set (.bool true) hI.res) (World.putObj_heap_other (by omega))).cell
    refine ⟨.bool true, ?_, by rw [Hn.out], (hI.below.setCell (p := ⟨w.heap.size, 0, none⟩) (Nat.le_refl _) _).trans (below_put (by omega))⟩
    simp [results, Try.f20, go_sem, hc5]
  case stop =>
    rintro c W ⟨rfl, hn, hI, hbl⟩ hK
    have Hn := Lib.hid hn
    clear hn
    gi_wp2
    refine ⟨by simp, .inl ⟨_, _, rfl, run_takeDeferred hK, ?_⟩⟩
    have hc5 : (W.putObj V.heap.size (.deferred none)).cell? ⟨w.heap.size, 0, none⟩ = some (.bool false) := (Boxed.same hI (World.putObj_heap_other (by omega))).cell
    refine ⟨.bool false, ?_, by rw [Hn.out], hbl.trans (below_put (by omega))⟩
    simp [results, Try.f20, go_sem, hc5]
end Go.Proofs.Ytjjhkagpoicimaa
