/- The proof's texts CbI: what the claim reaches of them. -/
import Derived.Test.YtihfenkphhnbcaaCp14
namespace Go.Proofs.Ytihfenkphhnbcaa
open Go Go.RowKit
attribute [local go_sem] Oper.semAt_some
set_option linter.unusedSimpArgs false in
set_option maxRecDepth 100000 in
set_option maxHeartbeats 4000000 in
theorem next_any {B p : Nat} {l : List Inn} {g : Int} {k : Nat} {bk : Bool} {iv tv : Value} {ts : List Value} (us : List Value) (q cap : Nat) (w : World) (h : Bld B p w l g k bk iv tv ts) (hrow : ∀ j (hj : j < us.length), w.cell? ⟨q, j, none⟩ = some us[j]) (hq : q < w.heap.size) (hoff : OffC p iv tv q) (hone : ∀ u ∈ us, ∃ f a b, u = .func f a b) (hus : us.length ≤ 100) (hts : ts.length ≤ 4000000) :
    Calls Try.prog 34 #[.pointer (some ⟨p, 0, none⟩), .slice (some ⟨q, 0, none⟩) us.length cap] w fun e w' => e = .returned (.tuple #[]) ∧ ∃ tv', Bld B p w' l g k bk iv tv' (ts ++ us.reverse) ∧ CStep p w iv tv w' iv tv' := by
  obtain ⟨i0, hi, hz0, hz1, hz2⟩ := func_info
  have hpl := h.blk.lt
  have hil := fun b hb => co_own_lt h.io b hb
  have htl := fun b hb => co_own_lt h.«to» b hb
  have hBw : B ≤ w.heap.size := Nat.le_trans h.bp (Nat.le_of_lt hpl)
  refine (callsIn_wide (n := 3)).1 ?_
  refine callsIn_of_wp_marks Try.func34 rfl trivial ?_ rfl
  simp only [Try.ntmps34, List.size_toArray, List.length_cons, List.length_nil, Nat.reduceAdd, Nat.reduceSub, Array.replicate_succ, Array.replicate_zero, List.push_toArray, List.append_toArray, List.nil_append, List.cons_append]
  gi_wp2_with (refine ⟨trivial, ?_⟩; gi_at_call 45; refine (callsIn_wide.2 (cback_any _ _ _ _)).mono ?_; rintro e w' ⟨rfl, rfl⟩)
  obtain ⟨V, hV⟩ : ∃ V, (w.alloc (.cells #[.pointer (some ⟨p, 0, none⟩)] 98)).alloc (.cells #[.slice (some ⟨q, 0, none⟩) us.length cap] 63) = V := ⟨_, rfl⟩
  have hB : Below w.heap.size w V := by rw [← hV]; exact ((Below.refl _ w).alloc (Nat.le_refl _) _).alloc (by simp) _
  have hVs : V.heap.size = w.heap.size + 2 := by rw [← hV]; simp
  have hc : V.cell? ⟨w.heap.size + 1, 0, none⟩ = some (.slice (some ⟨q, 0, none⟩) us.length cap) := by
    have h1 := (Boxed.new (w.alloc (.cells #[.pointer (some ⟨p, 0, none⟩)] 98)) 63 (.slice (some ⟨q, 0, none⟩) us.length cap)).cell
    rw [World.size_alloc, hV] at h1
    exact h1
  have hc0 : V.cell? ⟨w.heap.size, 0, none⟩ = some (.pointer (some ⟨p, 0, none⟩)) := by
    have h1 := ((Boxed.new w 98 (.pointer (some ⟨p, 0, none⟩))).alloc (.cells #[.slice (some ⟨q, 0, none⟩) us.length cap] 63)).cell
    rw [hV] at h1
    exact h1
  rw [hV]
  refine wpIn_rangeFunc_N (N := fun b => b = q ∨ b = w.heap.size ∨ b = w.heap.size + 1) (gf := 49) (lb := #[.pointer (some ⟨w.heap.size + 1, 0, none⟩)]) rfl (enters_of Try.func49 (by kernel_rfl) rfl)
    (cback_gives q (fun b => b = q ∨ b = w.heap.size ∨ b = w.heap.size + 1) us cap (by omega) (w.heap.size + 1) V (fun k hk => by rcases hk with hk | hk | hk <;> omega) (.inr (.inr rfl)) (.inl rfl) (fun j hj => (hB.cell (p := ⟨q, j, none⟩) hq).trans (hrow j hj)) hc) (Below.refl _ _) (fun k hk => by rcases hk with hk | hk | hk <;> omega)
    (fun pre x args C b W hk => by obtain ⟨_, rfl, _⟩ := hk; rfl)
    (fun pre x args C b W k o hk h1 h2 => hk)
    (fun pre C W => ∃ tv', NxI B p w l g k bk iv tv ts us pre C W tv') (fun _ _ => False)
    (fun pre C X Y hk ho => by obtain ⟨tv', hk⟩ := hk; rw [hVs] at ho; exact ⟨tv', hk.other hpl hil ho⟩)
    (fun _ _ _ hk _ => hk)
    ⟨tv, by rw [List.map_nil, List.append_nil]; exact h.below hB, CStep.of_below hB, fun b => ⟨fun h => h.elim, fun h => by have := htl b h.1; omega⟩, fun b h1 _ e => by (have := htl _ e; omega), hc0⟩ ?round ?done ?stop
  case round =>
    rintro l' pre x args C W hI hOk hC hlt
    obtain ⟨hx, rfl, hpre⟩ := hOk
    gi_wp2
    clear hI hlt
    refine ⟨trivial, ?_⟩
    intro W hI hOk hlt
    clear hOk
    obtain ⟨tv', hI⟩ := hI
    rw [hVs] at hlt
    have hpl2 : pre.length ≤ 100 := by rw [hpre, cbk_len _ _ (by omega)]; omega
    clear hpre
    obtain ⟨f, fa, fb, hu⟩ := hone us[x] (List.getElem_mem hx)
    have hgd : us.getD x .nilFunc = .func f fa fb := by rw [List.getD_eq_getElem?_getD, List.getElem?_eq_getElem hx, hu]; rfl
    rw [hu]
    obtain ⟨T, hT⟩ : ∃ T, (ts ++ pre.map fun i => us.getD i .nilFunc) = T := ⟨_, rfl⟩
    have hTl : T.length ≤ 4000100 := by rw [← hT]; simp; omega
    have hm1 : T.length + 1 ≤ maxLen := by unfold maxLen; omega
    have hm2 : (T.length + 1) * 8 ≤ 140737488355328 := by omega
    have hto := hI.bld.«to»
    rw [hT] at hto
    obtain ⟨ta, tc, rfl⟩ := co_form hto
    have hPush := fun (w3 : World) (v3 : Value) => NxI.push (x := x) (q := q) (v3 := v3) (w3 := w3) (tmp := .cells #[.func f fa fb] 1) hpl hoff hq hI (by omega) hgd
    rw [hT] at hPush
    have hcl := hI.bld.cells
    have c4 := hcl.c4
    have z4 := hcl.z4
    have x0 := hI.box
    have hBW : B ≤ (W.alloc (.cells #[.func f fa fb] 1)).heap.size := by simp; omega
    have hone1 : ∀ u ∈ [Value.func f fa fb], u.oneCell' = true := by intro u hu; simp at hu; subst hu; rfl
    clear hcl hI hone hrow hc hgd hu hT
    gi_wp2
    have c4a := (((Below.refl W.heap.size W).alloc (Nat.le_refl _) (.cells #[.func f fa fb] 1)).cell (p := ⟨p, 4, none⟩) (show p < W.heap.size by omega)).trans c4
    have x0a := (((Below.refl W.heap.size W).alloc (Nat.le_refl _) (.cells #[.func f fa fb] 1)).cell (p := ⟨w.heap.size, 0, none⟩) (show w.heap.size < W.heap.size by omega)).trans x0
    have hmix : Try.prog.follows .mixedOrders = true := by kernel_rfl
    refine wpIn_region_any hmix (any_in_round ?_ _ _ _ _ ?_)
    · intro i o c h
      rcases i with _ | _ | _ | _ | _ | _ | _ | _ | _ | _ | _ | i <;> (first | (injection h with h; subst h; intro e; cases e) | (simp at h))
    change wpAnyIn _ _ _ _ _ _ _ _ _ (World.drew _)
    refine wpAnyIn_take (i := 5) (v := ?_) rfl rfl (by kernel_rfl) (by kernel_rfl) (by kernel_rfl) (fun _ _ _ h => h) ⟨Or.inl ⟨by rfl, ?_⟩, fun _ => rfl⟩ ?_
    rotate_left
    · intro w; go_simp; try with_reducible rfl
    refine wpAnyIn_ready (rs := [0,1,6]) (by kernel_rfl) (by simp) ?_
    refine AllReadyIn.cons rfl (fun K hK => ?_) ?_
    · go_simp
      refine hK _ _ ?_
      clear hK K
      refine wpAnyIn_ready (rs := [1,6]) (by kernel_rfl) (by simp) ?_
      refine AllReadyIn.cons rfl (fun K hK => ?_) ?_
      · go_simp
        refine hK _ _ ?_
        clear hK K
        refine wpAnyIn_take (i := 2) (v := ?_) rfl rfl (by kernel_rfl) (by kernel_rfl) (by kernel_rfl) (fun _ _ _ h => h) ⟨Or.inl ⟨by rfl, ?_⟩, fun _ => rfl⟩ ?_
        rotate_left
        · intro w; go_simp; try with_reducible rfl
        refine wpAnyIn_take (i := 3) (v := ?_) rfl rfl (by kernel_rfl) (by kernel_rfl) (by kernel_rfl) (fun _ _ _ h => h) ⟨Or.inl ⟨by rfl, ?_⟩, fun _ => rfl⟩ ?_
        rotate_left
        · intro w; go_simp; try with_reducible rfl
        refine wpAnyIn_ready (rs := [4,6]) (by kernel_rfl) (by simp) ?_
        refine AllReadyIn.cons rfl (fun K hK => ?_) ?_
        · go_simp
          refine hK _ _ ?_
          clear hK K
          refine wpAnyIn_ready (rs := [6]) (by kernel_rfl) (by simp) ?_
          refine AllReadyIn.cons rfl (fun K hK => ?_) ?_
          · go_simp
            refine hK _ _ ?_
            clear hK K
            refine wpAnyIn_ready (rs := [7]) (by kernel_rfl) (by simp) ?_
            refine AllReadyIn.cons rfl (fun K hK => ?_) ?_
            · refine stepIn_append_own rfl _ _ 63 rfl B 1 i0 .nilFunc 1 8 Try.underlying63 hi hz0 hz1 hz2 rfl (by decide) (.slice ta T.length tc) T.length T rfl (own_row_same hto (fun g hg => heap_drew_alloc _ _ (co_own_lt hto g hg))) ⟨W.heap.size, 0, none⟩ 1 1 [.func f fa fb] rfl rfl (cells_one_new _ _ _) hone1 hm1 hm2 hBW ?_
              intro v3 w3 hown' hgrow hat
              obtain ⟨hI3, hR3, hc3, hf3, hx3⟩ := hPush w3 v3 hown' (grown_drew_alloc hgrow) hat
              obtain ⟨g', cap', rfl⟩ := ownsRow_succ hown'
              refine hK _ _ ?_
              clear hK K
              refine wpAnyIn_take (i := 8) (v := ?_) rfl rfl (by kernel_rfl) (by kernel_rfl) (by kernel_rfl) (fun _ _ _ h => h) ⟨Or.inl ⟨by rfl, ?_⟩, fun _ => rfl⟩ ?_
              rotate_left
              · intro w; go_simp; try with_reducible rfl
              refine wpAnyIn_take (i := 9) (v := ?_) rfl rfl (by kernel_rfl) (by kernel_rfl) (by kernel_rfl) (fun _ _ _ h => h) ⟨Or.inl ⟨by rfl, ?_⟩, fun _ => rfl⟩ ?_
              rotate_left
              · intro w; go_simp; try with_reducible rfl
              refine wpAnyIn_ready (rs := [10]) (by kernel_rfl) (by simp) ?_
              refine AllReadyIn.cons rfl (fun K hK => ?_) ?_
              · go_simp
                refine hK _ _ ?_
                clear hK K
                refine wpAnyIn_done (by kernel_rfl) ?_ _
                exact ⟨_, by first | exact hR3 | (rw [hVs]; exact hR3), _, hI3⟩
              exact AllReadyIn.nil
            exact AllReadyIn.nil
          exact AllReadyIn.nil
        refine AllReadyIn.cons rfl (fun K hK => ?_) ?_
        · go_simp
          refine hK _ _ ?_
          clear hK K
          refine wpAnyIn_ready (rs := [4]) (by kernel_rfl) (by simp) ?_
          refine AllReadyIn.cons rfl (fun K hK => ?_) ?_
          · go_simp
            refine hK _ _ ?_
            clear hK K
            refine wpAnyIn_ready (rs := [7]) (by kernel_rfl) (by simp) ?_
            refine AllReadyIn.cons rfl (fun K hK => ?_) ?_
            · refine stepIn_append_own rfl _ _ 63 rfl B 1 i0 .nilFunc 1 8 Try.underlying63 hi hz0 hz1 hz2 rfl (by decide) (.slice ta T.length tc) T.length T rfl (own_row_same hto (fun g hg => heap_drew_alloc _ _ (co_own_lt hto g hg))) ⟨W.heap.size, 0, none⟩ 1 1 [.func f fa fb] rfl rfl (cells_one_new _ _ _) hone1 hm1 hm2 hBW ?_
              intro v3 w3 hown' hgrow hat
              obtain ⟨hI3, hR3, hc3, hf3, hx3⟩ := hPush w3 v3 hown' (grown_drew_alloc hgrow) hat
              obtain ⟨g', cap', rfl⟩ := ownsRow_succ hown'
              refine hK _ _ ?_
              clear hK K
              refine wpAnyIn_take (i := 8) (v := ?_) rfl rfl (by kernel_rfl) (by kernel_rfl) (by kernel_rfl) (fun _ _ _ h => h) ⟨Or.inl ⟨by rfl, ?_⟩, fun _ => rfl⟩ ?_
              rotate_left
              · intro w; go_simp; try with_reducible rfl
              refine wpAnyIn_take (i := 9) (v := ?_) rfl rfl (by kernel_rfl) (by kernel_rfl) (by kernel_rfl) (fun _ _ _ h => h) ⟨Or.inl ⟨by rfl, ?_⟩, fun _ => rfl⟩ ?_
              rotate_left
              · intro w; go_simp; try with_reducible rfl
              refine wpAnyIn_ready (rs := [10]) (by kernel_rfl) (by simp) ?_
              refine AllReadyIn.cons rfl (fun K hK => ?_) ?_
              · go_simp
                refine hK _ _ ?_
                clear hK K
                refine wpAnyIn_done (by kernel_rfl) ?_ _
                exact ⟨_, by first | exact hR3 | (rw [hVs]; exact hR3), _, hI3⟩
              exact AllReadyIn.nil
            exact AllReadyIn.nil
          exact AllReadyIn.nil
        exact AllReadyIn.nil
      refine AllReadyIn.cons rfl (fun K hK => ?_) ?_
      · go_simp
        refine hK _ _ ?_
        clear hK K
        refine wpAnyIn_ready (rs := [1]) (by kernel_rfl) (by simp) ?_
        refine AllReadyIn.cons rfl (fun K hK => ?_) ?_
        · go_simp
          refine hK _ _ ?_
          clear hK K
          refine wpAnyIn_take (i := 2) (v := ?_) rfl rfl (by kernel_rfl) (by kernel_rfl) (by kernel_rfl) (fun _ _ _ h => h) ⟨Or.inl ⟨by rfl, ?_⟩, fun _ => rfl⟩ ?_
          rotate_left
          · intro w; go_simp; try with_reducible rfl
          refine wpAnyIn_take (i := 3) (v := ?_) rfl rfl (by kernel_rfl) (by kernel_rfl) (by kernel_rfl) (fun _ _ _ h => h) ⟨Or.inl ⟨by rfl, ?_⟩, fun _ => rfl⟩ ?_
          rotate_left
          · intro w; go_simp; try with_reducible rfl
          refine wpAnyIn_ready (rs := [4]) (by kernel_rfl) (by simp) ?_
          refine AllReadyIn.cons rfl (fun K hK => ?_) ?_
          · go_simp
            refine hK _ _ ?_
            clear hK K
            refine wpAnyIn_ready (rs := [7]) (by kernel_rfl) (by simp) ?_
            refine AllReadyIn.cons rfl (fun K hK => ?_) ?_
            · refine stepIn_append_own rfl _ _ 63 rfl B 1 i0 .nilFunc 1 8 Try.underlying63 hi hz0 hz1 hz2 rfl (by decide) (.slice ta T.length tc) T.length T rfl (own_row_same hto (fun g hg => heap_drew_alloc _ _ (co_own_lt hto g hg))) ⟨W.heap.size, 0, none⟩ 1 1 [.func f fa fb] rfl rfl (cells_one_new _ _ _) hone1 hm1 hm2 hBW ?_
              intro v3 w3 hown' hgrow hat
              obtain ⟨hI3, hR3, hc3, hf3, hx3⟩ := hPush w3 v3 hown' (grown_drew_alloc hgrow) hat
              obtain ⟨g', cap', rfl⟩ := ownsRow_succ hown'
              refine hK _ _ ?_
              clear hK K
              refine wpAnyIn_take (i := 8) (v := ?_) rfl rfl (by kernel_rfl) (by kernel_rfl) (by kernel_rfl) (fun _ _ _ h => h) ⟨Or.inl ⟨by rfl, ?_⟩, fun _ => rfl⟩ ?_
              rotate_left
              · intro w; go_simp; try with_reducible rfl
              refine wpAnyIn_take (i := 9) (v := ?_) rfl rfl (by kernel_rfl) (by kernel_rfl) (by kernel_rfl) (fun _ _ _ h => h) ⟨Or.inl ⟨by rfl, ?_⟩, fun _ => rfl⟩ ?_
              rotate_left
              · intro w; go_simp; try with_reducible rfl
              refine wpAnyIn_ready (rs := [10]) (by kernel_rfl) (by simp) ?_
              refine AllReadyIn.cons rfl (fun K hK => ?_) ?_
              · go_simp
                refine hK _ _ ?_
                clear hK K
                refine wpAnyIn_done (by kernel_rfl) ?_ _
                exact ⟨_, by first | exact hR3 | (rw [hVs]; exact hR3), _, hI3⟩
              exact AllReadyIn.nil
            exact AllReadyIn.nil
          exact AllReadyIn.nil
        exact AllReadyIn.nil
      exact AllReadyIn.nil
    refine AllReadyIn.cons rfl (fun K hK => ?_) ?_
    · go_simp
      refine hK _ _ ?_
      clear hK K
      refine wpAnyIn_take (i := 2) (v := ?_) rfl rfl (by kernel_rfl) (by kernel_rfl) (by kernel_rfl) (fun _ _ _ h => h) ⟨Or.inl ⟨by rfl, ?_⟩, fun _ => rfl⟩ ?_
      rotate_left
      · intro w; go_simp; try with_reducible rfl
      refine wpAnyIn_take (i := 3) (v := ?_) rfl rfl (by kernel_rfl) (by kernel_rfl) (by kernel_rfl) (fun _ _ _ h => h) ⟨Or.inl ⟨by rfl, ?_⟩, fun _ => rfl⟩ ?_
      rotate_left
      · intro w; go_simp; try with_reducible rfl
      refine wpAnyIn_ready (rs := [0,4,6]) (by kernel_rfl) (by simp) ?_
      refine AllReadyIn.cons rfl (fun K hK => ?_) ?_
      · go_simp
        refine hK _ _ ?_
        clear hK K
        refine wpAnyIn_ready (rs := [4,6]) (by kernel_rfl) (by simp) ?_
        refine AllReadyIn.cons rfl (fun K hK => ?_) ?_
        · go_simp
          refine hK _ _ ?_
          clear hK K
          refine wpAnyIn_ready (rs := [6]) (by kernel_rfl) (by simp) ?_
          refine AllReadyIn.cons rfl (fun K hK => ?_) ?_
          · go_simp
            refine hK _ _ ?_
            clear hK K
            refine wpAnyIn_ready (rs := [7]) (by kernel_rfl) (by simp) ?_
            refine AllReadyIn.cons rfl (fun K hK => ?_) ?_
            · refine stepIn_append_own rfl _ _ 63 rfl B 1 i0 .nilFunc 1 8 Try.underlying63 hi hz0 hz1 hz2 rfl (by decide) (.slice ta T.length tc) T.length T rfl (own_row_same hto (fun g hg => heap_drew_alloc _ _ (co_own_lt hto g hg))) ⟨W.heap.size, 0, none⟩ 1 1 [.func f fa fb] rfl rfl (cells_one_new _ _ _) hone1 hm1 hm2 hBW ?_
              intro v3 w3 hown' hgrow hat
              obtain ⟨hI3, hR3, hc3, hf3, hx3⟩ := hPush w3 v3 hown' (grown_drew_alloc hgrow) hat
              obtain ⟨g', cap', rfl⟩ := ownsRow_succ hown'
              refine hK _ _ ?_
              clear hK K
              refine wpAnyIn_take (i := 8) (v := ?_) rfl rfl (by kernel_rfl) (by kernel_rfl) (by kernel_rfl) (fun _ _ _ h => h) ⟨Or.inl ⟨by rfl, ?_⟩, fun _ => rfl⟩ ?_
              rotate_left
              · intro w; go_simp; try with_reducible rfl
              refine wpAnyIn_take (i := 9) (v := ?_) rfl rfl (by kernel_rfl) (by kernel_rfl) (by kernel_rfl) (fun _ _ _ h => h) ⟨Or.inl ⟨by rfl, ?_⟩, fun _ => rfl⟩ ?_
              rotate_left
              · intro w; go_simp; try with_reducible rfl
              refine wpAnyIn_ready (rs := [10]) (by kernel_rfl) (by simp) ?_
              refine AllReadyIn.cons rfl (fun K hK => ?_) ?_
              · go_simp
                refine hK _ _ ?_
                clear hK K
                refine wpAnyIn_done (by kernel_rfl) ?_ _
                exact ⟨_, by first | exact hR3 | (rw [hVs]; exact hR3), _, hI3⟩
              exact AllReadyIn.nil
            exact AllReadyIn.nil
          exact AllReadyIn.nil
        refine AllReadyIn.cons rfl (fun K hK => ?_) ?_
        · go_simp
          refine hK _ _ ?_
          clear hK K
          refine wpAnyIn_ready (rs := [4]) (by kernel_rfl) (by simp) ?_
          refine AllReadyIn.cons rfl (fun K hK => ?_) ?_
          · go_simp
            refine hK _ _ ?_
            clear hK K
            refine wpAnyIn_ready (rs := [7]) (by kernel_rfl) (by simp) ?_
            refine AllReadyIn.cons rfl (fun K hK => ?_) ?_
            · refine stepIn_append_own rfl _ _ 63 rfl B 1 i0 .nilFunc 1 8 Try.underlying63 hi hz0 hz1 hz2 rfl (by decide) (.slice ta T.length tc) T.length T rfl (own_row_same hto (fun g hg => heap_drew_alloc _ _ (co_own_lt hto g hg))) ⟨W.heap.size, 0, none⟩ 1 1 [.func f fa fb] rfl rfl (cells_one_new _ _ _) hone1 hm1 hm2 hBW ?_
              intro v3 w3 hown' hgrow hat
              obtain ⟨hI3, hR3, hc3, hf3, hx3⟩ := hPush w3 v3 hown' (grown_drew_alloc hgrow) hat
              obtain ⟨g', cap', rfl⟩ := ownsRow_succ hown'
              refine hK _ _ ?_
              clear hK K
              refine wpAnyIn_take (i := 8) (v := ?_) rfl rfl (by kernel_rfl) (by kernel_rfl) (by kernel_rfl) (fun _ _ _ h => h) ⟨Or.inl ⟨by rfl, ?_⟩, fun _ => rfl⟩ ?_
              rotate_left
              · intro w; go_simp; try with_reducible rfl
              refine wpAnyIn_take (i := 9) (v := ?_) rfl rfl (by kernel_rfl) (by kernel_rfl) (by kernel_rfl) (fun _ _ _ h => h) ⟨Or.inl ⟨by rfl, ?_⟩, fun _ => rfl⟩ ?_
              rotate_left
              · intro w; go_simp; try with_reducible rfl
              refine wpAnyIn_ready (rs := [10]) (by kernel_rfl) (by simp) ?_
              refine AllReadyIn.cons rfl (fun K hK => ?_) ?_
              · go_simp
                refine hK _ _ ?_
                clear hK K
                refine wpAnyIn_done (by kernel_rfl) ?_ _
                exact ⟨_, by first | exact hR3 | (rw [hVs]; exact hR3), _, hI3⟩
              exact AllReadyIn.nil
            exact AllReadyIn.nil
          exact AllReadyIn.nil
        exact AllReadyIn.nil
      refine AllReadyIn.cons rfl (fun K hK => ?_) ?_
      · go_simp
        refine hK _ _ ?_
        clear hK K
        refine wpAnyIn_ready (rs := [0,6]) (by kernel_rfl) (by simp) ?_
        refine AllReadyIn.cons rfl (fun K hK => ?_) ?_
        · go_simp
          refine hK _ _ ?_
          clear hK K
          refine wpAnyIn_ready (rs := [6]) (by kernel_rfl) (by simp) ?_
          refine AllReadyIn.cons rfl (fun K hK => ?_) ?_
          · go_simp
            refine hK _ _ ?_
            clear hK K
            refine wpAnyIn_ready (rs := [7]) (by kernel_rfl) (by simp) ?_
            refine AllReadyIn.cons rfl (fun K hK => ?_) ?_
            · refine stepIn_append_own rfl _ _ 63 rfl B 1 i0 .nilFunc 1 8 Try.underlying63 hi hz0 hz1 hz2 rfl (by decide) (.slice ta T.length tc) T.length T rfl (own_row_same hto (fun g hg => heap_drew_alloc _ _ (co_own_lt hto g hg))) ⟨W.heap.size, 0, none⟩ 1 1 [.func f fa fb] rfl rfl (cells_one_new _ _ _) hone1 hm1 hm2 hBW ?_
              intro v3 w3 hown' hgrow hat
              obtain ⟨hI3, hR3, hc3, hf3, hx3⟩ := hPush w3 v3 hown' (grown_drew_alloc hgrow) hat
              obtain ⟨g', cap', rfl⟩ := ownsRow_succ hown'
              refine hK _ _ ?_
              clear hK K
              refine wpAnyIn_take (i := 8) (v := ?_) rfl rfl (by kernel_rfl) (by kernel_rfl) (by kernel_rfl) (fun _ _ _ h => h) ⟨Or.inl ⟨by rfl, ?_⟩, fun _ => rfl⟩ ?_
              rotate_left
              · intro w; go_simp; try with_reducible rfl
              refine wpAnyIn_take (i := 9) (v := ?_) rfl rfl (by kernel_rfl) (by kernel_rfl) (by kernel_rfl) (fun _ _ _ h => h) ⟨Or.inl ⟨by rfl, ?_⟩, fun _ => rfl⟩ ?_
              rotate_left
              · intro w; go_simp; try with_reducible rfl
              refine wpAnyIn_ready (rs := [10]) (by kernel_rfl) (by simp) ?_
              refine AllReadyIn.cons rfl (fun K hK => ?_) ?_
              · go_simp
                refine hK _ _ ?_
                clear hK K
                refine wpAnyIn_done (by kernel_rfl) ?_ _
                exact ⟨_, by first | exact hR3 | (rw [hVs]; exact hR3), _, hI3⟩
              exact AllReadyIn.nil
            exact AllReadyIn.nil
          exact AllReadyIn.nil
        refine AllReadyIn.cons rfl (fun K hK => ?_) ?_
        · go_simp
          refine hK _ _ ?_
          clear hK K
          refine wpAnyIn_ready (rs := [0,7]) (by kernel_rfl) (by simp) ?_
          refine AllReadyIn.cons rfl (fun K hK => ?_) ?_
          · go_simp
            refine hK _ _ ?_
            clear hK K
            refine wpAnyIn_ready (rs := [7]) (by kernel_rfl) (by simp) ?_
            refine AllReadyIn.cons rfl (fun K hK => ?_) ?_
            · refine stepIn_append_own rfl _ _ 63 rfl B 1 i0 .nilFunc 1 8 Try.underlying63 hi hz0 hz1 hz2 rfl (by decide) (.slice ta T.length tc) T.length T rfl (own_row_same hto (fun g hg => heap_drew_alloc _ _ (co_own_lt hto g hg))) ⟨W.heap.size, 0, none⟩ 1 1 [.func f fa fb] rfl rfl (cells_one_new _ _ _) hone1 hm1 hm2 hBW ?_
              intro v3 w3 hown' hgrow hat
              obtain ⟨hI3, hR3, hc3, hf3, hx3⟩ := hPush w3 v3 hown' (grown_drew_alloc hgrow) hat
              obtain ⟨g', cap', rfl⟩ := ownsRow_succ hown'
              refine hK _ _ ?_
              clear hK K
              refine wpAnyIn_take (i := 8) (v := ?_) rfl rfl (by kernel_rfl) (by kernel_rfl) (by kernel_rfl) (fun _ _ _ h => h) ⟨Or.inl ⟨by rfl, ?_⟩, fun _ => rfl⟩ ?_
              rotate_left
              · intro w; go_simp; try with_reducible rfl
              refine wpAnyIn_take (i := 9) (v := ?_) rfl rfl (by kernel_rfl) (by kernel_rfl) (by kernel_rfl) (fun _ _ _ h => h) ⟨Or.inl ⟨by rfl, ?_⟩, fun _ => rfl⟩ ?_
              rotate_left
              · intro w; go_simp; try with_reducible rfl
              refine wpAnyIn_ready (rs := [10]) (by kernel_rfl) (by simp) ?_
              refine AllReadyIn.cons rfl (fun K hK => ?_) ?_
              · go_simp
                refine hK _ _ ?_
                clear hK K
                refine wpAnyIn_done (by kernel_rfl) ?_ _
                exact ⟨_, by first | exact hR3 | (rw [hVs]; exact hR3), _, hI3⟩
              exact AllReadyIn.nil
            exact AllReadyIn.nil
          refine AllReadyIn.cons rfl (fun K hK => ?_) ?_
          · refine stepIn_append_own rfl _ _ 63 rfl B 1 i0 .nilFunc 1 8 Try.underlying63 hi hz0 hz1 hz2 rfl (by decide) (.slice ta T.length tc) T.length T rfl (own_row_same hto (fun g hg => heap_drew_alloc _ _ (co_own_lt hto g hg))) ⟨W.heap.size, 0, none⟩ 1 1 [.func f fa fb] rfl rfl (cells_one_new _ _ _) hone1 hm1 hm2 hBW ?_
            intro v3 w3 hown' hgrow hat
            obtain ⟨hI3, hR3, hc3, hf3, hx3⟩ := hPush w3 v3 hown' (grown_drew_alloc hgrow) hat
            obtain ⟨g', cap', rfl⟩ := ownsRow_succ hown'
            refine hK _ _ ?_
            clear hK K
            refine wpAnyIn_ready (rs := [0]) (by kernel_rfl) (by simp) ?_
            refine AllReadyIn.cons rfl (fun K hK => ?_) ?_
            · go_simp
              refine hK _ _ ?_
              clear hK K
              refine wpAnyIn_take (i := 8) (v := ?_) rfl rfl (by kernel_rfl) (by kernel_rfl) (by kernel_rfl) (fun _ _ _ h => h) ⟨Or.inl ⟨by rfl, ?_⟩, fun _ => rfl⟩ ?_
              rotate_left
              · intro w; go_simp; try with_reducible rfl
              refine wpAnyIn_take (i := 9) (v := ?_) rfl rfl (by kernel_rfl) (by kernel_rfl) (by kernel_rfl) (fun _ _ _ h => h) ⟨Or.inl ⟨by rfl, ?_⟩, fun _ => rfl⟩ ?_
              rotate_left
              · intro w; go_simp; try with_reducible rfl
              refine wpAnyIn_ready (rs := [10]) (by kernel_rfl) (by simp) ?_
              refine AllReadyIn.cons rfl (fun K hK => ?_) ?_
              · go_simp
                refine hK _ _ ?_
                clear hK K
                refine wpAnyIn_done (by kernel_rfl) ?_ _
                exact ⟨_, by first | exact hR3 | (rw [hVs]; exact hR3), _, hI3⟩
              exact AllReadyIn.nil
            exact AllReadyIn.nil
          exact AllReadyIn.nil
        exact AllReadyIn.nil
      refine AllReadyIn.cons rfl (fun K hK => ?_) ?_
      · go_simp
        refine hK _ _ ?_
        clear hK K
        refine wpAnyIn_ready (rs := [0,4]) (by kernel_rfl) (by simp) ?_
        refine AllReadyIn.cons rfl (fun K hK => ?_) ?_
        · go_simp
          refine hK _ _ ?_
          clear hK K
          refine wpAnyIn_ready (rs := [4]) (by kernel_rfl) (by simp) ?_
          refine AllReadyIn.cons rfl (fun K hK => ?_) ?_
          · go_simp
            refine hK _ _ ?_
            clear hK K
            refine wpAnyIn_ready (rs := [7]) (by kernel_rfl) (by simp) ?_
            refine AllReadyIn.cons rfl (fun K hK => ?_) ?_
            · refine stepIn_append_own rfl _ _ 63 rfl B 1 i0 .nilFunc 1 8 Try.underlying63 hi hz0 hz1 hz2 rfl (by decide) (.slice ta T.length tc) T.length T rfl (own_row_same hto (fun g hg => heap_drew_alloc _ _ (co_own_lt hto g hg))) ⟨W.heap.size, 0, none⟩ 1 1 [.func f fa fb] rfl rfl (cells_one_new _ _ _) hone1 hm1 hm2 hBW ?_
              intro v3 w3 hown' hgrow hat
              obtain ⟨hI3, hR3, hc3, hf3, hx3⟩ := hPush w3 v3 hown' (grown_drew_alloc hgrow) hat
              obtain ⟨g', cap', rfl⟩ := ownsRow_succ hown'
              refine hK _ _ ?_
              clear hK K
              refine wpAnyIn_take (i := 8) (v := ?_) rfl rfl (by kernel_rfl) (by kernel_rfl) (by kernel_rfl) (fun _ _ _ h => h) ⟨Or.inl ⟨by rfl, ?_⟩, fun _ => rfl⟩ ?_
              rotate_left
              · intro w; go_simp; try with_reducible rfl
              refine wpAnyIn_take (i := 9) (v := ?_) rfl rfl (by kernel_rfl) (by kernel_rfl) (by kernel_rfl) (fun _ _ _ h => h) ⟨Or.inl ⟨by rfl, ?_⟩, fun _ => rfl⟩ ?_
              rotate_left
              · intro w; go_simp; try with_reducible rfl
              refine wpAnyIn_ready (rs := [10]) (by kernel_rfl) (by simp) ?_
              refine AllReadyIn.cons rfl (fun K hK => ?_) ?_
              · go_simp
                refine hK _ _ ?_
                clear hK K
                refine wpAnyIn_done (by kernel_rfl) ?_ _
                exact ⟨_, by first | exact hR3 | (rw [hVs]; exact hR3), _, hI3⟩
              exact AllReadyIn.nil
            exact AllReadyIn.nil
          exact AllReadyIn.nil
        refine AllReadyIn.cons rfl (fun K hK => ?_) ?_
        · go_simp
          refine hK _ _ ?_
          clear hK K
          refine wpAnyIn_ready (rs := [0,7]) (by kernel_rfl) (by simp) ?_
          refine AllReadyIn.cons rfl (fun K hK => ?_) ?_
          · go_simp
            refine hK _ _ ?_
            clear hK K
            refine wpAnyIn_ready (rs := [7]) (by kernel_rfl) (by simp) ?_
            refine AllReadyIn.cons rfl (fun K hK => ?_) ?_
            · refine stepIn_append_own rfl _ _ 63 rfl B 1 i0 .nilFunc 1 8 Try.underlying63 hi hz0 hz1 hz2 rfl (by decide) (.slice ta T.length tc) T.length T rfl (own_row_same hto (fun g hg => heap_drew_alloc _ _ (co_own_lt hto g hg))) ⟨W.heap.size, 0, none⟩ 1 1 [.func f fa fb] rfl rfl (cells_one_new _ _ _) hone1 hm1 hm2 hBW ?_
              intro v3 w3 hown' hgrow hat
              obtain ⟨hI3, hR3, hc3, hf3, hx3⟩ := hPush w3 v3 hown' (grown_drew_alloc hgrow) hat
              obtain ⟨g', cap', rfl⟩ := ownsRow_succ hown'
              refine hK _ _ ?_
              clear hK K
              refine wpAnyIn_take (i := 8) (v := ?_) rfl rfl (by kernel_rfl) (by kernel_rfl) (by kernel_rfl) (fun _ _ _ h => h) ⟨Or.inl ⟨by rfl, ?_⟩, fun _ => rfl⟩ ?_
              rotate_left
              · intro w; go_simp; try with_reducible rfl
              refine wpAnyIn_take (i := 9) (v := ?_) rfl rfl (by kernel_rfl) (by kernel_rfl) (by kernel_rfl) (fun _ _ _ h => h) ⟨Or.inl ⟨by rfl, ?_⟩, fun _ => rfl⟩ ?_
              rotate_left
              · intro w; go_simp; try with_reducible rfl
              refine wpAnyIn_ready (rs := [10]) (by kernel_rfl) (by simp) ?_
              refine AllReadyIn.cons rfl (fun K hK => ?_) ?_
              · go_simp
                refine hK _ _ ?_
                clear hK K
                refine wpAnyIn_done (by kernel_rfl) ?_ _
                exact ⟨_, by first | exact hR3 | (rw [hVs]; exact hR3), _, hI3⟩
              exact AllReadyIn.nil
            exact AllReadyIn.nil
          refine AllReadyIn.cons rfl (fun K hK => ?_) ?_
          · refine stepIn_append_own rfl _ _ 63 rfl B 1 i0 .nilFunc 1 8 Try.underlying63 hi hz0 hz1 hz2 rfl (by decide) (.slice ta T.length tc) T.length T rfl (own_row_same hto (fun g hg => heap_drew_alloc _ _ (co_own_lt hto g hg))) ⟨W.heap.size, 0, none⟩ 1 1 [.func f fa fb] rfl rfl (cells_one_new _ _ _) hone1 hm1 hm2 hBW ?_
            intro v3 w3 hown' hgrow hat
            obtain ⟨hI3, hR3, hc3, hf3, hx3⟩ := hPush w3 v3 hown' (grown_drew_alloc hgrow) hat
            obtain ⟨g', cap', rfl⟩ := ownsRow_succ hown'
            refine hK _ _ ?_
            clear hK K
            refine wpAnyIn_ready (rs := [0]) (by kernel_rfl) (by simp) ?_
            refine AllReadyIn.cons rfl (fun K hK => ?_) ?_
            · go_simp
              refine hK _ _ ?_
              clear hK K
              refine wpAnyIn_take (i := 8) (v := ?_) rfl rfl (by kernel_rfl) (by kernel_rfl) (by kernel_rfl) (fun _ _ _ h => h) ⟨Or.inl ⟨by rfl, ?_⟩, fun _ => rfl⟩ ?_
              rotate_left
              · intro w; go_simp; try with_reducible rfl
              refine wpAnyIn_take (i := 9) (v := ?_) rfl rfl (by kernel_rfl) (by kernel_rfl) (by kernel_rfl) (fun _ _ _ h => h) ⟨Or.inl ⟨by rfl, ?_⟩, fun _ => rfl⟩ ?_
              rotate_left
              · intro w; go_simp; try with_reducible rfl
              refine wpAnyIn_ready (rs := [10]) (by kernel_rfl) (by simp) ?_
              refine AllReadyIn.cons rfl (fun K hK => ?_) ?_
              · go_simp
                refine hK _ _ ?_
                clear hK K
                refine wpAnyIn_done (by kernel_rfl) ?_ _
                exact ⟨_, by first | exact hR3 | (rw [hVs]; exact hR3), _, hI3⟩
              exact AllReadyIn.nil
            exact AllReadyIn.nil
          exact AllReadyIn.nil
        exact AllReadyIn.nil
      exact AllReadyIn.nil
    refine AllReadyIn.cons rfl (fun K hK => ?_) ?_
    · go_simp
      refine hK _ _ ?_
      clear hK K
      refine wpAnyIn_ready (rs := [0,1]) (by kernel_rfl) (by simp) ?_
      refine AllReadyIn.cons rfl (fun K hK => ?_) ?_
      · go_simp
        refine hK _ _ ?_
        clear hK K
        refine wpAnyIn_ready (rs := [1]) (by kernel_rfl) (by simp) ?_
        refine AllReadyIn.cons rfl (fun K hK => ?_) ?_
        · go_simp
          refine hK _ _ ?_
          clear hK K
          refine wpAnyIn_take (i := 2) (v := ?_) rfl rfl (by kernel_rfl) (by kernel_rfl) (by kernel_rfl) (fun _ _ _ h => h) ⟨Or.inl ⟨by rfl, ?_⟩, fun _ => rfl⟩ ?_
          rotate_left
          · intro w; go_simp; try with_reducible rfl
          refine wpAnyIn_take (i := 3) (v := ?_) rfl rfl (by kernel_rfl) (by kernel_rfl) (by kernel_rfl) (fun _ _ _ h => h) ⟨Or.inl ⟨by rfl, ?_⟩, fun _ => rfl⟩ ?_
          rotate_left
          · intro w; go_simp; try with_reducible rfl
          refine wpAnyIn_ready (rs := [4]) (by kernel_rfl) (by simp) ?_
          refine AllReadyIn.cons rfl (fun K hK => ?_) ?_
          · go_simp
            refine hK _ _ ?_
            clear hK K
            refine wpAnyIn_ready (rs := [7]) (by kernel_rfl) (by simp) ?_
            refine AllReadyIn.cons rfl (fun K hK => ?_) ?_
            · refine stepIn_append_own rfl _ _ 63 rfl B 1 i0 .nilFunc 1 8 Try.underlying63 hi hz0 hz1 hz2 rfl (by decide) (.slice ta T.length tc) T.length T rfl (own_row_same hto (fun g hg => heap_drew_alloc _ _ (co_own_lt hto g hg))) ⟨W.heap.size, 0, none⟩ 1 1 [.func f fa fb] rfl rfl (cells_one_new _ _ _) hone1 hm1 hm2 hBW ?_
              intro v3 w3 hown' hgrow hat
              obtain ⟨hI3, hR3, hc3, hf3, hx3⟩ := hPush w3 v3 hown' (grown_drew_alloc hgrow) hat
              obtain ⟨g', cap', rfl⟩ := ownsRow_succ hown'
              refine hK _ _ ?_
              clear hK K
              refine wpAnyIn_take (i := 8) (v := ?_) rfl rfl (by kernel_rfl) (by kernel_rfl) (by kernel_rfl) (fun _ _ _ h => h) ⟨Or.inl ⟨by rfl, ?_⟩, fun _ => rfl⟩ ?_
              rotate_left
              · intro w; go_simp; try with_reducible rfl
              refine wpAnyIn_take (i := 9) (v := ?_) rfl rfl (by kernel_rfl) (by kernel_rfl) (by kernel_rfl) (fun _ _ _ h => h) ⟨Or.inl ⟨by rfl, ?_⟩, fun _ => rfl⟩ ?_
              rotate_left
              · intro w; go_simp; try with_reducible rfl
              refine wpAnyIn_ready (rs := [10]) (by kernel_rfl) (by simp) ?_
              refine AllReadyIn.cons rfl (fun K hK => ?_) ?_
              · go_simp
                refine hK _ _ ?_
                clear hK K
                refine wpAnyIn_done (by kernel_rfl) ?_ _
                exact ⟨_, by first | exact hR3 | (rw [hVs]; exact hR3), _, hI3⟩
              exact AllReadyIn.nil
            exact AllReadyIn.nil
          exact AllReadyIn.nil
        exact AllReadyIn.nil
      refine AllReadyIn.cons rfl (fun K hK => ?_) ?_
      · go_simp
        refine hK _ _ ?_
        clear hK K
        refine wpAnyIn_take (i := 2) (v := ?_) rfl rfl (by kernel_rfl) (by kernel_rfl) (by kernel_rfl) (fun _ _ _ h => h) ⟨Or.inl ⟨by rfl, ?_⟩, fun _ => rfl⟩ ?_
        rotate_left
        · intro w; go_simp; try with_reducible rfl
        refine wpAnyIn_take (i := 3) (v := ?_) rfl rfl (by kernel_rfl) (by kernel_rfl) (by kernel_rfl) (fun _ _ _ h => h) ⟨Or.inl ⟨by rfl, ?_⟩, fun _ => rfl⟩ ?_
        rotate_left
        · intro w; go_simp; try with_reducible rfl
        refine wpAnyIn_ready (rs := [0,4]) (by kernel_rfl) (by simp) ?_
        refine AllReadyIn.cons rfl (fun K hK => ?_) ?_
        · go_simp
          refine hK _ _ ?_
          clear hK K
          refine wpAnyIn_ready (rs := [4]) (by kernel_rfl) (by simp) ?_
          refine AllReadyIn.cons rfl (fun K hK => ?_) ?_
          · go_simp
            refine hK _ _ ?_
            clear hK K
            refine wpAnyIn_ready (rs := [7]) (by kernel_rfl) (by simp) ?_
            refine AllReadyIn.cons rfl (fun K hK => ?_) ?_
            · refine stepIn_append_own rfl _ _ 63 rfl B 1 i0 .nilFunc 1 8 Try.underlying63 hi hz0 hz1 hz2 rfl (by decide) (.slice ta T.length tc) T.length T rfl (own_row_same hto (fun g hg => heap_drew_alloc _ _ (co_own_lt hto g hg))) ⟨W.heap.size, 0, none⟩ 1 1 [.func f fa fb] rfl rfl (cells_one_new _ _ _) hone1 hm1 hm2 hBW ?_
              intro v3 w3 hown' hgrow hat
              obtain ⟨hI3, hR3, hc3, hf3, hx3⟩ := hPush w3 v3 hown' (grown_drew_alloc hgrow) hat
              obtain ⟨g', cap', rfl⟩ := ownsRow_succ hown'
              refine hK _ _ ?_
              clear hK K
              refine wpAnyIn_take (i := 8) (v := ?_) rfl rfl (by kernel_rfl) (by kernel_rfl) (by kernel_rfl) (fun _ _ _ h => h) ⟨Or.inl ⟨by rfl, ?_⟩, fun _ => rfl⟩ ?_
              rotate_left
              · intro w; go_simp; try with_reducible rfl
              refine wpAnyIn_take (i := 9) (v := ?_) rfl rfl (by kernel_rfl) (by kernel_rfl) (by kernel_rfl) (fun _ _ _ h => h) ⟨Or.inl ⟨by rfl, ?_⟩, fun _ => rfl⟩ ?_
              rotate_left
              · intro w; go_simp; try with_reducible rfl
              refine wpAnyIn_ready (rs := [10]) (by kernel_rfl) (by simp) ?_
              refine AllReadyIn.cons rfl (fun K hK => ?_) ?_
              · go_simp
                refine hK _ _ ?_
                clear hK K
                refine wpAnyIn_done (by kernel_rfl) ?_ _
                exact ⟨_, by first | exact hR3 | (rw [hVs]; exact hR3), _, hI3⟩
              exact AllReadyIn.nil
            exact AllReadyIn.nil
          exact AllReadyIn.nil
        refine AllReadyIn.cons rfl (fun K hK => ?_) ?_
        · go_simp
          refine hK _ _ ?_
          clear hK K
          refine wpAnyIn_ready (rs := [0,7]) (by kernel_rfl) (by simp) ?_
          refine AllReadyIn.cons rfl (fun K hK => ?_) ?_
          · go_simp
            refine hK _ _ ?_
            clear hK K
            refine wpAnyIn_ready (rs := [7]) (by kernel_rfl) (by simp) ?_
            refine AllReadyIn.cons rfl (fun K hK => ?_) ?_
            · refine stepIn_append_own rfl _ _ 63 rfl B 1 i0 .nilFunc 1 8 Try.underlying63 hi hz0 hz1 hz2 rfl (by decide) (.slice ta T.length tc) T.length T rfl (own_row_same hto (fun g hg => heap_drew_alloc _ _ (co_own_lt hto g hg))) ⟨W.heap.size, 0, none⟩ 1 1 [.func f fa fb] rfl rfl (cells_one_new _ _ _) hone1 hm1 hm2 hBW ?_
              intro v3 w3 hown' hgrow hat
              obtain ⟨hI3, hR3, hc3, hf3, hx3⟩ := hPush w3 v3 hown' (grown_drew_alloc hgrow) hat
              obtain ⟨g', cap', rfl⟩ := ownsRow_succ hown'
              refine hK _ _ ?_
              clear hK K
              refine wpAnyIn_take (i := 8) (v := ?_) rfl rfl (by kernel_rfl) (by kernel_rfl) (by kernel_rfl) (fun _ _ _ h => h) ⟨Or.inl ⟨by rfl, ?_⟩, fun _ => rfl⟩ ?_
              rotate_left
              · intro w; go_simp; try with_reducible rfl
              refine wpAnyIn_take (i := 9) (v := ?_) rfl rfl (by kernel_rfl) (by kernel_rfl) (by kernel_rfl) (fun _ _ _ h => h) ⟨Or.inl ⟨by rfl, ?_⟩, fun _ => rfl⟩ ?_
              rotate_left
              · intro w; go_simp; try with_reducible rfl
              refine wpAnyIn_ready (rs := [10]) (by kernel_rfl) (by simp) ?_
              refine AllReadyIn.cons rfl (fun K hK => ?_) ?_
              · go_simp
                refine hK _ _ ?_
                clear hK K
                refine wpAnyIn_done (by kernel_rfl) ?_ _
                exact ⟨_, by first | exact hR3 | (rw [hVs]; exact hR3), _, hI3⟩
              exact AllReadyIn.nil
            exact AllReadyIn.nil
          refine AllReadyIn.cons rfl (fun K hK => ?_) ?_
          · refine stepIn_append_own rfl _ _ 63 rfl B 1 i0 .nilFunc 1 8 Try.underlying63 hi hz0 hz1 hz2 rfl (by decide) (.slice ta T.length tc) T.length T rfl (own_row_same hto (fun g hg => heap_drew_alloc _ _ (co_own_lt hto g hg))) ⟨W.heap.size, 0, none⟩ 1 1 [.func f fa fb] rfl rfl (cells_one_new _ _ _) hone1 hm1 hm2 hBW ?_
            intro v3 w3 hown' hgrow hat
            obtain ⟨hI3, hR3, hc3, hf3, hx3⟩ := hPush w3 v3 hown' (grown_drew_alloc hgrow) hat
            obtain ⟨g', cap', rfl⟩ := ownsRow_succ hown'
            refine hK _ _ ?_
            clear hK K
            refine wpAnyIn_ready (rs := [0]) (by kernel_rfl) (by simp) ?_
            refine AllReadyIn.cons rfl (fun K hK => ?_) ?_
            · go_simp
              refine hK _ _ ?_
              clear hK K
              refine wpAnyIn_take (i := 8) (v := ?_) rfl rfl (by kernel_rfl) (by kernel_rfl) (by kernel_rfl) (fun _ _ _ h => h) ⟨Or.inl ⟨by rfl, ?_⟩, fun _ => rfl⟩ ?_
              rotate_left
              · intro w; go_simp; try with_reducible rfl
              refine wpAnyIn_take (i := 9) (v := ?_) rfl rfl (by kernel_rfl) (by kernel_rfl) (by kernel_rfl) (fun _ _ _ h => h) ⟨Or.inl ⟨by rfl, ?_⟩, fun _ => rfl⟩ ?_
              rotate_left
              · intro w; go_simp; try with_reducible rfl
              refine wpAnyIn_ready (rs := [10]) (by kernel_rfl) (by simp) ?_
              refine AllReadyIn.cons rfl (fun K hK => ?_) ?_
              · go_simp
                refine hK _ _ ?_
                clear hK K
                refine wpAnyIn_done (by kernel_rfl) ?_ _
                exact ⟨_, by first | exact hR3 | (rw [hVs]; exact hR3), _, hI3⟩
              exact AllReadyIn.nil
            exact AllReadyIn.nil
          exact AllReadyIn.nil
        exact AllReadyIn.nil
      exact AllReadyIn.nil
    exact AllReadyIn.nil
  case done =>
    rintro xs C W rfl ⟨tv', hI⟩ hK
    have hbd := hI.bld
    have hmap : ((List.range us.length).reverse.map fun i => us.getD i .nilFunc) = us.reverse := by
      rw [List.map_reverse]
      congr 1
      apply List.ext_getElem
      · simp
      · intro i h1 h2
        simp at h1 h2 ⊢
        rw [List.getElem?_eq_getElem h2]
        rfl
    rw [hmap] at hbd
    have hcs := hI.cs
    have hks : V.heap.size < W.heap.size := by
      obtain ⟨h1, _⟩ := Array.getElem?_eq_some_iff.1 hK
      exact h1
    have hBp : Below w.heap.size W (W.putObj V.heap.size (.deferred none)) := below_put (by omega)
    have hnk : tv'.ownBlock ≠ some V.heap.size := fun e => by
      have h1 := hbd.«to».2
      rcases h1 with ⟨h1, _⟩ | ⟨g', c', cu, h1, _, hh, _⟩
      · rw [h1] at e; simp [Value.ownBlock] at e
      · rw [h1] at e
        have hgg : g' = V.heap.size := by simpa [Value.ownBlock] using e
        rw [hgg, hK] at hh
        cases hh
    have hfin : Bld B p (W.putObj V.heap.size (.deferred none)) l g k bk iv tv' (ts ++ us.reverse) := hbd.same (World.putObj_heap_other (by omega)) (fun b hb => World.putObj_heap_other (by have := hil b hb; omega)) (fun b hb => World.putObj_heap_other (fun e => hnk (by rw [← e]; exact hb)))
    have hfin2 : CStep p w iv tv (W.putObj V.heap.size (.deferred none)) iv tv' := ⟨hBp.os.trans hcs.os, hBp.tape.trans hcs.tape, hBp.output.trans hcs.output, Nat.le_trans hcs.size hBp.size, fun b hb h1 h2 h3 => by
      obtain ⟨e1, e2, e3⟩ := hcs.block b hb h1 h2 h3
      exact ⟨(hBp.block b hb).trans e1, e2, e3⟩⟩
    have Hf := Lib.hid (And.intro hfin hfin2)
    clear hI hbd hcs hfin hfin2
    gi_wp2
    refine ⟨by simp, .inl ⟨_, _, rfl, run_takeDeferred hK, ?_⟩⟩
    exact ⟨_, results_none rfl _ _ _, rfl, tv', Hf.out.1, Hf.out.2⟩
  case stop =>
    intro c W hk _
    exact hk.elim
end Go.Proofs.Ytihfenkphhnbcaa
