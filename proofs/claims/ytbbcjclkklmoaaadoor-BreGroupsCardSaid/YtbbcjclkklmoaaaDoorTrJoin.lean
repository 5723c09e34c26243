/- The document's Join and Choose. -/
import Derived.Test.YtbbcjclkklmoaaaDoorTrRow
import Derived.Test.YtbbcjclkklmoaaaDoorTrJoinM
namespace Go.Proofs.YtbbcjclkklmoaaaDoor
open Go Go.RowKit

theorem Blk.grown {w w' : World} {b : Nat} {cs : Array Value} {T : TypeId} {r : Option Nat} (h : Blk w b cs T) (hg : w.grownBy w' r) (hr : ∀ k, r = some k → b < k) : Blk w' b cs T := by
  have hlt := h.lt
  unfold Blk at h ⊢
  rw [hg.block b hlt (fun e => by have := hr b e.symm; omega)]
  exact h
set_option linter.unusedSimpArgs false in
set_option maxRecDepth 100000 in
set_option maxHeartbeats 8000000 in
theorem rchoose_any {F : Nat → Prop} (l : List Tr) (a : Option Addr) (cap : Nat) (w : World) (h : TrRw F w l a cap) (hsz : (l.flatMap tcpart).length ≤ 4000000) (hsl : l.length ≤ 4000000) :
    Calls Tryd.prog 18 #[.slice a l.length cap] w fun e w' => ∃ a' cap', e = .returned (tV (tchoose l) a' cap') ∧ TrX (fun _ => True) w' (tchoose l) a' cap' ∧ Below w.heap.size w w' := by
  obtain ⟨i0, hi, hz0, hz1, hz2⟩ := t_info
  obtain ⟨J, hJ⟩ : ∃ J, J = tchoose l := ⟨_, rfl⟩
  rw [← hJ]
  have HJ0 : Hid (J = mkT 3 (l.flatMap tcpart)) := Lib.hid hJ
  clear hJ
  have hin := h.inn
  have hl1 := h.1
  have hl2 := h.2.1
  unfold maxLen at hl2
  clear h
  have Hsz := Lib.hid hsz
  clear hsz
  have hP0 := Blk.new w zC 46 w.heap.size rfl
  have hB0 := (Below.refl w.heap.size w).alloc (Nat.le_refl _) (.cells zC 46)
  go_enter Tryd.func18, Tryd.ntmps18
  go_wp2_with fail
  go_loopw [3, 7] (fun s i wr => ∃ (k : Nat) (us : List Value) (pv : Value), k ≤ l.length ∧ i = .int .i64 k ∧ pv = s ∧ TOwn (fun b => b < w.heap.size) (w.heap.size + 1) wr ((l.take k).flatMap tcpart) pv us ∧ Blk wr w.heap.size zC 46 ∧ Below w.heap.size w wr) (fun _ i _ => l.length - (intOf i).toNat)
  case atStart => exact ⟨0, [], _, by omega, rfl, rfl, TOwn.nil _ _ _, hP0, hB0⟩
  case round =>
    clear hP0 hB0
    obtain ⟨k, us, pv, hk, rfl, hpv, hO, hP, hV⟩ := hrel
    subst hpv
    have hlow : ∀ b, b < w.heap.size → OffV pv b := fun b hb e => by have := own_of hO.1 b e; omega
    by_cases hlt : k < l.length
    · have hrow : TrRw (fun b => b < w.heap.size) wr l a cap := hin.keep hV.size (fun b hf hl => ⟨hf, fun o => hV.cell (p := ⟨b, o, none⟩) hf⟩)
      obtain ⟨b, o, rfl, hbF, hbl, hx⟩ := hrow.2.2 (by omega)
      obtain ⟨a', cap', h9, hxx⟩ := hx k hlt
      have Htk := Lib.hid (tflat_take tcpart l k hlt)
      have hfl := tflat_le tcpart l (k + 1)
      rw [Htk.out, List.length_append] at hfl
      have hfl2 : ((l.take k).flatMap tcpart).length + (tcpart l[k]).length ≤ 4000000 := Nat.le_trans hfl Hsz.out
      obtain ⟨c0, c1, c2, c3, c4, c5, c6, c7, c8⟩ := h9
      have hprt := hxx.down
      have hpl := hprt.1
      have hpm := hprt.2.1
      unfold maxLen at hpm
      clear hx hfl hrow
      generalize l[k] = x at *
      have Hh := Lib.hid hlow
      clear hlow
      by_cases k2 : x.kind = 3
      · have e2 : (x.kind == 3) = true := by simp [k2]
        have Ht : Hid (tcpart x = x.parts) := Lib.hid (by unfold tcpart; rw [if_pos k2])
        rw [Ht.out] at hfl2
        clear k2
        obtain ⟨vs, hch, hnews⟩ := hprt.news
        have hvl := hch.len
        have hv1 := hch.one
        have hch2 : Chunks (fun b => b < w.heap.size ∧ OffV pv b) wr x.parts vs := hch.keep (Nat.le_refl _) (fun b hf _ => ⟨⟨hf, Hh.out b hf⟩, fun _ => rfl⟩)
        have hm1 : ((l.take k).flatMap tcpart).length + x.parts.length ≤ maxLen := by unfold maxLen; omega
        have hm2 : (((l.take k).flatMap tcpart).length + x.parts.length) * 88 ≤ 140737488355328 := by omega
        have hwb : w.heap.size + 1 ≤ wr.heap.size := hP.lt
        have Hvl := Lib.hid hvl
        clear hvl hprt hch c1 c2 c3 c4 c6 c7 c8 hfl2
        go_wp2_with (at_builtin; refine wpList_append_any _ rfl _ _ 44 rfl (w.heap.size + 1) 46 i0 (.agg zC) 9 88 Tryd.underlying44 hi hz0 hz1 hz2 rfl (by decide) _ _ _ rfl hO.1 _ _ _ vs rfl Hvl.out hnews hv1 hm1 hm2 hwb ?_; intro v6 w6 hown6 hgrow6 hat6)
        have hO6 := hO.push hch2 hown6 hgrow6 hat6
        have hP6 := hP.grown hgrow6 (fun k hk => by have := own_of hO.1 k hk; omega)
        have hV6 := hV.grown hgrow6 hV.size (fun k hk => by have := own_of hO.1 k hk; omega)
        clear hO hP hV hown6 hgrow6 hat6
        go_wp2_with fail
        go_roundw
        case rel => exact ⟨k + 1, us ++ vs, v6, by omega, by go_num, rfl, by rw [Htk.out, Ht.out]; exact hO6, hP6, hV6⟩
        case measure => simp [intOf]; omega
      · have e2 : (x.kind == 3) = false := by simp [k2]
        have Ht : Hid (tcpart x = [x]) := Lib.hid (by unfold tcpart; rw [if_neg k2])
        rw [Ht.out] at hfl2
        clear k2
        have hwb : w.heap.size + 1 ≤ wr.heap.size := hP.lt
        have hch2 : Chunks (fun b => b < w.heap.size ∧ OffV pv b) wr [x] (tC x a' cap').toList := Chunks.single (hxx.keep (Nat.le_refl _) (fun b hf _ => ⟨⟨hf, Hh.out b hf⟩, fun _ => rfl⟩))
        have hv1 := hch2.one
        have hm1 : ((l.take k).flatMap tcpart).length + 1 ≤ maxLen := by unfold maxLen; simp only [List.length_cons, List.length_nil] at hfl2; omega
        have hm2 : (((l.take k).flatMap tcpart).length + 1) * 88 ≤ 140737488355328 := by simp only [List.length_cons, List.length_nil] at hfl2; omega
        have hA := (Below.refl wr.heap.size wr).alloc (Nat.le_refl _) (.cells (tC x a' cap') 46)
        have hOA := hO.below hA
        have hPA := hP.alloc (.cells (tC x a' cap') 46)
        have hVA := hV.alloc hV.size (.cells (tC x a' cap') 46)
        have hchA : Chunks (fun b => b < w.heap.size ∧ OffV pv b) (wr.alloc (.cells (tC x a' cap') 46)) [x] (tC x a' cap').toList := hch2.keep hA.size (fun b hf hl => ⟨hf, fun o => hA.cell (p := ⟨b, o, none⟩) hl⟩)
        have hnw := news_new wr x a' cap' 46 wr.heap.size rfl
        clear hprt hfl2 hch2
        go_wp2_with (at_builtin; refine wpList_append_any _ rfl _ _ 44 rfl (w.heap.size + 1) 46 i0 (.agg zC) 9 88 Tryd.underlying44 hi hz0 hz1 hz2 rfl (by decide) _ _ _ rfl hOA.1 (some ⟨wr.heap.size, 0, none⟩) 1 1 (tC x a' cap').toList rfl rfl (fun _ => ⟨_, rfl, hnw⟩) hv1 hm1 hm2 (by simp; omega) ?_; intro v6 w6 hown6 hgrow6 hat6)
        have hO6 := hOA.push hchA hown6 hgrow6 hat6
        have hP6 := hPA.grown hgrow6 (fun k hk => by have := own_of hOA.1 k hk; omega)
        have hV6 := hVA.grown hgrow6 hVA.size (fun k hk => by have := own_of hOA.1 k hk; omega)
        clear hO hP hV hown6 hgrow6 hat6 hOA hPA hVA hA hchA hnw c0 c1 c2 c3 c4 c5 c6 c7 c8
        go_wp2_with fail
        go_roundw
        case rel => exact ⟨k + 1, us ++ (tC x a' cap').toList, v6, by omega, by go_num, rfl, by rw [Htk.out, Ht.out]; exact hO6, hP6, hV6⟩
        case measure => simp [intOf]; omega
    · obtain rfl : k = l.length := by omega
      rw [List.take_of_length_le (Nat.le_refl _)] at hO
      obtain ⟨a9, cap9, rfl, hR⟩ := hO.row
      have hszz := Hsz.out
      have HJ := Lib.hid HJ0.out
      clear HJ0 Hsz
      generalize l.flatMap tcpart = xs at *
      have p0 := (hP.cell 0).trans rfl
      have p1 := (hP.cell 1).trans rfl
      have p2 := (hP.cell 2).trans rfl
      have p3 := (hP.cell 3).trans rfl
      have p4 := (hP.cell 4).trans rfl
      have p5 := (hP.cell 5).trans rfl
      have p6 := (hP.cell 6).trans rfl
      have p7 := (hP.cell 7).trans rfl
      have p8 := (hP.cell 8).trans rfl
      have z0 := hP.frozen 0
      have z1 := hP.frozen 1
      have z2 := hP.frozen 2
      have z3 := hP.frozen 3
      have z4 := hP.frozen 4
      have z5 := hP.frozen 5
      have z6 := hP.frozen 6
      have z7 := hP.frozen 7
      have z8 := hP.frozen 8
      have hbl := hP.lt
      clear hO hin
      rcases xs with _ | ⟨x, _ | ⟨y, ys⟩⟩
      · have HJ2 : Hid (J = tz) := Lib.hid HJ.out
        clear HJ
        obtain rfl := HJ2.out
        go_wp2_with fail
        obtain ⟨w9, hw9⟩ : ∃ w9, w9 = _ := ⟨_, rfl⟩
        obtain ⟨hB9, hk9, hs9, d0, d1, d2, d3, d4, d5, d6, d7, d8⟩ := put9 hV (Nat.le_refl _) hP _ _ _ _ _ _ _ _ _ w9 hw9.symm
        rw [← hw9]
        clear hw9
        refine bodyPost_ret (v := tV tz none 0) (by simp [results, Tryd.results18, go_sem, tV, tz, Tr.kind, Tr.set, Tr.parts, Tr.mn, Tr.mx, Tr.num, ow_zero, d0, d1, d2, d3, d4, d5, d6, d7, d8]) rfl ⟨none, 0, rfl, TrRw.up (TrRw.nil _ _ _ _ (Nat.zero_le _)), hB9⟩
      · have HJ2 : Hid (J = x) := Lib.hid HJ.out
        clear HJ
        obtain rfl := HJ2.out
        obtain ⟨b, o, rfl, _, hbb, hx⟩ := hR.2.2 (by simp)
        obtain ⟨a', cap', h9, hxx⟩ := hx 0 (by simp)
        simp only [Nat.zero_mul, Nat.add_zero, List.getElem_cons_zero] at h9 hxx
        obtain ⟨c0, c1, c2, c3, c4, c5, c6, c7, c8⟩ := h9
        have hR1 := hR.1
        have hR2 := hR.2.1
        unfold maxLen at hR2
        clear hx hR
        simp only [List.length_cons, List.length_nil, Nat.zero_add] at hR1 ⊢
        go_wp2_with fail
        obtain ⟨w9, hw9⟩ : ∃ w9, w9 = _ := ⟨_, rfl⟩
        obtain ⟨hB9, hk9, hs9, d0, d1, d2, d3, d4, d5, d6, d7, d8⟩ := put9 hV (Nat.le_refl _) hP _ _ _ _ _ _ _ _ _ w9 hw9.symm
        rw [← hw9]
        clear hw9
        refine bodyPost_ret (v := tV J a' cap') (by simp [results, Tryd.results18, go_sem, tV, d0, d1, d2, d3, d4, d5, d6, d7, d8]) rfl ⟨a', cap', rfl, TrX.wide (hxx.keep (by rw [hs9]; exact Nat.le_refl _) (fun b hf _ => ⟨hf, hk9 b (by omega)⟩)), hB9⟩
      · have HJ2 : Hid (J = .mk 3 oz 0 0 0 (x :: y :: ys)) := Lib.hid HJ.out
        clear HJ
        have e0 : (((x :: y :: ys).length : Int) == 0) = false := by simp; omega
        have e1 : (((x :: y :: ys).length : Int) == 1) = false := by simp; omega
        generalize x :: y :: ys = xs at *
        obtain rfl := HJ2.out
        go_wp2_with fail
        obtain ⟨w9, hw9⟩ : ∃ w9, w9 = _ := ⟨_, rfl⟩
        obtain ⟨hB9, hk9, hs9, d0, d1, d2, d3, d4, d5, d6, d7, d8⟩ := put9 hV (Nat.le_refl _) hP _ _ _ _ _ _ _ _ _ w9 hw9.symm
        rw [← hw9]
        clear hw9
        refine bodyPost_ret (v := tV (.mk 3 oz 0 0 0 xs) a9 cap9) (by simp [results, Tryd.results18, go_sem, tV, Tr.kind, Tr.set, Tr.parts, Tr.mn, Tr.mx, Tr.num, ow_zero, d0, d1, d2, d3, d4, d5, d6, d7, d8]) rfl ⟨a9, cap9, rfl, TrRw.up (t := .mk 3 oz 0 0 0 xs) (TrRw.keep (F := fun b => b < w.heap.size ∨ w.heap.size + 1 ≤ b) (by rw [hs9]; exact Nat.le_refl _) (fun b hf _ => ⟨trivial, hk9 b (by omega)⟩) hR), hB9⟩
end Go.Proofs.YtbbcjclkklmoaaaDoor
