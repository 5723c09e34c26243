/- Backs of the program. -/
import Derived.Test.YtaekjcbgnlldoaaNdAsk
namespace Go.Proofs.Ytaekjcbgnlldoaa
open Go Go.RowKit

attribute [local go_sem] Oper.semAt_some
/-- Is a node a Back? -/
theorem assert_back {F : Nat → Prop} {w0 : World} {d : Nd} {v : Value} (h : NdX F w0 d v) : ∃ (num : Int),
    (∀ w, (Instr.typeAssert v 31 61 true).run Try.prog w = .ok (.tuple #[.agg #[.int .i64 num], .bool (nbck d)]) w) := by
  obtain ⟨n, h⟩ := h
  cases n with
  | zero => exact h.elim
  | succ n =>
    cases d with
    | empty =>
      rcases h with rfl | rfl
      · exact ⟨0, ta_Empty_Back _⟩
      · exact ⟨0, ta_nil_Back⟩
    | one s => obtain rfl := h; exact ⟨0, ta_One_Back _⟩
    | cat l => obtain ⟨a, cap, rfl, _⟩ := h; exact ⟨0, ta_Cat_Back _⟩
    | alt l => obtain ⟨a, cap, rfl, _⟩ := h; exact ⟨0, ta_Alt_Back _⟩
    | rep d mn mx => obtain ⟨u, rfl, _⟩ := h; exact ⟨0, ta_Rep_Back _⟩
    | group num d => obtain ⟨u, rfl, hu⟩ := h; exact ⟨0, ta_Group_Back _⟩
    | back num => obtain rfl := h; exact ⟨num, ta_Back_Back _⟩
    | start => obtain rfl := h; exact ⟨0, ta_Start_Back _⟩
    | fin => obtain rfl := h; exact ⟨0, ta_End_Back _⟩
/-- Is one of them a Back? -/
def anyb (l : List (Nd × Bool)) : Bool := l.any (fun x => nbck x.1)
theorem anyb_append (l m : List (Nd × Bool)) : anyb (l ++ m) = (anyb l || anyb m) := by unfold anyb; rw [List.any_append]
theorem anyb_cons (x : Nd × Bool) (l : List (Nd × Bool)) : anyb (x :: l) = (nbck x.1 || anyb l) := rfl
theorem anyb_nil : anyb [] = false := rfl
mutual
theorem evs_backs : ∀ d : Nd, anyb (evs d) = nbacks d
  | .cat l => by have := evss_backs l; simp [evs, nbacks, anyb_cons, anyb_append, anyb_nil, nbck, this]
  | .alt l => by have := evss_backs l; simp [evs, nbacks, anyb_cons, anyb_append, anyb_nil, nbck, this]
  | .rep d _ _ => by have := evs_backs d; simp [evs, nbacks, anyb_cons, anyb_append, anyb_nil, nbck, this]
  | .group _ d => by have := evs_backs d; simp [evs, nbacks, anyb_cons, anyb_append, anyb_nil, nbck, this]
  | .empty => rfl
  | .one _ => rfl
  | .back _ => rfl
  | .start => rfl
  | .fin => rfl
theorem evss_backs : ∀ l : List Nd, anyb (evss l) = nbackss l
  | [] => rfl
  | d :: ds => by have := evs_backs d; have := evss_backs ds; simp [evss, nbackss, anyb_append, *]
end
set_option linter.unusedSimpArgs false in
set_option maxRecDepth 100000 in
set_option maxHeartbeats 4000000 in
theorem pbacks_any (d : Nd) (v : Value) (w : World) (h : NdX (fun k => k < w.heap.size) w d v) (hsz : nsize d ≤ 4000000) :
    Calls Try.prog 17 #[v] w fun e w' => e = .returned (.bool (nbacks d)) ∧ Below w.heap.size w w' := by
  have hsh : (∃ T q, v = .iface T q) ∨ v = .nilIface := h.elim fun _ h => nd_shape h
  refine (callsIn_wide (n := 3)).1 ?_
  refine callsIn_of_wp_marks Try.func17 rfl trivial ?_ rfl
  simp only [Try.ntmps17, List.size_toArray, List.length_cons, List.length_nil, Nat.reduceAdd, Nat.reduceSub, Array.replicate_succ, Array.replicate_zero, List.push_toArray, List.append_toArray, List.nil_append, List.cons_append]
  gi_wp2_with (refine ⟨trivial, ?_⟩; gi_at_call 30; refine (callsIn_wide.2 (walk_any _ _ hsh)).mono ?_; rintro e w' ⟨rfl, rfl⟩)
  obtain ⟨V, hV⟩ : ∃ V, (w.alloc (.cells #[.bool false] 4)).alloc (.cells #[v] 31) = V := ⟨_, rfl⟩
  have hB : Below w.heap.size w V := by rw [← hV]; exact ((Below.refl _ w).alloc (Nat.le_refl _) _).alloc (by simp) _
  have hVs : V.heap.size = w.heap.size + 2 := by rw [← hV]; simp
  have hc : V.cell? ⟨w.heap.size + 1, 0, none⟩ = some v := by
    have h1 := (Boxed.new (w.alloc (.cells #[.bool false] 4)) 31 v).cell
    rw [World.size_alloc, hV] at h1
    exact h1
  have hb0 : Boxed V w.heap.size 4 (.bool false) := by
    have h1 := (Boxed.new w 4 (.bool false)).alloc (.cells #[v] 31)
    rw [hV] at h1
    exact h1
  rw [hV]
  refine wpIn_rangeFunc_cells (gf := 38) (lb := #[.pointer (some ⟨w.heap.size + 1, 0, none⟩)]) rfl (enters_of Try.func38 (by kernel_rfl) rfl)
    (walk_gives d hsz w.heap.size (w.heap.size + 1) v V (by omega) hc (h.below hB)) (Below.refl _ _) (by omega)
    (fun pre x args C b W hk => by obtain ⟨_, rfl, _⟩ := hk; rfl)
    (fun pre x args C b W k o hk h1 h2 => nd_ok_put hk h1 h2)
    (fun pre C W => Ctr w w.heap.size 4 d (fun _ => .bool false) pre C W ∧ anyb pre = false) (fun c W => c = .ret ∧ nbacks d = true ∧ Ctr w w.heap.size 4 d (fun _ => .bool true) [] (fun _ => False) W)
    (fun pre C X Y hk ho => ⟨hk.1.other ho (by omega) (by omega), hk.2⟩) (fun c X Y hk ho => ⟨hk.1, hk.2.1, hk.2.2.other ho (by omega) (by omega)⟩) ⟨⟨fun _ h => h, hb0, hB, Nat.le_refl _⟩, rfl⟩ ?round ?done ?stop
  case round =>
    rintro l pre ⟨d', b⟩ args C W hI hOk hC hlt
    obtain ⟨v', rfl, hsuf, hv'⟩ := hOk
    obtain ⟨num, hTA⟩ := assert_back hv'
    gi_wp2
    have hI2 := hI.2
    clear hI hlt hv'
    intro W hI hOk hlt
    clear hOk
    have hIA := fun o => hI.mem ((Below.refl _ W).alloc (Nat.le_refl _) o)
    have hRA := fun o => Rd.below (n₀ := w.heap.size) (B := w.heap.size + 2) (C := C) ((Below.refl _ W).alloc (Nat.le_refl _) o)
    have hcA := fun o => (hIA o).box.cell
    have hfA := fun o => (hIA o).box.frozen
    have Hn := Lib.hid (show anyb (pre ++ [(d', b)]) = nbck d' by rw [anyb_append, hI2, anyb_cons, anyb_nil]; simp)
    have Hy := Lib.hid (show nbck d' = true → nbacks d = true by
      intro hn
      obtain ⟨suf, hs⟩ := hsuf
      rw [← evs_backs, ← hs, anyb_append, anyb_cons, hn]
      simp)
    clear hI2
    cases hG : nbck d'
    · rw [hG] at hTA
      replace Hn := Lib.hid (Hn.out.trans hG)
      clear hG
      gi_wp2
      exact ⟨C, hRA _, (hIA _).skip rfl, Hn.out⟩
    · rw [hG] at hTA
      replace Hy := Lib.hid (Hy.out hG)
      clear hG
      gi_wp2
      exact ⟨(hRA _).trans (Rd.setCell _ _ _ _ (Nat.le_refl _) (by simp)), rfl, Hy.out, fun _ h => h, Boxed.set _ (hIA _).box, (hIA _).below.setCell (p := ⟨w.heap.size, 0, none⟩) (Nat.le_refl _) _, Nat.le_refl _⟩
  case done =>
    rintro xs C W rfl ⟨hI, hn⟩ hK
    have hc := hI.box.cell
    have hf := hI.box.frozen
    rw [evs_backs] at hn
    have Hn := Lib.hid hn
    clear hn
    gi_wp2
    have hK' : (W.setCell ⟨w.heap.size, 0, none⟩ (.bool false)).heap[V.heap.size]? = some (.deferred (some [])) := (Below.heap_setCell _ _ _ _ (by simp; omega)).trans hK
    refine ⟨by simp, .inl ⟨_, _, rfl, run_takeDeferred hK', ?_⟩⟩
    have hc5 : ((W.setCell ⟨w.heap.size, 0, none⟩ (.bool false)).putObj V.heap.size (.deferred none)).cell? ⟨w.heap.size, 0, none⟩ = some (.bool false) :=
      (Boxed.same (Boxed.set (.bool false) hI.box) (World.putObj_heap_other (by omega))).cell
    refine ⟨.bool false, ?_, by rw [Hn.out], (hI.below.setCell (p := ⟨w.heap.size, 0, none⟩) (Nat.le_refl _) _).trans (below_put (by omega))⟩
    simp [results, Try.f17, go_sem, hc5]
  case stop =>
    rintro c W ⟨rfl, hn, hI⟩ hK
    have Hn := Lib.hid hn
    clear hn
    gi_wp2
    refine ⟨by simp, .inl ⟨_, _, rfl, run_takeDeferred hK, ?_⟩⟩
    have hc5 : (W.putObj V.heap.size (.deferred none)).cell? ⟨w.heap.size, 0, none⟩ = some (.bool true) := (Boxed.same hI.box (World.putObj_heap_other (by omega))).cell
    refine ⟨.bool true, ?_, by rw [Hn.out], hI.below.trans (below_put (by omega))⟩
    simp [results, Try.f17, go_sem, hc5]
end Go.Proofs.Ytaekjcbgnlldoaa
