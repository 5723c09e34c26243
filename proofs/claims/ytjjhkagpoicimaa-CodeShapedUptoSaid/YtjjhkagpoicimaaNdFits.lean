/- Whether a node may stand where it does: the program's fits, and what it asks. -/
import Derived.Test.YtjjhkagpoicimaaNdInner
import Derived.Test.YtjjhkagpoicimaaMaA
import Derived.WalkKit
import Derived.Deep.QuietTactic
namespace Go.Proofs.Ytjjhkagpoicimaa
open Go Go.RowKit

/-- A node's value, by its kind. -/
theorem nd_kinds {F : Nat → Prop} {w : World} {d : Nd} {v : Value} (h : NdX F w d v) :
    (d = .empty ∧ (v = .iface 80 (.agg #[]) ∨ v = .nilIface)) ∨ (∃ s : OSet, d = .one s ∧ v = .iface 55 (.agg #[.int .u64 (ow s 0), .int .u64 (ow s 1), .int .u64 (ow s 2), .int .u64 (ow s 3)])) ∨
    (∃ l a cap, d = .cat l ∧ v = .iface 71 (.agg #[.slice a l.length cap]) ∧ NdRw F w l a cap) ∨ (∃ l a cap, d = .alt l ∧ v = .iface 72 (.agg #[.slice a l.length cap]) ∧ NdRw F w l a cap) ∨
    (∃ d' mn mx u, d = .rep d' mn mx ∧ v = .iface 57 (.agg #[u, .int .i64 mn, .int .i64 mx]) ∧ NdX F w d' u) ∨ (∃ num d' u, d = .group num d' ∧ v = .iface 74 (.agg #[.int .i64 num, u]) ∧ NdX F w d' u) ∨
    (∃ num, d = .back num ∧ v = .iface 76 (.agg #[.int .i64 num])) ∨ (d = .start ∧ v = .iface 78 (.agg #[])) ∨ (d = .fin ∧ v = .iface 79 (.agg #[])) := by
  obtain ⟨n, h⟩ := h
  cases n with
  | zero => exact h.elim
  | succ n =>
    cases d with
    | empty => exact .inl ⟨rfl, h⟩
    | one s => exact .inr (.inl ⟨s, rfl, h⟩)
    | cat l => obtain ⟨a, cap, h1, h2⟩ := h; exact .inr (.inr (.inl ⟨l, a, cap, rfl, h1, NdRw.of (n := n) h2⟩))
    | alt l => obtain ⟨a, cap, h1, h2⟩ := h; exact .inr (.inr (.inr (.inl ⟨l, a, cap, rfl, h1, NdRw.of (n := n) h2⟩)))
    | rep d mn mx => obtain ⟨u, h1, h2⟩ := h; exact .inr (.inr (.inr (.inr (.inl ⟨d, mn, mx, u, rfl, h1, n, h2⟩))))
    | group num d => obtain ⟨u, h1, h2⟩ := h; exact .inr (.inr (.inr (.inr (.inr (.inl ⟨num, d, u, rfl, h1, n, h2⟩)))))
    | back num => exact .inr (.inr (.inr (.inr (.inr (.inr (.inl ⟨num, rfl, h⟩))))))
    | start => exact .inr (.inr (.inr (.inr (.inr (.inr (.inr (.inl ⟨rfl, h⟩)))))))
    | fin => exact .inr (.inr (.inr (.inr (.inr (.inr (.inr (.inr ⟨rfl, h⟩)))))))
theorem nd_ret_bool {a b : Bool} (h : a = b) : Ending.returned (.bool a) = .returned (.bool b) := by rw [h]
set_option linter.unusedSimpArgs false in
set_option maxRecDepth 100000 in
set_option maxHeartbeats 1000000 in
theorem nocat_any {F : Nat → Prop} (d : Nd) (v : Value) (w : World) (h : NdX F w d v) : Calls Try.prog 41 #[v] w fun e w' => e = .returned (.bool (!inCat d)) ∧ Below w.heap.size w w' := by
  rcases nd_kinds h with ⟨rfl, rfl | rfl⟩ | ⟨s, rfl, rfl⟩ | ⟨l, a, cap, rfl, rfl, hr⟩ | ⟨l, a, cap, rfl, rfl, hr⟩ | ⟨d', mn, mx, u, rfl, rfl, hu⟩ | ⟨num, d', u, rfl, rfl, hu⟩ | ⟨num, rfl, rfl⟩ | ⟨rfl, rfl⟩ | ⟨rfl, rfl⟩
  all_goals
    go_enter Try.func41, Try.ntmps41
    go_wp2_with fail
    go_ret
    exact ⟨rfl, Below.refl _ _⟩
set_option linter.unusedSimpArgs false in
set_option maxRecDepth 100000 in
set_option maxHeartbeats 1000000 in
theorem isalt_any {F : Nat → Prop} (d : Nd) (v : Value) (w : World) (h : NdX F w d v) : Calls Try.prog 42 #[v] w fun e w' => e = .returned (.bool (!inAlt d)) ∧ Below w.heap.size w w' := by
  rcases nd_kinds h with ⟨rfl, rfl | rfl⟩ | ⟨s, rfl, rfl⟩ | ⟨l, a, cap, rfl, rfl, hr⟩ | ⟨l, a, cap, rfl, rfl, hr⟩ | ⟨d', mn, mx, u, rfl, rfl, hu⟩ | ⟨num, d', u, rfl, rfl, hu⟩ | ⟨num, rfl, rfl⟩ | ⟨rfl, rfl⟩ | ⟨rfl, rfl⟩
  all_goals
    go_enter Try.func42, Try.ntmps42
    go_wp2_with fail
    go_ret
    refine ⟨rfl, ?_⟩
    repeat (first | (with_reducible exact hW) | (with_reducible exact Below.refl _ _) | refine Below.drew ?_ | refine Below.setCell ?_ (by first | omega | (simp; omega) | simp) _ | refine Below.alloc ?_ (by first | omega | (simp; omega) | simp) _)
set_option linter.unusedSimpArgs false in
set_option maxRecDepth 100000 in
set_option maxHeartbeats 1000000 in
theorem repeats_any {F : Nat → Prop} (d : Nd) (v : Value) (w : World) (h : NdX F w d v) : Calls Try.prog 44 #[v] w fun e w' => e = .returned (.bool (inRep d)) ∧ Below w.heap.size w w' := by
  rcases nd_kinds h with ⟨rfl, rfl | rfl⟩ | ⟨s, rfl, rfl⟩ | ⟨l, a, cap, rfl, rfl, hr⟩ | ⟨l, a, cap, rfl, rfl, hr⟩ | ⟨d', mn, mx, u, rfl, rfl, hu⟩ | ⟨num, d', u, rfl, rfl, hu⟩ | ⟨num, rfl, rfl⟩ | ⟨rfl, rfl⟩ | ⟨rfl, rfl⟩
  all_goals
    go_enter Try.func44, Try.ntmps44
    go_wp2_with fail
    go_ret
    exact ⟨rfl, Below.refl _ _⟩
set_option linter.unusedSimpArgs false in
set_option maxRecDepth 100000 in
set_option maxHeartbeats 1000000 in
theorem tbounds_any (mn mx : Int) (w : World) : Calls Try.prog 43 #[.int .i64 mn, .int .i64 mx] w fun e w' => e = .returned (.bool (okRep mn mx)) ∧ w' = w := by
  go_enter Try.func43, Try.ntmps43
  go_wp2_with fail
  all_goals
    go_ret
    refine ⟨nd_ret_bool ?_, rfl⟩
    unfold okRep
    rw [Bool.eq_iff_iff]
    simp
    omega
theorem any_take (p : Nd → Bool) (l : List Nd) (k : Nat) (h : k < l.length) : (l.take (k + 1)).any p = ((l.take k).any p || p l[k]) := by
  rw [List.take_succ_eq_append_getElem h, List.any_append]
  simp
theorem any_yes (p : Nd → Bool) (l : List Nd) (k : Nat) (h : k < l.length) (hp : p l[k] = true) : l.any p = true := List.any_eq_true.2 ⟨_, List.getElem_mem h, hp⟩
set_option linter.unusedSimpArgs false in
set_option maxRecDepth 100000 in
set_option maxHeartbeats 1000000 in
theorem ndix_any {F : Nat → Prop} (f : Nat) (p : Nd → Bool) (hf : f = 41 ∨ f = 42) (hP : ∀ d v w, NdX F w d v → Calls Try.prog f #[v] w fun e w' => e = .returned (.bool (p d)) ∧ Below w.heap.size w w')
    (l : List Nd) (a : Option Addr) (cap : Nat) (w : World) (h : NdRw F w l a cap) :
    Calls Try.prog 48 #[.slice a l.length cap, .func (.func f) #[] #[]] w fun e w' => ∃ k : Int, e = .returned (.int .i64 k) ∧ decide (0 ≤ k) = l.any p ∧ Below w.heap.size w w' := by
  have hlen := h.1
  have hl2 := h.2.1
  unfold maxLen at hl2
  have Hh := Lib.hid h.2.2
  clear h
  rcases hf with rfl | rfl
  all_goals
    go_enter Try.func48, Try.ntmps48
    go_wp2_with fail
    go_loopw [8] (fun i wr => ∃ k : Nat, k ≤ l.length ∧ i = .int .i64 k ∧ (l.take k).any p = false ∧ Below w.heap.size w wr) (fun i _ => l.length - (intOf i).toNat)
    case atStart => exact ⟨0, by omega, rfl, rfl, Below.refl _ _⟩
    case round =>
      obtain ⟨k, hk, rfl, hks, hW⟩ := hrel
      have Hks := Lib.hid hks
      clear hks
      by_cases hlt : k < l.length
      · obtain ⟨b, o, rfl, hfb, hbl, hx⟩ := Hh.out (by omega)
        obtain ⟨u, hu, hr⟩ := hx k hlt
        replace hu := (hW.cell (p := ⟨b, o + k, none⟩) hbl).trans hu
        replace hr := hr.below hW
        have Hs := Lib.hid (any_take p l k hlt)
        have Hn := Lib.hid (any_yes p l k hlt)
        clear hx
        have hPu := hP l[k] u wr hr
        generalize l[k] = x at *
        cases hpx : p x
        · rw [hpx] at hPu
          have Hr := Lib.hid (show (l.take (k + 1)).any p = false by rw [Hs.out, Hks.out, hpx]; rfl)
          clear hpx
          go_wp2_with (first | (go_at_call 41; refine hPu.mono ?_; rintro e w2 ⟨rfl, b2⟩) | (go_at_call 42; refine hPu.mono ?_; rintro e w2 ⟨rfl, b2⟩))
          go_roundw
          case rel => exact ⟨k + 1, by omega, by go_num, Hr.out, hW.trans (b2.mono hW.size)⟩
          case measure => simp [intOf]; omega
        · rw [hpx] at hPu
          have Hr := Lib.hid (Hn.out hpx)
          clear hpx
          go_wp2_with (first | (go_at_call 41; refine hPu.mono ?_; rintro e w2 ⟨rfl, b2⟩) | (go_at_call 42; refine hPu.mono ?_; rintro e w2 ⟨rfl, b2⟩))
          go_ret
          exact ⟨k, rfl, by rw [Hr.out]; simp, hW.trans (b2.mono hW.size)⟩
      · obtain rfl : k = l.length := by omega
        have Hr := Lib.hid (show l.any p = false by rw [← Hks.out, List.take_length])
        go_wp2_with fail
        go_ret
        exact ⟨-1, rfl, by rw [Hr.out]; rfl, hW⟩
set_option linter.unusedSimpArgs false in
set_option maxRecDepth 100000 in
set_option maxHeartbeats 1000000 in
theorem contains_any {F : Nat → Prop} (f : Nat) (p : Nd → Bool) (hf : f = 41 ∨ f = 42) (hP : ∀ d v w, NdX F w d v → Calls Try.prog f #[v] w fun e w' => e = .returned (.bool (p d)) ∧ Below w.heap.size w w')
    (l : List Nd) (a : Option Addr) (cap : Nat) (w : World) (h : NdRw F w l a cap) :
    Calls Try.prog 40 #[.slice a l.length cap, .func (.func f) #[] #[]] w fun e w' => e = .returned (.bool (l.any p)) ∧ Below w.heap.size w w' := by
  have hI := ndix_any f p hf hP l a cap w h
  clear h
  go_enter Try.func40, Try.ntmps40
  go_wp2_with (go_at_call 48; refine hI.mono ?_; rintro e w2 ⟨k, rfl, hk, b2⟩)
  go_ret
  exact ⟨rfl, b2⟩
/-- A row of bools in memory. -/
def BlRow (w : World) (es : List Bool) (v : Value) : Prop := ∃ a cap, v = .slice a es.length cap ∧ es.length ≤ cap ∧ cap ≤ maxLen ∧ (0 < es.length → ∃ g, a = some ⟨g, 0, none⟩ ∧ g < w.heap.size ∧ ∀ i (h : i < es.length), w.cell? ⟨g, i, none⟩ = some (.bool es[i]))
theorem BlRow.below {w w' : World} {es : List Bool} {v : Value} (h : BlRow w es v) (hb : Below w.heap.size w w') : BlRow w' es v := by
  obtain ⟨a, cap, rfl, h1, h2, h3⟩ := h
  refine ⟨a, cap, rfl, h1, h2, fun h0 => ?_⟩
  obtain ⟨g, rfl, hg, hx⟩ := h3 h0
  exact ⟨g, rfl, Nat.lt_of_lt_of_le hg hb.size, fun i hi => (hb.cell (p := ⟨g, i, none⟩) hg).trans (hx i hi)⟩
set_option linter.unusedSimpArgs false in
set_option maxRecDepth 100000 in
set_option maxHeartbeats 4000000 in
theorem fits_any {F : Nat → Prop} (d : Nd) (v : Value) (es : List Bool) (ev : Value) (w : World) (h : NdX F w d v) (he : BlRow w es ev) (hes : es.length ≤ 8000000) :
    Calls Try.prog 33 #[v, ev] w fun e w' => e = .returned (.bool (fitsM d es)) ∧ Below w.heap.size w w' := by
  obtain ⟨ea, ecap, rfl, he1, he2, he3⟩ := he
  unfold maxLen at he2
  have He := Lib.hid he3
  clear he3
  rcases nd_kinds h with ⟨rfl, rfl | rfl⟩ | ⟨s, rfl, rfl⟩ | ⟨l, a, cap, rfl, rfl, hr⟩ | ⟨l, a, cap, rfl, rfl, hr⟩ | ⟨d', mn, mx, u, rfl, rfl, hu⟩ | ⟨num, d', u, rfl, rfl, hu⟩ | ⟨num, rfl, rfl⟩ | ⟨rfl, rfl⟩ | ⟨rfl, rfl⟩
  · go_enter Try.func33, Try.ntmps33
    go_wp2_with fail
    go_ret
    exact ⟨rfl, Below.refl _ _⟩
  · go_enter Try.func33, Try.ntmps33
    go_wp2_with fail
    go_ret
    exact ⟨rfl, Below.refl _ _⟩
  · go_enter Try.func33, Try.ntmps33
    go_wp2_with fail
    go_ret
    exact ⟨rfl, Below.refl _ _⟩
  · have hB := (Below.refl w.heap.size w).alloc (Nat.le_refl _) (.cells #[.slice a l.length cap] 71)
    have hC := contains_any 41 (fun d => !inCat d) (.inl rfl) (nocat_any) l a cap _ (hr.below hB)
    have hl1 := hr.1
    by_cases h2 : 2 ≤ l.length
    · have e1 : decide ((2 : Int) ≤ (l.length : Int)) = true := decide_eq_true (by omega)
      have Hm := Lib.hid (show fitsM (.cat l) es = !(l.any fun d => !inCat d) by rw [all_any]; show (decide (2 ≤ l.length) && _) = _; rw [decide_eq_true h2]; rfl)
      clear h2 h hr
      go_enter Try.func33, Try.ntmps33
      go_wp2_with (go_at_call 40; refine hC.mono ?_; rintro e w2 ⟨rfl, b2⟩)
      go_ret
      exact ⟨nd_ret_bool Hm.out.symm, hB.trans (b2.mono hB.size)⟩
    · have e1 : decide ((2 : Int) ≤ (l.length : Int)) = false := decide_eq_false (by omega)
      have Hm := Lib.hid (show fitsM (.cat l) es = false by show (decide (2 ≤ l.length) && _) = _; rw [decide_eq_false h2]; rfl)
      clear h2 h hr
      go_enter Try.func33, Try.ntmps33
      go_wp2_with fail
      go_ret
      exact ⟨nd_ret_bool Hm.out.symm, hB⟩
  · have hB := (Below.refl w.heap.size w).alloc (Nat.le_refl _) (.cells #[.slice a l.length cap] 72)
    have hC := contains_any 42 (fun d => !inAlt d) (.inr rfl) (isalt_any) l a cap _ (hr.below hB)
    have hl1 := hr.1
    by_cases h2 : 2 ≤ l.length
    · have e1 : decide ((2 : Int) ≤ (l.length : Int)) = true := decide_eq_true (by omega)
      have Hm := Lib.hid (show fitsM (.alt l) es = !(l.any fun d => !inAlt d) by rw [all_any]; show (decide (2 ≤ l.length) && _) = _; rw [decide_eq_true h2]; rfl)
      clear h2 h hr
      go_enter Try.func33, Try.ntmps33
      go_wp2_with (go_at_call 40; refine hC.mono ?_; rintro e w2 ⟨rfl, b2⟩)
      go_ret
      exact ⟨nd_ret_bool Hm.out.symm, hB.trans (b2.mono hB.size)⟩
    · have e1 : decide ((2 : Int) ≤ (l.length : Int)) = false := decide_eq_false (by omega)
      have Hm := Lib.hid (show fitsM (.alt l) es = false by show (decide (2 ≤ l.length) && _) = _; rw [decide_eq_false h2]; rfl)
      clear h2 h hr
      go_enter Try.func33, Try.ntmps33
      go_wp2_with fail
      go_ret
      exact ⟨nd_ret_bool Hm.out.symm, hB⟩
  · have hsh : (∃ T q, u = .iface T q) ∨ u = .nilIface := hu.elim fun _ h => nd_shape h
    have hb := fun w => tbounds_any mn mx w
    have hR := fun w' (hb : Below w.heap.size w w') => repeats_any d' u w' (hu.below hb)
    have Hm := Lib.hid (show fitsM (.rep d' mn mx) es = (okRep mn mx && inRep d') from rfl)
    generalize okRep mn mx = ok at *
    clear h hu
    rcases hsh with ⟨T, q, rfl⟩ | rfl
    all_goals
      have hB := fun v => (Below.refl w.heap.size w).alloc (Nat.le_refl _) (.cells #[v, .int .i64 mn, .int .i64 mx] 57)
      cases ok
      · go_enter Try.func33, Try.ntmps33
        go_wp2_with (go_at_call 43; refine (hb _).mono ?_; rintro e w2 ⟨rfl, rfl⟩)
        go_ret
        exact ⟨nd_ret_bool (by rw [Hm.out]; rfl), hB _⟩
      · go_enter Try.func33, Try.ntmps33
        go_wp2_with (first | (go_at_call 43; refine (hb _).mono ?_; rintro e w2 ⟨rfl, rfl⟩) | (go_at_call 44; refine (hR _ (hB _)).mono ?_; rintro e w2 ⟨rfl, b2⟩))
        go_ret
        exact ⟨nd_ret_bool (by rw [Hm.out]; rfl), (hB _).trans (b2.mono (hB _).size)⟩
  · have hsh : (∃ T q, u = .iface T q) ∨ u = .nilIface := hu.elim fun _ h => nd_shape h
    have Hm := Lib.hid (show fitsM (.group num d') es = decide (num = (es.length : Int) + 1) from rfl)
    have Wn : IntKind.i64.wrap ((es.length : Int) + 1) = (es.length : Int) + 1 := IntWalk.i64_in _ (by omega)
    clear h hu
    rcases hsh with ⟨T, q, rfl⟩ | rfl
    all_goals
      have hB := fun v => (Below.refl w.heap.size w).alloc (Nat.le_refl _) (.cells #[.int .i64 num, v] 74)
      go_enter Try.func33, Try.ntmps33
      go_wp2_with fail
      go_ret
      exact ⟨nd_ret_bool (a := (num == (es.length : Int) + 1)) (by rw [Hm.out]; rfl), hB _⟩
  · have hB := (Below.refl w.heap.size w).alloc (Nat.le_refl _) (.cells #[.int .i64 num] 76)
    have Hm := Lib.hid (show fitsM (.back num) es = (decide (1 ≤ num) && decide (num ≤ es.length) && es.getD (num - 1).toNat false) from rfl)
    clear h
    by_cases h1 : 1 ≤ num
    · have e1 : decide (1 ≤ num) = true := decide_eq_true h1
      by_cases h2 : num ≤ es.length
      · have e2 : decide (num ≤ (es.length : Int)) = true := decide_eq_true h2
        obtain ⟨g, rfl, hg, hx⟩ := He.out (by omega)
        obtain ⟨k, rfl⟩ : ∃ k : Nat, num = (k : Int) + 1 := ⟨(num - 1).toNat, by omega⟩
        have hk : k < es.length := by omega
        have hc := (hB.cell (p := ⟨g, k, none⟩) hg).trans (hx k hk)
        have Wn : IntKind.i64.wrap ((k : Int) + 1 - 1) = (k : Int) := by rw [IntWalk.i64_in _ (by omega)]; omega
        have Hm2 := Lib.hid (Hm.out.trans (show (decide (1 ≤ (k : Int) + 1) && decide ((k : Int) + 1 ≤ es.length) && es.getD ((k : Int) + 1 - 1).toNat false) = es[k] by rw [e1, e2, show ((k : Int) + 1 - 1).toNat = k by omega, List.getD_eq_getElem?_getD, List.getElem?_eq_getElem hk]; rfl))
        generalize es[k] = bk at *
        clear hx h1 h2
        go_enter Try.func33, Try.ntmps33
        go_wp2_with fail
        go_ret
        exact ⟨nd_ret_bool Hm2.out.symm, hB⟩
      · have e2 : decide (num ≤ (es.length : Int)) = false := decide_eq_false h2
        clear h1 h2
        go_enter Try.func33, Try.ntmps33
        go_wp2_with fail
        go_ret
        exact ⟨nd_ret_bool (by rw [Hm.out, e1, e2]; rfl), hB⟩
    · have e1 : decide (1 ≤ num) = false := decide_eq_false h1
      clear h1
      go_enter Try.func33, Try.ntmps33
      go_wp2_with fail
      go_ret
      exact ⟨nd_ret_bool (by rw [Hm.out, e1]; rfl), hB⟩
  · go_enter Try.func33, Try.ntmps33
    go_wp2_with fail
    go_ret
    exact ⟨rfl, Below.refl _ _⟩
  · go_enter Try.func33, Try.ntmps33
    go_wp2_with fail
    go_ret
    exact ⟨rfl, Below.refl _ _⟩
end Go.Proofs.Ytjjhkagpoicimaa
