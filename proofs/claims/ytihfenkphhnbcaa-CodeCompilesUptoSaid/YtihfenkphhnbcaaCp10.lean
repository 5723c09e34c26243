/- The proof's texts NdFits, NdRight, ShTT: what the claim reaches of them. -/
import Derived.Test.YtihfenkphhnbcaaCp08
import Derived.Test.YtihfenkphhnbcaaCp01
import Derived.WalkKit
import Derived.Deep.QuietTactic
import Derived.Test.YtihfenkphhnbcaaCp09
import Derived.Test.YtihfenkphhnbcaaCp03
namespace Go.Proofs.Ytihfenkphhnbcaa
open Go Go.RowKit
theorem nd_kinds {F : Nat → Prop} {w : World} {d : Nd} {v : Value} (h : NdX F w d v) :
    (d = .empty ∧ (v = .iface 80 (.agg #[]) ∨ v = .nilIface)) ∨ (∃ s : OSet, d = .one s ∧ v = .iface 55 (.agg #[.int .u64 (ow s 0), .int .u64 (ow s 1), .int .u64 (ow s 2), .int .u64 (ow s 3)])) ∨
    (∃ l a cap, d = .cat l ∧ v = .iface 71 (.agg #[.slice a l.length cap]) ∧ NdRw F w l a cap) ∨ (∃ l a cap, d = .alt l ∧ v = .iface 72 (.agg #[.slice a l.length cap]) ∧ NdRw F w l a cap) ∨
    (∃ d' mn mx u, d = .rep d' mn mx ∧ v = .iface 57 (.agg #[u, .int .i64 mn, .int .i64 mx]) ∧ NdX F w d' u) ∨ (∃ num d' u, d = .group num d' ∧ v = .iface 74 (.agg #[.int .i64 num, u]) ∧ NdX F w d' u) ∨
    (∃ num, d = .back num ∧ v = .iface 76 (.agg #[.int .i64 num])) ∨ (d = .start ∧ v = .iface 78 (.agg #[])) ∨ (d = .fin ∧ v = .iface 79 (.agg #[])) := by
  obtain ⟨n, h⟩ := h
  cases n with
  | zero => exact h.elim
  | succ n =>
    cases d with
    | empty => exact .inl ⟨rfl, h⟩
    | one s => exact .inr (.inl ⟨s, rfl, h⟩)
    | cat l => obtain ⟨a, cap, h1, h2⟩ := h; exact .inr (.inr (.inl ⟨l, a, cap, rfl, h1, NdRw.of (n := n) h2⟩))
    | alt l => obtain ⟨a, cap, h1, h2⟩ := h; exact .inr (.inr (.inr (.inl ⟨l, a, cap, rfl, h1, NdRw.of (n := n) h2⟩)))
    | rep d mn mx => obtain ⟨u, h1, h2⟩ := h; exact .inr (.inr (.inr (.inr (.inl ⟨d, mn, mx, u, rfl, h1, n, h2⟩))))
    | group num d => obtain ⟨u, h1, h2⟩ := h; exact .inr (.inr (.inr (.inr (.inr (.inl ⟨num, d, u, rfl, h1, n, h2⟩)))))
    | back num => exact .inr (.inr (.inr (.inr (.inr (.inr (.inl ⟨num, rfl, h⟩))))))
    | start => exact .inr (.inr (.inr (.inr (.inr (.inr (.inr (.inl ⟨rfl, h⟩)))))))
    | fin => exact .inr (.inr (.inr (.inr (.inr (.inr (.inr (.inr ⟨rfl, h⟩)))))))
theorem nd_ret_bool {a b : Bool} (h : a = b) : Ending.returned (.bool a) = .returned (.bool b) := by rw [h]
set_option linter.unusedSimpArgs false in
set_option maxRecDepth 100000 in
set_option maxHeartbeats 1000000 in
theorem nocat_any {F : Nat → Prop} (d : Nd) (v : Value) (w : World) (h : NdX F w d v) : Calls Try.prog 41 #[v] w fun e w' => e = .returned (.bool (!inCat d)) ∧ Below w.heap.size w w' := by
  rcases nd_kinds h with ⟨rfl, rfl | rfl⟩ | ⟨s, rfl, rfl⟩ | ⟨l, a, cap, rfl, rfl, hr⟩ | ⟨l, a, cap, rfl, rfl, hr⟩ | ⟨d', mn, mx, u, rfl, rfl, hu⟩ | ⟨num, d', u, rfl, rfl, hu⟩ | ⟨num, rfl, rfl⟩ | ⟨rfl, rfl⟩ | ⟨rfl, rfl⟩
  all_goals
    go_enter Try.func41, Try.ntmps41
    go_wp2_with fail
    go_ret
    exact ⟨rfl, Below.refl _ _⟩
set_option linter.unusedSimpArgs false in
set_option maxRecDepth 100000 in
set_option maxHeartbeats 1000000 in
theorem isalt_any {F : Nat → Prop} (d : Nd) (v : Value) (w : World) (h : NdX F w d v) : Calls Try.prog 42 #[v] w fun e w' => e = .returned (.bool (!inAlt d)) ∧ Below w.heap.size w w' := by
  rcases nd_kinds h with ⟨rfl, rfl | rfl⟩ | ⟨s, rfl, rfl⟩ | ⟨l, a, cap, rfl, rfl, hr⟩ | ⟨l, a, cap, rfl, rfl, hr⟩ | ⟨d', mn, mx, u, rfl, rfl, hu⟩ | ⟨num, d', u, rfl, rfl, hu⟩ | ⟨num, rfl, rfl⟩ | ⟨rfl, rfl⟩ | ⟨rfl, rfl⟩
  all_goals
    go_enter Try.func42, Try.ntmps42
    go_wp2_with fail
    go_ret
    refine ⟨rfl, ?_⟩
    repeat (first | (with_reducible exact hW) | (with_reducible exact Below.refl _ _) | refine Below.drew ?_ | refine Below.setCell ?_ (by first | omega | (simp; omega) | simp) _ | refine Below.alloc ?_ (by first | omega | (simp; omega) | simp) _)
set_option linter.unusedSimpArgs false in
set_option maxRecDepth 100000 in
set_option maxHeartbeats 1000000 in
theorem repeats_any {F : Nat → Prop} (d : Nd) (v : Value) (w : World) (h : NdX F w d v) : Calls Try.prog 44 #[v] w fun e w' => e = .returned (.bool (inRep d)) ∧ Below w.heap.size w w' := by
  rcases nd_kinds h with ⟨rfl, rfl | rfl⟩ | ⟨s, rfl, rfl⟩ | ⟨l, a, cap, rfl, rfl, hr⟩ | ⟨l, a, cap, rfl, rfl, hr⟩ | ⟨d', mn, mx, u, rfl, rfl, hu⟩ | ⟨num, d', u, rfl, rfl, hu⟩ | ⟨num, rfl, rfl⟩ | ⟨rfl, rfl⟩ | ⟨rfl, rfl⟩
  all_goals
    go_enter Try.func44, Try.ntmps44
    go_wp2_with fail
    go_ret
    exact ⟨rfl, Below.refl _ _⟩
set_option linter.unusedSimpArgs false in
set_option maxRecDepth 100000 in
set_option maxHeartbeats 1000000 in
theorem tbounds_any (mn mx : Int) (w : World) : Calls Try.prog 43 #[.int .i64 mn, .int .i64 mx] w fun e w' => e = .returned (.bool (okRep mn mx)) ∧ w' = w := by
  go_enter Try.func43, Try.ntmps43
  go_wp2_with fail
  all_goals
    go_ret
    refine ⟨nd_ret_bool ?_, rfl⟩
    unfold okRep
    rw [Bool.eq_iff_iff]
    simp
    omega
theorem any_take (p : Nd → Bool) (l : List Nd) (k : Nat) (h : k < l.length) : (l.take (k + 1)).any p = ((l.take k).any p || p l[k]) := by
  rw [List.take_succ_eq_append_getElem h, List.any_append]
  simp
theorem any_yes (p : Nd → Bool) (l : List Nd) (k : Nat) (h : k < l.length) (hp : p l[k] = true) : l.any p = true := List.any_eq_true.2 ⟨_, List.getElem_mem h, hp⟩
set_option linter.unusedSimpArgs false in
set_option maxRecDepth 100000 in
set_option maxHeartbeats 1000000 in
theorem ndix_any {F : Nat → Prop} (f : Nat) (p : Nd → Bool) (hf : f = 41 ∨ f = 42) (hP : ∀ d v w, NdX F w d v → Calls Try.prog f #[v] w fun e w' => e = .returned (.bool (p d)) ∧ Below w.heap.size w w')
    (l : List Nd) (a : Option Addr) (cap : Nat) (w : World) (h : NdRw F w l a cap) :
    Calls Try.prog 48 #[.slice a l.length cap, .func (.func f) #[] #[]] w fun e w' => ∃ k : Int, e = .returned (.int .i64 k) ∧ decide (0 ≤ k) = l.any p ∧ Below w.heap.size w w' := by
  have hlen := h.1
  have hl2 := h.2.1
  unfold maxLen at hl2
  have Hh := Lib.hid h.2.2
  clear h
  rcases hf with rfl | rfl
  all_goals
    go_enter Try.func48, Try.ntmps48
    go_wp2_with fail
    go_loopw [8] (fun i wr => ∃ k : Nat, k ≤ l.length ∧ i = .int .i64 k ∧ (l.take k).any p = false ∧ Below w.heap.size w wr) (fun i _ => l.length - (intOf i).toNat)
    case atStart => exact ⟨0, by omega, rfl, rfl, Below.refl _ _⟩
    case round =>
      obtain ⟨k, hk, rfl, hks, hW⟩ := hrel
      have Hks := Lib.hid hks
      clear hks
      by_cases hlt : k < l.length
      · obtain ⟨b, o, rfl, hfb, hbl, hx⟩ := Hh.out (by omega)
        obtain ⟨u, hu, hr⟩ := hx k hlt
        replace hu := (hW.cell (p := ⟨b, o + k, none⟩) hbl).trans hu
        replace hr := hr.below hW
        have Hs := Lib.hid (any_take p l k hlt)
        have Hn := Lib.hid (any_yes p l k hlt)
        clear hx
        have hPu := hP l[k] u wr hr
        generalize l[k] = x at *
        cases hpx : p x
        · rw [hpx] at hPu
          have Hr := Lib.hid (show (l.take (k + 1)).any p = false by rw [Hs.out, Hks.out, hpx]; rfl)
          clear hpx
          go_wp2_with (first | (go_at_call 41; refine hPu.mono ?_; rintro e w2 ⟨rfl, b2⟩) | (go_at_call 42; refine hPu.mono ?_; rintro e w2 ⟨rfl, b2⟩))
          go_roundw
          case rel => exact ⟨k + 1, by omega, by go_num, Hr.out, hW.trans (b2.mono hW.size)⟩
          case measure => simp [intOf]; omega
        · rw [hpx] at hPu
          have Hr := Lib.hid (Hn.out hpx)
          clear hpx
          go_wp2_with (first | (go_at_call 41; refine hPu.mono ?_; rintro e w2 ⟨rfl, b2⟩) | (go_at_call 42; refine hPu.mono ?_; rintro e w2 ⟨rfl, b2⟩))
          go_ret
          exact ⟨k, rfl, by rw [Hr.out]; simp, hW.trans (b2.mono hW.size)⟩
      · obtain rfl : k = l.length := by omega
        have Hr := Lib.hid (show l.any p = false by rw [← Hks.out, List.take_length])
        go_wp2_with fail
        go_ret
        exact ⟨-1, rfl, by rw [Hr.out]; rfl, hW⟩
set_option linter.unusedSimpArgs false in
set_option maxRecDepth 100000 in
set_option maxHeartbeats 1000000 in
theorem contains_any {F : Nat → Prop} (f : Nat) (p : Nd → Bool) (hf : f = 41 ∨ f = 42) (hP : ∀ d v w, NdX F w d v → Calls Try.prog f #[v] w fun e w' => e = .returned (.bool (p d)) ∧ Below w.heap.size w w')
    (l : List Nd) (a : Option Addr) (cap : Nat) (w : World) (h : NdRw F w l a cap) :
    Calls Try.prog 40 #[.slice a l.length cap, .func (.func f) #[] #[]] w fun e w' => e = .returned (.bool (l.any p)) ∧ Below w.heap.size w w' := by
  have hI := ndix_any f p hf hP l a cap w h
  clear h
  go_enter Try.func40, Try.ntmps40
  go_wp2_with (go_at_call 48; refine hI.mono ?_; rintro e w2 ⟨k, rfl, hk, b2⟩)
  go_ret
  exact ⟨rfl, b2⟩
def BlRow (w : World) (es : List Bool) (v : Value) : Prop := ∃ a cap, v = .slice a es.length cap ∧ es.length ≤ cap ∧ cap ≤ maxLen ∧ (0 < es.length → ∃ g, a = some ⟨g, 0, none⟩ ∧ g < w.heap.size ∧ ∀ i (h : i < es.length), w.cell? ⟨g, i, none⟩ = some (.bool es[i]))
theorem BlRow.below {w w' : World} {es : List Bool} {v : Value} (h : BlRow w es v) (hb : Below w.heap.size w w') : BlRow w' es v := by
  obtain ⟨a, cap, rfl, h1, h2, h3⟩ := h
  refine ⟨a, cap, rfl, h1, h2, fun h0 => ?_⟩
  obtain ⟨g, rfl, hg, hx⟩ := h3 h0
  exact ⟨g, rfl, Nat.lt_of_lt_of_le hg hb.size, fun i hi => (hb.cell (p := ⟨g, i, none⟩) hg).trans (hx i hi)⟩
set_option linter.unusedSimpArgs false in
set_option maxRecDepth 100000 in
set_option maxHeartbeats 4000000 in
theorem fits_any {F : Nat → Prop} (d : Nd) (v : Value) (es : List Bool) (ev : Value) (w : World) (h : NdX F w d v) (he : BlRow w es ev) (hes : es.length ≤ 8000000) :
    Calls Try.prog 33 #[v, ev] w fun e w' => e = .returned (.bool (fitsM d es)) ∧ Below w.heap.size w w' := by
  obtain ⟨ea, ecap, rfl, he1, he2, he3⟩ := he
  unfold maxLen at he2
  have He := Lib.hid he3
  clear he3
  rcases nd_kinds h with ⟨rfl, rfl | rfl⟩ | ⟨s, rfl, rfl⟩ | ⟨l, a, cap, rfl, rfl, hr⟩ | ⟨l, a, cap, rfl, rfl, hr⟩ | ⟨d', mn, mx, u, rfl, rfl, hu⟩ | ⟨num, d', u, rfl, rfl, hu⟩ | ⟨num, rfl, rfl⟩ | ⟨rfl, rfl⟩ | ⟨rfl, rfl⟩
  · go_enter Try.func33, Try.ntmps33
    go_wp2_with fail
    go_ret
    exact ⟨rfl, Below.refl _ _⟩
  · go_enter Try.func33, Try.ntmps33
    go_wp2_with fail
    go_ret
    exact ⟨rfl, Below.refl _ _⟩
  · go_enter Try.func33, Try.ntmps33
    go_wp2_with fail
    go_ret
    exact ⟨rfl, Below.refl _ _⟩
  · have hB := (Below.refl w.heap.size w).alloc (Nat.le_refl _) (.cells #[.slice a l.length cap] 71)
    have hC := contains_any 41 (fun d => !inCat d) (.inl rfl) (nocat_any) l a cap _ (hr.below hB)
    have hl1 := hr.1
    by_cases h2 : 2 ≤ l.length
    · have e1 : decide ((2 : Int) ≤ (l.length : Int)) = true := decide_eq_true (by omega)
      have Hm := Lib.hid (show fitsM (.cat l) es = !(l.any fun d => !inCat d) by rw [all_any]; show (decide (2 ≤ l.length) && _) = _; rw [decide_eq_true h2]; rfl)
      clear h2 h hr
      go_enter Try.func33, Try.ntmps33
      go_wp2_with (go_at_call 40; refine hC.mono ?_; rintro e w2 ⟨rfl, b2⟩)
      go_ret
      exact ⟨nd_ret_bool Hm.out.symm, hB.trans (b2.mono hB.size)⟩
    · have e1 : decide ((2 : Int) ≤ (l.length : Int)) = false := decide_eq_false (by omega)
      have Hm := Lib.hid (show fitsM (.cat l) es = false by show (decide (2 ≤ l.length) && _) = _; rw [decide_eq_false h2]; rfl)
      clear h2 h hr
      go_enter Try.func33, Try.ntmps33
      go_wp2_with fail
      go_ret
      exact ⟨nd_ret_bool Hm.out.symm, hB⟩
  · have hB := (Below.refl w.heap.size w).alloc (Nat.le_refl _) (.cells #[.slice a l.length cap] 72)
    have hC := contains_any 42 (fun d => !inAlt d) (.inr rfl) (isalt_any) l a cap _ (hr.below hB)
    have hl1 := hr.1
    by_cases h2 : 2 ≤ l.length
    · have e1 : decide ((2 : Int) ≤ (l.length : Int)) = true := decide_eq_true (by omega)
      have Hm := Lib.hid (show fitsM (.alt l) es = !(l.any fun d => !inAlt d) by rw [all_any]; show (decide (2 ≤ l.length) && _) = _; rw [decide_eq_true h2]; rfl)
      clear h2 h hr
      go_enter Try.func33, Try.ntmps33
      go_wp2_with (go_at_call 40; refine hC.mono ?_; rintro e w2 ⟨rfl, b2⟩)
      go_ret
      exact ⟨nd_ret_bool Hm.out.symm, hB.trans (b2.mono hB.size)⟩
    · have e1 : decide ((2 : Int) ≤ (l.length : Int)) = false := decide_eq_false (by omega)
      have Hm := Lib.hid (show fitsM (.alt l) es = false by show (decide (2 ≤ l.length) && _) = _; rw [decide_eq_false h2]; rfl)
      clear h2 h hr
      go_enter Try.func33, Try.ntmps33
      go_wp2_with fail
      go_ret
      exact ⟨nd_ret_bool Hm.out.symm, hB⟩
  · have hsh : (∃ T q, u = .iface T q) ∨ u = .nilIface := hu.elim fun _ h => nd_shape h
    have hb := fun w => tbounds_any mn mx w
    have hR := fun w' (hb : Below w.heap.size w w') => repeats_any d' u w' (hu.below hb)
    have Hm := Lib.hid (show fitsM (.rep d' mn mx) es = (okRep mn mx && inRep d') from rfl)
    generalize okRep mn mx = ok at *
    clear h hu
    rcases hsh with ⟨T, q, rfl⟩ | rfl
    all_goals
      have hB := fun v => (Below.refl w.heap.size w).alloc (Nat.le_refl _) (.cells #[v, .int .i64 mn, .int .i64 mx] 57)
      cases ok
      · go_enter Try.func33, Try.ntmps33
        go_wp2_with (go_at_call 43; refine (hb _).mono ?_; rintro e w2 ⟨rfl, rfl⟩)
        go_ret
        exact ⟨nd_ret_bool (by rw [Hm.out]; rfl), hB _⟩
      · go_enter Try.func33, Try.ntmps33
        go_wp2_with (first | (go_at_call 43; refine (hb _).mono ?_; rintro e w2 ⟨rfl, rfl⟩) | (go_at_call 44; refine (hR _ (hB _)).mono ?_; rintro e w2 ⟨rfl, b2⟩))
        go_ret
        exact ⟨nd_ret_bool (by rw [Hm.out]; rfl), (hB _).trans (b2.mono (hB _).size)⟩
  · have hsh : (∃ T q, u = .iface T q) ∨ u = .nilIface := hu.elim fun _ h => nd_shape h
    have Hm := Lib.hid (show fitsM (.group num d') es = decide (num = (es.length : Int) + 1) from rfl)
    have Wn : IntKind.i64.wrap ((es.length : Int) + 1) = (es.length : Int) + 1 := IntWalk.i64_in _ (by omega)
    clear h hu
    rcases hsh with ⟨T, q, rfl⟩ | rfl
    all_goals
      have hB := fun v => (Below.refl w.heap.size w).alloc (Nat.le_refl _) (.cells #[.int .i64 num, v] 74)
      go_enter Try.func33, Try.ntmps33
      go_wp2_with fail
      go_ret
      exact ⟨nd_ret_bool (a := (num == (es.length : Int) + 1)) (by rw [Hm.out]; rfl), hB _⟩
  · have hB := (Below.refl w.heap.size w).alloc (Nat.le_refl _) (.cells #[.int .i64 num] 76)
    have Hm := Lib.hid (show fitsM (.back num) es = (decide (1 ≤ num) && decide (num ≤ es.length) && es.getD (num - 1).toNat false) from rfl)
    clear h
    by_cases h1 : 1 ≤ num
    · have e1 : decide (1 ≤ num) = true := decide_eq_true h1
      by_cases h2 : num ≤ es.length
      · have e2 : decide (num ≤ (es.length : Int)) = true := decide_eq_true h2
        obtain ⟨g, rfl, hg, hx⟩ := He.out (by omega)
        obtain ⟨k, rfl⟩ : ∃ k : Nat, num = (k : Int) + 1 := ⟨(num - 1).toNat, by omega⟩
        have hk : k < es.length := by omega
        have hc := (hB.cell (p := ⟨g, k, none⟩) hg).trans (hx k hk)
        have Wn : IntKind.i64.wrap ((k : Int) + 1 - 1) = (k : Int) := by rw [IntWalk.i64_in _ (by omega)]; omega
        have Hm2 := Lib.hid (Hm.out.trans (show (decide (1 ≤ (k : Int) + 1) && decide ((k : Int) + 1 ≤ es.length) && es.getD ((k : Int) + 1 - 1).toNat false) = es[k] by rw [e1, e2, show ((k : Int) + 1 - 1).toNat = k by omega, List.getD_eq_getElem?_getD, List.getElem?_eq_getElem hk]; rfl))
        generalize es[k] = bk at *
        clear hx h1 h2
        go_enter Try.func33, Try.ntmps33
        go_wp2_with fail
        go_ret
        exact ⟨nd_ret_bool Hm2.out.symm, hB⟩
      · have e2 : decide (num ≤ (es.length : Int)) = false := decide_eq_false h2
        clear h1 h2
        go_enter Try.func33, Try.ntmps33
        go_wp2_with fail
        go_ret
        exact ⟨nd_ret_bool (by rw [Hm.out, e1, e2]; rfl), hB⟩
    · have e1 : decide (1 ≤ num) = false := decide_eq_false h1
      clear h1
      go_enter Try.func33, Try.ntmps33
      go_wp2_with fail
      go_ret
      exact ⟨nd_ret_bool (by rw [Hm.out, e1]; rfl), hB⟩
  · go_enter Try.func33, Try.ntmps33
    go_wp2_with fail
    go_ret
    exact ⟨rfl, Below.refl _ _⟩
  · go_enter Try.func33, Try.ntmps33
    go_wp2_with fail
    go_ret
    exact ⟨rfl, Below.refl _ _⟩
end Go.Proofs.Ytihfenkphhnbcaa
namespace Go.Proofs.Ytihfenkphhnbcaa
open Go Go.RowKit
attribute [local go_sem] Oper.semAt_some
theorem blrow_of {w : World} {base : Nat} {e : TypeId} {es : List Bool} {v : Value} (h : w.ownsRow base e 1 v es.length (es.map Value.bool)) : BlRow w es v := by
  have hr := h
  obtain ⟨_, h2⟩ := h
  rcases h2 with ⟨rfl, h0⟩ | ⟨g, cap, cur, rfl, hg, hh, hn, hcap, hcs, htk⟩
  · exact ⟨none, 0, by rw [h0], by omega, by decide, fun h => by omega⟩
  · refine ⟨some ⟨g, 0, none⟩, cap, rfl, hn, hcap, fun h0 => ⟨g, rfl, (Array.getElem?_eq_some_iff.1 hh).1, fun i hi => ?_⟩⟩
    rw [hr.cellAt i (by omega), List.getElem?_map, List.getElem?_eq_getElem hi]
    rfl
theorem bool_info : ∃ i, Try.prog.info? 4 = some i ∧ i.zero = some (.bool false) ∧ i.size = 1 ∧ i.bytes = 1 := by
  have h : (Try.prog.info? 4).map (fun i => (i.zero, i.size, i.bytes)) = some (some (.bool false), 1, 1) := by kernel_rfl
  obtain ⟨i, hi, he⟩ := Option.map_eq_some_iff.1 h
  injection he with h1 h2
  injection h2 with h2 h3
  exact ⟨i, hi, h1, h2, h3⟩
structure RtI (w0 : World) (d : Nd) (pre : List (Nd × Bool)) (C : Nat → Prop) (W : World) (es : List Bool) (ev : Value) (x : Value) : Prop where
  st : rsf (.ok []) pre = .ok es
  res : Boxed W w0.heap.size 4 x
  var : Boxed W (w0.heap.size + 1) 95 ev
  row : W.ownsRow w0.heap.size 4 1 ev es.length (es.map Value.bool)
  own : ∀ k, C k ↔ ev.ownBlock = some k
  below : Below w0.heap.size w0 W
  far : ∀ k, C k → w0.heap.size + 3 ≤ k
theorem RtI.other {w0 : World} {d : Nd} {pre : List (Nd × Bool)} {C : Nat → Prop} {X Y : World} {es : List Bool} {ev x : Value} (h : RtI w0 d pre C X es ev x) (ho : Other (w0.heap.size + 3) C X Y) : RtI w0 d pre C Y es ev x :=
  ⟨h.st, Boxed.same h.res (ho.block _ h.res.lt (.inl (by omega))), Boxed.same h.var (ho.block _ h.var.lt (.inl (by omega))), own_row_same h.row (fun g hg => ho.block _ (h.row.lt g hg).2 (.inr ((h.own g).2 hg))), h.own,
    h.below.trans ⟨ho.os, ho.tape, ho.output, ho.size, fun k hk => ho.block k (Nat.lt_of_lt_of_le hk h.below.size) (.inl (by omega))⟩, h.far⟩
theorem RtI.mem {w0 : World} {d : Nd} {pre : List (Nd × Bool)} {C : Nat → Prop} {X Y : World} {es : List Bool} {ev x : Value} (h : RtI w0 d pre C X es ev x) (hb : Below X.heap.size X Y) : RtI w0 d pre C Y es ev x :=
  ⟨h.st, Boxed.same h.res (hb.block _ h.res.lt), Boxed.same h.var (hb.block _ h.var.lt), own_row_same h.row (fun g hg => hb.block _ (h.row.lt g hg).2), h.own, h.below.trans (hb.mono h.below.size), h.far⟩
theorem RtI.next {w0 : World} {d : Nd} {pre : List (Nd × Bool)} {C : Nat → Prop} {X : World} {es : List Bool} {ev x : Value} {y : Nd × Bool} (h : RtI w0 d pre C X es ev x) (hs : rs (.ok es) y = .ok es) : RtI w0 d (pre ++ [y]) C X es ev x :=
  ⟨by rw [rsf_snoc, h.st, hs], h.res, h.var, h.row, h.own, h.below, h.far⟩
theorem RtI.push {w0 : World} {d : Nd} {pre : List (Nd × Bool)} {C : Nat → Prop} {W w2 w3 : World} {es : List Bool} {ev x v' : Value} {y : Nd × Bool} {tmp : Obj} (h : RtI w0 d pre C W es ev x) (hb : Below W.heap.size W w2) (hlt : w0.heap.size + 3 ≤ W.heap.size) (hs : rs (.ok es) y = .ok (es ++ [false]))
    (hown : w3.ownsRow w0.heap.size 4 1 v' (es.length + 1) (es.map Value.bool ++ [.bool false])) (hg : (w2.alloc tmp).grownBy w3 ev.ownBlock) (hat : v'.ownBlock = ev.ownBlock ∨ v'.ownBlock = some (w2.alloc tmp).heap.size) :
    Boxed w3 (w0.heap.size + 1) 95 ev ∧ RtI w0 d (pre ++ [y]) (fun k => v'.ownBlock = some k) (w3.setCell ⟨w0.heap.size + 1, 0, none⟩ v') (es ++ [false]) v' x ∧ Rdn w0.heap.size (w0.heap.size + 3) C (fun k => v'.ownBlock = some k) W (w3.setCell ⟨w0.heap.size + 1, 0, none⟩ v') := by
  have h2 := (h.mem hb).mem ((Below.refl _ w2).alloc (Nat.le_refl _) tmp)
  have hsz := hb.size
  have hne : ∀ k, k < w0.heap.size + 3 → some k ≠ ev.ownBlock := fun k hk e => by have := h.far k ((h.own k).2 e.symm); omega
  have hfar : ∀ k, v'.ownBlock = some k → w0.heap.size + 3 ≤ k := fun k hk => by
    rcases hat with e | e
    · exact h.far k ((h.own k).2 (by rw [← e]; exact hk))
    · rw [e] at hk; injection hk with hk; simp at hk; omega
  have hv3 : Boxed w3 (w0.heap.size + 1) 95 ev := h2.var.kept hg (hne _ (by omega))
  have hblk : ∀ k, k < (w2.alloc tmp).heap.size → some k ≠ ev.ownBlock → k ≠ w0.heap.size + 1 → (w3.setCell ⟨w0.heap.size + 1, 0, none⟩ v').heap[k]? = (w2.alloc tmp).heap[k]? := fun k hk h1 h3 =>
    (Below.heap_setCell _ _ _ _ h3).trans (hg.block k hk h1)
  have hBl : Below w0.heap.size (w2.alloc tmp) (w3.setCell ⟨w0.heap.size + 1, 0, none⟩ v') := by
    refine ((Below.refl _ _).grown hg h2.below.size (fun k hk => ?_)).setCell (p := ⟨w0.heap.size + 1, 0, none⟩) (by simp) _
    have := h.far k ((h.own k).2 hk)
    omega
  refine ⟨hv3, ⟨by rw [rsf_snoc, h.st, hs], ?_, hv3.set v', ?_, fun k => Iff.rfl, h2.below.trans hBl, hfar⟩, ⟨?_, ?_, ?_⟩⟩
  · exact Boxed.same h2.res (hblk _ h2.res.lt (hne _ (by omega)) (by omega))
  · rw [List.map_append, List.length_append]
    exact own_row_same hown (fun g hg' => Below.heap_setCell _ _ _ _ (by have := hfar g hg'; simp; omega))
  · exact Nat.le_trans hsz (Nat.le_trans (Nat.le_of_lt (by simp)) hBl.size)
  · intro k hk hkc
    rcases hkc with hk0 | ⟨hk0, hkc⟩
    · rw [hblk k (by simp; omega) (hne k (by omega)) (by omega), Below.heap_alloc _ _ _ (by omega), hb.block k hk]
    · rw [hblk k (by simp; omega) (fun e => hkc ((h.own k).2 e.symm)) (by omega), Below.heap_alloc _ _ _ (by omega), hb.block k hk]
  · intro k hk
    have h5 := (hown.lt k hk).2
    have h6 : w3.heap.size ≤ (w3.setCell ⟨w0.heap.size + 1, 0, none⟩ v').heap.size := by simp [World.setCell]
    rcases hat with e | e
    · exact .inl ((h.own k).2 (by rw [← e]; exact hk))
    · right
      rw [e] at hk; injection hk with hk; simp at hk
      omega
theorem RtI.mark {w0 : World} {d : Nd} {pre : List (Nd × Bool)} {C : Nat → Prop} {W : World} {es : List Bool} {g cap k : Nat} {x : Value} {y : Nd × Bool} (h : RtI w0 d pre C W es (.slice (some ⟨g, 0, none⟩) es.length cap) x) (hs : rs (.ok es) y = .ok (es.set k true)) :
    RtI w0 d (pre ++ [y]) C (W.setCell ⟨g, k, none⟩ (.bool true)) (es.set k true) (.slice (some ⟨g, 0, none⟩) es.length cap) x ∧ Rdn w0.heap.size (w0.heap.size + 3) C C W (W.setCell ⟨g, k, none⟩ (.bool true)) := by
  have hg : C g := (h.own g).2 rfl
  have hfar := h.far g hg
  refine ⟨⟨by rw [rsf_snoc, h.st, hs], ?_, ?_, ?_, h.own, h.below.setCell (p := ⟨g, k, none⟩) (by show w0.heap.size ≤ g; omega) _, h.far⟩, ⟨by simp [World.setCell], ?_, fun _ hc => .inl hc⟩⟩
  · exact Boxed.same h.res (Below.heap_setCell _ _ _ _ (by simp; omega))
  · exact Boxed.same h.var (Below.heap_setCell _ _ _ _ (by simp; omega))
  · have := (h.row.stored k (.bool true)).1
    rw [List.length_set, List.map_set]
    exact this
  · intro j _ hj
    refine Below.heap_setCell _ _ _ _ ?_
    show j ≠ g
    rcases hj with hj | hj
    · omega
    · exact fun e => hj.2 (e ▸ hg)
set_option linter.unusedSimpArgs false in
set_option maxRecDepth 100000 in
set_option maxHeartbeats 4000000 in
theorem pright_any (d : Nd) (v : Value) (w : World) (h : NdX (fun k => k < w.heap.size) w d v) (hsz : nsize d ≤ 4000000) :
    Calls Try.prog 20 #[v] w fun e w' => e = .returned (.bool (nrightB d)) ∧ Below w.heap.size w w' := by
  have hsh : (∃ T q, v = .iface T q) ∨ v = .nilIface := h.elim fun _ h => nd_shape h
  obtain ⟨i0, hi, hz0, hz1, hz2⟩ := bool_info
  refine (callsIn_wide (n := 3)).1 ?_
  refine callsIn_of_wp_marks Try.func20 rfl trivial ?_ rfl
  simp only [Try.ntmps20, List.size_toArray, List.length_cons, List.length_nil, Nat.reduceAdd, Nat.reduceSub, Array.replicate_succ, Array.replicate_zero, List.push_toArray, List.append_toArray, List.nil_append, List.cons_append]
  gi_wp2_with (refine ⟨trivial, ?_⟩; gi_at_call 30; refine (callsIn_wide.2 (walk_any _ _ hsh)).mono ?_; rintro e w' ⟨rfl, rfl⟩)
  obtain ⟨V, hV⟩ : ∃ V, ((w.alloc (.cells #[.bool false] 4)).alloc (.cells #[.slice none 0 0] 95)).alloc (.cells #[v] 37) = V := ⟨_, rfl⟩
  have hB : Below w.heap.size w V := by rw [← hV]; exact (((Below.refl _ w).alloc (Nat.le_refl _) _).alloc (by simp) _).alloc (by simp; omega) _
  have hVs : V.heap.size = w.heap.size + 3 := by rw [← hV]; simp
  have hc : V.cell? ⟨w.heap.size + 1 + 1, 0, none⟩ = some v := by
    have h1 := (Boxed.new ((w.alloc (.cells #[.bool false] 4)).alloc (.cells #[.slice none 0 0] 95)) 37 v).cell
    rw [World.size_alloc, World.size_alloc, hV] at h1
    exact h1
  have hb0 : Boxed V w.heap.size 4 (.bool false) := by
    have h1 := ((Boxed.new w 4 (.bool false)).alloc (.cells #[.slice none 0 0] 95)).alloc (.cells #[v] 37)
    rw [hV] at h1
    exact h1
  have hb1 : Boxed V (w.heap.size + 1) 95 (.slice none 0 0) := by
    have h1 := (Boxed.new (w.alloc (.cells #[.bool false] 4)) 95 (.slice none 0 0)).alloc (.cells #[v] 37)
    rw [World.size_alloc, hV] at h1
    exact h1
  rw [hV]
  refine wpIn_rangeFunc_cells (gf := 37) (lb := #[.pointer (some ⟨w.heap.size + 1 + 1, 0, none⟩)]) rfl (enters_of Try.func37 (by kernel_rfl) rfl)
    (walk_gives d hsz w.heap.size (w.heap.size + 1 + 1) v V (by omega) hc (h.below hB)) (Below.refl _ _) (by omega)
    (fun pre x args C b W hk => by obtain ⟨_, rfl, _⟩ := hk; rfl)
    (fun pre x args C b W k o hk h1 h2 => nd_ok_put hk h1 h2)
    (fun pre C W => ∃ es ev x, RtI w d pre C W es ev x) (fun c W => c = .ret ∧ nrightB d = false ∧ Boxed W w.heap.size 4 (.bool false) ∧ Below w.heap.size w W)
    (fun pre C X Y hk ho => by obtain ⟨es, ev, x, hk⟩ := hk; rw [hVs] at ho; exact ⟨es, ev, x, hk.other ho⟩)
    (fun c X Y hk ho => ⟨hk.1, hk.2.1, Boxed.same hk.2.2.1 (ho.block _ hk.2.2.1.lt (.inl (by omega))), hk.2.2.2.trans ⟨ho.os, ho.tape, ho.output, ho.size, fun k hlt => ho.block k (Nat.lt_of_lt_of_le hlt hk.2.2.2.size) (.inl (by omega))⟩⟩)
    ⟨[], .slice none 0 0, .bool false, rfl, hb0, hb1, World.ownsRow_nil _ _ _ _, fun k => ⟨fun h => h.elim, fun h => by simp [Value.ownBlock] at h⟩, hB, fun k h => h.elim⟩ ?round ?done ?stop
  case round =>
    rintro l pre ⟨d', b⟩ args C W hI hOk hC hlt
    obtain ⟨v', rfl, hsuf, hv'⟩ := hOk
    obtain ⟨num, u, hu, hTA, hnum⟩ := assert_group hv'
    gi_wp2
    clear hI hlt hv'
    intro W es ev x hI hOk hlt
    obtain ⟨v2, ha, _, hv⟩ := hOk
    obtain rfl : v' = v2 := by simpa using ha
    clear ha
    have hel : es.length ≤ 8000000 := by
      have h1 := rs_len pre [] es hI.st
      have h2 := pre_len hsuf
      simp at h1
      omega
    have hF := fun w' (hb : Below W.heap.size W w') => fits_any d' v' es ev w' (hv.below hb) ((blrow_of hI.row).below hb) hel
    clear hv
    have hA := fun u => (Below.refl W.heap.size W).alloc (Nat.le_refl _) (.cells #[.int .i64 num, u] 74)
    have hIA := fun u => hI.mem (hA u)
    have hcA := fun u => (hIA u).var.cell
    cases b with
    | true =>
      cases hf : fitsM d' es
      · have Hn := Lib.hid (show nrightB d = false by
          obtain ⟨suf, hs⟩ := hsuf
          exact right_no (by rw [← hs, rsf_append, hI.st, rsf_cons, rs_in_no hf, rsf_no]))
        rw [hf] at hF
        clear hf hsuf
        rcases hu with ⟨T, q, rfl⟩ | rfl
        all_goals
          gi_wp2_with (refine ⟨trivial, ?_⟩; gi_at_call 33; refine (CallsIn.inRound l (callsIn_wide.2 (hF _ (hA _)))).mono ?_; rintro e w2 ⟨rfl, b2⟩; have hI2 := (hIA _).mem b2; have hc2 := hI2.res.cell; have hf2 := hI2.res.frozen)
          exact ⟨((Rdn.below (hA _)).trans (Rdn.below b2)).trans (Rdn.setCell _ _ _ _ (Nat.le_refl _) (by simp)), rfl, Hn.out, Boxed.set _ hI2.res, hI2.below.setCell (p := ⟨w.heap.size, 0, none⟩) (Nat.le_refl _) _⟩
      · rw [hf] at hF
        cases hG : ngrp d'
        · rw [hG] at hTA
          have Hn := Lib.hid (rs_in hf hG)
          clear hf hsuf hG
          rcases hu with ⟨T, q, rfl⟩ | rfl
          all_goals
            gi_wp2_with (refine ⟨trivial, ?_⟩; gi_at_call 33; refine (CallsIn.inRound l (callsIn_wide.2 (hF _ (hA _)))).mono ?_; rintro e w2 ⟨rfl, b2⟩; have hI2 := (hIA _).mem b2)
            exact ⟨C, (Rdn.below (hA _)).trans (Rdn.below b2), es, ev, x, hI2.next Hn.out⟩
        · rw [hG] at hTA
          have hs : rs (.ok es) (d', true) = .ok (es ++ [false]) := by simp [rs, hf, hG]
          have hm1 : es.length + 1 ≤ maxLen := by unfold maxLen; omega
          have hm2 : (es.length + 1) * 1 ≤ 140737488355328 := by omega
          have hPush := fun u w2 w3 v' (hb : Below W.heap.size W w2) => hI.push (w2 := w2) (w3 := w3) (v' := v') (tmp := .cells #[.bool false] u) hb (by omega) hs
          have hone : ∀ u ∈ [Value.bool false], u.oneCell' = true := by intro u hu; simp at hu; subst hu; rfl
          clear hf hsuf hG hs
          rcases hu with ⟨T, q, rfl⟩ | rfl
          all_goals
            gi_wp2_with (first | (refine ⟨trivial, ?_⟩; gi_at_call 33; refine (CallsIn.inRound l (callsIn_wide.2 (hF _ (hA _)))).mono ?_; rintro e w2 ⟨rfl, b2⟩; have hI2 := (hIA _).mem b2; have hc2 := hI2.var.cell; have hf2 := hI2.var.frozen) | (gi_at_builtin; refine wpListIn_append_own_at _ rfl _ _ 95 rfl w.heap.size 4 i0 (.bool false) 1 1 Try.underlying95 hi hz0 hz1 hz2 rfl (by decide) _ _ _ rfl (hI2.row.alloc _) ⟨w2.heap.size, 0, none⟩ 1 1 [.bool false] rfl rfl (cell_one_new _ _ _) hone hm1 hm2 (by simp; have := hI2.below.size; omega) ?_; intro v3 w3 hown' hgrow _ hat; obtain ⟨hv3, hI3, hR3⟩ := hPush _ w2 w3 v3 ((hA _).trans (b2.mono (hA _).size)) hown' hgrow hat; have hc3 := hv3.cell; have hf3 := hv3.frozen; obtain ⟨g', cap', rfl⟩ := ownsRow_succ hown'))
            exact ⟨_, hR3, _, _, _, hI3⟩
    | false =>
      cases hG : ngrp d'
      · rw [hG] at hTA
        have Hn := Lib.hid (rs_out (.ok es) hG)
        clear hG hsuf
        rcases hu with ⟨T, q, rfl⟩ | rfl
        all_goals
          gi_wp2
          refine ⟨trivial, ?_⟩
          gi_wp2
          exact ⟨C, Rdn.below (hA _), es, ev, x, (hIA _).next Hn.out⟩
      · rw [hG] at hTA
        obtain ⟨hn1, hn2⟩ := right_ends hsuf hI.st hG
        obtain ⟨n, dd, rfl⟩ : ∃ n dd, d' = .group n dd := by cases d' <;> first | exact ⟨_, _, rfl⟩ | cases hG
        obtain rfl : num = n := hnum n dd rfl
        obtain ⟨k, rfl⟩ : ∃ k : Nat, num = (k : Int) + 1 := ⟨(num - 1).toNat, by have : 1 ≤ num := hn1; omega⟩
        have hk : k < es.length := by have : (k : Int) + 1 ≤ (es.length : Int) := hn2; omega
        have hs : rs (.ok es) (.group ((k : Int) + 1) dd, false) = .ok (es.set k true) := by
          rw [rs_close (n := (k : Int) + 1) hn1 hn2, show ((k : Int) + 1 - 1).toNat = k by omega]
        obtain ⟨g, cap, rfl⟩ : ∃ g cap, ev = .slice (some ⟨g, 0, none⟩) es.length cap := by
          obtain ⟨g, cap, h1, _⟩ := hI.row.form (by omega)
          exact ⟨g, cap, h1⟩
        have Wn : IntKind.i64.wrap ((k : Int) + 1 - 1) = (k : Int) := by rw [IntWalk.i64_in _ (by omega)]; omega
        have hcE := fun u => (show (W.alloc (.cells #[.int .i64 ((k : Int) + 1), u] 74)).cell? ⟨g, k, none⟩ = some (.bool es[k]) by rw [(hIA u).row.cellAt k (by omega), List.getElem?_map, List.getElem?_eq_getElem hk]; rfl)
        have hfE := fun u => (hIA u).row.frozenAt k
        have hSet := fun u => (hIA u).mark hs
        clear hG hsuf hn1 hn2 hs hnum
        rcases hu with ⟨T, q, rfl⟩ | rfl
        all_goals
          gi_wp2
          refine ⟨trivial, ?_⟩
          gi_wp2
          exact ⟨C, (Rdn.below (hA _)).trans (hSet _).2, _, _, _, (hSet _).1⟩
  case done =>
    rintro xs C W rfl ⟨es, ev, x, hI⟩ hK
    have hc := hI.res.cell
    have hf := hI.res.frozen
    have Hn := Lib.hid (right_ok hI.st)
    gi_wp2
    have hK' : (W.setCell ⟨w.heap.size, 0, none⟩ (.bool true)).heap[V.heap.size]? = some (.deferred (some [])) := (Below.heap_setCell _ _ _ _ (by simp; omega)).trans hK
    refine ⟨by simp, .inl ⟨_, _, rfl, run_takeDeferred hK', ?_⟩⟩
    have hc5 : ((W.setCell ⟨w.heap.size, 0, none⟩ (.bool true)).putObj V.heap.size (.deferred none)).cell? ⟨w.heap.size, 0, none⟩ = some (.bool true) :=
      (Boxed.same (Boxed.set (.bool true) hI.res) (World.putObj_heap_other (by omega))).cell
    refine ⟨.bool true, ?_, by rw [Hn.out], (hI.below.setCell (p := ⟨w.heap.size, 0, none⟩) (Nat.le_refl _) _).trans (below_put (by omega))⟩
    simp [results, Try.f20, go_sem, hc5]
  case stop =>
    rintro c W ⟨rfl, hn, hI, hbl⟩ hK
    have Hn := Lib.hid hn
    clear hn
    gi_wp2
    refine ⟨by simp, .inl ⟨_, _, rfl, run_takeDeferred hK, ?_⟩⟩
    have hc5 : (W.putObj V.heap.size (.deferred none)).cell? ⟨w.heap.size, 0, none⟩ = some (.bool false) := (Boxed.same hI (World.putObj_heap_other (by omega))).cell
    refine ⟨.bool false, ?_, by rw [Hn.out], hbl.trans (below_put (by omega))⟩
    simp [results, Try.f20, go_sem, hc5]
end Go.Proofs.Ytihfenkphhnbcaa
namespace Go.Proofs.Ytihfenkphhnbcaa
open Go Go.RowKit
structure RdN (N : Nat → Prop) (B : Nat) (C C' : Nat → Prop) (W W' : World) : Prop where
  size : W.heap.size ≤ W'.heap.size
  block : ∀ k, k < W.heap.size → (N k ∨ (B ≤ k ∧ ¬ C k)) → W'.heap[k]? = W.heap[k]?
  new : ∀ k, C' k → C k ∨ (W.heap.size ≤ k ∧ k < W'.heap.size)
def GivesN {α : Type} (P : Program) (g : Nat) (lb : Array Value) (N : Nat → Prop) (Ok : List α → α → Array Value → (Nat → Prop) → Nat → World → Prop) (All : List α → Prop) (w : World) : Prop :=
  ∀ (l m : Nat) (J : List α → (Nat → Prop) → World → Prop) (Jx : World → Prop) (W : World), Below w.heap.size w W →
    (∀ pre C X Y, J pre C X → Other W.heap.size C X Y → J pre C Y) →
    (∀ X Y, Jx X → Other W.heap.size (fun _ => False) X Y → Jx Y) →
    (∀ pre x args C X, J pre C X → Ok pre x args C W.heap.size X → YieldAt Fence.wide m P l args X fun e Y =>
      (e = .returned (.bool true) ∧ ∃ C', J (pre ++ [x]) C' Y ∧ RdN N W.heap.size C C' X Y) ∨ (e = .returned (.bool false) ∧ Jx Y ∧ RdN N W.heap.size C C X Y)) →
    J [] (fun _ => False) W →
    Calls P g (#[.func (.yield l) #[] #[]] ++ lb) W fun e Y => (∃ v, e = .returned v) ∧ ((∃ xs C, All xs ∧ J xs C Y) ∨ Jx Y)
def rdPostN {α : Type} (N : Nat → Prop) (B : Nat) (C : Nat → Prop) (I : List α → (Nat → Prop) → World → Prop) (Ix : Code → World → Prop) (xs : List α) (W : World) : Exit → Act → World → Prop
  | .normal, _, W' => ∃ C', RdN N B C C' W W' ∧ I xs C' W'
  | .ret, _, W' => RdN N B C C W W' ∧ Ix .ret W'
  | .exit id, _, W' => RdN N B C C W W' ∧ Ix (.exit id) W'
  | .goto t, _, W' => RdN N B C C W W' ∧ Ix (.goto t) W'
  | .panic _, _, _ => False
  | .outgrown, _, _ => False
variable {P : Program} {n : Nat}
theorem wpIn_rangeFunc_N {α : Type} {g : Operand} {ps : Array Tmp} {assign body : Code} {Q : Exit → Act → World → Prop} {a : Act} {w w0 : World} {gf : Nat} {N : Nat → Prop} {lb : Array Value}
    {Ok : List α → α → Array Value → (Nat → Prop) → Nat → World → Prop} {All : List α → Prop}
    (hg : a.eval g = .func (.func gf) #[] lb) (eg : ∀ args w, (callFunc gf args).run P w = .ok (.enter gf args) w)
    (hseq : GivesN P gf lb N Ok All w0) (hb0 : Below w0.heap.size w0 w) (hn₀ : ∀ k, N k → k < w.heap.size)
    (hps : ∀ pre x args C b W, Ok pre x args C b W → args.size = ps.size)
    (hOk : ∀ pre x args C b W k o, Ok pre x args C b W → ¬ N k → k < b → Ok pre x args C b (W.putObj k o))
    (I : List α → (Nat → Prop) → World → Prop) (Ix : Code → World → Prop)
    (hI : ∀ pre C X Y, I pre C X → Other w.heap.size C X Y → I pre C Y)
    (hIx : ∀ c X Y, Ix c X → Other w.heap.size (fun _ => False) X Y → Ix c Y)
    (h0 : I [] (fun _ => False) w)
    (hround : ∀ (l : Nat) (pre : List α) (x : α) (args : Array Value) (C : Nat → Prop) (W : World), I pre C W → Ok pre x args C (w.heap.size + 2) W →
      (∀ k, C k → w.heap.size + 2 ≤ k) → w.heap.size + 2 ≤ W.heap.size →
      assign.wpIn (Fence.wide.inRound l) n P (Exit.then (fun a₁ W₁ => W₁ = W ∧ ∀ W, I pre C W → Ok pre x args C (w.heap.size + 2) W → w.heap.size + 2 ≤ W.heap.size → body.wpIn (Fence.wide.inRound l) n P (rdPostN N w.heap.size C I Ix (pre ++ [x]) W) a₁ W) (fun _ _ _ => False))
        { tmps := (ps.zip args).foldl (fun t (p, v) => t.setIfInBounds p v) a.tmps, defers := [] } W)
    (hdone : ∀ (xs : List α) (C : Nat → Prop) (W : World), All xs → I xs C W → W.heap[w.heap.size]? = some (.deferred (some [])) → Q .normal { a with defers := { target := .collected w.heap.size, args := #[] } :: a.defers } W)
    (hstop : ∀ (c : Code) (W : World), Ix c W → W.heap[w.heap.size]? = some (.deferred (some [])) → c.wpIn Fence.wide n P Q { a with defers := { target := .collected w.heap.size, args := #[] } :: a.defers } W) :
    (Code.rangeFunc g ps assign body).wpIn Fence.wide n P Q a w := by
  refine wpIn_rangeFunc fun fn hfn => ?_
  generalize hD : w.heap.size = D at *
  -- the record, in its states
  obtain ⟨rec, hrec⟩ : ∃ rec : LoopState → Option Code → Loop, rec = fun st pe => { state := st, pending := pe, fn, tmps := a.tmps, params := ps, assign, body, defers := D } := ⟨_, rfl⟩
  obtain ⟨V, hV⟩ : ∃ V, (w.alloc (.deferred (some []))).alloc (.loop (rec .ready none)) = V := ⟨_, rfl⟩
  have hVs : V.heap.size = D + 2 := by rw [← hV]; simp [hD]
  have hVl : V.heap[D + 1]? = some (.loop (rec .ready none)) := by
    have h := World.alloc_heap_new (w.alloc (.deferred (some []))) (.loop (rec .ready none))
    rw [World.size_alloc, hD, hV] at h
    exact h
  have hVd : V.heap[D]? = some (.deferred (some [])) := by
    have h := World.alloc_heap_new w (.deferred (some []))
    rw [hD] at h
    rw [← hV, Below.heap_alloc _ _ _ (by simp [hD])]
    exact h
  have hVb : Below w.heap.size w V := by
    rw [← hV]
    exact ((Below.refl _ w).alloc (Nat.le_refl _) _).alloc (by simp) _
  have hVo : Other D (fun _ => False) w V := Other.of_below hVb
  refine ⟨D + 1, [{ target := .collected D, args := #[] }], V, { target := .fn (.func gf) lb, args := #[.func (.yield (D + 1)) #[] #[]] }, V, gf, #[.func (.yield (D + 1)) #[] #[]] ++ lb, V, ?_, ?_, fun _ _ => trivial, ?_, fun h => by simp [Fence.wide] at h, ?_⟩
  · have h := run_enterLoop_outer (P := P) (w := w) fn a.tmps ps assign body
    rw [hD] at h
    rw [← hV, hrec]
    exact h
  · simp only [resolve, hg]
    simp [go_sem]
  · simp [invoke, go_sem, eg]
  refine callsIn_wide.2 ((hseq (D + 1) n
    (fun pre C W => I pre C W ∧ (∀ k, C k → D + 2 ≤ k) ∧ D + 2 ≤ W.heap.size ∧ W.heap[D + 1]? = some (.loop (rec .ready none)) ∧ W.heap[D]? = some (.deferred (some [])))
    (fun W => ∃ c, Ix c W ∧ D + 2 ≤ W.heap.size ∧ W.heap[D + 1]? = some (.loop (rec .done (some c))) ∧ W.heap[D]? = some (.deferred (some [])))
    V (hb0.trans (hVb.mono hb0.size)) ?_ ?_ ?_ ⟨hI _ _ _ _ h0 hVo, fun k h => h.elim, by omega, hVl, hVd⟩).mono ?_)
  · rintro pre C X Y ⟨h1, h2, h3, h4, h5⟩ ho
    exact ⟨hI _ _ _ _ h1 (ho.mono (by omega)), h2, Nat.le_trans h3 ho.size, (ho.block _ (by omega) (.inl (by omega))).trans h4, (ho.block _ (by omega) (.inl (by omega))).trans h5⟩
  · rintro X Y ⟨c, h1, h3, h4, h5⟩ ho
    exact ⟨c, hIx _ _ _ h1 (ho.mono (by omega)), Nat.le_trans h3 ho.size, (ho.block _ (by omega) (.inl (by omega))).trans h4, (ho.block _ (by omega) (.inl (by omega))).trans h5⟩
  · -- one round
    rintro pre x args C X ⟨h1, h2, h3, h4, h5⟩ hok
    rw [hVs] at hok ⊢
    have hy := run_yield (P := P) (args := args) h4 (by rw [hrec]; exact hps _ _ _ _ _ _ hok)
    rw [hrec] at hy
    refine ⟨fn, _, assign, body, hy, roundIn_of_wpIn hfn (wpIn_mono (hround (D + 1) pre x args C X h1 hok h2 h3) ?_)⟩
    intro e a₁ W₁ hq
    cases e with
    | normal =>
      obtain ⟨rfl, hb⟩ := hq
      have hc1 : ¬ C (D + 1) := fun h => by have := h2 _ h; omega
      have hc0 : ¬ C D := fun h => by have := h2 _ h; omega
      refine ⟨_, run_beginRound h4 (by rw [hrec]), ?_⟩
      have hbusy : (W₁.putObj (D + 1) (.loop { rec .ready none with state := .busy })).heap[D + 1]? = some (.loop { rec .ready none with state := .busy }) := World.putObj_heap_same (by omega)
      have hdef : (W₁.putObj (D + 1) (.loop { rec .ready none with state := .busy })).heap[D]? = some (.deferred (some [])) := (World.putObj_heap_other (by omega)).trans h5
      refine wpIn_mono (hb (W₁.putObj (D + 1) (.loop { rec .ready none with state := .busy })) (hI _ _ _ _ h1 (Other.putObj _ (by omega) hc1 _)) (hOk _ _ _ _ _ _ _ _ hok (fun h => by have := hn₀ _ h; omega) (by omega)) (by simpa using h3)) ?_
      have fin : ∀ (jump : Option Code) (C' : Nat → Prop) (W3 : World), RdN N D C C' (W₁.putObj (D + 1) (.loop { rec .ready none with state := .busy })) W3 →
          ∃ W4, W4 = W3.putObj (D + 1) (.loop (rec (if jump.isNone then .ready else .done) jump)) ∧ (Instr.endRound (D + 1) jump).run P W3 = .ok (.bool jump.isNone) W4 ∧
          (∀ C, (¬ C (D + 1)) → Other D C W3 W4) ∧ W4.heap[D + 1]? = some (.loop (rec (if jump.isNone then .ready else .done) jump)) ∧ W4.heap[D]? = some (.deferred (some [])) ∧ D + 2 ≤ W4.heap.size ∧ RdN N (D + 2) C C' W₁ W4 := by
        intro jump C' W3 hr
        have hl3 : W3.heap[D + 1]? = some (.loop { rec .ready none with state := .busy }) := (hr.block _ (by simp; omega) (.inr ⟨by omega, hc1⟩)).trans hbusy
        have hd3 : W3.heap[D]? = some (.deferred (some [])) := (hr.block _ (by simp; omega) (.inr ⟨by omega, hc0⟩)).trans hdef
        have hs := hr.size
        rw [World.putObj_size] at hs
        have hrun := run_endRound (P := P) jump hl3
        rw [hrec] at hrun ⊢
        refine ⟨_, rfl, hrun, fun C hC => Other.putObj _ (by omega) hC _, World.putObj_heap_same (by omega), (World.putObj_heap_other (by omega)).trans hd3, by simp; omega, ⟨by simp; omega, fun k hk hkc => ?_, fun k hk => (hr.new k hk).elim .inl (fun h => .inr (by simpa using h))⟩⟩
        have hne : k ≠ D + 1 := by
          rcases hkc with h | h
          · have := hn₀ k h
            omega
          · omega
        rw [World.putObj_heap_other hne, hr.block k (by simpa using hk) (hkc.elim .inl (fun h => .inr ⟨by omega, h.2⟩)), World.putObj_heap_other hne]
      rintro e a3 W3 hp
      cases e with
      | normal =>
        obtain ⟨C', hr, hi⟩ := hp
        obtain ⟨W4, _, hrun, ho, hl, hd, hs, hr4⟩ := fin none C' W3 hr
        have hC' : ∀ k, C' k → D + 2 ≤ k := fun k hk => (hr.new k hk).elim (h2 k) (fun h => by have := h.1; simp at this; omega)
        exact ⟨_, _, hrun, .inl ⟨rfl, C', ⟨hI _ _ _ _ hi (ho C' (fun h => by have := hC' _ h; omega)), hC', hs, hl, hd⟩, hr4⟩⟩
      | ret =>
        obtain ⟨hr, hi⟩ := hp
        obtain ⟨W4, _, hrun, ho, hl, hd, hs, hr4⟩ := fin (some .ret) C W3 hr
        exact ⟨_, _, hrun, .inr ⟨rfl, ⟨.ret, hIx _ _ _ hi (ho _ (fun h => h)), hs, hl, hd⟩, hr4⟩⟩
      | exit id =>
        obtain ⟨hr, hi⟩ := hp
        obtain ⟨W4, _, hrun, ho, hl, hd, hs, hr4⟩ := fin (some (.exit id)) C W3 hr
        exact ⟨_, _, hrun, .inr ⟨rfl, ⟨.exit id, hIx _ _ _ hi (ho _ (fun h => h)), hs, hl, hd⟩, hr4⟩⟩
      | goto t =>
        obtain ⟨hr, hi⟩ := hp
        obtain ⟨W4, _, hrun, ho, hl, hd, hs, hr4⟩ := fin (some (.goto t)) C W3 hr
        exact ⟨_, _, hrun, .inr ⟨rfl, ⟨.goto t, hIx _ _ _ hi (ho _ (fun h => h)), hs, hl, hd⟩, hr4⟩⟩
      | panic ch => exact hp.elim
      | outgrown => exact hp.elim
    | exit id => exact hq.elim
    | goto t => exact hq.elim
    | ret => exact hq.elim
    | panic ch => exact hq.elim
    | outgrown => exact hq.elim
  · -- behind the iterator
    rintro e Y ⟨⟨v, rfl⟩, ⟨xs, C, hA, h1, h2, h3, h4, h5⟩ | ⟨c, h1, h3, h4, h5⟩⟩
    · have hrun := run_endLoop (P := P) h4 (by rw [hrec]; simp)
      rw [hrec] at hrun
      exact ⟨none, _, hrun, hdone xs C _ hA (hI _ _ _ _ h1 (Other.putObj _ (by omega) (fun h => by have := h2 _ h; omega) _)) ((World.putObj_heap_other (by omega)).trans h5)⟩
    · have hrun := run_endLoop (P := P) h4 (by rw [hrec]; simp)
      rw [hrec] at hrun
      exact ⟨some c, _, hrun, hstop c _ (hIx _ _ _ h1 (Other.putObj _ (by omega) (fun h => h) _)) ((World.putObj_heap_other (by omega)).trans h5)⟩
end Go.Proofs.Ytihfenkphhnbcaa
namespace Go.Proofs.Ytihfenkphhnbcaa
open Go Go.RowKit
attribute [local go_sem] Oper.semAt_some
end Go.Proofs.Ytihfenkphhnbcaa
namespace Go.Proofs.Ytihfenkphhnbcaa
open Go Go.RowKit
attribute [local go_sem] Oper.semAt_some
end Go.Proofs.Ytihfenkphhnbcaa
