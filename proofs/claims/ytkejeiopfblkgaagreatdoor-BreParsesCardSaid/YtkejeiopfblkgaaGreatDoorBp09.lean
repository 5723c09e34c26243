/- The proof's texts NdFits, TrSameB, NdStk: what the claim reaches of them. -/
import Derived.Test.YtkejeiopfblkgaaGreatDoorBp05
import Derived.Test.YtkejeiopfblkgaaGreatDoorBp02
import Derived.WalkKit
import Derived.Deep.QuietTactic
import Derived.Test.YtkejeiopfblkgaaGreatDoorBp07
import Derived.Deep.CutBlock
import Derived.Test.YtkejeiopfblkgaaGreatDoorBp01
import Derived.RangeFuncBox
import Derived.Maps.AppendAt
import Derived.WalkSmall
namespace Go.Proofs.YtkejeiopfblkgaaGreatDoor
open Go Go.RowKit
theorem nd_kinds {F : Nat → Prop} {w : World} {d : Nd} {v : Value} (h : NdX F w d v) :
  (d = .empty ∧ (v = .iface 113 (.agg #[]) ∨ v = .nilIface)) ∨ (∃ s : OSet, d = .one s ∧ v = .iface 100 (.agg #[.int .u64 (ow s 0), .int .u64 (ow s 1), .int .u64 (ow s 2), .int .u64 (ow s 3)])) ∨
  (∃ l a cap, d = .cat l ∧ v = .iface 45 (.agg #[.slice a l.length cap]) ∧ NdRw F w l a cap) ∨ (∃ l a cap, d = .alt l ∧ v = .iface 56 (.agg #[.slice a l.length cap]) ∧ NdRw F w l a cap) ∨
  (∃ d' mn mx u, d = .rep d' mn mx ∧ v = .iface 106 (.agg #[u, .int .i64 mn, .int .i64 mx]) ∧ NdX F w d' u) ∨ (∃ num d' u, d = .group num d' ∧ v = .iface 77 (.agg #[.int .i64 num, u]) ∧ NdX F w d' u) ∨
  (∃ num, d = .back num ∧ v = .iface 81 (.agg #[.int .i64 num])) ∨ (d = .start ∧ v = .iface 95 (.agg #[])) ∨ (d = .fin ∧ v = .iface 96 (.agg #[])) := by
 obtain ⟨n, h⟩ := h
 cases n with
 | zero => exact h.elim
 | succ n =>
  cases d with
  | empty => exact .inl ⟨rfl, h⟩
  | one s => exact .inr (.inl ⟨s, rfl, h⟩)
  | cat l => obtain ⟨a, cap, h1, h2⟩ := h; exact .inr (.inr (.inl ⟨l, a, cap, rfl, h1, NdRw.of (n := n) h2⟩))
  | alt l => obtain ⟨a, cap, h1, h2⟩ := h; exact .inr (.inr (.inr (.inl ⟨l, a, cap, rfl, h1, NdRw.of (n := n) h2⟩)))
  | rep d mn mx => obtain ⟨u, h1, h2⟩ := h; exact .inr (.inr (.inr (.inr (.inl ⟨d, mn, mx, u, rfl, h1, n, h2⟩))))
  | group num d => obtain ⟨u, h1, h2⟩ := h; exact .inr (.inr (.inr (.inr (.inr (.inl ⟨num, d, u, rfl, h1, n, h2⟩)))))
  | back num => exact .inr (.inr (.inr (.inr (.inr (.inr (.inl ⟨num, rfl, h⟩))))))
  | start => exact .inr (.inr (.inr (.inr (.inr (.inr (.inr (.inl ⟨rfl, h⟩)))))))
  | fin => exact .inr (.inr (.inr (.inr (.inr (.inr (.inr (.inr ⟨rfl, h⟩)))))))
theorem nd_ret_bool {a b : Bool} (h : a = b) : Ending.returned (.bool a) = .returned (.bool b) := by rw [h]
set_option linter.unusedSimpArgs false in
set_option maxRecDepth 100000 in
set_option maxHeartbeats 1000000 in
theorem nocat_any {F : Nat → Prop} (d : Nd) (v : Value) (w : World) (h : NdX F w d v) : Calls Tryz.prog 47 #[v] w fun e w' => e = .returned (.bool (!inCat d)) ∧ Below w.heap.size w w' := by
 rcases nd_kinds h with ⟨rfl, rfl | rfl⟩ | ⟨s, rfl, rfl⟩ | ⟨l, a, cap, rfl, rfl, hr⟩ | ⟨l, a, cap, rfl, rfl, hr⟩ | ⟨d', mn, mx, u, rfl, rfl, hu⟩ | ⟨num, d', u, rfl, rfl, hu⟩ | ⟨num, rfl, rfl⟩ | ⟨rfl, rfl⟩ | ⟨rfl, rfl⟩
 all_goals
  go_enter Tryz.func47, Tryz.ntmps47
  go_wp2_with fail
  go_ret
  exact ⟨rfl, Below.refl _ _⟩
set_option linter.unusedSimpArgs false in
set_option maxRecDepth 100000 in
set_option maxHeartbeats 1000000 in
theorem isalt_any {F : Nat → Prop} (d : Nd) (v : Value) (w : World) (h : NdX F w d v) : Calls Tryz.prog 48 #[v] w fun e w' => e = .returned (.bool (!inAlt d)) ∧ Below w.heap.size w w' := by
 rcases nd_kinds h with ⟨rfl, rfl | rfl⟩ | ⟨s, rfl, rfl⟩ | ⟨l, a, cap, rfl, rfl, hr⟩ | ⟨l, a, cap, rfl, rfl, hr⟩ | ⟨d', mn, mx, u, rfl, rfl, hu⟩ | ⟨num, d', u, rfl, rfl, hu⟩ | ⟨num, rfl, rfl⟩ | ⟨rfl, rfl⟩ | ⟨rfl, rfl⟩
 all_goals
  go_enter Tryz.func48, Tryz.ntmps48
  go_wp2_with fail
  go_ret
  refine ⟨rfl, ?_⟩
  repeat (first | (with_reducible exact hW) | (with_reducible exact Below.refl _ _) | refine Below.drew ?_ | refine Below.setCell ?_ (by first | omega | (simp; omega) | simp) _ | refine Below.alloc ?_ (by first | omega | (simp; omega) | simp) _)
set_option linter.unusedSimpArgs false in
set_option maxRecDepth 100000 in
set_option maxHeartbeats 1000000 in
theorem repeats_any {F : Nat → Prop} (d : Nd) (v : Value) (w : World) (h : NdX F w d v) : Calls Tryz.prog 50 #[v] w fun e w' => e = .returned (.bool (inRep d)) ∧ Below w.heap.size w w' := by
 rcases nd_kinds h with ⟨rfl, rfl | rfl⟩ | ⟨s, rfl, rfl⟩ | ⟨l, a, cap, rfl, rfl, hr⟩ | ⟨l, a, cap, rfl, rfl, hr⟩ | ⟨d', mn, mx, u, rfl, rfl, hu⟩ | ⟨num, d', u, rfl, rfl, hu⟩ | ⟨num, rfl, rfl⟩ | ⟨rfl, rfl⟩ | ⟨rfl, rfl⟩
 all_goals
  go_enter Tryz.func50, Tryz.ntmps50
  go_wp2_with fail
  go_ret
  exact ⟨rfl, Below.refl _ _⟩
set_option linter.unusedSimpArgs false in
set_option maxRecDepth 100000 in
set_option maxHeartbeats 1000000 in
theorem tbounds_any (mn mx : Int) (w : World) : Calls Tryz.prog 49 #[.int .i64 mn, .int .i64 mx] w fun e w' => e = .returned (.bool (okRep mn mx)) ∧ w' = w := by
 go_enter Tryz.func49, Tryz.ntmps49
 go_wp2_with fail
 all_goals
  go_ret
  refine ⟨nd_ret_bool ?_, rfl⟩
  unfold okRep
  rw [Bool.eq_iff_iff]
  simp
  omega
theorem any_take (p : Nd → Bool) (l : List Nd) (k : Nat) (h : k < l.length) : (l.take (k + 1)).any p = ((l.take k).any p || p l[k]) := by
 rw [List.take_succ_eq_append_getElem h, List.any_append]
 simp
theorem any_yes (p : Nd → Bool) (l : List Nd) (k : Nat) (h : k < l.length) (hp : p l[k] = true) : l.any p = true := List.any_eq_true.2 ⟨_, List.getElem_mem h, hp⟩
set_option linter.unusedSimpArgs false in
set_option maxRecDepth 100000 in
set_option maxHeartbeats 1000000 in
theorem ndix_any {F : Nat → Prop} (f : Nat) (p : Nd → Bool) (hf : f = 47 ∨ f = 48) (hP : ∀ d v w, NdX F w d v → Calls Tryz.prog f #[v] w fun e w' => e = .returned (.bool (p d)) ∧ Below w.heap.size w w')
  (l : List Nd) (a : Option Addr) (cap : Nat) (w : World) (h : NdRw F w l a cap) :
  Calls Tryz.prog 71 #[.slice a l.length cap, .func (.func f) #[] #[]] w fun e w' => ∃ k : Int, e = .returned (.int .i64 k) ∧ decide (0 ≤ k) = l.any p ∧ Below w.heap.size w w' := by
 have hlen := h.1
 have hl2 := h.2.1
 unfold maxLen at hl2
 have Hh := Lib.hid h.2.2
 clear h
 rcases hf with rfl | rfl
 all_goals
  go_enter Tryz.func71, Tryz.ntmps71
  go_wp2_with fail
  go_loopw [8] (fun i wr => ∃ k : Nat, k ≤ l.length ∧ i = .int .i64 k ∧ (l.take k).any p = false ∧ Below w.heap.size w wr) (fun i _ => l.length - (intOf i).toNat)
  case atStart => exact ⟨0, by omega, rfl, rfl, Below.refl _ _⟩
  case round =>
   obtain ⟨k, hk, rfl, hks, hW⟩ := hrel
   have Hks := Lib.hid hks
   clear hks
   by_cases hlt : k < l.length
   ·obtain ⟨b, o, rfl, hfb, hbl, hx⟩ := Hh.out (by omega)
    obtain ⟨u, hu, hr⟩ := hx k hlt
    replace hu := (hW.cell (p := ⟨b, o + k, none⟩) hbl).trans hu
    replace hr := hr.below hW
    have Hs := Lib.hid (any_take p l k hlt)
    have Hn := Lib.hid (any_yes p l k hlt)
    clear hx
    have hPu := hP l[k] u wr hr
    generalize l[k] = x at *
    cases hpx : p x
    ·rw [hpx] at hPu
     have Hr := Lib.hid (show (l.take (k + 1)).any p = false by rw [Hs.out, Hks.out, hpx]; rfl)
     clear hpx
     go_wp2_with (first | (go_at_call 47; refine hPu.mono ?_; rintro e w2 ⟨rfl, b2⟩) | (go_at_call 48; refine hPu.mono ?_; rintro e w2 ⟨rfl, b2⟩))
     go_roundw
     case rel => exact ⟨k + 1, by omega, by go_num, Hr.out, hW.trans (b2.mono hW.size)⟩
     case measure => simp [intOf]; omega
    ·rw [hpx] at hPu
     have Hr := Lib.hid (Hn.out hpx)
     clear hpx
     go_wp2_with (first | (go_at_call 47; refine hPu.mono ?_; rintro e w2 ⟨rfl, b2⟩) | (go_at_call 48; refine hPu.mono ?_; rintro e w2 ⟨rfl, b2⟩))
     go_ret
     exact ⟨k, rfl, by rw [Hr.out]; simp, hW.trans (b2.mono hW.size)⟩
   ·obtain rfl : k = l.length := by omega
    have Hr := Lib.hid (show l.any p = false by rw [← Hks.out, List.take_length])
    go_wp2_with fail
    go_ret
    exact ⟨-1, rfl, by rw [Hr.out]; rfl, hW⟩
set_option linter.unusedSimpArgs false in
set_option maxRecDepth 100000 in
set_option maxHeartbeats 1000000 in
theorem contains_any {F : Nat → Prop} (f : Nat) (p : Nd → Bool) (hf : f = 47 ∨ f = 48) (hP : ∀ d v w, NdX F w d v → Calls Tryz.prog f #[v] w fun e w' => e = .returned (.bool (p d)) ∧ Below w.heap.size w w')
  (l : List Nd) (a : Option Addr) (cap : Nat) (w : World) (h : NdRw F w l a cap) :
  Calls Tryz.prog 46 #[.slice a l.length cap, .func (.func f) #[] #[]] w fun e w' => e = .returned (.bool (l.any p)) ∧ Below w.heap.size w w' := by
 have hI := ndix_any f p hf hP l a cap w h
 clear h
 go_enter Tryz.func46, Tryz.ntmps46
 go_wp2_with (go_at_call 71; refine hI.mono ?_; rintro e w2 ⟨k, rfl, hk, b2⟩)
 go_ret
 exact ⟨rfl, b2⟩
def BlRow (w : World) (es : List Bool) (v : Value) : Prop := ∃ a cap, v = .slice a es.length cap ∧ es.length ≤ cap ∧ cap ≤ maxLen ∧ (0 < es.length → ∃ g, a = some ⟨g, 0, none⟩ ∧ g < w.heap.size ∧ ∀ i (h : i < es.length), w.cell? ⟨g, i, none⟩ = some (.bool es[i]))
theorem BlRow.below {w w' : World} {es : List Bool} {v : Value} (h : BlRow w es v) (hb : Below w.heap.size w w') : BlRow w' es v := by
 obtain ⟨a, cap, rfl, h1, h2, h3⟩ := h
 refine ⟨a, cap, rfl, h1, h2, fun h0 => ?_⟩
 obtain ⟨g, rfl, hg, hx⟩ := h3 h0
 exact ⟨g, rfl, Nat.lt_of_lt_of_le hg hb.size, fun i hi => (hb.cell (p := ⟨g, i, none⟩) hg).trans (hx i hi)⟩
set_option linter.unusedSimpArgs false in
set_option maxRecDepth 100000 in
set_option maxHeartbeats 4000000 in
theorem fits_any {F : Nat → Prop} (d : Nd) (v : Value) (es : List Bool) (ev : Value) (w : World) (h : NdX F w d v) (he : BlRow w es ev) (hes : es.length ≤ 8000000) :
  Calls Tryz.prog 26 #[v, ev] w fun e w' => e = .returned (.bool (fitsM d es)) ∧ Below w.heap.size w w' := by
 obtain ⟨ea, ecap, rfl, he1, he2, he3⟩ := he
 unfold maxLen at he2
 have He := Lib.hid he3
 clear he3
 rcases nd_kinds h with ⟨rfl, rfl | rfl⟩ | ⟨s, rfl, rfl⟩ | ⟨l, a, cap, rfl, rfl, hr⟩ | ⟨l, a, cap, rfl, rfl, hr⟩ | ⟨d', mn, mx, u, rfl, rfl, hu⟩ | ⟨num, d', u, rfl, rfl, hu⟩ | ⟨num, rfl, rfl⟩ | ⟨rfl, rfl⟩ | ⟨rfl, rfl⟩
 ·go_enter Tryz.func26, Tryz.ntmps26
  go_wp2_with fail
  go_ret
  exact ⟨rfl, Below.refl _ _⟩
 ·go_enter Tryz.func26, Tryz.ntmps26
  go_wp2_with fail
  go_ret
  exact ⟨rfl, Below.refl _ _⟩
 ·go_enter Tryz.func26, Tryz.ntmps26
  go_wp2_with fail
  go_ret
  exact ⟨rfl, Below.refl _ _⟩
 ·have hB := (Below.refl w.heap.size w).alloc (Nat.le_refl _) (.cells #[.slice a l.length cap] 45)
  have hC := contains_any 47 (fun d => !inCat d) (.inl rfl) (nocat_any) l a cap _ (hr.below hB)
  have hl1 := hr.1
  by_cases h2 : 2 ≤ l.length
  ·have e1 : decide ((2 : Int) ≤ (l.length : Int)) = true := decide_eq_true (by omega)
   have Hm := Lib.hid (show fitsM (.cat l) es = !(l.any fun d => !inCat d) by rw [all_any]; show (decide (2 ≤ l.length) && _) = _; rw [decide_eq_true h2]; rfl)
   clear h2 h hr
   go_enter Tryz.func26, Tryz.ntmps26
   go_wp2_with (go_at_call 46; refine hC.mono ?_; rintro e w2 ⟨rfl, b2⟩)
   go_ret
   exact ⟨nd_ret_bool Hm.out.symm, hB.trans (b2.mono hB.size)⟩
  ·have e1 : decide ((2 : Int) ≤ (l.length : Int)) = false := decide_eq_false (by omega)
   have Hm := Lib.hid (show fitsM (.cat l) es = false by show (decide (2 ≤ l.length) && _) = _; rw [decide_eq_false h2]; rfl)
   clear h2 h hr
   go_enter Tryz.func26, Tryz.ntmps26
   go_wp2_with fail
   go_ret
   exact ⟨nd_ret_bool Hm.out.symm, hB⟩
 ·have hB := (Below.refl w.heap.size w).alloc (Nat.le_refl _) (.cells #[.slice a l.length cap] 56)
  have hC := contains_any 48 (fun d => !inAlt d) (.inr rfl) (isalt_any) l a cap _ (hr.below hB)
  have hl1 := hr.1
  by_cases h2 : 2 ≤ l.length
  ·have e1 : decide ((2 : Int) ≤ (l.length : Int)) = true := decide_eq_true (by omega)
   have Hm := Lib.hid (show fitsM (.alt l) es = !(l.any fun d => !inAlt d) by rw [all_any]; show (decide (2 ≤ l.length) && _) = _; rw [decide_eq_true h2]; rfl)
   clear h2 h hr
   go_enter Tryz.func26, Tryz.ntmps26
   go_wp2_with (go_at_call 46; refine hC.mono ?_; rintro e w2 ⟨rfl, b2⟩)
   go_ret
   exact ⟨nd_ret_bool Hm.out.symm, hB.trans (b2.mono hB.size)⟩
  ·have e1 : decide ((2 : Int) ≤ (l.length : Int)) = false := decide_eq_false (by omega)
   have Hm := Lib.hid (show fitsM (.alt l) es = false by show (decide (2 ≤ l.length) && _) = _; rw [decide_eq_false h2]; rfl)
   clear h2 h hr
   go_enter Tryz.func26, Tryz.ntmps26
   go_wp2_with fail
   go_ret
   exact ⟨nd_ret_bool Hm.out.symm, hB⟩
 ·have hsh : (∃ T q, u = .iface T q) ∨ u = .nilIface := hu.elim fun _ h => nd_shape h
  have hb := fun w => tbounds_any mn mx w
  have hR := fun w' (hb : Below w.heap.size w w') => repeats_any d' u w' (hu.below hb)
  have Hm := Lib.hid (show fitsM (.rep d' mn mx) es = (okRep mn mx && inRep d') from rfl)
  generalize okRep mn mx = ok at *
  clear h hu
  rcases hsh with ⟨T, q, rfl⟩ | rfl
  all_goals
   have hB := fun v => (Below.refl w.heap.size w).alloc (Nat.le_refl _) (.cells #[v, .int .i64 mn, .int .i64 mx] 106)
   cases ok
   ·go_enter Tryz.func26, Tryz.ntmps26
    go_wp2_with (go_at_call 49; refine (hb _).mono ?_; rintro e w2 ⟨rfl, rfl⟩)
    go_ret
    exact ⟨nd_ret_bool (by rw [Hm.out]; rfl), hB _⟩
   ·go_enter Tryz.func26, Tryz.ntmps26
    go_wp2_with (first | (go_at_call 49; refine (hb _).mono ?_; rintro e w2 ⟨rfl, rfl⟩) | (go_at_call 50; refine (hR _ (hB _)).mono ?_; rintro e w2 ⟨rfl, b2⟩))
    go_ret
    exact ⟨nd_ret_bool (by rw [Hm.out]; rfl), (hB _).trans (b2.mono (hB _).size)⟩
 ·have hsh : (∃ T q, u = .iface T q) ∨ u = .nilIface := hu.elim fun _ h => nd_shape h
  have Hm := Lib.hid (show fitsM (.group num d') es = decide (num = (es.length : Int) + 1) from rfl)
  have Wn : IntKind.i64.wrap ((es.length : Int) + 1) = (es.length : Int) + 1 := IntWalk.i64_in _ (by omega)
  clear h hu
  rcases hsh with ⟨T, q, rfl⟩ | rfl
  all_goals
   have hB := fun v => (Below.refl w.heap.size w).alloc (Nat.le_refl _) (.cells #[.int .i64 num, v] 77)
   go_enter Tryz.func26, Tryz.ntmps26
   go_wp2_with fail
   go_ret
   exact ⟨nd_ret_bool (a := (num == (es.length : Int) + 1)) (by rw [Hm.out]; rfl), hB _⟩
 ·have hB := (Below.refl w.heap.size w).alloc (Nat.le_refl _) (.cells #[.int .i64 num] 81)
  have Hm := Lib.hid (show fitsM (.back num) es = (decide (1 ≤ num) && decide (num ≤ es.length) && es.getD (num - 1).toNat false) from rfl)
  clear h
  by_cases h1 : 1 ≤ num
  ·have e1 : decide (1 ≤ num) = true := decide_eq_true h1
   by_cases h2 : num ≤ es.length
   ·have e2 : decide (num ≤ (es.length : Int)) = true := decide_eq_true h2
    obtain ⟨g, rfl, hg, hx⟩ := He.out (by omega)
    obtain ⟨k, rfl⟩ : ∃ k : Nat, num = (k : Int) + 1 := ⟨(num - 1).toNat, by omega⟩
    have hk : k < es.length := by omega
    have hc := (hB.cell (p := ⟨g, k, none⟩) hg).trans (hx k hk)
    have Wn : IntKind.i64.wrap ((k : Int) + 1 - 1) = (k : Int) := by rw [IntWalk.i64_in _ (by omega)]; omega
    have Hm2 := Lib.hid (Hm.out.trans (show (decide (1 ≤ (k : Int) + 1) && decide ((k : Int) + 1 ≤ es.length) && es.getD ((k : Int) + 1 - 1).toNat false) = es[k] by rw [e1, e2, show ((k : Int) + 1 - 1).toNat = k by omega, List.getD_eq_getElem?_getD, List.getElem?_eq_getElem hk]; rfl))
    generalize es[k] = bk at *
    clear hx h1 h2
    go_enter Tryz.func26, Tryz.ntmps26
    go_wp2_with fail
    go_ret
    exact ⟨nd_ret_bool Hm2.out.symm, hB⟩
   ·have e2 : decide (num ≤ (es.length : Int)) = false := decide_eq_false h2
    clear h1 h2
    go_enter Tryz.func26, Tryz.ntmps26
    go_wp2_with fail
    go_ret
    exact ⟨nd_ret_bool (by rw [Hm.out, e1, e2]; rfl), hB⟩
  ·have e1 : decide (1 ≤ num) = false := decide_eq_false h1
   clear h1
   go_enter Tryz.func26, Tryz.ntmps26
   go_wp2_with fail
   go_ret
   exact ⟨nd_ret_bool (by rw [Hm.out, e1]; rfl), hB⟩
 ·go_enter Tryz.func26, Tryz.ntmps26
  go_wp2_with fail
  go_ret
  exact ⟨rfl, Below.refl _ _⟩
 ·go_enter Tryz.func26, Tryz.ntmps26
  go_wp2_with fail
  go_ret
  exact ⟨rfl, Below.refl _ _⟩
end Go.Proofs.YtkejeiopfblkgaaGreatDoor
namespace Go.Proofs.YtkejeiopfblkgaaGreatDoor
open Go Go.RowKit
theorem same_kind_ne (t u : Tr) (ht : tknown t = true) (hu : tknown u = true) (h : t.kind ≠ u.kind) : nsame (canon t) (canon u) = false := by
 rcases canon_cases t ht with ⟨k, e⟩ | ⟨k, _, e⟩ | ⟨k, _, e⟩ | ⟨k, _, e⟩ | ⟨k, _, _, _, e⟩ | ⟨k, _, _, e⟩ | ⟨k, _, e⟩ | ⟨k, e⟩ | ⟨k, e⟩ <;>
 rcases canon_cases u hu with ⟨k', e'⟩ | ⟨k', _, e'⟩ | ⟨k', _, e'⟩ | ⟨k', _, e'⟩ | ⟨k', _, _, _, e'⟩ | ⟨k', _, _, e'⟩ | ⟨k', _, e'⟩ | ⟨k', e'⟩ | ⟨k', e'⟩ <;>
 first
 | (exfalso; omega)
 | (rw [e, e']; simp [nsame])
theorem same_one (t u : Tr) (h : t.kind = 1) (h2 : u.kind = 1) : nsame (canon t) (canon u) = decide (t.set = u.set) := by
 rw [canon_1 t h, canon_1 u h2]; rfl
structure SHd (t u : Tr) (l m : List Tr) (R : Bool) : Prop where
 kt : 0 ≤ t.kind ∧ t.kind ≤ 8
 ne : t.kind ≠ u.kind → R = false
 one : t.kind = 1 → u.kind = 1 → R = decide (t.set = u.set)
 rep : t.kind = 4 → u.kind = 4 → R = (decide (t.mn = u.mn) && decide (t.mx = u.mx) && nsames (l.map canon) (m.map canon))
 grp : (t.kind = 5 ∨ t.kind = 6) → t.kind = u.kind → R = (decide (t.num = u.num) && nsames (l.map canon) (m.map canon))
 oth : (t.kind = 0 ∨ t.kind = 2 ∨ t.kind = 3 ∨ t.kind = 7 ∨ t.kind = 8) → t.kind = u.kind → R = nsames (l.map canon) (m.map canon)
 kn : (∀ i (h : i < l.length), tknown l[i] = true) ∧ (∀ i (h : i < m.length), tknown m[i] = true)
theorem shd_mk (t u : Tr) (ht : tknown t = true) (hu : tknown u = true) : SHd t u (tkids t) (tkids u) (nsame (canon t) (canon u)) := by
 have hk := nsame_kids (canon t) (canon u)
 rw [canon_kids, canon_kids] at hk
 refine ⟨known_kind t ht, same_kind_ne t u ht hu, same_one t u, fun h h2 => ?_, fun h h2 => ?_, fun h h2 => ?_, known_kids t ht, known_kids u hu⟩
 ·rw [hk]
  congr 1
  rw [(canon_4 t h).1, (canon_4 u h2).1]; rfl
 ·rw [hk]
  congr 1
  rcases h with h | h
  ·rw [(canon_5 t h).1, (canon_5 u (by omega)).1]; rfl
  ·rw [canon_6 t h, canon_6 u (by omega)]; rfl
 ·rw [hk]
  have hh : nhead (canon t) (canon u) = true := by
   rcases h with h | h | h | h | h
   ·rw [canon_0 t (by omega) (by omega) (by omega) (by omega) (by omega) (by omega) (by omega) (by omega), canon_0 u (by omega) (by omega) (by omega) (by omega) (by omega) (by omega) (by omega) (by omega)]; rfl
   ·rw [canon_2 t h, canon_2 u (by omega)]; rfl
   ·rw [canon_3 t h, canon_3 u (by omega)]; rfl
   ·rw [canon_7 t h, canon_7 u (by omega)]; rfl
   ·rw [canon_8 t h, canon_8 u (by omega)]; rfl
  rw [hh, Bool.true_and]
set_option linter.unusedSimpArgs false in
set_option maxRecDepth 100000 in
set_option maxHeartbeats 8000000 in
theorem rsame_any : ∀ (N : Nat) (t : Tr) (a : Option Addr) (cap : Nat) (u : Tr) (a2 : Option Addr) (cap2 : Nat) (w : World), TrD N w t a cap → TrD N w u a2 cap2 → tknown t = true → tknown u = true →
  Calls Tryz.prog 23 #[tV t a cap, tV u a2 cap2] w fun e w' => e = .returned (.bool (nsame (canon t) (canon u))) ∧ Below w.heap.size w w' := by
 intro N
 induction N with
 | zero => intro t a cap u a2 cap2 w h; exact (trd_zero h).elim
 | succ N ih0 =>
  intro t a cap u a2 cap2 w h h2 hkt hku
  have hW := ((Below.refl w.heap.size w).alloc (Nat.le_refl _) (.cells (tC t a cap) 36)).alloc (by simp) (.cells (tC u a2 cap2) 36)
  have hK1 := fun w' (hb : Below w.heap.size w w') => kids_any N t a cap w' (h.below hb)
  have hK2 := fun w' (hb : Below w.heap.size w w') => kids_any N u a2 cap2 w' (h2.below hb)
  have hH := shd_mk t u hkt hku
  clear h h2 hkt hku
  generalize nsame (canon t) (canon u) = R at hH ⊢
  generalize tkids t = l at hK1 hH
  generalize tkids u = m at hK2 hH
  unfold tV at hK1 hK2 ⊢
  go_enter Tryz.func23, Tryz.ntmps23
  have hT := (Blk.new w (tC t a cap) 36 w.heap.size rfl).alloc (.cells (tC u a2 cap2) 36)
  have hU := Blk.new (w.alloc (.cells (tC t a cap) 36)) (tC u a2 cap2) 36 (w.heap.size + 1) (by simp)
  have hlU := hU.lt
  by_cases hke : t.kind = u.kind
  ·have b0 : (t.kind != u.kind) = false := by simp [hke]
   have Hke := Lib.hid hke
   clear hke
   go_upto_block 0 with fail
   go_cut [] (fun wx => R = nsames (l.map canon) (m.map canon) ∧ wx = (w.alloc (.cells (tC t a cap) 36)).alloc (.cells (tC u a2 cap2) 36))
   case first =>
    clear ih0 hK1 hK2
    rcases (show (t.kind = 0 ∨ t.kind = 2 ∨ t.kind = 3 ∨ t.kind = 7 ∨ t.kind = 8) ∨ t.kind = 1 ∨ t.kind = 4 ∨ t.kind = 5 ∨ t.kind = 6 by have := hH.kt; omega) with hk | hk | hk | hk | hk
    ·have HB := Lib.hid (hH.oth hk Hke.out)
     have e1 : (t.kind == 1) = false := by simp; omega
     have e4 : (t.kind == 4) = false := by simp; omega
     have e5 : (t.kind == 5) = false := by simp; omega
     have e6 : (t.kind == 6) = false := by simp; omega
     clear hk
     go_wp2_with fail
     all_goals go_meet
     all_goals exact ⟨HB.out, rfl⟩
    ·have HB := Lib.hid (hH.one hk (by rw [← Hke.out, hk]))
     have e1 : (t.kind == 1) = true := by simp [hk]
     have hq := fun w => rset_eql t.set u.set w
     generalize decide (t.set = u.set) = q at hq HB
     clear hk
     go_wp2_with fail
     go_ret
     exact ⟨tr_ret_bool (by rw [HB.out]), hW⟩
    ·have hB := hH.rep hk (by rw [← Hke.out, hk])
     have e1 : (t.kind == 1) = false := by simp; omega
     have e4 : (t.kind == 4) = true := by simp [hk]
     clear hk
     by_cases q1 : t.mn = u.mn
     ·have f1 : (t.mn != u.mn) = false := by simp [q1]
      by_cases q2 : t.mx = u.mx
      ·have f2 : (t.mx != u.mx) = false := by simp [q2]
       have HB := Lib.hid (show R = nsames (l.map canon) (m.map canon) by rw [hB, decide_eq_true q1, decide_eq_true q2]; rfl)
       clear q1 q2 hB
       go_wp2_with fail
       all_goals go_meet
       all_goals exact ⟨HB.out, rfl⟩
      ·have f2 : (t.mx != u.mx) = true := by simp [q2]
       have HB := Lib.hid (show R = false by rw [hB, decide_eq_false q2, Bool.and_false]; rfl)
       clear q1 q2 hB
       go_wp2_with fail
       go_ret
       exact ⟨tr_ret_bool (by rw [HB.out]), hW⟩
     ·have f1 : (t.mn != u.mn) = true := by simp [q1]
      have HB := Lib.hid (show R = false by rw [hB, decide_eq_false q1]; rfl)
      clear q1 hB
      go_wp2_with fail
      go_ret
      exact ⟨tr_ret_bool (by rw [HB.out]), hW⟩
    all_goals
     have hB := hH.grp (by omega) Hke.out
     have e1 : (t.kind == 1) = false := by simp; omega
     have e4 : (t.kind == 4) = false := by simp; omega
     first | (have e5 : (t.kind == 5) = true := by simp [hk]) | (have e5 : (t.kind == 5) = false := by simp; omega)
     try have e6 : (t.kind == 6) = true := by simp [hk]
     clear hk
     by_cases q1 : t.num = u.num
     ·have f1 : (t.num != u.num) = false := by simp [q1]
      have HB := Lib.hid (show R = nsames (l.map canon) (m.map canon) by rw [hB, decide_eq_true q1]; rfl)
      clear q1 hB
      go_wp2_with fail
      all_goals go_meet
      all_goals exact ⟨HB.out, rfl⟩
     ·have f1 : (t.num != u.num) = true := by simp [q1]
      have HB := Lib.hid (show R = false by rw [hB, decide_eq_false q1]; rfl)
      clear q1 hB
      go_wp2_with fail
      go_ret
      exact ⟨tr_ret_bool (by rw [HB.out]), hW⟩
   case rest =>
    obtain ⟨hRn, rfl⟩ := hcut
    have HRn := Lib.hid hRn
    have HKN := Lib.hid hH.kn
    clear hRn hH Hke b0
    go_upto_region 13 with fail
    go_cut [5, 6] (fun x y wx => ∃ a1 c1 a3 c3, x = .slice a1 l.length c1 ∧ y = .slice a3 m.length c3 ∧ RowD N wx l a1 c1 ∧ RowD N wx m a3 c3 ∧ Below w.heap.size w wx)
    case first =>
     clear ih0 hT
     go_region_with (first | (go_at_call_of 41 (Tr.kind t); refine (hK1 _ (by first | exact hW | exact Below.drew hW)).mono ?_; rintro e w8 ⟨a1, c1, rfl, hR1, b8⟩; (first | replace hW := hW.trans (b8.mono hW.size) | replace hW := (Below.drew hW).trans (b8.mono hW.size)); (first | replace hU := hU.below b8 hU.lt | replace hU := (Blk.drew hU).below b8 hU.lt); (try clear b8); obtain ⟨q0, q1, q2, q3, q4, q5, q6, q7, q8⟩ := blk9 hU) | (go_at_call_of 41 (Tr.kind u); refine (hK2 _ (by first | exact hW | exact Below.drew hW)).mono ?_; rintro e w9 ⟨a3, c3, rfl, hR2, b9⟩; have hR1' := hR1.below b9; replace hW := hW.trans (b9.mono hW.size); (try clear b9)))
     all_goals go_wp2_with fail
     all_goals go_meet
     all_goals exact ⟨a1, c1, a3, c3, rfl, rfl, hR1', hR2, hW⟩
    case rest =>
     clear hW hU hlU hK1 hK2 hT
     obtain ⟨a1, c1, a3, c3, rfl, rfl, hR1, hR2, hW⟩ := hcut
     have hl1 := hR1.1
     have hl2 := hR1.2.1
     have hm1 := hR2.1
     have hm2 := hR2.2.1
     unfold maxLen at hl2 hm2
     have HR1 := Lib.hid hR1.2.2
     have HR2 := Lib.hid hR2.2.2
     clear hR1 hR2
     by_cases hln : l.length = m.length
     ·have e1 : ((l.length : Int) != (m.length : Int)) = false := by simp [hln]
      have Hln := Lib.hid hln
      clear hln
      go_wp2_with fail
      go_loopw [55] (fun i wr => ∃ k : Nat, k ≤ l.length ∧ i = .int .i64 k ∧ nsames ((l.map canon).take k) ((m.map canon).take k) = true ∧ Below wc.heap.size wc wr) (fun i _ => l.length - (intOf i).toNat)
      case atStart => exact ⟨0, by omega, rfl, rfl, Below.refl _ _⟩
      case round =>
       obtain ⟨k, hk, rfl, hsm, hV⟩ := hrel
       have Hsm := Lib.hid hsm
       clear hsm
       by_cases hlt : k < l.length
       ·obtain ⟨b, o, rfl, hbl, hx⟩ := HR1.out (by omega)
        have hkm : k < m.length := by have := Hln.out; omega
        obtain ⟨b', o', rfl, hbl', hx'⟩ := HR2.out (by omega)
        obtain ⟨a', cap', h9, hr⟩ := hx k hlt
        obtain ⟨a'', cap'', h9', hr'⟩ := hx' k (by omega)
        have Htk := Lib.hid (nsames_take (l.map canon) (m.map canon) (by simpa using Hln.out) k (by simpa using hlt) (by simp; omega))
        have Hno := Lib.hid (nsames_no (l.map canon) (m.map canon) k (by simpa using hlt) (by simp; omega))
        simp only [List.getElem_map] at Htk Hno
        replace h9 := h9.below hV hbl
        replace h9' := h9'.below hV hbl'
        replace hr := (hr.below hV).below (Below.drew (Below.refl _ _))
        replace hr' := (hr'.below hV).below (Below.drew (Below.refl _ _))
        obtain ⟨c0, c1, c2, c3, c4, c5, c6, c7, c8⟩ := h9
        obtain ⟨d0, d1, d2, d3, d4, d5, d6, d7, d8⟩ := h9'
        clear hx hx'
        have e3 : decide (k < m.length) = true := decide_eq_true hkm
        have hkx := HKN.out.1 k hlt
        have hky := HKN.out.2 k hkm
        generalize l[k] = x at *
        generalize m[k] = y at *
        have hI := ih0 x a' cap' y a'' cap'' _ hr hr' hkx hky
        unfold tV at hI
        cases hxy : nsame (canon x) (canon y)
        ·rw [hxy] at hI
         have Hr := Lib.hid (Hno.out hxy)
         clear hxy
         go_wp2_with fail
         go_region_with (go_at_call 23; refine hI.mono ?_; rintro e w8 ⟨rfl, b8⟩; have hV8 := (Below.drew hV).trans (b8.mono hV.size))
         all_goals go_wp2_with fail
         all_goals go_ret
         all_goals exact ⟨tr_ret_bool (by rw [HRn.out, Hr.out]), hW.trans (hV8.mono hW.size)⟩
        ·rw [hxy] at hI
         have Hr := Lib.hid (show nsames ((l.map canon).take (k + 1)) ((m.map canon).take (k + 1)) = true by rw [Htk.out, Hsm.out, hxy]; rfl)
         clear hxy
         go_wp2_with fail
         go_region_with (go_at_call 23; refine hI.mono ?_; rintro e w8 ⟨rfl, b8⟩; have hV8 := (Below.drew hV).trans (b8.mono hV.size))
         all_goals go_wp2_with fail
         all_goals
          go_roundw
          case rel => exact ⟨k + 1, by omega, by go_num, Hr.out, hV8⟩
          case measure => simp [intOf]; omega
       ·obtain rfl : k = l.length := by omega
        have Hr := Lib.hid (show nsames (l.map canon) (m.map canon) = true by
         have := Hsm.out
         rw [List.take_of_length_le (by simp), List.take_of_length_le (by have := Hln.out; simp; omega)] at this
         exact this)
        go_wp2_with fail
        go_ret
        exact ⟨tr_ret_bool (by rw [HRn.out, Hr.out]), hW.trans (hV.mono hW.size)⟩
     ·have e1 : ((l.length : Int) != (m.length : Int)) = true := by simp; omega
      have Hn := Lib.hid (nsames_len (l.map canon) (m.map canon) (by rw [List.length_map, List.length_map]; exact hln))
      go_wp2_with fail
      go_ret
      exact ⟨tr_ret_bool (by rw [HRn.out, Hn.out]), hW⟩
  ·have b0 : (t.kind != u.kind) = true := by simp [hke]
   have HB := Lib.hid (hH.ne hke)
   clear hke
   go_wp2_with fail
   go_ret
   exact ⟨tr_ret_bool (by rw [HB.out]), hW⟩
end Go.Proofs.YtkejeiopfblkgaaGreatDoor
namespace Go.Proofs.YtkejeiopfblkgaaGreatDoor
open Go Go.RowKit
def StkC (G : Nat → Prop) (W : World) : List (Nd × List Nd) → List Value → Prop
 | [], us => us = []
 | x :: s, us => ∃ v a cap us', us = v :: .slice a x.2.length cap :: us' ∧ NdX G W x.1 v ∧ NdRw G W x.2 a cap ∧ StkC G W s us'
theorem StkC.len {G : Nat → Prop} {W : World} : ∀ {s : List (Nd × List Nd)} {us : List Value}, StkC G W s us → us.length = s.length * 2
 | [], us, h => by rw [show us = [] from h]; rfl
 | x :: s, us, ⟨v, a, cap, us', h, _, _, h4⟩ => by rw [h]; have := StkC.len h4; simp [this]; omega
theorem StkC.keep {F G : Nat → Prop} {W W' : World} (hs : W.heap.size ≤ W'.heap.size) (hF : ∀ b, F b → b < W.heap.size → G b ∧ ∀ o, W'.cell? ⟨b, o, none⟩ = W.cell? ⟨b, o, none⟩) :
  ∀ {s : List (Nd × List Nd)} {us : List Value}, StkC F W s us → StkC G W' s us
 | [], _, h => h
 | _ :: _, _, ⟨v, a, cap, us', h, h2, h3, h4⟩ => ⟨v, a, cap, us', h, h2.keep hs hF, h3.keep hs hF, StkC.keep hs hF h4⟩
theorem StkC.snoc {G : Nat → Prop} {W : World} {d : Nd} {r : List Nd} {v : Value} {a : Option Addr} {cap : Nat} (hd : NdX G W d v) (hr : NdRw G W r a cap) :
  ∀ {s : List (Nd × List Nd)} {us : List Value}, StkC G W s us → StkC G W (s ++ [(d, r)]) (us ++ [v, .slice a r.length cap])
 | [], us, h => by obtain rfl : us = [] := h; exact ⟨v, a, cap, [], rfl, hd, hr, rfl⟩
 | _ :: _, _, ⟨v', a', cap', us', h, h2, h3, h4⟩ => ⟨v', a', cap', _, by rw [h]; rfl, h2, h3, StkC.snoc hd hr h4⟩
theorem StkC.last {G : Nat → Prop} {W : World} {d : Nd} {r : List Nd} :
  ∀ {s : List (Nd × List Nd)} {us : List Value}, StkC G W (s ++ [(d, r)]) us → ∃ us' v a cap, us = us' ++ [v, .slice a r.length cap] ∧ NdX G W d v ∧ NdRw G W r a cap ∧ StkC G W s us'
 | [], us, ⟨v, a, cap, us', h, h2, h3, h4⟩ => by obtain rfl : us' = [] := h4; exact ⟨[], v, a, cap, h, h2, h3, rfl⟩
 | x :: s, us, ⟨v', a', cap', us', h, h2, h3, h4⟩ => by
  obtain ⟨us2, v, a, cap, e, g2, g3, g4⟩ := StkC.last h4
  exact ⟨v' :: .slice a' x.2.length cap' :: us2, v, a, cap, by rw [h, e]; rfl, g2, g3, v', a', cap', us2, rfl, h2, h3, g4⟩
def Lies (n₀ base : Nat) (C : Nat → Prop) (S : Nat) (sv : Value) (b : Nat) : Prop := b < n₀ ∨ (base ≤ b ∧ ¬ C b ∧ b ≠ S ∧ sv.ownBlock ≠ some b)
theorem ndx_lies {n₀ base : Nat} {C : Nat → Prop} {S : Nat} {sv : Value} {W : World} {d : Nd} {v : Value} (h : NdX (Lies n₀ base C S sv) W d v) : NdX (fun k => k < n₀ ∨ (base ≤ k ∧ ¬ C k)) W d v :=
 h.keep (Nat.le_refl _) (fun _ hb _ => ⟨Or.elim hb .inl (fun h => .inr ⟨h.1, h.2.1⟩), fun _ => rfl⟩)
structure Stk (n₀ base S Y l : Nat) (C : Nat → Prop) (W : World) (s : List (Nd × List Nd)) (sv : Value) (us : List Value) : Prop where
 box : Boxed W S 108 sv
 yld : Boxed W Y 107 (.func (.yield l) #[] #[])
 bS : base ≤ S
 bY : base ≤ Y
 bn : n₀ ≤ base
 cS : ¬ C S
 cY : ¬ C Y
 cC : ∀ k, C k → base ≤ k
 row : W.ownsRow base 111 2 sv s.length us
 cR : ∀ g, sv.ownBlock = some g → ¬ C g
 cells : StkC (Lies n₀ base C S sv) W s us
theorem Boxed.ne_of {W : World} {A B : Nat} {t u : TypeId} {v x : Value} (h : Boxed W A t v) (k : Boxed W B u x) (htu : t ≠ u) : A ≠ B := by
 intro e
 subst e
 have := (show W.heap[A]? = _ from h).symm.trans k
 simp at this
 exact htu this.2
theorem Boxed.same {W W' : World} {B : Nat} {t : TypeId} {v : Value} (h : Boxed W B t v) (k : W'.heap[B]? = W.heap[B]?) : Boxed W' B t v := k.trans h
theorem Stk.lS {n₀ base S Y l : Nat} {C : Nat → Prop} {W : World} {s : List (Nd × List Nd)} {sv : Value} {us : List Value} (h : Stk n₀ base S Y l C W s sv us) : S < W.heap.size := h.box.lt
theorem Stk.neSY {n₀ base S Y l : Nat} {C : Nat → Prop} {W : World} {s : List (Nd × List Nd)} {sv : Value} {us : List Value} (h : Stk n₀ base S Y l C W s sv us) : S ≠ Y := Boxed.ne_of h.box h.yld (by decide)
theorem Stk.nr {n₀ base S Y l : Nat} {C : Nat → Prop} {W : World} {s : List (Nd × List Nd)} {sv : Value} {us : List Value} (h : Stk n₀ base S Y l C W s sv us) : ∀ g, sv.ownBlock = some g → base ≤ g ∧ g < W.heap.size ∧ g ≠ S ∧ g ≠ Y ∧ ¬ C g := fun g hg =>
 ⟨(h.row.lt g hg).1, (h.row.lt g hg).2, fun e => Boxed.not_row h.box (by decide) h.row (by rw [hg, e]), fun e => Boxed.not_row h.yld (by decide) h.row (by rw [hg, e]), h.cR g hg⟩
theorem own_row_same {w w' : World} {base : Nat} {e : TypeId} {size : Nat} {v : Value} {n : Nat} {xs : List Value} (h : w.ownsRow base e size v n xs) (hb : ∀ g, v.ownBlock = some g → w'.heap[g]? = w.heap[g]?) : w'.ownsRow base e size v n xs := by
 obtain ⟨h1, h2⟩ := h
 refine ⟨h1, ?_⟩
 rcases h2 with h2 | ⟨g, cap, cur, rfl, b, c, d⟩
 ·exact .inl h2
 ·exact .inr ⟨g, cap, cur, rfl, b, (hb g rfl).trans c, d⟩
theorem row_cap {w : World} {base : Nat} {e : TypeId} {size g n cap m : Nat} {xs : List Value} (h : w.ownsRow base e size (.slice (some ⟨g, 0, none⟩) n cap) m xs) : n ≤ cap := by
 rcases h.2 with ⟨e, _⟩ | ⟨g5, cap5, cur5, e, _, _, h5, _⟩
 ·cases e
 ·simp only [Value.slice.injEq] at e
  omega
theorem stk_apart {n₀ base S Y l : Nat} {C : Nat → Prop} {W : World} {s : List (Nd × List Nd)} {g n cap : Nat} {us : List Value} (h : Stk n₀ base S Y l C W s (.slice (some ⟨g, 0, none⟩) n cap) us) {k : Nat} (hk : Lies n₀ base C S (.slice (some ⟨g, 0, none⟩) n cap) k) : k ≠ g := by
 rcases hk with h1 | h1
 ·have := h.bn
  have := (h.nr g rfl).1
  omega
 ·intro e
  exact h1.2.2.2 (congrArg some e.symm)
theorem Stk.round {n₀ base S Y l : Nat} {C C' : Nat → Prop} {W W' : World} {s : List (Nd × List Nd)} {sv : Value} {us : List Value} (h : Stk n₀ base S Y l C W s sv us) (hr : Rdn n₀ base C C' W W') (hC : ∀ k, C' k → base ≤ k) : Stk n₀ base S Y l C' W' s sv us := by
 have hnew : ∀ b, b < W.heap.size → ¬ C b → ¬ C' b := fun b hb hc hc' => (hr.new b hc').elim hc (fun h => by omega)
 refine ⟨Boxed.same h.box (hr.block _ h.box.lt (.inr ⟨h.bS, h.cS⟩)), Boxed.same h.yld (hr.block _ h.yld.lt (.inr ⟨h.bY, h.cY⟩)), h.bS, h.bY, h.bn, hnew _ h.box.lt h.cS, hnew _ h.yld.lt h.cY, hC,
  own_row_same h.row (fun g hg => hr.block _ (h.nr g hg).2.1 (.inr ⟨(h.nr g hg).1, (h.nr g hg).2.2.2.2⟩)), fun g hg => hnew g (h.nr g hg).2.1 (h.nr g hg).2.2.2.2, ?_⟩
 refine h.cells.keep hr.size (fun b hf hb => ⟨?_, fun o => World.cell?_of_block (w := W) (a := ⟨b, o, none⟩) (hr.block b hb ?_)⟩)
 ·rcases hf with hf | ⟨h1, h2, h3, h4⟩
  ·exact .inl hf
  ·exact .inr ⟨h1, hnew b hb h2, h3, h4⟩
 ·rcases hf with hf | ⟨h1, h2, h3, h4⟩
  ·exact .inl hf
  ·exact .inr ⟨h1, h2⟩
theorem Stk.below {n₀ base S Y l : Nat} {C : Nat → Prop} {W W' : World} {s : List (Nd × List Nd)} {sv : Value} {us : List Value} (h : Stk n₀ base S Y l C W s sv us) (hb : Below W.heap.size W W') : Stk n₀ base S Y l C W' s sv us :=
 h.round ⟨hb.size, fun k hk _ => hb.block k hk, fun _ hk => .inl hk⟩ h.cC
theorem lies_push {n₀ base S : Nat} {C : Nat → Prop} {W : World} {sv v' : Value} {b : Nat} (hb : Lies n₀ base C S sv b) (hlt : b < W.heap.size) (hat : v'.ownBlock = sv.ownBlock ∨ v'.ownBlock = some W.heap.size) : Lies n₀ base C S v' b := by
 rcases hb with hb | ⟨h1, h2, h3, h4⟩
 ·exact .inl hb
 ·refine .inr ⟨h1, h2, h3, ?_⟩
  rcases hat with e | e
  ·rw [e]; exact h4
  ·rw [e]; intro e2; injection e2 with e2; omega
theorem Stk.push {n₀ base S Y l : Nat} {C : Nat → Prop} {W w2 w3 : World} {s : List (Nd × List Nd)} {sv v' v : Value} {us : List Value} {d : Nd} {r : List Nd} {a : Option Addr} {cap : Nat}
  (h : Stk n₀ base S Y l C W s sv us) (hb : Below W.heap.size W w2) (hd : NdX (Lies n₀ base C S sv) W d v) (hr : NdRw (fun b => Lies n₀ base C S sv b ∨ W.heap.size ≤ b) w2 r a cap) (hC : ∀ k, C k → k < W.heap.size)
  (hown : w3.ownsRow base 111 2 v' (s.length + 1) (us ++ [v, .slice a r.length cap])) (hg : w2.grownBy w3 sv.ownBlock) (hat : v'.ownBlock = sv.ownBlock ∨ v'.ownBlock = some w2.heap.size) :
  Boxed w3 S 108 sv ∧ Stk n₀ base S Y l C (w3.setCell ⟨S, 0, none⟩ v') (s ++ [(d, r)]) v' (us ++ [v, .slice a r.length cap]) ∧ Other base C W (w3.setCell ⟨S, 0, none⟩ v') ∧ NdX (Lies n₀ base C S v') (w3.setCell ⟨S, 0, none⟩ v') d v := by
 have h2 := h.below hb
 have hS3 : Boxed w3 S 108 sv := h2.box.kept hg (fun e => (h2.nr S e.symm).2.2.1 rfl)
 have hY3 : Boxed w3 Y 107 (.func (.yield l) #[] #[]) := h2.yld.kept hg (fun e => (h2.nr Y e.symm).2.2.2.1 rfl)
 have hbs : base ≤ w2.heap.size := Nat.le_of_lt (Nat.lt_of_le_of_lt h2.bS h2.box.lt)
 have hlt3 := hown.lt
 have hCv : ∀ g, v'.ownBlock = some g → ¬ C g := fun g hg' hc => by
  rcases hat with e | e
  ·rw [e] at hg'; exact h2.cR g hg' hc
  ·rw [e] at hg'; injection hg' with hg'; have := hC g hc; have := hb.size; omega
 have hnS : ∀ g, v'.ownBlock = some g → g ≠ S ∧ g ≠ Y := fun g hg' => by
  rcases hat with e | e
  ·rw [e] at hg'; exact ⟨(h2.nr g hg').2.2.1, (h2.nr g hg').2.2.2.1⟩
  ·rw [e] at hg'; injection hg' with hg'; have := h2.box.lt; have := h2.yld.lt; omega
 have hblk : ∀ k, k < w2.heap.size → sv.ownBlock ≠ some k → k ≠ S → (w3.setCell ⟨S, 0, none⟩ v').heap[k]? = w2.heap[k]? := fun k hk h1 h3 =>
  (Below.heap_setCell _ _ _ _ h3).trans (hg.block k hk (fun e => h1 e.symm))
 have hsz : w2.heap.size ≤ (w3.setCell ⟨S, 0, none⟩ v').heap.size := by have := hg.size; simpa [World.setCell] using this
 have hkeep : ∀ b, Lies n₀ base C S sv b ∨ (W.heap.size ≤ b ∧ b < w2.heap.size) → b < w2.heap.size → Lies n₀ base C S v' b ∧ ∀ o, (w3.setCell ⟨S, 0, none⟩ v').cell? ⟨b, o, none⟩ = w2.cell? ⟨b, o, none⟩ := by
  intro b hf hlt
  have hf2 : Lies n₀ base C S sv b := by
   rcases hf with hf | ⟨hf, _⟩
   ·exact hf
   ·refine .inr ⟨by have := h.bS; have := h.box.lt; omega, fun hc => by have := hC b hc; omega, fun e => by have := h.box.lt; omega, fun e => by have := (h.nr b e).2.1; omega⟩
  refine ⟨lies_push hf2 hlt hat, fun o => World.cell?_of_block (w := w2) (a := ⟨b, o, none⟩) (hblk b hlt ?_ ?_)⟩
  ·rcases hf2 with h1 | h1
   ·intro e; have := (h2.nr b e).1; have := h.bn; omega
   ·exact h1.2.2.2
  ·rcases hf2 with h1 | h1
   ·have := h.bn; have := h.bS; omega
   ·exact h1.2.2.1
 refine ⟨hS3, ⟨hS3.set v', ?_, h.bS, h.bY, h.bn, h.cS, h.cY, h.cC, ?_, hCv, ?_⟩, ?_⟩
 ·exact Boxed.same hY3 (Below.heap_setCell _ _ _ _ (Ne.symm h.neSY))
 ·rw [List.length_append]
  exact own_row_same hown (fun g hg' => Below.heap_setCell _ _ _ _ (hnS g hg').1)
 ·refine StkC.snoc ?_ ?_ ?_
  ·exact (hd.below hb).keep hsz (fun b hf hlt => hkeep b (.inl hf) hlt)
  ·exact hr.keep hsz (fun b hf hlt => hkeep b (hf.elim .inl (fun h => .inr ⟨h, hlt⟩)) hlt)
  ·exact h2.cells.keep hsz (fun b hf hlt => hkeep b (.inl hf) hlt)
 ·exact ⟨(((Other.of_below hb).trans (Other.refl base C w2)).grown hg (fun k hk => ⟨(h2.nr k hk).1, (h2.nr k hk).2.2.2.2⟩)).setCell (p := ⟨S, 0, none⟩) h.bS h.cS v', (hd.below hb).keep hsz (fun b hf hlt => hkeep b (.inl hf) hlt)⟩
theorem Stk.top {n₀ base S Y l : Nat} {C : Nat → Prop} {W : World} {s : List (Nd × List Nd)} {sv : Value} {us : List Value} {d : Nd} {r : List Nd} (h : Stk n₀ base S Y l C W (s ++ [(d, r)]) sv us) :
  ∃ g cap us' v a cap', sv = .slice (some ⟨g, 0, none⟩) (s.length + 1) cap ∧ us = us' ++ [v, .slice a r.length cap'] ∧ us'.length = s.length * 2 ∧ W.cell? ⟨g, s.length * 2, none⟩ = some v ∧ W.cell? ⟨g, s.length * 2 + 1, none⟩ = some (.slice a r.length cap') ∧ W.frozen? ⟨g, s.length * 2 + 1, none⟩ = false ∧
   NdX (Lies n₀ base C S sv) W d v ∧ NdRw (Lies n₀ base C S sv) W r a cap' := by
 have hrow := h.row
 rw [List.length_append] at hrow
 obtain ⟨g, cap, rfl⟩ := ownsRow_succ hrow
 obtain ⟨us', v, a, cap', rfl, h1, h2, h3⟩ := h.cells.last
 have hl := h3.len
 refine ⟨g, cap, us', v, a, cap', rfl, rfl, hl, ?_, ?_, hrow.frozenAt _, h1, h2⟩
 ·rw [hrow.cellAt (s.length * 2) (show s.length * 2 < (s.length + 1) * 2 by omega), ← hl, List.getElem?_append_right (Nat.le_refl _)]
  simp
 ·rw [hrow.cellAt (s.length * 2 + 1) (show s.length * 2 + 1 < (s.length + 1) * 2 by omega), ← hl, List.getElem?_append_right (by omega)]
  rw [show us'.length + 1 - us'.length = 1 by omega]
  rfl
theorem Stk.pop {n₀ base S Y l : Nat} {C : Nat → Prop} {W : World} {s : List (Nd × List Nd)} {g cap : Nat} {us : List Value} {d : Nd} {r : List Nd} (h : Stk n₀ base S Y l C W (s ++ [(d, r)]) (.slice (some ⟨g, 0, none⟩) (s.length + 1) cap) us) :
  ∃ us', Stk n₀ base S Y l C (W.setCell ⟨S, 0, none⟩ (.slice (some ⟨g, 0, none⟩) s.length cap)) s (.slice (some ⟨g, 0, none⟩) s.length cap) us' ∧ Other base C W (W.setCell ⟨S, 0, none⟩ (.slice (some ⟨g, 0, none⟩) s.length cap)) := by
 have hrow := h.row
 rw [List.length_append] at hrow
 obtain ⟨us', v, a, cap', rfl, h1, h2, h3⟩ := h.cells.last
 have hp := ownsRow_pop h3.len hrow
 have hng := h.nr g rfl
 refine ⟨us', ⟨h.box.set _, ?_, h.bS, h.bY, h.bn, h.cS, h.cY, h.cC, ?_, fun g' hg' => h.cR g' hg', ?_⟩, (Other.refl base C W).setCell (p := ⟨S, 0, none⟩) h.bS h.cS _⟩
 ·exact Boxed.same h.yld (Below.heap_setCell _ _ _ _ (Ne.symm h.neSY))
 ·exact own_row_same hp (fun g' hg' => Below.heap_setCell _ _ _ _ (by simp [Value.ownBlock] at hg'; subst hg'; exact hng.2.2.1))
 ·refine h3.keep (by simp [World.setCell]) (fun b hf hlt => ⟨hf, fun o => World.cell?_of_block (w := W) (a := ⟨b, o, none⟩) (Below.heap_setCell _ _ _ _ ?_)⟩)
  rcases hf with h1 | h1
  ·have := h.bn; have := h.bS; simp; omega
  ·exact h1.2.2.1
theorem Stk.shift {n₀ base S Y l : Nat} {C : Nat → Prop} {W : World} {s : List (Nd × List Nd)} {g cap cap' : Nat} {a : Option Addr} {us : List Value} {d : Nd} {r r' : List Nd} (h : Stk n₀ base S Y l C W (s ++ [(d, r)]) (.slice (some ⟨g, 0, none⟩) (s.length + 1) cap) us)
  (hr : NdRw (Lies n₀ base C S (.slice (some ⟨g, 0, none⟩) (s.length + 1) cap)) W r' a cap') :
  ∃ us', Stk n₀ base S Y l C (W.setCell ⟨g, s.length * 2 + 1, none⟩ (.slice a r'.length cap')) (s ++ [(d, r')]) (.slice (some ⟨g, 0, none⟩) (s.length + 1) cap) us' ∧ Other base C W (W.setCell ⟨g, s.length * 2 + 1, none⟩ (.slice a r'.length cap')) := by
 have hrow := h.row
 rw [List.length_append] at hrow
 obtain ⟨us', v, a2, cap2, rfl, h1, h2, h3⟩ := h.cells.last
 have hl := h3.len
 have hng := h.nr g rfl
 have hst := (hrow.stored (s.length * 2 + 1) (.slice a r'.length cap')).1
 rw [← hl, List.set_append_right _ _ (by omega)] at hst
 simp at hst
 rw [hl] at hst
 have hk : ∀ b, Lies n₀ base C S (.slice (some ⟨g, 0, none⟩) (s.length + 1) cap) b → b < W.heap.size → Lies n₀ base C S (.slice (some ⟨g, 0, none⟩) (s.length + 1) cap) b ∧ ∀ o, (W.setCell ⟨g, s.length * 2 + 1, none⟩ (.slice a r'.length cap')).cell? ⟨b, o, none⟩ = W.cell? ⟨b, o, none⟩ := fun b hf hlt =>
  ⟨hf, fun o => World.cell?_of_block (w := W) (a := ⟨b, o, none⟩) (Below.heap_setCell _ _ _ _ (by
   rcases hf with h1 | h1
   ·have := h.bn; simp; omega
   ·intro e; exact h1.2.2.2 (congrArg some e.symm)))⟩
 have hsz : W.heap.size ≤ (W.setCell ⟨g, s.length * 2 + 1, none⟩ (.slice a r'.length cap')).heap.size := by simp [World.setCell]
 refine ⟨us' ++ [v, .slice a r'.length cap'], ⟨?_, ?_, h.bS, h.bY, h.bn, h.cS, h.cY, h.cC, ?_, fun g' hg' => h.cR g' hg', ?_⟩, (Other.refl base C W).setCell (p := ⟨g, _, none⟩) hng.1 hng.2.2.2.2 _⟩
 ·exact Boxed.same h.box (Below.heap_setCell _ _ _ _ (Ne.symm hng.2.2.1))
 ·exact Boxed.same h.yld (Below.heap_setCell _ _ _ _ (Ne.symm hng.2.2.2.1))
 ·rw [List.length_append]
  exact hst
 ·exact StkC.snoc (h1.keep hsz hk) (hr.keep hsz hk) (h3.keep hsz hk)
end Go.Proofs.YtkejeiopfblkgaaGreatDoor
