/- Walks over the document's trees: how much there is of a node; whether all kinds are known. -/
import Derived.Test.YtaekjcbgnlldoaaTrAt
import Derived.Lib.Hide

namespace Go.Proofs.Ytaekjcbgnlldoaa
open Go.RowKit

theorem tr_ret_int {k : IntKind} {a b : Int} (h : a = b) : Ending.returned (.int k a) = .returned (.int k b) := by rw [h]
theorem tr_ret_bool {a b : Bool} (h : a = b) : Ending.returned (.bool a) = .returned (.bool b) := by rw [h]
/-- A node's cells, in a block. -/
abbrev tC (t : Tr) (a : Option Addr) (cap : Nat) : Array Value := #[.int .i64 t.kind, .int .u64 (ow t.set 0), .int .u64 (ow t.set 1), .int .u64 (ow t.set 2), .int .u64 (ow t.set 3), .slice a t.parts.length cap, .int .i64 t.mn, .int .i64 t.mx, .int .i64 t.num]
set_option linter.unusedSimpArgs false in
set_option maxRecDepth 100000 in
set_option maxHeartbeats 2000000 in
theorem lsize_any : ∀ (n : Nat) (t : Tr) (a : Option Addr) (cap : Nat) (w : World), TrAt n w t a cap → tall t ≤ 4000000 →
    Calls Try.prog 27 #[tV t a cap] w fun e w' => e = .returned (.int .i64 (tall t : Int)) ∧ Below w.heap.size w w' := by
  intro n
  induction n with
  | zero => intro t a cap w h; exact h.elim
  | succ n ih =>
    intro t a cap w h hb
    have hlen := h.len
    unfold maxLen at hlen
    unfold TrAt at h
    have Hh := Lib.hid h.2.2
    have Ht := Lib.hid (show tall t = 1 + talls t.parts by cases t; rfl)
    have Hall := Lib.hid (show talls t.parts ≤ 4000000 by have := Ht.out; omega)
    clear h hb
    have hW := (Below.refl w.heap.size w).alloc (Nat.le_refl _) (.cells (tC t a cap) 27)
    unfold tV
    go_enter Try.func27, Try.ntmps27
    go_wp2_with fail
    go_loopw [3, 9] (fun s i wr => ∃ k : Nat, k ≤ t.parts.length ∧ i = .int .i64 k ∧ s = .int .i64 (1 + (talls (t.parts.take k) : Int)) ∧ Below w.heap.size w wr) (fun _ i _ => t.parts.length - (intOf i).toNat)
    case atStart => exact ⟨0, by omega, rfl, rfl, hW⟩
    case round =>
      clear hW
      obtain ⟨k, hk, rfl, rfl, hW⟩ := hrel
      by_cases hlt : k < t.parts.length
      · obtain ⟨b, o, rfl, hbl, hx⟩ := Hh.out (by omega)
        obtain ⟨a', cap', h9, hr⟩ := hx k hlt
        replace h9 := h9.below hW hbl
        replace hr := TrAt.below hW _ _ _ _ hr
        have Hs := Lib.hid (talls_take t.parts k hlt)
        have hm := tall_mem t.parts k hlt
        have hle := talls_le t.parts (k + 1)
        have hA := Hall.out
        obtain ⟨c0, c1, c2, c3, c4, c5, c6, c7, c8⟩ := h9
        generalize t.parts[k] = x at *
        have hsum := Hs.out
        have Wn : IntKind.i64.wrap (1 + (talls (t.parts.take k) : Int) + (tall x : Int)) = 1 + (talls (t.parts.take (k + 1)) : Int) := by
          rw [IntWalk.i64_in _ (by omega)]
          omega
        have hx2 : tall x ≤ 4000000 := by omega
        clear hsum hle hA hm hx
        go_wp2_with fail
        refine (ih x a' cap' _ (TrAt.below ((Below.refl wr.heap.size wr).alloc (Nat.le_refl _) _) _ _ _ _ hr) hx2).mono ?_
        rintro e w2 ⟨rfl, b2⟩
        replace hW := (hW.alloc hW.size (.cells (tC x a' cap') 27)).trans (b2.mono (hW.alloc hW.size _).size)
        clear b2 hr c0 c1 c2 c3 c4 c5 c6 c7 c8
        go_wp2_with fail
        go_roundw
        case rel => exact ⟨k + 1, by omega, by go_num, by go_num, hW⟩
        case measure => simp [intOf]; omega
      · obtain rfl : k = t.parts.length := by omega
        rw [List.take_length]
        go_wp2_with fail
        go_ret
        exact ⟨tr_ret_int (by rw [Ht.out]; omega), hW⟩
set_option linter.unusedSimpArgs false in
set_option maxRecDepth 100000 in
set_option maxHeartbeats 2000000 in
theorem lknown_any : ∀ (n : Nat) (t : Tr) (a : Option Addr) (cap : Nat) (w : World), TrAt n w t a cap →
    Calls Try.prog 28 #[tV t a cap] w fun e w' => e = .returned (.bool (tknown t)) ∧ Below w.heap.size w w' := by
  intro n
  induction n with
  | zero => intro t a cap w h; exact h.elim
  | succ n ih =>
    intro t a cap w h
    have hlen := h.len
    unfold maxLen at hlen
    unfold TrAt at h
    have Hh := Lib.hid h.2.2
    have Ht := Lib.hid (show tknown t = (decide (0 ≤ t.kind) && decide (t.kind ≤ 8) && tknowns t.parts) by cases t; rfl)
    clear h
    have hW := (Below.refl w.heap.size w).alloc (Nat.le_refl _) (.cells (tC t a cap) 27)
    unfold tV
    by_cases k0 : t.kind < 0
    · have e0 : decide (t.kind < 0) = true := decide_eq_true k0
      have Hr := Lib.hid (show tknown t = false by rw [Ht.out, decide_eq_false (by omega)]; rfl)
      go_enter Try.func28, Try.ntmps28
      go_wp2_with fail
      go_ret
      exact ⟨tr_ret_bool (by rw [Hr.out]), hW⟩
    · have e0 : decide (t.kind < 0) = false := decide_eq_false k0
      by_cases k8 : 8 < t.kind
      · have e1 : decide ((8 : Int) < t.kind) = true := decide_eq_true k8
        have Hr := Lib.hid (show tknown t = false by rw [Ht.out, decide_eq_false (show ¬ t.kind ≤ 8 by omega), Bool.and_false]; rfl)
        go_enter Try.func28, Try.ntmps28
        go_wp2_with fail
        go_ret
        exact ⟨tr_ret_bool (by rw [Hr.out]), hW⟩
      · have e1 : decide ((8 : Int) < t.kind) = false := decide_eq_false k8
        have Hk := Lib.hid (show tknown t = tknowns t.parts by rw [Ht.out, decide_eq_true (show 0 ≤ t.kind by omega), decide_eq_true (show t.kind ≤ 8 by omega)]; rfl)
        clear k0 k8
        go_enter Try.func28, Try.ntmps28
        go_wp2_with fail
        go_loopw [16] (fun i wr => ∃ k : Nat, k ≤ t.parts.length ∧ i = .int .i64 k ∧ tknowns (t.parts.take k) = true ∧ Below w.heap.size w wr) (fun i _ => t.parts.length - (intOf i).toNat)
        case atStart => exact ⟨0, by omega, rfl, rfl, hW⟩
        case round =>
          clear hW
          obtain ⟨k, hk, rfl, hks, hW⟩ := hrel
          have Hks := Lib.hid hks
          clear hks
          by_cases hlt : k < t.parts.length
          · obtain ⟨b, o, rfl, hbl, hx⟩ := Hh.out (by omega)
            obtain ⟨a', cap', h9, hr⟩ := hx k hlt
            replace h9 := h9.below hW hbl
            replace hr := TrAt.below hW _ _ _ _ hr
            have Hs := Lib.hid (tknowns_take t.parts k hlt)
            have Hn := Lib.hid (tknowns_all t.parts k hlt)
            obtain ⟨c0, c1, c2, c3, c4, c5, c6, c7, c8⟩ := h9
            clear hx
            generalize t.parts[k] = x at *
            go_wp2_with fail
            refine (ih x a' cap' _ (TrAt.below ((Below.refl wr.heap.size wr).alloc (Nat.le_refl _) _) _ _ _ _ hr)).mono ?_
            rintro e w2 ⟨he, b2⟩
            replace hW := (hW.alloc hW.size (.cells (tC x a' cap') 27)).trans (b2.mono (hW.alloc hW.size _).size)
            clear b2 hr c0 c1 c2 c3 c4 c5 c6 c7 c8
            cases hkx : tknown x
            · rw [hkx] at he
              subst he
              have Hr := Lib.hid (show tknown t = false by rw [Hk.out]; exact Hn.out hkx)
              clear hkx
              go_wp2_with fail
              go_ret
              exact ⟨tr_ret_bool (by rw [Hr.out]), hW⟩
            · rw [hkx] at he
              subst he
              have Hr := Lib.hid (show tknowns (t.parts.take (k + 1)) = true by rw [Hs.out, Hks.out, hkx]; rfl)
              clear hkx
              go_wp2_with fail
              go_roundw
              case rel => exact ⟨k + 1, by omega, by go_num, Hr.out, hW⟩
              case measure => simp [intOf]; omega
          · obtain rfl : k = t.parts.length := by omega
            have Hr := Lib.hid (show tknown t = true by rw [Hk.out, ← Hks.out, List.take_length])
            go_wp2_with fail
            go_ret
            exact ⟨tr_ret_bool (by rw [Hr.out]), hW⟩
end Go.Proofs.Ytaekjcbgnlldoaa
