/- The fixed fact that each law of layer 3 opens with. -/
import Derived.Test.YtaekjcbgnlldoaaNdAsk
import Derived.Test.YtaekjcbgnlldoaaNdRight
import Derived.Test.YtaekjcbgnlldoaaNdJoin
import Derived.Test.YtaekjcbgnlldoaaOctWalkB
namespace Go.Proofs.Ytaekjcbgnlldoaa
open Go Go.RowKit

theorem ndrw_of_blk {F : Nat → Prop} {W : World} {b : Nat} {vs : List Value} {T : TypeId} {l : List Nd} (h : Blk W b vs.toArray T) (hl : vs.length = l.length) (hm : l.length ≤ maxLen) (hd : ∀ i (h1 : i < l.length) (h2 : i < vs.length), NdX F W l[i] vs[i]) (hF : F b) : NdRw F W l (some ⟨b, 0, none⟩) l.length :=
  ⟨Nat.le_refl _, hm, fun _ => ⟨b, 0, rfl, hF, h.lt, fun i hi => ⟨vs[i]'(by omega), by rw [Nat.zero_add, h.cell i]; simp, hd i hi (by omega)⟩⟩⟩
theorem ndx_one (s : OSet) (w : World) : NdX (fun _ => True) w (.one s) (.iface 49 (.agg #[.int .u64 (ow s 0), .int .u64 (ow s 1), .int .u64 (ow s 2), .int .u64 (ow s 3)])) := ⟨1, rfl⟩
theorem awake_right (s : OSet) : nrightB (.cat [.one s, .one s, .start]) = true := rfl
/-- The document's example, as parts. -/
abbrev awL (s : OSet) : List Nd := [.one s, .empty, .cat [.one s, .start]]
set_option maxRecDepth 100000 in
theorem awake_parts (s : OSet) (w : World) (W : World) (hW : ((w.alloc (.cells #[.int .u64 (ow s 0), .int .u64 (ow s 1), .int .u64 (ow s 2), .int .u64 (ow s 3)] 49)).alloc (.cells #[.iface 49 (.agg #[.int .u64 (ow s 0), .int .u64 (ow s 1), .int .u64 (ow s 2), .int .u64 (ow s 3)]), .iface 53 (.agg #[])] 31)).alloc
      (.cells #[.iface 49 (.agg #[.int .u64 (ow s 0), .int .u64 (ow s 1), .int .u64 (ow s 2), .int .u64 (ow s 3)]), .iface 39 (.agg #[]), .iface 51 (.agg #[.slice (some ⟨w.heap.size + 1, 0, none⟩) 2 2])] 31) = W) :
    NdRw (fun _ => True) W (awL s) (some ⟨w.heap.size + 1 + 1, 0, none⟩) 3 := by
  have h1 := Blk.new ((w.alloc (.cells #[.int .u64 (ow s 0), .int .u64 (ow s 1), .int .u64 (ow s 2), .int .u64 (ow s 3)] 49)).alloc (.cells #[.iface 49 (.agg #[.int .u64 (ow s 0), .int .u64 (ow s 1), .int .u64 (ow s 2), .int .u64 (ow s 3)]), .iface 53 (.agg #[])] 31)) #[.iface 49 (.agg #[.int .u64 (ow s 0), .int .u64 (ow s 1), .int .u64 (ow s 2), .int .u64 (ow s 3)]), .iface 39 (.agg #[]), .iface 51 (.agg #[.slice (some ⟨w.heap.size + 1, 0, none⟩) 2 2])] 31 (w.heap.size + 1 + 1) (by simp)
  have h2 := (Blk.new (w.alloc (.cells #[.int .u64 (ow s 0), .int .u64 (ow s 1), .int .u64 (ow s 2), .int .u64 (ow s 3)] 49)) #[.iface 49 (.agg #[.int .u64 (ow s 0), .int .u64 (ow s 1), .int .u64 (ow s 2), .int .u64 (ow s 3)]), .iface 53 (.agg #[])] 31 (w.heap.size + 1) (by simp)).below ((Below.refl _ _).alloc (Nat.le_refl _) (.cells #[.iface 49 (.agg #[.int .u64 (ow s 0), .int .u64 (ow s 1), .int .u64 (ow s 2), .int .u64 (ow s 3)]), .iface 39 (.agg #[]), .iface 51 (.agg #[.slice (some ⟨w.heap.size + 1, 0, none⟩) 2 2])] 31)) (by simp)
  rw [hW] at h1 h2
  have h3 : NdRw (fun _ => True) W [.one s, .start] (some ⟨w.heap.size + 1, 0, none⟩) 2 := ndrw_of_blk (vs := [.iface 49 (.agg #[.int .u64 (ow s 0), .int .u64 (ow s 1), .int .u64 (ow s 2), .int .u64 (ow s 3)]), .iface 53 (.agg #[])]) h2 rfl (show 2 ≤ maxLen by decide) (fun i g1 g2 => by
    match i, g1, g2 with
    | 0, _, _ => exact ndx_one s W
    | 1, _, _ => exact ⟨1, rfl⟩) trivial
  exact ndrw_of_blk (l := awL s) (vs := [.iface 49 (.agg #[.int .u64 (ow s 0), .int .u64 (ow s 1), .int .u64 (ow s 2), .int .u64 (ow s 3)]), .iface 39 (.agg #[]), .iface 51 (.agg #[.slice (some ⟨w.heap.size + 1, 0, none⟩) 2 2])]) h1 rfl (show 3 ≤ maxLen by decide) (fun i g1 g2 => by
    match i, g1, g2 with
    | 0, _, _ => exact ndx_one s W
    | 1, _, _ => exact ⟨1, .inl rfl⟩
    | 2, _, _ => exact ndx_cat h3) trivial
set_option linter.unusedSimpArgs false in
set_option maxRecDepth 100000 in
set_option maxHeartbeats 4000000 in
theorem awake_any (w : World) : Calls Try.prog 6 #[] w fun e w' => e = .returned (.bool true) ∧ Below w.heap.size w w' := by
  have hO := fun (w' : World) (b : Nat) (hb : b < w'.heap.size) (hc : w'.cell? ⟨b, 0, none⟩ = some (.int .u8 97)) => of_any [97] b 0 1 w' hb (by decide) (fun i hi => by
    obtain rfl : i = 0 := by simp at hi; exact hi
    exact hc) (fun i => by
    match i with
    | 0 => decide
    | i + 1 => simp)
  go_enter Try.func6, Try.ntmps6
  have hB1 := (Below.refl w.heap.size w).alloc (Nat.le_refl _) (.cells #[.int .u8 97] 5)
  have hC1 := hO (w.alloc (.cells #[.int .u8 97] 5)) w.heap.size (by simp) ((Blk.new w #[.int .u8 97] 5 _ rfl).cell 0)
  generalize ofl [97] = s at hC1
  go_wp2_with (go_at_call 26; refine hC1.mono ?_; rintro e w1 ⟨rfl, b1⟩)
  clear hO hC1
  replace hB1 := hB1.trans (b1.mono hB1.size)
  obtain ⟨W, hW⟩ : ∃ W, ((w1.alloc (.cells #[.int .u64 (ow s 0), .int .u64 (ow s 1), .int .u64 (ow s 2), .int .u64 (ow s 3)] 49)).alloc (.cells #[.iface 49 (.agg #[.int .u64 (ow s 0), .int .u64 (ow s 1), .int .u64 (ow s 2), .int .u64 (ow s 3)]), .iface 53 (.agg #[])] 31)).alloc
      (.cells #[.iface 49 (.agg #[.int .u64 (ow s 0), .int .u64 (ow s 1), .int .u64 (ow s 2), .int .u64 (ow s 3)]), .iface 39 (.agg #[]), .iface 51 (.agg #[.slice (some ⟨w1.heap.size + 1, 0, none⟩) 2 2])] 31) = W := ⟨_, rfl⟩
  have hJ := pjoin_any (awL s) _ _ W (awake_parts s w1 W hW) (show 3 ≤ 4000000 by decide)
  have hBW : Below w.heap.size w W := by rw [← hW]; exact ((hB1.alloc hB1.size _).alloc (by simp; have := hB1.size; omega) _).alloc (by simp; have := hB1.size; omega) _
  rw [hW]
  clear b1 hW hB1
  refine hJ.mono ?_
  rintro e w2 ⟨v, rfl, hd, b2⟩
  obtain ⟨n, hd'⟩ := hd
  cases n with
  | zero => exact hd'.elim
  | succ n =>
    obtain ⟨a3, c3, rfl, hr⟩ := show ∃ a cap, v = .iface 51 (.agg #[.slice a 3 cap]) ∧ NdRow (fun k => k < w2.heap.size) n w2 [.one s, .one s, .start] a cap from hd'
    have hr2 : NdRw (fun k => k < w2.heap.size) w2 [.one s, .one s, .start] a3 c3 := NdRw.of (n := n) hr
    have hx : NdX (fun k => k < w2.heap.size) w2 (.cat [.one s, .one s, .start]) (.iface 51 (.agg #[.slice a3 3 c3])) := ndx_cat hr2
    replace hBW := hBW.trans (b2.mono hBW.size)
    have hA := (Below.refl w2.heap.size w2).alloc (Nat.le_refl _) (.cells #[.slice a3 3 c3] 51)
    have hS := psize_any (.cat [.one s, .one s, .start]) _ _ (ndx_in (hx.below hA)) (show 4 ≤ 4000000 by decide)
    have hR := fun (w' : World) (hb : Below w2.heap.size w2 w') => pright_any (.cat [.one s, .one s, .start]) _ w' (ndx_in (hx.below hb)) (show 4 ≤ 4000000 by decide)
    rw [show nsize (.cat [.one s, .one s, .start]) = 4 from rfl] at hS
    rw [awake_right] at hR
    have hbk := (Blk.new w2 #[.slice a3 3 c3] 51 _ rfl)
    clear hx hr hr2 hd' b2
    go_wp2_with (first | (go_at_call 11; refine hS.mono ?_; rintro e w3 ⟨rfl, b3⟩; have hbk3 := (hbk.below b3 hbk.lt).cell 0; have hA3 := hA.trans (b3.mono hA.size)) | (go_at_call 9; refine (hR _ hA3).mono ?_; rintro e w4 ⟨rfl, b4⟩))
    go_ret
    exact ⟨rfl, hBW.trans ((hA3.trans (b4.mono hA3.size)).mono hBW.size)⟩
end Go.Proofs.Ytaekjcbgnlldoaa
