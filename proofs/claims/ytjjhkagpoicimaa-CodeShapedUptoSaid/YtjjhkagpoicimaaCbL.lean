/- inTurn. -/
import Derived.Test.YtjjhkagpoicimaaCbK
import Derived.Deep.RegionHeld3
namespace Go.Proofs.Ytjjhkagpoicimaa
open Go Go.RowKit

theorem Sta.offNew {B p : Nat} {w : World} {l : List Inn} {g : Int} {k : Nat} {bk : Bool} {iv tv x : Value} {ts : List CTk} {us jvs : List Value} (h : Sta B p w l g k bk iv tv ts us jvs x) {y : Nat} (hy : w.heap.size ≤ y) : OffT p iv tv (x :: jvs) y :=
  ⟨⟨fun e => by have := h.bld.blk.lt; omega, fun e => by have := co_own_lt h.bld.io _ e; omega, fun e => by have := co_own_lt h.bld.«to» _ e; omega⟩, fun jv hm e => by have := (h.jb jv hm y e).2; omega⟩
set_option linter.unusedSimpArgs false in
set_option maxRecDepth 100000 in
set_option maxHeartbeats 4000000 in
theorem inturn_any {B p : Nat} {l : List Inn} {g : Int} {k : Nat} {bk : Bool} {iv tv : Value} {ts : List CTk} {us jvs : List Value} (ds : List Nd) (a : Option Addr) (cap : Nat) (w : World) (h : Sta B p w l g k bk iv tv ts us jvs nilS) (hv : NdRw (OffT p iv tv (nilS :: jvs)) w ds a cap) (hus : us.length ≤ 4000000) :
    Calls Try.prog 50 #[ptr p, .slice a ds.length cap] w fun e w' => e = .returned (.tuple #[]) ∧ (∃ iv' tv' us' jvs', Sta B p w' l g k bk iv' tv' (coTurn ds ++ ts) us' jvs' nilS ∧ us'.length ≤ us.length + 2) ∧ Below B w w' := by
  have hmf : ∀ (fn : Fn) (first cap : Array Value) (w : World), (Instr.makeFunc fn first cap).run Try.prog w = .ok (.func fn first cap) w := fun _ _ _ _ => rfl
  have hAa := ((Below.refl w.heap.size w).alloc (Nat.le_refl _) (.cells #[ptr p] 98)).alloc (by simp) (.cells #[.slice a ds.length cap] 68)
  have hb0 := ((Boxed.new w 98 (ptr p)).alloc (.cells #[.slice a ds.length cap] 68)).cell
  have hb1 := (Boxed.new (w.alloc (.cells #[ptr p] 98)) 68 (.slice a ds.length cap)).cell
  rw [World.size_alloc] at hb1
  have hsz : ((w.alloc (.cells #[ptr p] 98)).alloc (.cells #[.slice a ds.length cap] 68)).heap.size = w.heap.size + 2 := by simp
  generalize hW1 : (w.alloc (.cells #[ptr p] 98)).alloc (.cells #[.slice a ds.length cap] 68) = W1 at *
  have hS1 := h.below hAa
  have hlow1 := (CStep.of_below (p := p) (iv := iv) (tv := tv) hAa).low h.bld
  cases ds with
  | nil =>
    subst hW1
    have Hf := Lib.hid (And.intro hS1 hlow1)
    clear h hv hAa hS1 hlow1
    go_enter Try.func50, Try.ntmps50
    go_wp2_with fail
    go_end0
    exact ⟨rfl, ⟨_, _, _, _, Hf.out.1, by omega⟩, Hf.out.2⟩
  | cons d ds =>
    have hlp : (0 : Int) < ((d :: ds).length : Int) := by rw [List.length_cons]; omega
    obtain ⟨n, hn⟩ : ∃ n, (d :: ds).length = n := ⟨_, rfl⟩
    have hv1 := hv.below hAa
    obtain ⟨b, o, rfl, hFb, hbl, hx⟩ := hv1.2.2 (by simp)
    obtain ⟨u, hu, hnd⟩ := hx 0 (by simp)
    have hu' : W1.cell? ⟨b, o, none⟩ = some u := hu
    have hsh : (∃ T q, u = .iface T q) ∨ u = .nilIface := hnd.elim fun _ h => nd_shape h
    have hoff0 := (h.offNew (y := w.heap.size) (Nat.le_refl _)).1
    have hoff1 := (h.offNew (y := w.heap.size + 1) (by omega)).1
    have hoff2 := hFb.1
    have ht2 : TkAt B p (OffT p iv tv (nilS :: jvs)) W1 (.turn ds) (Value.func (.func 54) #[] #[ptr w.heap.size, ptr (w.heap.size + 1)]) nilS :=
      ⟨rfl, _, _, _, _, d, rfl, ⟨h.offNew (Nat.le_refl _), by omega, hb0⟩, ⟨h.offNew (by omega), by omega, hb1⟩, hv1⟩
    have Hh := Lib.hid hS1
    have Hnd := Lib.hid hnd
    have Ht2 := Lib.hid ht2
    have Hlow := Lib.hid hlow1
    have Hoff0 := Lib.hid hoff0
    have Hoff1 := Lib.hid hoff1
    have Hoff2 := Lib.hid hoff2
    clear h hv hv1 hx hnd hS1 ht2 hlow1 hoff0 hoff1 hoff2 hFb
    rw [hn] at hb1 hlp hW1
    rw [hn]
    have hall : W1.cell? ⟨w.heap.size, 0, none⟩ = some (ptr p) ∧ W1.cell? ⟨w.heap.size + 1, 0, none⟩ = some (.slice (some ⟨b, o, none⟩) n cap) ∧ W1.cell? ⟨b, o, none⟩ = some u ∧ True := ⟨hb0, hb1, hu', trivial⟩
    clear hb0 hb1 hu hu'
    go_enter Try.func50, Try.ntmps50
    have hcell := hall.2.1
    go_upto_region 2 with fail
    clear hcell
    have hmix : Try.prog.follows .mixedOrders = true := by kernel_rfl
    obtain ⟨i0, i1, i2, _⟩ := hall
    have hoff0 := Hoff0.out
    have hoff1 := Hoff1.out
    have hoff2 := Hoff2.out
    clear hsz hAa hbl Hoff0 Hoff1 Hoff2
    rcases hsh with ⟨T, q, rfl⟩ | rfl
    · have hN := next_ahead Hh.out Hnd.out Ht2.out ⟨_, _, _, rfl⟩ hus
      have hS0 : ∀ W' : World, W' = W1 ∨ Below W1.heap.size W1 W' → (fun W' : World => W'.cell? ⟨w.heap.size, 0, none⟩ = some (ptr p) ∧ W'.cell? ⟨w.heap.size + 1, 0, none⟩ = some (.slice (some ⟨b, o, none⟩) n cap) ∧ W'.cell? ⟨b, o, none⟩ = some (.iface T q) ∧ True) W' := fun W' hW => by
        rcases hW with rfl | hW
        · exact ⟨i0, i1, i2, trivial⟩
        · exact ⟨(hW.cell (World.block_lt_of_cell? _ _ i0)).trans i0, (hW.cell (World.block_lt_of_cell? _ _ i1)).trans i1, (hW.cell (World.block_lt_of_cell? _ _ i2)).trans i2, trivial⟩
      refine wp_region_held_drew (S := fun W' : World => W'.cell? ⟨w.heap.size, 0, none⟩ = some (ptr p) ∧ W'.cell? ⟨w.heap.size + 1, 0, none⟩ = some (.slice (some ⟨b, o, none⟩) n cap) ∧ W'.cell? ⟨b, o, none⟩ = some (.iface T q) ∧ True) hmix (hS0 _ (.inr (Below.drew (Below.refl _ _)))) (fun hHeld => ?_)
      refine wpAnyH_take (i := 0) (v := ?_) rfl (by kernel_rfl) (by kernel_rfl) (by kernel_rfl) (fun _ _ _ h => h) (Or.inl ⟨by rfl, ?_⟩) (by assumption) ?_
      rotate_left
      · intro W' hSw; obtain ⟨c0, c1, c2, _⟩ := hSw; go_simp; try with_reducible rfl
      try simp only [Act.put, List.setIfInBounds_toArray, List.set_cons_zero, List.set_cons_succ]
      refine wpAnyH_take (i := 1) (v := ?_) rfl (by kernel_rfl) (by kernel_rfl) (by kernel_rfl) (fun _ _ _ h => h) (Or.inl ⟨by rfl, ?_⟩) (by assumption) ?_
      rotate_left
      · intro W' hSw; obtain ⟨c0, c1, c2, _⟩ := hSw; go_simp; try with_reducible rfl
      try simp only [Act.put, List.setIfInBounds_toArray, List.set_cons_zero, List.set_cons_succ]
      refine wpAnyH_take (i := 2) (v := ?_) rfl (by kernel_rfl) (by kernel_rfl) (by kernel_rfl) (fun _ _ _ h => h) (Or.inl ⟨by rfl, ?_⟩) (by assumption) ?_
      rotate_left
      · intro W' hSw; obtain ⟨c0, c1, c2, _⟩ := hSw; go_simp; try with_reducible rfl
      try simp only [Act.put, List.setIfInBounds_toArray, List.set_cons_zero, List.set_cons_succ]
      refine wpAnyH_take (i := 3) (v := ?_) rfl (by kernel_rfl) (by kernel_rfl) (by kernel_rfl) (fun _ _ _ h => h) (Or.inl ⟨by rfl, ?_⟩) (by assumption) ?_
      rotate_left
      · intro W' hSw; obtain ⟨c0, c1, c2, _⟩ := hSw; go_simp; try with_reducible rfl
      try simp only [Act.put, List.setIfInBounds_toArray, List.set_cons_zero, List.set_cons_succ]
      refine wpAnyH_take (i := 4) (v := ?_) rfl (by kernel_rfl) (by kernel_rfl) (by kernel_rfl) (fun _ _ _ h => h) (Or.inl ⟨by rfl, ?_⟩) (by assumption) ?_
      rotate_left
      · intro W' hSw; obtain ⟨c0, c1, c2, _⟩ := hSw; go_simp; try with_reducible rfl
      try simp only [Act.put, List.setIfInBounds_toArray, List.set_cons_zero, List.set_cons_succ]
      refine wpAnyH_take (i := 6) (v := ?_) rfl (by kernel_rfl) (by kernel_rfl) (by kernel_rfl) (fun _ _ _ h => h) (Or.inl ⟨by rfl, ?_⟩) (by assumption) ?_
      rotate_left
      · intro W' hSw; obtain ⟨c0, c1, c2, _⟩ := hSw; go_simp; try with_reducible rfl
      try simp only [Act.put, List.setIfInBounds_toArray, List.set_cons_zero, List.set_cons_succ]
      refine wpAnyH_ready (rs := [5]) (by kernel_rfl) (by simp) ?_
      refine AllReadyH.cons rfl (fun K hK => ?_) AllReadyH.nil
      go_simp
      go_wp2_with (go_at_call 35; refine (laying_any _ _ _ (.inl ⟨_, _, rfl⟩)).mono ?_; rintro e w4 ⟨rfl, rfl⟩)
      refine hK.out _ _ (hS0 _ (.inr (Below.alloc (Below.alloc (Below.drew (Below.refl _ _)) (Nat.le_refl _) _) (by simp) _))) (fun hHeld2 => ?_)
      clear hK K hHeld
      try simp only [Act.put, List.setIfInBounds_toArray, List.set_cons_zero, List.set_cons_succ]
      refine wpAnyH_ready (rs := [7]) (by kernel_rfl) (by simp) ?_
      refine AllReadyH.cons rfl (fun K hK => ?_) AllReadyH.nil
      go_simp
      refine hK.out _ _ (hS0 _ (.inr (Below.alloc (Below.alloc (Below.alloc (Below.drew (Below.refl _ _)) (Nat.le_refl _) _) (by simp) _) (by simp; omega) _))) (fun hHeld3 => ?_)
      clear hK K hHeld2
      try simp only [Act.put, List.setIfInBounds_toArray, List.set_cons_zero, List.set_cons_succ]
      refine wpAnyH_ready (rs := [8]) (by kernel_rfl) (by simp) ?_
      refine AllReadyH.cons rfl (fun K hK => ?_) AllReadyH.nil
      go_simp
      go_wp2_with (go_at_call 34; refine hN.mono ?_; rintro e w6 ⟨rfl, hend, hlow, hcells⟩)
      refine hK.out _ _ ⟨(hcells _ _ (World.block_lt_of_cell? _ _ i0) hoff0).trans i0, (hcells _ _ (World.block_lt_of_cell? _ _ i1) hoff1).trans i1, (hcells _ _ (World.block_lt_of_cell? _ _ i2) hoff2).trans i2, trivial⟩ (fun hHeld4 => ?_)
      clear hK K hHeld3 hHeld4
      refine wpAnyH_done (by kernel_rfl) ?_ _
      go_end0
      obtain ⟨tv7, us7, jvs7, h7, h8⟩ := hend
      exact ⟨rfl, ⟨_, _, _, _, h7, by omega⟩, Hlow.out.trans hlow⟩
    · have hN := next_ahead Hh.out Hnd.out Ht2.out ⟨_, _, _, rfl⟩ hus
      have hS0 : ∀ W' : World, W' = W1 ∨ Below W1.heap.size W1 W' → (fun W' : World => W'.cell? ⟨w.heap.size, 0, none⟩ = some (ptr p) ∧ W'.cell? ⟨w.heap.size + 1, 0, none⟩ = some (.slice (some ⟨b, o, none⟩) n cap) ∧ W'.cell? ⟨b, o, none⟩ = some (.nilIface) ∧ True) W' := fun W' hW => by
        rcases hW with rfl | hW
        · exact ⟨i0, i1, i2, trivial⟩
        · exact ⟨(hW.cell (World.block_lt_of_cell? _ _ i0)).trans i0, (hW.cell (World.block_lt_of_cell? _ _ i1)).trans i1, (hW.cell (World.block_lt_of_cell? _ _ i2)).trans i2, trivial⟩
      refine wp_region_held_drew (S := fun W' : World => W'.cell? ⟨w.heap.size, 0, none⟩ = some (ptr p) ∧ W'.cell? ⟨w.heap.size + 1, 0, none⟩ = some (.slice (some ⟨b, o, none⟩) n cap) ∧ W'.cell? ⟨b, o, none⟩ = some (.nilIface) ∧ True) hmix (hS0 _ (.inr (Below.drew (Below.refl _ _)))) (fun hHeld => ?_)
      refine wpAnyH_take (i := 0) (v := ?_) rfl (by kernel_rfl) (by kernel_rfl) (by kernel_rfl) (fun _ _ _ h => h) (Or.inl ⟨by rfl, ?_⟩) (by assumption) ?_
      rotate_left
      · intro W' hSw; obtain ⟨c0, c1, c2, _⟩ := hSw; go_simp; try with_reducible rfl
      try simp only [Act.put, List.setIfInBounds_toArray, List.set_cons_zero, List.set_cons_succ]
      refine wpAnyH_take (i := 1) (v := ?_) rfl (by kernel_rfl) (by kernel_rfl) (by kernel_rfl) (fun _ _ _ h => h) (Or.inl ⟨by rfl, ?_⟩) (by assumption) ?_
      rotate_left
      · intro W' hSw; obtain ⟨c0, c1, c2, _⟩ := hSw; go_simp; try with_reducible rfl
      try simp only [Act.put, List.setIfInBounds_toArray, List.set_cons_zero, List.set_cons_succ]
      refine wpAnyH_take (i := 2) (v := ?_) rfl (by kernel_rfl) (by kernel_rfl) (by kernel_rfl) (fun _ _ _ h => h) (Or.inl ⟨by rfl, ?_⟩) (by assumption) ?_
      rotate_left
      · intro W' hSw; obtain ⟨c0, c1, c2, _⟩ := hSw; go_simp; try with_reducible rfl
      try simp only [Act.put, List.setIfInBounds_toArray, List.set_cons_zero, List.set_cons_succ]
      refine wpAnyH_take (i := 3) (v := ?_) rfl (by kernel_rfl) (by kernel_rfl) (by kernel_rfl) (fun _ _ _ h => h) (Or.inl ⟨by rfl, ?_⟩) (by assumption) ?_
      rotate_left
      · intro W' hSw; obtain ⟨c0, c1, c2, _⟩ := hSw; go_simp; try with_reducible rfl
      try simp only [Act.put, List.setIfInBounds_toArray, List.set_cons_zero, List.set_cons_succ]
      refine wpAnyH_take (i := 4) (v := ?_) rfl (by kernel_rfl) (by kernel_rfl) (by kernel_rfl) (fun _ _ _ h => h) (Or.inl ⟨by rfl, ?_⟩) (by assumption) ?_
      rotate_left
      · intro W' hSw; obtain ⟨c0, c1, c2, _⟩ := hSw; go_simp; try with_reducible rfl
      try simp only [Act.put, List.setIfInBounds_toArray, List.set_cons_zero, List.set_cons_succ]
      refine wpAnyH_take (i := 6) (v := ?_) rfl (by kernel_rfl) (by kernel_rfl) (by kernel_rfl) (fun _ _ _ h => h) (Or.inl ⟨by rfl, ?_⟩) (by assumption) ?_
      rotate_left
      · intro W' hSw; obtain ⟨c0, c1, c2, _⟩ := hSw; go_simp; try with_reducible rfl
      try simp only [Act.put, List.setIfInBounds_toArray, List.set_cons_zero, List.set_cons_succ]
      refine wpAnyH_ready (rs := [5]) (by kernel_rfl) (by simp) ?_
      refine AllReadyH.cons rfl (fun K hK => ?_) AllReadyH.nil
      go_simp
      go_wp2_with (go_at_call 35; refine (laying_any _ _ _ (.inr rfl)).mono ?_; rintro e w4 ⟨rfl, rfl⟩)
      refine hK.out _ _ (hS0 _ (.inr (Below.alloc (Below.alloc (Below.drew (Below.refl _ _)) (Nat.le_refl _) _) (by simp) _))) (fun hHeld2 => ?_)
      clear hK K hHeld
      try simp only [Act.put, List.setIfInBounds_toArray, List.set_cons_zero, List.set_cons_succ]
      refine wpAnyH_ready (rs := [7]) (by kernel_rfl) (by simp) ?_
      refine AllReadyH.cons rfl (fun K hK => ?_) AllReadyH.nil
      go_simp
      refine hK.out _ _ (hS0 _ (.inr (Below.alloc (Below.alloc (Below.alloc (Below.drew (Below.refl _ _)) (Nat.le_refl _) _) (by simp) _) (by simp; omega) _))) (fun hHeld3 => ?_)
      clear hK K hHeld2
      try simp only [Act.put, List.setIfInBounds_toArray, List.set_cons_zero, List.set_cons_succ]
      refine wpAnyH_ready (rs := [8]) (by kernel_rfl) (by simp) ?_
      refine AllReadyH.cons rfl (fun K hK => ?_) AllReadyH.nil
      go_simp
      go_wp2_with (go_at_call 34; refine hN.mono ?_; rintro e w6 ⟨rfl, hend, hlow, hcells⟩)
      refine hK.out _ _ ⟨(hcells _ _ (World.block_lt_of_cell? _ _ i0) hoff0).trans i0, (hcells _ _ (World.block_lt_of_cell? _ _ i1) hoff1).trans i1, (hcells _ _ (World.block_lt_of_cell? _ _ i2) hoff2).trans i2, trivial⟩ (fun hHeld4 => ?_)
      clear hK K hHeld3 hHeld4
      refine wpAnyH_done (by kernel_rfl) ?_ _
      go_end0
      obtain ⟨tv7, us7, jvs7, h7, h8⟩ := hend
      exact ⟨rfl, ⟨_, _, _, _, h7, by omega⟩, Hlow.out.trans hlow⟩
end Go.Proofs.Ytjjhkagpoicimaa
