/- The proof's texts CbM: what the claim reaches of them. -/
import Derived.Test.YtihfenkphhnbcaaCp16
namespace Go.Proofs.Ytihfenkphhnbcaa
open Go Go.RowKit
structure NumB (w wx : World) (z : Nat) (n : Int) : Prop where
  new : w.heap.size ≤ z
  lt : z < wx.heap.size
  cell : wx.cell? ⟨z, 0, none⟩ = some (.int .i64 n)
theorem NumB.below {w wx wy : World} {z : Nat} {n : Int} (h : NumB w wx z n) (hb : Below wx.heap.size wx wy) : NumB w wy z n :=
  ⟨h.new, Nat.lt_of_lt_of_le h.lt hb.size, (hb.cell (p := ⟨z, 0, none⟩) h.lt).trans h.cell⟩
structure TwoB (w wx : World) (z y : Nat) (m n : Int) : Prop where
  low : Below w.heap.size w wx
  a : NumB w wx z m
  b : NumB w wx y n
theorem num_lt {w wx : World} {z : Nat} {n : Int} (hz : w.heap.size ≤ z) (h : wx.cell? ⟨z, 0, none⟩ = some (.int .i64 n)) : NumB w wx z n := ⟨hz, World.block_lt_of_cell? wx _ h, h⟩
theorem two_made (W : World) (T : TypeId) (m q : Int) :
    TwoB W ((W.alloc (.cells #[.int .i64 m] T)).alloc (.cells #[.int .i64 q] T)).drew W.heap.size (W.heap.size + 1) m q ∧ TwoB W ((W.alloc (.cells #[.int .i64 q] T)).alloc (.cells #[.int .i64 m] T)).drew (W.heap.size + 1) W.heap.size m q := by
  have h : ∀ (m q : Int), Below W.heap.size W ((W.alloc (.cells #[.int .i64 m] T)).alloc (.cells #[.int .i64 q] T)).drew ∧ NumB W ((W.alloc (.cells #[.int .i64 m] T)).alloc (.cells #[.int .i64 q] T)).drew W.heap.size m ∧ NumB W ((W.alloc (.cells #[.int .i64 m] T)).alloc (.cells #[.int .i64 q] T)).drew (W.heap.size + 1) q := fun m q => by
    have hA := ((Boxed.new W T (.int .i64 m)).alloc (.cells #[.int .i64 q] T)).cell
    have hB := (Boxed.new (W.alloc (.cells #[.int .i64 m] T)) T (.int .i64 q)).cell
    rw [World.size_alloc] at hB
    exact ⟨Below.drew (((Below.refl _ W).alloc (Nat.le_refl _) _).alloc (by rw [World.size_alloc]; exact Nat.le_succ _) _), num_lt (Nat.le_refl _) hA, num_lt (Nat.le_succ _) hB⟩
  exact ⟨⟨(h m q).1, (h m q).2.1, (h m q).2.2⟩, ⟨(h q m).1, (h q m).2.2, (h q m).2.1⟩⟩
set_option linter.unusedVariables false in
set_option linter.unusedSimpArgs false in
set_option maxRecDepth 100000 in
set_option maxHeartbeats 4000000 in
theorem repeat_more {B p : Nat} {l : List Inn} {g : Int} {k : Nat} {bk : Bool} {iv tv : Value} {ts : List CTk} {us jvs : List Value} (d : Nd) (T : TypeId) (q : Value) (mn mx : Int) (w : World) (h : Sta B p w l g k bk iv tv ts us jvs nilS) (hd : NdX (OffT p iv tv (nilS :: jvs)) w d (.iface T q)) (hus : us.length ≤ 4000000) (hl : l.length ≤ 3000) (hk : k ≤ l.length) (hm : mn ≠ 0) :
    Calls Try.prog 52 #[ptr p, .agg #[.iface T q, .int .i64 mn, .int .i64 mx]] w fun e w' => e = .returned (.tuple #[]) ∧ (∃ iv' tv' us' jvs', Sta B p w' (l) g (k) bk iv' tv' (.lay d :: .rep mn mx (l.length) (k) :: ts) us' jvs' nilS ∧ us'.length ≤ us.length + 2) ∧ Below B w w' := by
  have hmf : ∀ (fn : Fn) (first cap : Array Value) (w : World), (Instr.makeFunc fn first cap).run Try.prog w = .ok (.func fn first cap) w := fun _ _ _ _ => rfl
  have hAa := ((Below.refl w.heap.size w).alloc (Nat.le_refl _) (.cells #[ptr p] 98)).alloc (by simp) (.cells #[.iface T q, .int .i64 mn, .int .i64 mx] 57)
  have hb0 := ((Boxed.new w 98 (ptr p)).alloc (.cells #[.iface T q, .int .i64 mn, .int .i64 mx] 57)).cell
  have hb1 := Blk.new (w.alloc (.cells #[ptr p] 98)) #[.iface T q, .int .i64 mn, .int .i64 mx] 57 (w.heap.size + 1) (by simp)
  have hsz : ((w.alloc (.cells #[ptr p] 98)).alloc (.cells #[.iface T q, .int .i64 mn, .int .i64 mx] 57)).heap.size = w.heap.size + 2 := by simp
  generalize hW1 : (w.alloc (.cells #[ptr p] 98)).alloc (.cells #[.iface T q, .int .i64 mn, .int .i64 mx] 57) = W1 at *
  have hS1 := h.below hAa
  have hlow1 := (CStep.of_below (p := p) (iv := iv) (tv := tv) hAa).low h.bld
  have hd1 := hd.below hAa
  have hbo0 := h.offNew (y := w.heap.size) (Nat.le_refl _)
  have hbo1 := h.offNew (y := w.heap.size + 1) (by omega)
  have x0 : W1.cell? ⟨w.heap.size + 1, 0, none⟩ = some (.iface T q) := (hb1.cell 0).trans rfl
  have x1 : W1.cell? ⟨w.heap.size + 1, 1, none⟩ = some (.int .i64 mn) := (hb1.cell 1).trans rfl
  have x2 : W1.cell? ⟨w.heap.size + 1, 2, none⟩ = some (.int .i64 mx) := (hb1.cell 2).trans rfl

  have Hbo0 := Lib.hid hbo0
  have Hbo1 := Lib.hid hbo1
  have X0 := Lib.hid x0
  have X1 := Lib.hid x1
  have X2 := Lib.hid x2
  have Hd2 := Lib.hid hd1
  have Hlow2 := Lib.hid hlow1
  have i0 : W1.cell? ⟨w.heap.size, 0, none⟩ = some (ptr p) := hb0
  have hmn : (mn == 0) = false := by simp [hm]
  clear h hd hAa hb0 hb1 hlow1 hd1 hbo0 hbo1 x0 x2
  have HS1 := Lib.hid hS1
  clear hS1
  go_enter Try.func52, Try.ntmps52
  go_upto_region 3 with fail

  clear hW1
  have hS2 := HS1.out
  generalize W1 = W2 at *
  clear hsz

  obtain ⟨ia, ic, rfl⟩ := co_form hS2.bld.io
  have hcs := hS2.bld.cells
  have p0 := hcs.c0
  have p2 := hcs.c2
  have hbw : w.heap.size < W2.heap.size := World.block_lt_of_cell? _ _ i0
  have hmix : Try.prog.follows .mixedOrders = true := by kernel_rfl
  have hpw := hS2.bld.blk.lt
  have HS2 := Lib.hid hS2
  clear hS2 hcs
  have hS0 : ∀ W' : World, W' = W2 ∨ Below W2.heap.size W2 W' → (fun W' : World => W'.cell? ⟨w.heap.size, 0, none⟩ = some (ptr p) ∧ W'.cell? ⟨p, 0, none⟩ = some (.slice ia l.length ic) ∧ W'.cell? ⟨p, 2, none⟩ = some (.int .i64 (k : Int)) ∧ True) W' := fun W' hW => by
    rcases hW with rfl | hW
    · exact ⟨i0, p0, p2, trivial⟩
    · exact ⟨(hW.cell hbw).trans i0, (hW.cell hpw).trans p0, (hW.cell hpw).trans p2, trivial⟩
  go_cut [4, 5] (fun s4 s5 wx => ∃ z y : Nat, s4 = ptr z ∧ s5 = ptr y ∧ TwoB W2 wx z y (l.length : Int) (k : Int))
  case first =>
    refine wp_region_held_drew (S := fun W' : World => W'.cell? ⟨w.heap.size, 0, none⟩ = some (ptr p) ∧ W'.cell? ⟨p, 0, none⟩ = some (.slice ia l.length ic) ∧ W'.cell? ⟨p, 2, none⟩ = some (.int .i64 (k : Int)) ∧ True) hmix (hS0 _ (.inr (Below.drew (Below.refl _ _)))) (fun hHeld => ?_)
    refine wpAnyH_take (i := 0) (v := ?_) rfl (by kernel_rfl) (by kernel_rfl) (by kernel_rfl) (fun _ _ _ h => h) (Or.inl ⟨by rfl, ?_⟩) (by assumption) ?_
    rotate_left
    · intro W' hSw; obtain ⟨c0, c1, c2, _⟩ := hSw; go_simp; try with_reducible rfl
    try simp only [Act.put, List.setIfInBounds_toArray, List.set_cons_zero, List.set_cons_succ]
    refine wpAnyH_take (i := 1) (v := ?_) rfl (by kernel_rfl) (by kernel_rfl) (by kernel_rfl) (fun _ _ _ h => h) (Or.inl ⟨by rfl, ?_⟩) (by assumption) ?_
    rotate_left
    · intro W' hSw; obtain ⟨c0, c1, c2, _⟩ := hSw; go_simp; try with_reducible rfl
    try simp only [Act.put, List.setIfInBounds_toArray, List.set_cons_zero, List.set_cons_succ]
    refine wpAnyH_take (i := 2) (v := ?_) rfl (by kernel_rfl) (by kernel_rfl) (by kernel_rfl) (fun _ _ _ h => h) (Or.inl ⟨by rfl, ?_⟩) (by assumption) ?_
    rotate_left
    · intro W' hSw; obtain ⟨c0, c1, c2, _⟩ := hSw; go_simp; try with_reducible rfl
    try simp only [Act.put, List.setIfInBounds_toArray, List.set_cons_zero, List.set_cons_succ]
    refine wpAnyH_take (i := 3) (v := ?_) rfl (by kernel_rfl) (by kernel_rfl) (by kernel_rfl) (fun _ _ _ h => h) (Or.inl ⟨by rfl, ?_⟩) (by assumption) ?_
    rotate_left
    · intro W' hSw; obtain ⟨c0, c1, c2, _⟩ := hSw; go_simp; try with_reducible rfl
    try simp only [Act.put, List.setIfInBounds_toArray, List.set_cons_zero, List.set_cons_succ]
    refine wpAnyH_take (i := 4) (v := ?_) rfl (by kernel_rfl) (by kernel_rfl) (by kernel_rfl) (fun _ _ _ h => h) (Or.inl ⟨by rfl, ?_⟩) (by assumption) ?_
    rotate_left
    · intro W' hSw; obtain ⟨c0, c1, c2, _⟩ := hSw; go_simp; try with_reducible rfl
    try simp only [Act.put, List.setIfInBounds_toArray, List.set_cons_zero, List.set_cons_succ]
    refine wpAnyH_take (i := 5) (v := ?_) rfl (by kernel_rfl) (by kernel_rfl) (by kernel_rfl) (fun _ _ _ h => h) (Or.inl ⟨by rfl, ?_⟩) (by assumption) ?_
    rotate_left
    · intro W' hSw; obtain ⟨c0, c1, c2, _⟩ := hSw; go_simp; try with_reducible rfl
    try simp only [Act.put, List.setIfInBounds_toArray, List.set_cons_zero, List.set_cons_succ]
    refine wpAnyH_take (i := 6) (v := ?_) rfl (by kernel_rfl) (by kernel_rfl) (by kernel_rfl) (fun _ _ _ h => h) (Or.inl ⟨by rfl, ?_⟩) (by assumption) ?_
    rotate_left
    · intro W' hSw; obtain ⟨c0, c1, c2, _⟩ := hSw; go_simp; try with_reducible rfl
    try simp only [Act.put, List.setIfInBounds_toArray, List.set_cons_zero, List.set_cons_succ]
    refine wpAnyH_take (i := 7) (v := ?_) rfl (by kernel_rfl) (by kernel_rfl) (by kernel_rfl) (fun _ _ _ h => h) (Or.inl ⟨by rfl, ?_⟩) (by assumption) ?_
    rotate_left
    · intro W' hSw; obtain ⟨c0, c1, c2, _⟩ := hSw; go_simp; try with_reducible rfl
    try simp only [Act.put, List.setIfInBounds_toArray, List.set_cons_zero, List.set_cons_succ]
    refine wpAnyH_take (i := 8) (v := ?_) rfl (by kernel_rfl) (by kernel_rfl) (by kernel_rfl) (fun _ _ _ h => h) (Or.inl ⟨by rfl, ?_⟩) (by assumption) ?_
    rotate_left
    · intro W' hSw; obtain ⟨c0, c1, c2, _⟩ := hSw; go_simp; try with_reducible rfl
    try simp only [Act.put, List.setIfInBounds_toArray, List.set_cons_zero, List.set_cons_succ]
    refine wpAnyH_take (i := 9) (v := ?_) rfl (by kernel_rfl) (by kernel_rfl) (by kernel_rfl) (fun _ _ _ h => h) (Or.inl ⟨by rfl, ?_⟩) (by assumption) ?_
    rotate_left
    · intro W' hSw; obtain ⟨c0, c1, c2, _⟩ := hSw; go_simp; try with_reducible rfl
    try simp only [Act.put, List.setIfInBounds_toArray, List.set_cons_zero, List.set_cons_succ]
    refine wpAnyH_take (i := 10) (v := ?_) rfl (by kernel_rfl) (by kernel_rfl) (by kernel_rfl) (fun _ _ _ h => h) (Or.inl ⟨by rfl, ?_⟩) (by assumption) ?_
    rotate_left
    · intro W' hSw; obtain ⟨c0, c1, c2, _⟩ := hSw; go_simp; try with_reducible rfl
    try simp only [Act.put, List.setIfInBounds_toArray, List.set_cons_zero, List.set_cons_succ]
    refine wpAnyH_ready (rs := [11, 12]) (by kernel_rfl) (by simp) ?_
    have hk0 := fun (W' : World) (h : Below W2.heap.size W2 W') => hS0 W' (.inr h)
    refine AllReadyH.cons rfl (fun K hK => ?_) ?_
    · go_simp
      refine hK.out _ _ (by first | exact hk0 _ (Below.drew (Below.alloc (Below.refl _ _) (Nat.le_refl _) _)) | exact hk0 _ (Below.drew (Below.alloc (Below.alloc (Below.refl _ _) (Nat.le_refl _) _) (by simp) _))) (fun hHeld2 => ?_)
      clear hK K hHeld
      try simp only [Act.put, List.setIfInBounds_toArray, List.set_cons_zero, List.set_cons_succ]
      refine wpAnyH_ready (rs := [12]) (by kernel_rfl) (by simp) ?_
      refine AllReadyH.cons rfl (fun K hK => ?_) AllReadyH.nil
      go_simp
      refine hK.out _ _ (by first | exact hk0 _ (Below.drew (Below.alloc (Below.refl _ _) (Nat.le_refl _) _)) | exact hk0 _ (Below.drew (Below.alloc (Below.alloc (Below.refl _ _) (Nat.le_refl _) _) (by simp) _))) (fun hHeld3 => ?_)
      clear hK K hHeld2
      try simp only [Act.put, List.setIfInBounds_toArray, List.set_cons_zero, List.set_cons_succ]
      refine wpAnyH_ready (rs := [13]) (by kernel_rfl) (by simp) ?_
      refine AllReadyH.cons rfl (fun K hK => ?_) AllReadyH.nil
      go_simp
      refine hK.out _ _ (by first | exact hk0 _ (Below.drew (Below.alloc (Below.refl _ _) (Nat.le_refl _) _)) | exact hk0 _ (Below.drew (Below.alloc (Below.alloc (Below.refl _ _) (Nat.le_refl _) _) (by simp) _))) (fun hHeld4 => ?_)
      clear hK K hHeld3
      try simp only [Act.put, List.setIfInBounds_toArray, List.set_cons_zero, List.set_cons_succ]
      refine wpAnyH_ready (rs := [14]) (by kernel_rfl) (by simp) ?_
      refine AllReadyH.cons rfl (fun K hK => ?_) AllReadyH.nil
      go_simp
      refine hK.out _ _ (by first | exact hk0 _ (Below.drew (Below.alloc (Below.refl _ _) (Nat.le_refl _) _)) | exact hk0 _ (Below.drew (Below.alloc (Below.alloc (Below.refl _ _) (Nat.le_refl _) _) (by simp) _))) (fun hHeld5 => ?_)
      clear hK K hHeld4 hHeld5
      try simp only [Act.put, List.setIfInBounds_toArray, List.set_cons_zero, List.set_cons_succ]
      refine wpAnyH_done (by kernel_rfl) ?_ _
      go_wp2_with fail
      go_meet
      first | exact ⟨_, _, rfl, rfl, (two_made W2 _ _ _).1⟩ | exact ⟨_, _, rfl, rfl, (two_made W2 _ _ _).2⟩
    refine AllReadyH.cons rfl (fun K hK => ?_) AllReadyH.nil
    · go_simp
      refine hK.out _ _ (by first | exact hk0 _ (Below.drew (Below.alloc (Below.refl _ _) (Nat.le_refl _) _)) | exact hk0 _ (Below.drew (Below.alloc (Below.alloc (Below.refl _ _) (Nat.le_refl _) _) (by simp) _))) (fun hHeld2 => ?_)
      clear hK K hHeld
      try simp only [Act.put, List.setIfInBounds_toArray, List.set_cons_zero, List.set_cons_succ]
      refine wpAnyH_ready (rs := [11]) (by kernel_rfl) (by simp) ?_
      refine AllReadyH.cons rfl (fun K hK => ?_) AllReadyH.nil
      go_simp
      refine hK.out _ _ (by first | exact hk0 _ (Below.drew (Below.alloc (Below.refl _ _) (Nat.le_refl _) _)) | exact hk0 _ (Below.drew (Below.alloc (Below.alloc (Below.refl _ _) (Nat.le_refl _) _) (by simp) _))) (fun hHeld3 => ?_)
      clear hK K hHeld2
      try simp only [Act.put, List.setIfInBounds_toArray, List.set_cons_zero, List.set_cons_succ]
      refine wpAnyH_ready (rs := [13]) (by kernel_rfl) (by simp) ?_
      refine AllReadyH.cons rfl (fun K hK => ?_) AllReadyH.nil
      go_simp
      refine hK.out _ _ (by first | exact hk0 _ (Below.drew (Below.alloc (Below.refl _ _) (Nat.le_refl _) _)) | exact hk0 _ (Below.drew (Below.alloc (Below.alloc (Below.refl _ _) (Nat.le_refl _) _) (by simp) _))) (fun hHeld4 => ?_)
      clear hK K hHeld3
      try simp only [Act.put, List.setIfInBounds_toArray, List.set_cons_zero, List.set_cons_succ]
      refine wpAnyH_ready (rs := [14]) (by kernel_rfl) (by simp) ?_
      refine AllReadyH.cons rfl (fun K hK => ?_) AllReadyH.nil
      go_simp
      refine hK.out _ _ (by first | exact hk0 _ (Below.drew (Below.alloc (Below.refl _ _) (Nat.le_refl _) _)) | exact hk0 _ (Below.drew (Below.alloc (Below.alloc (Below.refl _ _) (Nat.le_refl _) _) (by simp) _))) (fun hHeld5 => ?_)
      clear hK K hHeld4 hHeld5
      try simp only [Act.put, List.setIfInBounds_toArray, List.set_cons_zero, List.set_cons_succ]
      refine wpAnyH_done (by kernel_rfl) ?_ _
      go_wp2_with fail
      go_meet
      first | exact ⟨_, _, rfl, rfl, (two_made W2 _ _ _).1⟩ | exact ⟨_, _, rfl, rfl, (two_made W2 _ _ _).2⟩
  case rest =>
    obtain ⟨z, y, rfl, rfl, hT⟩ := hcut
    have hS3 := HS2.out.below hT.low
    have hd3 := Hd2.out.below hT.low
    have q0 := (hT.low.cell (p := ⟨w.heap.size, 0, none⟩) hbw).trans i0
    have hbw1 : w.heap.size + 1 < W2.heap.size := World.block_lt_of_cell? _ _ X0.out
    have q1 := (hT.low.cell (p := ⟨w.heap.size + 1, 0, none⟩) hbw1).trans X0.out
    have q2 := (hT.low.cell (p := ⟨w.heap.size + 1, 1, none⟩) hbw1).trans X1.out
    have q3 := (hT.low.cell (p := ⟨w.heap.size + 1, 2, none⟩) hbw1).trans X2.out
    have hlt := hT.low.size
    have hO : ∀ x, W2.heap.size ≤ x → OffT p (.slice ia l.length ic) tv (nilS :: jvs) x := fun x hx => HS2.out.offNew hx
    have ht2 : TkAt B p (OffT p (.slice ia l.length ic) tv (nilS :: jvs)) wc (.rep mn mx l.length k) (Value.func (.func 58) #[] #[ptr w.heap.size, ptr (w.heap.size + 1), ptr z, ptr y]) nilS :=
      ⟨rfl, _, _, _, _, T, q, rfl, ⟨Hbo0.out, by omega, q0⟩, ⟨Hbo1.out, by omega, q1⟩, ⟨Hbo1.out, by omega, q2⟩, ⟨Hbo1.out, by omega, q3⟩, ⟨hO _ hT.a.new, hT.a.lt, hT.a.cell⟩, ⟨hO _ hT.b.new, hT.b.lt, hT.b.cell⟩⟩
    have hoff0 := Hbo0.out.1
    have hoff1 := Hbo1.out.1
    have hlow3 := Hlow2.out.trans (hT.low.mono (Nat.le_trans HS2.out.bld.bp (Nat.le_of_lt hpw)))
    have Hh := Lib.hid hS3
    have Hnd := Lib.hid hd3
    have Ht2 := Lib.hid ht2
    have Hlow := Lib.hid hlow3
    have HT := Lib.hid hT
    clear hS3 hd3 ht2 hlow3 hT hO q2 q3 hS0 p0 p2 i0 hlt
    have i0 := q0
    have i1 := q1
    clear q0 q1
    go_upto_region 4 with fail
    have hN := next_ahead Hh.out Hnd.out Ht2.out ⟨_, _, _, rfl⟩ hus
    have hS0 : ∀ W' : World, W' = wc ∨ Below wc.heap.size wc W' → (fun W' : World => W'.cell? ⟨w.heap.size, 0, none⟩ = some (ptr p) ∧ W'.cell? ⟨w.heap.size + 1, 0, none⟩ = some (.iface T q) ∧ True) W' := fun W' hW => by
      rcases hW with rfl | hW
      · exact ⟨i0, i1, trivial⟩
      · exact ⟨(hW.cell (World.block_lt_of_cell? _ _ i0)).trans i0, (hW.cell (World.block_lt_of_cell? _ _ i1)).trans i1, trivial⟩
    refine wp_region_held_drew (S := fun W' : World => W'.cell? ⟨w.heap.size, 0, none⟩ = some (ptr p) ∧ W'.cell? ⟨w.heap.size + 1, 0, none⟩ = some (.iface T q) ∧ True) hmix (hS0 _ (.inr (Below.drew (Below.refl _ _)))) (fun hHeld => ?_)
    refine wpAnyH_take (i := 0) (v := ?_) rfl (by kernel_rfl) (by kernel_rfl) (by kernel_rfl) (fun _ _ _ h => h) (Or.inl ⟨by rfl, ?_⟩) (by assumption) ?_
    rotate_left
    · intro W' hSw; obtain ⟨c0, c1, _⟩ := hSw; go_simp; try with_reducible rfl
    try simp only [Act.put, List.setIfInBounds_toArray, List.set_cons_zero, List.set_cons_succ]
    refine wpAnyH_take (i := 1) (v := ?_) rfl (by kernel_rfl) (by kernel_rfl) (by kernel_rfl) (fun _ _ _ h => h) (Or.inl ⟨by rfl, ?_⟩) (by assumption) ?_
    rotate_left
    · intro W' hSw; obtain ⟨c0, c1, _⟩ := hSw; go_simp; try with_reducible rfl
    try simp only [Act.put, List.setIfInBounds_toArray, List.set_cons_zero, List.set_cons_succ]
    refine wpAnyH_take (i := 2) (v := ?_) rfl (by kernel_rfl) (by kernel_rfl) (by kernel_rfl) (fun _ _ _ h => h) (Or.inl ⟨by rfl, ?_⟩) (by assumption) ?_
    rotate_left
    · intro W' hSw; obtain ⟨c0, c1, _⟩ := hSw; go_simp; try with_reducible rfl
    try simp only [Act.put, List.setIfInBounds_toArray, List.set_cons_zero, List.set_cons_succ]
    refine wpAnyH_take (i := 3) (v := ?_) rfl (by kernel_rfl) (by kernel_rfl) (by kernel_rfl) (fun _ _ _ h => h) (Or.inl ⟨by rfl, ?_⟩) (by assumption) ?_
    rotate_left
    · intro W' hSw; obtain ⟨c0, c1, _⟩ := hSw; go_simp; try with_reducible rfl
    try simp only [Act.put, List.setIfInBounds_toArray, List.set_cons_zero, List.set_cons_succ]
    refine wpAnyH_take (i := 5) (v := ?_) rfl (by kernel_rfl) (by kernel_rfl) (by kernel_rfl) (fun _ _ _ h => h) (Or.inl ⟨by rfl, ?_⟩) (by assumption) ?_
    rotate_left
    · intro W' hSw; obtain ⟨c0, c1, _⟩ := hSw; go_simp; try with_reducible rfl
    try simp only [Act.put, List.setIfInBounds_toArray, List.set_cons_zero, List.set_cons_succ]
    refine wpAnyH_ready (rs := [4]) (by kernel_rfl) (by simp) ?_
    refine AllReadyH.cons rfl (fun K hK => ?_) AllReadyH.nil
    go_simp
    go_wp2_with (go_at_call 35; refine (laying_any _ _ _ (.inl ⟨_, _, rfl⟩)).mono ?_; rintro e w4 ⟨rfl, rfl⟩)
    refine hK.out _ _ (hS0 _ (.inr (Below.alloc (Below.alloc (Below.drew (Below.refl _ _)) (Nat.le_refl _) _) (by simp) _))) (fun hHeld2 => ?_)
    clear hK K hHeld
    try simp only [Act.put, List.setIfInBounds_toArray, List.set_cons_zero, List.set_cons_succ]
    refine wpAnyH_ready (rs := [6]) (by kernel_rfl) (by simp) ?_
    refine AllReadyH.cons rfl (fun K hK => ?_) AllReadyH.nil
    go_simp
    refine hK.out _ _ (hS0 _ (.inr (Below.alloc (Below.alloc (Below.alloc (Below.drew (Below.refl _ _)) (Nat.le_refl _) _) (by simp) _) (by simp; omega) _))) (fun hHeld3 => ?_)
    clear hK K hHeld2
    try simp only [Act.put, List.setIfInBounds_toArray, List.set_cons_zero, List.set_cons_succ]
    refine wpAnyH_ready (rs := [7]) (by kernel_rfl) (by simp) ?_
    refine AllReadyH.cons rfl (fun K hK => ?_) AllReadyH.nil
    go_simp
    go_wp2_with (go_at_call 34; refine hN.mono ?_; rintro e w6 ⟨rfl, hend, hlow, hcells⟩)
    refine hK.out _ _ ⟨(hcells _ _ (World.block_lt_of_cell? _ _ i0) hoff0).trans i0, (hcells _ _ (World.block_lt_of_cell? _ _ i1) hoff1).trans i1, trivial⟩ (fun hHeld4 => ?_)
    clear hK K hHeld3 hHeld4
    refine wpAnyH_done (by kernel_rfl) ?_ _
    go_end0
    obtain ⟨tv7, us7, jvs7, h7, h8⟩ := hend
    exact ⟨rfl, ⟨_, _, _, _, h7, by omega⟩, Hlow.out.trans hlow⟩
set_option linter.unusedVariables false in
set_option linter.unusedSimpArgs false in
set_option maxRecDepth 100000 in
set_option maxHeartbeats 4000000 in
theorem repeat_none {B p : Nat} {l : List Inn} {g : Int} {k : Nat} {bk : Bool} {iv tv : Value} {ts : List CTk} {us jvs : List Value} (d : Nd) (T : TypeId) (q : Value) (mn mx : Int) (w : World) (h : Sta B p w l g k bk iv tv ts us jvs nilS) (hd : NdX (OffT p iv tv (nilS :: jvs)) w d (.iface T q)) (hus : us.length ≤ 4000000) (hl : l.length ≤ 3000) (hk : k ≤ l.length) (hm : mn = 0) :
    Calls Try.prog 52 #[ptr p, .agg #[.iface T q, .int .i64 mn, .int .i64 mx]] w fun e w' => e = .returned (.tuple #[]) ∧ (∃ iv' tv' us' jvs', Sta B p w' (l ++ [ins 1 (l.length + 1 : Nat) 0, ins 7 k 0]) g (k + 1) bk iv' tv' (.lay d :: .rep mn mx ((l ++ [ins 1 (l.length + 1 : Nat) 0, ins 7 k 0]).length) (k + 1) :: ts) us' jvs' nilS ∧ us'.length ≤ us.length + 2) ∧ Below B w w' := by
  have hmf : ∀ (fn : Fn) (first cap : Array Value) (w : World), (Instr.makeFunc fn first cap).run Try.prog w = .ok (.func fn first cap) w := fun _ _ _ _ => rfl
  have hAa := ((Below.refl w.heap.size w).alloc (Nat.le_refl _) (.cells #[ptr p] 98)).alloc (by simp) (.cells #[.iface T q, .int .i64 mn, .int .i64 mx] 57)
  have hb0 := ((Boxed.new w 98 (ptr p)).alloc (.cells #[.iface T q, .int .i64 mn, .int .i64 mx] 57)).cell
  have hb1 := Blk.new (w.alloc (.cells #[ptr p] 98)) #[.iface T q, .int .i64 mn, .int .i64 mx] 57 (w.heap.size + 1) (by simp)
  have hsz : ((w.alloc (.cells #[ptr p] 98)).alloc (.cells #[.iface T q, .int .i64 mn, .int .i64 mx] 57)).heap.size = w.heap.size + 2 := by simp
  generalize hW1 : (w.alloc (.cells #[ptr p] 98)).alloc (.cells #[.iface T q, .int .i64 mn, .int .i64 mx] 57) = W1 at *
  have hS1 := h.below hAa
  have hlow1 := (CStep.of_below (p := p) (iv := iv) (tv := tv) hAa).low h.bld
  have hd1 := hd.below hAa
  have hbo0 := h.offNew (y := w.heap.size) (Nat.le_refl _)
  have hbo1 := h.offNew (y := w.heap.size + 1) (by omega)
  have x0 : W1.cell? ⟨w.heap.size + 1, 0, none⟩ = some (.iface T q) := (hb1.cell 0).trans rfl
  have x1 : W1.cell? ⟨w.heap.size + 1, 1, none⟩ = some (.int .i64 mn) := (hb1.cell 1).trans rfl
  have x2 : W1.cell? ⟨w.heap.size + 1, 2, none⟩ = some (.int .i64 mx) := (hb1.cell 2).trans rfl

  have i0 : W1.cell? ⟨w.heap.size, 0, none⟩ = some (ptr p) := hb0
  have hm0 : (mn == 0) = true := by simp [hm]
  have hE := enter_any 0 W1 hS1.bld (by omega) (by omega)
  obtain ⟨L, hL⟩ : ∃ L, l ++ [ins 1 (l.length + 1 : Nat) 0, ins 7 k 0] = L := ⟨_, rfl⟩
  obtain ⟨K, hK⟩ : ∃ K, k + 1 = K := ⟨_, rfl⟩
  rw [hL, hK] at hE
  rw [hL, hK]
  have HS1 := Lib.hid hS1
  have Hlow1 := Lib.hid hlow1
  have Hd1 := Lib.hid hd1
  have Hbo0 := Lib.hid hbo0
  have Hbo1 := Lib.hid hbo1
  have X0 := Lib.hid x0
  have X1 := Lib.hid x1
  have X2 := Lib.hid x2
  clear h hd hAa hb0 hb1 hlow1 hd1 hbo0 hbo1 x0 x2 hS1 hL hK hm
  have HSZ := Lib.hid hsz
  go_enter Try.func52, Try.ntmps52
  go_upto_region 3 with (go_at_call 57; refine hE.mono ?_; rintro e W2 ⟨rfl, iv2, hB2, hC2⟩)
  have hsz := HSZ.out
  have hbw1 : w.heap.size < W1.heap.size := by omega
  have hbw2 : w.heap.size + 1 < W1.heap.size := by omega
  have hS2 := HS1.out.step hC2 hB2
  have hF := OffT.step (jvs := nilS :: jvs) (jvs' := nilS :: jvs) hC2 fun jv hm => .inr hm
  have hlow2 := Hlow1.out.trans (hC2.low HS1.out.bld)
  have i0 := ((hF _ Hbo0.out hbw1).2 0).trans i0
  have X0 := Lib.hid (((hF _ Hbo1.out hbw2).2 0).trans X0.out)
  have X1 := Lib.hid (((hF _ Hbo1.out hbw2).2 1).trans X1.out)
  have X2 := Lib.hid (((hF _ Hbo1.out hbw2).2 2).trans X2.out)
  have Hd2 := Lib.hid (Hd1.out.keep hC2.size hF)
  have Hbo0 := Lib.hid (hF _ Hbo0.out hbw1).1
  have Hbo1 := Lib.hid (hF _ Hbo1.out hbw2).1
  have Hlow2 := Lib.hid hlow2
  clear hE hC2 hB2 hF hlow2 hW1 hbw1 hbw2 hsz HSZ Hlow1 HS1 Hd1

  obtain ⟨ia, ic, rfl⟩ := co_form hS2.bld.io
  have hcs := hS2.bld.cells
  have p0 := hcs.c0
  have p2 := hcs.c2
  have hbw : w.heap.size < W2.heap.size := World.block_lt_of_cell? _ _ i0
  have hmix : Try.prog.follows .mixedOrders = true := by kernel_rfl
  have hpw := hS2.bld.blk.lt
  have HS2 := Lib.hid hS2
  clear hS2 hcs
  have hS0 : ∀ W' : World, W' = W2 ∨ Below W2.heap.size W2 W' → (fun W' : World => W'.cell? ⟨w.heap.size, 0, none⟩ = some (ptr p) ∧ W'.cell? ⟨p, 0, none⟩ = some (.slice ia L.length ic) ∧ W'.cell? ⟨p, 2, none⟩ = some (.int .i64 (K : Int)) ∧ True) W' := fun W' hW => by
    rcases hW with rfl | hW
    · exact ⟨i0, p0, p2, trivial⟩
    · exact ⟨(hW.cell hbw).trans i0, (hW.cell hpw).trans p0, (hW.cell hpw).trans p2, trivial⟩
  go_cut [4, 5] (fun s4 s5 wx => ∃ z y : Nat, s4 = ptr z ∧ s5 = ptr y ∧ TwoB W2 wx z y (L.length : Int) (K : Int))
  case first =>
    refine wp_region_held_drew (S := fun W' : World => W'.cell? ⟨w.heap.size, 0, none⟩ = some (ptr p) ∧ W'.cell? ⟨p, 0, none⟩ = some (.slice ia L.length ic) ∧ W'.cell? ⟨p, 2, none⟩ = some (.int .i64 (K : Int)) ∧ True) hmix (hS0 _ (.inr (Below.drew (Below.refl _ _)))) (fun hHeld => ?_)
    refine wpAnyH_take (i := 0) (v := ?_) rfl (by kernel_rfl) (by kernel_rfl) (by kernel_rfl) (fun _ _ _ h => h) (Or.inl ⟨by rfl, ?_⟩) (by assumption) ?_
    rotate_left
    · intro W' hSw; obtain ⟨c0, c1, c2, _⟩ := hSw; go_simp; try with_reducible rfl
    try simp only [Act.put, List.setIfInBounds_toArray, List.set_cons_zero, List.set_cons_succ]
    refine wpAnyH_take (i := 1) (v := ?_) rfl (by kernel_rfl) (by kernel_rfl) (by kernel_rfl) (fun _ _ _ h => h) (Or.inl ⟨by rfl, ?_⟩) (by assumption) ?_
    rotate_left
    · intro W' hSw; obtain ⟨c0, c1, c2, _⟩ := hSw; go_simp; try with_reducible rfl
    try simp only [Act.put, List.setIfInBounds_toArray, List.set_cons_zero, List.set_cons_succ]
    refine wpAnyH_take (i := 2) (v := ?_) rfl (by kernel_rfl) (by kernel_rfl) (by kernel_rfl) (fun _ _ _ h => h) (Or.inl ⟨by rfl, ?_⟩) (by assumption) ?_
    rotate_left
    · intro W' hSw; obtain ⟨c0, c1, c2, _⟩ := hSw; go_simp; try with_reducible rfl
    try simp only [Act.put, List.setIfInBounds_toArray, List.set_cons_zero, List.set_cons_succ]
    refine wpAnyH_take (i := 3) (v := ?_) rfl (by kernel_rfl) (by kernel_rfl) (by kernel_rfl) (fun _ _ _ h => h) (Or.inl ⟨by rfl, ?_⟩) (by assumption) ?_
    rotate_left
    · intro W' hSw; obtain ⟨c0, c1, c2, _⟩ := hSw; go_simp; try with_reducible rfl
    try simp only [Act.put, List.setIfInBounds_toArray, List.set_cons_zero, List.set_cons_succ]
    refine wpAnyH_take (i := 4) (v := ?_) rfl (by kernel_rfl) (by kernel_rfl) (by kernel_rfl) (fun _ _ _ h => h) (Or.inl ⟨by rfl, ?_⟩) (by assumption) ?_
    rotate_left
    · intro W' hSw; obtain ⟨c0, c1, c2, _⟩ := hSw; go_simp; try with_reducible rfl
    try simp only [Act.put, List.setIfInBounds_toArray, List.set_cons_zero, List.set_cons_succ]
    refine wpAnyH_take (i := 5) (v := ?_) rfl (by kernel_rfl) (by kernel_rfl) (by kernel_rfl) (fun _ _ _ h => h) (Or.inl ⟨by rfl, ?_⟩) (by assumption) ?_
    rotate_left
    · intro W' hSw; obtain ⟨c0, c1, c2, _⟩ := hSw; go_simp; try with_reducible rfl
    try simp only [Act.put, List.setIfInBounds_toArray, List.set_cons_zero, List.set_cons_succ]
    refine wpAnyH_take (i := 6) (v := ?_) rfl (by kernel_rfl) (by kernel_rfl) (by kernel_rfl) (fun _ _ _ h => h) (Or.inl ⟨by rfl, ?_⟩) (by assumption) ?_
    rotate_left
    · intro W' hSw; obtain ⟨c0, c1, c2, _⟩ := hSw; go_simp; try with_reducible rfl
    try simp only [Act.put, List.setIfInBounds_toArray, List.set_cons_zero, List.set_cons_succ]
    refine wpAnyH_take (i := 7) (v := ?_) rfl (by kernel_rfl) (by kernel_rfl) (by kernel_rfl) (fun _ _ _ h => h) (Or.inl ⟨by rfl, ?_⟩) (by assumption) ?_
    rotate_left
    · intro W' hSw; obtain ⟨c0, c1, c2, _⟩ := hSw; go_simp; try with_reducible rfl
    try simp only [Act.put, List.setIfInBounds_toArray, List.set_cons_zero, List.set_cons_succ]
    refine wpAnyH_take (i := 8) (v := ?_) rfl (by kernel_rfl) (by kernel_rfl) (by kernel_rfl) (fun _ _ _ h => h) (Or.inl ⟨by rfl, ?_⟩) (by assumption) ?_
    rotate_left
    · intro W' hSw; obtain ⟨c0, c1, c2, _⟩ := hSw; go_simp; try with_reducible rfl
    try simp only [Act.put, List.setIfInBounds_toArray, List.set_cons_zero, List.set_cons_succ]
    refine wpAnyH_take (i := 9) (v := ?_) rfl (by kernel_rfl) (by kernel_rfl) (by kernel_rfl) (fun _ _ _ h => h) (Or.inl ⟨by rfl, ?_⟩) (by assumption) ?_
    rotate_left
    · intro W' hSw; obtain ⟨c0, c1, c2, _⟩ := hSw; go_simp; try with_reducible rfl
    try simp only [Act.put, List.setIfInBounds_toArray, List.set_cons_zero, List.set_cons_succ]
    refine wpAnyH_take (i := 10) (v := ?_) rfl (by kernel_rfl) (by kernel_rfl) (by kernel_rfl) (fun _ _ _ h => h) (Or.inl ⟨by rfl, ?_⟩) (by assumption) ?_
    rotate_left
    · intro W' hSw; obtain ⟨c0, c1, c2, _⟩ := hSw; go_simp; try with_reducible rfl
    try simp only [Act.put, List.setIfInBounds_toArray, List.set_cons_zero, List.set_cons_succ]
    refine wpAnyH_ready (rs := [11, 12]) (by kernel_rfl) (by simp) ?_
    have hk0 := fun (W' : World) (h : Below W2.heap.size W2 W') => hS0 W' (.inr h)
    refine AllReadyH.cons rfl (fun K hK => ?_) ?_
    · go_simp
      refine hK.out _ _ (by first | exact hk0 _ (Below.drew (Below.alloc (Below.refl _ _) (Nat.le_refl _) _)) | exact hk0 _ (Below.drew (Below.alloc (Below.alloc (Below.refl _ _) (Nat.le_refl _) _) (by simp) _))) (fun hHeld2 => ?_)
      clear hK K hHeld
      try simp only [Act.put, List.setIfInBounds_toArray, List.set_cons_zero, List.set_cons_succ]
      refine wpAnyH_ready (rs := [12]) (by kernel_rfl) (by simp) ?_
      refine AllReadyH.cons rfl (fun K hK => ?_) AllReadyH.nil
      go_simp
      refine hK.out _ _ (by first | exact hk0 _ (Below.drew (Below.alloc (Below.refl _ _) (Nat.le_refl _) _)) | exact hk0 _ (Below.drew (Below.alloc (Below.alloc (Below.refl _ _) (Nat.le_refl _) _) (by simp) _))) (fun hHeld3 => ?_)
      clear hK K hHeld2
      try simp only [Act.put, List.setIfInBounds_toArray, List.set_cons_zero, List.set_cons_succ]
      refine wpAnyH_ready (rs := [13]) (by kernel_rfl) (by simp) ?_
      refine AllReadyH.cons rfl (fun K hK => ?_) AllReadyH.nil
      go_simp
      refine hK.out _ _ (by first | exact hk0 _ (Below.drew (Below.alloc (Below.refl _ _) (Nat.le_refl _) _)) | exact hk0 _ (Below.drew (Below.alloc (Below.alloc (Below.refl _ _) (Nat.le_refl _) _) (by simp) _))) (fun hHeld4 => ?_)
      clear hK K hHeld3
      try simp only [Act.put, List.setIfInBounds_toArray, List.set_cons_zero, List.set_cons_succ]
      refine wpAnyH_ready (rs := [14]) (by kernel_rfl) (by simp) ?_
      refine AllReadyH.cons rfl (fun K hK => ?_) AllReadyH.nil
      go_simp
      refine hK.out _ _ (by first | exact hk0 _ (Below.drew (Below.alloc (Below.refl _ _) (Nat.le_refl _) _)) | exact hk0 _ (Below.drew (Below.alloc (Below.alloc (Below.refl _ _) (Nat.le_refl _) _) (by simp) _))) (fun hHeld5 => ?_)
      clear hK K hHeld4 hHeld5
      try simp only [Act.put, List.setIfInBounds_toArray, List.set_cons_zero, List.set_cons_succ]
      refine wpAnyH_done (by kernel_rfl) ?_ _
      go_wp2_with fail
      go_meet
      first | exact ⟨_, _, rfl, rfl, (two_made W2 _ _ _).1⟩ | exact ⟨_, _, rfl, rfl, (two_made W2 _ _ _).2⟩
    refine AllReadyH.cons rfl (fun K hK => ?_) AllReadyH.nil
    · go_simp
      refine hK.out _ _ (by first | exact hk0 _ (Below.drew (Below.alloc (Below.refl _ _) (Nat.le_refl _) _)) | exact hk0 _ (Below.drew (Below.alloc (Below.alloc (Below.refl _ _) (Nat.le_refl _) _) (by simp) _))) (fun hHeld2 => ?_)
      clear hK K hHeld
      try simp only [Act.put, List.setIfInBounds_toArray, List.set_cons_zero, List.set_cons_succ]
      refine wpAnyH_ready (rs := [11]) (by kernel_rfl) (by simp) ?_
      refine AllReadyH.cons rfl (fun K hK => ?_) AllReadyH.nil
      go_simp
      refine hK.out _ _ (by first | exact hk0 _ (Below.drew (Below.alloc (Below.refl _ _) (Nat.le_refl _) _)) | exact hk0 _ (Below.drew (Below.alloc (Below.alloc (Below.refl _ _) (Nat.le_refl _) _) (by simp) _))) (fun hHeld3 => ?_)
      clear hK K hHeld2
      try simp only [Act.put, List.setIfInBounds_toArray, List.set_cons_zero, List.set_cons_succ]
      refine wpAnyH_ready (rs := [13]) (by kernel_rfl) (by simp) ?_
      refine AllReadyH.cons rfl (fun K hK => ?_) AllReadyH.nil
      go_simp
      refine hK.out _ _ (by first | exact hk0 _ (Below.drew (Below.alloc (Below.refl _ _) (Nat.le_refl _) _)) | exact hk0 _ (Below.drew (Below.alloc (Below.alloc (Below.refl _ _) (Nat.le_refl _) _) (by simp) _))) (fun hHeld4 => ?_)
      clear hK K hHeld3
      try simp only [Act.put, List.setIfInBounds_toArray, List.set_cons_zero, List.set_cons_succ]
      refine wpAnyH_ready (rs := [14]) (by kernel_rfl) (by simp) ?_
      refine AllReadyH.cons rfl (fun K hK => ?_) AllReadyH.nil
      go_simp
      refine hK.out _ _ (by first | exact hk0 _ (Below.drew (Below.alloc (Below.refl _ _) (Nat.le_refl _) _)) | exact hk0 _ (Below.drew (Below.alloc (Below.alloc (Below.refl _ _) (Nat.le_refl _) _) (by simp) _))) (fun hHeld5 => ?_)
      clear hK K hHeld4 hHeld5
      try simp only [Act.put, List.setIfInBounds_toArray, List.set_cons_zero, List.set_cons_succ]
      refine wpAnyH_done (by kernel_rfl) ?_ _
      go_wp2_with fail
      go_meet
      first | exact ⟨_, _, rfl, rfl, (two_made W2 _ _ _).1⟩ | exact ⟨_, _, rfl, rfl, (two_made W2 _ _ _).2⟩
  case rest =>
    obtain ⟨z, y, rfl, rfl, hT⟩ := hcut
    have hS3 := HS2.out.below hT.low
    have hd3 := Hd2.out.below hT.low
    have q0 := (hT.low.cell (p := ⟨w.heap.size, 0, none⟩) hbw).trans i0
    have hbw1 : w.heap.size + 1 < W2.heap.size := World.block_lt_of_cell? _ _ X0.out
    have q1 := (hT.low.cell (p := ⟨w.heap.size + 1, 0, none⟩) hbw1).trans X0.out
    have q2 := (hT.low.cell (p := ⟨w.heap.size + 1, 1, none⟩) hbw1).trans X1.out
    have q3 := (hT.low.cell (p := ⟨w.heap.size + 1, 2, none⟩) hbw1).trans X2.out
    have hlt := hT.low.size
    have hO : ∀ x, W2.heap.size ≤ x → OffT p (.slice ia L.length ic) tv (nilS :: jvs) x := fun x hx => HS2.out.offNew hx
    have ht2 : TkAt B p (OffT p (.slice ia L.length ic) tv (nilS :: jvs)) wc (.rep mn mx L.length K) (Value.func (.func 58) #[] #[ptr w.heap.size, ptr (w.heap.size + 1), ptr z, ptr y]) nilS :=
      ⟨rfl, _, _, _, _, T, q, rfl, ⟨Hbo0.out, by omega, q0⟩, ⟨Hbo1.out, by omega, q1⟩, ⟨Hbo1.out, by omega, q2⟩, ⟨Hbo1.out, by omega, q3⟩, ⟨hO _ hT.a.new, hT.a.lt, hT.a.cell⟩, ⟨hO _ hT.b.new, hT.b.lt, hT.b.cell⟩⟩
    have hoff0 := Hbo0.out.1
    have hoff1 := Hbo1.out.1
    have hlow3 := Hlow2.out.trans (hT.low.mono (Nat.le_trans HS2.out.bld.bp (Nat.le_of_lt hpw)))
    have Hh := Lib.hid hS3
    have Hnd := Lib.hid hd3
    have Ht2 := Lib.hid ht2
    have Hlow := Lib.hid hlow3
    have HT := Lib.hid hT
    clear hS3 hd3 ht2 hlow3 hT hO q2 q3 hS0 p0 p2 i0 hlt
    have i0 := q0
    have i1 := q1
    clear q0 q1
    go_upto_region 4 with fail
    have hN := next_ahead Hh.out Hnd.out Ht2.out ⟨_, _, _, rfl⟩ hus
    have hS0 : ∀ W' : World, W' = wc ∨ Below wc.heap.size wc W' → (fun W' : World => W'.cell? ⟨w.heap.size, 0, none⟩ = some (ptr p) ∧ W'.cell? ⟨w.heap.size + 1, 0, none⟩ = some (.iface T q) ∧ True) W' := fun W' hW => by
      rcases hW with rfl | hW
      · exact ⟨i0, i1, trivial⟩
      · exact ⟨(hW.cell (World.block_lt_of_cell? _ _ i0)).trans i0, (hW.cell (World.block_lt_of_cell? _ _ i1)).trans i1, trivial⟩
    refine wp_region_held_drew (S := fun W' : World => W'.cell? ⟨w.heap.size, 0, none⟩ = some (ptr p) ∧ W'.cell? ⟨w.heap.size + 1, 0, none⟩ = some (.iface T q) ∧ True) hmix (hS0 _ (.inr (Below.drew (Below.refl _ _)))) (fun hHeld => ?_)
    refine wpAnyH_take (i := 0) (v := ?_) rfl (by kernel_rfl) (by kernel_rfl) (by kernel_rfl) (fun _ _ _ h => h) (Or.inl ⟨by rfl, ?_⟩) (by assumption) ?_
    rotate_left
    · intro W' hSw; obtain ⟨c0, c1, _⟩ := hSw; go_simp; try with_reducible rfl
    try simp only [Act.put, List.setIfInBounds_toArray, List.set_cons_zero, List.set_cons_succ]
    refine wpAnyH_take (i := 1) (v := ?_) rfl (by kernel_rfl) (by kernel_rfl) (by kernel_rfl) (fun _ _ _ h => h) (Or.inl ⟨by rfl, ?_⟩) (by assumption) ?_
    rotate_left
    · intro W' hSw; obtain ⟨c0, c1, _⟩ := hSw; go_simp; try with_reducible rfl
    try simp only [Act.put, List.setIfInBounds_toArray, List.set_cons_zero, List.set_cons_succ]
    refine wpAnyH_take (i := 2) (v := ?_) rfl (by kernel_rfl) (by kernel_rfl) (by kernel_rfl) (fun _ _ _ h => h) (Or.inl ⟨by rfl, ?_⟩) (by assumption) ?_
    rotate_left
    · intro W' hSw; obtain ⟨c0, c1, _⟩ := hSw; go_simp; try with_reducible rfl
    try simp only [Act.put, List.setIfInBounds_toArray, List.set_cons_zero, List.set_cons_succ]
    refine wpAnyH_take (i := 3) (v := ?_) rfl (by kernel_rfl) (by kernel_rfl) (by kernel_rfl) (fun _ _ _ h => h) (Or.inl ⟨by rfl, ?_⟩) (by assumption) ?_
    rotate_left
    · intro W' hSw; obtain ⟨c0, c1, _⟩ := hSw; go_simp; try with_reducible rfl
    try simp only [Act.put, List.setIfInBounds_toArray, List.set_cons_zero, List.set_cons_succ]
    refine wpAnyH_take (i := 5) (v := ?_) rfl (by kernel_rfl) (by kernel_rfl) (by kernel_rfl) (fun _ _ _ h => h) (Or.inl ⟨by rfl, ?_⟩) (by assumption) ?_
    rotate_left
    · intro W' hSw; obtain ⟨c0, c1, _⟩ := hSw; go_simp; try with_reducible rfl
    try simp only [Act.put, List.setIfInBounds_toArray, List.set_cons_zero, List.set_cons_succ]
    refine wpAnyH_ready (rs := [4]) (by kernel_rfl) (by simp) ?_
    refine AllReadyH.cons rfl (fun K hK => ?_) AllReadyH.nil
    go_simp
    go_wp2_with (go_at_call 35; refine (laying_any _ _ _ (.inl ⟨_, _, rfl⟩)).mono ?_; rintro e w4 ⟨rfl, rfl⟩)
    refine hK.out _ _ (hS0 _ (.inr (Below.alloc (Below.alloc (Below.drew (Below.refl _ _)) (Nat.le_refl _) _) (by simp) _))) (fun hHeld2 => ?_)
    clear hK K hHeld
    try simp only [Act.put, List.setIfInBounds_toArray, List.set_cons_zero, List.set_cons_succ]
    refine wpAnyH_ready (rs := [6]) (by kernel_rfl) (by simp) ?_
    refine AllReadyH.cons rfl (fun K hK => ?_) AllReadyH.nil
    go_simp
    refine hK.out _ _ (hS0 _ (.inr (Below.alloc (Below.alloc (Below.alloc (Below.drew (Below.refl _ _)) (Nat.le_refl _) _) (by simp) _) (by simp; omega) _))) (fun hHeld3 => ?_)
    clear hK K hHeld2
    try simp only [Act.put, List.setIfInBounds_toArray, List.set_cons_zero, List.set_cons_succ]
    refine wpAnyH_ready (rs := [7]) (by kernel_rfl) (by simp) ?_
    refine AllReadyH.cons rfl (fun K hK => ?_) AllReadyH.nil
    go_simp
    go_wp2_with (go_at_call 34; refine hN.mono ?_; rintro e w6 ⟨rfl, hend, hlow, hcells⟩)
    refine hK.out _ _ ⟨(hcells _ _ (World.block_lt_of_cell? _ _ i0) hoff0).trans i0, (hcells _ _ (World.block_lt_of_cell? _ _ i1) hoff1).trans i1, trivial⟩ (fun hHeld4 => ?_)
    clear hK K hHeld3 hHeld4
    refine wpAnyH_done (by kernel_rfl) ?_ _
    go_end0
    obtain ⟨tv7, us7, jvs7, h7, h8⟩ := hend
    exact ⟨rfl, ⟨_, _, _, _, h7, by omega⟩, Hlow.out.trans hlow⟩
theorem repeat_any {B p : Nat} {l : List Inn} {g : Int} {k : Nat} {bk : Bool} {iv tv : Value} {ts : List CTk} {us jvs : List Value} (d : Nd) (T : TypeId) (q : Value) (mn mx : Int) (w : World) (h : Sta B p w l g k bk iv tv ts us jvs nilS) (hd : NdX (OffT p iv tv (nilS :: jvs)) w d (.iface T q)) (hus : us.length ≤ 4000000) (hl : l.length ≤ 3000) (hk : k ≤ l.length) (h0 : mx ≠ 0) :
    Calls Try.prog 52 #[ptr p, .agg #[.iface T q, .int .i64 mn, .int .i64 mx]] w fun e w' => e = .returned (.tuple #[]) ∧ (∃ iv' tv' us' jvs', Sta B p w' (stp (.lay (.rep d mn mx)) l k).1.1 g (stp (.lay (.rep d mn mx)) l k).1.2 bk iv' tv' ((stp (.lay (.rep d mn mx)) l k).2 ++ ts) us' jvs' nilS ∧ us'.length ≤ us.length + 2) ∧ Below B w w' := by
  by_cases hm : mn = 0
  · have := repeat_none d T q mn mx w h hd hus hl hk hm
    rw [stp, if_neg h0, if_pos hm]
    simpa using this
  · have := repeat_more d T q mn mx w h hd hus hl hk hm
    rw [stp, if_neg h0, if_neg hm]
    simpa using this
end Go.Proofs.Ytihfenkphhnbcaa
