/- The proof's texts CbN: what the claim reaches of them. -/
import Derived.Test.YtihfenkphhnbcaaCp17
namespace Go.Proofs.Ytihfenkphhnbcaa
open Go Go.RowKit
structure SplB (B p : Nat) (W : World) (l : List Inn) (g : Int) (k : Nat) (bk : Bool) (iv tv : Value) (ts : List CTk) (us jvs : List Value) (x : Value) (i : Inn) (wx : World) (z : Nat) (iv2 : Value) : Prop where
  sta : Sta B p wx (l ++ [i]) g k bk iv2 tv ts us jvs x
  off : OffT p iv2 tv (x :: jvs) z
  lt : z < wx.heap.size
  cell : wx.cell? ⟨z, 0, none⟩ = some (.int .i64 (l.length : Int))
  keep : ∀ b, OffT p iv tv (x :: jvs) b → b < W.heap.size → OffT p iv2 tv (x :: jvs) b ∧ ∀ o, wx.cell? ⟨b, o, none⟩ = W.cell? ⟨b, o, none⟩
  xb : ∀ b, x.ownBlock = some b → wx.heap[b]? = W.heap[b]?
  size : W.heap.size ≤ wx.heap.size
  low : Below B W wx
theorem spl_after {B p : Nat} {W w2 : World} {l : List Inn} {g : Int} {k : Nat} {bk : Bool} {iv tv iv2 x : Value} {ts : List CTk} {us jvs : List Value} {i : Inn} (T : TypeId) (h : Sta B p W l g k bk iv tv ts us jvs x) (hB : Bld B p w2 (l ++ [i]) g k bk iv2 tv us.reverse) (hC : CStep p W.drew iv tv w2 iv2 tv) :
    SplB B p W l g k bk iv tv ts us jvs x i (w2.alloc (.cells #[.int .i64 (l.length : Int)] T)) w2.heap.size iv2 := by
  have hd : Below W.heap.size W W.drew := Below.drew (Below.refl _ _)
  have hC0 := (CStep.of_below (p := p) (iv := iv) (tv := tv) hd).trans hC
  have hS2 := h.step hC0 hB
  have hAl : Below w2.heap.size w2 (w2.alloc (.cells #[.int .i64 (l.length : Int)] T)) := (Below.refl _ _).alloc (Nat.le_refl _) _
  have hC1 := hC0.trans (CStep.of_below (p := p) (iv := iv2) (tv := tv) hAl)
  have hS3 := hS2.below hAl
  exact ⟨hS3, hS2.offNew (Nat.le_refl _), by simp, (Boxed.new w2 T _).cell, OffT.step hC1 fun jv hm => .inr hm, fun b hb => by
    obtain ⟨h1, h2⟩ := h.jb x (List.mem_cons_self ..) b hb
    exact (hC1.block b h2 h1.1 h1.2.1 h1.2.2).1, hC1.size, hC1.low h.bld⟩
theorem spl_ahead {B p : Nat} {W w2 : World} {l : List Inn} {g : Int} {k : Nat} {bk : Bool} {iv tv iv2 x : Value} {ts : List CTk} {us jvs : List Value} {i : Inn} (T : TypeId) (h : Sta B p W l g k bk iv tv ts us jvs x) (hB : Bld B p w2 (l ++ [i]) g k bk iv2 tv us.reverse) (hC : CStep p (W.drew.alloc (.cells #[.int .i64 0] T)) iv tv w2 iv2 tv) :
    w2.cell? ⟨W.heap.size, 0, none⟩ = some (.int .i64 0) ∧ w2.frozen? ⟨W.heap.size, 0, none⟩ = false ∧ SplB B p W l g k bk iv tv ts us jvs x i (w2.setCell ⟨W.heap.size, 0, none⟩ (.int .i64 (l.length : Int))) W.heap.size iv2 := by
  have hd : Below W.heap.size W (W.drew.alloc (.cells #[.int .i64 0] T)) := (Below.drew (Below.refl _ _)).alloc (Nat.le_refl _) _
  have hC0 := (CStep.of_below (p := p) (iv := iv) (tv := tv) hd).trans hC
  have hS2 := h.step hC0 hB
  have hnew := h.offNew (y := W.heap.size) (Nat.le_refl _)
  have hbx : Boxed w2 W.heap.size T (.int .i64 0) := by
    unfold Boxed
    rw [(hC.block W.heap.size (by rw [World.size_alloc]; exact Nat.lt_succ_self _) hnew.1.1 hnew.1.2.1 hnew.1.2.2).1]
    exact Boxed.new W.drew T (.int .i64 0)
  have hoff : OffT p iv2 tv (x :: jvs) W.heap.size := (OffT.step (jvs := x :: jvs) (jvs' := x :: jvs) hC (fun jv hm => .inr hm) W.heap.size hnew (by rw [World.size_alloc]; exact Nat.lt_succ_self _)).1
  have hset : ∀ b, b ≠ W.heap.size → (w2.setCell ⟨W.heap.size, 0, none⟩ (.int .i64 (l.length : Int))).heap[b]? = w2.heap[b]? := fun b hb => Below.heap_setCell _ _ _ _ hb
  have hsz : (w2.setCell ⟨W.heap.size, 0, none⟩ (.int .i64 (l.length : Int))).heap.size = w2.heap.size := by simp [World.setCell]
  have hlow : Below W.heap.size w2 (w2.setCell ⟨W.heap.size, 0, none⟩ (.int .i64 (l.length : Int))) := (Below.refl _ w2).setCell (p := ⟨W.heap.size, 0, none⟩) (Nat.le_refl _) _
  have hnb : ∀ (v : Value), (∀ b, v.ownBlock = some b → b ≠ W.heap.size) → ∀ b, v.ownBlock = some b → (w2.setCell ⟨W.heap.size, 0, none⟩ (.int .i64 (l.length : Int))).heap[b]? = w2.heap[b]? := fun v hv b hb => hset b (hv b hb)
  have hw2 := hbx.lt
  have hkp : ∀ b, OffT p iv tv (x :: jvs) b → b < W.heap.size → OffT p iv2 tv (x :: jvs) b ∧ ∀ o, (w2.setCell ⟨W.heap.size, 0, none⟩ (.int .i64 (l.length : Int))).cell? ⟨b, o, none⟩ = W.cell? ⟨b, o, none⟩ := fun b hb hl => by
    obtain ⟨h1, h2⟩ := OffT.step (jvs := x :: jvs) (jvs' := x :: jvs) hC0 (fun jv hm => .inr hm) b hb hl
    exact ⟨h1, fun o => (hlow.cell (p := ⟨b, o, none⟩) hl).trans (h2 o)⟩
  refine ⟨hbx.cell, hbx.frozen, ⟨⟨hB.same (hset p hoff.1.1.symm) (hnb _ fun b hb e => hoff.1.2.1 (by rw [← e]; exact hb)) (hnb _ fun b hb e => hoff.1.2.2 (by rw [← e]; exact hb)), ?_, ?_, hS2.xj⟩, hoff, by rw [hsz]; exact hw2, (hbx.set _).cell, ?_, fun b hb => by
    obtain ⟨h1, h2⟩ := h.jb x (List.mem_cons_self ..) b hb
    exact (hlow.block b h2).trans (hC0.block b h2 h1.1 h1.2.1 h1.2.2).1, by rw [hsz]; exact hC0.size, (hC0.low h.bld).trans (hlow.mono (Nat.le_trans h.bld.bp (Nat.le_of_lt h.bld.blk.lt)))⟩⟩
  · refine h.tod.keep (by rw [hsz]; exact hC0.size) hkp fun jv hm b hb => ?_
    obtain ⟨h1, h2⟩ := h.jb jv (List.mem_cons_of_mem _ hm) b hb
    exact (hlow.block b h2).trans (hC0.block b h2 h1.1 h1.2.1 h1.2.2).1
  · intro jv hm b hb
    obtain ⟨h1, h2⟩ := hS2.jb jv hm b hb
    exact ⟨h1, by rw [hsz]; exact h2⟩
  · exact hkp
set_option linter.unusedVariables false in
set_option linter.unusedSimpArgs false in
set_option maxRecDepth 100000 in
set_option maxHeartbeats 4000000 in
theorem branches_one {B p : Nat} {l : List Inn} {g : Int} {k : Nat} {bk : Bool} {iv tv jv : Value} {ts : List CTk} {us jvs : List Value} (d : Nd)  (js : List Nat) (a : Option Addr) (cap : Nat) (w : World) (h : Sta B p w l g k bk iv tv ts us jvs jv) (hrow : w.ownsRow B 3 1 jv js.length (jvOf js)) (hv : NdRw (OffT p iv tv (jv :: jvs)) w ([d]) a cap) (hus : us.length ≤ 4000000) (hl : l.length ≤ 1000000) :
    Calls Try.prog 51 #[ptr p, .slice a ([d]).length cap, jv] w fun e w' => e = .returned (.tuple #[]) ∧ (∃ iv' tv' us' jvs', Sta B p w' l g k bk iv' tv' (.lay d :: .jumps js :: ts) us' jvs' nilS ∧ us'.length ≤ us.length + 2) ∧ Below B w w' ∧ (∀ c o, OffT p iv tv (jv :: jvs) c → c < w.heap.size → w'.cell? ⟨c, o, none⟩ = w.cell? ⟨c, o, none⟩) := by
  have hmf : ∀ (fn : Fn) (first cap : Array Value) (w : World), (Instr.makeFunc fn first cap).run Try.prog w = .ok (.func fn first cap) w := fun _ _ _ _ => rfl
  obtain ⟨ja, jc, rfl⟩ := co_form hrow
  have hAa := (((Below.refl w.heap.size w).alloc (Nat.le_refl _) (.cells #[ptr p] 98)).alloc (by simp) (.cells #[.slice a ([d]).length cap] 68)).alloc (by simp; omega) (.cells #[.slice ja js.length jc] 92)
  have hb0 := (((Boxed.new w 98 (ptr p)).alloc (.cells #[.slice a ([d]).length cap] 68)).alloc (.cells #[.slice ja js.length jc] 92)).cell
  have hb1 := ((Boxed.new (w.alloc (.cells #[ptr p] 98)) 68 (.slice a ([d]).length cap)).alloc (.cells #[.slice ja js.length jc] 92)).cell
  have hb2 := (Boxed.new ((w.alloc (.cells #[ptr p] 98)).alloc (.cells #[.slice a ([d]).length cap] 68)) 92 (.slice ja js.length jc)).cell
  rw [World.size_alloc] at hb1
  rw [World.size_alloc, World.size_alloc] at hb2
  have hsz : (((w.alloc (.cells #[ptr p] 98)).alloc (.cells #[.slice a ([d]).length cap] 68)).alloc (.cells #[.slice ja js.length jc] 92)).heap.size = w.heap.size + 3 := by simp
  generalize hW1 : ((w.alloc (.cells #[ptr p] 98)).alloc (.cells #[.slice a ([d]).length cap] 68)).alloc (.cells #[.slice ja js.length jc] 92) = W1 at *
  have hS1 := h.below hAa
  have hlow1 := (CStep.of_below (p := p) (iv := iv) (tv := tv) hAa).low h.bld
  obtain ⟨n, hn⟩ : ∃ n, ([d]).length = n := ⟨_, rfl⟩
  have hv1 := hv.below hAa
  obtain ⟨b, o, rfl, hFb, hbl, hx⟩ := hv1.2.2 (by simp)
  obtain ⟨u, hu, hnd⟩ := hx 0 (by simp)
  have hu' : W1.cell? ⟨b, o, none⟩ = some u := hu
  have hsh : (∃ T q, u = .iface T q) ∨ u = .nilIface := hnd.elim fun _ h => nd_shape h
  have ho0 := h.offNew (y := w.heap.size) (Nat.le_refl _)
  have ho1 := h.offNew (y := w.heap.size + 1) (by omega)
  have ho2 := h.offNew (y := w.heap.size + 2) (by omega)
  have hrow1 := nd_own_below hrow hAa
  have HAa := Lib.hid hAa
  have hn1 : n = 1 := by rw [← hn]; rfl
  subst hn1
  have ht2 : TkAt B p (OffT p iv tv (.slice ja js.length jc :: jvs)) W1 (.jumps js) (Value.func (.func 55) #[] #[ptr (w.heap.size + 2), ptr w.heap.size]) (.slice ja js.length jc) :=
    ⟨hrow1, _, _, rfl, ⟨ho0, by omega, hb0⟩, ⟨ho2, by omega, hb2⟩⟩
  have Hh := Lib.hid hS1
  have Hnd := Lib.hid hnd
  have Ht2 := Lib.hid ht2
  have Hlow := Lib.hid hlow1
  have hoff0 := ho0.1
  have hoff1 := ho1.1
  have hoff2 := hFb.1
  have Hoff0 := Lib.hid hoff0
  have Hoff1 := Lib.hid hoff1
  have Hoff2 := Lib.hid hoff2
  rw [hn] at hb1 hW1
  rw [hn]
  have hall : W1.cell? ⟨w.heap.size, 0, none⟩ = some (ptr p) ∧ W1.cell? ⟨w.heap.size + 1, 0, none⟩ = some (.slice (some ⟨b, o, none⟩) 1 cap) ∧ W1.cell? ⟨b, o, none⟩ = some u ∧ True := ⟨hb0, hb1, hu', trivial⟩
  clear h hv hv1 hx hnd hS1 ht2 hlow1 hoff0 hoff1 hoff2 hFb hb0 hb1 hb2 hu hu' ho0 ho1 ho2 hrow hrow1 hAa hn
  have hlp : (0 : Int) < ((1 : Nat) : Int) := by omega
  go_enter Try.func51, Try.ntmps51
  have hcell := hall.2.1
  go_upto_region 2 with fail
  clear hcell
  have hmix : Try.prog.follows .mixedOrders = true := by kernel_rfl
  obtain ⟨i0, i1, i2, _⟩ := hall
  have hoff0 := Hoff0.out
  have hoff1 := Hoff1.out
  have hoff2 := Hoff2.out
  clear hsz hbl Hoff0 Hoff1 Hoff2
  rcases hsh with ⟨T, q, rfl⟩ | rfl
  · have hN := next_ahead Hh.out Hnd.out Ht2.out ⟨_, _, _, rfl⟩ hus
    have hS0 : ∀ W' : World, W' = W1 ∨ Below W1.heap.size W1 W' → (fun W' : World => W'.cell? ⟨w.heap.size, 0, none⟩ = some (ptr p) ∧ W'.cell? ⟨w.heap.size + 1, 0, none⟩ = some (.slice (some ⟨b, o, none⟩) 1 cap) ∧ W'.cell? ⟨b, o, none⟩ = some (.iface T q) ∧ True) W' := fun W' hW => by
      rcases hW with rfl | hW
      · exact ⟨i0, i1, i2, trivial⟩
      · exact ⟨(hW.cell (World.block_lt_of_cell? _ _ i0)).trans i0, (hW.cell (World.block_lt_of_cell? _ _ i1)).trans i1, (hW.cell (World.block_lt_of_cell? _ _ i2)).trans i2, trivial⟩
    refine wp_region_held_drew (S := fun W' : World => W'.cell? ⟨w.heap.size, 0, none⟩ = some (ptr p) ∧ W'.cell? ⟨w.heap.size + 1, 0, none⟩ = some (.slice (some ⟨b, o, none⟩) 1 cap) ∧ W'.cell? ⟨b, o, none⟩ = some (.iface T q) ∧ True) hmix (hS0 _ (.inr (Below.drew (Below.refl _ _)))) (fun hHeld => ?_)
    refine wpAnyH_take (i := 0) (v := ?_) rfl (by kernel_rfl) (by kernel_rfl) (by kernel_rfl) (fun _ _ _ h => h) (Or.inl ⟨by rfl, ?_⟩) (by assumption) ?_
    rotate_left
    · intro W' hSw; obtain ⟨c0, c1, c2, _⟩ := hSw; go_simp; try with_reducible rfl
    try simp only [Act.put, List.setIfInBounds_toArray, List.set_cons_zero, List.set_cons_succ]
    refine wpAnyH_take (i := 1) (v := ?_) rfl (by kernel_rfl) (by kernel_rfl) (by kernel_rfl) (fun _ _ _ h => h) (Or.inl ⟨by rfl, ?_⟩) (by assumption) ?_
    rotate_left
    · intro W' hSw; obtain ⟨c0, c1, c2, _⟩ := hSw; go_simp; try with_reducible rfl
    try simp only [Act.put, List.setIfInBounds_toArray, List.set_cons_zero, List.set_cons_succ]
    refine wpAnyH_take (i := 2) (v := ?_) rfl (by kernel_rfl) (by kernel_rfl) (by kernel_rfl) (fun _ _ _ h => h) (Or.inl ⟨by rfl, ?_⟩) (by assumption) ?_
    rotate_left
    · intro W' hSw; obtain ⟨c0, c1, c2, _⟩ := hSw; go_simp; try with_reducible rfl
    try simp only [Act.put, List.setIfInBounds_toArray, List.set_cons_zero, List.set_cons_succ]
    refine wpAnyH_take (i := 3) (v := ?_) rfl (by kernel_rfl) (by kernel_rfl) (by kernel_rfl) (fun _ _ _ h => h) (Or.inl ⟨by rfl, ?_⟩) (by assumption) ?_
    rotate_left
    · intro W' hSw; obtain ⟨c0, c1, c2, _⟩ := hSw; go_simp; try with_reducible rfl
    try simp only [Act.put, List.setIfInBounds_toArray, List.set_cons_zero, List.set_cons_succ]
    refine wpAnyH_take (i := 4) (v := ?_) rfl (by kernel_rfl) (by kernel_rfl) (by kernel_rfl) (fun _ _ _ h => h) (Or.inl ⟨by rfl, ?_⟩) (by assumption) ?_
    rotate_left
    · intro W' hSw; obtain ⟨c0, c1, c2, _⟩ := hSw; go_simp; try with_reducible rfl
    try simp only [Act.put, List.setIfInBounds_toArray, List.set_cons_zero, List.set_cons_succ]
    refine wpAnyH_take (i := 6) (v := ?_) rfl (by kernel_rfl) (by kernel_rfl) (by kernel_rfl) (fun _ _ _ h => h) (Or.inl ⟨by rfl, ?_⟩) (by assumption) ?_
    rotate_left
    · intro W' hSw; obtain ⟨c0, c1, c2, _⟩ := hSw; go_simp; try with_reducible rfl
    try simp only [Act.put, List.setIfInBounds_toArray, List.set_cons_zero, List.set_cons_succ]
    refine wpAnyH_ready (rs := [5]) (by kernel_rfl) (by simp) ?_
    refine AllReadyH.cons rfl (fun K hK => ?_) AllReadyH.nil
    go_simp
    go_wp2_with (go_at_call 35; refine (laying_any _ _ _ (.inl ⟨_, _, rfl⟩)).mono ?_; rintro e w4 ⟨rfl, rfl⟩)
    refine hK.out _ _ (hS0 _ (.inr (Below.alloc (Below.alloc (Below.drew (Below.refl _ _)) (Nat.le_refl _) _) (by simp) _))) (fun hHeld2 => ?_)
    clear hK K hHeld
    try simp only [Act.put, List.setIfInBounds_toArray, List.set_cons_zero, List.set_cons_succ]
    refine wpAnyH_ready (rs := [7]) (by kernel_rfl) (by simp) ?_
    refine AllReadyH.cons rfl (fun K hK => ?_) AllReadyH.nil
    go_simp
    refine hK.out _ _ (hS0 _ (.inr (Below.alloc (Below.alloc (Below.alloc (Below.drew (Below.refl _ _)) (Nat.le_refl _) _) (by simp) _) (by simp; omega) _))) (fun hHeld3 => ?_)
    clear hK K hHeld2
    try simp only [Act.put, List.setIfInBounds_toArray, List.set_cons_zero, List.set_cons_succ]
    refine wpAnyH_ready (rs := [8]) (by kernel_rfl) (by simp) ?_
    refine AllReadyH.cons rfl (fun K hK => ?_) AllReadyH.nil
    go_simp
    go_wp2_with (go_at_call 34; refine hN.mono ?_; rintro e w6 ⟨rfl, hend, hlow, hcells⟩)
    refine hK.out _ _ ⟨(hcells _ _ (World.block_lt_of_cell? _ _ i0) hoff0).trans i0, (hcells _ _ (World.block_lt_of_cell? _ _ i1) hoff1).trans i1, (hcells _ _ (World.block_lt_of_cell? _ _ i2) hoff2).trans i2, trivial⟩ (fun hHeld4 => ?_)
    clear hK K hHeld3 hHeld4
    refine wpAnyH_done (by kernel_rfl) ?_ _
    go_wp2_with fail
    refine bodyPost_ret (results_none rfl _ _ _) rfl ?_
    obtain ⟨tv7, us7, jvs7, h7, h8⟩ := hend
    refine ⟨rfl, ⟨_, _, _, _, h7, by omega⟩, Hlow.out.trans hlow, fun c o hc hl => (hcells c o ?_ hc.1).trans (HAa.out.cell (p := ⟨c, o, none⟩) hl)⟩
    have := HAa.out.size; omega
  · have hN := next_ahead Hh.out Hnd.out Ht2.out ⟨_, _, _, rfl⟩ hus
    have hS0 : ∀ W' : World, W' = W1 ∨ Below W1.heap.size W1 W' → (fun W' : World => W'.cell? ⟨w.heap.size, 0, none⟩ = some (ptr p) ∧ W'.cell? ⟨w.heap.size + 1, 0, none⟩ = some (.slice (some ⟨b, o, none⟩) 1 cap) ∧ W'.cell? ⟨b, o, none⟩ = some (.nilIface) ∧ True) W' := fun W' hW => by
      rcases hW with rfl | hW
      · exact ⟨i0, i1, i2, trivial⟩
      · exact ⟨(hW.cell (World.block_lt_of_cell? _ _ i0)).trans i0, (hW.cell (World.block_lt_of_cell? _ _ i1)).trans i1, (hW.cell (World.block_lt_of_cell? _ _ i2)).trans i2, trivial⟩
    refine wp_region_held_drew (S := fun W' : World => W'.cell? ⟨w.heap.size, 0, none⟩ = some (ptr p) ∧ W'.cell? ⟨w.heap.size + 1, 0, none⟩ = some (.slice (some ⟨b, o, none⟩) 1 cap) ∧ W'.cell? ⟨b, o, none⟩ = some (.nilIface) ∧ True) hmix (hS0 _ (.inr (Below.drew (Below.refl _ _)))) (fun hHeld => ?_)
    refine wpAnyH_take (i := 0) (v := ?_) rfl (by kernel_rfl) (by kernel_rfl) (by kernel_rfl) (fun _ _ _ h => h) (Or.inl ⟨by rfl, ?_⟩) (by assumption) ?_
    rotate_left
    · intro W' hSw; obtain ⟨c0, c1, c2, _⟩ := hSw; go_simp; try with_reducible rfl
    try simp only [Act.put, List.setIfInBounds_toArray, List.set_cons_zero, List.set_cons_succ]
    refine wpAnyH_take (i := 1) (v := ?_) rfl (by kernel_rfl) (by kernel_rfl) (by kernel_rfl) (fun _ _ _ h => h) (Or.inl ⟨by rfl, ?_⟩) (by assumption) ?_
    rotate_left
    · intro W' hSw; obtain ⟨c0, c1, c2, _⟩ := hSw; go_simp; try with_reducible rfl
    try simp only [Act.put, List.setIfInBounds_toArray, List.set_cons_zero, List.set_cons_succ]
    refine wpAnyH_take (i := 2) (v := ?_) rfl (by kernel_rfl) (by kernel_rfl) (by kernel_rfl) (fun _ _ _ h => h) (Or.inl ⟨by rfl, ?_⟩) (by assumption) ?_
    rotate_left
    · intro W' hSw; obtain ⟨c0, c1, c2, _⟩ := hSw; go_simp; try with_reducible rfl
    try simp only [Act.put, List.setIfInBounds_toArray, List.set_cons_zero, List.set_cons_succ]
    refine wpAnyH_take (i := 3) (v := ?_) rfl (by kernel_rfl) (by kernel_rfl) (by kernel_rfl) (fun _ _ _ h => h) (Or.inl ⟨by rfl, ?_⟩) (by assumption) ?_
    rotate_left
    · intro W' hSw; obtain ⟨c0, c1, c2, _⟩ := hSw; go_simp; try with_reducible rfl
    try simp only [Act.put, List.setIfInBounds_toArray, List.set_cons_zero, List.set_cons_succ]
    refine wpAnyH_take (i := 4) (v := ?_) rfl (by kernel_rfl) (by kernel_rfl) (by kernel_rfl) (fun _ _ _ h => h) (Or.inl ⟨by rfl, ?_⟩) (by assumption) ?_
    rotate_left
    · intro W' hSw; obtain ⟨c0, c1, c2, _⟩ := hSw; go_simp; try with_reducible rfl
    try simp only [Act.put, List.setIfInBounds_toArray, List.set_cons_zero, List.set_cons_succ]
    refine wpAnyH_take (i := 6) (v := ?_) rfl (by kernel_rfl) (by kernel_rfl) (by kernel_rfl) (fun _ _ _ h => h) (Or.inl ⟨by rfl, ?_⟩) (by assumption) ?_
    rotate_left
    · intro W' hSw; obtain ⟨c0, c1, c2, _⟩ := hSw; go_simp; try with_reducible rfl
    try simp only [Act.put, List.setIfInBounds_toArray, List.set_cons_zero, List.set_cons_succ]
    refine wpAnyH_ready (rs := [5]) (by kernel_rfl) (by simp) ?_
    refine AllReadyH.cons rfl (fun K hK => ?_) AllReadyH.nil
    go_simp
    go_wp2_with (go_at_call 35; refine (laying_any _ _ _ (.inr rfl)).mono ?_; rintro e w4 ⟨rfl, rfl⟩)
    refine hK.out _ _ (hS0 _ (.inr (Below.alloc (Below.alloc (Below.drew (Below.refl _ _)) (Nat.le_refl _) _) (by simp) _))) (fun hHeld2 => ?_)
    clear hK K hHeld
    try simp only [Act.put, List.setIfInBounds_toArray, List.set_cons_zero, List.set_cons_succ]
    refine wpAnyH_ready (rs := [7]) (by kernel_rfl) (by simp) ?_
    refine AllReadyH.cons rfl (fun K hK => ?_) AllReadyH.nil
    go_simp
    refine hK.out _ _ (hS0 _ (.inr (Below.alloc (Below.alloc (Below.alloc (Below.drew (Below.refl _ _)) (Nat.le_refl _) _) (by simp) _) (by simp; omega) _))) (fun hHeld3 => ?_)
    clear hK K hHeld2
    try simp only [Act.put, List.setIfInBounds_toArray, List.set_cons_zero, List.set_cons_succ]
    refine wpAnyH_ready (rs := [8]) (by kernel_rfl) (by simp) ?_
    refine AllReadyH.cons rfl (fun K hK => ?_) AllReadyH.nil
    go_simp
    go_wp2_with (go_at_call 34; refine hN.mono ?_; rintro e w6 ⟨rfl, hend, hlow, hcells⟩)
    refine hK.out _ _ ⟨(hcells _ _ (World.block_lt_of_cell? _ _ i0) hoff0).trans i0, (hcells _ _ (World.block_lt_of_cell? _ _ i1) hoff1).trans i1, (hcells _ _ (World.block_lt_of_cell? _ _ i2) hoff2).trans i2, trivial⟩ (fun hHeld4 => ?_)
    clear hK K hHeld3 hHeld4
    refine wpAnyH_done (by kernel_rfl) ?_ _
    go_wp2_with fail
    refine bodyPost_ret (results_none rfl _ _ _) rfl ?_
    obtain ⟨tv7, us7, jvs7, h7, h8⟩ := hend
    refine ⟨rfl, ⟨_, _, _, _, h7, by omega⟩, Hlow.out.trans hlow, fun c o hc hl => (hcells c o ?_ hc.1).trans (HAa.out.cell (p := ⟨c, o, none⟩) hl)⟩
    have := HAa.out.size; omega
set_option linter.unusedVariables false in
set_option linter.unusedSimpArgs false in
set_option maxRecDepth 100000 in
set_option maxHeartbeats 4000000 in
theorem branches_more {B p : Nat} {l : List Inn} {g : Int} {k : Nat} {bk : Bool} {iv tv jv : Value} {ts : List CTk} {us jvs : List Value} (d : Nd) (d2 : Nd) (ds : List Nd) (js : List Nat) (a : Option Addr) (cap : Nat) (w : World) (h : Sta B p w l g k bk iv tv ts us jvs jv) (hrow : w.ownsRow B 3 1 jv js.length (jvOf js)) (hv : NdRw (OffT p iv tv (jv :: jvs)) w (d :: d2 :: ds) a cap) (hus : us.length ≤ 4000000) (hl : l.length ≤ 1000000) :
    Calls Try.prog 51 #[ptr p, .slice a (d :: d2 :: ds).length cap, jv] w fun e w' => e = .returned (.tuple #[]) ∧ (∃ iv' tv' us' jvs', Sta B p w' (l ++ [ins 1 (l.length + 1 : Nat) 0]) g k bk iv' tv' (.lay d :: .branch l.length (d2 :: ds) js :: ts) us' jvs' nilS ∧ us'.length ≤ us.length + 2) ∧ Below B w w' ∧ (∀ c o, OffT p iv tv (jv :: jvs) c → c < w.heap.size → w'.cell? ⟨c, o, none⟩ = w.cell? ⟨c, o, none⟩) := by
  have hmf : ∀ (fn : Fn) (first cap : Array Value) (w : World), (Instr.makeFunc fn first cap).run Try.prog w = .ok (.func fn first cap) w := fun _ _ _ _ => rfl
  obtain ⟨ja, jc, rfl⟩ := co_form hrow
  have hAa := (((Below.refl w.heap.size w).alloc (Nat.le_refl _) (.cells #[ptr p] 98)).alloc (by simp) (.cells #[.slice a (d :: d2 :: ds).length cap] 68)).alloc (by simp; omega) (.cells #[.slice ja js.length jc] 92)
  have hb0 := (((Boxed.new w 98 (ptr p)).alloc (.cells #[.slice a (d :: d2 :: ds).length cap] 68)).alloc (.cells #[.slice ja js.length jc] 92)).cell
  have hb1 := ((Boxed.new (w.alloc (.cells #[ptr p] 98)) 68 (.slice a (d :: d2 :: ds).length cap)).alloc (.cells #[.slice ja js.length jc] 92)).cell
  have hb2 := (Boxed.new ((w.alloc (.cells #[ptr p] 98)).alloc (.cells #[.slice a (d :: d2 :: ds).length cap] 68)) 92 (.slice ja js.length jc)).cell
  rw [World.size_alloc] at hb1
  rw [World.size_alloc, World.size_alloc] at hb2
  have hsz : (((w.alloc (.cells #[ptr p] 98)).alloc (.cells #[.slice a (d :: d2 :: ds).length cap] 68)).alloc (.cells #[.slice ja js.length jc] 92)).heap.size = w.heap.size + 3 := by simp
  generalize hW1 : ((w.alloc (.cells #[ptr p] 98)).alloc (.cells #[.slice a (d :: d2 :: ds).length cap] 68)).alloc (.cells #[.slice ja js.length jc] 92) = W1 at *
  have hS1 := h.below hAa
  have hlow1 := (CStep.of_below (p := p) (iv := iv) (tv := tv) hAa).low h.bld
  obtain ⟨n, hn⟩ : ∃ n, (d :: d2 :: ds).length = n := ⟨_, rfl⟩
  have hv1 := hv.below hAa
  obtain ⟨b, o, rfl, hFb, hbl, hx⟩ := hv1.2.2 (by simp)
  obtain ⟨u, hu, hnd⟩ := hx 0 (by simp)
  have hu' : W1.cell? ⟨b, o, none⟩ = some u := hu
  have hsh : (∃ T q, u = .iface T q) ∨ u = .nilIface := hnd.elim fun _ h => nd_shape h
  have ho0 := h.offNew (y := w.heap.size) (Nat.le_refl _)
  have ho1 := h.offNew (y := w.heap.size + 1) (by omega)
  have ho2 := h.offNew (y := w.heap.size + 2) (by omega)
  have hrow1 := nd_own_below hrow hAa
  have HAa := Lib.hid hAa
  have Hh := Lib.hid hS1
  have Hnd := Lib.hid hnd
  have Hv1 := Lib.hid hv1
  have Hrow := Lib.hid hrow1
  have Hlow := Lib.hid hlow1
  have Hb2 := Lib.hid hb2
  have Ho0 := Lib.hid ho0
  have Ho1 := Lib.hid ho1
  have Ho2 := Lib.hid ho2
  have HFb := Lib.hid hFb
  have hnl : ((n : Int) == 1) = false := by
    have : n = (ds.length + 1) + 1 := by rw [← hn]; rfl
    simp; omega
  have hlp : (0 : Int) < (n : Int) := by
    have : n = (ds.length + 1) + 1 := by rw [← hn]; rfl
    omega
  have hln : 0 < n := by
    have : n = (ds.length + 1) + 1 := by rw [← hn]; rfl
    omega
  obtain ⟨X, hX⟩ : ∃ X, l.length + 1 = X := ⟨_, rfl⟩
  rw [hX]
  have Wl : IntKind.i64.wrap ((l.length : Int) + 1) = (X : Int) := by rw [IntWalk.i64_in _ (by omega)]; omega
  rw [hn] at hb1 hW1
  rw [hn]
  have hall : W1.cell? ⟨w.heap.size, 0, none⟩ = some (ptr p) ∧ W1.cell? ⟨w.heap.size + 1, 0, none⟩ = some (.slice (some ⟨b, o, none⟩) n cap) ∧ W1.cell? ⟨b, o, none⟩ = some u ∧ True := ⟨hb0, hb1, hu', trivial⟩
  have Hn := Lib.hid hn
  clear h hv hv1 hx hnd hS1 hlow1 hFb hb0 hb1 hb2 hu hu' ho0 ho1 ho2 hrow hrow1 hAa hn hX
  go_enter Try.func51, Try.ntmps51
  have hcell := hall.2.1
  go_upto_region 3 with fail
  clear hcell hW1
  have hmix : Try.prog.follows .mixedOrders = true := by kernel_rfl
  have HSZ := Lib.hid hsz
  have Hall := Lib.hid hall
  have i0 := hall.1
  have p0 := Hh.out.bld.cells.c0
  obtain ⟨ia, ic, hia⟩ := co_form Hh.out.bld.io
  rw [hia] at p0
  have q0 : W1.drew.cell? ⟨p, 0, none⟩ = some (.slice ia l.length ic) := p0
  have hbw : w.heap.size < W1.heap.size := by omega
  have hpw := Hh.out.bld.blk.lt
  have Hia := Lib.hid hia
  clear hsz hall hia hbl
  have hS0 : ∀ W' : World, (W' = W1 ∨ Below W1.heap.size W1 W') → (fun W' : World => W'.cell? ⟨w.heap.size, 0, none⟩ = some (ptr p) ∧ True) W' := fun W' hW => by
    rcases hW with rfl | hW
    · exact ⟨i0, trivial⟩
    · exact ⟨(hW.cell hbw).trans i0, trivial⟩
  have hS0' : ∀ (W' W'' : World) (iv2 : Value), CStep p W' iv tv W'' iv2 tv → Below W1.heap.size W1 W' → (fun W' : World => W'.cell? ⟨w.heap.size, 0, none⟩ = some (ptr p) ∧ True) W'' := fun W' W'' iv2 hC hW =>
    ⟨((hC.keep w.heap.size Ho0.out.1 (by have := hW.size; omega)).2 0).trans ((hW.cell hbw).trans i0), trivial⟩
  go_cut [6] (fun s6 wx => ∃ (z : Nat) (iv2 : Value), s6 = ptr z ∧ SplB B p W1 l g k bk iv tv ts us jvs (.slice ja js.length jc) (ins 1 (X : Int) 0) wx z iv2)
  case first =>
    refine wp_region_held_drew (S := fun W' : World => W'.cell? ⟨w.heap.size, 0, none⟩ = some (ptr p) ∧ True) hmix (hS0 _ (.inr (Below.drew (Below.refl _ _)))) (fun hHeld => ?_)
    refine wpAnyH_take (i := 0) (v := ?_) rfl (by kernel_rfl) (by kernel_rfl) (by kernel_rfl) (fun _ _ _ h => h) (Or.inl ⟨by rfl, ?_⟩) (by assumption) ?_
    rotate_left
    · intro W' hSw; obtain ⟨c0, _⟩ := hSw; go_simp; try with_reducible rfl
    try simp only [Act.put, List.setIfInBounds_toArray, List.set_cons_zero, List.set_cons_succ]
    refine wpAnyH_take (i := 1) (v := ?_) rfl (by kernel_rfl) (by kernel_rfl) (by kernel_rfl) (fun _ _ _ h => h) (Or.inl ⟨by rfl, ?_⟩) (by assumption) ?_
    rotate_left
    · intro W' hSw; obtain ⟨c0, _⟩ := hSw; go_simp; try with_reducible rfl
    try simp only [Act.put, List.setIfInBounds_toArray, List.set_cons_zero, List.set_cons_succ]
    refine wpAnyH_take (i := 2) (v := ?_) rfl (by kernel_rfl) (by kernel_rfl) (by kernel_rfl) (fun _ _ _ h => h) (Or.inl ⟨by rfl, ?_⟩) (by assumption) ?_
    rotate_left
    · intro W' hSw; obtain ⟨c0, _⟩ := hSw; go_simp; try with_reducible rfl
    try simp only [Act.put, List.setIfInBounds_toArray, List.set_cons_zero, List.set_cons_succ]
    refine wpAnyH_take (i := 3) (v := ?_) rfl (by kernel_rfl) (by kernel_rfl) (by kernel_rfl) (fun _ _ _ h => h) (Or.inl ⟨by rfl, ?_⟩) (by assumption) ?_
    rotate_left
    · intro W' hSw; obtain ⟨c0, _⟩ := hSw; go_simp; try with_reducible rfl
    try simp only [Act.put, List.setIfInBounds_toArray, List.set_cons_zero, List.set_cons_succ]
    refine wpAnyH_take (i := 4) (v := ?_) rfl (by kernel_rfl) (by kernel_rfl) (by kernel_rfl) (fun _ _ _ h => h) (Or.inl ⟨by rfl, ?_⟩) (by assumption) ?_
    rotate_left
    · intro W' hSw; obtain ⟨c0, _⟩ := hSw; go_simp; try with_reducible rfl
    try simp only [Act.put, List.setIfInBounds_toArray, List.set_cons_zero, List.set_cons_succ]
    refine wpAnyH_ready (rs := [5, 10]) (by kernel_rfl) (by simp) ?_
    refine AllReadyH.cons rfl (fun K hK => ?_) ?_
    · go_simp
      refine hK.out _ _ (hS0 _ (.inr (Below.drew (Below.refl _ _)))) (fun hHeld2 => ?_)
      clear hK K hHeld
      try simp only [Act.put, List.setIfInBounds_toArray, List.set_cons_zero, List.set_cons_succ]
      refine wpAnyH_take (i := 6) (v := ?_) rfl (by kernel_rfl) (by kernel_rfl) (by kernel_rfl) (fun _ _ _ h => h) (Or.inl ⟨by rfl, ?_⟩) (by assumption) ?_
      rotate_left
      · intro W' hSw; obtain ⟨c0, _⟩ := hSw; go_simp; try with_reducible rfl
      try simp only [Act.put, List.setIfInBounds_toArray, List.set_cons_zero, List.set_cons_succ]
      refine wpAnyH_take (i := 7) (v := ?_) rfl (by kernel_rfl) (by kernel_rfl) (by kernel_rfl) (fun _ _ _ h => h) (Or.inl ⟨by rfl, ?_⟩) (by assumption) ?_
      rotate_left
      · intro W' hSw; obtain ⟨c0, _⟩ := hSw; go_simp; try with_reducible rfl
      try simp only [Act.put, List.setIfInBounds_toArray, List.set_cons_zero, List.set_cons_succ]
      refine wpAnyH_take (i := 8) (v := ?_) rfl (by kernel_rfl) (by kernel_rfl) (by kernel_rfl) (fun _ _ _ h => h) (Or.inl ⟨by rfl, ?_⟩) (by assumption) ?_
      rotate_left
      · intro W' hSw; obtain ⟨c0, _⟩ := hSw; go_simp; try with_reducible rfl
      try simp only [Act.put, List.setIfInBounds_toArray, List.set_cons_zero, List.set_cons_succ]
      refine wpAnyH_ready (rs := [9, 10]) (by kernel_rfl) (by simp) ?_
      refine AllReadyH.cons rfl (fun K hK => ?_) ?_
      · go_simp
        go_wp2_with (go_at_call 22; refine (lay_ins 1 (X : Int) 0 W1.drew (Hh.out.bld.below (Below.drew (Below.refl _ _))) (by omega)).mono ?_; rintro e w2 ⟨rfl, iv2, hB2, hC2, _⟩)
        refine hK.out _ _ (hS0' _ _ _ hC2 (Below.drew (Below.refl _ _))) (fun hHeld3 => ?_)
        clear hK K hHeld2
        try simp only [Act.put, List.setIfInBounds_toArray, List.set_cons_zero, List.set_cons_succ]
        refine wpAnyH_ready (rs := [10]) (by kernel_rfl) (by simp) ?_
        refine AllReadyH.cons rfl (fun K hK => ?_) AllReadyH.nil
        go_simp
        refine hK.out _ _ (hS0' _ _ _ (hC2.trans (CStep.of_below (Below.alloc (Below.refl _ _) (Nat.le_refl _) _))) (Below.drew (Below.refl _ _))) (fun hHeld4 => ?_)
        clear hK K hHeld3
        try simp only [Act.put, List.setIfInBounds_toArray, List.set_cons_zero, List.set_cons_succ]
        refine wpAnyH_ready (rs := [11]) (by kernel_rfl) (by simp) ?_
        refine AllReadyH.cons rfl (fun K hK => ?_) AllReadyH.nil
        go_simp
        refine hK.out _ _ (hS0' _ _ _ (hC2.trans (CStep.of_below (Below.alloc (Below.refl _ _) (Nat.le_refl _) _))) (Below.drew (Below.refl _ _))) (fun hHeld5 => ?_)
        clear hK K hHeld4
        try simp only [Act.put, List.setIfInBounds_toArray, List.set_cons_zero, List.set_cons_succ]
        refine wpAnyH_done (by kernel_rfl) ?_ _
        go_wp2_with fail
        go_meet
        exact ⟨_, _, rfl, spl_after 3 Hh.out hB2 hC2⟩
      refine AllReadyH.cons rfl (fun K hK => ?_) AllReadyH.nil
      · go_simp
        refine hK.out _ _ (hS0 _ (.inr (Below.alloc (Below.drew (Below.refl _ _)) (Nat.le_refl _) _))) (fun hHeld3 => ?_)
        clear hK K hHeld2
        try simp only [Act.put, List.setIfInBounds_toArray, List.set_cons_zero, List.set_cons_succ]
        refine wpAnyH_ready (rs := [9]) (by kernel_rfl) (by simp) ?_
        refine AllReadyH.cons rfl (fun K hK => ?_) AllReadyH.nil
        go_simp
        go_wp2_with (go_at_call 22; refine (lay_ins 1 (X : Int) 0 (W1.drew.alloc (.cells #[.int .i64 0] 3)) (Hh.out.bld.below (Below.alloc (Below.drew (Below.refl _ _)) (Nat.le_refl _) _)) (by omega)).mono ?_; rintro e w2 ⟨rfl, iv2, hB2, hC2, _⟩)
        refine hK.out _ _ (hS0' _ _ _ hC2 (Below.alloc (Below.drew (Below.refl _ _)) (Nat.le_refl _) _)) (fun hHeld6 => ?_)
        clear hK K hHeld3
        try simp only [Act.put, List.setIfInBounds_toArray, List.set_cons_zero, List.set_cons_succ]
        obtain ⟨e1, e2, e3⟩ := spl_ahead 3 Hh.out hB2 hC2
        refine wpAnyH_ready (rs := [11]) (by kernel_rfl) (by simp) ?_
        refine AllReadyH.cons rfl (fun K hK => ?_) AllReadyH.nil
        go_simp
        refine hK.out _ _ (⟨((e3.keep _ Ho0.out hbw).2 0).trans i0, trivial⟩) (fun hHeld7 => ?_)
        clear hK K hHeld6
        try simp only [Act.put, List.setIfInBounds_toArray, List.set_cons_zero, List.set_cons_succ]
        refine wpAnyH_done (by kernel_rfl) ?_ _
        go_wp2_with fail
        go_meet
        exact ⟨_, _, rfl, e3⟩
    refine AllReadyH.cons rfl (fun K hK => ?_) AllReadyH.nil
    · go_simp
      refine hK.out _ _ (hS0 _ (.inr (Below.alloc (Below.drew (Below.refl _ _)) (Nat.le_refl _) _))) (fun hHeld2 => ?_)
      clear hK K hHeld
      try simp only [Act.put, List.setIfInBounds_toArray, List.set_cons_zero, List.set_cons_succ]
      refine wpAnyH_ready (rs := [5]) (by kernel_rfl) (by simp) ?_
      refine AllReadyH.cons rfl (fun K hK => ?_) AllReadyH.nil
      go_simp
      refine hK.out _ _ (hS0 _ (.inr (Below.alloc (Below.drew (Below.refl _ _)) (Nat.le_refl _) _))) (fun hHeld3 => ?_)
      clear hK K hHeld2
      try simp only [Act.put, List.setIfInBounds_toArray, List.set_cons_zero, List.set_cons_succ]
      refine wpAnyH_take (i := 6) (v := ?_) rfl (by kernel_rfl) (by kernel_rfl) (by kernel_rfl) (fun _ _ _ h => h) (Or.inl ⟨by rfl, ?_⟩) (by assumption) ?_
      rotate_left
      · intro W' hSw; obtain ⟨c0, _⟩ := hSw; go_simp; try with_reducible rfl
      try simp only [Act.put, List.setIfInBounds_toArray, List.set_cons_zero, List.set_cons_succ]
      refine wpAnyH_take (i := 7) (v := ?_) rfl (by kernel_rfl) (by kernel_rfl) (by kernel_rfl) (fun _ _ _ h => h) (Or.inl ⟨by rfl, ?_⟩) (by assumption) ?_
      rotate_left
      · intro W' hSw; obtain ⟨c0, _⟩ := hSw; go_simp; try with_reducible rfl
      try simp only [Act.put, List.setIfInBounds_toArray, List.set_cons_zero, List.set_cons_succ]
      refine wpAnyH_take (i := 8) (v := ?_) rfl (by kernel_rfl) (by kernel_rfl) (by kernel_rfl) (fun _ _ _ h => h) (Or.inl ⟨by rfl, ?_⟩) (by assumption) ?_
      rotate_left
      · intro W' hSw; obtain ⟨c0, _⟩ := hSw; go_simp; try with_reducible rfl
      try simp only [Act.put, List.setIfInBounds_toArray, List.set_cons_zero, List.set_cons_succ]
      refine wpAnyH_ready (rs := [9]) (by kernel_rfl) (by simp) ?_
      refine AllReadyH.cons rfl (fun K hK => ?_) AllReadyH.nil
      go_simp
      go_wp2_with (go_at_call 22; refine (lay_ins 1 (X : Int) 0 (W1.drew.alloc (.cells #[.int .i64 0] 3)) (Hh.out.bld.below (Below.alloc (Below.drew (Below.refl _ _)) (Nat.le_refl _) _)) (by omega)).mono ?_; rintro e w2 ⟨rfl, iv2, hB2, hC2, _⟩)
      refine hK.out _ _ (hS0' _ _ _ hC2 (Below.alloc (Below.drew (Below.refl _ _)) (Nat.le_refl _) _)) (fun hHeld6 => ?_)
      clear hK K hHeld3
      try simp only [Act.put, List.setIfInBounds_toArray, List.set_cons_zero, List.set_cons_succ]
      obtain ⟨e1, e2, e3⟩ := spl_ahead 3 Hh.out hB2 hC2
      refine wpAnyH_ready (rs := [11]) (by kernel_rfl) (by simp) ?_
      refine AllReadyH.cons rfl (fun K hK => ?_) AllReadyH.nil
      go_simp
      refine hK.out _ _ (⟨((e3.keep _ Ho0.out hbw).2 0).trans i0, trivial⟩) (fun hHeld7 => ?_)
      clear hK K hHeld6
      try simp only [Act.put, List.setIfInBounds_toArray, List.set_cons_zero, List.set_cons_succ]
      refine wpAnyH_done (by kernel_rfl) ?_ _
      go_wp2_with fail
      go_meet
      exact ⟨_, _, rfl, e3⟩
  case rest =>
    obtain ⟨z, iv2, rfl, hE⟩ := hcut
    have hsz := HSZ.out
    obtain ⟨_, i1, i2, _⟩ := Hall.out
    have hbl := World.block_lt_of_cell? _ _ i2
    have hbw1 : w.heap.size + 1 < W1.heap.size := by omega
    have hbw2 : w.heap.size + 2 < W1.heap.size := by omega
    obtain ⟨o0, k0⟩ := hE.keep _ Ho0.out hbw
    obtain ⟨o1, k1⟩ := hE.keep _ Ho1.out hbw1
    obtain ⟨o2, k2⟩ := hE.keep _ Ho2.out hbw2
    obtain ⟨ob, kb⟩ := hE.keep _ HFb.out hbl
    have m0 := (k0 0).trans i0
    have m1 := (k1 0).trans i1
    have m2 := (kb o).trans i2
    have m3 := (k2 0).trans Hb2.out
    have hnd2 := Hnd.out.keep hE.size hE.keep
    have hv2 := Hv1.out.keep hE.size hE.keep
    have hrow2 := own_row_same Hrow.out hE.xb
    have hsize := hE.size
    rw [← Hn.out] at m1
    have ht2 : TkAt B p (OffT p iv2 tv (.slice ja js.length jc :: jvs)) wc (.branch l.length (d2 :: ds) js) (Value.func (.func 56) #[] #[ptr w.heap.size, ptr z, ptr (w.heap.size + 1), ptr (w.heap.size + 2)]) (.slice ja js.length jc) :=
      ⟨hrow2, _, _, _, _, _, _, d, rfl, ⟨o0, by omega, m0⟩, ⟨hE.off, hE.lt, hE.cell⟩, ⟨o1, by omega, m1⟩, hv2, ⟨o2, by omega, m3⟩⟩
    rw [Hn.out] at m1
    have hlow3 := Hlow.out.trans hE.low
    have Hh2 := Lib.hid hE.sta
    have HE := Lib.hid hE
    have Hnd2 := Lib.hid hnd2
    have Ht2 := Lib.hid ht2
    have Hlow2 := Lib.hid hlow3
    have hoff0 := o0.1
    have hoff1 := o1.1
    have hoff2 := ob.1
    clear i0 i1 i2 m3 p0 q0 hS0 hS0' hE hnd2 hv2 hrow2 ht2 hlow3 k0 k1 k2 kb o0 o1 o2 ob hbw hbw1 hbw2 hbl hsz hsize
    have i0 := m0
    have i1 := m1
    have i2 := m2
    clear m0 m1 m2
    go_upto_region 4 with fail
    rcases hsh with ⟨T, q, rfl⟩ | rfl
    · have hN := next_ahead Hh2.out Hnd2.out Ht2.out ⟨_, _, _, rfl⟩ hus
      have hS0 : ∀ W' : World, W' = wc ∨ Below wc.heap.size wc W' → (fun W' : World => W'.cell? ⟨w.heap.size, 0, none⟩ = some (ptr p) ∧ W'.cell? ⟨w.heap.size + 1, 0, none⟩ = some (.slice (some ⟨b, o, none⟩) n cap) ∧ W'.cell? ⟨b, o, none⟩ = some (.iface T q) ∧ True) W' := fun W' hW => by
        rcases hW with rfl | hW
        · exact ⟨i0, i1, i2, trivial⟩
        · exact ⟨(hW.cell (World.block_lt_of_cell? _ _ i0)).trans i0, (hW.cell (World.block_lt_of_cell? _ _ i1)).trans i1, (hW.cell (World.block_lt_of_cell? _ _ i2)).trans i2, trivial⟩
      refine wp_region_held_drew (S := fun W' : World => W'.cell? ⟨w.heap.size, 0, none⟩ = some (ptr p) ∧ W'.cell? ⟨w.heap.size + 1, 0, none⟩ = some (.slice (some ⟨b, o, none⟩) n cap) ∧ W'.cell? ⟨b, o, none⟩ = some (.iface T q) ∧ True) hmix (hS0 _ (.inr (Below.drew (Below.refl _ _)))) (fun hHeld => ?_)
      refine wpAnyH_take (i := 0) (v := ?_) rfl (by kernel_rfl) (by kernel_rfl) (by kernel_rfl) (fun _ _ _ h => h) (Or.inl ⟨by rfl, ?_⟩) (by assumption) ?_
      rotate_left
      · intro W' hSw; obtain ⟨c0, c1, c2, _⟩ := hSw; go_simp; try with_reducible rfl
      try simp only [Act.put, List.setIfInBounds_toArray, List.set_cons_zero, List.set_cons_succ]
      refine wpAnyH_take (i := 1) (v := ?_) rfl (by kernel_rfl) (by kernel_rfl) (by kernel_rfl) (fun _ _ _ h => h) (Or.inl ⟨by rfl, ?_⟩) (by assumption) ?_
      rotate_left
      · intro W' hSw; obtain ⟨c0, c1, c2, _⟩ := hSw; go_simp; try with_reducible rfl
      try simp only [Act.put, List.setIfInBounds_toArray, List.set_cons_zero, List.set_cons_succ]
      refine wpAnyH_take (i := 2) (v := ?_) rfl (by kernel_rfl) (by kernel_rfl) (by kernel_rfl) (fun _ _ _ h => h) (Or.inl ⟨by rfl, ?_⟩) (by assumption) ?_
      rotate_left
      · intro W' hSw; obtain ⟨c0, c1, c2, _⟩ := hSw; go_simp; try with_reducible rfl
      try simp only [Act.put, List.setIfInBounds_toArray, List.set_cons_zero, List.set_cons_succ]
      refine wpAnyH_take (i := 3) (v := ?_) rfl (by kernel_rfl) (by kernel_rfl) (by kernel_rfl) (fun _ _ _ h => h) (Or.inl ⟨by rfl, ?_⟩) (by assumption) ?_
      rotate_left
      · intro W' hSw; obtain ⟨c0, c1, c2, _⟩ := hSw; go_simp; try with_reducible rfl
      try simp only [Act.put, List.setIfInBounds_toArray, List.set_cons_zero, List.set_cons_succ]
      refine wpAnyH_take (i := 4) (v := ?_) rfl (by kernel_rfl) (by kernel_rfl) (by kernel_rfl) (fun _ _ _ h => h) (Or.inl ⟨by rfl, ?_⟩) (by assumption) ?_
      rotate_left
      · intro W' hSw; obtain ⟨c0, c1, c2, _⟩ := hSw; go_simp; try with_reducible rfl
      try simp only [Act.put, List.setIfInBounds_toArray, List.set_cons_zero, List.set_cons_succ]
      refine wpAnyH_take (i := 6) (v := ?_) rfl (by kernel_rfl) (by kernel_rfl) (by kernel_rfl) (fun _ _ _ h => h) (Or.inl ⟨by rfl, ?_⟩) (by assumption) ?_
      rotate_left
      · intro W' hSw; obtain ⟨c0, c1, c2, _⟩ := hSw; go_simp; try with_reducible rfl
      try simp only [Act.put, List.setIfInBounds_toArray, List.set_cons_zero, List.set_cons_succ]
      refine wpAnyH_ready (rs := [5]) (by kernel_rfl) (by simp) ?_
      refine AllReadyH.cons rfl (fun K hK => ?_) AllReadyH.nil
      go_simp
      go_wp2_with (go_at_call 35; refine (laying_any _ _ _ (.inl ⟨_, _, rfl⟩)).mono ?_; rintro e w4 ⟨rfl, rfl⟩)
      refine hK.out _ _ (hS0 _ (.inr (Below.alloc (Below.alloc (Below.drew (Below.refl _ _)) (Nat.le_refl _) _) (by simp) _))) (fun hHeld2 => ?_)
      clear hK K hHeld
      try simp only [Act.put, List.setIfInBounds_toArray, List.set_cons_zero, List.set_cons_succ]
      refine wpAnyH_ready (rs := [7]) (by kernel_rfl) (by simp) ?_
      refine AllReadyH.cons rfl (fun K hK => ?_) AllReadyH.nil
      go_simp
      refine hK.out _ _ (hS0 _ (.inr (Below.alloc (Below.alloc (Below.alloc (Below.drew (Below.refl _ _)) (Nat.le_refl _) _) (by simp) _) (by simp; omega) _))) (fun hHeld3 => ?_)
      clear hK K hHeld2
      try simp only [Act.put, List.setIfInBounds_toArray, List.set_cons_zero, List.set_cons_succ]
      refine wpAnyH_ready (rs := [8]) (by kernel_rfl) (by simp) ?_
      refine AllReadyH.cons rfl (fun K hK => ?_) AllReadyH.nil
      go_simp
      go_wp2_with (go_at_call 34; refine hN.mono ?_; rintro e w6 ⟨rfl, hend, hlow, hcells⟩)
      refine hK.out _ _ ⟨(hcells _ _ (World.block_lt_of_cell? _ _ i0) hoff0).trans i0, (hcells _ _ (World.block_lt_of_cell? _ _ i1) hoff1).trans i1, (hcells _ _ (World.block_lt_of_cell? _ _ i2) hoff2).trans i2, trivial⟩ (fun hHeld4 => ?_)
      clear hK K hHeld3 hHeld4
      refine wpAnyH_done (by kernel_rfl) ?_ _
      go_wp2_with fail
      go_end0
      obtain ⟨tv7, us7, jvs7, h7, h8⟩ := hend
      refine ⟨rfl, ⟨_, _, _, _, h7, by omega⟩, Hlow2.out.trans hlow, fun c o hc hl => ?_⟩
      have hl1 := Nat.lt_of_lt_of_le hl HAa.out.size
      obtain ⟨hc2, hce⟩ := HE.out.keep c hc hl1
      exact ((hcells c o (Nat.lt_of_lt_of_le hl1 HE.out.size) hc2.1).trans (hce o)).trans (HAa.out.cell (p := ⟨c, o, none⟩) hl)
    · have hN := next_ahead Hh2.out Hnd2.out Ht2.out ⟨_, _, _, rfl⟩ hus
      have hS0 : ∀ W' : World, W' = wc ∨ Below wc.heap.size wc W' → (fun W' : World => W'.cell? ⟨w.heap.size, 0, none⟩ = some (ptr p) ∧ W'.cell? ⟨w.heap.size + 1, 0, none⟩ = some (.slice (some ⟨b, o, none⟩) n cap) ∧ W'.cell? ⟨b, o, none⟩ = some (.nilIface) ∧ True) W' := fun W' hW => by
        rcases hW with rfl | hW
        · exact ⟨i0, i1, i2, trivial⟩
        · exact ⟨(hW.cell (World.block_lt_of_cell? _ _ i0)).trans i0, (hW.cell (World.block_lt_of_cell? _ _ i1)).trans i1, (hW.cell (World.block_lt_of_cell? _ _ i2)).trans i2, trivial⟩
      refine wp_region_held_drew (S := fun W' : World => W'.cell? ⟨w.heap.size, 0, none⟩ = some (ptr p) ∧ W'.cell? ⟨w.heap.size + 1, 0, none⟩ = some (.slice (some ⟨b, o, none⟩) n cap) ∧ W'.cell? ⟨b, o, none⟩ = some (.nilIface) ∧ True) hmix (hS0 _ (.inr (Below.drew (Below.refl _ _)))) (fun hHeld => ?_)
      refine wpAnyH_take (i := 0) (v := ?_) rfl (by kernel_rfl) (by kernel_rfl) (by kernel_rfl) (fun _ _ _ h => h) (Or.inl ⟨by rfl, ?_⟩) (by assumption) ?_
      rotate_left
      · intro W' hSw; obtain ⟨c0, c1, c2, _⟩ := hSw; go_simp; try with_reducible rfl
      try simp only [Act.put, List.setIfInBounds_toArray, List.set_cons_zero, List.set_cons_succ]
      refine wpAnyH_take (i := 1) (v := ?_) rfl (by kernel_rfl) (by kernel_rfl) (by kernel_rfl) (fun _ _ _ h => h) (Or.inl ⟨by rfl, ?_⟩) (by assumption) ?_
      rotate_left
      · intro W' hSw; obtain ⟨c0, c1, c2, _⟩ := hSw; go_simp; try with_reducible rfl
      try simp only [Act.put, List.setIfInBounds_toArray, List.set_cons_zero, List.set_cons_succ]
      refine wpAnyH_take (i := 2) (v := ?_) rfl (by kernel_rfl) (by kernel_rfl) (by kernel_rfl) (fun _ _ _ h => h) (Or.inl ⟨by rfl, ?_⟩) (by assumption) ?_
      rotate_left
      · intro W' hSw; obtain ⟨c0, c1, c2, _⟩ := hSw; go_simp; try with_reducible rfl
      try simp only [Act.put, List.setIfInBounds_toArray, List.set_cons_zero, List.set_cons_succ]
      refine wpAnyH_take (i := 3) (v := ?_) rfl (by kernel_rfl) (by kernel_rfl) (by kernel_rfl) (fun _ _ _ h => h) (Or.inl ⟨by rfl, ?_⟩) (by assumption) ?_
      rotate_left
      · intro W' hSw; obtain ⟨c0, c1, c2, _⟩ := hSw; go_simp; try with_reducible rfl
      try simp only [Act.put, List.setIfInBounds_toArray, List.set_cons_zero, List.set_cons_succ]
      refine wpAnyH_take (i := 4) (v := ?_) rfl (by kernel_rfl) (by kernel_rfl) (by kernel_rfl) (fun _ _ _ h => h) (Or.inl ⟨by rfl, ?_⟩) (by assumption) ?_
      rotate_left
      · intro W' hSw; obtain ⟨c0, c1, c2, _⟩ := hSw; go_simp; try with_reducible rfl
      try simp only [Act.put, List.setIfInBounds_toArray, List.set_cons_zero, List.set_cons_succ]
      refine wpAnyH_take (i := 6) (v := ?_) rfl (by kernel_rfl) (by kernel_rfl) (by kernel_rfl) (fun _ _ _ h => h) (Or.inl ⟨by rfl, ?_⟩) (by assumption) ?_
      rotate_left
      · intro W' hSw; obtain ⟨c0, c1, c2, _⟩ := hSw; go_simp; try with_reducible rfl
      try simp only [Act.put, List.setIfInBounds_toArray, List.set_cons_zero, List.set_cons_succ]
      refine wpAnyH_ready (rs := [5]) (by kernel_rfl) (by simp) ?_
      refine AllReadyH.cons rfl (fun K hK => ?_) AllReadyH.nil
      go_simp
      go_wp2_with (go_at_call 35; refine (laying_any _ _ _ (.inr rfl)).mono ?_; rintro e w4 ⟨rfl, rfl⟩)
      refine hK.out _ _ (hS0 _ (.inr (Below.alloc (Below.alloc (Below.drew (Below.refl _ _)) (Nat.le_refl _) _) (by simp) _))) (fun hHeld2 => ?_)
      clear hK K hHeld
      try simp only [Act.put, List.setIfInBounds_toArray, List.set_cons_zero, List.set_cons_succ]
      refine wpAnyH_ready (rs := [7]) (by kernel_rfl) (by simp) ?_
      refine AllReadyH.cons rfl (fun K hK => ?_) AllReadyH.nil
      go_simp
      refine hK.out _ _ (hS0 _ (.inr (Below.alloc (Below.alloc (Below.alloc (Below.drew (Below.refl _ _)) (Nat.le_refl _) _) (by simp) _) (by simp; omega) _))) (fun hHeld3 => ?_)
      clear hK K hHeld2
      try simp only [Act.put, List.setIfInBounds_toArray, List.set_cons_zero, List.set_cons_succ]
      refine wpAnyH_ready (rs := [8]) (by kernel_rfl) (by simp) ?_
      refine AllReadyH.cons rfl (fun K hK => ?_) AllReadyH.nil
      go_simp
      go_wp2_with (go_at_call 34; refine hN.mono ?_; rintro e w6 ⟨rfl, hend, hlow, hcells⟩)
      refine hK.out _ _ ⟨(hcells _ _ (World.block_lt_of_cell? _ _ i0) hoff0).trans i0, (hcells _ _ (World.block_lt_of_cell? _ _ i1) hoff1).trans i1, (hcells _ _ (World.block_lt_of_cell? _ _ i2) hoff2).trans i2, trivial⟩ (fun hHeld4 => ?_)
      clear hK K hHeld3 hHeld4
      refine wpAnyH_done (by kernel_rfl) ?_ _
      go_wp2_with fail
      go_end0
      obtain ⟨tv7, us7, jvs7, h7, h8⟩ := hend
      refine ⟨rfl, ⟨_, _, _, _, h7, by omega⟩, Hlow2.out.trans hlow, fun c o hc hl => ?_⟩
      have hl1 := Nat.lt_of_lt_of_le hl HAa.out.size
      obtain ⟨hc2, hce⟩ := HE.out.keep c hc hl1
      exact ((hcells c o (Nat.lt_of_lt_of_le hl1 HE.out.size) hc2.1).trans (hce o)).trans (HAa.out.cell (p := ⟨c, o, none⟩) hl)
theorem branches_any {B p : Nat} {l : List Inn} {g : Int} {k : Nat} {bk : Bool} {iv tv jv : Value} {ts : List CTk} {us jvs : List Value} (ds : List Nd) (js : List Nat) (a : Option Addr) (cap : Nat) (w : World) (h : Sta B p w l g k bk iv tv ts us jvs jv) (hrow : w.ownsRow B 3 1 jv js.length (jvOf js)) (hv : NdRw (OffT p iv tv (jv :: jvs)) w ds a cap) (hds : ds ≠ []) (hus : us.length ≤ 4000000) (hl : l.length ≤ 1000000) :
    Calls Try.prog 51 #[ptr p, .slice a ds.length cap, jv] w fun e w' => e = .returned (.tuple #[]) ∧ (∃ iv' tv' us' jvs', Sta B p w' (brSt ds js l).1 g k bk iv' tv' ((brSt ds js l).2 ++ ts) us' jvs' nilS ∧ us'.length ≤ us.length + 2) ∧ Below B w w' ∧ (∀ c o, OffT p iv tv (jv :: jvs) c → c < w.heap.size → w'.cell? ⟨c, o, none⟩ = w.cell? ⟨c, o, none⟩) := by
  match ds, hds with
  | [d], _ => exact branches_one d js a cap w h hrow hv hus hl
  | d :: d2 :: ds, _ => exact branches_more d d2 ds js a cap w h hrow hv hus hl
end Go.Proofs.Ytihfenkphhnbcaa
