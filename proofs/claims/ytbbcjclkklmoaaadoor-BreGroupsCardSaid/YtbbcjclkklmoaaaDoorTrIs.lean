/- Is: whether the program's node is the document's. -/
import Derived.Test.YtbbcjclkklmoaaaDoorTrRef
import Derived.Test.YtbbcjclkklmoaaaDoorNdPrS
namespace Go.Proofs.YtbbcjclkklmoaaaDoor
open Go Go.RowKit

abbrev R9 (w' : World) (p : Nat) (t : Tr) (a : Option Addr) (ca : Nat) : Prop :=
  w'.cell? ⟨p, 0, none⟩ = some (.int .i64 t.kind) ∧ w'.cell? ⟨p, 1, none⟩ = some (.int .u64 (ow t.set 0)) ∧ w'.cell? ⟨p, 2, none⟩ = some (.int .u64 (ow t.set 1)) ∧ w'.cell? ⟨p, 3, none⟩ = some (.int .u64 (ow t.set 2)) ∧ w'.cell? ⟨p, 4, none⟩ = some (.int .u64 (ow t.set 3)) ∧
    w'.cell? ⟨p, 5, none⟩ = some (.slice a t.parts.length ca) ∧ w'.cell? ⟨p, 6, none⟩ = some (.int .i64 t.mn) ∧ w'.cell? ⟨p, 7, none⟩ = some (.int .i64 t.mx) ∧ w'.cell? ⟨p, 8, none⟩ = some (.int .i64 t.num)
structure HoldI (w4 : World) (p : Nat) (t : Tr) (a : Option Addr) (ca : Nat) (w' : World) : Prop where
  below : Below w4.heap.size w4 w'
  bt : Blk w' p (tC t a ca) 46
abbrev ReadI (w4 : World) (p : Nat) (t : Tr) (a : Option Addr) (ca : Nat) (w' : World) : Prop := R9 w' p t a ca ∧ HoldI w4 p t a ca w'
theorem HoldI.all {w4 : World} {p : Nat} {t : Tr} {a : Option Addr} {ca : Nat} {w' : World} (h : HoldI w4 p t a ca w') : ReadI w4 p t a ca w' :=
  ⟨⟨(h.bt.cell 0).trans rfl, (h.bt.cell 1).trans rfl, (h.bt.cell 2).trans rfl, (h.bt.cell 3).trans rfl, (h.bt.cell 4).trans rfl, (h.bt.cell 5).trans rfl, (h.bt.cell 6).trans rfl, (h.bt.cell 7).trans rfl, (h.bt.cell 8).trans rfl⟩, h⟩
theorem readI_drew {w4 : World} {p : Nat} {t : Tr} {a : Option Addr} {ca : Nat} {w' : World} (h : ReadI w4 p t a ca w') : ReadI w4 p t a ca w'.drew := HoldI.all ⟨h.2.below.drew, h.2.bt⟩
theorem readI_step {w4 : World} {p : Nat} {t : Tr} {a : Option Addr} {ca : Nat} {W W' : World} (hb : Below W.heap.size W W') (h : ReadI w4 p t a ca W) : ReadI w4 p t a ca W' :=
  HoldI.all ⟨h.2.below.trans (hb.mono h.2.below.size), h.2.bt.below hb h.2.bt.lt⟩
set_option linter.unusedSimpArgs false in
set_option maxRecDepth 100000 in
set_option maxHeartbeats 4000000 in
theorem lis_any {F G : Nat → Prop} (d : Nd) (v : Value) (t : Tr) (a : Option Addr) (cap : Nat) (w : World) (h : NdX F w d v) (ht : TrX G w t a cap) (hkn : tknown t = true) (hs : nsize d ≤ 4000000) :
    Calls Tryd.prog 17 #[v, tV t a cap] w fun e w' => e = .returned (.bool (nsame d (canon t))) ∧ Below w.heap.size w w' := by
  have hT := Blk.new w (tC t a cap) 46 w.heap.size rfl
  have hB := (Below.refl w.heap.size w).alloc (Nat.le_refl _) (.cells (tC t a cap) 46)
  have hR := fun (w' : World) (hb : Below (w.alloc (.cells (tC t a cap) 46)).heap.size (w.alloc (.cells (tC t a cap) 46)) w') => lref_any 4000000 (Nat.le_refl _) d v w' hs ((h.below hB).below hb)
  have hS : ∀ (w' : World) (a' : Option Addr) (cap' : Nat), Below (w.alloc (.cells (tC t a cap) 46)).heap.size (w.alloc (.cells (tC t a cap) 46)) w' → (∃ w0 : World, TrX (fun b => w0.heap.size ≤ b) w' (unc d) a' cap') →
      Calls Tryd.prog 35 #[tV (unc d) a' cap', tV t a cap] w' fun e w2 => e = .returned (.bool (nsame d (canon t))) ∧ Below w'.heap.size w' w2 := by
    intro w' a' cap' hb hx
    obtain ⟨w0, hx⟩ := hx
    obtain ⟨N1, g1⟩ := hx.trd
    obtain ⟨N2, g2⟩ := ((ht.below hB).below hb).trd
    have r1 : TrD (N1 + N2) w' (unc d) a' cap' := by obtain ⟨n, p1, p2⟩ := g1; exact ⟨n, p1, by omega⟩
    have r2 : TrD (N1 + N2) w' t a cap := by obtain ⟨n, p1, p2⟩ := g2; exact ⟨n, p1, by omega⟩
    have h2 := rsame_any (N1 + N2) (unc d) a' cap' t a cap w' r1 r2 (known_unc d) hkn
    rw [canon_unc] at h2
    exact h2
  have hsh := h.elim fun _ h => nd_shape h
  have hall := HoldI.all ⟨Below.refl (w.alloc (.cells (tC t a cap) 46)).heap.size (w.alloc (.cells (tC t a cap) 46)), hT⟩
  have HB := Lib.hid hB
  clear h ht hkn hs hT hB
  generalize nsame d (canon t) = R at hS ⊢
  unfold RefR at hR
  generalize unc d = D at hR hS
  unfold tV at hR hS ⊢
  rcases hsh with ⟨T1, q1, rfl⟩ | rfl
  all_goals
    go_enter Tryd.func17, Tryd.ntmps17
    go_upto_region 1 with fail
    go_region_held3 (fun w' => ReadI (w.alloc (.cells (tC t a cap) 46)) w.heap.size t a cap w')
      (first | (with_reducible exact hall) | (with_reducible exact readI_drew hall) | (with_reducible exact readI_step hbX (by with_reducible assumption)) | (with_reducible exact readI_drew (by with_reducible assumption)))
      (first
        | (go_at_call 19; refine (hR _ (HoldI.below (And.right (by with_reducible assumption)))).mono ?_; rintro e w2 ⟨a', cap', rfl, hxx, hbX⟩)
        | (go_at_call 35; refine (hS _ _ _ (HoldI.below (And.right (by with_reducible assumption))) ⟨_, hxx⟩).mono ?_; rintro e w3 ⟨rfl, hbX⟩))
    all_goals go_wp2_with fail
    all_goals go_ret
    all_goals clear hall
    all_goals go_split_ands
    all_goals exact ⟨rfl, HB.out.trans ((HoldI.below (by with_reducible assumption)).mono HB.out.size)⟩
end Go.Proofs.YtbbcjclkklmoaaaDoor
