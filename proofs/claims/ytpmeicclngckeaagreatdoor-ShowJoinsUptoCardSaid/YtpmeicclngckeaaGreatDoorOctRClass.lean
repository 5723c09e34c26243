/- The document's own classes. -/
import Derived.Test.YtpmeicclngckeaaGreatDoorOctW
import Derived.Deep.RegionHeld3
import Derived.Deep.DeepCutAuto
namespace Go.Proofs.YtpmeicclngckeaaGreatDoor
open Go.RowKit

theorem blank_eq : oSpan 32 32 ||| oSpan 9 9 = cBlank := by decide +kernel
theorem del_eq : oSpan 127 127 = ofl [127] := by decide +kernel

/-- The locals of the document's Class: some sets, each in a block of its own, and the result that isn't there yet. -/
structure HeldL (w0 : World) (B r : Nat) (T : TypeId) (l : List (Nat × OSet)) (w' : World) : Prop where
  below : Below w0.heap.size w0 w'
  size : B ≤ w'.heap.size
  lts : ∀ p ∈ l, p.1 < B
  nr : ∀ p ∈ l, r < p.1
  lr : r < B
  r0 : w0.heap.size ≤ r
  blks : ∀ p ∈ l, Blk w' p.1 (oc p.2) T
  br : Blk w' r #[.int .u64 0, .int .u64 0, .int .u64 0, .int .u64 0] T
theorem HeldL.step {w0 : World} {B r : Nat} {T : TypeId} {l : List (Nat × OSet)} {W W' : World} (hb : Below W.heap.size W W') (h : HeldL w0 B r T l W) : HeldL w0 B r T l W' :=
  ⟨h.below.trans (hb.mono h.below.size), Nat.le_trans h.size hb.size, h.lts, h.nr, h.lr, h.r0, fun p hp => (h.blks p hp).below hb (h.blks p hp).lt, h.br.below hb h.br.lt⟩
theorem HeldL.drew {w0 : World} {B r : Nat} {T : TypeId} {l : List (Nat × OSet)} {W : World} (h : HeldL w0 B r T l W) : HeldL w0 B r T l W.drew :=
  ⟨h.below.drew, h.size, h.lts, h.nr, h.lr, h.r0, h.blks, h.br⟩
theorem HeldL.alloc {w0 : World} {B r : Nat} {T : TypeId} {l : List (Nat × OSet)} {W : World} (h : HeldL w0 B r T l W) (o : Obj) : HeldL w0 B r T l (W.alloc o) :=
  ⟨h.below.alloc h.below.size o, by have := h.size; simp; omega, h.lts, h.nr, h.lr, h.r0, fun p hp => (h.blks p hp).alloc o, h.br.alloc o⟩
theorem HeldL.set {w0 : World} {B r : Nat} {T : TypeId} {l : List (Nat × OSet)} {W : World} {p : Addr} (hp : B ≤ p.block) (u : Value) (h : HeldL w0 B r T l W) : HeldL w0 B r T l (W.setCell p u) := by
  have h4 := h.lr
  have h5 := h.r0
  refine ⟨h.below.setCell (by omega) u, by simpa [World.setCell] using h.size, h.lts, h.nr, h4, h5, fun q hq => ?_, h.br.set_other p (by omega) u⟩
  have := h.lts q hq
  exact (h.blks q hq).set_other p (by omega) u
/-- One set more, in a block of its own. -/
theorem HeldL.push {w0 : World} {B r : Nat} {T : TypeId} {l : List (Nat × OSet)} {W : World} (h : HeldL w0 B r T l W) (q : Nat) (s : OSet) (hr : r < q) (hq : Blk W q (oc s) T) : HeldL w0 W.heap.size r T ((q, s) :: l) W :=
  ⟨h.below, Nat.le_refl _, fun p hp => by
    rcases List.mem_cons.1 hp with rfl | hp
    · exact hq.lt
    · exact Nat.lt_of_lt_of_le (h.lts p hp) h.size, fun p hp => by
    rcases List.mem_cons.1 hp with rfl | hp
    · exact hr
    · exact h.nr p hp, Nat.lt_of_lt_of_le h.lr h.size, h.r0, fun p hp => by
    rcases List.mem_cons.1 hp with rfl | hp
    · exact hq
    · exact h.blks p hp, h.br⟩

/-- What is read, cell by cell: three sets. -/
abbrev Read3 (w0 : World) (B r : Nat) (T : TypeId) (a b c : Nat) (s t u : OSet) (w' : World) : Prop :=
  (w'.cell? ⟨a, 0, none⟩ = some (.int .u64 (ow s 0)) ∧ w'.cell? ⟨a, 1, none⟩ = some (.int .u64 (ow s 1)) ∧ w'.cell? ⟨a, 2, none⟩ = some (.int .u64 (ow s 2)) ∧ w'.cell? ⟨a, 3, none⟩ = some (.int .u64 (ow s 3))) ∧ (w'.cell? ⟨b, 0, none⟩ = some (.int .u64 (ow t 0)) ∧ w'.cell? ⟨b, 1, none⟩ = some (.int .u64 (ow t 1)) ∧ w'.cell? ⟨b, 2, none⟩ = some (.int .u64 (ow t 2)) ∧ w'.cell? ⟨b, 3, none⟩ = some (.int .u64 (ow t 3))) ∧ (w'.cell? ⟨c, 0, none⟩ = some (.int .u64 (ow u 0)) ∧ w'.cell? ⟨c, 1, none⟩ = some (.int .u64 (ow u 1)) ∧ w'.cell? ⟨c, 2, none⟩ = some (.int .u64 (ow u 2)) ∧ w'.cell? ⟨c, 3, none⟩ = some (.int .u64 (ow u 3))) ∧ B ≤ w'.heap.size ∧ HeldL w0 B r T [(a, s), (b, t), (c, u)] w'
theorem HeldL.all3 {w0 : World} {B r : Nat} {T : TypeId} {a b c : Nat} {s t u : OSet} {w' : World} (h : HeldL w0 B r T [(a, s), (b, t), (c, u)] w') : Read3 w0 B r T a b c s t u w' :=
  ⟨oblk_cells (h.blks (a, s) (by simp)), oblk_cells (h.blks (b, t) (by simp)), oblk_cells (h.blks (c, u) (by simp)), h.size, h⟩
theorem Read3.out {w0 : World} {B r : Nat} {T : TypeId} {a b c : Nat} {s t u : OSet} {w' : World} (h : Read3 w0 B r T a b c s t u w') : HeldL w0 B r T [(a, s), (b, t), (c, u)] w' := h.2.2.2.2
theorem read3_step {w0 : World} {B r : Nat} {T : TypeId} {a b c : Nat} {s t u : OSet} {W W' : World} (hb : Below W.heap.size W W') (h : Read3 w0 B r T a b c s t u W) : Read3 w0 B r T a b c s t u W' := (HeldL.step hb h.2.2.2.2).all3
theorem read3_drew {w0 : World} {B r : Nat} {T : TypeId} {a b c : Nat} {s t u : OSet} {W : World} (h : Read3 w0 B r T a b c s t u W) : Read3 w0 B r T a b c s t u W.drew := (HeldL.drew h.2.2.2.2).all3
theorem read3_alloc {w0 : World} {B r : Nat} {T : TypeId} {a b c : Nat} {s t u : OSet} {W : World} (h : Read3 w0 B r T a b c s t u W) (o : Obj) : Read3 w0 B r T a b c s t u (W.alloc o) := (HeldL.alloc h.2.2.2.2 o).all3
theorem read3_set {w0 : World} {B r : Nat} {T : TypeId} {a b c : Nat} {s t u : OSet} {W : World} {p : Addr} (hp : B ≤ p.block) (v : Value) (h : Read3 w0 B r T a b c s t u W) : Read3 w0 B r T a b c s t u (W.setCell p v) := (HeldL.set hp v h.2.2.2.2).all3

theorem HeldL.realloc {w0 : World} {B r : Nat} {T : TypeId} {l : List (Nat × OSet)} {W : World} (hB : B ≤ W.heap.size) {o : Obj} (h : HeldL w0 B r T l (W.alloc o)) (o' : Obj) : HeldL w0 B r T l (W.alloc o') := by
  have hlr := h.lr
  have hr0 := h.r0
  have key : ∀ k, k < B → (W.alloc o').heap[k]? = (W.alloc o).heap[k]? := fun k hk => by
    rw [Below.heap_alloc _ _ _ (by omega), Below.heap_alloc _ _ _ (by omega)]
  refine ⟨⟨h.below.os, h.below.tape, h.below.output, by have := h.below.size; simpa using this, fun k hk => (key k (by omega)).trans (h.below.block k hk)⟩, by simp; omega, h.lts, h.nr, hlr, hr0, fun p hp => ?_, ?_⟩
  · unfold Blk; rw [key _ (h.lts p hp)]; exact h.blks p hp
  · unfold Blk; rw [key _ hlr]; exact h.br
theorem read3_realloc {w0 : World} {B r : Nat} {T : TypeId} {a b c : Nat} {s t u : OSet} {W : World} {o o' : Obj} (hB : B ≤ W.heap.size) (h : Read3 w0 B r T a b c s t u (W.alloc o)) : Read3 w0 B r T a b c s t u (W.alloc o') := (HeldL.realloc hB h.2.2.2.2 o').all3

theorem HeldL.undrew {w0 : World} {B r : Nat} {T : TypeId} {l : List (Nat × OSet)} {W : World} (h : HeldL w0 B r T l W.drew) : HeldL w0 B r T l W :=
  ⟨⟨h.below.os, h.below.tape, h.below.output, h.below.size, h.below.block⟩, h.size, h.lts, h.nr, h.lr, h.r0, h.blks, h.br⟩
theorem read3_alloc_drew {w0 : World} {B r : Nat} {T : TypeId} {a b c : Nat} {s t u : OSet} {W : World} (h : Read3 w0 B r T a b c s t u W.drew) (o : Obj) : Read3 w0 B r T a b c s t u (W.alloc o).drew := (HeldL.drew (HeldL.alloc (HeldL.undrew h.2.2.2.2) o)).all3
theorem read3_realloc_drew {w0 : World} {B r : Nat} {T : TypeId} {a b c : Nat} {s t u : OSet} {W : World} {o o' : Obj} (hB : B ≤ W.heap.size) (h : Read3 w0 B r T a b c s t u (W.alloc o).drew) : Read3 w0 B r T a b c s t u (W.alloc o').drew :=
  (HeldL.drew (HeldL.realloc hB (HeldL.undrew h.2.2.2.2) o')).all3

theorem zblk_store {w : World} {a : Nat} {T : TypeId} (h : Blk w a #[.int .u64 0, .int .u64 0, .int .u64 0, .int .u64 0] T) (t : OSet) :
    Blk ((((w.setCell ⟨a, 0, none⟩ (.int .u64 (ow t 0))).setCell ⟨a, 1, none⟩ (.int .u64 (ow t 1))).setCell ⟨a, 2, none⟩ (.int .u64 (ow t 2))).setCell ⟨a, 3, none⟩ (.int .u64 (ow t 3))) a (oc t) T := by
  have := (((h.set 0 (.int .u64 (ow t 0))).set 1 (.int .u64 (ow t 1))).set 2 (.int .u64 (ow t 2))).set 3 (.int .u64 (ow t 3))
  exact this

/-- One set in a block, beside the result. -/
structure Held1 (w0 : World) (r p : Nat) (s : OSet) (T : TypeId) (w' : World) : Prop where
  below : Below w0.heap.size w0 w'
  r0 : w0.heap.size ≤ r
  ne : r ≠ p
  blk : Blk w' p (oc s) T
abbrev Read1 (w0 : World) (r p : Nat) (s : OSet) (T : TypeId) (w' : World) : Prop := (w'.cell? ⟨p, 0, none⟩ = some (.int .u64 (ow s 0)) ∧ w'.cell? ⟨p, 1, none⟩ = some (.int .u64 (ow s 1)) ∧ w'.cell? ⟨p, 2, none⟩ = some (.int .u64 (ow s 2)) ∧ w'.cell? ⟨p, 3, none⟩ = some (.int .u64 (ow s 3))) ∧ Held1 w0 r p s T w'
theorem Held1.all {w0 : World} {r p : Nat} {s : OSet} {T : TypeId} {w' : World} (h : Held1 w0 r p s T w') : Read1 w0 r p s T w' := ⟨oblk_cells h.blk, h⟩
theorem read1_step {w0 : World} {r p : Nat} {s : OSet} {T : TypeId} {W W' : World} (hb : Below W.heap.size W W') (h : Read1 w0 r p s T W) : Read1 w0 r p s T W' :=
  Held1.all ⟨h.2.below.trans (hb.mono h.2.below.size), h.2.r0, h.2.ne, h.2.blk.below hb h.2.blk.lt⟩
theorem read1_drew {w0 : World} {r p : Nat} {s : OSet} {T : TypeId} {W : World} (h : Read1 w0 r p s T W) : Read1 w0 r p s T W.drew :=
  Held1.all ⟨h.2.below.drew, h.2.r0, h.2.ne, h.2.blk⟩
theorem read1_set {w0 : World} {r p j : Nat} {s : OSet} {T : TypeId} {W : World} (u : Value) (h : Read1 w0 r p s T W) : Read1 w0 r p s T (W.setCell ⟨r, j, none⟩ u) :=
  Held1.all ⟨h.2.below.setCell h.2.r0 u, h.2.r0, h.2.ne, h.2.blk.set_other ⟨r, j, none⟩ h.2.ne u⟩
theorem read1_set4 {w0 : World} {r p i j k l : Nat} {s : OSet} {T : TypeId} {W : World} (u1 u2 u3 u4 : Value) (h : Read1 w0 r p s T W) :
    Read1 w0 r p s T ((((W.setCell ⟨r, i, none⟩ u1).setCell ⟨r, j, none⟩ u2).setCell ⟨r, k, none⟩ u3).setCell ⟨r, l, none⟩ u4) := read1_set u4 (read1_set u3 (read1_set u2 (read1_set u1 h)))

theorem rspan_of (lo hi : Int) (s : OSet) (hs : oSpan lo hi = s) (w : World) (h0 : 0 ≤ lo) (h1 : lo ≤ 255) (h2 : 0 ≤ hi) (h3 : hi ≤ 255) :
    Calls Tryz.prog 83 #[.int .u8 lo, .int .u8 hi] w fun e w' => e = .returned (.agg #[.int .u64 (ow s 0), .int .u64 (ow s 1), .int .u64 (ow s 2), .int .u64 (ow s 3)]) ∧ Below w.heap.size w w' := by
  subst hs
  exact rspan_any lo hi w h0 h1 h2 h3

set_option maxRecDepth 100000 in
set_option maxHeartbeats 4000000 in
theorem rclass_any (s : ByteArray) (w : World) :
    Calls Tryz.prog 54 #[.string s] w fun e w' => e = .returned (.tuple #[.agg #[.int .u64 (ow (clsSet s.toList) 0), .int .u64 (ow (clsSet s.toList) 1), .int .u64 (ow (clsSet s.toList) 2), .int .u64 (ow (clsSet s.toList) 3)], .bool (clsOk s.toList)]) ∧ Below w.heap.size w w' := by
  have hB := Blk.new w #[.int .u64 0, .int .u64 0, .int .u64 0, .int .u64 0] 24 _ rfl
  have hW := (Below.refl w.heap.size w).alloc (Nat.le_refl _) (.cells #[.int .u64 0, .int .u64 0, .int .u64 0, .int .u64 0] 24)
  go_enter Tryz.func54, Tryz.ntmps54
  go_upto_region 1 with fail
  go_cut [4, 5, 6] (fun s4 s5 s6 wx => ∃ a b c B : Nat, s4 = .pointer (some ⟨a, 0, none⟩) ∧ s5 = .pointer (some ⟨b, 0, none⟩) ∧ s6 = .pointer (some ⟨c, 0, none⟩) ∧ HeldL w B w.heap.size 24 [(a, cLower), (b, cUpper), (c, cDigit)] wx)
  case first =>
    go_wp2_with fail
    refine (rspan_of 97 122 cLower rfl _ (by decide) (by decide) (by decide) (by decide)).mono ?_
    rintro e w1 ⟨rfl, b1⟩
    replace hB := hB.below b1 hB.lt
    replace hW := hW.trans (b1.mono hW.size)
    go_wp2_with fail
    refine (rspan_of 65 90 cUpper rfl _ (by decide) (by decide) (by decide) (by decide)).mono ?_
    rintro e w2 ⟨rfl, b2⟩
    replace hB := hB.below b2 hB.lt
    replace hW := hW.trans (b2.mono hW.size)
    go_wp2_with fail
    refine (rspan_of 48 57 cDigit rfl _ (by decide) (by decide) (by decide) (by decide)).mono ?_
    rintro e w3 ⟨rfl, b3⟩
    replace hB := hB.below b3 hB.lt
    replace hW := hW.trans (b3.mono hW.size)
    clear b1 b2 b3
    go_wp2_with fail
    go_meet
    have h0 : HeldL w w3.heap.size w.heap.size 24 [] w3 := ⟨hW, Nat.le_refl _, fun p hp => by simp at hp, fun p hp => by simp at hp, hB.lt, Nat.le_refl _, fun p hp => by simp at hp, hB⟩
    have h1 := (h0.alloc (.cells (oc cLower) 24)).alloc (.cells (oc cUpper) 24)
    have h2 := h1.alloc (.cells (oc cDigit) 24)
    have q1 := ((Blk.new w3 (oc cLower) 24 _ rfl).alloc (.cells (oc cUpper) 24)).alloc (.cells (oc cDigit) 24)
    have q2 := (Blk.new (w3.alloc (.cells (oc cLower) 24)) (oc cUpper) 24 (w3.heap.size + 1) (by simp)).alloc (.cells (oc cDigit) 24)
    have q3 := Blk.new ((w3.alloc (.cells (oc cLower) 24)).alloc (.cells (oc cUpper) 24)) (oc cDigit) 24 (w3.heap.size + 1 + 1) (by simp)
    have hBl := hB.lt
    have h3 := ((h2.push _ _ (by omega) q3).push _ _ (by omega) q2).push _ _ (by omega) q1
    exact ⟨_, _, _, _, rfl, rfl, rfl, h3⟩
  case rest =>
    obtain ⟨a, b, c, B, rfl, rfl, rfl, h3⟩ := hcut
    clear hB hW
    go_upto_region 2 with fail
    go_cut [7] (fun s7 wx => ∃ d D : Nat, s7 = .pointer (some ⟨d, 0, none⟩) ∧ HeldL w D w.heap.size 24 [(d, cAlnum), (a, cLower), (b, cUpper), (c, cDigit)] wx)
    case first =>
      have hall := h3.all3
      have hsB := h3.size
      go_region_held3 (fun w' => (w'.cell? ⟨a, 0, none⟩ = some (.int .u64 (ow cLower 0)) ∧ w'.cell? ⟨a, 1, none⟩ = some (.int .u64 (ow cLower 1)) ∧ w'.cell? ⟨a, 2, none⟩ = some (.int .u64 (ow cLower 2)) ∧ w'.cell? ⟨a, 3, none⟩ = some (.int .u64 (ow cLower 3))) ∧ (w'.cell? ⟨b, 0, none⟩ = some (.int .u64 (ow cUpper 0)) ∧ w'.cell? ⟨b, 1, none⟩ = some (.int .u64 (ow cUpper 1)) ∧ w'.cell? ⟨b, 2, none⟩ = some (.int .u64 (ow cUpper 2)) ∧ w'.cell? ⟨b, 3, none⟩ = some (.int .u64 (ow cUpper 3))) ∧ (w'.cell? ⟨c, 0, none⟩ = some (.int .u64 (ow cDigit 0)) ∧ w'.cell? ⟨c, 1, none⟩ = some (.int .u64 (ow cDigit 1)) ∧ w'.cell? ⟨c, 2, none⟩ = some (.int .u64 (ow cDigit 2)) ∧ w'.cell? ⟨c, 3, none⟩ = some (.int .u64 (ow cDigit 3))) ∧ B ≤ w'.heap.size ∧ HeldL w B w.heap.size 24 [(a, cLower), (b, cUpper), (c, cDigit)] w')
        (first | with_reducible exact hall | with_reducible exact read3_step hbX (by assumption) | with_reducible exact read3_drew (by assumption) | with_reducible exact read3_alloc (by assumption) _ | with_reducible exact read3_realloc (by assumption) (by assumption) | with_reducible exact read3_alloc_drew (by assumption) _ | with_reducible exact read3_realloc_drew (by assumption) (by assumption) | (with_reducible refine read3_set ?_ _ (read3_set ?_ _ (read3_set ?_ _ (read3_set ?_ _ (by assumption)))); all_goals (go_split_ands; simp; omega)))
        (first | (go_at_call 84; refine (ror_any _ _ _).mono ?_; rintro e w' ⟨rfl, hbX⟩; obtain ⟨hcX, hfX⟩ := bcell hbX; have hkX := hbX.block; have hsX : B ≤ w'.heap.size := Nat.le_trans (by go_split_ands; assumption) hbX.size; have hzX := hbX.size; (try simp at hzX); (try rw [Nat.add_one_le_iff] at hzX)))
      all_goals go_wp2_with fail
      all_goals go_meet
      all_goals refine ⟨_, _, rfl, (Read3.out (by assumption)).push _ cAlnum ?_ ?_⟩
      all_goals first | (have hrB := h3.lr; omega) | skip
      · exact Blk.new _ (oc cAlnum) _ _ rfl
      · exact zblk_store ((Blk.new _ _ _ _ rfl).below hbX (by simp)) cAlnum
      · have q : ∀ w1, Below (wc.alloc (.cells #[.int .u64 0, .int .u64 0, .int .u64 0, .int .u64 0] 24)).drew.heap.size (wc.alloc (.cells #[.int .u64 0, .int .u64 0, .int .u64 0, .int .u64 0] 24)).drew w1 → Blk w1 wc.heap.size #[.int .u64 0, .int .u64 0, .int .u64 0, .int .u64 0] 24 := fun w1 hb => Blk.below (Blk.drew (Blk.new wc #[.int .u64 0, .int .u64 0, .int .u64 0, .int .u64 0] 24 _ rfl)) hb (by simp)
        have q2 := q _ (by assumption)
        exact zblk_store (q2.below hbX q2.lt) cAlnum
    case rest =>
      obtain ⟨d, D, rfl, h4⟩ := hcut
      clear h3
      go_upto_region 3 with fail
      go_cut [8] (fun s8 wx => ∃ e E : Nat, s8 = .pointer (some ⟨e, 0, none⟩) ∧ HeldL w E w.heap.size 24 [(e, cBlank), (d, cAlnum), (a, cLower), (b, cUpper), (c, cDigit)] wx)
      case first =>
        go_wp2_with (first
          | (go_at_call 83; refine (rspan_any _ _ _ (by decide) (by decide) (by decide) (by decide)).mono ?_; rintro e w' ⟨rfl, hbX⟩; replace h4 := HeldL.step hbX h4)
          | (go_at_call 84; refine (ror_any _ _ _).mono ?_; rintro e w' ⟨rfl, hbX⟩; replace h4 := HeldL.step hbX h4))
        go_meet
        have h5 := h4.alloc (.cells (oc (oSpan 32 32 ||| oSpan 9 9)) 24)
        have q5 := Blk.new w' (oc (oSpan 32 32 ||| oSpan 9 9)) 24 _ rfl
        have h6 := h5.push _ _ (Nat.lt_of_lt_of_le h4.lr h4.size) q5
        rw [blank_eq] at h6
        rw [← blank_eq]
        exact ⟨_, _, rfl, h6⟩
      case rest =>
        obtain ⟨e, E, rfl, H5⟩ := hcut
        clear h4
        have fr := H5.nr
        have hW := H5.below
        have hB := H5.br
        obtain ⟨a0, a1, a2, a3⟩ := oblk_cells (H5.blks (a, cLower) (by simp))
        obtain ⟨x0, x1, x2, x3⟩ := oblk_cells (H5.blks (b, cUpper) (by simp))
        obtain ⟨y0, y1, y2, y3⟩ := oblk_cells (H5.blks (c, cDigit) (by simp))
        obtain ⟨z0, z1, z2, z3⟩ := oblk_cells (H5.blks (d, cAlnum) (by simp))
        obtain ⟨v0, v1, v2, v3⟩ := oblk_cells (H5.blks (e, cBlank) (by simp))
        obtain ⟨d0, d1, d2, d3⟩ := zblk_cells hB
        have f0 := hB.frozen 0
        have f1 := hB.frozen 1
        have f2 := hB.frozen 2
        have f3 := hB.frozen 3
        have hr0 : w.heap.size < wc.heap.size := hB.lt
        go_wp2_with (first | (go_at_call 83; refine (rspan_any _ _ _ (by decide) (by decide) (by decide) (by decide)).mono ?_; rintro e w1 ⟨rfl, b1⟩; replace hW := Below.trans hW (b1.mono hW.size); replace hB := Blk.below hB b1 (Blk.lt hB); have f0 := hB.frozen 0; have f1 := hB.frozen 1; have f2 := hB.frozen 2; have f3 := hB.frozen 3; obtain ⟨d0, d1, d2, d3⟩ := zblk_cells hB; have hs := hB.lt) | (go_at_call 84; refine (ror_any _ _ _).mono ?_; rintro e w1 ⟨rfl, b1⟩; replace hW := Below.trans hW (b1.mono hW.size); replace hB := Blk.below hB b1 (Blk.lt hB); have f0 := hB.frozen 0; have f1 := hB.frozen 1; have f2 := hB.frozen 2; have f3 := hB.frozen 3; obtain ⟨d0, d1, d2, d3⟩ := zblk_cells hB; have hs := hB.lt) | (go_at_call 85; refine (rand_any _ _ _).mono ?_; rintro e w1 ⟨rfl, b1⟩; replace hW := Below.trans hW (b1.mono hW.size); replace hB := Blk.below hB b1 (Blk.lt hB); have f0 := hB.frozen 0; have f1 := hB.frozen 1; have f2 := hB.frozen 2; have f3 := hB.frozen 3; obtain ⟨d0, d1, d2, d3⟩ := zblk_cells hB; have hs := hB.lt) | (go_at_call 32; refine (rnot_any _ _).mono ?_; rintro e w1 ⟨rfl, b1⟩; replace hW := Below.trans hW (b1.mono hW.size); replace hB := Blk.below hB b1 (Blk.lt hB); have f0 := hB.frozen 0; have f1 := hB.frozen 1; have f2 := hB.frozen 2; have f3 := hB.frozen 3; obtain ⟨d0, d1, d2, d3⟩ := zblk_cells hB; have hs := hB.lt))
        · refine bodyPost_ret (v := .tuple #[.agg #[.int .u64 (ow cLower 0), .int .u64 (ow cLower 1), .int .u64 (ow cLower 2), .int .u64 (ow cLower 3)], .bool true]) (by simp [results, Tryz.results54, go_sem, d0, d1, d2, d3]) rfl ⟨ret_cls (by simp only [clsSet, cond_true, *]) (by simp [clsOk, *]), ?_⟩
          repeat (first | exact hW | refine Below.setCell ?_ (by simp) _)
        · refine bodyPost_ret (v := .tuple #[.agg #[.int .u64 (ow cUpper 0), .int .u64 (ow cUpper 1), .int .u64 (ow cUpper 2), .int .u64 (ow cUpper 3)], .bool true]) (by simp [results, Tryz.results54, go_sem, d0, d1, d2, d3]) rfl ⟨ret_cls (by simp only [clsSet, cond_true, cond_false, *]) (by simp [clsOk, *]), ?_⟩
          repeat (first | exact hW | refine Below.setCell ?_ (by simp) _)
        · refine bodyPost_ret (v := .tuple #[.agg #[.int .u64 (ow (cLower ||| cUpper) 0), .int .u64 (ow (cLower ||| cUpper) 1), .int .u64 (ow (cLower ||| cUpper) 2), .int .u64 (ow (cLower ||| cUpper) 3)], .bool true]) (by simp [results, Tryz.results54, go_sem, d0, d1, d2, d3]) rfl ⟨ret_cls (by simp only [clsSet, cond_true, cond_false, *] <;> rfl) (by simp [clsOk, *]), ?_⟩
          repeat (first | exact hW | refine Below.setCell ?_ (by simp) _)
        · refine bodyPost_ret (v := .tuple #[.agg #[.int .u64 (ow cDigit 0), .int .u64 (ow cDigit 1), .int .u64 (ow cDigit 2), .int .u64 (ow cDigit 3)], .bool true]) (by simp [results, Tryz.results54, go_sem, d0, d1, d2, d3]) rfl ⟨ret_cls (by simp only [clsSet, cond_true, cond_false, *]) (by simp [clsOk, *]), ?_⟩
          repeat (first | exact hW | refine Below.setCell ?_ (by simp) _)
        · refine bodyPost_ret (v := .tuple #[.agg #[.int .u64 (ow cAlnum 0), .int .u64 (ow cAlnum 1), .int .u64 (ow cAlnum 2), .int .u64 (ow cAlnum 3)], .bool true]) (by simp [results, Tryz.results54, go_sem, d0, d1, d2, d3]) rfl ⟨ret_cls (by simp only [clsSet, cond_true, cond_false, *]) (by simp [clsOk, *]), ?_⟩
          repeat (first | exact hW | refine Below.setCell ?_ (by simp) _)
        · have hall := Held1.all (w0 := w) (r := w.heap.size) (p := c) (s := cDigit) (T := 24) (w' := wc) ⟨hW, Nat.le_refl _, by have := fr (c, cDigit) (by simp); simp only at this; omega, H5.blks (c, cDigit) (by simp)⟩
          replace hB := hB.drew
          go_region_held3 (fun w' => (w'.cell? ⟨c, 0, none⟩ = some (.int .u64 (ow cDigit 0)) ∧ w'.cell? ⟨c, 1, none⟩ = some (.int .u64 (ow cDigit 1)) ∧ w'.cell? ⟨c, 2, none⟩ = some (.int .u64 (ow cDigit 2)) ∧ w'.cell? ⟨c, 3, none⟩ = some (.int .u64 (ow cDigit 3))) ∧ Held1 w w.heap.size c cDigit 24 w') (first | with_reducible exact hall | with_reducible exact read1_step hbX (by assumption) | with_reducible exact read1_drew (by assumption) | with_reducible exact read1_set4 _ _ _ _ (by assumption)) (first | (go_at_call 83; refine (rspan_any _ _ _ (by decide) (by decide) (by decide) (by decide)).mono ?_; rintro e w' ⟨rfl, hbX⟩; replace hB := Blk.below hB hbX (Blk.lt hB); have f0 := hB.frozen 0; have f1 := hB.frozen 1; have f2 := hB.frozen 2; have f3 := hB.frozen 3; obtain ⟨d0, d1, d2, d3⟩ := zblk_cells hB) | (go_at_call 84; refine (ror_any _ _ _).mono ?_; rintro e w' ⟨rfl, hbX⟩; replace hB := Blk.below hB hbX (Blk.lt hB); have f0 := hB.frozen 0; have f1 := hB.frozen 1; have f2 := hB.frozen 2; have f3 := hB.frozen 3; obtain ⟨d0, d1, d2, d3⟩ := zblk_cells hB) | (go_at_call 85; refine (rand_any _ _ _).mono ?_; rintro e w' ⟨rfl, hbX⟩; replace hB := Blk.below hB hbX (Blk.lt hB); have f0 := hB.frozen 0; have f1 := hB.frozen 1; have f2 := hB.frozen 2; have f3 := hB.frozen 3; obtain ⟨d0, d1, d2, d3⟩ := zblk_cells hB) | (go_at_call 32; refine (rnot_any _ _).mono ?_; rintro e w' ⟨rfl, hbX⟩; replace hB := Blk.below hB hbX (Blk.lt hB); have f0 := hB.frozen 0; have f1 := hB.frozen 1; have f2 := hB.frozen 2; have f3 := hB.frozen 3; obtain ⟨d0, d1, d2, d3⟩ := zblk_cells hB))
          go_wp2
          refine bodyPost_ret (v := .tuple #[.agg #[.int .u64 (ow (cDigit ||| (oSpan 65 70 ||| oSpan 97 102)) 0), .int .u64 (ow (cDigit ||| (oSpan 65 70 ||| oSpan 97 102)) 1), .int .u64 (ow (cDigit ||| (oSpan 65 70 ||| oSpan 97 102)) 2), .int .u64 (ow (cDigit ||| (oSpan 65 70 ||| oSpan 97 102)) 3)], .bool true]) (by simp [results, Tryz.results54, go_sem, *]) rfl ⟨ret_cls (by rw [← BitVec.or_assoc]; simp only [clsSet, cond_true, cond_false, *] <;> rfl) (by simp [clsOk, *]), ?_⟩
          go_split_ands
          exact Held1.below (by assumption)
        · refine bodyPost_ret (v := .tuple #[.agg #[.int .u64 (ow cBlank 0), .int .u64 (ow cBlank 1), .int .u64 (ow cBlank 2), .int .u64 (ow cBlank 3)], .bool true]) (by simp [results, Tryz.results54, go_sem, d0, d1, d2, d3]) rfl ⟨ret_cls (by simp only [clsSet, cond_true, cond_false, *]) (by simp [clsOk, *]), ?_⟩
          repeat (first | exact hW | refine Below.setCell ?_ (by simp) _)
        · have hall := Held1.all (w0 := w) (r := w.heap.size) (p := e) (s := cBlank) (T := 24) (w' := wc) ⟨hW, Nat.le_refl _, by have := fr (e, cBlank) (by simp); simp only at this; omega, H5.blks (e, cBlank) (by simp)⟩
          replace hB := hB.drew
          go_region_held3 (fun w' => (w'.cell? ⟨e, 0, none⟩ = some (.int .u64 (ow cBlank 0)) ∧ w'.cell? ⟨e, 1, none⟩ = some (.int .u64 (ow cBlank 1)) ∧ w'.cell? ⟨e, 2, none⟩ = some (.int .u64 (ow cBlank 2)) ∧ w'.cell? ⟨e, 3, none⟩ = some (.int .u64 (ow cBlank 3))) ∧ Held1 w w.heap.size e cBlank 24 w') (first | with_reducible exact hall | with_reducible exact read1_step hbX (by assumption) | with_reducible exact read1_drew (by assumption) | with_reducible exact read1_set4 _ _ _ _ (by assumption)) (first | (go_at_call 83; refine (rspan_any _ _ _ (by decide) (by decide) (by decide) (by decide)).mono ?_; rintro e w' ⟨rfl, hbX⟩; replace hB := Blk.below hB hbX (Blk.lt hB); have f0 := hB.frozen 0; have f1 := hB.frozen 1; have f2 := hB.frozen 2; have f3 := hB.frozen 3; obtain ⟨d0, d1, d2, d3⟩ := zblk_cells hB) | (go_at_call 84; refine (ror_any _ _ _).mono ?_; rintro e w' ⟨rfl, hbX⟩; replace hB := Blk.below hB hbX (Blk.lt hB); have f0 := hB.frozen 0; have f1 := hB.frozen 1; have f2 := hB.frozen 2; have f3 := hB.frozen 3; obtain ⟨d0, d1, d2, d3⟩ := zblk_cells hB) | (go_at_call 85; refine (rand_any _ _ _).mono ?_; rintro e w' ⟨rfl, hbX⟩; replace hB := Blk.below hB hbX (Blk.lt hB); have f0 := hB.frozen 0; have f1 := hB.frozen 1; have f2 := hB.frozen 2; have f3 := hB.frozen 3; obtain ⟨d0, d1, d2, d3⟩ := zblk_cells hB) | (go_at_call 32; refine (rnot_any _ _).mono ?_; rintro e w' ⟨rfl, hbX⟩; replace hB := Blk.below hB hbX (Blk.lt hB); have f0 := hB.frozen 0; have f1 := hB.frozen 1; have f2 := hB.frozen 2; have f3 := hB.frozen 3; obtain ⟨d0, d1, d2, d3⟩ := zblk_cells hB))
          go_wp2
          refine bodyPost_ret (v := .tuple #[.agg #[.int .u64 (ow (cBlank ||| oSpan 10 13) 0), .int .u64 (ow (cBlank ||| oSpan 10 13) 1), .int .u64 (ow (cBlank ||| oSpan 10 13) 2), .int .u64 (ow (cBlank ||| oSpan 10 13) 3)], .bool true]) (by simp [results, Tryz.results54, go_sem, *]) rfl ⟨ret_cls (by simp only [clsSet, cond_true, cond_false, *] <;> rfl) (by simp [clsOk, *]), ?_⟩
          go_split_ands
          exact Held1.below (by assumption)
        · refine bodyPost_ret (v := .tuple #[.agg #[.int .u64 (ow (oSpan 0 31 ||| oSpan 127 127) 0), .int .u64 (ow (oSpan 0 31 ||| oSpan 127 127) 1), .int .u64 (ow (oSpan 0 31 ||| oSpan 127 127) 2), .int .u64 (ow (oSpan 0 31 ||| oSpan 127 127) 3)], .bool true]) (by simp [results, Tryz.results54, go_sem, d0, d1, d2, d3]) rfl ⟨ret_cls (by rw [del_eq]; simp only [clsSet, cond_true, cond_false, *] <;> rfl) (by simp [clsOk, *]), ?_⟩
          repeat (first | exact hW | refine Below.setCell ?_ (by simp) _)
        · refine bodyPost_ret (v := .tuple #[.agg #[.int .u64 (ow (oSpan 32 126) 0), .int .u64 (ow (oSpan 32 126) 1), .int .u64 (ow (oSpan 32 126) 2), .int .u64 (ow (oSpan 32 126) 3)], .bool true]) (by simp [results, Tryz.results54, go_sem, d0, d1, d2, d3]) rfl ⟨ret_cls (by simp only [clsSet, cond_true, cond_false, *] <;> rfl) (by simp [clsOk, *]), ?_⟩
          repeat (first | exact hW | refine Below.setCell ?_ (by simp) _)
        · refine bodyPost_ret (v := .tuple #[.agg #[.int .u64 (ow (oSpan 33 126) 0), .int .u64 (ow (oSpan 33 126) 1), .int .u64 (ow (oSpan 33 126) 2), .int .u64 (ow (oSpan 33 126) 3)], .bool true]) (by simp [results, Tryz.results54, go_sem, d0, d1, d2, d3]) rfl ⟨ret_cls (by simp only [clsSet, cond_true, cond_false, *] <;> rfl) (by simp [clsOk, *]), ?_⟩
          repeat (first | exact hW | refine Below.setCell ?_ (by simp) _)
        · have hall := Held1.all (w0 := w) (r := w.heap.size) (p := d) (s := cAlnum) (T := 24) (w' := wc) ⟨hW, Nat.le_refl _, by have := fr (d, cAlnum) (by simp); simp only at this; omega, H5.blks (d, cAlnum) (by simp)⟩
          replace hB := hB.drew
          go_region_held3 (fun w' => (w'.cell? ⟨d, 0, none⟩ = some (.int .u64 (ow cAlnum 0)) ∧ w'.cell? ⟨d, 1, none⟩ = some (.int .u64 (ow cAlnum 1)) ∧ w'.cell? ⟨d, 2, none⟩ = some (.int .u64 (ow cAlnum 2)) ∧ w'.cell? ⟨d, 3, none⟩ = some (.int .u64 (ow cAlnum 3))) ∧ Held1 w w.heap.size d cAlnum 24 w') (first | with_reducible exact hall | with_reducible exact read1_step hbX (by assumption) | with_reducible exact read1_drew (by assumption) | with_reducible exact read1_set4 _ _ _ _ (by assumption)) (first | (go_at_call 83; refine (rspan_any _ _ _ (by decide) (by decide) (by decide) (by decide)).mono ?_; rintro e w' ⟨rfl, hbX⟩; replace hB := Blk.below hB hbX (Blk.lt hB); have f0 := hB.frozen 0; have f1 := hB.frozen 1; have f2 := hB.frozen 2; have f3 := hB.frozen 3; obtain ⟨d0, d1, d2, d3⟩ := zblk_cells hB) | (go_at_call 84; refine (ror_any _ _ _).mono ?_; rintro e w' ⟨rfl, hbX⟩; replace hB := Blk.below hB hbX (Blk.lt hB); have f0 := hB.frozen 0; have f1 := hB.frozen 1; have f2 := hB.frozen 2; have f3 := hB.frozen 3; obtain ⟨d0, d1, d2, d3⟩ := zblk_cells hB) | (go_at_call 85; refine (rand_any _ _ _).mono ?_; rintro e w' ⟨rfl, hbX⟩; replace hB := Blk.below hB hbX (Blk.lt hB); have f0 := hB.frozen 0; have f1 := hB.frozen 1; have f2 := hB.frozen 2; have f3 := hB.frozen 3; obtain ⟨d0, d1, d2, d3⟩ := zblk_cells hB) | (go_at_call 32; refine (rnot_any _ _).mono ?_; rintro e w' ⟨rfl, hbX⟩; replace hB := Blk.below hB hbX (Blk.lt hB); have f0 := hB.frozen 0; have f1 := hB.frozen 1; have f2 := hB.frozen 2; have f3 := hB.frozen 3; obtain ⟨d0, d1, d2, d3⟩ := zblk_cells hB))
          go_wp2
          refine bodyPost_ret (v := .tuple #[.agg #[.int .u64 (ow (oSpan 33 126 &&& ~~~cAlnum) 0), .int .u64 (ow (oSpan 33 126 &&& ~~~cAlnum) 1), .int .u64 (ow (oSpan 33 126 &&& ~~~cAlnum) 2), .int .u64 (ow (oSpan 33 126 &&& ~~~cAlnum) 3)], .bool true]) (by simp [results, Tryz.results54, go_sem, *]) rfl ⟨ret_cls (by simp only [clsSet, cond_true, cond_false, *] <;> rfl) (by simp [clsOk, *]), ?_⟩
          go_split_ands
          exact Held1.below (by assumption)
        · refine bodyPost_ret (v := .tuple #[.agg #[.int .u64 (ow oz 0), .int .u64 (ow oz 1), .int .u64 (ow oz 2), .int .u64 (ow oz 3)], .bool false]) (by simp [results, Tryz.results54, go_sem, ow_zero, d0, d1, d2, d3]) rfl ⟨ret_cls (by simp only [clsSet, cond_false, *]) (by simp [clsOk, *]), ?_⟩
          repeat (first | exact hW | refine Below.setCell ?_ (by simp) _)

end Go.Proofs.YtpmeicclngckeaaGreatDoor
