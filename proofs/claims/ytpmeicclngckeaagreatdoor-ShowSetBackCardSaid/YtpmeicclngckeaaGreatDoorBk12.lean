/- The proof's texts ShPq: what the claim reaches of them. -/
import Derived.Test.YtpmeicclngckeaaGreatDoorBk08
import Derived.Test.YtpmeicclngckeaaGreatDoorBk11
import Derived.Defers
import Derived.Deep.Cut
namespace Go.Proofs.YtpmeicclngckeaaGreatDoor
open Go Go.RowKit
structure HeldO (w0 : World) (p : Nat) (s : OSet) (T : TypeId) (w' : World) : Prop where
  below : Below w0.heap.size w0 w'
  blk : Blk w' p (oc s) T
abbrev ReadO (w0 : World) (p : Nat) (s : OSet) (T : TypeId) (w' : World) : Prop := (w'.cell? ⟨p, 0, none⟩ = some (.int .u64 (ow s 0)) ∧ w'.cell? ⟨p, 1, none⟩ = some (.int .u64 (ow s 1)) ∧ w'.cell? ⟨p, 2, none⟩ = some (.int .u64 (ow s 2)) ∧ w'.cell? ⟨p, 3, none⟩ = some (.int .u64 (ow s 3))) ∧ HeldO w0 p s T w'
theorem HeldO.all {w0 : World} {p : Nat} {s : OSet} {T : TypeId} {w' : World} (h : HeldO w0 p s T w') : ReadO w0 p s T w' := ⟨oblk_cells h.blk, h⟩
theorem reado_step {w0 : World} {p : Nat} {s : OSet} {T : TypeId} {W W' : World} (hb : Below W.heap.size W W') (h : ReadO w0 p s T W) : ReadO w0 p s T W' :=
  HeldO.all ⟨h.2.below.trans (hb.mono h.2.below.size), h.2.blk.below hb h.2.blk.lt⟩
theorem heldo_new (w : World) (s : OSet) (T : TypeId) : HeldO w w.heap.size s T (w.alloc (.cells (oc s) T)) := ⟨(Below.refl _ w).alloc (Nat.le_refl _) _, Blk.new w _ _ _ rfl⟩
set_option maxHeartbeats 1000000 in
theorem shpunct_any (x : Int) (h0 : 0 ≤ x) (h1 : x ≤ 255) (w : World) : Calls Tryz.prog 79 #[.int .u8 x] w fun e w' => e = .returned (.bool (ohas punctSet x.toNat)) ∧ Below w.heap.size w w' := by
  have hcl := class_any ⟨#[112, 117, 110, 99, 116]⟩ w
  rw [ByteArray.toList_eq, show clsSet (ByteArray.mk #[112, 117, 110, 99, 116]).data.toList = punctSet from rfl, show clsOk (ByteArray.mk #[112, 117, 110, 99, 116]).data.toList = true from rfl] at hcl
  go_enter Tryz.func79, Tryz.ntmps79
  go_wp2_with fail
  refine hcl.mono ?_
  rintro e w1 ⟨rfl, b1⟩
  have hB := Blk.new w1 (oc punctSet) 27 _ rfl
  obtain ⟨c0, c1, c2, c3⟩ := oblk_cells hB
  unfold oc at c0 c1 c2 c3
  clear hcl
  go_wp2_with fail
  refine (has_any punctSet x h0 h1 _).mono ?_
  rintro e w2 ⟨rfl, b2⟩
  go_wp2
  go_ret
  exact ⟨rfl, (b1.alloc b1.size _).trans (b2.mono (by simp; have := b1.size; omega))⟩
set_option maxHeartbeats 2000000 in
theorem shline_any (s : OSet) (w : World) : Calls Tryz.prog 110 #[.agg #[.int .u64 (ow s 0), .int .u64 (ow s 1), .int .u64 (ow s 2), .int .u64 (ow s 3)]] w fun e w' => e = .returned (.bool (lineB s)) ∧ Below w.heap.size w w' := by
  have hall := (heldo_new w s 27).all
  unfold oc at hall
  obtain ⟨⟨c0, c1, c2, c3⟩, hH⟩ := id hall
  have hL := Lib.hid (show lineB s = (ohas s 10 && !(ohas s 9 && ohas s 11)) from rfl)
  go_enter Tryz.func110, Tryz.ntmps110
  go_wp2_with (first | (go_at_call 109; refine (has_any s _ (by decide) (by decide) _).mono ?_; rintro e w' ⟨rfl, hbX⟩; replace hall := reado_step hbX hall; clear hbX; obtain ⟨⟨c0, c1, c2, c3⟩, hH⟩ := id hall))
  all_goals
    go_ret
    exact ⟨ret_bool (by rw [hL.out]; simp [*]), hH.below⟩
set_option maxHeartbeats 2000000 in
theorem shoth_any (s : OSet) (w : World) : Calls Tryz.prog 80 #[.agg #[.int .u64 (ow s 0), .int .u64 (ow s 1), .int .u64 (ow s 2), .int .u64 (ow s 3)]] w fun e w' => e = .returned (.bool (othT s)) ∧ Below w.heap.size w w' := by
  have hall := (heldo_new w s 27).all
  unfold oc at hall
  obtain ⟨⟨c0, c1, c2, c3⟩, hH⟩ := id hall
  have hlen := len_any s (w.alloc (.cells #[.int .u64 (ow s 0), .int .u64 (ow s 1), .int .u64 (ow s 2), .int .u64 (ow s 3)] 27))
  by_cases h1 : 1 ≤ olen s
  · by_cases h2 : olen s ≤ 128
    · have hR := Lib.hid (show othT s = lineB s by unfold othT; rw [if_pos ⟨h1, h2⟩])
      have d1 : decide ((1 : Int) ≤ (olen s : Int)) = true := by simp; omega
      have d2 : decide ((olen s : Int) ≤ (128 : Int)) = true := by simp; omega
      clear h1 h2
      go_enter Tryz.func80, Tryz.ntmps80
      go_wp2_with (first | (go_at_call 49; refine hlen.mono ?_; clear hlen; rintro e w' ⟨rfl, hbX⟩; replace hall := reado_step hbX hall; clear hbX; obtain ⟨⟨c0, c1, c2, c3⟩, hH⟩ := id hall) | (go_at_call 110; refine (shline_any s _).mono ?_; rintro e w' ⟨rfl, hbX⟩; replace hall := reado_step hbX hall; clear hbX; obtain ⟨⟨c0, c1, c2, c3⟩, hH⟩ := id hall))
      go_ret
      exact ⟨ret_bool hR.out.symm, hH.below⟩
    · have hR := Lib.hid (show othT s = !lineB (~~~s) by unfold othT; rw [if_neg (fun h => h2 h.2)])
      have d1 : decide ((1 : Int) ≤ (olen s : Int)) = true := by simp; omega
      have d2 : decide ((olen s : Int) ≤ (128 : Int)) = false := by simp; omega
      clear h1 h2
      go_enter Tryz.func80, Tryz.ntmps80
      go_wp2_with (first | (go_at_call 49; refine hlen.mono ?_; clear hlen; rintro e w' ⟨rfl, hbX⟩; replace hall := reado_step hbX hall; clear hbX; obtain ⟨⟨c0, c1, c2, c3⟩, hH⟩ := id hall) | (go_at_call 63; refine (not_any s _).mono ?_; rintro e w' ⟨rfl, hbX⟩; replace hall := reado_step hbX hall; clear hbX; obtain ⟨⟨c0, c1, c2, c3⟩, hH⟩ := id hall) | (go_at_call 110; refine (shline_any (~~~s) _).mono ?_; rintro e w' ⟨rfl, hbX⟩; replace hall := reado_step hbX hall; clear hbX; obtain ⟨⟨c0, c1, c2, c3⟩, hH⟩ := id hall))
      go_ret
      exact ⟨ret_bool hR.out.symm, hH.below⟩
  · have hR := Lib.hid (show othT s = !lineB (~~~s) by unfold othT; rw [if_neg (fun h => h1 h.1)])
    have d1 : decide ((1 : Int) ≤ (olen s : Int)) = false := by simp; omega
    clear h1
    go_enter Tryz.func80, Tryz.ntmps80
    go_wp2_with (first | (go_at_call 49; refine hlen.mono ?_; clear hlen; rintro e w' ⟨rfl, hbX⟩; replace hall := reado_step hbX hall; clear hbX; obtain ⟨⟨c0, c1, c2, c3⟩, hH⟩ := id hall) | (go_at_call 63; refine (not_any s _).mono ?_; rintro e w' ⟨rfl, hbX⟩; replace hall := reado_step hbX hall; clear hbX; obtain ⟨⟨c0, c1, c2, c3⟩, hH⟩ := id hall) | (go_at_call 110; refine (shline_any (~~~s) _).mono ?_; rintro e w' ⟨rfl, hbX⟩; replace hall := reado_step hbX hall; clear hbX; obtain ⟨⟨c0, c1, c2, c3⟩, hH⟩ := id hall))
    go_ret
    exact ⟨ret_bool hR.out.symm, hH.below⟩
end Go.Proofs.YtpmeicclngckeaaGreatDoor
namespace Go.Proofs.YtpmeicclngckeaaGreatDoor
open Go Go.RowKit
theorem lies_text : LiesB 56 := by unfold LiesB; kernel_rfl
theorem text_u8 : 56 ≠ 5 := by decide
def Tx (B b : Nat) (l : List UInt8) (w : World) : Prop := Lib.IsBuilderF 56 5 B b (Lib.byteCells l) w
structure Frm (B b : Nat) (w w' : World) : Prop where
  low : Below B w w'
  kept : Lib.OthersKept 5 (some b) w w'
theorem Frm.refl (B b : Nat) (w : World) : Frm B b w w := ⟨Below.refl B w, Lib.OthersKept.refl _ _ w⟩
theorem Frm.trans {B b : Nat} {x y z : World} (h : Frm B b x y) (k : Frm B b y z) : Frm B b x z := ⟨h.low.trans k.low, h.kept.trans k.kept⟩
theorem Frm.size {B b : Nat} {x y : World} (h : Frm B b x y) : x.heap.size ≤ y.heap.size := h.low.size
theorem Frm.of {B b : Nat} {x y : World} (h : Below x.heap.size x y) (hB : B ≤ x.heap.size) : Frm B b x y :=
  ⟨h.mono hB, fun k _ hk _ _ => (h.block k (Array.getElem?_eq_some_iff.1 hk).1).trans hk⟩
theorem Frm.then {B b : Nat} {x y z : World} (h : Frm B b x y) (k : Below y.heap.size y z) (hB : B ≤ x.heap.size) : Frm B b x z := h.trans (Frm.of k (Nat.le_trans hB h.size))
theorem Frm.alloc {B b : Nat} {x y : World} (h : Frm B b x y) (hB : B ≤ x.heap.size) (o : Obj) : Frm B b x (y.alloc o) := ⟨h.low.alloc (Nat.le_trans hB h.size) o, h.kept.alloc o⟩
theorem Frm.drew {B b : Nat} {x y : World} (h : Frm B b x y) : Frm B b x y.drew := ⟨h.low.drew, h.kept⟩
theorem Frm.blk {B b : Nat} {w w' : World} (h : Frm B b w w') {k : Nat} {cs : Array Value} {T : TypeId} (hk : Blk w k cs T) (hb : k ≠ b) (hT : T ≠ 5) : Blk w' k cs T :=
  h.kept k _ hk (fun e => hb (Option.some.inj e)) (fun c fz e => hT (by injection e))
theorem Frm.own {B b : Nat} {w w' : World} (h : Frm B b w w') {C : Nat} {e : TypeId} {size n : Nat} {v : Value} {xs : List Value} (hk : w.ownsRow C e size v n xs) (hb : v.ownBlock ≠ some b) (hT : e ≠ 5) : w'.ownsRow C e size v n xs := by
  obtain ⟨h1, h2⟩ := hk
  refine ⟨h1, ?_⟩
  rcases h2 with h2 | ⟨g, cap, cur, hv, h3, h4, h5⟩
  · exact .inl h2
  · subst hv
    exact .inr ⟨g, cap, cur, rfl, h3, h.kept g _ h4 (fun e => hb e) (fun c fz e => hT (by injection e)), h5⟩
theorem Tx.lt {B b : Nat} {l : List UInt8} {w : World} (h : Tx B b l w) : b < w.heap.size := h.elim (fun h => h.lt) (fun h => h.lt)
theorem Tx.blkT {B b : Nat} {l : List UInt8} {w : World} (h : Tx B b l w) : ∃ u v, w.heap[b]? = some (.cells #[u, v] 56 (0, 0)) := by
  rcases h with ⟨_, v, h, _⟩ | ⟨_, v, h, _⟩
  · exact ⟨_, v, h⟩
  · exact ⟨_, v, h⟩
theorem Tx.own_ne {B b : Nat} {l : List UInt8} {w : World} (h : Tx B b l w) {C : Nat} {e : TypeId} {size n : Nat} {v : Value} {xs : List Value} (hk : w.ownsRow C e size v n xs) (hT : e ≠ 56) : v.ownBlock ≠ some b := by
  rcases hk.2 with ⟨rfl, _⟩ | ⟨g, cap, cur, rfl, _, hg, _⟩
  · simp [Value.ownBlock]
  · intro e
    have hgb : g = b := by simpa [Value.ownBlock] using e
    subst hgb
    obtain ⟨u, v, hb⟩ := h.blkT
    rw [hb] at hg
    injection hg with hg
    injection hg with _ hg
    exact hT hg.symm
theorem builder_kept {T e : TypeId} {B b : Nat} {p : Value} {bs : List Value} {w w' : World} (h : Lib.BuilderAtF T e B b p bs w) (hb : Below w.heap.size w w') : Lib.BuilderAtF T e B b p bs w' := by
  have hlt := h.lt
  obtain ⟨hB, v, hbk, hown, hne⟩ := h
  refine ⟨hB, v, (hb.block b hlt).trans hbk, ?_, hne⟩
  refine ⟨hown.1, ?_⟩
  rcases hown.2 with h2 | ⟨g, cap, cur, fz, hv, hg, hh, hr⟩
  · exact .inl h2
  · exact .inr ⟨g, cap, cur, fz, hv, hg, (hb.block g (Array.getElem?_eq_some_iff.1 hh).1).trans hh, hr⟩
theorem Tx.below {B b : Nat} {l : List UInt8} {w w' : World} (h : Tx B b l w) (hb : Below w.heap.size w w') : Tx B b l w' := h.elim (fun h => .inl (builder_kept h hb)) (fun h => .inr (builder_kept h hb))
theorem Tx.alloc {B b : Nat} {l : List UInt8} {w : World} (h : Tx B b l w) (o : Obj) : Tx B b l (w.alloc o) := h.below ((Below.refl _ w).alloc (Nat.le_refl _) o)
theorem Tx.drew {B b : Nat} {l : List UInt8} {w : World} (h : Tx B b l w) : Tx B b l w.drew := h.below (Below.refl _ w).drew
theorem builder_set {T e U : TypeId} {B b : Nat} {p : Value} {bs : List Value} {w : World} (h : Lib.BuilderAtF T e B b p bs w) {q : Nat} {cs : Array Value} (hq : Blk w q cs U) (hn : q ≠ b) (hU : U ≠ e) (j : Nat) (v : Value) : Lib.BuilderAtF T e B b p bs (w.setCell ⟨q, j, none⟩ v) := by
  obtain ⟨hB, x, hbk, hown, hne⟩ := h
  have h1 := Lib.ownBlock_neF hown hq hU
  exact ⟨hB, x, (Below.heap_setCell _ _ _ _ (fun e => hn e.symm)).trans hbk, hown.kept (row := some q) ⟨rfl, rfl, rfl, by simp [World.setCell], fun k _ hk => Below.heap_setCell _ _ _ _ (fun e => hk (by rw [e]))⟩ (Or.inr h1), hne⟩
theorem Tx.set {B b : Nat} {l : List UInt8} {w : World} (h : Tx B b l w) {q : Nat} {cs : Array Value} {U : TypeId} (hq : Blk w q cs U) (hn : q ≠ b) (hU : U ≠ 5) (j : Nat) (v : Value) : Tx B b l (w.setCell ⟨q, j, none⟩ v) :=
  h.elim (fun h => .inl (builder_set h hq hn hU j v)) (fun h => .inr (builder_set h hq hn hU j v))
theorem Frm.set {B b : Nat} {w x : World} (h : Frm B b w x) {q : Nat} (hq : w.heap.size ≤ q) (hB : B ≤ w.heap.size) (j : Nat) (v : Value) : Frm B b w (x.setCell ⟨q, j, none⟩ v) :=
  ⟨h.low.setCell (p := ⟨q, j, none⟩) (Nat.le_trans hB hq) v, fun k o hk hb ho => by
    have hlt := (Array.getElem?_eq_some_iff.1 hk).1
    rw [Below.heap_setCell _ _ _ _ (fun e => by have e2 : k = q := e; omega)]
    exact h.kept k o hk hb ho⟩
theorem put_set {B b : Nat} {l : List UInt8} {w x : World} {q : Nat} {s : OSet} (hT : Tx B b l x) (hF : Frm B b w x) (hq : Blk x q (oc s) 27) (hn : q ≠ b) (hw : w.heap.size ≤ q) (hB : B ≤ w.heap.size) (t : OSet) :
    Tx B b l ((((x.setCell ⟨q, 0, none⟩ (.int .u64 (ow t 0))).setCell ⟨q, 1, none⟩ (.int .u64 (ow t 1))).setCell ⟨q, 2, none⟩ (.int .u64 (ow t 2))).setCell ⟨q, 3, none⟩ (.int .u64 (ow t 3))) ∧
    Frm B b w ((((x.setCell ⟨q, 0, none⟩ (.int .u64 (ow t 0))).setCell ⟨q, 1, none⟩ (.int .u64 (ow t 1))).setCell ⟨q, 2, none⟩ (.int .u64 (ow t 2))).setCell ⟨q, 3, none⟩ (.int .u64 (ow t 3))) ∧
    Blk ((((x.setCell ⟨q, 0, none⟩ (.int .u64 (ow t 0))).setCell ⟨q, 1, none⟩ (.int .u64 (ow t 1))).setCell ⟨q, 2, none⟩ (.int .u64 (ow t 2))).setCell ⟨q, 3, none⟩ (.int .u64 (ow t 3))) q (oc t) 27 :=
  ⟨(((hT.set hq hn (by decide) 0 _).set (hq.set 0 _) hn (by decide) 1 _).set ((hq.set 0 _).set 1 _) hn (by decide) 2 _).set (((hq.set 0 _).set 1 _).set 2 _) hn (by decide) 3 _,
   (((hF.set hw hB 0 _).set hw hB 1 _).set hw hB 2 _).set hw hB 3 _, oblk_store hq t⟩
theorem cells_snoc (l : List UInt8) (x : Int) (h0 : 0 ≤ x) (h1 : x ≤ 255) : Lib.byteCells l ++ [.int .u8 x] = Lib.byteCells (l ++ [UInt8.ofNat x.toNat]) := by
  simp [Lib.byteCells]
  omega
theorem cells_str (l : List UInt8) (s : ByteArray) : Lib.byteCells l ++ Lib.strCells s = Lib.byteCells (l ++ s.data.toList) := by
  simp [Lib.byteCells, Lib.strCells]
theorem txb_any (B b : Nat) (l : List UInt8) (x : Int) (h0 : 0 ≤ x) (h1 : x ≤ 255) (w : World) (h : Tx B b l w) (hl : l.length < 9000000) (hB : B ≤ w.heap.size) :
    Calls Tryz.prog 50 #[.pointer (some ⟨b, 0, none⟩), .int .u8 x] w fun e w' => e = .returned .nilIface ∧ Tx B b (l ++ [UInt8.ofNat x.toNat]) w' ∧ Frm B b w w' :=
  (twbyte_any 56 lies_text text_u8 B b (Lib.byteCells l) x w h (by rw [Lib.byteCells_length]; omega) hB).mono fun _ _ ⟨h1', h2, h3, h4⟩ => ⟨h1', .inr (by rw [← cells_snoc l x h0 h1]; exact h2), h3, h4⟩
theorem txb_d (B b : Nat) (l : List UInt8) (x : Int) (h0 : 0 ≤ x) (h1 : x ≤ 255) (u : FrameMode) (w : World) (h : Tx B b l w) (hl : l.length < 9000000) (hB : B ≤ w.heap.size) :
    CallsD Tryz.prog 50 #[.pointer (some ⟨b, 0, none⟩), .int .u8 x] u w fun e u' w' => u' = u ∧ e = .returned .nilIface ∧ Tx B b (l ++ [UInt8.ofNat x.toNat]) w' ∧ Frm B b w w' :=
  (twbyte_d 56 lies_text text_u8 B b (Lib.byteCells l) x u w h (by rw [Lib.byteCells_length]; omega) hB).mono fun _ _ _ ⟨hu, h1', h2, h3, h4⟩ => ⟨hu, h1', .inr (by rw [← cells_snoc l x h0 h1]; exact h2), h3, h4⟩
theorem txs_any (B b : Nat) (l : List UInt8) (s : ByteArray) (w : World) (h : Tx B b l w) (hl : l.length + s.size < 9000000) (hB : B ≤ w.heap.size) :
    Calls Tryz.prog 40 #[.pointer (some ⟨b, 0, none⟩), .string s] w fun e w' => e = .returned (.tuple #[.int .i64 (s.size : Int), .nilIface]) ∧ Tx B b (l ++ s.data.toList) w' ∧ Frm B b w w' :=
  (twstr_any 56 lies_text text_u8 B b (Lib.byteCells l) s w h (by rw [Lib.byteCells_length]; omega) hB).mono fun _ _ ⟨h1', h2, h3, h4⟩ => ⟨h1', .inr (by rw [← cells_str l s]; exact h2), h3, h4⟩
theorem txs_d (B b : Nat) (l : List UInt8) (s : ByteArray) (u : FrameMode) (w : World) (h : Tx B b l w) (hl : l.length + s.size < 9000000) (hB : B ≤ w.heap.size) :
    CallsD Tryz.prog 40 #[.pointer (some ⟨b, 0, none⟩), .string s] u w fun e u' w' => u' = u ∧ e = .returned (.tuple #[.int .i64 (s.size : Int), .nilIface]) ∧ Tx B b (l ++ s.data.toList) w' ∧ Frm B b w w' :=
  (twstr_d 56 lies_text text_u8 B b (Lib.byteCells l) s u w h (by rw [Lib.byteCells_length]; omega) hB).mono fun _ _ _ ⟨hu, h1', h2, h3, h4⟩ => ⟨hu, h1', .inr (by rw [← cells_str l s]; exact h2), h3, h4⟩
theorem tx_new (w : World) (o : Obj) (ho : o = .cells #[.pointer none, .slice none 0 0] 56) : Tx w.heap.size w.heap.size [] (w.alloc o) := by
  subst ho
  exact .inl ⟨Nat.le_refl _, _, World.alloc_heap_new w _, ⟨by simp [Lib.byteCells], .inl ⟨rfl, by simp [Lib.byteCells]⟩⟩, by simp [Value.ownBlock]⟩
theorem txstr_any (B b : Nat) (l : List UInt8) (w : World) (h : Tx B b l w) (hB : B ≤ w.heap.size) :
    Calls Tryz.prog 25 #[.pointer (some ⟨b, 0, none⟩)] w fun e w' => e = .returned (.string ⟨l.toArray⟩) ∧ Below B w w' := tstring_any 56 B b l w h hB
end Go.Proofs.YtpmeicclngckeaaGreatDoor
namespace Go.Proofs.YtpmeicclngckeaaGreatDoor
open Go Go.RowKit
set_option maxHeartbeats 1000000 in
theorem shitem_any (B b : Nat) (l : List UInt8) (x : Int) (h0 : 0 ≤ x) (h1 : x ≤ 255) (w : World) (h : Tx B b l w) (hl : l.length < 8990000) (hB : B ≤ w.heap.size) :
    Calls Tryz.prog 82 #[.pointer (some ⟨b, 0, none⟩), .int .u8 x] w fun e w' => e = .returned (.tuple #[]) ∧ Tx B b (l ++ endT x.toNat) w' ∧ Frm B b w w' := by
  cases hp : ohas punctSet x.toNat with
  | false =>
    have HE := Lib.hid (show endT x.toNat = [UInt8.ofNat x.toNat] by unfold endT; rw [hp]; rfl)
    go_enter_defers Tryz.func82, Tryz.ntmps82
    go_wp2_with fail
    refine (shpunct_any x h0 h1 w).mono ?_
    rintro e w1 ⟨rfl, b1⟩
    rw [hp]
    have hT := h.below b1
    have hF : Frm B b w w1 := Frm.of b1 hB
    go_wp2_with fail
    refine (txb_any B b l x h0 h1 w1 hT (by omega) (Nat.le_trans hB hF.size)).mono ?_
    rintro e w2 ⟨rfl, hT2, hF2⟩
    go_wp2_with fail
    exact ⟨_, results_none rfl _ _ _, rfl, by rw [HE.out]; exact hT2, hF.trans hF2⟩
  | true =>
    have HE := Lib.hid (show l ++ endT x.toNat = l ++ [91, 46] ++ [UInt8.ofNat x.toNat] ++ [46, 93] by unfold endT; rw [hp]; simp)
    go_enter_defers Tryz.func82, Tryz.ntmps82
    go_wp2_with fail
    refine (shpunct_any x h0 h1 w).mono ?_
    rintro e w1 ⟨rfl, b1⟩
    rw [hp]
    have hT := h.below b1
    have hF : Frm B b w w1 := Frm.of b1 hB
    go_wp2_with fail
    refine (txs_any B b l ⟨#[91, 46]⟩ w1 hT (by show _ + 2 < _; omega) (Nat.le_trans hB hF.size)).mono ?_
    rintro e w2 ⟨rfl, hT2, hF2⟩
    have hF3 := hF.trans hF2
    go_wp2_with fail
    refine (txb_any B b (l ++ [91, 46]) x h0 h1 w2 hT2 (by simp; omega) (Nat.le_trans hB hF3.size)).mono ?_
    rintro e w3 ⟨rfl, hT3, hF4⟩
    have hF5 := hF3.trans hF4
    go_wp2_with fail
    refine leaves_cons (f := 40) (args := #[.pointer (some ⟨b, 0, none⟩), .string ⟨#[46, 93]⟩]) (by simp) (by simp [go_sem]) ?_
    refine (txs_d B b (l ++ [91, 46] ++ [UInt8.ofNat x.toNat]) ⟨#[46, 93]⟩ _ w3 hT3 (by simp [ByteArray.size]; omega) (Nat.le_trans hB hF5.size)).mono ?_
    rintro e u' w4 ⟨rfl, rfl, hT4, hF6⟩
    exact ⟨_, results_none rfl _ _ _, rfl, by rw [HE.out]; exact hT4, hF5.trans hF6⟩
set_option maxHeartbeats 1000000 in
theorem shsingle_any (B b : Nat) (l : List UInt8) (x : Int) (h0 : 0 ≤ x) (h1 : x ≤ 255) (w : World) (h : Tx B b l w) (hl : l.length < 8990000) (hB : B ≤ w.heap.size) :
    Calls Tryz.prog 52 #[.pointer (some ⟨b, 0, none⟩), .int .u8 x] w fun e w' => e = .returned (.tuple #[]) ∧ Tx B b (l ++ byT x.toNat) w' ∧ Frm B b w w' := by
  by_cases h10 : x = 10
  · have HE := Lib.hid (show byT x.toNat = [92, 110] by rw [h10]; rfl)
    have e10 : (x == 10) = true := by rw [h10]; rfl
    clear h10
    go_enter Tryz.func52, Tryz.ntmps52
    go_wp2_with fail
    refine (txs_any B b l ⟨#[92, 110]⟩ w h (by show _ + 2 < _; omega) hB).mono ?_
    rintro e w2 ⟨rfl, hT2, hF2⟩
    go_wp2_with fail
    refine bodyPost_ret (results_none rfl _ _ _) rfl ⟨rfl, by rw [HE.out]; exact hT2, hF2⟩
  · have e10 : (x == 10) = false := by simp [h10]
    have n10 : x.toNat ≠ 10 := by omega
    clear h10
    cases hp : ohas punctSet x.toNat with
    | false =>
      have HE := Lib.hid (show byT x.toNat = [UInt8.ofNat x.toNat] by unfold byT; rw [if_neg n10, hp]; rfl)
      clear n10
      go_enter Tryz.func52, Tryz.ntmps52
      go_wp2_with fail
      refine (shpunct_any x h0 h1 w).mono ?_
      rintro e w1 ⟨rfl, b1⟩
      rw [hp]
      have hT := h.below b1
      have hF : Frm B b w w1 := Frm.of b1 hB
      go_wp2_with fail
      refine (txb_any B b l x h0 h1 w1 hT (by omega) (Nat.le_trans hB hF.size)).mono ?_
      rintro e w2 ⟨rfl, hT2, hF2⟩
      go_wp2_with fail
      go_end0
      exact ⟨rfl, by rw [HE.out]; exact hT2, hF.trans hF2⟩
    | true =>
      have HE := Lib.hid (show l ++ byT x.toNat = l ++ [92] ++ [UInt8.ofNat x.toNat] by unfold byT; rw [if_neg n10, hp]; simp)
      clear n10
      go_enter Tryz.func52, Tryz.ntmps52
      go_wp2_with fail
      refine (shpunct_any x h0 h1 w).mono ?_
      rintro e w1 ⟨rfl, b1⟩
      rw [hp]
      have hT := h.below b1
      have hF : Frm B b w w1 := Frm.of b1 hB
      go_wp2_with fail
      refine (txb_any B b l 92 (by decide) (by decide) w1 hT (by omega) (Nat.le_trans hB hF.size)).mono ?_
      rintro e w2 ⟨rfl, hT2, hF2⟩
      have hF3 := hF.trans hF2
      go_wp2_with fail
      refine (txb_any B b _ x h0 h1 w2 hT2 (by simp; omega) (Nat.le_trans hB hF3.size)).mono ?_
      rintro e w3 ⟨rfl, hT3, hF4⟩
      go_wp2_with fail
      go_end0
      exact ⟨rfl, by rw [HE.out]; exact hT3, hF3.trans hF4⟩
end Go.Proofs.YtpmeicclngckeaaGreatDoor
namespace Go.Proofs.YtpmeicclngckeaaGreatDoor
open Go Go.RowKit
theorem own_pair {w : World} {C : Nat} {e : TypeId} {a : Option Addr} {c : Nat} {l : List (Nat × Nat)} (h : w.ownsRow C e 2 (.slice a l.length c) l.length (flat l)) (k : Nat) (hk : k < l.length) :
    ∃ g, a = some ⟨g, 0, none⟩ ∧ l.length ≤ c ∧ w.cell? ⟨g, k * 2, none⟩ = some (.int .u8 (l[k].1 : Int)) ∧ w.cell? ⟨g, k * 2 + 1, none⟩ = some (.int .u8 (l[k].2 : Int)) := by
  obtain ⟨a', c', g, he, ha, hc, hr⟩ := own_form h
  injection he with he1 he2 he3
  subst he1 he3
  exact ⟨g, ha (by omega), hc, hr.c1 k hk, hr.c2 k hk⟩
theorem spT_snoc (l : List (Nat × Nat)) (k : Nat) (hk : k < l.length) : (l.take (k + 1)).flatMap spT = (l.take k).flatMap spT ++ spT l[k] := by
  rw [List.take_succ_eq_append_getElem hk, List.flatMap_append, List.flatMap_singleton]
theorem spT_part (l : List (Nat × Nat)) (k : Nat) : ((l.take k).flatMap spT).length ≤ 11 * l.length := by
  have h := spans_le (l.take k)
  have h2 : (l.take k).length ≤ l.length := by rw [List.length_take]; omega
  omega
set_option maxRecDepth 100000 in
set_option maxHeartbeats 2000000 in
theorem shbracket_own (s : OSet) (hO : othT s = false) (B b : Nat) (l : List UInt8) (w : World) (h : Tx B b l w) (hl : l.length < 8900000) (hB : B ≤ w.heap.size) :
    Calls Tryz.prog 53 #[.pointer (some ⟨b, 0, none⟩), .agg #[.int .u64 (ow s 0), .int .u64 (ow s 1), .int .u64 (ow s 2), .int .u64 (ow s 3)]] w fun e w' => e = .returned (.tuple #[]) ∧ Tx B b (l ++ brT false s) w' ∧ Frm B b w w' := by
  have hEnd : l ++ brT false s = l ++ [91] ++ (sps s).flatMap spT ++ [93] := by unfold brT; simp
  have hA := (Below.refl w.heap.size w).alloc (Nat.le_refl _) (.cells (oc s) 27)
  have hT := h.below hA
  have hF : Frm B b w _ := Frm.of hA hB
  have hBk := Blk.new w (oc s) 27 _ rfl
  have hne : w.heap.size ≠ b := by have := h.lt; omega
  unfold oc at hT hF hBk
  clear hA
  go_enter_defers Tryz.func53, Tryz.ntmps53
  go_wp2_with fail
  refine (txb_any B b l 91 (by decide) (by decide) _ hT (by omega) (Nat.le_trans hB hF.size)).mono ?_
  rintro e w2 ⟨rfl, hT2, hF2⟩
  have hBk2 := hF2.blk hBk hne (by decide)
  obtain ⟨c0, c1, c2, c3⟩ := oblk_cells hBk2
  replace hF := hF.trans hF2
  clear hT hF2 hBk
  have hT := hT2
  have hBk := hBk2
  clear hT2 hBk2
  go_wp2_with fail
  refine (shoth_any s _).mono ?_
  rintro e w3 ⟨rfl, b3⟩
  rw [hO]
  replace hT := hT.below b3
  replace hF := hF.then b3 hB
  replace hBk := hBk.below b3 hBk.lt
  clear c0 c1 c2 c3 b3
  have hW : w3 = w3 := rfl
  generalize w3 = W at *
  clear hW
  obtain ⟨c0, c1, c2, c3⟩ := oblk_cells hBk
  go_wp2_with fail
  refine (spans_any s _).mono ?_
  rintro e w5 ⟨v, rfl, hown, b5⟩
  have hT5 := hT.below b5
  have hF5 := hF.then b5 hB
  obtain ⟨sa, sc, sg, rfl, _, _, _⟩ := own_form hown
  have hsl : (sps s).length ≤ 256 := spTo_len s 256
  have HO := Lib.hid hown
  have HT5 := Lib.hid hT5
  have HF5 := Lib.hid hF5
  have HX := Lib.hid hEnd
  generalize W.heap.size + 1 = C at HO
  clear hown hT5 hF5 hT hF hBk c0 c1 c2 c3 b5 hEnd
  go_wp2_with fail
  go_loopw [24] (fun i wr => ∃ k : Nat, k ≤ (sps s).length ∧ i = .int .i64 k ∧ Tx B b ((l ++ [91]) ++ ((sps s).take k).flatMap spT) wr ∧ Frm B b w wr ∧ wr.ownsRow C 62 2 (.slice sa (sps s).length sc) (sps s).length (flat (sps s))) (fun i _ => (sps s).length - (intOf i).toNat)
  case atStart => exact ⟨0, by omega, rfl, by simpa using HT5.out, HF5.out, HO.out⟩
  case round =>
    obtain ⟨k, hk, rfl, hTk, hFk, hok⟩ := hrel
    by_cases hlt : k < (sps s).length
    · obtain ⟨g, rfl, hcap, cx, cy⟩ := own_pair hok k hlt
      have hle := sps_le s _ (List.getElem_mem hlt)
      have Hs := Lib.hid (spT_snoc (sps s) k hlt)
      have hpl := spT_part (sps s) k
      generalize (sps s)[k] = q at cx cy hle Hs
      obtain ⟨x, y⟩ := q
      simp only at cx cy hle
      generalize hL1 : (l ++ [91]) ++ ((sps s).take k).flatMap spT = L1 at hTk
      have hL1n : L1.length < 8950000 := by rw [← hL1]; simp only [List.length_append, List.length_cons, List.length_nil]; omega
      have HOK := Lib.hid hok
      have HTK := Lib.hid hTk
      have HFK := Lib.hid hFk
      have HL1 := Lib.hid hL1
      generalize hnn : (sps s).length = n at *
      clear hok hTk hFk hL1 hpl hnn
      go_wp2_with fail
      have hBx := Blk.new wr #[.int .u8 (x : Int), .int .u8 (y : Int)] 62 _ rfl
      have hBn : wr.heap.size ≠ b := by have := HTK.out.lt; omega
      have hBs : B ≤ wr.heap.size := Nat.le_trans hB HFK.out.size
      refine (shitem_any B b L1 (x : Int) (by omega) (by omega) _ (HTK.out.alloc _) (by omega) (by simp; omega)).mono ?_
      rintro e w6 ⟨rfl, hT6, hF6⟩
      rw [Int.toNat_natCast] at hT6
      have hBx6 := hF6.blk hBx hBn (by decide)
      have HBX := Lib.hid hBx6
      have k0 := (hBx6.cell 0).trans rfl
      have k1 := (hBx6.cell 1).trans rfl
      have hF7 := (HFK.out.alloc hB (.cells #[.int .u8 (x : Int), .int .u8 (y : Int)] 62)).trans hF6
      have HOK7 := Lib.hid (hF6.own (own_below HOK.out ((Below.refl _ wr).alloc (Nat.le_refl _) _)) (HTK.out.own_ne HOK.out (by decide)) (by decide))
      have hel := endT_le x
      clear cx cy hF6 hBx hBx6
      by_cases hxy : x < y
      · have e1 : ((x : Int) != (y : Int)) = true := by simp; omega
        have HF7 := Lib.hid hF7
        have HS := Lib.hid (show L1 ++ spT (x, y) = L1 ++ endT x ++ [45] ++ endT y by unfold spT; rw [if_pos hxy]; simp)
        clear hxy hF7
        go_wp2_with fail
        refine (txb_any B b (L1 ++ endT x) 45 (by decide) (by decide) w6 hT6 (by simp only [List.length_append]; omega) (Nat.le_trans hB HF7.out.size)).mono ?_
        rintro e w8 ⟨rfl, hT8, hF8⟩
        have k2 := (hF8.blk (k := wr.heap.size) (cs := #[.int .u8 (x : Int), .int .u8 (y : Int)]) (T := 62) HBX.out hBn (by decide)).cell 1 |>.trans rfl
        have HOK8 := Lib.hid (hF8.own HOK7.out (hT6.own_ne HOK7.out (by decide)) (by decide))
        have HF8 := Lib.hid (HF7.out.trans hF8)
        clear hT6 hF8 k0 k1
        go_wp2_with fail
        refine (shitem_any B b _ (y : Int) (by omega) (by omega) _ hT8 (by simp only [List.length_append, List.length_cons, List.length_nil]; omega) (Nat.le_trans hB HF8.out.size)).mono ?_
        rintro e w9 ⟨rfl, hT9, hF9⟩
        rw [Int.toNat_natCast] at hT9
        have HOK9 := Lib.hid (hF9.own HOK8.out (hT8.own_ne HOK8.out (by decide)) (by decide))
        clear k2
        go_wp2_with fail
        go_roundw
        case rel => exact ⟨k + 1, by omega, by go_num, by rw [Hs.out, ← List.append_assoc, HL1.out, HS.out]; exact hT9, HF8.out.trans hF9, HOK9.out⟩
        case measure => simp [intOf]; omega
      · have e1 : ((x : Int) != (y : Int)) = false := by simp; omega
        have HS := Lib.hid (show L1 ++ spT (x, y) = L1 ++ endT x by unfold spT; rw [if_neg hxy]; simp)
        clear hxy
        go_wp2_with fail
        go_roundw
        case rel => exact ⟨k + 1, by omega, by go_num, by rw [Hs.out, ← List.append_assoc, HL1.out, HS.out]; exact hT6, hF7, HOK7.out⟩
        case measure => simp [intOf]; omega
    · obtain rfl : k = (sps s).length := by omega
      rw [List.take_length] at hTk
      have hpl := spans_le (sps s)
      go_wp2_with fail
      refine leaves_cons (f := 50) (args := #[.pointer (some ⟨b, 0, none⟩), .int .u8 93]) (by simp) (by simp [go_sem]) ?_
      refine (txb_d B b _ 93 (by decide) (by decide) _ wr hTk (by simp only [List.length_append, List.length_cons, List.length_nil]; omega) (Nat.le_trans hB hFk.size)).mono ?_
      rintro e u' w6 ⟨rfl, rfl, hT6, hF6⟩
      exact ⟨_, results_none rfl _ _ _, rfl, by rw [HX.out]; exact hT6, hFk.trans hF6⟩
set_option maxRecDepth 100000 in
set_option maxHeartbeats 2000000 in
theorem shbracket_oth (s : OSet) (hO : othT s = true) (B b : Nat) (l : List UInt8) (w : World) (h : Tx B b l w) (hl : l.length < 8900000) (hB : B ≤ w.heap.size) :
    Calls Tryz.prog 53 #[.pointer (some ⟨b, 0, none⟩), .agg #[.int .u64 (ow s 0), .int .u64 (ow s 1), .int .u64 (ow s 2), .int .u64 (ow s 3)]] w fun e w' => e = .returned (.tuple #[]) ∧ Tx B b (l ++ brT true (~~~s)) w' ∧ Frm B b w w' := by
  have hEnd : l ++ brT true (~~~s) = l ++ [91] ++ [94] ++ (sps (~~~s)).flatMap spT ++ [93] := by unfold brT; simp
  have hA := (Below.refl w.heap.size w).alloc (Nat.le_refl _) (.cells (oc s) 27)
  have hT := h.below hA
  have hF : Frm B b w _ := Frm.of hA hB
  have hBk := Blk.new w (oc s) 27 _ rfl
  have hne : w.heap.size ≠ b := by have := h.lt; omega
  unfold oc at hT hF hBk
  clear hA
  go_enter_defers Tryz.func53, Tryz.ntmps53
  go_wp2_with fail
  refine (txb_any B b l 91 (by decide) (by decide) _ hT (by omega) (Nat.le_trans hB hF.size)).mono ?_
  rintro e w2 ⟨rfl, hT2, hF2⟩
  have hBk2 := hF2.blk hBk hne (by decide)
  obtain ⟨c0, c1, c2, c3⟩ := oblk_cells hBk2
  replace hF := hF.trans hF2
  clear hT hF2 hBk
  have hT := hT2
  have hBk := hBk2
  clear hT2 hBk2
  go_wp2_with fail
  refine (shoth_any s _).mono ?_
  rintro e w3 ⟨rfl, b3⟩
  rw [hO]
  replace hT := hT.below b3
  replace hF := hF.then b3 hB
  replace hBk := hBk.below b3 hBk.lt
  clear c0 c1 c2 c3 b3
  go_wp2_with fail
  refine (txb_any B b (l ++ [91]) 94 (by decide) (by decide) _ hT (by simp only [List.length_append, List.length_cons, List.length_nil]; omega) (Nat.le_trans hB hF.size)).mono ?_
  rintro e w4 ⟨rfl, hT4, hF4⟩
  have hBk4 := hF4.blk hBk hne (by decide)
  obtain ⟨c0, c1, c2, c3⟩ := oblk_cells hBk4
  replace hF := hF.trans hF4
  clear hT hF4 hBk
  have hT := hT4
  have hBk := hBk4
  clear hT4 hBk4
  go_wp2_with fail
  refine (not_any s _).mono ?_
  rintro e w5 ⟨rfl, b5⟩
  replace hT := hT.below b5
  replace hF := hF.then b5 hB
  replace hBk := hBk.below b5 hBk.lt
  have f0 := hBk.frozen 0
  have f1 := hBk.frozen 1
  have f2 := hBk.frozen 2
  have f3 := hBk.frozen 3
  obtain ⟨c0, c1, c2, c3⟩ := oblk_cells hBk
  obtain ⟨hT7, hF7, hBk7⟩ := put_set hT hF hBk hne (Nat.le_refl _) hB (~~~s)
  clear hT hF hBk b5
  have hT := Lib.hid hT7
  have hF := Lib.hid hF7
  have hBk := Lib.hid hBk7
  clear hT7 hF7 hBk7
  go_upto_region 6 with fail
  clear c0 c1 c2 c3 f0 f1 f2 f3
  generalize ((((w5.setCell ⟨w.heap.size, 0, none⟩ (.int .u64 (ow (~~~s) 0))).setCell ⟨w.heap.size, 1, none⟩ (.int .u64 (ow (~~~s) 1))).setCell ⟨w.heap.size, 2, none⟩ (.int .u64 (ow (~~~s) 2))).setCell ⟨w.heap.size, 3, none⟩ (.int .u64 (ow (~~~s) 3))) = W at *
  replace hT := hT.out
  replace hF := hF.out
  replace hBk := hBk.out
  obtain ⟨c0, c1, c2, c3⟩ := oblk_cells hBk
  go_wp2_with fail
  refine (spans_any (~~~s) _).mono ?_
  rintro e w5 ⟨v, rfl, hown, b5⟩
  have hT5 := hT.below b5
  have hF5 := hF.then b5 hB
  obtain ⟨sa, sc, sg, rfl, _, _, _⟩ := own_form hown
  have hsl : (sps (~~~s)).length ≤ 256 := spTo_len (~~~s) 256
  have HO := Lib.hid hown
  have HT5 := Lib.hid hT5
  have HF5 := Lib.hid hF5
  have HX := Lib.hid hEnd
  generalize W.heap.size + 1 = C at HO
  clear hown hT5 hF5 hT hF hBk c0 c1 c2 c3 b5 hEnd
  go_wp2_with fail
  go_loopw [24] (fun i wr => ∃ k : Nat, k ≤ (sps (~~~s)).length ∧ i = .int .i64 k ∧ Tx B b ((l ++ [91] ++ [94]) ++ ((sps (~~~s)).take k).flatMap spT) wr ∧ Frm B b w wr ∧ wr.ownsRow C 62 2 (.slice sa (sps (~~~s)).length sc) (sps (~~~s)).length (flat (sps (~~~s)))) (fun i _ => (sps (~~~s)).length - (intOf i).toNat)
  case atStart => exact ⟨0, by omega, rfl, by simpa using HT5.out, HF5.out, HO.out⟩
  case round =>
    obtain ⟨k, hk, rfl, hTk, hFk, hok⟩ := hrel
    by_cases hlt : k < (sps (~~~s)).length
    · obtain ⟨g, rfl, hcap, cx, cy⟩ := own_pair hok k hlt
      have hle := sps_le (~~~s) _ (List.getElem_mem hlt)
      have Hs := Lib.hid (spT_snoc (sps (~~~s)) k hlt)
      have hpl := spT_part (sps (~~~s)) k
      generalize (sps (~~~s))[k] = q at cx cy hle Hs
      obtain ⟨x, y⟩ := q
      simp only at cx cy hle
      generalize hL1 : (l ++ [91] ++ [94]) ++ ((sps (~~~s)).take k).flatMap spT = L1 at hTk
      have hL1n : L1.length < 8950000 := by rw [← hL1]; simp only [List.length_append, List.length_cons, List.length_nil]; omega
      have HOK := Lib.hid hok
      have HTK := Lib.hid hTk
      have HFK := Lib.hid hFk
      have HL1 := Lib.hid hL1
      generalize hnn : (sps (~~~s)).length = n at *
      clear hok hTk hFk hL1 hpl hnn
      go_wp2_with fail
      have hBx := Blk.new wr #[.int .u8 (x : Int), .int .u8 (y : Int)] 62 _ rfl
      have hBn : wr.heap.size ≠ b := by have := HTK.out.lt; omega
      have hBs : B ≤ wr.heap.size := Nat.le_trans hB HFK.out.size
      refine (shitem_any B b L1 (x : Int) (by omega) (by omega) _ (HTK.out.alloc _) (by omega) (by simp; omega)).mono ?_
      rintro e w6 ⟨rfl, hT6, hF6⟩
      rw [Int.toNat_natCast] at hT6
      have hBx6 := hF6.blk hBx hBn (by decide)
      have HBX := Lib.hid hBx6
      have k0 := (hBx6.cell 0).trans rfl
      have k1 := (hBx6.cell 1).trans rfl
      have hF7 := (HFK.out.alloc hB (.cells #[.int .u8 (x : Int), .int .u8 (y : Int)] 62)).trans hF6
      have HOK7 := Lib.hid (hF6.own (own_below HOK.out ((Below.refl _ wr).alloc (Nat.le_refl _) _)) (HTK.out.own_ne HOK.out (by decide)) (by decide))
      have hel := endT_le x
      clear cx cy hF6 hBx hBx6
      by_cases hxy : x < y
      · have e1 : ((x : Int) != (y : Int)) = true := by simp; omega
        have HF7 := Lib.hid hF7
        have HS := Lib.hid (show L1 ++ spT (x, y) = L1 ++ endT x ++ [45] ++ endT y by unfold spT; rw [if_pos hxy]; simp)
        clear hxy hF7
        go_wp2_with fail
        refine (txb_any B b (L1 ++ endT x) 45 (by decide) (by decide) w6 hT6 (by simp only [List.length_append]; omega) (Nat.le_trans hB HF7.out.size)).mono ?_
        rintro e w8 ⟨rfl, hT8, hF8⟩
        have k2 := (hF8.blk (k := wr.heap.size) (cs := #[.int .u8 (x : Int), .int .u8 (y : Int)]) (T := 62) HBX.out hBn (by decide)).cell 1 |>.trans rfl
        have HOK8 := Lib.hid (hF8.own HOK7.out (hT6.own_ne HOK7.out (by decide)) (by decide))
        have HF8 := Lib.hid (HF7.out.trans hF8)
        clear hT6 hF8 k0 k1
        go_wp2_with fail
        refine (shitem_any B b _ (y : Int) (by omega) (by omega) _ hT8 (by simp only [List.length_append, List.length_cons, List.length_nil]; omega) (Nat.le_trans hB HF8.out.size)).mono ?_
        rintro e w9 ⟨rfl, hT9, hF9⟩
        rw [Int.toNat_natCast] at hT9
        have HOK9 := Lib.hid (hF9.own HOK8.out (hT8.own_ne HOK8.out (by decide)) (by decide))
        clear k2
        go_wp2_with fail
        go_roundw
        case rel => exact ⟨k + 1, by omega, by go_num, by rw [Hs.out, ← List.append_assoc, HL1.out, HS.out]; exact hT9, HF8.out.trans hF9, HOK9.out⟩
        case measure => simp [intOf]; omega
      · have e1 : ((x : Int) != (y : Int)) = false := by simp; omega
        have HS := Lib.hid (show L1 ++ spT (x, y) = L1 ++ endT x by unfold spT; rw [if_neg hxy]; simp)
        clear hxy
        go_wp2_with fail
        go_roundw
        case rel => exact ⟨k + 1, by omega, by go_num, by rw [Hs.out, ← List.append_assoc, HL1.out, HS.out]; exact hT6, hF7, HOK7.out⟩
        case measure => simp [intOf]; omega
    · obtain rfl : k = (sps (~~~s)).length := by omega
      rw [List.take_length] at hTk
      have hpl := spans_le (sps (~~~s))
      go_wp2_with fail
      refine leaves_cons (f := 50) (args := #[.pointer (some ⟨b, 0, none⟩), .int .u8 93]) (by simp) (by simp [go_sem]) ?_
      refine (txb_d B b _ 93 (by decide) (by decide) _ wr hTk (by simp only [List.length_append, List.length_cons, List.length_nil]; omega) (Nat.le_trans hB hFk.size)).mono ?_
      rintro e u' w6 ⟨rfl, rfl, hT6, hF6⟩
      exact ⟨_, results_none rfl _ _ _, rfl, by rw [HX.out]; exact hT6, hFk.trans hF6⟩
theorem shbracket_any (s : OSet) (B b : Nat) (l : List UInt8) (w : World) (h : Tx B b l w) (hl : l.length < 8900000) (hB : B ≤ w.heap.size) :
    Calls Tryz.prog 53 #[.pointer (some ⟨b, 0, none⟩), .agg #[.int .u64 (ow s 0), .int .u64 (ow s 1), .int .u64 (ow s 2), .int .u64 (ow s 3)]] w fun e w' => e = .returned (.tuple #[]) ∧ Tx B b (l ++ (if othT s then brT true (~~~s) else brT false s)) w' ∧ Frm B b w w' := by
  cases hO : othT s with
  | true => exact shbracket_oth s hO B b l w h hl hB
  | false => exact shbracket_own s hO B b l w h hl hB
end Go.Proofs.YtpmeicclngckeaaGreatDoor
namespace Go.Proofs.YtpmeicclngckeaaGreatDoor
open Go Go.RowKit
set_option maxRecDepth 100000 in
set_option maxHeartbeats 1000000 in
theorem shset_t (s : OSet) (B b : Nat) (l : List UInt8) (w : World) (h : Tx B b l w) (hl : l.length < 8890000) (hB : B ≤ w.heap.size) (hTab : TabIn w) (hg : 0 < w.heap.size) :
    Calls Tryz.prog 24 #[.pointer (some ⟨b, 0, none⟩), .agg #[.int .u64 (ow s 0), .int .u64 (ow s 1), .int .u64 (ow s 2), .int .u64 (ow s 3)]] w fun e w' => e = .returned (.tuple #[]) ∧ Tx B b (l ++ setT s) w' ∧ Frm B b w w' := by
  have hA := (Below.refl w.heap.size w).alloc (Nat.le_refl _) (.cells (oc s) 27)
  have hT := h.below hA
  have hF : Frm B b w _ := Frm.of hA hB
  have hBk := Blk.new w (oc s) 27 _ rfl
  have hTab1 := tabIn_below hTab hA hg
  unfold oc at hT hF hBk hTab1
  obtain ⟨c0, c1, c2, c3⟩ := oblk_cells hBk
  have hlen := len_any s (w.alloc (.cells #[.int .u64 (ow s 0), .int .u64 (ow s 1), .int .u64 (ow s 2), .int .u64 (ow s 3)] 27))
  clear hA
  by_cases h256 : olen s = 256
  · have HE := Lib.hid (show setT s = [46] by unfold setT; rw [if_pos h256])
    have e1 : ((olen s : Int) == 256) = true := by rw [h256]; rfl
    clear h256
    go_enter Tryz.func24, Tryz.ntmps24
    go_wp2_with fail
    refine hlen.mono ?_
    rintro e w2 ⟨rfl, b2⟩
    clear hlen
    go_wp2_with fail
    refine (txb_any B b l 46 (by decide) (by decide) _ (hT.below b2) (by omega) (Nat.le_trans hB (hF.then b2 hB).size)).mono ?_
    rintro e w3 ⟨rfl, hT3, hF3⟩
    go_wp2_with fail
    go_end0
    exact ⟨rfl, by rw [HE.out]; exact hT3, (hF.then b2 hB).trans hF3⟩
  · have e1 : ((olen s : Int) == 256) = false := by simp; omega
    by_cases h1 : olen s = 1
    · obtain ⟨c, hc, hlst, hs⟩ := olen_one s h1
      have HE := Lib.hid (show setT s = byT c by unfold setT; rw [if_neg h256, if_pos h1, hlst])
      have e2 : ((olen s : Int) == 1) = true := by rw [h1]; rfl
      have hk : ohas s c = true := by rw [hs]; exact (one_has c c hc).trans (by simp)
      have hk2 : ∀ b, b < c → ohas s b = false := fun b hb => by rw [hs]; exact (one_has c b hc).trans (by simp; omega)
      clear h256 h1 hs hlst
      go_enter Tryz.func24, Tryz.ntmps24
      go_wp2_with fail
      refine hlen.mono ?_
      rintro e w2 ⟨rfl, b2⟩
      have hT2 := hT.below b2
      have hF2 := hF.then b2 hB
      have hBk2 := hBk.below b2 hBk.lt
      have hTab2 := tabIn_below hTab1 b2 (by simp)
      have hz2 := b2.size
      obtain ⟨c0, c1, c2, c3⟩ := oblk_cells hBk2
      have hz3 : w.heap.size < w2.heap.size := by simp at hz2; omega
      clear hlen hT hF hBk hTab1 b2 hz2
      go_wp2_with fail
      refine (least_some s c hc hk hk2 _ hTab2 (by omega)).mono ?_
      rintro e w3 ⟨rfl, b3⟩
      have hT3 := hT2.below b3
      have hF3 := hF2.then b3 hB
      clear hT2 hF2 hBk2 hTab2 b3 c0 c1 c2 c3
      go_wp2_with fail
      refine (shsingle_any B b l (c : Int) (by omega) (by omega) _ hT3 (by omega) (Nat.le_trans hB hF3.size)).mono ?_
      rintro e w4 ⟨rfl, hT4, hF4⟩
      rw [Int.toNat_natCast] at hT4
      go_wp2_with fail
      go_end0
      exact ⟨rfl, by rw [HE.out]; exact hT4, hF3.trans hF4⟩
    · have HE := Lib.hid (show setT s = (if othT s then brT true (~~~s) else brT false s) by unfold setT; rw [if_neg h256, if_neg h1])
      have e2 : ((olen s : Int) == 1) = false := by simp; omega
      clear h256 h1
      go_enter Tryz.func24, Tryz.ntmps24
      go_wp2_with fail
      refine hlen.mono ?_
      rintro e w2 ⟨rfl, b2⟩
      have hT2 := hT.below b2
      have hF2 := hF.then b2 hB
      have hBk2 := hBk.below b2 hBk.lt
      obtain ⟨c0, c1, c2, c3⟩ := oblk_cells hBk2
      clear hlen hT hF hBk hTab1 b2
      go_wp2_with fail
      refine (shbracket_any s B b l _ hT2 (by omega) (Nat.le_trans hB hF2.size)).mono ?_
      rintro e w4 ⟨rfl, hT4, hF4⟩
      go_wp2_with fail
      go_end0
      exact ⟨rfl, by rw [HE.out]; exact hT4, hF2.trans hF4⟩
set_option maxRecDepth 100000 in
set_option maxHeartbeats 1000000 in
theorem shset_any (s : OSet) (w : World) (hTab : TabIn w) (hg : 0 < w.heap.size) :
    Calls Tryz.prog 9 #[.agg #[.int .u64 (ow s 0), .int .u64 (ow s 1), .int .u64 (ow s 2), .int .u64 (ow s 3)]] w fun e w' => e = .returned (.string ⟨(setT s).toArray⟩) ∧ Below w.heap.size w w' := by
  have hA := (Below.refl w.heap.size w).alloc (Nat.le_refl _) (.cells (oc s) 27)
  have hBk := Blk.new w (oc s) 27 _ rfl
  have hTab1 := tabIn_below hTab hA hg
  unfold oc at hA hBk hTab1
  generalize hW1 : w.alloc (.cells #[.int .u64 (ow s 0), .int .u64 (ow s 1), .int .u64 (ow s 2), .int .u64 (ow s 3)] 27) = W1 at *
  have hn1 : W1.heap.size = w.heap.size + 1 := by rw [← hW1]; simp
  have hA2 := (Below.refl W1.heap.size W1).alloc (Nat.le_refl _) (.cells #[.pointer none, .slice none 0 0] 56)
  have hTx := tx_new W1 _ rfl
  have hBk2 := hBk.below hA2 hBk.lt
  have hTab2 := tabIn_below hTab1 hA2 (by omega)
  obtain ⟨c0, c1, c2, c3⟩ := oblk_cells hBk2
  have hA3 := hA.trans (hA2.mono hA.size)
  rw [hn1] at hTx
  have hn2 : (W1.alloc (.cells #[.pointer none, .slice none 0 0] 56)).heap.size = w.heap.size + 2 := by rw [World.size_alloc, hn1]
  clear hA hA2 hBk hTab1
  generalize hW2 : W1.alloc (.cells #[.pointer none, .slice none 0 0] 56) = W2 at *
  go_enter Tryz.func9, Tryz.ntmps9
  go_upto_region 2 with fail
  go_wp2_with fail
  with_reducible refine (shset_t s (w.heap.size + 1) (w.heap.size + 1) [] W2 hTx (by simp) (by omega) hTab2 (by omega)).mono ?_
  rintro e w3 ⟨rfl, hT3, hF3⟩
  rw [List.nil_append] at hT3
  go_wp2_with fail
  with_reducible refine (txstr_any _ _ _ _ hT3 (by have := hF3.size; omega)).mono ?_
  rintro e w4 ⟨rfl, b4⟩
  go_wp2_with fail
  go_ret
  exact ⟨rfl, hA3.trans ((hF3.low.mono (by omega)).trans (b4.mono (by omega)))⟩
end Go.Proofs.YtpmeicclngckeaaGreatDoor
