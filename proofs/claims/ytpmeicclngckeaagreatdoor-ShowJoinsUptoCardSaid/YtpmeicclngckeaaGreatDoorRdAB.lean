/- RdAt: The reader of package bre in memory: its five cells, the rows of marks and of closed groups that it makes; what a step leaves as it was.
   RdA: The reader's small steps: skip, branchEnds, number.
   RdB: The reader's marks: skipMarked. -/
import Derived.Test.YtpmeicclngckeaaGreatDoorCmn
import Derived.Test.YtpmeicclngckeaaGreatDoorMaB
import Derived.Test.YtpmeicclngckeaaGreatDoorMaC
import Derived.Test.YtpmeicclngckeaaGreatDoorMaA
import Derived.Test.YtpmeicclngckeaaGreatDoorNdAo
import Derived.Test.YtpmeicclngckeaaGreatDoorNdInner
import Derived.Test.YtpmeicclngckeaaGreatDoorIdx
import Derived.Deep.RegionHeld3
import Derived.Deep.QuietTactic
import Derived.BigQuiet
import Derived.Lib.OthersKept
import Derived.Deep.AppendLies
namespace Go.Proofs.YtpmeicclngckeaaGreatDoor
open Go Go.RowKit

/-- What a step of the reader leaves as it was: all blocks but its own cells and its two rows. -/
structure RStep (p : Nat) (w : World) (mv cv : Value) (w' : World) (mv' cv' : Value) : Prop where
  os : w'.os = w.os
  tape : w'.tape = w.tape
  output : w'.output = w.output
  size : w.heap.size ≤ w'.heap.size
  block : ∀ b, b < w.heap.size → b ≠ p → mv.ownBlock ≠ some b → cv.ownBlock ≠ some b → w'.heap[b]? = w.heap[b]? ∧ mv'.ownBlock ≠ some b ∧ cv'.ownBlock ≠ some b
theorem RStep.refl (p : Nat) (w : World) (mv cv : Value) : RStep p w mv cv w mv cv := ⟨rfl, rfl, rfl, Nat.le_refl _, fun _ _ _ h1 h2 => ⟨rfl, h1, h2⟩⟩
theorem RStep.trans {p : Nat} {w w1 w2 : World} {mv cv mv1 cv1 mv2 cv2 : Value} (h : RStep p w mv cv w1 mv1 cv1) (k : RStep p w1 mv1 cv1 w2 mv2 cv2) : RStep p w mv cv w2 mv2 cv2 :=
  ⟨k.os.trans h.os, k.tape.trans h.tape, k.output.trans h.output, Nat.le_trans h.size k.size, fun b hb hp h1 h2 => by
    obtain ⟨e1, e2, e3⟩ := h.block b hb hp h1 h2
    obtain ⟨f1, f2, f3⟩ := k.block b (Nat.lt_of_lt_of_le hb h.size) hp e2 e3
    exact ⟨f1.trans e1, f2, f3⟩⟩
theorem RStep.of_below {p : Nat} {w w' : World} {mv cv : Value} (h : Below w.heap.size w w') : RStep p w mv cv w' mv cv :=
  ⟨h.os, h.tape, h.output, h.size, fun b hb _ h1 h2 => ⟨h.block b hb, h1, h2⟩⟩
/-- The blocks that are no reader's. -/
def OffR (p : Nat) (mv cv : Value) (b : Nat) : Prop := b ≠ p ∧ mv.ownBlock ≠ some b ∧ cv.ownBlock ≠ some b
theorem RStep.keep {p : Nat} {w w' : World} {mv cv mv' cv' : Value} (h : RStep p w mv cv w' mv' cv') : ∀ b, OffR p mv cv b → b < w.heap.size → OffR p mv' cv' b ∧ ∀ o, w'.cell? ⟨b, o, none⟩ = w.cell? ⟨b, o, none⟩ := fun b hf hb => by
  obtain ⟨e1, e2, e3⟩ := h.block b hb hf.1 hf.2.1 hf.2.2
  exact ⟨⟨hf.1, e2, e3⟩, fun o => World.cell?_of_block (w := w) (a := ⟨b, o, none⟩) e1⟩
/-- The reader: its text, its state, the groups as they are told (es), how many are open. -/
structure Rd (B p : Nat) (w : World) (s : ByteArray) (st : ReSt) (es : List Bool) (dep : Nat) (mv cv : Value) : Prop where
  blk : Blk w p #[.string s, .int .i64 (st.pos : Int), mv, cv, .int .i64 (dep : Int)] 109
  mo : w.ownsRow B 174 2 mv st.marks.length (marksC st.marks)
  co : w.ownsRow B 4 1 cv es.length (es.map Value.bool)
  rr : RR es (st.opened : Int) st.closed
  bp : B ≤ p
  mp : mv.ownBlock ≠ some p
  cp : cv.ownBlock ≠ some p
  mc : ∀ b, mv.ownBlock = some b → cv.ownBlock ≠ some b
  pos : st.pos ≤ s.size
  small : s.size ≤ 250
  few : st.marks.length ≤ st.pos ∧ es.length ≤ st.pos
theorem Rd.below {B p : Nat} {w w' : World} {s : ByteArray} {st : ReSt} {es : List Bool} {dep : Nat} {mv cv : Value} (h : Rd B p w s st es dep mv cv) (hb : Below w.heap.size w w') : Rd B p w' s st es dep mv cv :=
  { h with blk := h.blk.below hb h.blk.lt, mo := nd_own_below h.mo hb, co := nd_own_below h.co hb }
/-- The cells, and that they may be written. -/
structure RdC (w : World) (p : Nat) (s : ByteArray) (k : Int) (mv cv : Value) (d : Int) : Prop where
  c0 : w.cell? ⟨p, 0, none⟩ = some (.string s)
  c1 : w.cell? ⟨p, 1, none⟩ = some (.int .i64 k)
  c2 : w.cell? ⟨p, 2, none⟩ = some mv
  c3 : w.cell? ⟨p, 3, none⟩ = some cv
  c4 : w.cell? ⟨p, 4, none⟩ = some (.int .i64 d)
  z1 : w.frozen? ⟨p, 1, none⟩ = false
  z2 : w.frozen? ⟨p, 2, none⟩ = false
  z3 : w.frozen? ⟨p, 3, none⟩ = false
  z4 : w.frozen? ⟨p, 4, none⟩ = false
theorem Rd.cells {B p : Nat} {w : World} {s : ByteArray} {st : ReSt} {es : List Bool} {dep : Nat} {mv cv : Value} (h : Rd B p w s st es dep mv cv) : RdC w p s (st.pos : Int) mv cv (dep : Int) :=
  ⟨(h.blk.cell 0).trans rfl, (h.blk.cell 1).trans rfl, (h.blk.cell 2).trans rfl, (h.blk.cell 3).trans rfl, (h.blk.cell 4).trans rfl, h.blk.frozen 1, h.blk.frozen 2, h.blk.frozen 3, h.blk.frozen 4⟩
/-- The place is set. -/
theorem Rd.goto {B p : Nat} {w : World} {s : ByteArray} {st : ReSt} {es : List Bool} {dep : Nat} {mv cv : Value} (h : Rd B p w s st es dep mv cv) (k : Nat) (hk : st.pos ≤ k) (hs : k ≤ s.size) :
    Rd B p (w.setCell ⟨p, 1, none⟩ (.int .i64 (k : Int))) s (st.to k) es dep mv cv ∧ RStep p w mv cv (w.setCell ⟨p, 1, none⟩ (.int .i64 (k : Int))) mv cv := by
  have hset : ∀ b, b ≠ p → (w.setCell ⟨p, 1, none⟩ (.int .i64 (k : Int))).heap[b]? = w.heap[b]? := fun b hb => Below.heap_setCell _ _ _ _ (fun e => hb e)
  have hsz : (w.setCell ⟨p, 1, none⟩ (.int .i64 (k : Int))).heap.size = w.heap.size := by simp [World.setCell]
  refine ⟨{ blk := (h.blk.set 1 (.int .i64 (k : Int))), mo := ?_, co := ?_, rr := h.rr, bp := h.bp, mp := h.mp, cp := h.cp, mc := h.mc, pos := hs, small := h.small, few := ⟨Nat.le_trans h.few.1 hk, Nat.le_trans h.few.2 hk⟩ }, ?_⟩
  · exact h.mo.kept ⟨rfl, rfl, rfl, by rw [hsz]; exact Nat.le_refl _, fun b _ hb => hset b (fun e => hb (by rw [e]))⟩ (Or.inr h.mp)
  · exact h.co.kept ⟨rfl, rfl, rfl, by rw [hsz]; exact Nat.le_refl _, fun b _ hb => hset b (fun e => hb (by rw [e]))⟩ (Or.inr h.cp)
  · exact ⟨rfl, rfl, rfl, by rw [hsz]; exact Nat.le_refl _, fun b _ hp h1 h2 => ⟨hset b hp, h1, h2⟩⟩
set_option linter.unusedSimpArgs false in
set_option maxRecDepth 100000 in
set_option maxHeartbeats 2000000 in
theorem stands_any {B p : Nat} {s : ByteArray} {st : ReSt} {es : List Bool} {dep : Nat} {mv cv : Value} (t : ByteArray) (w : World) (h : Rd B p w s st es dep mv cv) :
    Calls Tryz.prog 122 #[.pointer (some ⟨p, 0, none⟩), .string t] w fun e w' => e = .returned (.bool (wordAt s.data.toList st.pos t.data.toList)) ∧ ∃ n, w' = w.drewN n := by
  obtain ⟨c0, c1, c2, c3, c4, z1, z2, z3, z4⟩ := h.cells
  have hp := h.pos
  have hs := h.small
  have hx := ext_list s st.pos
  have hc := fun w => prefix_any (s.extract st.pos s.size) t w
  rw [hx] at hc
  clear hx h
  unfold wordAt
  go_enter Tryz.func122, Tryz.ntmps122
  go_wp2_with fail
  have hp2 : (st.pos : Int) ≤ (s.size : Int) := by omega
  go_quiet ((go_at_call 115; exact Calls.quiet_of_same ((hc _).mono fun _ _ h => ⟨h.1, h.2.symm⟩)))
  go_wp2_with fail
  go_ret
  exact ⟨rfl, _, rfl⟩
end Go.Proofs.YtpmeicclngckeaaGreatDoor
namespace Go.Proofs.YtpmeicclngckeaaGreatDoor
open Go Go.RowKit

set_option linter.unusedSimpArgs false in
set_option maxRecDepth 100000 in
set_option maxHeartbeats 2000000 in
theorem skip_no {B p : Nat} {s : ByteArray} {st : ReSt} {es : List Bool} {dep : Nat} {mv cv : Value} (t : ByteArray) (w : World) (h : Rd B p w s st es dep mv cv) (hn : wordAt s.data.toList st.pos t.data.toList = false) :
    Calls Tryz.prog 104 #[.pointer (some ⟨p, 0, none⟩), .string t] w fun e w' => e = .returned (.bool false) ∧ ∃ n, w' = w.drewN n := by
  have hc := stands_any t w h
  rw [hn] at hc
  clear h
  go_enter Tryz.func104, Tryz.ntmps104
  go_wp2_with (go_at_call 122; refine hc.mono ?_; rintro e w' ⟨rfl, n, rfl⟩)
  go_ret
  exact ⟨rfl, n, rfl⟩
set_option linter.unusedSimpArgs false in
set_option maxRecDepth 100000 in
set_option maxHeartbeats 2000000 in
theorem skip_yes {B p : Nat} {s : ByteArray} {st : ReSt} {es : List Bool} {dep : Nat} {mv cv : Value} (t : ByteArray) (w : World) (h : Rd B p w s st es dep mv cv) (hn : wordAt s.data.toList st.pos t.data.toList = true) (h0 : t.data.toList ≠ []) :
    Calls Tryz.prog 104 #[.pointer (some ⟨p, 0, none⟩), .string t] w fun e w' => e = .returned (.bool true) ∧ Rd B p w' s (st.to (st.pos + t.size)) es dep mv cv ∧ RStep p w mv cv w' mv cv := by
  have hc := stands_any t w h
  rw [hn] at hc
  have hl := word_len _ _ _ hn h0
  have e1 : s.data.toList.length = s.size := by simp
  have e2 : t.data.toList.length = t.size := by simp
  rw [e1, e2] at hl
  have hsm := h.small
  have Wn : IntKind.i64.wrap ((st.pos : Int) + (t.size : Int)) = ((st.pos + t.size : Nat) : Int) := by rw [IntWalk.i64_in _ (by omega)]; omega
  have hg := fun n => (h.below (below_drewN (Below.refl w.heap.size w) n)).goto (st.pos + t.size) (by omega) hl
  have hstep := fun n => RStep.of_below (p := p) (mv := mv) (cv := cv) (below_drewN (Below.refl w.heap.size w) n)
  obtain ⟨c0, c1, c2, c3, c4, z1, z2, z3, z4⟩ := h.cells
  have hx : (st.pos : Int) + (t.size : Int) = ((st.pos + t.size : Nat) : Int) := by omega
  clear h hn h0 e1 e2
  have HG := Lib.hid hg
  have HX := Lib.hid hx
  clear hg hx
  go_enter Tryz.func104, Tryz.ntmps104
  go_wp2_with (go_at_call 122; refine hc.mono ?_; rintro e w' ⟨rfl, n, rfl⟩)
  go_ret
  refine ⟨rfl, ?_, ?_⟩
  · exact (HG.out n).1
  · exact (hstep n).trans (HG.out n).2
set_option linter.unusedSimpArgs false in
set_option maxRecDepth 100000 in
set_option maxHeartbeats 2000000 in
theorem bends_any (s : ByteArray) (k : Nat) (w : World) :
    Calls Tryz.prog 105 #[.string (s.extract k s.size)] w fun e w' => e = .returned (.bool (endsAt s.data.toList k)) ∧ w = w' := by
  have h1 := fun w => prefix_any (s.extract k s.size) ⟨#[92, 124]⟩ w
  have h2 := fun w => prefix_any (s.extract k s.size) ⟨#[92, 41]⟩ w
  have hx := ext_list s k
  rw [hx] at h1 h2
  rw [ends_words]
  unfold wordAt
  have hE : (s.data.toList.drop k).isEmpty = (s.extract k s.size).toList.isEmpty := by rw [← hx, ByteArray.toList_eq]
  rw [hE]
  generalize s.extract k s.size = r at *
  generalize s.data.toList.drop k = l at *
  clear hE hx
  cases he : r.toList.isEmpty
  · have e2 : ¬ r.toList = [] := by intro e; rw [e] at he; cases he
    have e1 : (r.toList == []) = false := by rw [beq_eq_false_iff_ne]; exact e2
    cases q1 : Lib.hasPrefix l [92, 124]
    · rw [show Lib.hasPrefix l (⟨#[92, 124]⟩ : ByteArray).data.toList = false from q1] at h1
      cases q2 : Lib.hasPrefix l [92, 41]
      · rw [show Lib.hasPrefix l (⟨#[92, 41]⟩ : ByteArray).data.toList = false from q2] at h2
        clear q1 q2
        go_enter Tryz.func105, Tryz.ntmps105
        go_wp2_with (first | (go_at_call_of 115 (ByteArray.mk #[92, 124]); refine (h1 _).mono ?_; rintro e w' ⟨rfl, rfl⟩) | (go_at_call 115; refine (h2 _).mono ?_; rintro e w' ⟨rfl, rfl⟩))
        go_ret
        exact ⟨rfl, rfl⟩
      · rw [show Lib.hasPrefix l (⟨#[92, 41]⟩ : ByteArray).data.toList = true from q2] at h2
        clear q1 q2
        go_enter Tryz.func105, Tryz.ntmps105
        go_wp2_with (first | (go_at_call_of 115 (ByteArray.mk #[92, 124]); refine (h1 _).mono ?_; rintro e w' ⟨rfl, rfl⟩) | (go_at_call 115; refine (h2 _).mono ?_; rintro e w' ⟨rfl, rfl⟩))
        go_ret
        exact ⟨rfl, rfl⟩
    · rw [show Lib.hasPrefix l (⟨#[92, 124]⟩ : ByteArray).data.toList = true from q1] at h1
      clear q1
      go_enter Tryz.func105, Tryz.ntmps105
      go_wp2_with (first | (go_at_call_of 115 (ByteArray.mk #[92, 124]); refine (h1 _).mono ?_; rintro e w' ⟨rfl, rfl⟩) | (go_at_call 115; refine (h2 _).mono ?_; rintro e w' ⟨rfl, rfl⟩))
      go_ret
      exact ⟨rfl, rfl⟩
  · have e2 : r.toList = [] := List.isEmpty_iff.1 he
    have e1 : (r.toList == []) = true := by rw [e2]; rfl
    clear h1 h2
    go_enter Tryz.func105, Tryz.ntmps105
    go_wp2_with fail
    go_ret
    exact ⟨rfl, rfl⟩
set_option maxRecDepth 100000 in
theorem decodeN_hi (n b c d e : Nat) (h : ¬ b < 128) : 127 < (Lib.decodeN n b c d e).1 := by
  unfold Lib.decodeN
  rw [if_neg h]
  repeat' split
  all_goals (simp only; omega)
theorem decode_hi (s : ByteArray) (pos : Nat) (h : ¬ (s.data.toList.getD pos 0).toNat < 128) : 127 < (Utf8.decode s pos).1 := by
  rw [decode_list]
  exact decodeN_hi _ _ _ _ _ h
theorem ext_size (s : ByteArray) (k : Nat) : (s.extract k s.size).size = s.size - k := by
  simp
theorem ext_byt (s : ByteArray) (k j : Nat) : ((s.extract k s.size).data.toList.getD j 0).toNat = byt s.data.toList (k + j) := by
  rw [ext_list]
  unfold byt
  rw [List.getD_eq_getElem?_getD, List.getD_eq_getElem?_getD, List.getElem?_drop]
theorem ret_ib {a : Int} {b c : Bool} (h : b = c) : Ending.returned (.tuple #[.int .i64 a, .bool b]) = .returned (.tuple #[.int .i64 a, .bool c]) := by rw [h]
end Go.Proofs.YtpmeicclngckeaaGreatDoor
namespace Go.Proofs.YtpmeicclngckeaaGreatDoor
open Go Go.RowKit

/-- One mark more. -/
theorem Rd.mark {B p : Nat} {W w6 : World} {s : ByteArray} {st : ReSt} {es : List Bool} {dep : Nat} {mv cv v6 : Value} {m : Nat × Nat} (h : Rd B p W s st es dep mv cv)
    (hown : w6.ownsRow B 174 2 v6 (st.marks.length + 1) (marksC st.marks ++ markC m)) (hg : W.grownBy w6 mv.ownBlock) (hat : v6.ownBlock = mv.ownBlock ∨ v6.ownBlock = some W.heap.size) (hfew : st.marks.length + 1 ≤ st.pos) :
    Rd B p (w6.setCell ⟨p, 2, none⟩ v6) s { st with marks := st.marks ++ [m] } es dep v6 cv ∧ RStep p W mv cv (w6.setCell ⟨p, 2, none⟩ v6) v6 cv := by
  have hpl := h.blk.lt
  have hcl := fun b hb => own_lt' h.co b hb
  have hset : ∀ b, b ≠ p → (w6.setCell ⟨p, 2, none⟩ v6).heap[b]? = w6.heap[b]? := fun b hb => Below.heap_setCell _ _ _ _ (fun e => hb e)
  have hsz : (w6.setCell ⟨p, 2, none⟩ v6).heap.size = w6.heap.size := by simp [World.setCell]
  have hv6p : v6.ownBlock ≠ some p := by
    rcases hat with e | e
    · rw [e]; exact h.mp
    · rw [e]; intro he; injection he with he; omega
  have hb6 : Blk w6 p #[.string s, .int .i64 (st.pos : Int), mv, cv, .int .i64 (dep : Int)] 109 := by
    have h1 := h.blk
    unfold Blk at h1 ⊢
    rw [hg.block p hpl (fun e => h.mp e.symm)]
    exact h1
  have hco6 := h.co.kept hg (by
    rcases hc : cv.ownBlock with _ | b
    · exact .inl rfl
    · refine .inr (fun e => ?_)
      exact h.mc b e.symm hc)
  refine ⟨{ blk := hb6.set 2 v6, mo := ?_, co := ?_, rr := h.rr, bp := h.bp, mp := hv6p, cp := h.cp, mc := ?_, pos := h.pos, small := h.small, few := ⟨by simp; exact hfew, h.few.2⟩ }, ?_⟩
  · rw [List.length_append, marksC_snoc]
    exact hown.kept ⟨rfl, rfl, rfl, by rw [hsz]; exact Nat.le_refl _, fun b _ hb => hset b (fun e => hb (by rw [e]))⟩ (Or.inr hv6p)
  · exact hco6.kept ⟨rfl, rfl, rfl, by rw [hsz]; exact Nat.le_refl _, fun b _ hb => hset b (fun e => hb (by rw [e]))⟩ (Or.inr h.cp)
  · intro b hb
    rcases hat with e | e
    · exact h.mc b (by rw [← e]; exact hb)
    · intro hc
      rw [e] at hb
      injection hb with hb
      have := hcl b hc
      omega
  · refine ⟨hg.os, hg.tape, hg.output, by rw [hsz]; exact hg.size, fun b hb hp h1 h2 => ⟨?_, ?_, h2⟩⟩
    · rw [hset b hp]
      exact hg.block b hb (fun e => h1 e.symm)
    · rcases hat with e | e
      · rw [e]; exact h1
      · rw [e]; intro he; injection he with he; omega
set_option linter.unusedSimpArgs false in
set_option maxRecDepth 100000 in
set_option maxHeartbeats 2000000 in
theorem skipm_no {B p : Nat} {s : ByteArray} {st : ReSt} {es : List Bool} {dep : Nat} {mv cv : Value} (t : ByteArray) (w : World) (h : Rd B p w s st es dep mv cv) (hn : wordAt s.data.toList st.pos t.data.toList = false) :
    Calls Tryz.prog 74 #[.pointer (some ⟨p, 0, none⟩), .string t] w fun e w' => e = .returned (.bool false) ∧ ∃ n, w' = w.drewN n := by
  have hc := skip_no t w h hn
  obtain ⟨c0, c1, c2, c3, c4, z1, z2, z3, z4⟩ := h.cells
  clear h
  go_enter Tryz.func74, Tryz.ntmps74
  go_wp2_with (go_at_call 104; refine hc.mono ?_; rintro e w' ⟨rfl, n, rfl⟩)
  go_ret
  exact ⟨rfl, n, rfl⟩
set_option linter.unusedSimpArgs false in
set_option maxRecDepth 100000 in
set_option maxHeartbeats 2000000 in
theorem skipm_yes {B p : Nat} {s : ByteArray} {st : ReSt} {es : List Bool} {dep : Nat} {mv cv : Value} (c : Nat) (w : World) (h : Rd B p w s st es dep mv cv) (hn : wordAt s.data.toList st.pos [92, UInt8.ofNat c] = true) :
    Calls Tryz.prog 74 #[.pointer (some ⟨p, 0, none⟩), .string ⟨#[92, UInt8.ofNat c]⟩] w fun e w' => e = .returned (.bool true) ∧ ∃ mv', Rd B p w' s ((st.mark c).to (st.pos + 2)) es dep mv' cv ∧ RStep p w mv cv w' mv' cv := by
  obtain ⟨i0, hi, hz0, hz1, hz2⟩ := mark_info
  have hc := skip_yes ⟨#[92, UInt8.ofNat c]⟩ w h hn (by simp)
  rw [show (ByteArray.mk #[92, UInt8.ofNat c]).size = 2 from rfl] at hc
  have hs := h.small
  have hp := h.pos
  have hfew := h.few.1
  obtain ⟨c0, c1, c2, c3, c4, z1, z2, z3, z4⟩ := h.cells
  have hb0 := Nat.le_trans h.bp (Nat.le_of_lt h.blk.lt)
  clear h
  go_enter Tryz.func74, Tryz.ntmps74
  go_wp2_with fail
  refine hc.mono ?_
  rintro e w1 ⟨rfl, hR, hS⟩
  clear hc c0 c1 c2 c3 c4 z1 z2 z3 z4
  obtain ⟨c0, c1, c2, c3, c4, z1, z2, z3, z4⟩ := hR.cells
  have hA := (Below.refl w1.heap.size w1).alloc (Nat.le_refl _) (.cells #[.int .i64 (st.pos : Int), .string ⟨#[92, UInt8.ofNat c]⟩] 174)
  have hRA := hR.below hA
  have hpl := hR.blk.lt
  have hSA := hS.trans (RStep.of_below (p := p) (mv := mv) (cv := cv) hA)
  have hnw : ∀ j u, (markC (st.pos, c))[j]? = some u → (w1.alloc (.cells #[.int .i64 (st.pos : Int), .string ⟨#[92, UInt8.ofNat c]⟩] 174)).cell? ((⟨w1.heap.size, 0, none⟩ : Addr).add j) = some u := by
    have hb := Blk.new w1 #[.int .i64 (st.pos : Int), .string ⟨#[92, UInt8.ofNat c]⟩] 174 w1.heap.size rfl
    intro j u hu
    rw [Go.WideShapes.add_plain, Nat.zero_add, hb.cell j, ← Array.getElem?_toList]
    exact hu
  have hv1 : ∀ u ∈ markC (st.pos, c), u.oneCell' = true := by intro u hu; simp [markC] at hu; rcases hu with rfl | rfl <;> rfl
  have hm1 : (st.to (st.pos + 2)).marks.length + 1 ≤ maxLen := by show st.marks.length + 1 ≤ _; unfold maxLen; omega
  have hm2 : ((st.to (st.pos + 2)).marks.length + 1) * 24 ≤ 140737488355328 := by show (st.marks.length + 1) * 24 ≤ _; omega
  have hbase : B ≤ w1.heap.size := Nat.le_trans hR.bp (Nat.le_of_lt hpl)
  have HS := Lib.hid hSA
  have HR := Lib.hid hRA
  clear hA hRA hSA hR hS
  go_wp2_with (at_builtin; refine wpList_append_any _ rfl _ _ 32 rfl B 174 i0 (.agg #[.int .i64 0, .string ⟨#[]⟩]) 2 24 Tryz.underlying32 hi hz0 hz1 hz2 rfl (by decide) mv _ _ rfl HR.out.mo (some ⟨w1.heap.size, 0, none⟩) 1 1 (markC (st.pos, c)) rfl rfl (fun _ => ⟨_, rfl, hnw⟩) hv1 hm1 hm2 (by simp; omega) ?_; intro v6 w6 hown6 hgrow6 hat6; have HM := Lib.hid (HR.out.mark (m := (st.pos, c)) hown6 hgrow6 hat6 (by show st.marks.length + 1 ≤ st.pos + 2; omega)); have hfz : w6.frozen? ⟨p, 2, none⟩ = false := (hgrow6.frozen_far ⟨p, 2, none⟩ (by simp; omega) (fun e => HR.out.mp e.symm)).trans (HR.out.blk.frozen 2); have hce : w6.cell? ⟨p, 2, none⟩ = some mv := (hgrow6.cell_far ⟨p, 2, none⟩ (by simp; omega) (fun e => HR.out.mp e.symm)).trans ((HR.out.blk.cell 2).trans rfl); obtain ⟨g, gcap, hv6, _, _⟩ := World.ownsRow.form hown6 (Nat.succ_pos _); subst hv6; clear hown6 hgrow6 hat6 hnw c0 c1 c2 c3 c4 z1 z2 z3 z4)
  go_ret
  exact ⟨rfl, _, HM.out.1, HS.out.trans HM.out.2⟩
end Go.Proofs.YtpmeicclngckeaaGreatDoor
