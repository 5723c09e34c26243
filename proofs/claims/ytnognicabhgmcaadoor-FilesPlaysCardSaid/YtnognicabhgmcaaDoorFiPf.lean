/- A table and the document's beside it. -/
import Derived.Test.YtnognicabhgmcaaDoorFiPe
namespace Go.Proofs.YtnognicabhgmcaaDoor
open Go Go.RowKit

theorem FsOwn.turn {T : TypeId} {F G : Nat → Prop} {B : Nat} {w w' : World} {v : Value} {fs : List Fl} (h : FsOwn T G w B v fs) (hv : ∀ b, v.ownBlock = some b → G b) (ht : Turn F w w') (hd : ∀ b, F b → ¬ G b) : FsOwn T G w' B v fs := by
  obtain ⟨L, h1, h2, h3⟩ := h
  exact ⟨L, h1, fi_row_same h2 fun b hb => ht.block b (fi_row_lt h2 hb).2 fun f => hd b f (hv b hb), fun x hx => ⟨fi_row_same (h3 x hx).1 fun b hb => ht.block b (fi_row_lt (h3 x hx).1 hb).2 fun f => hd b f ((h3 x hx).2 b hb), (h3 x hx).2⟩⟩
/-- The program's table at p, the document's in vr. -/
def Play (B : Nat) (P : Nat → Prop) (p N : Nat) (L K : List Fl) (vr : Value) (w : World) : Prop := ∃ (F G : Nat → Prop) (C : Nat), (∀ b, P b → G b) ∧ FT F p N L w ∧ FsOwn 50 G w C vr K ∧ (∀ b, vr.ownBlock = some b → G b) ∧ (∀ b, F b → ¬ G b) ∧ (∀ b, F b → B ≤ b ∧ b < w.heap.size) ∧ (∀ b, G b → B ≤ b ∧ b < w.heap.size) ∧ B ≤ w.heap.size
variable {B p N : Nat} {P : Nat → Prop} {L K : List Fl} {vr : Value} {w w' : World}
theorem Play.below (h : Play B P p N L K vr w) (hb : Below w.heap.size w w') : Play B P p N L K vr w' := by
  obtain ⟨F, G, C, h0, h1, h2, h3, h4, h5, h6, h7⟩ := h
  exact ⟨F, G, C, h0, h1.below hb, h2.below hb, h3, h4, fun b f => ⟨(h5 b f).1, Nat.lt_of_lt_of_le (h5 b f).2 hb.size⟩, fun b f => ⟨(h6 b f).1, Nat.lt_of_lt_of_le (h6 b f).2 hb.size⟩, Nat.le_trans h7 hb.size⟩
theorem Play.more (h : Play B P p N L K vr w) {M : Nat} (hM : N ≤ M) : Play B P p M L K vr w := by
  obtain ⟨F, G, C, h0, ⟨mp, V, h1⟩, h2⟩ := h
  exact ⟨F, G, C, h0, ⟨mp, V, h1.more hM⟩, h2⟩
theorem Play.base (h : Play B P p N L K vr w) : B ≤ w.heap.size := by obtain ⟨F, G, C, _, _, _, _, _, _, _, h7⟩ := h; exact h7
theorem Play.srt (h : Play B P p N L K vr w) : Srt L := by obtain ⟨F, G, C, _, h1, _⟩ := h; exact FT.srt h1
theorem Play.len (h : Play B P p N L K vr w) : L.length ≤ N := by
  obtain ⟨F, G, C, h0, ⟨mp, V, h1⟩, _⟩ := h
  obtain ⟨D, hown, hhas, _⟩ := h1.own
  rw [← List.length_map (f := fun x : Fl => x.1), (own_keys hown h1.srt hhas).length_eq, keys_size hown.isMap]
  exact hown.size_le
theorem Play.form (h : Play B P p N L K vr w) : ∃ a c, vr = .slice a K.length c := by obtain ⟨F, G, C, _, _, h2, _⟩ := h; exact h2.form
theorem Play.rd {a : Option Addr} {n c : Nat} (h : Play B P p N L K (.slice a n c) w) : FsRd w a K := by obtain ⟨F, G, C, _, _, h2, _⟩ := h; exact h2.rd
theorem Play.few (h : Play B P p N L K vr w) : ∀ f ∈ K, f.2.length ≤ maxLen := by obtain ⟨F, G, C, _, _, h2, _⟩ := h; exact h2.few
theorem Play.made {w1 w2 : World} (h1 : FT (fun b => w.heap.size ≤ b) p N L w1) (hb : B ≤ w.heap.size) (hw : w.heap.size ≤ w1.heap.size) (h2 : FsOwn 50 (fun b => w1.heap.size ≤ b) w2 w1.heap.size vr K) (hb2 : Below w1.heap.size w1 w2) : Play B (fun _ => False) p N L K vr w2 :=
  ⟨fun b => w.heap.size ≤ b ∧ b < w1.heap.size, fun b => w1.heap.size ≤ b ∧ b < w2.heap.size, w1.heap.size, fun b h => h.elim, (h1.wider fun b hl h => ⟨h, hl⟩).below hb2, h2.mono (Nat.le_refl _) fun b hl h => ⟨h, hl⟩, fun b hv => by
    obtain ⟨M, _, h3, _⟩ := h2
    exact fi_row_lt h3 hv, fun b h g => by omega, fun b h => ⟨by omega, Nat.lt_of_lt_of_le h.2 hb2.size⟩, fun b h => ⟨by omega, h.2⟩, by have := hb2.size; omega⟩
theorem Play.lines (h : Play B P p N L K vr w) (x : List UInt8) (hx : x.length ≤ 1000) {M : Nat} (hl : LnFew M L) (hM : M ≤ 100000) : Calls Tryd.prog 20 #[.pointer (some ⟨p, 0, none⟩), .string (txt x)] w fun e w' => ∃ v', e = .returned v' ∧ LnNew w (gl L x) v' w' := by
  obtain ⟨F, G, C, h0, ⟨mp, V, h1⟩, _⟩ := h
  exact filines_any x h1 (by unfold maxLen; omega) (Nat.le_trans (hl.gl x) (by omega))
theorem Play.has (h : Play B P p N L K vr w) (x : List UInt8) (hx : x.length ≤ 1000) : Calls Tryd.prog 16 #[.pointer (some ⟨p, 0, none⟩), .string (txt x)] w fun e w' => e = .returned (.bool (fLines L x).isSome) ∧ w' = w := by
  obtain ⟨F, G, C, h0, ⟨mp, V, h1⟩, _⟩ := h
  exact fihas_any x h1 (by unfold maxLen; omega)
theorem Play.list (h : Play B P p N L K vr w) (hn : N ≤ 1000) {M : Nat} (hl : LnFew M L) (hM : M ≤ 100000) : Calls Tryd.prog 19 #[.pointer (some ⟨p, 0, none⟩)] w fun e w' => ∃ v, e = .returned v ∧ FsOwn 45 (fun b => w.heap.size ≤ b) w' w.heap.size v L ∧ Below w.heap.size w w' := by
  obtain ⟨F, G, C, h0, ⟨mp, V, h1⟩, _⟩ := h
  exact filist_any h1 hn (hl.more hM)
/-- A block that is made beside them is written by nobody. -/
theorem Play.protect (h : Play B (fun _ => False) p N L K vr w) (o : Obj) : Play B (fun b => b = w.heap.size) p N L K vr (w.alloc o) := by
  obtain ⟨F, G, C, h0, h1, h2, h3, h4, h5, h6, h7⟩ := h
  have hb := (Below.refl w.heap.size w).alloc (Nat.le_refl _) o
  have hs : (w.alloc o).heap.size = w.heap.size + 1 := World.size_alloc _ _
  exact ⟨F, fun b => G b ∨ b = w.heap.size, C, fun b e => .inr e, h1.below hb, (h2.below hb).mono (Nat.le_refl _) fun b _ g => .inl g, fun b hv => .inl (h3 b hv), fun b f g => g.elim (h4 b f) fun e => by have := (h5 b f).2; omega, fun b f => ⟨(h5 b f).1, by have := (h5 b f).2; omega⟩, fun b g => g.elim (fun g => ⟨(h6 b g).1, by have := (h6 b g).2; omega⟩) fun e => ⟨by omega, by omega⟩, by omega⟩
theorem Play.free (h : Play B P p N L K vr w) : Play B (fun _ => False) p N L K vr w := by
  obtain ⟨F, G, C, _, h1⟩ := h
  exact ⟨F, G, C, fun b h => h.elim, h1⟩
/-- Behind a step that writes the table's own blocks alone. -/
theorem play_turn {F G : Nat → Prop} {C : Nat} {L' : List Fl} {n : Nat} (h0 : ∀ b, P b → G b) (h2 : FsOwn 50 G w C vr K) (h3 : ∀ b, vr.ownBlock = some b → G b) (h4 : ∀ b, F b → ¬ G b) (h5 : ∀ b, F b → B ≤ b ∧ b < w.heap.size) (h6 : ∀ b, G b → B ≤ b ∧ b < w.heap.size) (h7 : B ≤ w.heap.size)
    (h8 : FT (fun b => F b ∨ w.heap.size ≤ b) p n L' w') (ht : Turn F w w') : Play B P p n L' K vr w' ∧ Below B w w' ∧ ∀ b, P b → w'.heap[b]? = w.heap[b]? := by
  refine ⟨⟨fun b => (F b ∨ w.heap.size ≤ b) ∧ b < w'.heap.size, G, C, h0, h8.wider fun b hl h => ⟨h, hl⟩, h2.turn h3 ht h4, h3, fun b hb g => ?_, fun b hb => ⟨?_, hb.2⟩, fun b g => ⟨(h6 b g).1, Nat.lt_of_lt_of_le (h6 b g).2 ht.size⟩, Nat.le_trans h7 ht.size⟩, ht.below h7 (fun b f => (h5 b f).1), fun b hp => ht.block b (h6 b (h0 b hp)).2 fun f => h4 b f (h0 b hp)⟩
  · rcases hb.1 with f | hl
    · exact h4 b f g
    · have := (h6 b g).2; omega
  · rcases hb.1 with f | hl
    · exact (h5 b f).1
    · omega
theorem Play.add (h : Play B P p N L K vr w) (x : List UInt8) (s : ByteArray) (hx : x.length ≤ 1000) (hs : s.size ≤ 1000) (hn : N ≤ 1000) {M : Nat} (hl : LnFew M L) (hM : M ≤ 100000) (hG : GM w) :
    Calls Tryd.prog 10 #[.pointer (some ⟨p, 0, none⟩), .string (txt x), .string s] w fun e w' => e = .returned (.tuple #[]) ∧ Play B P p (N + 1) (fAdd L x s.data.toList) K vr w' ∧ Below B w w' ∧ ∀ b, P b → w'.heap[b]? = w.heap[b]? := by
  obtain ⟨F, G, C, h0, ⟨mp, V, h1⟩, h2, h3, h4, h5, h6, h7⟩ := h
  refine (fiadd_any x s h1 (by unfold maxLen; omega) (by unfold maxLen; omega) (Nat.le_trans (hl.gl x) hM) hs hG).mono ?_
  rintro e w' ⟨rfl, V', h8, ht⟩
  exact ⟨rfl, play_turn h0 h2 h3 h4 h5 h6 h7 ⟨mp, V', h8⟩ ht⟩
theorem Play.clear (h : Play B P p N L K vr w) (x : List UInt8) (hx : x.length ≤ 1000) (hn : N ≤ 1000) :
    Calls Tryd.prog 12 #[.pointer (some ⟨p, 0, none⟩), .string (txt x)] w fun e w' => e = .returned (.tuple #[]) ∧ Play B P p (N + 1) (fPut L x []) K vr w' ∧ Below B w w' ∧ ∀ b, P b → w'.heap[b]? = w.heap[b]? := by
  rw [fPut_put h.srt]
  obtain ⟨F, G, C, h0, ⟨mp, V, h1⟩, h2, h3, h4, h5, h6, h7⟩ := h
  refine (ficlear_any x h1 (by unfold maxLen; omega) (by unfold maxLen; omega)).mono ?_
  rintro e w' ⟨rfl, V', h8, ht⟩
  exact ⟨rfl, play_turn h0 h2 h3 h4 h5 h6 h7 ⟨mp, V', h8.wider fun b _ f => .inl f⟩ ht⟩
/-- A copy goes on, and something is added to what it was. -/
theorem Play.copy (h : Play B P p N L K vr w) (hn : N ≤ 1000) {M : Nat} (hl : LnFew M L) (hM : M ≤ 100000) :
    Calls Tryd.prog 14 #[.pointer (some ⟨p, 0, none⟩)] w fun e w1 => ∃ p2, e = .returned (.pointer (some ⟨p2, 0, none⟩)) ∧ Below w.heap.size w w1 ∧ ∀ (W : World), Below w1.heap.size w1 W → GM W → ∀ (x : List UInt8) (s : ByteArray), x.length ≤ 1000 → s.size ≤ 1000 →
      Calls Tryd.prog 10 #[.pointer (some ⟨p, 0, none⟩), .string (txt x), .string s] W fun e w' => e = .returned (.tuple #[]) ∧ Play B P p2 N L K vr w' ∧ Below B W w' ∧ ∀ b, P b → w'.heap[b]? = W.heap[b]? := by
  obtain ⟨F, G, C, h0, ⟨mp, V, h1⟩, h2, h3, h4, h5, h6, h7⟩ := h
  refine (ficopy_any h1 hn (hl.more hM)).mono ?_
  rintro e w1 ⟨p2, rfl, h8, b1⟩
  refine ⟨p2, rfl, b1, fun W hW hG x s hx hs => ?_⟩
  have bW := b1.trans (hW.mono b1.size)
  refine (fiadd_any x s (h1.below bW) (by unfold maxLen; omega) (by unfold maxLen; omega) (Nat.le_trans (hl.gl x) hM) hs hG).mono ?_
  rintro e w' ⟨rfl, V', h9, ht⟩
  have h10 : FT (fun b => w.heap.size ≤ b ∧ b < w1.heap.size) p2 N L W := (h8.wider fun b hl h => ⟨h, hl⟩).below hW
  refine ⟨rfl, ⟨fun b => w.heap.size ≤ b ∧ b < w1.heap.size, G, C, h0, h10.turn ht fun b _ h f => by have := (h5 b f).2; omega, (h2.below bW).turn h3 ht h4, h3, fun b h g => by have := (h6 b g).2; omega, fun b h => ⟨by omega, Nat.lt_of_lt_of_le h.2 (Nat.le_trans hW.size ht.size)⟩, fun b g => ⟨(h6 b g).1, Nat.lt_of_lt_of_le (h6 b g).2 (Nat.le_trans bW.size ht.size)⟩, Nat.le_trans h7 (Nat.le_trans bW.size ht.size)⟩, ht.below (Nat.le_trans h7 bW.size) (fun b f => (h5 b f).1), fun b hp => ht.block b (Nat.lt_of_lt_of_le (h6 b (h0 b hp)).2 bW.size) fun f => h4 b f (h0 b hp)⟩
theorem play_ref {F G : Nat → Prop} {n : Nat} {K' : List Fl} {v' : Value} (h0 : ∀ b, P b → G b) (h1 : FT F p n L w) (h4 : ∀ b, F b → ¬ G b) (h5 : ∀ b, F b → B ≤ b ∧ b < w.heap.size) (h6 : ∀ b, G b → B ≤ b ∧ b < w.heap.size) (h7 : B ≤ w.heap.size) (h8 : FsOwn 50 (fun b => G b ∨ w.heap.size ≤ b) w' w.heap.size v' K') (hb : Below w.heap.size w w') : Play B P p n L K' v' w' := by
  refine ⟨F, fun b => (G b ∨ w.heap.size ≤ b) ∧ b < w'.heap.size, w.heap.size, fun b hp => ⟨.inl (h0 b hp), Nat.lt_of_lt_of_le (h6 b (h0 b hp)).2 hb.size⟩, h1.below hb, h8.mono (Nat.le_refl _) fun b hl h => ⟨h, hl⟩, fun b hv => ?_, fun b f g => ?_, fun b f => ⟨(h5 b f).1, Nat.lt_of_lt_of_le (h5 b f).2 hb.size⟩, fun b g => ⟨?_, g.2⟩, Nat.le_trans h7 hb.size⟩
  · obtain ⟨M, _, h3, _⟩ := h8
    exact ⟨.inr (fi_row_lt h3 hv).1, (fi_row_lt h3 hv).2⟩
  · rcases g.1 with g | hl
    · exact h4 b f g
    · have := (h5 b f).2; omega
  · rcases g.1 with g | hl
    · exact (h6 b g).1
    · omega
theorem Play.rfadd (h : Play B P p N L K vr w) (xb tb : ByteArray) (hl : K.length ≤ 500) {M : Nat} (hf : LnFew M K) (hM : M ≤ 100000) (ht : tb.size ≤ 1000) :
    Calls Tryd.prog 11 #[vr, .string xb, .string tb] w fun e w' => ∃ a c, e = .returned (.slice a (fAdd K xb.data.toList tb.data.toList).length c) ∧ Play B P p N L (fAdd K xb.data.toList tb.data.toList) (.slice a (fAdd K xb.data.toList tb.data.toList).length c) w' ∧ Below w.heap.size w w' := by
  obtain ⟨F, G, C, h0, h1, h2, h3, h4, h5, h6, h7⟩ := h
  refine (rfadd_any K vr xb tb w h2 hl (Nat.le_trans (hf.gl _) hM) ht).mono ?_
  rintro e w' ⟨a, c, rfl, h8, hb⟩
  exact ⟨a, c, rfl, play_ref h0 h1 h4 h5 h6 h7 h8 hb, hb⟩
theorem Play.rfput (h : Play B P p N L K vr w) (xb : ByteArray) (hl : K.length ≤ 500) :
    Calls Tryd.prog 13 #[vr, .string xb, .slice none 0 0] w fun e w' => ∃ a c, e = .returned (.slice a (fPut K xb.data.toList []).length c) ∧ Play B P p N L (fPut K xb.data.toList []) (.slice a (fPut K xb.data.toList []).length c) w' ∧ Below w.heap.size w w' := by
  obtain ⟨F, G, C, h0, h1, h2, h3, h4, h5, h6, h7⟩ := h
  refine (rfput_any (G := fun b => G b ∨ w.heap.size ≤ b) K vr xb nilS [] w (h2.mono (Nat.le_refl _) fun _ _ g => .inl g) ⟨World.ownsRow_nil _ _ _ _, fun b hb => by simp [Value.ownBlock] at hb⟩ hl).mono ?_
  rintro e w' ⟨a, c, rfl, h8, hb⟩
  exact ⟨a, c, rfl, play_ref h0 h1 h4 h5 h6 h7 h8 hb, hb⟩
end Go.Proofs.YtnognicabhgmcaaDoor
