/- The document's files, walked: Lines, Put. -/
import Derived.Test.YtnognicabhgmcaaDoorFiWp
namespace Go.Proofs.YtnognicabhgmcaaDoor
open Go Go.RowKit

theorem FsOwn.mono {T : TypeId} {G K : Nat → Prop} {B B' : Nat} {w : World} {v : Value} {fs : List Fl} (h : FsOwn T G w B v fs) (hB : B' ≤ B) (hG : ∀ b, b < w.heap.size → G b → K b) : FsOwn T K w B' v fs := by
  obtain ⟨L, h1, h2, h3⟩ := h
  exact ⟨L, h1, fi_row_mono h2 hB, fun x hx => (h3 x hx).wider hG⟩
/-- One more file is appended. -/
theorem wpList_push {w0 : World} {ops : Array Oper} {rest : List Oper} {o : Oper} {a : Act} {Q : Exit → Act → World → Prop} (hgd : o.guard = none) (s x : Operand)
    (ho : o.op = .call { callee := .builtin .append, args := #[s, x], argTypes := #[22, 22] }) {G : Nat → Prop} {B : Nat} {v y : Value} {O : List Fl} {f : Fl} {sx : ByteArray} (hs : a.eval s = v) (hx : a.eval x = .slice (some ⟨w0.heap.size, 0, none⟩) 1 1)
    (h : FsOwn 50 G w0 B v O) (hsx : sx = txt f.1) (hy : LnG G w0 y f.2) {k : Nat} (hk : O.length = k) (hk2 : k ≤ 2000) (hB : B ≤ w0.heap.size)
    (K : ∀ a7 c7 w7, FsOwn 50 G w7 B (.slice a7 (k + 1) c7) (O ++ [f]) → Below B w0 w7 → wpList Tryd.prog ops Q rest (a.put o.dst (.slice a7 (k + 1) c7)) w7) :
    wpList Tryd.prog ops Q (o :: rest) a (w0.alloc (.cells #[.string sx, y] 50)) := by
  obtain ⟨j0, gi, gz0, gz1, gz2⟩ := F_info
  obtain ⟨M, hM, hr, hl⟩ := h
  subst hsx hk
  have hal := (Below.refl w0.heap.size w0).alloc (Nat.le_refl _) (.cells #[.string (txt f.1), y] 50)
  obtain ⟨ya, yc, rfl, _⟩ := fi_row_cells hy.1
  refine wpList_append_any _ hgd s x 22 ho B 50 j0 (.agg #[.string ⟨#[]⟩, .slice none 0 0]) 2 40 Tryd.underlying22 gi gz0 gz1 gz2 rfl (by decide) v O.length (flC M) hs (fi_row_below hr hal) (some ⟨w0.heap.size, 0, none⟩) 1 1 [.string (txt f.1), .slice ya f.2.length yc] hx rfl (fun _ => ⟨_, rfl, fi_news2 _ _ _ _⟩) (by simp [Value.oneCell']) (by unfold maxLen; omega) (by omega) (Nat.le_trans hB hal.size) ?_
  intro v7 w7 hown7 hgr7 _
  have hO7 := FsOwn.push (G := G) (f := f) (by decide) (hy.below hal) hM (fun z hz => (hl z hz).below hal) (fi_row_below hr hal) hown7 hgr7
  have hf := hO7.form
  rw [List.length_append, List.length_singleton] at hf
  obtain ⟨a7, c7, rfl⟩ := hf
  exact K a7 c7 w7 hO7 ((hal.mono hB).grown hgr7 (Nat.le_trans hB hal.size) fun b e => (fi_row_lt hr e).1)
theorem lines_drop {fs : List Fl} {j : Nat} (hj : j < fs.length) (x : List UInt8) : fLines (fs.drop j) x = if fs[j].1 = x then some fs[j].2 else fLines (fs.drop (j + 1)) x := by
  rw [List.drop_eq_getElem_cons hj]
  rfl
theorem beq_str {x y : ByteArray} : (x.toList == y.toList) = decide (x.data.toList = y.data.toList) := by
  rw [ByteArray.toList_eq, ByteArray.toList_eq]
  by_cases h : x.data.toList = y.data.toList
  · rw [h]; simp
  · rw [beq_eq_false_iff_ne.2 h, decide_eq_false h]
set_option linter.unusedVariables false in
set_option linter.unusedSimpArgs false in
set_option maxRecDepth 100000 in
set_option maxHeartbeats 4000000 in
theorem rflines_any (fs : List Fl) (a : Option Addr) (c : Nat) (xb : ByteArray) (w : World) (hr : FsRd w a fs) (hl : fs.length ≤ 1000) : Calls Tryd.prog 15 #[.slice a fs.length c, .string xb] w fun e w' => ∃ v, e = .returned (.tuple #[v, .bool (fLines fs xb.data.toList).isSome]) ∧ LnRd w v (gl fs xb.data.toList) ∧ Below w.heap.size w w' := by
  obtain ⟨n, hn⟩ : ∃ n, fs.length = n := ⟨_, rfl⟩
  rw [hn] at hl ⊢
  have HR := Lib.hid hr
  have HN := Lib.hid hn
  clear hr hn
  go_enter Tryd.func15, Tryd.ntmps15
  go_wp2_with fail
  go_loopw [9] (fun i wr => ∃ (j : Nat), j ≤ n ∧ i = .int .i64 j ∧ Below w.heap.size w wr ∧ fLines fs xb.data.toList = fLines (fs.drop j) xb.data.toList) (fun i _ => n - (intOf i).toNat)
  case atStart => exact ⟨0, by omega, rfl, Below.refl _ _, rfl⟩
  case round =>
    obtain ⟨j, hj, rfl, hb, hfl⟩ := hrel
    have Hb := Lib.hid hb
    have HFL := Lib.hid hfl
    clear hb hfl
    by_cases hlt : j < n
    · have hjl : j < fs.length := by rw [HN.out]; exact hlt
      obtain ⟨g, o, rfl, hg, hcell⟩ := HR.out (by omega)
      obtain ⟨h0, v, h1, h2⟩ := hcell j hjl
      have e0 := (Hb.out.cell (p := ⟨g, o + j * 2, none⟩) hg).trans h0
      have e1 := (Hb.out.cell (p := ⟨g, o + j * 2 + 1, none⟩) hg).trans h1
      have HD := Lib.hid (lines_drop hjl xb.data.toList)
      generalize fs[j] = f at e0 e1 h2 HD
      obtain ⟨y, ls⟩ := f
      simp only at e0 e1 h2 HD
      obtain ⟨T, hT⟩ : ∃ T, txt y = T := ⟨_, rfl⟩
      rw [hT] at e0
      have hTy : T.data.toList = y := by rw [← hT]; rfl
      have HT := Lib.hid hTy
      have hq := beq_str (x := T) (y := xb)
      have H2 := Lib.hid h2
      obtain ⟨av, cv, rfl, _⟩ := h2
      have hji : (j : Int) < (n : Int) := by omega
      have hj0 : (0 : Int) ≤ (j : Int) := by omega
      have Wj : IntKind.i64.wrap ((j : Int) + 1) = (j : Int) + 1 := IntWalk.i64_in _ (by omega)
      clear h0 h1 hcell hT hTy
      by_cases he : T.data.toList = xb.data.toList
      · rw [decide_eq_true he] at hq
        have HZ := Lib.hid (show fLines fs xb.data.toList = some ls by rw [HFL.out, HD.out, if_pos (by rw [← HT.out]; exact he)])
        clear he
        go_wp2_with fail
        go_ret2
        refine ⟨.slice av ls.length cv, by rw [HZ.out]; rfl, ?_, Hb.out⟩
        unfold gl
        rw [HZ.out]
        exact H2.out
      · rw [decide_eq_false he] at hq
        have HZ := Lib.hid (show fLines fs xb.data.toList = fLines (fs.drop (j + 1)) xb.data.toList by rw [HFL.out, HD.out, if_neg (by rw [← HT.out]; exact he)])
        clear he
        go_wp2_with fail
        go_roundw
        case rel => exact ⟨j + 1, by omega, by go_num, Hb.out, HZ.out⟩
        case measure => simp [intOf]; omega
    · obtain rfl : n = j := by omega
      have HZ := Lib.hid (show fLines fs xb.data.toList = none by rw [HFL.out, List.drop_eq_nil_of_le (by rw [HN.out]; exact Nat.le_refl _)]; rfl)
      go_wp2_with fail
      go_ret2
      refine ⟨nilS, by rw [HZ.out]; rfl, ?_, Hb.out⟩
      unfold gl
      rw [HZ.out]
      exact ⟨none, 0, rfl, fun h => absurd h (by simp)⟩
end Go.Proofs.YtnognicabhgmcaaDoor
