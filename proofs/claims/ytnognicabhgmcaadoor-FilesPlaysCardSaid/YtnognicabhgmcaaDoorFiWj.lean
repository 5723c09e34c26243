/- The law's Real, walked. -/
import Derived.Test.YtnognicabhgmcaaDoorFiRw
namespace Go.Proofs.YtnognicabhgmcaaDoor
open Go Go.RowKit

theorem file_info : ∃ i, Tryd.prog.info? 45 = some i ∧ i.zero = some (.agg #[.string ⟨#[]⟩, .slice none 0 0]) ∧ i.size = 2 ∧ i.bytes = 40 := by
  have h : (Tryd.prog.info? 45).map (fun i => (i.zero, i.size, i.bytes)) = some (some (.agg #[.string ⟨#[]⟩, .slice none 0 0]), 2, 40) := by kernel_rfl
  obtain ⟨i, hi, he⟩ := Option.map_eq_some_iff.1 h
  injection he with h1 h2
  injection h2 with h2 h3
  exact ⟨i, hi, h1, h2, h3⟩
theorem lnrd_news {w : World} {a : Option Addr} {c m : Nat} {ls : List (List UInt8)} (h : LnRd w (.slice a m c) ls) (hm : ls.length = m) : 0 < m → ∃ b, a = some b ∧ ∀ j u, (lnC ls)[j]? = some u → w.cell? (b.add j) = some u := fun h0 => by
  obtain ⟨a', c', e, h1⟩ := h
  injection e with e1 _ _
  obtain ⟨g, o, rfl, _, h2⟩ := h1 (by omega)
  refine ⟨_, e1, fun j u hj => ?_⟩
  have hjl : j < ls.length := by have := (List.getElem?_eq_some_iff.1 hj).1; rwa [lnC_len] at this
  rw [lnC_get ls j hjl] at hj
  rw [Go.WideShapes.add_plain, h2 j hjl]
  exact hj
theorem real_mid {W3 w5 : World} {q m : Nat} {x y v5 : Value} {ls : List (List UInt8)} (k1 : W3.cell? ⟨q, 0, none⟩ = some x) (k2 : W3.cell? ⟨q, 1, none⟩ = some y) (ho : w5.ownsRow 0 9 1 v5 (0 + m) ([] ++ lnC ls)) (hg : (W3.drew.alloc (.cells #[] 9)).grownBy w5 (Value.slice (some ⟨W3.heap.size, 0, none⟩) 0 0).ownBlock) :
    ∃ a5 c5, v5 = .slice a5 m c5 ∧ w5.cell? ⟨q, 0, none⟩ = some x ∧ w5.cell? ⟨q, 1, none⟩ = some y ∧ (Below W3.heap.size W3 w5 ∧ w5.ownsRow 0 9 1 (.slice a5 m c5) m (lnC ls)) := by
  have hb : Below W3.heap.size W3 w5 := (((Below.refl _ W3).drew).alloc (Nat.le_refl _) _).grown hg (by simp) fun b e => by have e2 : some W3.heap.size = some b := e; injection e2 with e2; show W3.heap.size ≤ b; omega
  rw [Nat.zero_add, List.nil_append] at ho
  obtain ⟨a5, c5, rfl, _⟩ := fi_row_cells ho
  have hl := World.block_lt_of_cell? W3 _ k1
  exact ⟨a5, c5, rfl, (hb.cell (p := ⟨q, 0, none⟩) hl).trans k1, (hb.cell (p := ⟨q, 1, none⟩) hl).trans k2, hb, ho⟩
theorem real_keep {w5 w7 : World} {q : Nat} {x y : Value} {o : Obj} {r : Option Nat} (hq : r ≠ some q) (p1 : w5.cell? ⟨q, 0, none⟩ = some x) (p2 : w5.cell? ⟨q, 1, none⟩ = some y) (hg : (w5.alloc o).grownBy w7 r) : w7.cell? ⟨q, 0, none⟩ = some x ∧ w7.cell? ⟨q, 1, none⟩ = some y := by
  have hl := World.block_lt_of_cell? w5 _ p1
  have hb := (hg.block q (by rw [World.size_alloc]; exact Nat.lt_succ_of_lt hl) (Ne.symm hq)).trans (Below.heap_alloc w5 o q hl)
  exact ⟨(World.cell?_of_block (a := ⟨q, 0, none⟩) hb).trans p1, (World.cell?_of_block (a := ⟨q, 1, none⟩) hb).trans p2⟩
theorem Mid5.alloc' {x y z : World} (h : Below y.heap.size y z) (k : Below x.heap.size x y) (o : Obj) : Below x.heap.size x (z.alloc o) := (k.trans (h.mono k.size)).alloc (Nat.le_trans k.size h.size) _
set_option linter.unusedVariables false in
set_option linter.unusedSimpArgs false in
set_option maxRecDepth 100000 in
set_option maxHeartbeats 4000000 in
theorem real_any (fs : List Fl) (a : Option Addr) (c : Nat) (w : World) (hr : FsRd w a fs) (hf : FsFew fs) (hG : GM w) : Calls Tryd.prog 8 #[.slice a fs.length c] w fun e w' => ∃ p, e = .returned (.pointer (some ⟨p, 0, none⟩)) ∧ FT (fun b => w.heap.size ≤ b) p 10 (fNew fs) w' ∧ Below w.heap.size w w' := by
  obtain ⟨n, hn⟩ : ∃ n, fs.length = n := ⟨_, rfl⟩
  obtain ⟨i0, hi, hz0, hz1, hz2⟩ := str_info
  obtain ⟨j0, gi, gz0, gz1, gz2⟩ := file_info
  have hln : n ≤ 10 := by rw [← hn]; exact hf.1
  rw [hn]
  have HR := Lib.hid hr
  have HF := Lib.hid hf
  have HG := Lib.hid hG
  have HN := Lib.hid hn
  clear hr hf hG hn
  go_enter Tryd.func8, Tryd.ntmps8
  go_wp2_with fail
  go_loopw [3, 8] (fun vv i wr => ∃ (j : Nat), j ≤ n ∧ i = .int .i64 j ∧ FsOwn 45 (fun _ => True) wr w.heap.size vv (fs.take j) ∧ Below w.heap.size w wr) (fun _ i _ => n - (intOf i).toNat)
  case atStart => exact ⟨0, by omega, rfl, FsOwn.nil _ _ _ _, Below.refl _ _⟩
  case round =>
    obtain ⟨j, hj, rfl, hO, hb⟩ := hrel
    have hlen : (fs.take j).length = j := by rw [List.length_take, HN.out]; omega
    obtain ⟨va, vc, rfl⟩ := hO.form
    rw [hlen] at hO ⊢
    have HO := Lib.hid hO
    have Hb := Lib.hid hb
    clear hO hb
    by_cases hlt : j < n
    · obtain ⟨g, o, rfl, hg, hcell⟩ := HR.out (by rw [HN.out]; omega)
      have hjl : j < fs.length := by rw [HN.out]; omega
      obtain ⟨h0, v, h1, h2⟩ := hcell j hjl
      have e0 := (Hb.out.cell (p := ⟨g, o + j * 2, none⟩) hg).trans h0
      have e1 := (Hb.out.cell (p := ⟨g, o + j * 2 + 1, none⟩) hg).trans h1
      have hff := HF.out.2 fs[j] (List.getElem_mem hjl)
      have htk : fs.take (j + 1) = fs.take j ++ [fs[j]] := by simp
      generalize fs[j] = f at e0 e1 hff htk h2
      obtain ⟨x, ls⟩ := f
      simp only at e0 e1 hff htk h2
      have h3 := h2.below Hb.out
      obtain ⟨av, cv, rfl, _⟩ := h2
      obtain ⟨m, hm⟩ : ∃ m, ls.length = m := ⟨_, rfl⟩
      rw [hm] at e1 hff h3
      obtain ⟨T, hT⟩ : ∃ T, txt x = T := ⟨_, rfl⟩
      rw [hT] at e0
      have HT := Lib.hid hT
      have HM := Lib.hid hm
      have HTK := Lib.hid htk
      have H3 := Lib.hid h3
      have hml : m ≤ 30 := hff.2.1
      obtain ⟨L, hL1, hL2, hL3⟩ := HO.out
      rw [hlen] at hL2
      have HL1 := Lib.hid hL1
      have HL2 := Lib.hid hL2
      have HL3 := Lib.hid hL3
      have HLE := Lib.hid hlen
      have hji : (j : Int) < (n : Int) := by omega
      have hj0 : (0 : Int) ≤ (j : Int) := by omega
      have Wj : IntKind.i64.wrap ((j : Int) + 1) = (j : Int) + 1 := IntWalk.i64_in _ (by omega)
      have m1 : 0 + m ≤ maxLen := by unfold maxLen; omega
      have m2 : (0 + m) * 16 ≤ 140737488355328 := by omega
      have m3 : (lnC ls).length = m * 1 := by rw [lnC_len]; omega
      have m4 : j + 1 ≤ maxLen := by unfold maxLen; omega
      have m5 : (j + 1) * 40 ≤ 140737488355328 := by omega
      clear h0 h1 hcell htk hff hL1 hL2 hL3 hlen hT hm h3
      go_upto_region 5 with fail
      generalize hW3 : wr.alloc _ = W3
      have b3 : Below wr.heap.size wr W3 := by rw [← hW3]; exact (Below.refl _ wr).alloc (Nat.le_refl _) _
      have q3 : Blk W3 wr.heap.size #[.string T, .slice av m cv] 50 := by rw [← hW3]; exact (MapKept.heap_alloc wr _).1
      obtain ⟨q, hq⟩ : ∃ q, wr.heap.size = q := ⟨_, rfl⟩
      rw [hq] at q3 ⊢
      have k1 : W3.cell? ⟨q, 0, none⟩ = some (.string T) := (q3.cell 0).trans rfl
      have k2 : W3.cell? ⟨q, 1, none⟩ = some (.slice av m cv) := (q3.cell 1).trans rfl
      have HQV := Lib.hid (show (Value.slice va j vc).ownBlock ≠ some q from fun e => by have := (fi_row_lt HL2.out e).2; omega)
      have B3 := Lib.hid b3
      have Q3 := Lib.hid q3
      clear hW3 b3 q3 hq
      go_region_held3 (fun w' => w'.cell? ⟨q, 0, none⟩ = some (.string T) ∧ w'.cell? ⟨q, 1, none⟩ = some (.slice av m cv))
        (first | exact ⟨k1, k2⟩ | exact ⟨Lib.cell?_alloc_some _ k1, Lib.cell?_alloc_some _ k2⟩ | exact ⟨p1, p2⟩ | exact ⟨Lib.cell?_alloc_some _ p1, Lib.cell?_alloc_some _ p2⟩ | exact ⟨r1, r2⟩)
        (first
          | (refine fi_step_append rfl _ _ 36 rfl 0 9 i0 (.string ⟨#[]⟩) 1 16 Tryd.underlying36 hi hz0 hz1 hz2 rfl (by decide) (.slice (some ⟨W3.heap.size, 0, none⟩) 0 0) 0 [] rfl (World.ownsRow_lit W3.drew #[] 0 (Nat.zero_le _) (by decide) rfl) av m cv (lnC ls) rfl m3 (lnrd_news ((H3.out.below B3.out).below (((Below.refl _ _).drew).alloc (Nat.le_refl _) _)) HM.out) (lnC_one ls) m1 m2 (Nat.zero_le _) ?_; intro v5 w5 hown5 hgr5 hat5; obtain ⟨a5, c5, rfl, p1, p2, h5⟩ := real_mid k1 k2 hown5 hgr5; have H5 := Lib.hid h5; clear hown5 hgr5 hat5 h5)
          | (refine fi_step_append rfl _ _ 42 rfl w.heap.size 45 j0 (.agg #[.string ⟨#[]⟩, .slice none 0 0]) 2 40 Tryd.underlying42 gi gz0 gz1 gz2 rfl (by decide) (.slice va j vc) j (flC L) rfl (fi_row_below HL2.out (Mid5.alloc' H5.out.1 B3.out _)) (some ⟨w5.heap.size, 0, none⟩) 1 1 [.string T, .slice a5 m c5] rfl rfl (fun _ => ⟨_, rfl, fi_news2 _ _ _ _⟩) (by simp [Value.oneCell']) m4 m5 (Nat.le_trans Hb.out.size (Mid5.alloc' H5.out.1 B3.out _).size) ?_; intro v7 w7 hown7 hgr7 hat7; obtain ⟨r1, r2⟩ := real_keep HQV.out p1 p2 hgr7; have H7 := Lib.hid (And.intro hown7 hgr7); clear hown7 hgr7 hat7))
      have HF7 := Lib.hid (show FsOwn 45 (fun _ => True) w7 w.heap.size v7 (fs.take (j + 1)) ∧ Below w.heap.size w w7 by
        have b5 : Below wr.heap.size wr (w5.alloc (.cells #[.string T, .slice a5 m c5] 45)) := Mid5.alloc' H5.out.1 B3.out _
        have hx : (w5.alloc (.cells #[.string T, .slice a5 m c5] 45)).ownsRow 0 9 1 (.slice a5 m c5) m (lnC ls) := fi_row_below H5.out.2 ((Below.refl _ w5).alloc (Nat.le_refl _) _)
        rw [HTK.out]
        refine ⟨FsOwn.push (f := (x, ls)) (by decide) (LnG.all (by simp only; rw [HM.out]; exact hx)) HL1.out (fun y hy => (HL3.out y hy).below b5) (by rw [HLE.out]; exact fi_row_below HL2.out b5) (by rw [HLE.out]; simp only; rw [HT.out]; exact H7.out.1) H7.out.2, ?_⟩
        exact (Hb.out.trans (b5.mono Hb.out.size)).grown H7.out.2 (Nat.le_trans Hb.out.size b5.size) fun b e => (fi_row_lt HL2.out e).1)
      have hv7 := HF7.out.1.form
      rw [HTK.out, List.length_append, HLE.out, List.length_singleton] at hv7
      obtain ⟨a7, c7, rfl⟩ := hv7
      go_wp2_with fail
      go_roundw
      case rel => exact ⟨j + 1, by omega, by go_num, HF7.out.1, HF7.out.2⟩
      case measure => simp [intOf]; omega
    · obtain rfl : n = j := by omega
      have hO := HO.out
      rw [show fs.take n = fs by rw [← HN.out, List.take_length]] at hO
      have hN := finew_any fs va vc wr hO.rd HF.out (HG.out.up Hb.out)
      rw [HN.out] at hN
      clear hO
      go_wp2_with (go_at_call 23; refine hN.mono ?_; clear hN; rintro e w9 ⟨p9, rfl, h9, b9⟩)
      have H9 := Lib.hid (show FT (fun b => w.heap.size ≤ b) p9 10 (fNew fs) w9 ∧ Below w.heap.size w w9 from ⟨h9.wider fun b _ h => Nat.le_trans Hb.out.size h, Hb.out.trans (b9.mono Hb.out.size)⟩)
      go_ret
      exact ⟨p9, rfl, H9.out⟩
end Go.Proofs.YtnognicabhgmcaaDoor
