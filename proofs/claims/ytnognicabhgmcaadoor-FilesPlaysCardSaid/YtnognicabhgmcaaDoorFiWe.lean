/- Package files, walked: New. -/
import Derived.Test.YtnognicabhgmcaaDoorFiWd
namespace Go.Proofs.YtnognicabhgmcaaDoor
open Go Go.RowKit

/-- Files, as they are read. -/
def FsRd (w : World) (a : Option Addr) (fs : List Fl) : Prop := 0 < fs.length → ∃ g o, a = some ⟨g, o, none⟩ ∧ g < w.heap.size ∧ ∀ j (h : j < fs.length), w.cell? ⟨g, o + j * 2, none⟩ = some (.string (txt fs[j].1)) ∧ ∃ v, w.cell? ⟨g, o + j * 2 + 1, none⟩ = some v ∧ LnRd w v fs[j].2
theorem FsRd.below {w w' : World} {a : Option Addr} {fs : List Fl} (h : FsRd w a fs) (hb : Below w.heap.size w w') : FsRd w' a fs := fun h0 => by
  obtain ⟨g, o, ha, hg, h2⟩ := h h0
  refine ⟨g, o, ha, Nat.lt_of_lt_of_le hg hb.size, fun j hj => ?_⟩
  obtain ⟨h3, v, h4, h5⟩ := h2 j hj
  exact ⟨(hb.cell (p := ⟨g, o + j * 2, none⟩) hg).trans h3, v, (hb.cell (p := ⟨g, o + j * 2 + 1, none⟩) hg).trans h4, h5.below hb⟩
/-- Files that aren't many. -/
def FsFew (fs : List Fl) : Prop := fs.length ≤ 10 ∧ ∀ f ∈ fs, f.1.length ≤ 100 ∧ f.2.length ≤ 30 ∧ ∀ x ∈ f.2, x.length ≤ 100
theorem newRun_snoc (f : Fl) : ∀ (l out : List Fl), fNewRun (l ++ [f]) out = fPut (fNewRun l out) f.1 (f.2.flatMap fCut)
  | [], _ => rfl
  | _ :: l, _ => newRun_snoc f l _
theorem new_snoc (l : List Fl) (f : Fl) : fNew (l ++ [f]) = put f.1 (f.2.flatMap fCut) (fNew l) := by
  unfold fNew
  rw [newRun_snoc]
  exact fPut_put (fNew_srt l) _ _
theorem run_makeMap_hint (z : Int) (w : World) : (Instr.makeMap 52 (some (.int .i64 z))).run Tryd.prog w = .ok (.map (some w.heap.size)) (w.alloc (.map #[] 0)) := by
  simp [Instr.makeMap, run_underlying Tryd.underlying52, asInt, asIntOf, Result.andThen]
theorem FBut.more {q : List UInt8 → Prop} {F : Nat → Prop} {p mp n k : Nat} {V : List UInt8 → Value} {l : List Fl} {w : World} (h : FBut q F p mp n V l w) (hn : n ≤ k) : FBut q F p mp k V l w := by
  obtain ⟨D, h1, h2⟩ := h.own
  exact ⟨h.pF, h.mF, h.pm, h.blk, h.srt, ⟨D, h1.mono hn, h2⟩, h.row, h.off, h.apart⟩
/-- Between cutAll and the store. -/
structure NewM (B p mp n q : Nat) (V : List UInt8 → Value) (l : List Fl) (cs : Array Value) (ls : List (List UInt8)) (v4 : Value) (W3 w4 : World) : Prop where
  a : FAt (fun b => B ≤ b) p mp n V l w4
  q : Blk w4 q cs 45
  b : Below W3.heap.size W3 w4
  r : w4.ownsRow W3.heap.size 9 1 v4 ls.length (lnC ls)
  lo : B ≤ W3.heap.size
  lp : p < W3.heap.size ∧ mp < W3.heap.size ∧ ∀ x b, (V x).ownBlock = some b → b < W3.heap.size
theorem new_mid {B p mp n q : Nat} {V : List UInt8 → Value} {l : List Fl} {cs : Array Value} {ls : List (List UInt8)} {v4 : Value} {W3 W w4 : World} (h : FAt (fun b => B ≤ b) p mp n V l W3) (hq : Blk W3 q cs 45) (hb : Below W3.heap.size W3 w4) (hW : W.heap.size = W3.heap.size) (h4 : LnNew W ls v4 w4) : NewM B p mp n q V l cs ls v4 W3 w4 :=
  ⟨h.below hb, (hb.block q hq.lt).trans hq, hb, by rw [← hW]; exact h4.1, Nat.le_trans h.pF (Nat.le_of_lt h.blk.lt), h.blk.lt, h.mlt, fun x b hx => h.blt (x := x) trivial hx⟩
theorem new_store {B p mp n q : Nat} {V : List UInt8 → Value} {l : List Fl} {x : List UInt8} {cs : Array Value} {ls : List (List UInt8)} {v4 : Value} {W3 w4 : World} (hx : x.length ≤ 100) (hn : n ≤ 1000) (hqm : q ≠ mp) (h : NewM B p mp n q V l cs ls v4 W3 w4) :
    w4.cell? ⟨p, 0, none⟩ = some (.map (some mp)) ∧ ∃ w6, (Instr.mapUpdate 52 (.map (some mp)) (.string (txt x)) v4).run Tryd.prog w4 = .ok () w6 ∧ (FAt (fun b => B ≤ b) p mp (n + 1) (fun y => if y = x then v4 else V y) (put x ls l) w6 ∧ Below B W3 w6) ∧ w6.cell? ⟨p, 0, none⟩ = some (.map (some mp)) ∧ ∀ j, w4.cell? ⟨q, j, none⟩ = cs[j]? ∧ w6.cell? ⟨q, j, none⟩ = cs[j]? := by
  have h1 : FBut (· ≠ x) (fun b => B ≤ b) p mp n V l w4 := ⟨h.a.pF, h.a.mF, h.a.pm, h.a.blk, h.a.srt, h.a.own, fun y _ => h.a.row y trivial, fun y _ => h.a.off y trivial, fun y z _ _ => h.a.apart y z trivial trivial⟩
  obtain ⟨w6, hup, hF, hg⟩ := h1.store (ls := ls) (by unfold maxLen; omega) (by unfold maxLen; omega) (fi_row_mono h.r (Nat.zero_le _)) fun b hb => by
    have h2 := (fi_row_lt h.r hb).1
    have h3 := h.lp
    exact ⟨by omega, by omega, Nat.le_trans h.lo h2, fun y _ hy => by have := h3.2.2 y b hy; omega⟩
  refine ⟨(h.a.blk.cell 0).trans rfl, w6, hup, ⟨hF, (h.b.mono h.lo).grown hg (Nat.le_trans h.lo h.b.size) fun b e => by injection e with e; subst e; exact h.a.mF⟩, (hF.blk.cell 0).trans rfl, fun j => ⟨h.q.cell j, ?_⟩⟩
  exact Blk.cell ((hg.block q h.q.lt fun e => hqm (by injection e)).trans h.q) j
set_option linter.unusedVariables false in
set_option linter.unusedSimpArgs false in
set_option maxRecDepth 100000 in
set_option maxHeartbeats 4000000 in
theorem finew_any (fs : List Fl) (a : Option Addr) (c : Nat) (w : World) (hr : FsRd w a fs) (hf : FsFew fs) (hG : GM w) : Calls Tryd.prog 23 #[.slice a fs.length c] w fun e w' => ∃ p, e = .returned (.pointer (some ⟨p, 0, none⟩)) ∧ FT (fun b => w.heap.size ≤ b) p 10 (fNew fs) w' ∧ Below w.heap.size w w' := by
  obtain ⟨n, hn⟩ : ∃ n, fs.length = n := ⟨_, rfl⟩
  have hmm := run_makeMap_hint
  have hln : n ≤ 10 := by rw [← hn]; exact hf.1
  have hn0 : (0 : Int) ≤ (n : Int) := by omega
  rw [hn]
  have HR := Lib.hid hr
  have HF := Lib.hid hf
  have HG := Lib.hid hG
  have HN := Lib.hid hn
  clear hr hf hG hn
  go_enter Tryd.func23, Tryd.ntmps23
  go_upto_region 1 with fail
  go_upto_region 2 with fail
  generalize hW1 : w.alloc _ = w1
  generalize hW2 : w1.alloc _ = w2
  have H2 := Lib.hid (show FAt (fun b => w.heap.size ≤ b) (w.heap.size + 1) w.heap.size 0 (fun _ => nilS) [] w2 ∧ Below w.heap.size w w2 by
    have e1 : w1.heap.size = w.heap.size + 1 := by rw [← hW1]; exact World.size_alloc _ _
    have b1 : Below w.heap.size w w1 := by rw [← hW1]; exact (Below.refl _ w).alloc (Nat.le_refl _) _
    have b2 : Below w1.heap.size w1 w2 := by rw [← hW2]; exact (Below.refl _ w1).alloc (Nat.le_refl _) _
    have o1 : w1.ownsMap Tryd.prog 9 heldR w.heap.size 0 (.map []) := by rw [← hW1]; exact World.ownsMap_made _ _ _ _
    have q2 : Blk w2 w1.heap.size #[.map (some w.heap.size)] 54 := by rw [← hW2]; exact (MapKept.heap_alloc w1 _).1
    rw [e1] at q2
    exact ⟨FAt.made q2 (o1.kept (fi_grown_none b2) (by simp)) (by omega) (by show w.heap.size ≤ _; omega) (Nat.le_refl _), b1.trans (b2.mono b1.size)⟩)
  obtain ⟨p, hp⟩ : ∃ p, w.heap.size + 1 = p := ⟨_, rfl⟩
  rw [hp] at H2 ⊢
  clear hW1 hW2 hmm
  go_wp2_with fail
  go_loopw [13] (fun i wr => ∃ (j : Nat) (V : List UInt8 → Value), j ≤ n ∧ i = .int .i64 j ∧ FAt (fun b => w.heap.size ≤ b) p w.heap.size j V (fNew (fs.take j)) wr ∧ Below w.heap.size w wr) (fun i _ => n - (intOf i).toNat)
  case atStart => exact ⟨0, _, by omega, rfl, H2.out.1, H2.out.2⟩
  case round =>
    obtain ⟨j, V, hj, rfl, hA, hb⟩ := hrel
    have HA := Lib.hid hA
    have Hb := Lib.hid hb
    clear hA hb
    by_cases hlt : j < n
    · obtain ⟨g, o, rfl, hg, hcell⟩ := HR.out (by rw [HN.out]; omega)
      have hjl : j < fs.length := by rw [HN.out]; omega
      obtain ⟨h0, v, h1, h2⟩ := hcell j hjl
      have e0 := (Hb.out.cell (p := ⟨g, o + j * 2, none⟩) hg).trans h0
      have e1 := (Hb.out.cell (p := ⟨g, o + j * 2 + 1, none⟩) hg).trans h1
      have hff := HF.out.2 fs[j] (List.getElem_mem hjl)
      have htk : fNew (fs.take (j + 1)) = put fs[j].1 (fs[j].2.flatMap fCut) (fNew (fs.take j)) := by
        rw [show fs.take (j + 1) = fs.take j ++ [fs[j]] by simp, new_snoc]
      have hC := fun (W : World) (hw : Below wr.heap.size wr W) => fiall_any fs[j].2 v W ((h2.below (Hb.out.mono (Nat.le_refl _))).below hw) (by omega) (fun x hx => by have := hff.2.2 x hx; omega) (HG.out.up (Hb.out.trans (hw.mono Hb.out.size)))
      generalize fs[j] = f at e0 e1 hff htk hC h2
      obtain ⟨x, ls⟩ := f
      simp only at e0 e1 hff htk hC h2
      obtain ⟨av, cv, rfl, _⟩ := h2
      have HT := Lib.hid htk
      have HFF := Lib.hid hff
      clear h0 h1 hcell htk hff
      have hji : (j : Int) < (n : Int) := by omega
      have hj0 : (0 : Int) ≤ (j : Int) := by omega
      have Wj : IntKind.i64.wrap ((j : Int) + 1) = (j : Int) + 1 := IntWalk.i64_in _ (by omega)
      go_upto_region 5 with fail
      generalize hW3 : wr.alloc _ = W3
      have b3 : Below wr.heap.size wr W3 := by rw [← hW3]; exact (Below.refl _ wr).alloc (Nat.le_refl _) _
      have q3 : Blk W3 wr.heap.size #[.string (txt x), .slice av ls.length cv] 45 := by rw [← hW3]; exact (MapKept.heap_alloc wr _).1
      obtain ⟨q, hq⟩ : ∃ q, wr.heap.size = q := ⟨_, rfl⟩
      rw [hq] at q3
      have H3 := Lib.hid (And.intro (HA.out.below b3) q3)
      have k0 : W3.cell? ⟨p, 0, none⟩ = some (.map (some w.heap.size)) := ((HA.out.below b3).blk.cell 0).trans rfl
      have k1 : W3.cell? ⟨q, 0, none⟩ = some (.string (txt x)) := (q3.cell 0).trans rfl
      have k2 : W3.cell? ⟨q, 1, none⟩ = some (.slice av ls.length cv) := (q3.cell 1).trans rfl
      have hD : ∀ W, Below W3.heap.size W3 W → W.heap.size = W3.heap.size → Calls Tryd.prog 29 #[.slice av ls.length cv] W fun e w4 => ∃ v4 w6, e = .returned v4 ∧ (Instr.mapUpdate 52 (.map (some w.heap.size)) (.string (txt x)) v4).run Tryd.prog w4 = .ok () w6 ∧ w4.cell? ⟨p, 0, none⟩ = some (.map (some w.heap.size)) ∧ w4.cell? ⟨q, 0, none⟩ = some (.string (txt x)) ∧ w4.cell? ⟨q, 1, none⟩ = some (.slice av ls.length cv) ∧ w6.cell? ⟨p, 0, none⟩ = some (.map (some w.heap.size)) ∧ w6.cell? ⟨q, 0, none⟩ = some (.string (txt x)) ∧ w6.cell? ⟨q, 1, none⟩ = some (.slice av ls.length cv) ∧
          FAt (fun b => w.heap.size ≤ b) p w.heap.size (j + 1) (fun y => if y = x then v4 else V y) (put x (ls.flatMap fCut) (fNew (fs.take j))) w6 ∧ Below w.heap.size W3 w6 := fun W hw hz => by
        refine (hC W (b3.trans (hw.mono b3.size))).mono ?_
        rintro e w4 ⟨v4, rfl, h4⟩
        have hqm : q ≠ w.heap.size := by have := HA.out.mlt; omega
        have h5 := new_mid H3.out.1 H3.out.2 (hw.trans (by rw [← hz]; exact h4.2)) hz h4
        obtain ⟨m0, w6, hup, hF6, n0, hn6⟩ := new_store (x := x) HFF.out.1 (by omega) hqm h5
        exact ⟨v4, w6, rfl, hup, m0, (hn6 0).1.trans rfl, (hn6 1).1.trans rfl, n0, (hn6 0).2.trans rfl, (hn6 1).2.trans rfl, hF6⟩
      have HB3 := Lib.hid (show Below w.heap.size w W3 from Hb.out.trans (b3.mono Hb.out.size))
      rw [hq]
      clear hW3 b3 q3 hq hC
      go_region_held3 (fun w' => w'.cell? ⟨p, 0, none⟩ = some (.map (some w.heap.size)) ∧ w'.cell? ⟨q, 0, none⟩ = some (.string (txt x)) ∧ w'.cell? ⟨q, 1, none⟩ = some (.slice av ls.length cv))
        (first | exact ⟨k0, k1, k2⟩ | exact ⟨m0, m1, m2⟩ | exact ⟨n0, n1, n2⟩)
        (first | (go_at_call 29; refine (hD W3.drew (Below.refl _ _).drew rfl).mono ?_; clear hD; rintro e w4 ⟨v4, w6, rfl, hup, m0, m1, m2, n0, n1, n2, h6⟩; have H6 := Lib.hid h6; clear h6))
      have HF6 := Lib.hid (And.intro (HT.out ▸ H6.out.1) (HB3.out.trans H6.out.2))
      go_wp2_with fail
      go_roundw
      case rel => exact ⟨j + 1, _, by omega, by go_num, HF6.out.1, HF6.out.2⟩
      case measure => simp [intOf]; omega
    · obtain rfl : n = j := by omega
      have HZ := Lib.hid (And.intro HA.out Hb.out)
      rw [show fs.take n = fs by rw [← HN.out, List.take_length]] at HZ
      go_wp2_with fail
      go_ret
      exact ⟨p, rfl, ⟨_, V, HZ.out.1.more hln⟩, HZ.out.2⟩
end Go.Proofs.YtnognicabhgmcaaDoor
