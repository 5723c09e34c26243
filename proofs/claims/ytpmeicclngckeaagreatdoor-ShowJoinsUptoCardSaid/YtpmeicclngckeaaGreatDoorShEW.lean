/- ShBg: Package show, walked: what a node begins with, and what is pending of it then: begin.
   ShEr: Package show, walked: Ere.
   ShAw: Package show, walked: Ere of any tree; the statements' fixed fact. -/
import Derived.Test.YtpmeicclngckeaaGreatDoorShTT
import Derived.Test.YtpmeicclngckeaaGreatDoorShPq
import Derived.Test.YtpmeicclngckeaaGreatDoorShIT
import Derived.Deep.RegionHeld3
import Derived.Test.YtpmeicclngckeaaGreatDoorNdPrS
import Derived.StillTailTactics
import Derived.Test.YtpmeicclngckeaaGreatDoorShDD
import Derived.Test.YtpmeicclngckeaaGreatDoorRdMP
import Derived.Test.YtpmeicclngckeaaGreatDoorCmn
namespace Go.Proofs.YtpmeicclngckeaaGreatDoor
open Go Go.RowKit
set_option linter.unusedVariables false

/-- What begin answers. -/
def BgPost (B b : Nat) (l : List UInt8) (w : World) (d : Nd) (e : Ending) (w' : World) : Prop :=
  ∃ mv us, e = .returned mv ∧ Tx B b (l ++ (more d).1) w' ∧ Frm B b w w' ∧ w'.ownsRow w.heap.size 83 2 mv (more d).2.length us ∧ PdRow (fun k => k < B) w' (more d).2 us
/-- The tables, as they were laid. -/
structure Tbl (B : Nat) (w : World) : Prop where
  tab : TabIn w
  pow : Pow w
  gt : 0 < B
  gp : 1 < B
theorem Tbl.below {B : Nat} {w w' : World} (h : Tbl B w) (hb : Below B w w') : Tbl B w' := ⟨tabIn_below h.tab hb h.gt, pow_below h.pow hb h.gp, h.gt, h.gp⟩
theorem bg_none {B b : Nat} {l : List UInt8} {w w' : World} {d : Nd} {x : List UInt8} (hd : more d = (x, [])) (hT : Tx B b (l ++ x) w') (hF : Frm B b w w') : BgPost B b l w d (.returned (.slice none 0 0)) w' :=
  ⟨_, [], rfl, by rw [hd]; exact hT, hF, by rw [hd]; exact World.ownsRow_nil _ _ _ _, by rw [hd]; rfl⟩
theorem own_mono {w : World} {B C : Nat} (h : B ≤ C) {e : TypeId} {size n : Nat} {v : Value} {xs : List Value} (k : w.ownsRow C e size v n xs) : w.ownsRow B e size v n xs := by
  refine ⟨k.1, ?_⟩
  rcases k.2 with h2 | ⟨g, cap, cur, h1, h2, h3⟩
  · exact .inl h2
  · exact .inr ⟨g, cap, cur, h1, Nat.le_trans h h2, h3⟩
/-- Two that are pending, just made. -/
theorem own_two (w : World) (x y x' y' : Value) (n : Nat) (hn : n = w.heap.size) : (w.alloc (.cells #[x, y, x', y'] 83)).ownsRow n 83 2 (.slice (some ⟨n, 0, none⟩) 2 2) 2 [x, y, x', y'] := by
  subst hn
  exact ⟨rfl, .inr ⟨_, 2, _, rfl, Nat.le_refl _, World.alloc_heap_new w _, Nat.le_refl _, by decide, rfl, rfl⟩⟩
set_option linter.unusedSimpArgs false in
set_option maxRecDepth 100000 in
set_option maxHeartbeats 1000000 in
theorem bg_empty (v : Value) (hv : v = .iface 103 (.agg #[]) ∨ v = .nilIface) (B b : Nat) (l : List UInt8) (w : World) (h : Tx B b l w) : Calls Tryz.prog 41 #[.pointer (some ⟨b, 0, none⟩), v] w (BgPost B b l w .empty) := by
  have hP := bg_none (d := .empty) (x := []) rfl (by rw [List.append_nil]; exact h) (Frm.refl B b w)
  rcases hv with rfl | rfl
  all_goals
    go_enter Tryz.func41, Tryz.ntmps41
    go_wp2_with fail
    go_ret
    exact hP
set_option linter.unusedSimpArgs false in
set_option maxRecDepth 100000 in
set_option maxHeartbeats 1000000 in
theorem bg_one (s : OSet) (B b : Nat) (l : List UInt8) (w : World) (h : Tx B b l w) (hl : l.length < 8880000) (hB : B ≤ w.heap.size) (hTb : Tbl B w) : Calls Tryz.prog 41 #[.pointer (some ⟨b, 0, none⟩), .iface 80 (.agg #[.int .u64 (ow s 0), .int .u64 (ow s 1), .int .u64 (ow s 2), .int .u64 (ow s 3)])] w (BgPost B b l w (.one s)) := by
  have hA := (Below.refl w.heap.size w).alloc (Nat.le_refl _) (.cells (oc s) 80)
  have hT := h.below hA
  have hF : Frm B b w _ := Frm.of hA hB
  have hBk := Blk.new w (oc s) 80 _ rfl
  have hTb1 := hTb.below (hA.mono hB)
  obtain ⟨c0, c1, c2, c3⟩ := oblk_cells hBk
  unfold oc at hT hF hTb1 c0 c1 c2 c3
  clear hA hBk
  go_enter Tryz.func41, Tryz.ntmps41
  go_wp2_with fail
  refine (shset_t s B b l _ hT (by omega) (Nat.le_trans hB hF.size) hTb1.tab (Nat.lt_of_lt_of_le hTb1.gt (Nat.le_trans hB hF.size))).mono ?_
  rintro e w2 ⟨rfl, hT2, hF2⟩
  go_wp2_with fail
  go_ret
  exact bg_none rfl hT2 (hF.trans hF2)
set_option linter.unusedSimpArgs false in
set_option maxRecDepth 100000 in
set_option maxHeartbeats 1000000 in
theorem bg_cat (ds : List Nd) (a : Option Addr) (cap : Nat) (hds : ds.length ≤ 4000000) (B b : Nat) (l : List UInt8) (w : World) (h : Tx B b l w) (hl : l.length < 8880000) (hB : B ≤ w.heap.size) (hTb : Tbl B w) (hv : NdRw (fun k => k < B) w ds a cap) : Calls Tryz.prog 41 #[.pointer (some ⟨b, 0, none⟩), .iface 92 (.agg #[.slice a ds.length cap])] w (BgPost B b l w (.cat ds)) := by
  have hA := (Below.refl w.heap.size w).alloc (Nat.le_refl _) (.cells #[.slice a ds.length cap] 92)
  have hT := h.below hA
  have hF : Frm B b w _ := Frm.of hA hB
  have hBk := Blk.new w #[.slice a ds.length cap] 92 _ rfl
  have c0 := (hBk.cell 0).trans rfl
  have hcl := shturn_any (fun k => k < B) ds ⟨#[]⟩ a cap _ (fun k hk => Nat.lt_of_lt_of_le hk (Nat.le_trans hB hF.size)) hds (hv.below hA)
  clear hA hBk
  go_enter Tryz.func41, Tryz.ntmps41
  go_wp2_with fail
  refine hcl.mono ?_
  clear hcl
  rintro e w2 ⟨mv, us, rfl, hown, hpd, b2⟩
  go_wp2_with fail
  go_ret
  have hn : (inTurn [] ds).length = ds.length := by rw [← inTurn_map, List.length_map, List.length_reverse, List.length_range]
  exact ⟨mv, us, rfl, by show Tx B b (l ++ []) w2; rw [List.append_nil]; exact hT.below b2, hF.then b2 hB, by show w2.ownsRow _ _ _ _ (inTurn [] ds).length _; rw [hn]; exact own_mono (by simp) hown, hpd⟩
set_option linter.unusedSimpArgs false in
set_option maxRecDepth 100000 in
set_option maxHeartbeats 1000000 in
theorem bg_alt (ds : List Nd) (a : Option Addr) (cap : Nat) (hds : ds.length ≤ 4000000) (B b : Nat) (l : List UInt8) (w : World) (h : Tx B b l w) (hl : l.length < 8880000) (hB : B ≤ w.heap.size) (hTb : Tbl B w) (hv : NdRw (fun k => k < B) w ds a cap) : Calls Tryz.prog 41 #[.pointer (some ⟨b, 0, none⟩), .iface 93 (.agg #[.slice a ds.length cap])] w (BgPost B b l w (.alt ds)) := by
  have hA := (Below.refl w.heap.size w).alloc (Nat.le_refl _) (.cells #[.slice a ds.length cap] 93)
  have hT := h.below hA
  have hF : Frm B b w _ := Frm.of hA hB
  have hBk := Blk.new w #[.slice a ds.length cap] 93 _ rfl
  have c0 := (hBk.cell 0).trans rfl
  have hcl := shturn_any (fun k => k < B) ds ⟨#[124]⟩ a cap _ (fun k hk => Nat.lt_of_lt_of_le hk (Nat.le_trans hB hF.size)) hds (hv.below hA)
  clear hA hBk
  go_enter Tryz.func41, Tryz.ntmps41
  go_wp2_with fail
  refine hcl.mono ?_
  clear hcl
  rintro e w2 ⟨mv, us, rfl, hown, hpd, b2⟩
  go_wp2_with fail
  go_ret
  have hn : (inTurn [124] ds).length = ds.length := by rw [← inTurn_map, List.length_map, List.length_reverse, List.length_range]
  exact ⟨mv, us, rfl, by show Tx B b (l ++ []) w2; rw [List.append_nil]; exact hT.below b2, hF.then b2 hB, by show w2.ownsRow _ _ _ _ (inTurn [124] ds).length _; rw [hn]; exact own_mono (by simp) hown, hpd⟩
set_option linter.unusedSimpArgs false in
set_option maxRecDepth 100000 in
set_option maxHeartbeats 1000000 in
theorem bg_start (B b : Nat) (l : List UInt8) (w : World) (h : Tx B b l w) (hl : l.length < 8880000) (hB : B ≤ w.heap.size) (hTb : Tbl B w) : Calls Tryz.prog 41 #[.pointer (some ⟨b, 0, none⟩), .iface 101 (.agg #[])] w (BgPost B b l w .start) := by
  have hA := (Below.refl w.heap.size w).alloc (Nat.le_refl _) (.cells #[] 101)
  have hT := h.below hA
  have hF : Frm B b w _ := Frm.of hA hB
  clear hTb
  go_enter Tryz.func41, Tryz.ntmps41
  go_wp2_with fail
  refine (txb_any B b l 94 (by decide) (by decide) _ hT (by omega) (Nat.le_trans hB hF.size)).mono ?_
  rintro e w2 ⟨rfl, hT2, hF2⟩
  go_wp2_with fail
  go_ret
  exact bg_none rfl hT2 (hF.trans hF2)
set_option linter.unusedSimpArgs false in
set_option maxRecDepth 100000 in
set_option maxHeartbeats 1000000 in
theorem bg_fin (B b : Nat) (l : List UInt8) (w : World) (h : Tx B b l w) (hl : l.length < 8880000) (hB : B ≤ w.heap.size) (hTb : Tbl B w) : Calls Tryz.prog 41 #[.pointer (some ⟨b, 0, none⟩), .iface 102 (.agg #[])] w (BgPost B b l w .fin) := by
  have hA := (Below.refl w.heap.size w).alloc (Nat.le_refl _) (.cells #[] 102)
  have hT := h.below hA
  have hF : Frm B b w _ := Frm.of hA hB
  clear hTb
  go_enter Tryz.func41, Tryz.ntmps41
  go_wp2_with fail
  refine (txb_any B b l 36 (by decide) (by decide) _ hT (by omega) (Nat.le_trans hB hF.size)).mono ?_
  rintro e w2 ⟨rfl, hT2, hF2⟩
  go_wp2_with fail
  go_ret
  exact bg_none rfl hT2 (hF.trans hF2)
set_option linter.unusedSimpArgs false in
set_option maxRecDepth 100000 in
set_option maxHeartbeats 1000000 in
theorem bg_group (num : Int) (d : Nd) (u : Value) (hu : (∃ T q, u = .iface T q) ∨ u = .nilIface) (B b : Nat) (l : List UInt8) (w : World) (h : Tx B b l w) (hl : l.length < 8880000) (hB : B ≤ w.heap.size) (hTb : Tbl B w) (hv : NdX (fun k => k < B) w d u) : Calls Tryz.prog 41 #[.pointer (some ⟨b, 0, none⟩), .iface 97 (.agg #[.int .i64 num, u])] w (BgPost B b l w (.group num d)) := by
  have hA := (Below.refl w.heap.size w).alloc (Nat.le_refl _) (.cells #[.int .i64 num, u] 97)
  have hBk := Blk.new w #[.int .i64 num, u] 97 _ rfl
  have c0 := (hBk.cell 0).trans rfl
  have c1 := (hBk.cell 1).trans rfl
  have hA2 := hA.alloc (by simp) (.cells #[.string ⟨#[41]⟩, .nilIface, .string ⟨#[40]⟩, u] 83)
  have hF2 : Frm B b w _ := Frm.of hA2 hB
  have hT2 := h.below hA2
  have hown := own_two (w.alloc (.cells #[.int .i64 num, u] 97)) (.string ⟨#[41]⟩) .nilIface (.string ⟨#[40]⟩) u (w.heap.size + 1) (by simp)
  have hpd : PdRow (fun k => k < B) ((w.alloc (.cells #[.int .i64 num, u] 97)).alloc (.cells #[.string ⟨#[41]⟩, .nilIface, .string ⟨#[40]⟩, u] 83)) [([41], none), ([40], some d)] [.string ⟨#[41]⟩, .nilIface, .string ⟨#[40]⟩, u] :=
    ⟨⟨#[41]⟩, .nilIface, _, rfl, rfl, rfl, PdRow.one (p := ([40], some d)) rfl (NdX.below hA2 hv)⟩
  have HP := Lib.hid (show BgPost B b l w (.group num d) (.returned (.slice (some ⟨w.heap.size + 1, 0, none⟩) 2 2)) _ from ⟨_, _, rfl, by show Tx B b (l ++ []) _; rw [List.append_nil]; exact hT2, hF2, own_mono (by omega) hown, hpd⟩)
  clear hA hBk hA2 hF2 hT2 hown hpd hTb hl h hv
  rcases hu with ⟨T, q, rfl⟩ | rfl
  all_goals
    go_enter Tryz.func41, Tryz.ntmps41
    go_wp2_with fail
    go_ret
    exact HP.out
/-- A box, and what lay below. -/
structure HeldR (w0 : World) (p : Nat) (cs : Array Value) (T : TypeId) (w' : World) : Prop where
  below : Below w0.heap.size w0 w'
  blk : Blk w' p cs T
theorem HeldR.step {w0 : World} {p : Nat} {cs : Array Value} {T : TypeId} {W W' : World} (h : HeldR w0 p cs T W) (hb : Below W.heap.size W W') : HeldR w0 p cs T W' := ⟨h.below.trans (hb.mono h.below.size), h.blk.below hb h.blk.lt⟩
theorem heldr_rep {w0 : World} {p : Nat} {u : Value} {mn mx : Int} {T : TypeId} {w' : World} (h : HeldR w0 p #[u, .int .i64 mn, .int .i64 mx] T w') : (w'.cell? ⟨p, 0, none⟩ = some u ∧ w'.cell? ⟨p, 1, none⟩ = some (.int .i64 mn) ∧ w'.cell? ⟨p, 2, none⟩ = some (.int .i64 mx)) ∧ HeldR w0 p #[u, .int .i64 mn, .int .i64 mx] T w' :=
  ⟨⟨(h.blk.cell 0).trans rfl, (h.blk.cell 1).trans rfl, (h.blk.cell 2).trans rfl⟩, h⟩
set_option linter.unusedSimpArgs false in
set_option maxRecDepth 100000 in
set_option maxHeartbeats 2000000 in
theorem bg_rep (mn mx : Int) (ho : okRep mn mx = true) (d : Nd) (u : Value) (hu : (∃ T q, u = .iface T q) ∨ u = .nilIface) (B b : Nat) (l : List UInt8) (w : World) (h : Tx B b l w) (hl : l.length < 8880000) (hB : B ≤ w.heap.size) (hTb : Tbl B w) (hv : NdX (fun k => k < B) w d u) : Calls Tryz.prog 41 #[.pointer (some ⟨b, 0, none⟩), .iface 95 (.agg #[u, .int .i64 mn, .int .i64 mx])] w (BgPost B b l w (.rep d mn mx)) := by
  have hA := (Below.refl w.heap.size w).alloc (Nat.le_refl _) (.cells #[u, .int .i64 mn, .int .i64 mx] 95)
  have hBk := Blk.new w #[u, .int .i64 mn, .int .i64 mx] 95 _ rfl
  have hall := (show HeldR w w.heap.size #[u, .int .i64 mn, .int .i64 mx] 95 _ from ⟨hA, hBk⟩)
  have hti := fun W (h : HeldR w w.heap.size #[u, .int .i64 mn, .int .i64 mx] 95 W) => shtimes_any mn mx ho W (hTb.below (h.below.mono hB)).pow
  have HP := Lib.hid (show ∀ (S : ByteArray) (W : World), HeldR w w.heap.size #[u, .int .i64 mn, .int .i64 mx] 95 W → S.data.toList = timesT mn mx → BgPost B b l w (.rep d mn mx) (.returned (.slice (some ⟨W.heap.size, 0, none⟩) 2 2)) (W.alloc (.cells #[.string S, .nilIface, .string ⟨#[]⟩, u] 83)) from by
    intro S W hW hS
    have hA2 := hW.below.alloc hW.below.size (.cells #[.string S, .nilIface, .string ⟨#[]⟩, u] 83)
    exact ⟨_, _, rfl, by show Tx B b (l ++ []) _; rw [List.append_nil]; exact h.below hA2, Frm.of hA2 hB, own_mono hW.below.size (own_two W (.string S) .nilIface (.string ⟨#[]⟩) u _ rfl), ⟨S, .nilIface, _, rfl, hS, rfl, PdRow.one (p := ([], some d)) rfl (NdX.below hA2 hv)⟩⟩)
  clear hA hBk hTb hl h hv
  rcases hu with ⟨T, q, rfl⟩ | rfl
  · go_enter Tryz.func41, Tryz.ntmps41
    go_upto_region 13 with fail
    have hall2 := heldr_rep hall
    go_region_held3 (fun w' => (w'.cell? ⟨w.heap.size, 0, none⟩ = some (.iface T q) ∧ w'.cell? ⟨w.heap.size, 1, none⟩ = some (.int .i64 mn) ∧ w'.cell? ⟨w.heap.size, 2, none⟩ = some (.int .i64 mx)) ∧ HeldR w w.heap.size #[(.iface T q), .int .i64 mn, .int .i64 mx] 95 w')
      (first | with_reducible exact hall2 | with_reducible exact heldr_rep (HeldR.step (by go_split_ands; assumption) hbX) | with_reducible exact heldr_rep (HeldR.step (by go_split_ands; assumption) (Below.drew (Below.refl _ _))) | with_reducible exact heldr_rep (HeldR.step (by go_split_ands; assumption) ((Below.refl _ _).alloc (Nat.le_refl _) _)))
      (first | (go_at_call 68; refine (hti _ (by go_split_ands; assumption)).mono ?_; rintro e w' ⟨⟨S, rfl, hS⟩, hbX⟩; have hR := HeldR.step (by go_split_ands; assumption) hbX))
    go_wp2_with fail
    go_ret
    exact HP.out S w' hR hS
  · go_enter Tryz.func41, Tryz.ntmps41
    go_upto_region 13 with fail
    have hall2 := heldr_rep hall
    go_region_held3 (fun w' => (w'.cell? ⟨w.heap.size, 0, none⟩ = some .nilIface ∧ w'.cell? ⟨w.heap.size, 1, none⟩ = some (.int .i64 mn) ∧ w'.cell? ⟨w.heap.size, 2, none⟩ = some (.int .i64 mx)) ∧ HeldR w w.heap.size #[.nilIface, .int .i64 mn, .int .i64 mx] 95 w')
      (first | with_reducible exact hall2 | with_reducible exact heldr_rep (HeldR.step (by go_split_ands; assumption) hbX) | with_reducible exact heldr_rep (HeldR.step (by go_split_ands; assumption) (Below.drew (Below.refl _ _))) | with_reducible exact heldr_rep (HeldR.step (by go_split_ands; assumption) ((Below.refl _ _).alloc (Nat.le_refl _) _)))
      (first | (go_at_call 68; refine (hti _ (by go_split_ands; assumption)).mono ?_; rintro e w' ⟨⟨S, rfl, hS⟩, hbX⟩; have hR := HeldR.step (by go_split_ands; assumption) hbX))
    go_wp2_with fail
    go_ret
    exact HP.out S w' hR hS
/-- A box of a number, beside a text in the making. -/
structure HeldN (B b : Nat) (w0 : World) (p : Nat) (num : Int) (T : TypeId) (w' : World) : Prop where
  frm : Frm B b w0 w'
  blk : Blk w' p #[.int .i64 num] T
theorem HeldN.all {B b : Nat} {w0 : World} {p : Nat} {num : Int} {T : TypeId} {w' : World} (h : HeldN B b w0 p num T w') : w'.cell? ⟨p, 0, none⟩ = some (.int .i64 num) ∧ HeldN B b w0 p num T w' := ⟨(h.blk.cell 0).trans rfl, h⟩
theorem HeldN.step {B b : Nat} {w0 : World} {p : Nat} {num : Int} {T : TypeId} (hB : B ≤ w0.heap.size) {W W' : World} (h : HeldN B b w0 p num T W) (hb : Below W.heap.size W W') : HeldN B b w0 p num T W' := ⟨h.frm.then hb hB, h.blk.below hb h.blk.lt⟩
theorem HeldN.write {B b : Nat} {w0 : World} {p : Nat} {num : Int} {T : TypeId} (hn : p ≠ b) (hT : T ≠ 5) {W W' : World} (h : HeldN B b w0 p num T W) (hb : Frm B b W W') : HeldN B b w0 p num T W' := ⟨h.frm.trans hb, hb.blk h.blk hn hT⟩
set_option linter.unusedSimpArgs false in
set_option maxRecDepth 100000 in
set_option maxHeartbeats 2000000 in
theorem bg_back (num : Int) (h1 : 1 ≤ num) (h2 : num ≤ 1000000) (B b : Nat) (l : List UInt8) (w : World) (h : Tx B b l w) (hl : l.length < 8880000) (hB : B ≤ w.heap.size) (hTb : Tbl B w) : Calls Tryz.prog 41 #[.pointer (some ⟨b, 0, none⟩), .iface 99 (.agg #[.int .i64 num])] w (BgPost B b l w (.back num)) := by
  have hA := (Below.refl w.heap.size w).alloc (Nat.le_refl _) (.cells #[.int .i64 num] 99)
  have hBk := Blk.new w #[.int .i64 num] 99 _ rfl
  have hT := h.below hA
  have hTd := hT.drew
  have hne : w.heap.size ≠ b := by have := h.lt; omega
  have hall := (show HeldN B b w w.heap.size num 99 _ from ⟨Frm.of hA hB, hBk⟩).all
  have hit := fun W (h : HeldN B b w w.heap.size num 99 W) => itoa_s num (by omega) h2 W (hTb.below h.frm.low).pow
  have hlen := dec_le7 num.toNat (by omega)
  have hw := fun (S : ByteArray) (W : World) (hSz : S.size ≤ 7) (hT : Tx B b l W) (hW : HeldN B b w w.heap.size num 99 W) => txs_any B b l (⟨#[92]⟩ ++ S) W hT (by rw [ByteArray.size_append]; show l.length + (1 + _) < _; omega) (Nat.le_trans hB hW.frm.size)
  clear hA hBk h hTb
  go_enter Tryz.func41, Tryz.ntmps41
  go_upto_region 19 with fail
  go_region_held3 (fun w' => w'.cell? ⟨w.heap.size, 0, none⟩ = some (.int .i64 num) ∧ HeldN B b w w.heap.size num 99 w')
    (first | with_reducible exact hall | with_reducible exact (HeldN.step hB (by go_split_ands; assumption) hbX).all | with_reducible exact (HeldN.write hne (by decide) (by go_split_ands; assumption) hfX).all | with_reducible exact (HeldN.step hB (by go_split_ands; assumption) (Below.drew (Below.refl _ _))).all)
    (first | (go_at_call 69; refine (hit _ (by go_split_ands; assumption)).mono ?_; rintro e w' ⟨⟨S, rfl, hS⟩, hbX⟩; have hSz : S.size ≤ 7 := (by rw [← ba_len, hS]; exact hlen); have hc1 : ¬ ((9223372036854775807 : Int) < 1 + (S.size : Int)) := (by omega); have hc3 : 1 + (S.size : Int) ≤ 9223372036854775807 := (by omega); have hc2 : ¬ (9223372036854775807 < 1 + S.size) := (by omega); have hc4 : 1 + S.size ≤ 9223372036854775807 := (by omega); have hT1 : Tx B b l w' := (by first | exact hT.below hbX | exact hTd.below hbX)) | (go_at_call 40; refine (hw S _ hSz (by first | exact hT1 | exact hT1.drew) (by go_split_ands; assumption)).mono ?_; rintro e w' ⟨rfl, hT2, hfX⟩))
  go_wp2_with fail
  go_ret
  go_split_ands
  have hx : l ++ (⟨#[92]⟩ ++ S : ByteArray).data.toList = l ++ (92 :: dec num.toNat) := by rw [ByteArray.data_append, Array.toList_append, hS]; rfl
  rw [hx] at hT2
  exact bg_none rfl hT2 (HeldN.frm (by assumption))
/-- What a node begins with is written, what is pending of it then is answered. -/
theorem shbegin_any (d : Nd) (v : Value) (hn : numOk d = true) (hz : nsize d ≤ 4000000) (B b : Nat) (l : List UInt8) (w : World) (h : Tx B b l w) (hl : l.length < 8880000) (hB : B ≤ w.heap.size) (hTb : Tbl B w) (hv : NdX (fun k => k < B) w d v) : Calls Tryz.prog 41 #[.pointer (some ⟨b, 0, none⟩), v] w (BgPost B b l w d) := by
  rcases nd_kinds hv with ⟨rfl, h0⟩ | ⟨s, rfl, rfl⟩ | ⟨ds, a, cap, rfl, rfl, hr⟩ | ⟨ds, a, cap, rfl, rfl, hr⟩ | ⟨d', mn, mx, u, rfl, rfl, hu⟩ | ⟨num, d', u, rfl, rfl, hu⟩ | ⟨num, rfl, rfl⟩ | ⟨rfl, rfl⟩ | ⟨rfl, rfl⟩
  · exact bg_empty v h0 B b l w h
  · exact bg_one s B b l w h hl hB hTb
  · have := nsizes_length ds
    rw [nsize] at hz
    exact bg_cat ds a cap (by omega) B b l w h hl hB hTb hr
  · have := nsizes_length ds
    rw [nsize] at hz
    exact bg_alt ds a cap (by omega) B b l w h hl hB hTb hr
  · rw [numOk, Bool.and_eq_true] at hn
    exact bg_rep mn mx hn.1 d' u (hu.elim fun _ h => nd_shape h) B b l w h hl hB hTb hu
  · exact bg_group num d' u (hu.elim fun _ h => nd_shape h) B b l w h hl hB hTb hu
  · rw [numOk, Bool.and_eq_true, decide_eq_true_eq, decide_eq_true_eq] at hn
    exact bg_back num hn.1 hn.2 B b l w h hl hB hTb
  · exact bg_start B b l w h hl hB hTb
  · exact bg_fin B b l w h hl hB hTb
end Go.Proofs.YtpmeicclngckeaaGreatDoor
namespace Go.Proofs.YtpmeicclngckeaaGreatDoor
open Go Go.RowKit

theorem PdRow.last {F : Nat → Prop} {w : World} {p : Pend} : ∀ {l : List Pend} {us : List Value}, PdRow F w (l ++ [p]) us → ∃ us' S v, us = us' ++ [.string S, v] ∧ S.data.toList = p.1 ∧ NdO F w p.2 v ∧ PdRow F w l us'
  | [], us, ⟨S, v, us', h, h2, h3, h4⟩ => by obtain rfl : us' = [] := h4; exact ⟨[], S, v, h, h2, h3, rfl⟩
  | x :: l, us, ⟨S', v', us', h, h2, h3, h4⟩ => by
    obtain ⟨us2, S, v, e, g2, g3, g4⟩ := PdRow.last h4
    exact ⟨.string S' :: v' :: us2, S, v, by rw [h, e]; rfl, g2, g3, S', v', us2, rfl, h2, h3, g4⟩
theorem ndo_one {F : Nat → Prop} {w : World} {d : Option Nd} {v : Value} (h : NdO F w d v) : (∃ T q, v = .iface T q) ∨ v = .nilIface := by
  cases d with
  | none => exact .inr h
  | some d => exact Exists.elim h fun _ h => nd_shape h
theorem PdRow.ones {F : Nat → Prop} {w : World} : ∀ {l : List Pend} {us : List Value}, PdRow F w l us → ∀ u ∈ us, u.oneCell' = true
  | [], us, h, u, hu => by obtain rfl : us = [] := h; simp at hu
  | _ :: _, us, ⟨S, v, us', h, _, h3, h4⟩, u, hu => by
    subst h
    rcases List.mem_cons.1 hu with rfl | hu
    · rfl
    rcases List.mem_cons.1 hu with rfl | hu
    · rcases ndo_one h3 with ⟨_, _, rfl⟩ | rfl <;> rfl
    · exact PdRow.ones h4 u hu
/-- What a pending thing has of a node. -/
def pE (p : Pend) : Nd := p.2.getD .empty
theorem pT_eq (p : Pend) : pT p = p.1 ++ nT (pE p) := by
  obtain ⟨b, o⟩ := p
  cases o with
  | none => rfl
  | some d => rfl
theorem pN_more (p : Pend) : stN (more (pE p)).2 < pN p := by
  obtain ⟨b, o⟩ := p
  cases o with
  | none => show stN (more .empty).2 < 1; decide
  | some d => exact more_less d
theorem pN_pos (p : Pend) : 1 ≤ pN p := by have := pN_more p; omega
theorem stN_len : ∀ T : List Pend, T.length ≤ stN T
  | [] => by decide
  | p :: T => by
    have h := stN_len T
    have h2 := pN_pos p
    show T.length + 1 ≤ (List.map pN (p :: T)).sum
    rw [List.map_cons, List.sum_cons]
    unfold stN at h
    omega
/-- What is pending is small. -/
def PdOk (n : Nat) (T : List Pend) : Prop := ∀ p ∈ T, ∀ e, p.2 = some e → numOk e = true ∧ nsize e ≤ n
theorem PdOk.app {n : Nat} {T U : List Pend} (h : PdOk n T) (k : PdOk n U) : PdOk n (T ++ U) := fun p hp => (List.mem_append.1 hp).elim (h p) (k p)
theorem PdOk.node {n : Nat} {p : Pend} (h : PdOk n [p]) (hn : 1 ≤ n) : numOk (pE p) = true ∧ nsize (pE p) ≤ n := by
  obtain ⟨b, o⟩ := p
  cases o with
  | none => exact ⟨rfl, hn⟩
  | some d => exact h (b, some d) (List.mem_singleton.2 rfl) d rfl
theorem turn_ok (b : List UInt8) (n : Nat) (l : List Nd) (h : numOks l = true) (hz : nsizes l ≤ n) : PdOk n (inTurn b l) := by
  intro p hp e he
  rw [← inTurn_map] at hp
  obtain ⟨i, _, rfl⟩ := List.mem_map.1 hp
  have he2 : l[i]? = some e := he
  obtain ⟨hi, he3⟩ := List.getElem?_eq_some_iff.1 he2
  subst he3
  have h1 := nsizes_take l i hi
  have h2 := nsizes_le l (i + 1)
  exact ⟨numOks_all l h _ (List.getElem_mem hi), by omega⟩
theorem more_sub (d : Nd) (h : numOk d = true) (n : Nat) (hn : nsize d ≤ n) : PdOk n (more d).2 := by
  cases d with
  | empty => intro p hp; cases hp
  | one s => intro p hp; cases hp
  | cat l => rw [numOk] at h; rw [nsize] at hn; exact turn_ok _ _ _ h (by omega)
  | alt l => rw [numOk] at h; rw [nsize] at hn; exact turn_ok _ _ _ h (by omega)
  | rep d mn mx =>
    rw [numOk, Bool.and_eq_true] at h
    rw [nsize] at hn
    intro p hp e he
    simp only [more, List.mem_cons, List.not_mem_nil, or_false] at hp
    rcases hp with rfl | rfl
    · cases he
    · injection he with he; subst he; exact ⟨h.2, by omega⟩
  | group k d =>
    rw [numOk] at h
    rw [nsize] at hn
    intro p hp e he
    simp only [more, List.mem_cons, List.not_mem_nil, or_false] at hp
    rcases hp with rfl | rfl
    · cases he
    · injection he with he; subst he; exact ⟨h, by omega⟩
  | back n => intro p hp; cases hp
  | start => intro p hp; cases hp
  | fin => intro p hp; cases hp
theorem pd_slice {w : World} {C m : Nat} {mv : Value} {us : List Value} (h : w.ownsRow C 83 2 mv m us) : ∃ oa c, mv = .slice oa m c ∧ (∀ g, mv.ownBlock = some g → C ≤ g) ∧ (0 < m → ∃ a, oa = some a ∧ ∀ j u, us[j]? = some u → w.cell? (a.add j) = some u) := by
  have hr := h
  rcases h.2 with ⟨rfl, h0⟩ | ⟨g, cap, cur, rfl, hg, _⟩
  · exact ⟨none, 0, by rw [h0], fun g hg => by simp [Value.ownBlock] at hg, fun h => by omega⟩
  · refine ⟨some ⟨g, 0, none⟩, cap, rfl, fun k hk => (by simpa [Value.ownBlock] using hk : g = k) ▸ hg, fun _ => ⟨_, rfl, fun j u hu => ?_⟩⟩
    have hj : j < m * 2 := by
      have := (List.getElem?_eq_some_iff.1 hu).1
      rw [hr.1] at this
      exact this
    rw [Go.WideShapes.add_plain, Nat.zero_add, hr.cellAt j hj]
    exact hu
theorem Tbl.mono' {B C : Nat} {w : World} (h : Tbl B w) (hc : B ≤ C) : Tbl C w := ⟨h.tab, h.pow, Nat.lt_of_lt_of_le h.gt hc, Nat.lt_of_lt_of_le h.gp hc⟩
theorem begin_ndo (p : Pend) (v : Value) (n : Nat) (hn : n ≤ 4000000) (h1 : 1 ≤ n) (hk : PdOk n [p]) (B b : Nat) (l : List UInt8) (w : World) (h : Tx B b l w) (hl : l.length < 8880000) (hB : B ≤ w.heap.size) (hTb : Tbl B w) (hv : NdO (fun k => k < B) w p.2 v) :
    Calls Tryz.prog 41 #[.pointer (some ⟨b, 0, none⟩), v] w (BgPost B b l w (pE p)) := by
  obtain ⟨k1, k2⟩ := hk.node h1
  obtain ⟨y, o⟩ := p
  cases o with
  | none => exact bg_empty v (.inr hv) B b l w h
  | some d => exact shbegin_any d v k1 (by have : nsize d ≤ n := k2; omega) B b l w h hl hB hTb hv
theorem builder_grown {T e U : TypeId} {B b : Nat} {p : Value} {bs : List Value} {w w' : World} {row : Option Nat} (h : Lib.BuilderAtF T e B b p bs w) (hg : w.grownBy w' row) (hr : ∀ k, row = some k → ∃ c, w.heap[k]? = some (.cells c U (0, 0))) (h1 : U ≠ T) (h2 : U ≠ e) : Lib.BuilderAtF T e B b p bs w' := by
  have hlt := h.lt
  obtain ⟨hB, x, hbk, hown, hne⟩ := h
  refine ⟨hB, x, (hg.block b hlt (fun e => ?_)).trans hbk, ⟨hown.1, ?_⟩, hne⟩
  · obtain ⟨c, hc⟩ := hr b e.symm
    rw [hbk] at hc
    injection hc with hc
    injection hc with _ hc
    exact h1 hc.symm
  · rcases hown.2 with h3 | ⟨g, cap, cur, fz, hv, hg2, hh, hr2⟩
    · exact .inl h3
    · refine .inr ⟨g, cap, cur, fz, hv, hg2, (hg.block g (Array.getElem?_eq_some_iff.1 hh).1 (fun e => ?_)).trans hh, hr2⟩
      obtain ⟨c, hc⟩ := hr g e.symm
      rw [hh] at hc
      injection hc with hc
      injection hc with _ hc
      exact h2 hc.symm
theorem Tx.grown {B b : Nat} {l : List UInt8} {w w' : World} {row : Option Nat} {U : TypeId} (h : Tx B b l w) (hg : w.grownBy w' row) (hr : ∀ k, row = some k → ∃ c, w.heap[k]? = some (.cells c U (0, 0))) (h1 : U ≠ 56) (h2 : U ≠ 5) : Tx B b l w' :=
  h.elim (fun h => .inl (builder_grown h hg hr h1 h2)) (fun h => .inr (builder_grown h hg hr h1 h2))
theorem row_kind {w : World} {C n size : Nat} {e : TypeId} {v : Value} {xs : List Value} (h : w.ownsRow C e size v n xs) : ∀ k, v.ownBlock = some k → ∃ c, w.heap[k]? = some (.cells c e (0, 0)) := by
  intro k hk
  rcases h.2 with ⟨rfl, _⟩ | ⟨g, cap, cur, rfl, _, hh, _⟩
  · simp [Value.ownBlock] at hk
  · obtain rfl : g = k := by simpa [Value.ownBlock] using hk
    exact ⟨cur, hh⟩
/-- What begin leaves, beside the row of what is pending. -/
def BegPost (b : Nat) (w3 : World) (L : List UInt8) (e0 : Nd) (T : List Pend) (rv : Value) (us' : List Value) (e : Ending) (w5 : World) : Prop :=
  ∃ oa c5 us5, e = .returned (.slice oa (more e0).2.length c5) ∧ Tx b b (L ++ (more e0).1) w5 ∧ Below b w3 w5 ∧ w3.heap.size ≤ w5.heap.size ∧ w5.ownsRow b 83 2 rv T.length us' ∧ PdRow (fun k => k < b) w5 T us' ∧ PdRow (fun k => k < b) w5 (more e0).2 us5 ∧
    (0 < (more e0).2.length → ∃ a, oa = some a ∧ ∀ j u, us5[j]? = some u → w5.cell? (a.add j) = some u)
theorem beg_post {b : Nat} {w3 : World} {L : List UInt8} {p : Pend} {T : List Pend} {rv v : Value} {us' : List Value} (hk : PdOk 2900 [p]) (hT : Tx b b L w3) (hl : L.length < 8880000) (hTb : Tbl b w3) (hv : NdO (fun k => k < b) w3 p.2 v) (hrow : w3.ownsRow b 83 2 rv T.length us') (hpd : PdRow (fun k => k < b) w3 T us') :
    ∀ W, Below w3.heap.size w3 W → Calls Tryz.prog 41 #[.pointer (some ⟨b, 0, none⟩), v] W (BegPost b w3 L (pE p) T rv us') := by
  intro W hX
  have hb : b ≤ w3.heap.size := Nat.le_of_lt hT.lt
  have hX2 := hX.mono hb
  have hz := hX.size
  refine (begin_ndo p v 2900 (by decide) (by decide) hk b b L W (hT.below hX) hl (Nat.le_trans hb hz) (hTb.below hX2) (hv.keep hz (fun k hf _ => ⟨hf, fun o => hX2.cell (p := ⟨k, o, none⟩) hf⟩))).mono ?_
  rintro e w5 ⟨mv, us5, rfl, hT5, hF5, hown5, hp5⟩
  obtain ⟨oa, c5, rfl, _, hn⟩ := pd_slice hown5
  have hrW := own_below hrow hX
  exact ⟨oa, c5, us5, rfl, hT5, hX2.trans hF5.low, Nat.le_trans hz hF5.size, hF5.own hrW ((hT.below hX).own_ne hrW (by decide)) (by decide), (hpd.low (fun k hk => hk) hX2).low (fun k hk => hk) hF5.low, hp5, hn⟩
/-- Between two rounds. -/
structure ErI (d : Nd) (b : Nat) (w1 : World) (T : List Pend) (rv : Value) (us : List Value) (L : List UInt8) (wr : World) : Prop where
  tx : Tx b b L wr
  low : Below b w1 wr
  row : wr.ownsRow b 83 2 rv T.length us
  pds : PdRow (fun k => k < b) wr T us
  txt : L ++ stT T = nT d
  small : PdOk 2900 T
theorem ErI.top {d : Nd} {b : Nat} {w1 wr : World} {T : List Pend} {p : Pend} {rv : Value} {us : List Value} {L : List UInt8} (h : ErI d b w1 (T ++ [p]) rv us L wr) :
    ∃ g cap S v us', rv = .slice (some ⟨g, 0, none⟩) (T.length + 1) cap ∧ T.length + 1 ≤ cap ∧ g < wr.heap.size ∧ wr.cell? ⟨g, T.length * 2, none⟩ = some (.string S) ∧ wr.cell? ⟨g, T.length * 2 + 1, none⟩ = some v ∧ S.data.toList = p.1 ∧ NdO (fun k => k < b) wr p.2 v ∧ wr.ownsRow b 83 2 (.slice (some ⟨g, 0, none⟩) T.length cap) T.length us' ∧ PdRow (fun k => k < b) wr T us' := by
  have hrow := h.row
  rw [List.length_append] at hrow
  obtain ⟨g, cap, rfl⟩ := ownsRow_succ hrow
  obtain ⟨us', S, v, rfl, h1, h2, h3⟩ := h.pds.last
  have hl := h3.len
  have hg := hrow.lt g rfl
  refine ⟨g, cap, S, v, us', rfl, row_cap hrow, hg.2, ?_, ?_, h1, h2, ownsRow_pop hl hrow, h3⟩
  · rw [hrow.cellAt (T.length * 2) (show T.length * 2 < (T.length + 1) * 2 by omega), ← hl, List.getElem?_append_right (Nat.le_refl _)]
    simp
  · rw [hrow.cellAt (T.length * 2 + 1) (show T.length * 2 + 1 < (T.length + 1) * 2 by omega), ← hl, List.getElem?_append_right (by omega)]
    rw [show us'.length + 1 - us'.length = 1 by omega]
    rfl
set_option linter.unusedSimpArgs false in
set_option maxRecDepth 100000 in
set_option maxHeartbeats 4000000 in
theorem shere_right (d : Nd) (v : Value) (w : World) (h : NdX (fun k => k < w.heap.size) w d v) (hr : nrightB d = true) (hz : nsize d ≤ 2900) (hTb : Tbl w.heap.size w) :
    Calls Tryz.prog 14 #[v] w fun e w' => e = .returned (.string ⟨(nT d).toArray⟩) ∧ Below w.heap.size w w' := by
  have hn := right_numOk d hr (by omega)
  have hlen := nT_le d hn
  obtain ⟨i0, hi, hz0, hz1, hz2⟩ := pend_info
  have hsh : (∃ T q, v = .iface T q) ∨ v = .nilIface := h.elim fun _ h => nd_shape h
  have hpr := pright_any d v w h (by omega)
  rw [hr] at hpr
  have hbeg : ∀ w1 W2, Below w.heap.size w w1 → W2 = (w1.alloc (.cells #[.pointer none, .slice none 0 0] 56)).alloc (.cells #[.string ⟨#[]⟩, v] 83) → ErI d w1.heap.size w1 [([], some d)] (.slice (some ⟨w1.heap.size + 1, 0, none⟩) 1 1) [.string ⟨#[]⟩, v] [] W2 := by
    intro w1 W2 hb he
    subst he
    have hB1 := (Below.refl w1.heap.size w1).alloc (Nat.le_refl _) (.cells #[.pointer none, .slice none 0 0] 56)
    have hB2 := hB1.alloc (by simp) (.cells #[.string ⟨#[]⟩, v] 83)
    refine ⟨(tx_new w1 _ rfl).alloc _, hB2, ?_, ?_, by rw [stT_one]; rfl, fun p hp e he => ?_⟩
    · exact ⟨rfl, .inr ⟨w1.heap.size + 1, 1, _, rfl, by omega, by have h := World.alloc_heap_new (w1.alloc (.cells #[.pointer none, .slice none 0 0] 56)) (.cells #[.string ⟨#[]⟩, v] 83); rw [World.size_alloc] at h; exact h, Nat.le_refl _, by decide, rfl, rfl⟩⟩
    · exact PdRow.one (p := ([], some d)) rfl ((h.below hb).keep hB2.size (fun b hf _ => ⟨Nat.lt_of_lt_of_le hf hb.size, fun o => hB2.cell (p := ⟨b, o, none⟩) (Nat.lt_of_lt_of_le hf hb.size)⟩))
    · obtain rfl := List.mem_singleton.1 hp
      injection he with he
      subst he
      exact ⟨hn, hz⟩
  go_enter Tryz.func14, Tryz.ntmps14
  go_upto_region 4 with (go_at_call 39; refine hpr.mono ?_; rintro e w1 ⟨rfl, b1⟩)
  have HE := hbeg w1 _ b1 rfl
  have HTb := Lib.hid (hTb.below b1)
  have hg1 := b1.size
  clear hbeg hpr h hTb
  go_cut [4] from 10 to 12 (fun rv wx => ∃ us, ErI d w1.heap.size w1 [([], some d)] rv us [] wx)
  case first =>
    rcases hsh with ⟨T, q, rfl⟩ | rfl
    all_goals
      go_wp2_with fail
      go_meet
      exact ⟨_, HE⟩
  obtain ⟨us0, hE0⟩ := hcut
  clear HE hsh
  go_wp2_with fail
  go_loopg [4] (2 * nsize d + 1) (fun gk rv wr => ∃ T us pv L, pv = rv ∧ ErI d w1.heap.size w1 T pv us L wr ∧ stN T + 1 ≤ gk ∧ stN T ≤ 6000)
  case atStart => exact ⟨_, us0, _, [], rfl, hE0, by show 2 * nsize d + 0 + 1 ≤ _; omega, by show 2 * nsize d + 0 ≤ _; omega⟩
  case round =>
    obtain ⟨T, us, pv, L, hpv, hE, hgk, hsT⟩ := hrel
    subst hpv
    clear hE0
    rcases List.eq_nil_or_concat T with rfl | ⟨T, p, rfl⟩
    · obtain ⟨a0, c0, rfl⟩ : ∃ a c, pv = .slice a 0 c := by
        rcases hE.row.2 with ⟨e, _⟩ | ⟨g, cap, cur, e, _⟩
        · exact ⟨_, _, e⟩
        · exact ⟨_, _, e⟩
      have hTe := hE.tx
      have hlw := hE.low
      have htx : L = nT d := by have := hE.txt; rwa [show stT [] = [] from rfl, List.append_nil] at this
      rw [htx] at hTe
      have hbl := hTe.lt
      clear hE htx
      go_wp2_with fail
      refine (txstr_any _ _ _ _ hTe (by omega)).mono ?_
      rintro e w5 ⟨rfl, b5⟩
      go_wp2_with fail
      go_ret
      exact ⟨rfl, b1.trans ((hlw.trans b5).mono hg1)⟩
    · rw [List.concat_eq_append] at hE hgk hsT
      have htx := hE.txt
      have hsm := hE.small
      rw [stN_app] at hgk hsT
      rw [stT_app, stT_one, pT_eq] at htx
      have hlT := stN_len T
      obtain ⟨g, cap, S, v, us', rfl, hcap, hgl, q0, q1, hS, hv, hrow, hpd⟩ := hE.top
      have Wn : IntKind.i64.wrap ((T.length : Int) + 1 - 1) = (T.length : Int) := by rw [IntWalk.i64_in _ (by omega)]; omega
      have hcp2 : (T.length : Int) ≤ (cap : Int) := by omega
      have hcp3 : ¬ cap = 0 := by omega
      have hb1 := hE.tx.lt
      have hlow := hE.low
      have hT := hE.tx
      have HTX := Lib.hid htx
      have hL : L.length + S.size ≤ 8700000 := by
        have h1 : (L ++ (p.1 ++ nT (pE p) ++ stT T)).length = (nT d).length := by rw [htx]
        rw [List.length_append, List.length_append, List.length_append, ← hS, ba_len] at h1
        omega
      have hbw : w1.heap.size ≤ wr.heap.size := by omega
      have hpk : PdOk 2900 [p] := fun q hq => hsm q (List.mem_append_right _ hq)
      have hTk : PdOk 2900 T := fun q hq => hsm q (List.mem_append_left _ hq)
      clear htx hsm hE
      go_upto_region 7 with fail
      go_cut [6] from 19 to 22 (fun x wx => x = .pointer (some ⟨wr.heap.size, 0, none⟩) ∧ Blk wx wr.heap.size #[.string S, v] 83 ∧ Below wr.heap.size wr wx)
      case first =>
        have h1 := ndo_one hv
        clear hv hrow hpd hT hlow
        rcases h1 with ⟨T1, q1, rfl⟩ | rfl
        all_goals
          go_wp2_with fail
          go_meet
          exact ⟨rfl, Blk.new wr _ _ _ rfl, (Below.refl wr.heap.size wr).alloc (Nat.le_refl _) _⟩
      case rest =>
        obtain ⟨rfl, hbx, hV⟩ := hcut
        have hVz := hV.size
        have hne : wr.heap.size ≠ w1.heap.size := by omega
        replace hT := hT.below hV
        replace hrow := own_below hrow hV
        replace hpd := hpd.low (fun k hk => hk) (hV.mono hbw)
        replace hv := hv.keep hVz (fun b hf _ => ⟨hf, fun o => hV.cell (p := ⟨b, o, none⟩) (Nat.lt_of_lt_of_le hf hbw)⟩)
        replace hlow := hlow.trans (hV.mono hbw)
        have k0 := (hbx.cell 0).trans rfl
        have k1 := (hbx.cell 1).trans rfl
        clear q0 q1 hV
        go_wp2_with fail
        refine (txs_any w1.heap.size w1.heap.size L S wc hT (by omega) (by omega)).mono ?_
        rintro e w3 ⟨rfl, hT3, hF3⟩
        have hF3z := hF3.size
        have hbx3 := hF3.blk hbx hne (by decide)
        have hrow3 := hF3.own hrow (hT.own_ne hrow (by decide)) (by decide)
        have hpd3 := hpd.low (fun k hk => hk) hF3.low
        have hv3 := hv.keep hF3z (fun b hf _ => ⟨hf, fun o => hF3.low.cell (p := ⟨b, o, none⟩) hf⟩)
        have hlow3 := hlow.trans hF3.low
        have k3 := (hbx3.cell 1).trans rfl
        have hTb3 := Lib.hid ((HTb.out.mono' hg1).below hlow3)
        clear hT hrow hpd hv hlow hbx k0 k1 hF3 hbx3
        go_upto_region 9 with fail
        have hbg := beg_post hpk hT3 (by rw [List.length_append, ba_len]; omega) hTb3.out hv3 hrow3 hpd3
        have hm0 := pN_more p
        have hp1 : stN [p] = pN p := by show pN p + 0 = _; omega
        have hml := stN_len (more (pE p)).2
        have hm1 : T.length + (more (pE p)).2.length ≤ maxLen := by unfold maxLen; omega
        have hm2 : (T.length + (more (pE p)).2.length) * 32 ≤ 140737488355328 := by omega
        have hmu := more_sub (pE p) (hpk.node (by decide)).1 2900 (hpk.node (by decide)).2
        have hnew := more_ok (pE p)
        clear hT3 hrow3 hpd3 hv3 hTb3
        go_region_law (first
          | (go_simp; go_at_call 41; refine (hbg _ (by first | exact Below.refl _ _ | exact Below.drew (Below.refl _ _))).mono ?_; rintro e w5 ⟨oa, c5, us5, rfl, hT5, hB5, hz5, hr5, hp5, hq5, hn5⟩)
          | (refine step_append_any rfl _ _ 84 rfl w1.heap.size 83 i0 (.agg #[.string ⟨#[]⟩, .nilIface]) 2 32 Tryz.underlying84 hi hz0 hz1 hz2 rfl (by decide) (.slice (some ⟨g, 0, none⟩) T.length cap) T.length us' rfl (by first | exact hr5 | exact nd_own_below hr5 (Below.drew (Below.refl _ _))) oa (more (pE p)).2.length c5 us5 rfl hq5.len hn5 hq5.ones hm1 hm2 (by first | omega | (simp; omega)) ?_; intro v6 w6 hown6 hgrow6 hat6))
        have hro := fun k hk => row_kind hr5 k hk
        have hrl := fun k hk => (hr5.lt k hk).1
        have hB6 : Below w1.heap.size w5 w6 := by first | exact (Below.refl w1.heap.size w5).grown hgrow6 (by omega) hrl | exact (Below.refl w1.heap.size w5).drew.grown hgrow6 (by simp; omega) hrl
        have hT6 : Tx w1.heap.size w1.heap.size (L ++ S.data.toList ++ (more (pE p)).1) w6 := by first | exact hT5.grown hgrow6 hro (by decide) (by decide) | exact hT5.drew.grown hgrow6 hro (by decide) (by decide)
        have HE6 := Lib.hid (show ErI d w1.heap.size w1 (T ++ (more (pE p)).2) v6 (us' ++ us5) (L ++ S.data.toList ++ (more (pE p)).1) w6 from
          ⟨hT6, (hlow3.trans hB5).trans hB6, by rw [List.length_append]; exact hown6, (hp5.app hq5).low (fun k hk => hk) hB6, by rw [stT_app, ← HTX.out, hS, ← hnew]; simp only [List.append_assoc], hTk.app hmu⟩)
        have HS6 := Lib.hid (stN_app T (more (pE p)).2)
        clear hgrow6 hat6 hown6 hro hrl hB6 hT6 hT5 hB5 hr5 hp5 hq5 hn5 hnew
        go_wp2_with fail
        go_roundg (stN (T ++ (more (pE p)).2) + 1)
        case measure => have := HS6.out; omega
        case rel => exact ⟨_, _, _, _, rfl, HE6.out, Nat.le_refl _, by have := HS6.out; omega⟩
end Go.Proofs.YtpmeicclngckeaaGreatDoor
namespace Go.Proofs.YtpmeicclngckeaaGreatDoor
open Go Go.RowKit

set_option linter.unusedSimpArgs false in
set_option maxRecDepth 100000 in
set_option maxHeartbeats 1000000 in
/-- A tree as a text: none, if it isn't right. -/
theorem shere_any (d : Nd) (v : Value) (w : World) (h : NdX (fun k => k < w.heap.size) w d v) (hz : nsize d ≤ 2900) (hTb : Tbl w.heap.size w) :
    Calls Tryz.prog 14 #[v] w fun e w' => e = .returned (.string ⟨(ereT d).toArray⟩) ∧ Below w.heap.size w w' := by
  cases hr : nrightB d with
  | true =>
    have HE : ereT d = nT d := by unfold ereT; rw [hr]; rfl
    rw [HE]
    exact shere_right d v w h hr hz hTb
  | false =>
    have HE := Lib.hid (show (⟨(ereT d).toArray⟩ : ByteArray) = ⟨#[]⟩ by unfold ereT; rw [hr]; rfl)
    have hpr := pright_any d v w h (by omega)
    rw [hr] at hpr
    clear h hTb
    go_enter Tryz.func14, Tryz.ntmps14
    go_wp2_with fail
    refine hpr.mono ?_
    rintro e w1 ⟨rfl, b1⟩
    go_wp2_with fail
    go_ret
    exact ⟨by rw [HE.out]; rfl, b1⟩
/-- The variables, as they were laid. -/
structure G6 (w : World) : Prop where
  gl : Gl w
  pow : Pow w
theorem G6.up {w w' : World} (h : G6 w) (hb : Below w.heap.size w w') : G6 w' := ⟨h.gl.up hb, pow_below h.pow hb (pow_lt h.pow)⟩
theorem G6.gt {w : World} (h : G6 w) : 0 < w.heap.size := Nat.lt_of_lt_of_le (by decide) h.gl.lt
theorem G6.tbl {w : World} (h : G6 w) : Tbl w.heap.size w := ⟨h.gl.tab, h.pow, h.gt, pow_lt h.pow⟩
def show6N : Nd := .rep (.group 1 (.alt [.one (oSpan 97 97), .one (oSpan 98 98)])) 2 2
theorem show_ex : (match parseM false [92, 40, 97, 92, 124, 98, 92, 41, 92, 123, 50, 92, 125] with | .ok q => some q.2 | .error _ => none) = some show6N := by kernel_rfl
theorem show_set_a : setT (oSpan 97 97) = [97] := by kernel_rfl
theorem show_set_b : setT (oSpan 98 98) = [98] := by kernel_rfl
theorem show_set_dot : setT (oSpan 46 46) = [92, 46] := by kernel_rfl
theorem show_text : ereT show6N = [40, 97, 124, 98, 41, 123, 50, 125] := by
  have hr : nrightB show6N = true := by kernel_rfl
  unfold ereT show6N at *
  rw [hr, if_pos rfl, nT, nT, nT, nTb, nTb, nTb, nT, nT, show_set_a, show_set_b]
  unfold timesT
  rw [show dec (2 : Int).toNat = [50] from dec_small 2 (by decide)]
  rfl
theorem show_parse (w : World) (hG : Gl w) : Calls Tryz.prog 17 #[.string ⟨#[92, 40, 97, 92, 124, 98, 92, 41, 92, 123, 50, 92, 125]⟩] w fun e w' => ∃ T q ma ml mc, e = .returned (.tuple #[.iface T q, .slice ma ml mc, .int .i64 0, .int .i64 0]) ∧ NdX (fun k => k < w'.heap.size) w' show6N (.iface T q) ∧ Below w.heap.size w w' := by
  refine (bparse_any ⟨#[92, 40, 97, 92, 124, 98, 92, 41, 92, 123, 50, 92, 125]⟩ w hG).mono ?_
  have hx := show_ex
  rw [show (ByteArray.mk #[92, 40, 97, 92, 124, 98, 92, 41, 92, 123, 50, 92, 125]).data.toList = [92, 40, 97, 92, 124, 98, 92, 41, 92, 123, 50, 92, 125] from rfl]
  generalize parseM false [92, 40, 97, 92, 124, 98, 92, 41, 92, 123, 50, 92, 125] = R at hx ⊢
  cases R with
  | error q => cases hx
  | ok q =>
    obtain ⟨st, d⟩ := q
    injection hx with hx
    have hx2 : d = show6N := hx
    subst hx2
    rintro e w' ⟨hb, v, mv, rfl, hn, hm⟩
    obtain ⟨u, rfl⟩ : ∃ u, v = .iface 95 (.agg #[u, .int .i64 2, .int .i64 2]) := by
      rcases nd_kinds hn with ⟨h, _⟩ | ⟨s, h, _⟩ | ⟨l, a, cap, h, _⟩ | ⟨l, a, cap, h, _⟩ | ⟨d', mn, mx, u, h, h2, _⟩ | ⟨num, d', u, h, _⟩ | ⟨num, h, _⟩ | ⟨h, _⟩ | ⟨h, _⟩
      all_goals first
        | (cases h; exact ⟨_, h2⟩)
        | (cases h; done)
    obtain ⟨ma, mc, rfl⟩ := own_form' hm
    exact ⟨_, _, ma, _, mc, rfl, ndx_in hn, hb⟩
set_option linter.unusedSimpArgs false in
set_option maxRecDepth 100000 in
set_option maxHeartbeats 1000000 in
theorem awake6_any (w : World) (hG : G6 w) : Calls Tryz.prog 8 #[] w fun e w' => e = .returned (.bool true) ∧ Below w.heap.size w w' := by
  have hsz : nsize show6N ≤ 2900 := by decide
  have HT := show_text
  go_enter Tryz.func8, Tryz.ntmps8
  go_wp2_with fail
  refine (show_parse w hG.gl).mono ?_
  rintro e w1 ⟨T, q, ma, ml, mc, rfl, hn, b1⟩
  have hG1 := hG.up b1
  have he := shere_any show6N _ w1 hn hsz hG1.tbl
  rw [HT] at he
  clear hn hG
  go_wp2_with fail
  refine he.mono ?_
  clear he
  rintro e w2 ⟨rfl, b2⟩
  have hG2 := hG1.up b2
  have hB2 := b1.trans (b2.mono b1.size)
  clear hG1 b1 b2
  go_wp2_with fail
  refine (of_one 46 (by decide) (by decide) w2 _ rfl).mono ?_
  rintro e w3 ⟨rfl, b3⟩
  rw [show ofl [(46 : Int)] = oSpan 46 46 from ofl_one 46]
  have hG3 := hG2.up b3
  have hB3 := hB2.trans (b3.mono hB2.size)
  have hs := shset_any (oSpan 46 46) w3 hG3.gl.tab hG3.gt
  rw [show_set_dot] at hs
  clear hG2 hB2 b3
  go_wp2_with fail
  refine hs.mono ?_
  rintro e w4 ⟨rfl, b4⟩
  go_wp2_with fail
  go_ret
  exact ⟨rfl, hB3.trans (b4.mono hB3.size)⟩
end Go.Proofs.YtpmeicclngckeaaGreatDoor
