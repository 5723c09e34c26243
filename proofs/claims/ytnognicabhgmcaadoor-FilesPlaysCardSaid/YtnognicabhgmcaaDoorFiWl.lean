/- Package files, walked: List. -/
import Derived.Test.YtnognicabhgmcaaDoorFiWk
import Derived.Test.YtnognicabhgmcaaDoorFiWj
namespace Go.Proofs.YtnognicabhgmcaaDoor
open Go Go.RowKit Go.Maps

theorem lines_at : ∀ {l : List Fl} (j : Nat) (h : j < l.length), Srt l → fLines l l[j].1 = some l[j].2
  | f :: l, 0, _, _ => by unfold fLines; simp
  | f :: l, j + 1, h, hs => by
    unfold Srt at hs
    rw [List.pairwise_cons] at hs
    unfold fLines
    have hm : l[j]'(by simpa using h) ∈ l := List.getElem_mem _
    simp only [List.getElem_cons_succ]
    rw [if_neg (bl_ne (hs.1 _ hm))]
    exact lines_at j (by simpa using h) hs.2
theorem sorted_names {H : Type} {b nn n : Nat} {D0 : DataW H} {R : Value → Option (DataW H × List MemPlace)} {w : World} {l : List Fl} (hown : w.ownsMap Tryd.prog 9 R b nn D0) (hmax : Maps.size D0 ≤ 1000) (hs : Srt l) (hp : (l.map (·.1)).Perm (strKeys D0)) (hn : l.length = n) :
    Calls Tryd.prog 25 #[.func (.func 32) #[] #[.pointer (some ⟨w.heap.size, 0, none⟩)]] (w.alloc (.cells #[.map (some b)] 52)) fun e w' => ∃ a3 c3, e = .returned (.slice a3 n c3) ∧ Below w.heap.size w w' ∧
      (0 < n → ∃ g, a3 = some ⟨g, 0, none⟩ ∧ w.heap.size ≤ g ∧ g < w'.heap.size ∧ ∀ j (h : j < l.length), w'.cell? ⟨g, j, none⟩ = some (.string (txt l[j].1))) := by
  refine (fisorted_any hown hmax).mono ?_
  rintro e w' ⟨v, ss, rfl, h1, h2, h3⟩
  have hss : (ss.mergeSort fun x y => decide (x ≤ y)) = l.map (·.1) := sorted_srt hs (h1.trans hp.symm)
  have hsl : ss.length = n := by rw [← hn, ← List.length_map (f := fun x : Fl => x.1), ← hss, List.length_mergeSort]
  rw [hsl, hss] at h2
  obtain ⟨a3, c3, rfl, _, _, hc⟩ := fi_row_cells h2
  refine ⟨a3, c3, rfl, h3, fun h0 => ?_⟩
  obtain ⟨g, rfl, hg, h4⟩ := hc h0
  exact ⟨g, rfl, (fi_row_lt h2 rfl).1, hg, fun j hj => h4 j _ (by rw [List.getElem?_map, List.getElem?_map, List.getElem?_eq_getElem hj]; rfl)⟩
set_option linter.unusedVariables false in
set_option linter.unusedSimpArgs false in
set_option maxRecDepth 100000 in
set_option maxHeartbeats 4000000 in
theorem filist_any {F : Nat → Prop} {p mp N : Nat} {V : List UInt8 → Value} {l : List Fl} {w : World} (h : FAt F p mp N V l w) (hN : N ≤ 1000) (hl : ∀ f ∈ l, f.2.length ≤ 100000) :
    Calls Tryd.prog 19 #[.pointer (some ⟨p, 0, none⟩)] w fun e w' => ∃ v, e = .returned v ∧ FsOwn 45 (fun b => w.heap.size ≤ b) w' w.heap.size v l ∧ Below w.heap.size w w' := by
  obtain ⟨i0, hi, hz0, hz1, hz2⟩ := file_info
  obtain ⟨D, hown, hhas, hat⟩ := h.own
  have hperm := own_keys hown h.srt hhas
  have hsz : Maps.size D = l.length := by rw [← keys_size hown.isMap, ← hperm.length_eq, List.length_map]
  have hln : l.length ≤ 1000 := by rw [← hsz]; exact Nat.le_trans hown.size_le hN
  have hkl : ∀ f ∈ l, f.1.length ≤ maxLen := fun f hf => strKeys_le hown Tryd.underlying9 _ (hperm.mem_iff.1 (List.mem_map_of_mem hf))
  have c0 : w.cell? ⟨p, 0, none⟩ = some (.map (some mp)) := (h.blk.cell 0).trans rfl
  obtain ⟨n, hn⟩ : ∃ n, l.length = n := ⟨_, rfl⟩
  have hm1 : n ≤ maxLen := by unfold maxLen; omega
  have hm2 : i0.bytes * n ≤ 281474976710656 := by rw [hz2]; omega
  rw [hn] at hsz hln
  have HOWN := Lib.hid hown
  have HP := Lib.hid hperm
  have HH := Lib.hid h
  have HN := Lib.hid hn
  have HL := Lib.hid hl
  have HKL := Lib.hid hkl
  have hsrt := h.srt
  have HS := Lib.hid hsrt
  clear h hperm hn hl hkl hsrt hhas hat
  go_enter Tryd.func19, Tryd.ntmps19
  go_upto_region 1 with fail
  go_upto_region 2 with (first
    | (at_len; go_loud (refine wpList_len_own _ rfl _ 52 rfl 9 36 Tryd.underlying52 _ mp N D rfl HOWN.out ?_; rw [hsz]))
    | (at_make; go_loud (refine wpList_make_own _ rfl _ _ 42 rfl w.heap.size 45 i0 (.agg #[.string ⟨#[]⟩, .slice none 0 0]) 2 Tryd.underlying42 hi hz0 hz1 .i64 .i64 (n : Int) n rfl rfl rfl hm2 hm1 (Nat.le_refl _) ?_; intro w1 hown1 hgr1; have b1 := (Below.refl w.heap.size w).grown hgr1 (Nat.le_refl _) (fun b hb => by cases hb); have B1 := Lib.hid b1; have O1 := Lib.hid hown1; have c1 : w1.cell? ⟨p, 0, none⟩ = some (.map (some mp)) := ((HH.out.below b1).blk.cell 0).trans rfl; have hS := sorted_names (HOWN.out.kept (fi_grown_none b1) (by simp)) (by rw [hsz]; exact hln) HS.out HP.out HN.out; clear hown1 hgr1 b1)))
  go_wp2_with (first
    | (go_at_call 26; refine (fikeys_any _ _).mono ?_; rintro e w2 ⟨rfl, rfl⟩)
    | (go_at_call 25; refine hS.mono ?_; clear hS; rintro e w3 ⟨a3, c3, rfl, b3, hc3⟩))
  have B2 := Lib.hid (show Below w.heap.size w w3 from B1.out.trans (b3.mono B1.out.size))
  have HA3 := Lib.hid ((HH.out.wider (G := fun b => b < w.heap.size) fun b hb _ => hb).below B2.out)
  have h1s : w.heap.size < w1.heap.size := (fi_row_lt O1.out rfl).2
  have HC3 := Lib.hid (show 0 < n → ∃ g, a3 = some ⟨g, 0, none⟩ ∧ w.heap.size < g ∧ g < w3.heap.size ∧ ∀ j (h : j < l.length), w3.cell? ⟨g, j, none⟩ = some (.string (txt l[j].1)) from fun h0 => by
    obtain ⟨g, rfl, hg1, h2⟩ := hc3 h0
    exact ⟨g, rfl, Nat.lt_of_lt_of_le h1s hg1, h2⟩)
  have HO3 := Lib.hid (show FsOwn 45 (fun b => w.heap.size ≤ b) w3 w.heap.size (.slice (some ⟨w.heap.size, 0, none⟩) 0 n) [] from ⟨[], rfl, fi_row_below O1.out b3, fun x hx => by cases hx⟩)
  clear b3 hc3 hown c1
  go_loopw [3, 19] (fun vv i wr => ∃ (j : Nat), j ≤ n ∧ i = .int .i64 j ∧ FsOwn 45 (fun b => w.heap.size ≤ b) wr w.heap.size vv (l.take j) ∧ Turn (fun b => b = w.heap.size) w3 wr ∧ ∀ b, vv.ownBlock = some b → b = w.heap.size ∨ w3.heap.size ≤ b) (fun _ i _ => n - (intOf i).toNat)
  case atStart => exact ⟨0, by omega, rfl, HO3.out, Turn.of_below (Below.refl _ _), fun b hb => .inl (by have e : some w.heap.size = some b := hb; injection e with e; exact e.symm)⟩
  case round =>
    obtain ⟨j, hj, rfl, hO, hb, how⟩ := hrel
    have hlen : (l.take j).length = j := by rw [List.length_take, HN.out]; omega
    obtain ⟨va, vc, rfl⟩ := hO.form
    rw [hlen] at hO how ⊢
    have HO := Lib.hid hO
    have Hb := Lib.hid hb
    have HW := Lib.hid how
    clear hO hb how
    by_cases hlt : j < n
    · have hjl : j < l.length := by rw [HN.out]; exact hlt
      obtain ⟨g, rfl, hg1, hg, hcell⟩ := HC3.out (by omega)
      have e0 := (World.cell?_of_block (a := ⟨g, j, none⟩) (Hb.out.block g hg (by omega))).trans (hcell j hjl)
      have hgl : gl l l[j].1 = l[j].2 := by unfold gl; rw [lines_at j hjl HS.out]; rfl
      have hC := filines_any l[j].1 (HA3.out.turn Hb.out fun b _ h e => by omega) (HKL.out _ (List.getElem_mem hjl)) (by rw [hgl]; exact Nat.le_trans (HL.out _ (List.getElem_mem hjl)) (by decide))
      rw [hgl] at hC
      have htk : l.take (j + 1) = l.take j ++ [l[j]] := by simp
      generalize l[j] = f at e0 hC htk
      obtain ⟨x, ls⟩ := f
      simp only at e0 hC htk
      obtain ⟨m, hm⟩ : ∃ m, ls.length = m := ⟨_, rfl⟩
      have HM := Lib.hid hm
      have HTK := Lib.hid htk
      obtain ⟨L, hL1, hL2, hL3⟩ := HO.out
      rw [hlen] at hL2
      have HL1 := Lib.hid hL1
      have HL2 := Lib.hid hL2
      have HL3 := Lib.hid hL3
      have HLE := Lib.hid hlen
      have hji : (j : Int) < (n : Int) := by omega
      have hj0 : (0 : Int) ≤ (j : Int) := by omega
      have Wj : IntKind.i64.wrap ((j : Int) + 1) = (j : Int) + 1 := IntWalk.i64_in _ (by omega)
      have m4 : j + 1 ≤ maxLen := by unfold maxLen; omega
      have m5 : (j + 1) * 40 ≤ 140737488355328 := by omega
      have HLO := Lib.hid (Nat.le_trans B2.out.size Hb.out.size)
      clear hcell hgl htk hL1 hL2 hL3 hlen hm
      go_wp2_with (first
        | (go_at_call 20; refine hC.mono ?_; clear hC; rintro e w5 ⟨v5, rfl, h5⟩; obtain ⟨a5, c5, rfl, _⟩ := fi_row_cells h5.1; (rw [HM.out]); have H5 := Lib.hid h5; clear h5)
        | (at_builtin; go_loud (refine wpList_append_any _ rfl _ _ 42 rfl w.heap.size 45 i0 (.agg #[.string ⟨#[]⟩, .slice none 0 0]) 2 40 Tryd.underlying42 hi hz0 hz1 hz2 rfl (by decide) (.slice va j vc) j (flC L) rfl (fi_row_below HL2.out ((H5.out.2.alloc H5.out.2.size _))) (some ⟨w5.heap.size, 0, none⟩) 1 1 [.string (txt x), .slice a5 m c5] rfl rfl (fun _ => ⟨_, rfl, fi_news2 _ _ _ _⟩) (by simp [Value.oneCell']) m4 m5 (Nat.le_trans HLO.out (H5.out.2.alloc H5.out.2.size _).size) ?_; intro v7 w7 hown7 hgr7 hat7)))
      have HF7 := Lib.hid (show FsOwn 45 (fun b => w.heap.size ≤ b) w7 w.heap.size v7 (l.take (j + 1)) ∧ Turn (fun b => b = w.heap.size) w3 w7 ∧ ∀ b, v7.ownBlock = some b → b = w.heap.size ∨ w3.heap.size ≤ b by
        have b5 : Below wr.heap.size wr (w5.alloc (.cells #[.string (txt x), .slice a5 m c5] 45)) := H5.out.2.alloc H5.out.2.size _
        have hx : (w5.alloc (.cells #[.string (txt x), .slice a5 m c5] 45)).ownsRow w.heap.size 9 1 (.slice a5 m c5) m (lnC ls) := by
          have h := fi_row_mono (fi_row_below H5.out.1 ((Below.refl _ w5).alloc (Nat.le_refl _) (.cells #[.string (txt x), .slice a5 m c5] 45))) HLO.out
          rw [HM.out] at h
          exact h
        rw [HTK.out]
        refine ⟨FsOwn.push (f := (x, ls)) (by decide) (LnG.base (by simp only; rw [HM.out]; exact hx)) HL1.out (fun y hy => (HL3.out y hy).below b5) (by rw [HLE.out]; exact fi_row_below HL2.out b5) (by rw [HLE.out]; exact hown7) hgr7, ?_⟩
        refine ⟨(Hb.out.trans (Turn.of_below (F := fun b => b = w.heap.size) b5) fun _ h _ => h).trans (Turn.of_grown (F := fun b => b = w.heap.size ∨ w3.heap.size ≤ b) hgr7 fun b e _ => HW.out b e) fun b h hl => h.resolve_right (by omega), fun b hb => ?_⟩
        rcases hat7 with e | e
        · exact HW.out b (e.symm.trans hb)
        · rw [e] at hb
          injection hb with hb
          have h1 := Hb.out.size
          have h2 := b5.size
          exact .inr (by omega))
      have hv7 := HF7.out.1.form
      rw [HTK.out, List.length_append, HLE.out, List.length_singleton] at hv7
      obtain ⟨a7, c7, rfl⟩ := hv7
      clear hown7 hgr7 hat7
      go_wp2_with fail
      go_roundw
      case rel => exact ⟨j + 1, by omega, by go_num, HF7.out.1, HF7.out.2.1, HF7.out.2.2⟩
      case measure => simp [intOf]; omega
    · obtain rfl : n = j := by omega
      have hO := HO.out
      rw [show l.take n = l by rw [← HN.out, List.take_length]] at hO
      have HZ := Lib.hid (And.intro hO (B2.out.trans (Hb.out.below B2.out.size fun b e => Nat.le_of_eq e.symm)))
      clear hO
      go_wp2_with fail
      go_ret
      exact ⟨_, rfl, HZ.out⟩
end Go.Proofs.YtnognicabhgmcaaDoor
