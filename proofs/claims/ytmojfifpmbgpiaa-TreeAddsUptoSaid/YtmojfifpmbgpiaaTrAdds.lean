/- TreeAdds, walked. -/
import Derived.Test.YtmojfifpmbgpiaaTrSets
import Derived.Test.YtmojfifpmbgpiaaNdSame
import Derived.Test.YtmojfifpmbgpiaaNdJoinP
namespace Go.Proofs.Ytmojfifpmbgpiaa
open Go Go.RowKit

theorem NdX.wide {F : Nat → Prop} {w : World} {d : Nd} {v : Value} (h : NdX F w d v) : NdX (fun _ => True) w d v := h.keep (Nat.le_refl _) (fun _ _ _ => ⟨trivial, fun _ => rfl⟩)
theorem two_nd {w : World} {D E : Nd} {x y : Value} (hx : NdX (fun _ => True) w D x) (hy : NdX (fun _ => True) w E y) : ∀ i (_ : i < [D, E].length) (_ : i < [x, y].length), NdX (fun _ => True) w [D, E][i] [x, y][i]
  | 0, _, _ => hx
  | 1, _, _ => hy
theorem one_nd {w : World} {D : Nd} {x : Value} (hx : NdX (fun _ => True) w D x) : ∀ i (_ : i < [D].length) (_ : i < [x].length), NdX (fun _ => True) w [D][i] [x][i]
  | 0, _, _ => hx
theorem two_index0 (j c : Value) (hj : (∃ T p, j = .iface T p) ∨ j = .nilIface) (hc : (∃ T p, c = .iface T p) ∨ c = .nilIface) (w : World) : (Instr.index 50 (.agg #[j, c]) (.int .i64 0)).run Try.prog w = .ok j w := by
  rcases hj with ⟨T, p, rfl⟩ | rfl <;> rcases hc with ⟨U, q, rfl⟩ | rfl <;> kernel_rfl
theorem two_index1 (j c : Value) (hj : (∃ T p, j = .iface T p) ∨ j = .nilIface) (hc : (∃ T p, c = .iface T p) ∨ c = .nilIface) (w : World) : (Instr.index 50 (.agg #[j, c]) (.int .i64 1)).run Try.prog w = .ok c w := by
  rcases hj with ⟨T, p, rfl⟩ | rfl <;> rcases hc with ⟨U, q, rfl⟩ | rfl <;> kernel_rfl
set_option linter.unusedSimpArgs false in
set_option maxRecDepth 100000 in
set_option maxHeartbeats 8000000 in
theorem adds_all (n m : Nat) (t u : Tr) (a b : Option Addr) (ca cb : Nat) (w : World) (ht : TrAt n w t a ca) (hu : TrAt m w u b cb) (h1 : tall t + tall u ≤ 1048576) :
    Calls Try.prog 7 #[tV t a ca, tV u b cb] w fun e w' => e = .returned (.bool true) ∧ Below w.heap.size w w' := by
  have hT := (Blk.new w (tC t a ca) 27 _ rfl).alloc (.cells (tC u b cb) 27)
  have hU := Blk.new (w.alloc (.cells (tC t a ca) 27)) (tC u b cb) 27 (w.heap.size + 1) (by simp)
  have hB := ((Below.refl w.heap.size w).alloc (Nat.le_refl _) (.cells (tC t a ca) 27)).alloc (by simp) (.cells (tC u b cb) 27)
  obtain ⟨f1, hF1⟩ := few_all ht (by omega) 100 100 rfl
  obtain ⟨f2, hF2⟩ := few_all hu (by omega) 100 100 rfl
  obtain ⟨N, hN⟩ := trd_of ht
  obtain ⟨M, hM⟩ := trd_of hu
  have hR1 := fun (w' : World) (hb : Below w.heap.size w w') => lreal_any N t a ca w' (hN.below hb) (tall_size t (by omega))
  have hR2 := fun (w' : World) (hb : Below w.heap.size w w') => lreal_any M u b cb w' (hM.below hb) (tall_size u (by omega))
  have hs1 := nsize_tall t
  have hs2 := nsize_tall u
  clear hN hM ht hu
  generalize hD : canon t = D at hR1 hs1
  generalize hE : canon u = E at hR2 hs2
  have hsz : nsize D + nsize E ≤ 2097152 := by omega
  clear hD hE hs1 hs2 h1
  unfold tV at hF1 hF2 hR1 hR2 ⊢
  go_enter Try.func7, Try.ntmps7
  go_wp2_with fail
  refine (awake_any _).mono ?_
  rintro e w1 ⟨rfl, b1⟩
  replace hB := hB.trans (b1.mono hB.size)
  replace hT := hT.below b1 hT.lt
  replace hU := hU.below b1 hU.lt
  have hc := blk9c hT
  clear b1
  cases f1
  · go_wp2_with (first | (go_at_call 9; refine (hF1 _ hB).mono ?_; rintro e w2 ⟨rfl, b2⟩; replace hB := hB.trans (b2.mono hB.size)) | (go_at_call 8; refine (awake_any _).mono ?_; rintro e w3 ⟨rfl, b3⟩))
    go_ret
    exact ⟨rfl, hB.trans (b3.mono hB.size)⟩
  · go_wp2_with (go_at_call_of 9 (Tr.kind t); refine (hF1 _ hB).mono ?_; rintro e w2 ⟨rfl, b2⟩; replace hB := hB.trans (b2.mono hB.size); replace hT := hT.below b2 hT.lt; replace hU := hU.below b2 hU.lt; clear hc; have hd := blk9c hU)
    cases f2
    · go_wp2_with (first | (go_at_call 9; refine (hF2 _ hB).mono ?_; rintro e w3 ⟨rfl, b3⟩; replace hB := hB.trans (b3.mono hB.size)) | (go_at_call 8; refine (awake_any _).mono ?_; rintro e w4 ⟨rfl, b4⟩))
      go_ret
      exact ⟨rfl, hB.trans (b4.mono hB.size)⟩
    · refine (hF2 _ hB).mono ?_
      rintro e w3 ⟨rfl, b3⟩
      replace hB := hB.trans (b3.mono hB.size)
      replace hT := hT.below b3 hT.lt
      replace hU := hU.below b3 hU.lt
      clear b2 b3 hd hF1 hF2
      have hlT := hT.lt
      have hlU := hU.lt
      have hc := blk9c hT
      have hd := blk9c hU
      go_upto_region 3 with fail
      go_cut [5, 6] from 24 (fun x y wx => ∃ Tx vx Ty vy, x = .iface Tx vx ∧ y = .iface Ty vy ∧ NdX (fun _ => True) wx D (.iface Tx vx) ∧ NdX (fun _ => True) wx E (.iface Ty vy) ∧ Below w.heap.size w wx)
      case first =>
        go_region_with (first
          | (go_at_call_of 10 (Tr.kind t); refine (hR1 _ (by first | exact hX9 | exact Below.drew hB)).mono ?_; rintro r w8 ⟨Tx, vx, rfl, hn1, b8⟩; have hX8 : Below w.heap.size w w8 := (by first | exact hX9.trans (b8.mono hX9.size) | exact (Below.drew hB).trans (b8.mono (Below.drew hB).size)); have hU8 := (by first | exact hU.below (Below.trans bY9 b8) (by first | exact hlU | exact hlU) | exact Blk.below (Blk.drew hU) b8 hlU); have hd8 := blk9c hU8; (try have hn2' := hn2.below b8))
          | (go_at_call_of 10 (Tr.kind u); refine (hR2 _ (by first | exact hX8 | exact Below.drew hB)).mono ?_; rintro r w9 ⟨Ty, vy, rfl, hn2, b9⟩; have hX9 : Below w.heap.size w w9 := (by first | exact hX8.trans (b9.mono hX8.size) | exact (Below.drew hB).trans (b9.mono (Below.drew hB).size)); (try have hT9 := Blk.below (Blk.drew hT) b9 hlT); (try have hc9 := blk9c hT9); (try have hn1' := hn1.below b9)))
        all_goals go_wp2_with fail
        all_goals go_meet
        all_goals first
          | exact ⟨_, _, _, _, rfl, rfl, ⟨_, NdAt.wider (fun _ _ _ => trivial) _ _ _ hn1'⟩, ⟨_, NdAt.wider (fun _ _ _ => trivial) _ _ _ hn2⟩, hX9⟩
          | exact ⟨_, _, _, _, rfl, rfl, ⟨_, NdAt.wider (fun _ _ _ => trivial) _ _ _ hn1⟩, ⟨_, NdAt.wider (fun _ _ _ => trivial) _ _ _ hn2'⟩, hX8⟩
      case rest =>
        clear hR1 hR2 hT hU hB hc hd
        obtain ⟨Tx, vx, Ty, vy, rfl, rfl, hx, hy, hB⟩ := hcut
        have hsa := (nsize_join D E)
        have hsb := (nsize_choose D E)
        have hja : (jflat [D, E]).length ≤ 4000000 := by have := jflat_len [D, E]; simp [nsizes] at this; omega
        have hjb : (cflat [D, E]).length ≤ 4000000 := by have := cflat_len [D, E]; simp [nsizes] at this; omega
        have hb1 := Below.alloc (Below.refl wc.heap.size wc) (Nat.le_refl _) (.cells #[.iface Tx vx, .iface Ty vy] 31)
        have hr1 := ndrw_of_blk (F := fun _ => True) (vs := [.iface Tx vx, .iface Ty vy]) (l := [D, E]) (Blk.new wc #[.iface Tx vx, .iface Ty vy] 31 wc.heap.size rfl) rfl (show 2 ≤ maxLen by decide) (two_nd (hx.below hb1) (hy.below hb1)) trivial
        go_upto_region 5 with (first
          | (go_at_call 24; refine (pjoin_any [D, E] _ _ _ hr1 hja).mono ?_; rintro r w5 ⟨j, rfl, hj, b5⟩; replace hj := NdX.wide hj; replace hb1 := hb1.trans (b5.mono hb1.size); replace hB := hB.trans (hb1.mono hB.size); replace hx := hx.below hb1; replace hy := hy.below hb1; clear hb1 b5 hr1; have hb2 := Below.alloc (Below.refl w5.heap.size w5) (Nat.le_refl _) (.cells #[.iface Tx vx, .iface Ty vy] 31); have hr2 := ndrw_of_blk (F := fun _ => True) (vs := [.iface Tx vx, .iface Ty vy]) (l := [D, E]) (Blk.new w5 #[.iface Tx vx, .iface Ty vy] 31 w5.heap.size rfl) rfl (show 2 ≤ maxLen by decide) (two_nd (hx.below hb2) (hy.below hb2)) trivial)
          | (go_at_call 26; refine (pchoose_any [D, E] _ _ _ hr2 hjb).mono ?_; rintro r w6 ⟨c, rfl, hc, b6⟩; replace hc := NdX.wide hc; replace hb2 := hb2.trans (b6.mono hb2.size); replace hB := hB.trans (hb2.mono hB.size); replace hx := hx.below hb2; replace hy := hy.below hb2; replace hj := hj.below hb2; clear hb2 b6 hr2))
        have hgd := (join_two D E)
        have hgc := (choose_two D E)
        have hag := @join_again D E
        have hca := @choose_again D E
        have hB6 := Below.refl w6.heap.size w6
        have hzx : nsize D ≤ 4000000 := by omega
        have hzy : nsize E ≤ 4000000 := by omega
        have hzj : nsize (njoin [D, E]) ≤ 4000000 := by omega
        have hzc : nsize (nchoose [D, E]) ≤ 4000000 := by omega
        have hG1 := fun (w' : World) (hb : Below w6.heap.size w6 w') => pgroups_any D _ w' (ndx_in (hx.below hb)) hzx
        have hG2 := fun (w' : World) (hb : Below w6.heap.size w6 w') => pgroups_any E _ w' (ndx_in (hy.below hb)) hzy
        have hG3 := fun (w' : World) (hb : Below w6.heap.size w6 w') => pgroups_any _ j w' (ndx_in (hj.below hb)) hzj
        have hG4 := fun (w' : World) (hb : Below w6.heap.size w6 w') => pgroups_any _ c w' (ndx_in (hc.below hb)) hzc
        have hK1 := fun (w' : World) (hb : Below w6.heap.size w6 w') => pbacks_any D _ w' (ndx_in (hx.below hb)) hzx
        have hK2 := fun (w' : World) (hb : Below w6.heap.size w6 w') => pbacks_any E _ w' (ndx_in (hy.below hb)) hzy
        have hK3 := fun (w' : World) (hb : Below w6.heap.size w6 w') => pbacks_any _ j w' (ndx_in (hj.below hb)) hzj
        have hK4 := fun (w' : World) (hb : Below w6.heap.size w6 w') => pbacks_any _ c w' (ndx_in (hc.below hb)) hzc
        have hD1 := fun (w' : World) (hb : Below w6.heap.size w6 w') => pdeep_any D _ w' (ndx_in (hx.below hb)) hzx
        have hD2 := fun (w' : World) (hb : Below w6.heap.size w6 w') => pdeep_any E _ w' (ndx_in (hy.below hb)) hzy
        have hD3 := fun (w' : World) (hb : Below w6.heap.size w6 w') => pdeep_any _ j w' (ndx_in (hj.below hb)) hzj
        have hD4 := fun (w' : World) (hb : Below w6.heap.size w6 w') => pdeep_any _ c w' (ndx_in (hc.below hb)) hzc
        rw [hgd.1] at hG3
        rw [hgd.2.1] at hK3
        rw [hgd.2.2] at hD3
        rw [hgc.1] at hG4
        rw [hgc.2.1] at hK4
        rw [hgc.2.2] at hD4
        have hgx := ngroups_size D
        have hgy := ngroups_size E
        clear hgd hgc
        generalize ngroups D = gx at *
        generalize ngroups E = gy at *
        generalize nbacks D = bx at *
        generalize nbacks E = by' at *
        generalize ndeep D = dx at *
        generalize ndeep E = dy at *
        generalize Value.iface Tx vx = x at *
        generalize Value.iface Ty vy = y at *
        go_cut [36, 37, 38, 39] from 40 (fun _ _ arr i wx => arr = .agg #[j, c] ∧ i = .int .i64 0 ∧ wx = w6)
        case first =>
          rcases hj.elim fun _ h => nd_shape h with ⟨Tj, vj, rfl⟩ | rfl <;> rcases hc.elim fun _ h => nd_shape h with ⟨Tc, vc, rfl⟩ | rfl
          all_goals go_wp2_with fail
          all_goals go_meet
          all_goals exact ⟨rfl, rfl, rfl⟩
        case rest =>
          obtain ⟨rfl, rfl, rfl⟩ := hcut
          have hi0 := two_index0 j c (hj.elim fun _ h => nd_shape h) (hc.elim fun _ h => nd_shape h)
          have hi1 := two_index1 j c (hj.elim fun _ h => nd_shape h) (hc.elim fun _ h => nd_shape h)
          go_wp2_with fail
          go_loopw [39] (fun i wr => ∃ k : Nat, k ≤ 2 ∧ i = .int .i64 k ∧ Below wc.heap.size wc wr) (fun i _ => 2 - (intOf i).toNat)
          case atStart => exact ⟨0, by omega, rfl, Below.refl _ _⟩
          case round =>
            obtain ⟨k, hk, rfl, hB7⟩ := hrel
            have hw1 : IntKind.i64.wrap ((gx : Int) + (gy : Int)) = ((gx + gy : Nat) : Int) := by rw [IntWalk.i64_in _ (by omega)]; omega
            rcases (show k = 0 ∨ k = 1 ∨ k = 2 by omega) with rfl | rfl | rfl
            · clear hG4 hK4 hD4
              go_wp2_with (first | (go_at_call_of 17 j; refine (hG3 _ hB7).mono ?_; rintro r w9 ⟨rfl, b9⟩; replace hB7 := hB7.trans (b9.mono hB7.size); clear b9) | (go_at_call_of 17 x; refine (hG1 _ hB7).mono ?_; rintro r w9 ⟨rfl, b9⟩; replace hB7 := hB7.trans (b9.mono hB7.size); clear b9) | (go_at_call_of 17 y; refine (hG2 _ hB7).mono ?_; rintro r w9 ⟨rfl, b9⟩; replace hB7 := hB7.trans (b9.mono hB7.size); clear b9) | (go_at_call_of 19 j; refine (hK3 _ hB7).mono ?_; rintro r w9 ⟨rfl, b9⟩; replace hB7 := hB7.trans (b9.mono hB7.size); clear b9) | (go_at_call_of 19 x; refine (hK1 _ hB7).mono ?_; rintro r w9 ⟨rfl, b9⟩; replace hB7 := hB7.trans (b9.mono hB7.size); clear b9) | (go_at_call_of 19 y; refine (hK2 _ hB7).mono ?_; rintro r w9 ⟨rfl, b9⟩; replace hB7 := hB7.trans (b9.mono hB7.size); clear b9) | (go_at_call_of 15 j; refine (hD3 _ hB7).mono ?_; rintro r w9 ⟨rfl, b9⟩; replace hB7 := hB7.trans (b9.mono hB7.size); clear b9) | (go_at_call_of 15 x; refine (hD1 _ hB7).mono ?_; rintro r w9 ⟨rfl, b9⟩; replace hB7 := hB7.trans (b9.mono hB7.size); clear b9) | (go_at_call_of 15 y; refine (hD2 _ hB7).mono ?_; rintro r w9 ⟨rfl, b9⟩; replace hB7 := hB7.trans (b9.mono hB7.size); clear b9))
              all_goals exact ⟨⟨1, by omega, rfl, hB7⟩, by simp [intOf]⟩
            · clear hG3 hK3 hD3
              go_wp2_with (first | (go_at_call_of 17 c; refine (hG4 _ hB7).mono ?_; rintro r w9 ⟨rfl, b9⟩; replace hB7 := hB7.trans (b9.mono hB7.size); clear b9) | (go_at_call_of 17 x; refine (hG1 _ hB7).mono ?_; rintro r w9 ⟨rfl, b9⟩; replace hB7 := hB7.trans (b9.mono hB7.size); clear b9) | (go_at_call_of 17 y; refine (hG2 _ hB7).mono ?_; rintro r w9 ⟨rfl, b9⟩; replace hB7 := hB7.trans (b9.mono hB7.size); clear b9) | (go_at_call_of 19 c; refine (hK4 _ hB7).mono ?_; rintro r w9 ⟨rfl, b9⟩; replace hB7 := hB7.trans (b9.mono hB7.size); clear b9) | (go_at_call_of 19 x; refine (hK1 _ hB7).mono ?_; rintro r w9 ⟨rfl, b9⟩; replace hB7 := hB7.trans (b9.mono hB7.size); clear b9) | (go_at_call_of 19 y; refine (hK2 _ hB7).mono ?_; rintro r w9 ⟨rfl, b9⟩; replace hB7 := hB7.trans (b9.mono hB7.size); clear b9) | (go_at_call_of 15 c; refine (hD4 _ hB7).mono ?_; rintro r w9 ⟨rfl, b9⟩; replace hB7 := hB7.trans (b9.mono hB7.size); clear b9) | (go_at_call_of 15 x; refine (hD1 _ hB7).mono ?_; rintro r w9 ⟨rfl, b9⟩; replace hB7 := hB7.trans (b9.mono hB7.size); clear b9) | (go_at_call_of 15 y; refine (hD2 _ hB7).mono ?_; rintro r w9 ⟨rfl, b9⟩; replace hB7 := hB7.trans (b9.mono hB7.size); clear b9))
              all_goals exact ⟨⟨2, by omega, rfl, hB7⟩, by simp [intOf]⟩
            · clear hG1 hK1 hD1 hG2 hK2 hD2 hG3 hK3 hD3 hG4 hK4 hD4 hw1
              have hP1 := fun (w' : World) (hb : Below wc.heap.size wc w') => pright_any D x w' (ndx_in (hx.below hb)) hzx
              have hP2 := fun (w' : World) (hb : Below wc.heap.size wc w') => pright_any E y w' (ndx_in (hy.below hb)) hzy
              cases hrx : nrightB D
              · rw [hrx] at hP1
                go_wp2_with (first | (go_at_call_of 11 x; refine (hP1 _ hB7).mono ?_; rintro r w9 ⟨rfl, b9⟩; replace hB7 := hB7.trans (b9.mono hB7.size); clear b9))
                go_ret
                exact ⟨rfl, hB.trans (hB7.mono hB.size)⟩
              · rw [hrx] at hP1
                cases hry : nrightB E
                · rw [hry] at hP2
                  go_wp2_with (first | (go_at_call_of 11 x; refine (hP1 _ hB7).mono ?_; rintro r w9 ⟨rfl, b9⟩; replace hB7 := hB7.trans (b9.mono hB7.size); clear b9) | (go_at_call_of 11 y; refine (hP2 _ hB7).mono ?_; rintro r w9 ⟨rfl, b9⟩; replace hB7 := hB7.trans (b9.mono hB7.size); clear b9))
                  go_ret
                  exact ⟨rfl, hB.trans (hB7.mono hB.size)⟩
                · rw [hry] at hP2
                  have hje := Lib.hid (join_eq hrx hry)
                  have hce := Lib.hid (choose_eq hrx hry)
                  clear hrx hry
                  have hl1 : (jflat [njoin [D, E]]).length ≤ 4000000 := by have := jflat_len [njoin [D, E]]; simp [nsizes] at this; omega
                  have hl2 : (cflat [nchoose [D, E]]).length ≤ 4000000 := by have := cflat_len [nchoose [D, E]]; simp [nsizes] at this; omega
                  clear hi0 hi1
                  have hs1 := Lib.hid (nsame_refl (njoin [D, E]))
                  have hs2 := Lib.hid (nsame_refl (nchoose [D, E]))
                  generalize njoin [D, E] = J at *
                  generalize nchoose [D, E] = C at *
                  clear hag hca hx hy
                  rcases hj.elim fun _ h => nd_shape h with ⟨Tj, vj, rfl⟩ | rfl <;> rcases hc.elim fun _ h => nd_shape h with ⟨Tc, vc, rfl⟩ | rfl
                  all_goals go_wp2_with (first
                    | (go_at_call_of 11 x; refine (hP1 _ hB7).mono ?_; rintro r w9 ⟨rfl, b9⟩; replace hB7 := hB7.trans (b9.mono hB7.size); clear b9)
                    | (go_at_call_of 11 y; refine (hP2 _ hB7).mono ?_; rintro r w9 ⟨rfl, b9⟩; replace hB7 := hB7.trans (b9.mono hB7.size); clear b9)
                    | (go_at_call 24; refine (pjoin_any [J] _ _ _ (ndrw_of_blk (F := fun _ => True) (vs := [_]) (Blk.new _ _ _ _ rfl) rfl (show 1 ≤ maxLen by decide) (one_nd (hj.below (hB7.alloc hB7.size _))) trivial) hl1).mono ?_; rintro r w10 ⟨jj, rfl, hjj, b9⟩; rw [hje.out] at hjj; replace hB7 := (hB7.alloc hB7.size _).trans (b9.mono (hB7.alloc hB7.size _).size); clear b9)
                    | (go_at_call 26; refine (pchoose_any [C] _ _ _ (ndrw_of_blk (F := fun _ => True) (vs := [_]) (Blk.new _ _ _ _ rfl) rfl (show 1 ≤ maxLen by decide) (one_nd (hc.below (hB7.alloc hB7.size _))) trivial) hl2).mono ?_; rintro r w11 ⟨cc, rfl, hcc, b9⟩; rw [hce.out] at hcc; replace hB7 := (hB7.alloc hB7.size _).trans (b9.mono (hB7.alloc hB7.size _).size); clear b9)
                    | (go_at_call_of 21 jj; refine (psame_any J J jj _ w10 hjj (ndx_in (hj.below hB7)) hzj).mono ?_; rw [hs1.out]; rintro e w12 ⟨rfl, b9⟩; replace hB7 := hB7.trans (b9.mono hB7.size); clear b9)
                    | (go_at_call_of 21 cc; refine (psame_any C C cc _ w11 hcc (ndx_in (hc.below hB7)) hzc).mono ?_; rw [hs2.out]; rintro e w13 ⟨rfl, b9⟩; replace hB7 := hB7.trans (b9.mono hB7.size); clear b9))
                  all_goals go_ret
                  all_goals exact ⟨rfl, hB.trans (hB7.mono hB.size)⟩
end Go.Proofs.Ytmojfifpmbgpiaa
