/- TreeJoins, walked. -/
import Derived.Test.YtaekjcbgnlldoaaTrAwake
import Derived.Test.YtaekjcbgnlldoaaTrReal
import Derived.Test.YtaekjcbgnlldoaaTrFew
import Derived.Test.YtaekjcbgnlldoaaTrIs
import Derived.Test.YtaekjcbgnlldoaaNdJoinP
import Derived.Deep.RegionHeld3
namespace Go.Proofs.Ytaekjcbgnlldoaa
open Go Go.RowKit

theorem nsizes_flat (f : Nd → List Nd) (hf : ∀ d, nsizes (f d) ≤ nsize d) (l : List Nd) : nsizes (l.flatMap f) ≤ nsizes l := by
  induction l with
  | nil => simp [nsizes]
  | cons d ds ih => rw [List.flatMap_cons, nsizes_append, nsizes]; have := hf d; omega
theorem njoin_size (l : List Nd) : nsize (njoin l) ≤ 1 + nsizes l := by
  have h := nsizes_flat jpart nsizes_jpart l
  unfold njoin jflat
  generalize l.flatMap jpart = m at h ⊢
  rcases m with _ | ⟨x, _ | ⟨y, ys⟩⟩
  · simp [nsize]
  · simp [nsizes] at h; show nsize x ≤ _; omega
  · show nsize (.cat (x :: y :: ys)) ≤ _; rw [nsize]; omega
theorem nchoose_size (l : List Nd) : nsize (nchoose l) ≤ 1 + nsizes l := by
  have h := nsizes_flat cpart nsizes_cpart l
  unfold nchoose cflat
  generalize l.flatMap cpart = m at h ⊢
  rcases m with _ | ⟨x, _ | ⟨y, ys⟩⟩
  · simp [nsize]
  · simp [nsizes] at h; show nsize x ≤ _; omega
  · show nsize (.alt (x :: y :: ys)) ≤ _; rw [nsize]; omega
theorem njoin_empty (l : List Nd) : njoin (l ++ [.empty]) = njoin l := by
  unfold njoin jflat
  rw [List.flatMap_append]
  simp [jpart]
theorem nsizes_canons (l : List Tr) : nsizes (l.map canon) ≤ 2 * talls l := by rw [← canons_map]; exact nsizes_talls l
theorem few_both {n : Nat} {w : World} {t : Tr} {a : Option Addr} {cap : Nat} (h : TrAt n w t a cap) (hb : tall t ≤ 1048576) (most : Int) (k : Nat) (hk : (k : Int) = most) :
    ∃ f : Bool, (f = true → tall t ≤ k ∧ tknown t = true) ∧ ∀ w', Below w.heap.size w w' → Calls Try.prog 7 #[tV t a cap, .int .i64 most] w' fun e w2 => e = .returned (.bool f) ∧ Below w'.heap.size w' w2 := by
  subst hk
  exact ⟨_, fun h => ⟨of_decide_eq_true (Bool.and_eq_true_iff.1 h).1, (Bool.and_eq_true_iff.1 h).2⟩, fun w' hw => lfew_any n t a cap k w' (TrAt.below hw _ _ _ _ h) (by omega)⟩
/-- A node of the program's beside one of the document's. -/
abbrev ReadU (w4 : World) (p : Nat) (t : Tr) (a : Option Addr) (ca : Nat) (q oq : Nat) (u : Value) (w' : World) : Prop := w'.cell? ⟨q, oq, none⟩ = some u ∧ ReadI w4 p t a ca w'
theorem readU_drew {w4 : World} {p : Nat} {t : Tr} {a : Option Addr} {ca q oq : Nat} {u : Value} {w' : World} (h : ReadU w4 p t a ca q oq u w') : ReadU w4 p t a ca q oq u w'.drew := ⟨h.1, readI_drew h.2⟩
theorem readU_step {w4 : World} {p : Nat} {t : Tr} {a : Option Addr} {ca q oq : Nat} {u : Value} {W W' : World} (hq : q < w4.heap.size) (hb : Below W.heap.size W W') (h : ReadU w4 p t a ca q oq u W) : ReadU w4 p t a ca q oq u W' :=
  ⟨(hb.cell (p := ⟨q, oq, none⟩) (Nat.lt_of_lt_of_le hq h.2.2.below.size)).trans h.1, readI_step hb h.2⟩
set_option linter.unusedSimpArgs false in
set_option maxRecDepth 100000 in
set_option maxHeartbeats 8000000 in
theorem joins_all (n : Nat) (l : List Tr) (a : Option Addr) (cap : Nat) (w : World) (ht : TrAt n w (.mk 0 oz 0 0 0 l) a cap) (hb : 1 + talls l ≤ 1048576) :
    Calls Try.prog 5 #[.slice a l.length cap] w fun e w' => e = .returned (.bool true) ∧ Below w.heap.size w w' := by
  obtain ⟨i0, hi, hz0, hz1, hz2⟩ := nd_info
  obtain ⟨f, hf, hF⟩ := few_both ht (by rw [tall]; exact hb) 200 200 rfl
  have hrw0 : TrRw (fun b => b < w.heap.size) w l a cap := (TrX.of ht).down
  obtain ⟨N, hN1, hND⟩ : ∃ N, 1 ≤ N ∧ ∀ wr, Below w.heap.size w wr → ∀ k (hk : k < l.length), ∃ b o, a = some ⟨b, o, none⟩ ∧ ∃ a' cap', Cl9 wr b (o + k * 9) l[k] a' cap' ∧ TrD N wr l[k] a' cap' ∧ TrX (fun _ => True) wr l[k] a' cap' := by
    cases n with
    | zero => exact ht.elim
    | succ n =>
      refine ⟨2 * n + 1, by omega, fun wr hV k hk => ?_⟩
      obtain ⟨b, o, rfl, hlt, hx⟩ := ht.2.2 (by show 0 < l.length; omega)
      obtain ⟨a', cap', h9, hr⟩ := hx k hk
      exact ⟨b, o, rfl, a', cap', h9.below hV hlt, ⟨n, TrAt.below hV _ _ _ _ hr, by have := kb_le l[k]; show 2 * n + kb l[k] ≤ _; omega⟩, ((TrX.of hr).below hV).wide⟩
  have hl1 := hrw0.1
  have hl2 := hrw0.2.1
  unfold maxLen at hl2
  have HD := Lib.hid hND
  have HRW := Lib.hid hrw0
  clear ht hb hND hrw0
  unfold tV at hF
  simp only [Tr.kind, Tr.set, Tr.parts, Tr.mn, Tr.mx, Tr.num, ow_zero] at hF
  have hB := Below.refl w.heap.size w
  go_enter Try.func5, Try.ntmps5
  go_wp2_with fail
  refine (awake_any _).mono ?_
  rintro e w1 ⟨rfl, b1⟩
  replace hB := hB.trans (b1.mono hB.size)
  clear b1
  by_cases hlen : 30 < l.length
  · have e1 : decide (30 < (l.length : Int)) = true := by simp; omega
    have e2 : decide (30 < l.length) = true := by simp; omega
    go_wp2_with (go_at_call 6; refine (awake_any _).mono ?_; rintro e w3 ⟨rfl, b3⟩)
    go_ret
    exact ⟨rfl, hB.trans (b3.mono hB.size)⟩
  · have e1 : decide (30 < (l.length : Int)) = false := by simp; omega
    have e2 : decide (30 < l.length) = false := by simp; omega
    cases f
    · go_wp2_with (first | (go_at_call 7; refine (hF _ hB).mono ?_; rintro e w2 ⟨rfl, b2⟩; replace hB := hB.trans (b2.mono hB.size)) | (go_at_call 6; refine (awake_any _).mono ?_; rintro e w3 ⟨rfl, b3⟩))
      go_ret
      exact ⟨rfl, hB.trans (b3.mono hB.size)⟩
    · obtain ⟨hf1, hf2⟩ := hf rfl
      have hkn : tknowns l = true := by rw [tknown] at hf2; simp at hf2; exact hf2
      have htl : talls l ≤ 200 := by rw [tall] at hf1; omega
      have HK := Lib.hid hkn
      have HT := Lib.hid htl
      clear hf hf1 hf2 hkn htl
      go_wp2_with (go_at_call 7; refine (hF _ hB).mono ?_; rintro e w2 ⟨rfl, b2⟩; replace hB := hB.trans (b2.mono hB.size))
      clear hF b2 e1 e2
      go_loopw [3, 24] (fun s i wr => ∃ (k : Nat) (us : List Value) (pv : Value), k ≤ l.length ∧ i = .int .i64 k ∧ pv = s ∧ NdOwn w2.heap.size N wr ((l.map canon).take k) pv us ∧ Below w2.heap.size w2 wr) (fun _ i _ => l.length - (intOf i).toNat)
      case atStart => exact ⟨0, [], _, by omega, rfl, rfl, NdOwn.nil _ _ _, Below.refl _ _⟩
      case round =>
        obtain ⟨k, us, pv, hk, rfl, hpv, hN, hV⟩ := hrel
        subst hpv
        by_cases hlt : k < l.length
        · obtain ⟨b, o, rfl, a', cap', h9, hr, _⟩ := HD.out wr (hB.trans (hV.mono hB.size)) k hlt
          have Htk := Lib.hid (show (l.map canon).take (k + 1) = (l.map canon).take k ++ [canon l[k]] by
            rw [List.take_succ_eq_append_getElem (by simpa using hlt), List.getElem_map])
          have hx2 : nsize (canon l[k]) ≤ 4000000 := by have h1 := nsize_tall l[k]; have h2 := tall_mem l k hlt; have := HT.out; omega
          obtain ⟨c0, c1, c2, c3, c4, c5, c6, c7, c8⟩ := h9
          generalize l[k] = x at *
          have hI := lreal_any N x a' cap' _ (hr.below ((Below.refl wr.heap.size wr).alloc (Nat.le_refl _) (.cells (tC x a' cap') 27))) hx2
          unfold tV at hI
          go_wp2_with fail
          refine hI.mono ?_
          rintro e w3 ⟨T, u, rfl, hu, b3⟩
          have hbw : Below wr.heap.size wr w3 := ((Below.refl wr.heap.size wr).alloc (Nat.le_refl _) _).trans (b3.mono (by simp))
          have hN2 := hN.below hbw
          have hlt2 := hN.lt
          have hu2 : NdAt (fun b => w2.heap.size ≤ b ∧ pv.ownBlock ≠ some b) N w3 (canon x) (.iface T u) := NdAt.wider (fun b hb _ => by
            simp at hb
            have := hV.size
            exact ⟨by omega, fun he => by have := hlt2 b he; omega⟩) _ _ _ hu
          have hV2 := hV.trans (hbw.mono hV.size)
          have hNn := hN2
          obtain ⟨hul, hown, hel⟩ := hN2
          have hlu : us.length ≤ 4000000 := by
            rw [hul, List.length_take, List.length_map]
            omega
          clear hN hu b3 hbw hel hul c0 c1 c2 c3 c4 c5 c6 c7 c8 hr hlt2 hI
          go_wp2_with (at_builtin; refine wpList_append_own_at _ rfl _ _ 41 rfl w2.heap.size 31 i0 .nilIface 1 16 Try.underlying41 hi hz0 hz1 hz2 rfl (by decide) _ _ _ rfl (hown.alloc _) ⟨w3.heap.size, 0, none⟩ 1 1 [.iface T u] rfl rfl ?c1 ?c2 ?c3 ?c4 ?c5 ?_)
          case c1 =>
            intro j y hj
            match j, hj with
            | 0, hj => simp at hj; subst hj; simp [Addr.add]
          case c2 => intro y hy; simp at hy; subst hy; rfl
          case c3 => unfold maxLen; omega
          case c4 => omega
          case c5 => simp; have := hV2.size; omega
          · intro v' w4 hown' hgrow _ hob
            have hN3 := (hNn.below ((Below.refl w3.heap.size w3).alloc (Nat.le_refl _) _)).push (NdAt.below ((Below.refl w3.heap.size w3).alloc (Nat.le_refl _) _) _ _ _ hu2) hown' hgrow (by simpa using hob)
            have hV3 : Below w2.heap.size w2 w4 := hV2.trans (((Below.refl w2.heap.size w3).alloc hV2.size _).grown hgrow (by simp; have := hV2.size; omega) (fun j hj => by
              have := own_of hNn.2.1 j hj
              exact this))
            go_wp2_with fail
            go_roundw
            case rel => exact ⟨k + 1, us ++ [.iface T u], v', by omega, by go_num, rfl, by rw [Htk.out]; exact hN3, hV3⟩
            case measure => simp [intOf]; omega
        · obtain rfl : k = l.length := by omega
          rw [List.take_of_length_le (by simp)] at hN
          have hlu : us.length = l.length := by have := hN.1; simpa using this
          obtain ⟨pa, pcap, rfl, hRow⟩ := hN.row
          rw [List.length_map] at hN
          have hNr : NdRw (fun b => w2.heap.size ≤ b) wr (l.map canon) pa pcap := NdRw.of hRow
          have hp1 := hNr.1
          have hp2 := hNr.2.1
          unfold maxLen at hp2
          have hBr := hB.trans (hV.mono hB.size)
          have hsz : nsizes (l.map canon) ≤ 400 := by have := nsizes_canons l; have := HT.out; omega
          have hj1 : (jflat (l.map canon)).length ≤ 4000000 := by have := jflat_len (l.map canon); omega
          have hj2 : (cflat (l.map canon)).length ≤ 4000000 := by have := cflat_len (l.map canon); omega
          have hj3 : (l.flatMap tjpart).length ≤ 4000000 := by have := tjoin_len l; have := HT.out; omega
          have hj4 : (l.flatMap tcpart).length ≤ 4000000 := by have := tchoose_len l; have := HT.out; omega
          have hll : l.length ≤ 4000000 := by omega
          have hJ1 := fun (w' : World) (hb : Below wr.heap.size wr w') => pjoin_any (l.map canon) pa pcap w' (hNr.below hb) hj1
          have hJ2 := fun (w' : World) (hb : Below wr.heap.size wr w') => rjoin_any l a cap w' ((HRW.out.below hBr).below hb) hj3 hll
          have hJ3 := fun (w' : World) (hb : Below wr.heap.size wr w') => pchoose_any (l.map canon) pa pcap w' (hNr.below hb) hj2
          have hJ4 := fun (w' : World) (hb : Below wr.heap.size wr w') => rchoose_any l a cap w' ((HRW.out.below hBr).below hb) hj4 hll
          have hI1 : ∀ (w' : World) (v : Value) (a9 : Option Addr) (cap9 : Nat), NdX (fun _ => True) w' (njoin (l.map canon)) v → TrX (fun _ => True) w' (tjoin l) a9 cap9 → Calls Try.prog 21 #[v, tV (tjoin l) a9 cap9] w' fun e w2 => e = .returned (.bool true) ∧ Below w'.heap.size w' w2 := by
            intro w' v a9 cap9 h1 h2
            have h3 := lis_any _ v _ a9 cap9 w' h1 h2 (known_tjoin l HK.out) (by have := njoin_size (l.map canon); omega)
            rw [canon_tjoin l HK.out, nsame_refl] at h3
            exact h3
          have hI2 : ∀ (w' : World) (v : Value) (a9 : Option Addr) (cap9 : Nat), NdX (fun _ => True) w' (nchoose (l.map canon)) v → TrX (fun _ => True) w' (tchoose l) a9 cap9 → Calls Try.prog 21 #[v, tV (tchoose l) a9 cap9] w' fun e w2 => e = .returned (.bool true) ∧ Below w'.heap.size w' w2 := by
            intro w' v a9 cap9 h1 h2
            have h3 := lis_any _ v _ a9 cap9 w' h1 h2 (known_tchoose l HK.out) (by have := nchoose_size (l.map canon); omega)
            rw [canon_tchoose l HK.out, nsame_refl] at h3
            exact h3
          rw [List.length_map] at hJ1 hJ3
          have HJ1 := Lib.hid hJ1
          have HJ2 := Lib.hid hJ2
          have HJ3 := Lib.hid hJ3
          have HJ4 := Lib.hid hJ4
          have HI1 := Lib.hid hI1
          have HI2 := Lib.hid hI2
          have HSZ := Lib.hid hsz
          clear hJ1 hJ2 hJ3 hJ4 hI1 hI2 hsz hj1 hj2 hj3 hj4 hll
          rw [List.length_map]
          go_upto_region 9 with fail
          go_cut [47] (fun x wx => x = .bool false ∧ Below wr.heap.size wr wx)
          case first =>
            have h5 := Below.refl wr.heap.size wr
            have g1 := HJ1.out wr h5
            go_wp2_with fail
            refine g1.mono ?_
            rintro e w5 ⟨v5, rfl, hv5, b5⟩
            replace h5 := h5.trans (b5.mono h5.size)
            replace hv5 := hv5.keep (G := fun _ => True) (Nat.le_refl _) (fun _ _ _ => ⟨trivial, fun _ => rfl⟩)
            have hs5 := hv5.elim fun _ h => nd_shape h
            have g2 := HJ2.out w5 h5
            unfold tV at g2
            clear b5 g1
            rcases hs5 with ⟨T5, q5, rfl⟩ | rfl
            all_goals
              go_wp2_with fail
              refine g2.mono ?_
              rintro e w6 ⟨a6, cap6, rfl, hx6, b6⟩
              have g3 := HI1.out w6 _ a6 cap6 (hv5.below b6) hx6
              replace h5 := h5.trans (b6.mono h5.size)
              unfold tV at g3
              clear b6 g2 hv5 hx6
              go_wp2_with fail
              refine g3.mono ?_
              rintro e w7 ⟨rfl, b7⟩
              replace h5 := h5.trans (b7.mono h5.size)
              have g4 := HJ3.out w7 h5
              clear b7 g3
              go_wp2_with fail
              refine g4.mono ?_
              rintro e w8 ⟨v8, rfl, hv8, b8⟩
              replace h5 := h5.trans (b8.mono h5.size)
              replace hv8 := hv8.keep (G := fun _ => True) (Nat.le_refl _) (fun _ _ _ => ⟨trivial, fun _ => rfl⟩)
              have hs8 := hv8.elim fun _ h => nd_shape h
              have g5 := HJ4.out w8 h5
              unfold tV at g5
              clear b8 g4
              rcases hs8 with ⟨T8, q8, rfl⟩ | rfl
              all_goals
                go_wp2_with fail
                refine g5.mono ?_
                rintro e w9 ⟨a9, cap9, rfl, hx9, b9⟩
                have g6 := HI2.out w9 _ a9 cap9 (hv8.below b9) hx9
                replace h5 := h5.trans (b9.mono h5.size)
                unfold tV at g6
                clear b9 g5 hv8 hx9
                go_wp2_with fail
                refine g6.mono ?_
                rintro e w10 ⟨rfl, b10⟩
                replace h5 := h5.trans (b10.mono h5.size)
                go_wp2_with fail
                go_meet
                exact ⟨rfl, h5⟩
          case rest =>
            obtain ⟨rfl, hC⟩ := hcut
            have hW2c : w2.heap.size ≤ wc.heap.size := Nat.le_trans hV.size hC.size
            have hW2 : w.heap.size ≤ w2.heap.size := hB.size
            have HNr := Lib.hid (hNr.below hC)
            have HNo := Lib.hid (hN.below hC)
            have HBr := Lib.hid (hBr.trans (hC.mono hBr.size))
            have hrC := Lib.hid hC
            clear hC hNr hRow hN hV hBr hB
            go_wp2_with fail
            go_loopw [50] (fun i wq => ∃ k : Nat, k ≤ l.length ∧ i = .int .i64 k ∧ Below wc.heap.size wc wq) (fun i _ => l.length - (intOf i).toNat)
            case atStart => exact ⟨0, by omega, rfl, Below.refl _ _⟩
            case round =>
              obtain ⟨k, hk, rfl, hV⟩ := hrel
              by_cases hlt : k < l.length
              · obtain ⟨b, o, rfl, a', cap', h9, _, hxx⟩ := HD.out _ (HBr.out.trans (hV.mono HBr.out.size)) k hlt
                have hA := hV.alloc hV.size (.cells (tC l[k] a' cap') 27)
                obtain ⟨pb, po, rfl, _, hpb, hpx⟩ := (HNr.out.below hA).2.2 (by rw [List.length_map]; omega)
                obtain ⟨u, hu, hnd⟩ := hpx k (by rw [List.length_map]; exact hlt)
                rw [List.getElem_map] at hnd
                have hkx := tknowns_mem l HK.out k hlt
                have hx2 : nsize (canon l[k]) ≤ 4000000 := by have h1 := nsize_tall l[k]; have h2 := tall_mem l k hlt; have := HT.out; omega
                obtain ⟨c0, c1, c2, c3, c4, c5, c6, c7, c8⟩ := h9
                generalize l[k] = x at *
                have hT := Blk.new wr (tC x a' cap') 27 wr.heap.size rfl
                have hall : ReadU (wr.alloc (.cells (tC x a' cap') 27)) wr.heap.size x a' cap' pb (po + k) u (wr.alloc (.cells (tC x a' cap') 27)) := ⟨hu, HoldI.all ⟨Below.refl _ _, hT⟩⟩
                have hxA := hxx.below ((Below.refl wr.heap.size wr).alloc (Nat.le_refl _) (.cells (tC x a' cap') 27))
                have hI : ∀ w', Below (wr.alloc (.cells (tC x a' cap') 27)).heap.size (wr.alloc (.cells (tC x a' cap') 27)) w' → Calls Try.prog 21 #[u, tV x a' cap'] w' fun e w2 => e = .returned (.bool true) ∧ Below w'.heap.size w' w2 := by
                  intro w' hb
                  have h3 := lis_any _ u x a' cap' w' (hnd.below hb) (hxA.below hb) hkx hx2
                  rw [nsame_refl] at h3
                  exact h3
                have hsh := hnd.elim fun _ h => nd_shape h
                have hklt : (k : Int) < (l.length : Int) := by omega
                have HA := Lib.hid hA
                have HI := Lib.hid hI
                unfold tV at HI
                clear hnd hxx hxA hkx hx2 hpx hV hA hT hu hI
                rcases hsh with ⟨T1, q1, rfl⟩ | rfl
                · go_upto_region 14 with fail
                  go_region_held3 (fun w' => ReadU (wr.alloc (.cells (tC x a' cap') 27)) wr.heap.size x a' cap' pb (po + k) (.iface T1 q1) w')
                    (first | (with_reducible exact hall) | (with_reducible exact readU_drew hall) | (with_reducible exact readU_step hpb hbX (by with_reducible assumption)) | (with_reducible exact readU_drew (by with_reducible assumption)))
                    (first | (go_at_call 21; refine (HI.out _ (HoldI.below (And.right (And.right (by with_reducible assumption))))).mono ?_; rintro e w3 ⟨rfl, hbX⟩))
                  go_wp2_with fail
                  clear hall
                  go_split_ands
                  have hfin := HA.out.trans (Below.mono (HoldI.below (by with_reducible assumption)) HA.out.size)
                  go_roundw
                  case rel => exact ⟨k + 1, by omega, by go_num, hfin⟩
                  case measure => simp [intOf]; omega
                · go_upto_region 14 with fail
                  go_region_held3 (fun w' => ReadU (wr.alloc (.cells (tC x a' cap') 27)) wr.heap.size x a' cap' pb (po + k) .nilIface w')
                    (first | (with_reducible exact hall) | (with_reducible exact readU_drew hall) | (with_reducible exact readU_step hpb hbX (by with_reducible assumption)) | (with_reducible exact readU_drew (by with_reducible assumption)))
                    (first | (go_at_call 21; refine (HI.out _ (HoldI.below (And.right (And.right (by with_reducible assumption))))).mono ?_; rintro e w3 ⟨rfl, hbX⟩))
                  go_wp2_with fail
                  clear hall
                  go_split_ands
                  have hfin := HA.out.trans (Below.mono (HoldI.below (by with_reducible assumption)) HA.out.size)
                  go_roundw
                  case rel => exact ⟨k + 1, by omega, by go_num, hfin⟩
                  case measure => simp [intOf]; omega
              · obtain rfl : k = l.length := by omega
                obtain ⟨hul, hown, hel⟩ := HNo.out.below hV
                have hlu2 : us.length + 1 ≤ maxLen := by unfold maxLen; omega
                have hlu3 : (us.length + 1) * 16 ≤ 140737488355328 := by omega
                have hNq := Lib.hid (HNo.out.below hV)
                have hsz2 : w2.heap.size ≤ wr.heap.size := Nat.le_trans hW2c hV.size
                have hbw := HBr.out.trans (hV.mono HBr.out.size)
                have HBW := Lib.hid hbw
                clear hel hV hbw hul
                go_wp2_with (at_builtin; refine wpList_append_own_at _ rfl _ _ 41 rfl w2.heap.size 31 i0 .nilIface 1 16 Try.underlying41 hi hz0 hz1 hz2 rfl (by decide) _ _ _ rfl (hown.alloc _) ⟨wr.heap.size, 0, none⟩ 1 1 [.nilIface] rfl rfl ?c1 ?c2 ?c3 ?c4 ?c5 ?_)
                case c1 =>
                  intro j y hj
                  match j, hj with
                  | 0, hj => simp at hj; subst hj; simp [Addr.add]
                case c2 => intro y hy; simp at hy; subst hy; rfl
                case c3 => exact hlu2
                case c4 => exact hlu3
                case c5 => simp; omega
                · intro v' w4 hown' hgrow _ hob
                  have hemp : NdAt (fun b => w2.heap.size ≤ b ∧ (Value.slice pa l.length pcap).ownBlock ≠ some b) N (wr.alloc (.cells #[.nilIface] 31)) .empty .nilIface := by
                    cases N with
                    | zero => omega
                    | succ N => exact .inr rfl
                  have hA1 := (Below.refl wr.heap.size wr).alloc (Nat.le_refl _) (.cells #[.nilIface] 31)
                  have hN3 := (hNq.out.below hA1).push hemp (by rw [hlu]; exact hown') hgrow (by simpa using hob)
                  have hlow : Below w.heap.size w w4 := (HBW.out.trans (hA1.mono HBW.out.size)).grown hgrow (by have := HBW.out.size; simp; omega) (fun j hj => by
                    have h1 := own_of hNq.out.2.1 j hj
                    have h2 := hW2
                    omega)
                  obtain ⟨L, hL⟩ : ∃ L, L = l.map canon ++ [Nd.empty] := ⟨_, rfl⟩
                  rw [← hL] at hN3
                  have hjL : njoin L = njoin (l.map canon) := by rw [hL, njoin_empty]
                  have hflL : (jflat L).length ≤ 4000000 := by
                    rw [hL]
                    unfold jflat
                    rw [List.flatMap_append, List.length_append]
                    have h1 := jflat_len (l.map canon)
                    have h2 := HSZ.out
                    unfold jflat at h1
                    simp only [List.flatMap_cons, List.flatMap_nil, jpart, List.append_nil, List.length_nil]
                    omega
                  have HL := Lib.hid hjL
                  clear hL hjL
                  obtain ⟨qa, qcap, rfl, hRow⟩ := hN3.row
                  have hNr : NdRw (fun b => w2.heap.size ≤ b) w4 L qa qcap := NdRw.of hRow
                  have hJ5 := pjoin_any L qa qcap w4 hNr hflL
                  have hRl := HRW.out.below hlow
                  have hJ6 := fun (w' : World) (hb : Below w4.heap.size w4 w') => rjoin_any l a cap w' (hRl.below hb) (by have := tjoin_len l; have := HT.out; omega) (by omega)
                  rw [HL.out] at hJ5
                  have HJ6 := Lib.hid hJ6
                  have HLOW := Lib.hid hlow
                  clear hRow hNr hN3 hown hown' hgrow hob hemp hA1 hRl hJ6 hlow hflL
                  go_wp2_with fail
                  refine hJ5.mono ?_
                  rintro e w5 ⟨v5, rfl, hv5, b5⟩
                  replace hv5 := hv5.keep (G := fun _ => True) (Nat.le_refl _) (fun _ _ _ => ⟨trivial, fun _ => rfl⟩)
                  have hs5 := hv5.elim fun _ h => nd_shape h
                  have g2 := HJ6.out w5 b5
                  unfold tV at g2
                  have hfin := HLOW.out.trans (b5.mono HLOW.out.size)
                  clear b5 hJ5
                  rcases hs5 with ⟨T5, q5, rfl⟩ | rfl
                  all_goals
                    go_wp2_with fail
                    refine g2.mono ?_
                    rintro e w6 ⟨a6, cap6, rfl, hx6, b6⟩
                    have g3 := HI1.out w6 _ a6 cap6 (hv5.below b6) hx6
                    have hfin2 := hfin.trans (b6.mono hfin.size)
                    unfold tV at g3
                    clear b6 g2 hv5 hx6
                    go_wp2_with fail
                    refine g3.mono ?_
                    rintro e w7 ⟨rfl, b7⟩
                    go_wp2_with fail
                    go_ret
                    exact ⟨rfl, hfin2.trans (b7.mono hfin2.size)⟩
end Go.Proofs.Ytaekjcbgnlldoaa
