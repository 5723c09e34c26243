/- The statements' node whose groups have greater numbers, walked. -/
import Derived.Test.YtbbcjclkklmoaaaDoorGrP
import Derived.Test.YtbbcjclkklmoaaaDoorTrIs
namespace Go.Proofs.YtbbcjclkklmoaaaDoor
open Go Go.RowKit

mutual
/-- The document's node of what a regex is made of, its groups with greater numbers. -/
def utn (g : Int) : Nd → Tr
  | .empty => tz
  | .one s => .mk 1 s 0 0 0 []
  | .cat l => .mk 2 oz 0 0 0 (utns g l)
  | .alt l => .mk 3 oz 0 0 0 (utns g l)
  | .rep d mn mx => .mk 4 oz mn mx 0 [utn g d]
  | .group n d => .mk 5 oz 0 0 (n + g) [utn g d]
  | .back n => .mk 6 oz 0 0 n []
  | .start => .mk 7 oz 0 0 0 []
  | .fin => .mk 8 oz 0 0 0 []
def utns (g : Int) : List Nd → List Tr
  | [] => []
  | d :: ds => utn g d :: utns g ds
end
theorem utns_map (g : Int) (l : List Nd) : utns g l = l.map (utn g) := by
  induction l with
  | nil => rfl
  | cons d ds ih => rw [utns, ih]; rfl
mutual
theorem utn_unc (g : Int) : ∀ d : Nd, utn g d = unc (nturn g d)
  | .empty => rfl
  | .one _ => rfl
  | .cat l => congrArg (fun x => Tr.mk 2 oz 0 0 0 x) (utns_uncs g l)
  | .alt l => congrArg (fun x => Tr.mk 3 oz 0 0 0 x) (utns_uncs g l)
  | .rep d mn mx => congrArg (fun x => Tr.mk 4 oz mn mx 0 [x]) (utn_unc g d)
  | .group n d => congrArg (fun x => Tr.mk 5 oz 0 0 (n + g) [x]) (utn_unc g d)
  | .back _ => rfl
  | .start => rfl
  | .fin => rfl
theorem utns_uncs (g : Int) : ∀ l : List Nd, utns g l = uncs (nturns g l)
  | [] => rfl
  | d :: ds => by rw [utns, utn_unc g d, utns_uncs g ds]; rfl
end
mutual
/-- Are the numbers of its groups in their range? -/
def numok : Nd → Bool
  | .cat l => numoks l
  | .alt l => numoks l
  | .rep d _ _ => numok d
  | .group n d => decide (0 ≤ n) && decide (n ≤ 4000000) && numok d
  | _ => true
def numoks : List Nd → Bool
  | [] => true
  | d :: ds => numok d && numoks ds
end
mutual
theorem right_numok : ∀ (d : Nd) (o : Int) (c : List Int) (r : Int × List Int), nright d o c = some r → 0 ≤ o → o + ngroups d ≤ 4000000 → numok d = true
  | .empty, _, _, _, _, _, _ => rfl
  | .one _, _, _, _, _, _, _ => rfl
  | .cat l, o, c, r, h, h0, h1 => by
    rw [nright] at h
    split at h
    · exact rights_numok l o c r h h0 h1
    · cases h
  | .alt l, o, c, r, h, h0, h1 => by
    rw [nright] at h
    split at h
    · exact rights_numok l o c r h h0 h1
    · cases h
  | .rep d _ _, o, c, r, h, h0, h1 => by
    rw [nright] at h
    split at h
    · exact right_numok d o c r h h0 h1
    · cases h
  | .group n d, o, c, r, h, h0, h1 => by
    rw [nright] at h
    rw [ngroups] at h1
    split at h
    · rename_i hn
      cases hd : nright d (o + 1) c with
      | none => rw [hd] at h; cases h
      | some q =>
        have := right_numok d (o + 1) c q hd (by omega) (by omega)
        rw [numok, this, decide_eq_true (by omega), decide_eq_true (by omega)]
        rfl
    · cases h
  | .back _, _, _, _, _, _, _ => rfl
  | .start, _, _, _, _, _, _ => rfl
  | .fin, _, _, _, _, _, _ => rfl
theorem rights_numok : ∀ (l : List Nd) (o : Int) (c : List Int) (r : Int × List Int), nrights l o c = some r → 0 ≤ o → o + ngroupss l ≤ 4000000 → numoks l = true
  | [], _, _, _, _, _, _ => rfl
  | d :: ds, o, c, r, h, h0, h1 => by
    rw [nrights] at h
    rw [ngroupss] at h1
    cases hd : nright d o c with
    | none => rw [hd] at h; cases h
    | some q =>
      rw [hd] at h
      have hc := (nright_count d o c q hd).1
      rw [numoks, right_numok d o c q hd h0 (by omega), rights_numok ds q.1 q.2 r h (by omega) (by omega)]
      rfl
end
theorem numoks_get {l : List Nd} (h : numoks l = true) (k : Nat) (hk : k < l.length) : numok l[k] = true := by
  induction l generalizing k with
  | nil => simp at hk
  | cons d ds ih =>
    rw [numoks, Bool.and_eq_true] at h
    cases k with
    | zero => exact h.1
    | succ k => exact ih h.2 k (by simpa using hk)
theorem numok_kids {d : Nd} (h : numok d = true) : numoks (nkids d) = true := by
  cases d <;> simp_all [numok, nkids, numoks]
theorem unc_kids (d : Nd) : (unc d).parts = (nkids d).map unc := by cases d <;> simp [unc, nkids, uncs_map, Tr.parts, tz]
theorem utn_kids (g : Int) (d : Nd) : (utn g d).parts = (nkids d).map (utn g) := by cases d <;> simp [utn, nkids, utns_map, Tr.parts, tz]
theorem utn_rest (g : Int) (d : Nd) : (utn g d).kind = (unc d).kind ∧ (utn g d).set = (unc d).set ∧ (utn g d).mn = (unc d).mn ∧ (utn g d).mx = (unc d).mx := by cases d <;> exact ⟨rfl, rfl, rfl, rfl⟩
theorem utn_num (g : Int) (d : Nd) : (utn g d).num = if (unc d).kind = 5 then (unc d).num + g else (unc d).num := by cases d <;> simp [utn, unc, tz, Tr.num, Tr.kind]
theorem TrX.row {F : Nat → Prop} {w : World} {t : Tr} {a : Option Addr} {cap : Nat} (h : TrX F w t a cap) : TrRw F w t.parts a cap := by
  obtain ⟨n, h⟩ := h
  cases n with
  | zero => exact h.elim
  | succ n =>
    refine ⟨h.1, h.2.1, fun h0 => ?_⟩
    obtain ⟨b, o, e, hF, hl, hx⟩ := h.2.2 h0
    exact ⟨b, o, e, hF, hl, fun i hi => by obtain ⟨a', c', h9, hr⟩ := hx i hi; exact ⟨a', c', h9, n, hr⟩⟩
set_option linter.unusedSimpArgs false in
set_option maxRecDepth 100000 in
set_option maxHeartbeats 4000000 in
theorem turned_any {F : Nat → Prop} (g : Int) (hg0 : 0 ≤ g) (hg1 : g ≤ 4000000) : ∀ (n : Nat), n ≤ 4000000 → ∀ (d : Nd) (a : Option Addr) (cap : Nat) (w : World), nsize d ≤ n → numok d = true → TrX F w (unc d) a cap →
    Calls Tryd.prog 20 #[tV (unc d) a cap, .int .i64 g] w fun e w' => ∃ a' cap', e = .returned (tV (utn g d) a' cap') ∧ TrX (fun b => w.heap.size ≤ b) w' (utn g d) a' cap' ∧ Below w.heap.size w w' := by
  intro n
  induction n with
  | zero => intro _ d a cap w hs; have := nsize_kids d; omega
  | succ n ih0 =>
    intro hn d a cap w hs hno h
    have ih := ih0 (by omega)
    obtain ⟨i0, hi, hz0, hz1, hz2⟩ := t_info
    have hrow0 : TrRw F w ((nkids d).map unc) a cap := by rw [← unc_kids]; exact h.row
    have hkn := numok_kids hno
    have hks : nsizes (nkids d) ≤ n := by have := nsize_kids d; omega
    have hlen := nsizes_length (nkids d)
    have hPL : (unc d).parts.length = (nkids d).length := by rw [unc_kids, List.length_map]
    have hUL : (utn g d).parts.length = (nkids d).length := by rw [utn_kids, List.length_map]
    have HUP := Lib.hid (utn_kids g d)
    obtain ⟨q1, q2, q3, q4⟩ := utn_rest g d
    have q5 := utn_num g d
    have hnr : (unc d).kind = 5 → 0 ≤ (unc d).num ∧ (unc d).num ≤ 4000000 := by
      intro hk
      cases d with
      | group m d' => rw [numok, Bool.and_eq_true, Bool.and_eq_true] at hno; exact ⟨of_decide_eq_true hno.1.1, of_decide_eq_true hno.1.2⟩
      | _ => simp [unc, tz, Tr.kind] at hk
    have hcap1 := hrow0.1
    have hcap2 := hrow0.2.1
    rw [List.length_map] at hcap1
    unfold maxLen at hcap2
    unfold tV
    rw [hPL, hUL, q1, q2, q3, q4]
    generalize hT : utn g d = T at *
    generalize (unc d).kind = K at *
    generalize (unc d).set = St at *
    generalize (unc d).mn = Mn at *
    generalize (unc d).mx = Mx at *
    generalize (unc d).num = Nn at *
    generalize hl : nkids d = l at *
    have hL4 : l.length ≤ 4000000 := by omega
    obtain ⟨L, hLL⟩ : ∃ L, L = l.length := ⟨_, rfl⟩
    rw [← hLL]
    obtain ⟨Nt, hNt⟩ : ∃ Nt, Nt = T.num := ⟨_, rfl⟩
    rw [← hNt]
    rw [← hNt] at q5
    have HQ := Lib.hid (show T.kind = K ∧ T.set = St ∧ T.mn = Mn ∧ T.mx = Mx ∧ T.num = Nt ∧ T.parts = l.map (utn g) from ⟨q1, q2, q3, q4, hNt.symm, HUP.out⟩)
    have HKN := Lib.hid hkn
    have HKS := Lib.hid hks
    have HR := Lib.hid hrow0
    have HLL := Lib.hid hLL
    rw [← hLL] at hcap1 hL4
    have hP1 : ∀ X, Blk ((w.alloc (.cells #[.int .i64 K, .int .u64 (ow St 0), .int .u64 (ow St 1), .int .u64 (ow St 2), .int .u64 (ow St 3), .slice a L cap, .int .i64 Mn, .int .i64 Mx, .int .i64 X] 46)).alloc (.cells zC 46)) w.heap.size #[.int .i64 K, .int .u64 (ow St 0), .int .u64 (ow St 1), .int .u64 (ow St 2), .int .u64 (ow St 3), .slice a L cap, .int .i64 Mn, .int .i64 Mx, .int .i64 X] 46 := fun X => (Blk.new w #[.int .i64 K, .int .u64 (ow St 0), .int .u64 (ow St 1), .int .u64 (ow St 2), .int .u64 (ow St 3), .slice a L cap, .int .i64 Mn, .int .i64 Mx, .int .i64 X] 46 w.heap.size rfl).alloc (.cells zC 46)
    have hQ1 : ∀ X, Blk ((w.alloc (.cells #[.int .i64 K, .int .u64 (ow St 0), .int .u64 (ow St 1), .int .u64 (ow St 2), .int .u64 (ow St 3), .slice a L cap, .int .i64 Mn, .int .i64 Mx, .int .i64 X] 46)).alloc (.cells zC 46)) (w.heap.size + 1) zC 46 := fun X => Blk.new (w.alloc (.cells #[.int .i64 K, .int .u64 (ow St 0), .int .u64 (ow St 1), .int .u64 (ow St 2), .int .u64 (ow St 3), .slice a L cap, .int .i64 Mn, .int .i64 Mx, .int .i64 X] 46)) zC 46 (w.heap.size + 1) (by simp)
    have hB1 : ∀ X, Below w.heap.size w ((w.alloc (.cells #[.int .i64 K, .int .u64 (ow St 0), .int .u64 (ow St 1), .int .u64 (ow St 2), .int .u64 (ow St 3), .slice a L cap, .int .i64 Mn, .int .i64 Mx, .int .i64 X] 46)).alloc (.cells zC 46)) := fun X => ((Below.refl w.heap.size w).alloc (Nat.le_refl _) (.cells #[.int .i64 K, .int .u64 (ow St 0), .int .u64 (ow St 1), .int .u64 (ow St 2), .int .u64 (ow St 3), .slice a L cap, .int .i64 Mn, .int .i64 Mx, .int .i64 X] 46)).alloc (by simp) (.cells zC 46)
    have HP1 := Lib.hid hP1
    have HQ1 := Lib.hid hQ1
    have HB1 := Lib.hid hB1
    clear hP1 hQ1 hB1 hT q1 q2 q3 q4 hNt hkn hks hlen hPL hUL hno hs h hrow0 ih0 hl HUP hLL
    by_cases hk5 : K = 5
    all_goals
      have e5 : (K == 5) = decide (K = 5) := by rw [Bool.eq_iff_iff]; simp
      first | rw [if_pos hk5] at q5 | rw [if_neg hk5] at q5
      first | rw [decide_eq_true hk5] at e5 | rw [decide_eq_false hk5] at e5
      first | (have hb9 := hnr hk5) | skip
      have Q5 := Lib.hid q5
      clear hnr hk5 q5
      go_enter Tryd.func20, Tryd.ntmps20
      go_wp2_with fail
      go_loopw [5, 19] (fun s i wr => ∃ (k : Nat) (us : List Value) (pv : Value), k ≤ L ∧ i = .int .i64 k ∧ pv = s ∧ TOwn (fun b => w.heap.size + 2 ≤ b) (w.heap.size + 2) wr ((l.take k).map (utn g)) pv us ∧ Blk wr w.heap.size #[.int .i64 K, .int .u64 (ow St 0), .int .u64 (ow St 1), .int .u64 (ow St 2), .int .u64 (ow St 3), .slice a L cap, .int .i64 Mn, .int .i64 Mx, .int .i64 Nt] 46 ∧ Blk wr (w.heap.size + 1) zC 46 ∧ Below w.heap.size w wr ∧ w.heap.size + 2 ≤ wr.heap.size) (fun _ i _ => L - (intOf i).toNat)
      case atStart => exact ⟨0, [], _, by omega, rfl, rfl, TOwn.nil _ _ _, by rw [Q5.out]; exact HP1.out _, HQ1.out _, HB1.out _, by simp⟩
      case round =>
        obtain ⟨k, us, pv, hk, rfl, hpv, hO, hP, hQ, hV, hsz2⟩ := hrel
        subst hpv
        by_cases hlt : k < L
        · have hlt2 : k < l.length := by rw [← HLL.out]; exact hlt
          have hrow := HR.out.below hV
          obtain ⟨b, o, rfl, hbF, hbl, hx⟩ := hrow.2.2 (by rw [List.length_map]; omega)
          obtain ⟨a1, c1, h9, hxx⟩ := hx k (by rw [List.length_map]; exact hlt2)
          rw [List.getElem_map] at h9 hxx
          have Htk := Lib.hid (show (l.take (k + 1)).map (utn g) = (l.take k).map (utn g) ++ [utn g l[k]] by rw [List.take_succ_eq_append_getElem hlt2, List.map_append]; rfl)
          have hsx : nsize l[k] ≤ n := by
            have h1 := nsizes_take l k hlt2
            have h2 := nsizes_le l (k + 1)
            have := HKS.out
            omega
          have hnx := numoks_get HKN.out k hlt2
          have hlk : ((l.take k).map (utn g)).length = k := by rw [List.length_map, List.length_take]; omega
          have Hlk := Lib.hid hlk
          obtain ⟨c0, y1, y2, y3, y4, y5, y6, y7, y8⟩ := h9
          clear hx hrow hlk
          generalize l[k] = x at *
          have hbA := (Below.refl wr.heap.size wr).alloc (Nat.le_refl _) (.cells (tC (unc x) a1 c1) 46)
          have hI := ih x a1 c1 _ hsx hnx (hxx.below hbA)
          unfold tV at hI
          have hm1 : ((l.take k).map (utn g)).length + 1 ≤ maxLen := by rw [Hlk.out]; unfold maxLen; omega
          have hm2 : (((l.take k).map (utn g)).length + 1) * 88 ≤ 140737488355328 := by rw [Hlk.out]; omega
          have Hm1 := Lib.hid hm1
          have Hm2 := Lib.hid hm2
          have hOb := hO.below hbA
          have hPb := hP.below hbA hP.lt
          have hQb := hQ.below hbA hQ.lt
          have hVb := hV.trans (hbA.mono hV.size)
          have HP2 := Lib.hid hPb
          have HQ2 := Lib.hid hQb
          have HO2 := Lib.hid hOb
          have HV2 := Lib.hid hVb
          have hsA : w.heap.size + 2 ≤ (wr.alloc (.cells (tC (unc x) a1 c1) 46)).heap.size := Nat.le_trans hsz2 hbA.size
          have HsA := Lib.hid hsA
          clear hm1 hm2 hnx hsx hxx hO hP hQ hV hOb hPb hQb hVb hbA hsA
          go_wp2_with fail
          refine hI.mono ?_
          rintro e w2 ⟨a', cap', rfl, hx2, b2⟩
          have hOc := HO2.out.below b2
          have hPc := HP2.out.below b2 HP2.out.lt
          have hQc := HQ2.out.below b2 HQ2.out.lt
          have hVc := HV2.out.trans (b2.mono HV2.out.size)
          have hsc := Nat.le_trans HsA.out b2.size
          have hlo := fun g hg => town_lt hOc.1 g hg
          have hch : Chunks (fun b => w.heap.size + 2 ≤ b ∧ OffV pv b) w2 [utn g x] (tC (utn g x) a' cap').toList := Chunks.single (hx2.keep (Nat.le_refl _) (fun b hf _ => ⟨⟨Nat.le_trans HsA.out hf, fun e => by have h1 := town_lt HO2.out.1 b e; omega⟩, fun _ => rfl⟩))
          have hv1 := hch.one
          have hA := (Below.refl w2.heap.size w2).alloc (Nat.le_refl _) (.cells (tC (utn g x) a' cap') 46)
          have hOA := hOc.below hA
          have hVA := hVc.alloc hVc.size (.cells (tC (utn g x) a' cap') 46)
          have hPA := hPc.alloc (.cells (tC (utn g x) a' cap') 46)
          have hQA := hQc.alloc (.cells (tC (utn g x) a' cap') 46)
          have hchA : Chunks (fun b => w.heap.size + 2 ≤ b ∧ OffV pv b) (w2.alloc (.cells (tC (utn g x) a' cap') 46)) [utn g x] (tC (utn g x) a' cap').toList := hch.keep hA.size (fun b hf hl => ⟨hf, fun o => hA.cell (p := ⟨b, o, none⟩) hl⟩)
          have hnw := news_new w2 (utn g x) a' cap' 46 w2.heap.size rfl
          have HPA := Lib.hid hPA
          have HQA := Lib.hid hQA
          clear hI hOc hVc hPc hQc hPA hQA hch hlo hx2 b2 c0 y1 y2 y3 y4 y5 y6 y7 y8
          go_wp2_with (at_builtin; refine wpList_append_any _ rfl _ _ 44 rfl (w.heap.size + 2) 46 i0 (.agg zC) 9 88 Tryd.underlying44 hi hz0 hz1 hz2 rfl (by decide) _ _ _ rfl hOA.1 (some ⟨w2.heap.size, 0, none⟩) 1 1 (tC (utn g x) a' cap').toList rfl rfl (fun _ => ⟨_, rfl, hnw⟩) hv1 Hm1.out Hm2.out (by simp; omega) ?_; intro v6 w6 hown6 hgrow6 hat6)
          have hO6 := hOA.push hchA hown6 hgrow6 hat6
          have hV6 := hVA.grown hgrow6 hVA.size (fun k hk => Nat.le_trans (Nat.le_add_right _ 2) (own_of hOA.1 k hk))
          have hP6 := HPA.out.grown hgrow6 (fun k hk => by have := own_of hOA.1 k hk; omega)
          have hQ6 := HQA.out.grown hgrow6 (fun k hk => by have := own_of hOA.1 k hk; omega)
          have hs6 : w.heap.size + 2 ≤ w6.heap.size := by
            have := hV6.size
            exact Nat.lt_of_le_of_lt (Nat.le_refl _) hQ6.lt
          have HO6 := Lib.hid hO6
          have HV6 := Lib.hid hV6
          have HP6 := Lib.hid hP6
          have HQ6 := Lib.hid hQ6
          have HS6 := Lib.hid hs6
          clear hown6 hgrow6 hat6 hOA hVA hA hchA hnw hO6 hV6 hP6 hQ6 hs6
          go_wp2_with fail
          go_roundw
          case rel => exact ⟨k + 1, us ++ (tC (utn g x) a' cap').toList, v6, by omega, by go_num, rfl, by rw [Htk.out]; exact HO6.out, HP6.out, HQ6.out, HV6.out, HS6.out⟩
          case measure => simp [intOf]; omega
        · obtain rfl : L = k := by omega
          rw [List.take_of_length_le (by rw [HLL.out]; exact Nat.le_refl _)] at hO
          obtain ⟨a9, cap9, rfl, hR⟩ := hO.row
          have hr1 := hR.1
          rw [List.length_map] at hr1 ⊢
          rw [← HLL.out] at hr1 ⊢
          have p0 := (hP.cell 0).trans rfl
          have p1 := (hP.cell 1).trans rfl
          have p2 := (hP.cell 2).trans rfl
          have p3 := (hP.cell 3).trans rfl
          have p4 := (hP.cell 4).trans rfl
          have p5 := (hP.cell 5).trans rfl
          have p6 := (hP.cell 6).trans rfl
          have p7 := (hP.cell 7).trans rfl
          have p8 := (hP.cell 8).trans rfl
          have f5 := hP.frozen 5
          have y0 := (hQ.cell 0).trans rfl
          have z0 := hQ.frozen 0
          have y1 := (hQ.cell 1).trans rfl
          have z1 := hQ.frozen 1
          have y2 := (hQ.cell 2).trans rfl
          have z2 := hQ.frozen 2
          have y3 := (hQ.cell 3).trans rfl
          have z3 := hQ.frozen 3
          have y4 := (hQ.cell 4).trans rfl
          have z4 := hQ.frozen 4
          have y5 := (hQ.cell 5).trans rfl
          have z5 := hQ.frozen 5
          have y6 := (hQ.cell 6).trans rfl
          have z6 := hQ.frozen 6
          have y7 := (hQ.cell 7).trans rfl
          have z7 := hQ.frozen 7
          have y8 := (hQ.cell 8).trans rfl
          have z8 := hQ.frozen 8
          have hbV : Below w.heap.size w (wr.setCell ⟨w.heap.size, 5, none⟩ (.slice a9 L cap9)) := hV.setCell (Nat.le_refl _) _
          have hQV : Blk (wr.setCell ⟨w.heap.size, 5, none⟩ (.slice a9 L cap9)) (w.heap.size + 1) zC 46 := hQ.set_other _ (by simp) _
          have hRV : TrRw (fun b => w.heap.size + 2 ≤ b) (wr.setCell ⟨w.heap.size, 5, none⟩ (.slice a9 L cap9)) (l.map (utn g)) a9 cap9 := hR.keep (by simp [World.setCell]) (fun b hf _ => ⟨hf.elim id id, fun o => cell_set_far (by simp; omega)⟩)
          have HBV := Lib.hid hbV
          have HQV := Lib.hid hQV
          have HRV := Lib.hid hRV
          clear hbV hQV hRV hR hO hV hP hQ
          go_wp2_with fail
          obtain ⟨w9, hw9⟩ : ∃ w9, w9 = _ := ⟨_, rfl⟩
          obtain ⟨hB9, hk9, hs9, d0, d1, d2, d3, d4, d5, d6, d7, d8⟩ := put9 HBV.out (Nat.le_succ _) HQV.out _ _ _ _ _ _ _ _ _ w9 hw9.symm
          rw [← hw9]
          clear hw9
          obtain ⟨q1, q2, q3, q4, q5, q6⟩ := HQ.out
          refine bodyPost_ret (v := .agg #[.int .i64 K, .int .u64 (ow St 0), .int .u64 (ow St 1), .int .u64 (ow St 2), .int .u64 (ow St 3), .slice a9 L cap9, .int .i64 Mn, .int .i64 Mx, .int .i64 Nt]) (by simp [results, Tryd.results20, go_sem, d0, d1, d2, d3, d4, d5, d6, d7, d8]) rfl ⟨a9, cap9, rfl, TrRw.up (t := T) (by rw [q6]; exact HRV.out.keep (by rw [hs9]; exact Nat.le_refl _) (fun b hf _ => ⟨by omega, hk9 b (by omega)⟩)), hB9⟩
end Go.Proofs.YtbbcjclkklmoaaaDoor
