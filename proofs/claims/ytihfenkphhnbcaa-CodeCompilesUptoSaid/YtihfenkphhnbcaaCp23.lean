/- The proof's texts ClQ, CbS, CbT, CbU, ClA: what the claim reaches of them. -/
import Derived.Test.YtihfenkphhnbcaaCp22
import Derived.Test.YtihfenkphhnbcaaCp20
import Derived.Deep.LoopGhost
import Derived.Test.YtihfenkphhnbcaaCp10
import Derived.Test.YtihfenkphhnbcaaCp09
import Derived.Laws.ResultCell
import Derived.Test.YtihfenkphhnbcaaCp11
import Derived.Test.YtihfenkphhnbcaaCp03
namespace Go.Proofs.Ytihfenkphhnbcaa
open Go Go.RowKit
theorem lay_all : ∀ N, LayC N
  | 0 => fun t a cap w0 w l k v h hb hr hs hk hc => by
    obtain ⟨n, h1, h2⟩ := h
    obtain rfl : n = 0 := by omega
    exact absurd h1 (by simp [TrAt])
  | N + 1 => fun t a cap w0 w l k v h hb hr hs hk hc => by
    have ih := lay_all N
    by_cases hlong : 3000 < l.length
    · exact dlay_long N t a cap w0 w l k v hr hlong
    by_cases h1 : t.kind = 1
    · exact dlay_1 t a cap w0 w l k v hb hr hlong h1
    by_cases h7 : t.kind = 7
    · exact dlay_7 t a cap w0 w l k v hb hr hlong h7
    by_cases h8 : t.kind = 8
    · exact dlay_8 t a cap w0 w l k v hb hr hlong h8
    by_cases h6 : t.kind = 6
    · exact dlay_6 t a cap w0 w l k v hb hr hlong h6
    by_cases h2 : t.kind = 2
    · exact dlay_cat N ih t a cap w0 w l k v h hb hr hs hk hc hlong h2
    by_cases h3 : t.kind = 3
    · exact dlay_alt N ih t a cap w0 w l k v h hb hr hs hk hc hlong h3
    by_cases h5 : t.kind = 5
    · exact dlay_group N ih t a cap w0 w l k v h hb hr hs hk hc hlong h5
    by_cases h4 : t.kind = 4
    · exact dlay_rep N ih t a cap w0 w l k v h hb hr hs hk hc hlong h4
    exact dlay_none t a cap w0 w l k v hb hr hlong h1 h7 h8 h6 h2 h3 h5 h4
end Go.Proofs.Ytihfenkphhnbcaa
namespace Go.Proofs.Ytihfenkphhnbcaa
open Go Go.RowKit
theorem task_any {B p : Nat} {l : List Inn} {g : Int} {k : Nat} {bk : Bool} {iv tv v jv : Value} {ts : List CTk} {us jvs : List Value} (t : CTk) (w : World) (h : Sta B p w l g k bk iv tv ts us jvs jv) (ht : TkAt B p (OffT p iv tv (jv :: jvs)) w t v jv) (hf : Fit l.length k t) (hpos : 0 < l.length) (hbd : Bd l) (hus : us.length ≤ 4000000) (hl : l.length ≤ 3000) (hk : k ≤ l.length) :
    (∃ x y : Nat, v = .func (.func 46) #[] #[ptr x, ptr y] ∧ Calls Try.prog 46 #[ptr x, ptr y] w (Did B p g bk w l k t ts us)) ∨
    (∃ x y : Nat, v = .func (.func 53) #[] #[ptr x, ptr y] ∧ Calls Try.prog 53 #[ptr x, ptr y] w (Did B p g bk w l k t ts us)) ∨
    (∃ x y : Nat, v = .func (.func 54) #[] #[ptr x, ptr y] ∧ Calls Try.prog 54 #[ptr x, ptr y] w (Did B p g bk w l k t ts us)) ∨
    (∃ x y z r : Nat, v = .func (.func 58) #[] #[ptr x, ptr y, ptr z, ptr r] ∧ Calls Try.prog 58 #[ptr x, ptr y, ptr z, ptr r] w (Did B p g bk w l k t ts us)) ∨
    (∃ x z y j : Nat, v = .func (.func 56) #[] #[ptr x, ptr z, ptr y, ptr j] ∧ Calls Try.prog 56 #[ptr x, ptr z, ptr y, ptr j] w (Did B p g bk w l k t ts us)) ∨
    (∃ x y : Nat, v = .func (.func 55) #[] #[ptr y, ptr x] ∧ Calls Try.prog 55 #[ptr y, ptr x] w (Did B p g bk w l k t ts us)) := by
  cases t with
  | lay d => exact Or.inl <| task_lay d w h ht hf hpos hbd hus hl hk
  | save m => exact Or.inr <| Or.inl <| task_save m w h ht hf hpos hbd hus hl hk
  | turn ds => exact Or.inr <| Or.inr <| Or.inl <| task_turn ds w h ht hf hpos hbd hus hl hk
  | rep mn mx P q => exact Or.inr <| Or.inr <| Or.inr <| Or.inl <| task_rep mn mx P q w h ht hf hpos hbd hus hl hk
  | branch s ds js => exact Or.inr <| Or.inr <| Or.inr <| Or.inr <| Or.inl <| task_branch s ds js w h ht hf hpos hbd hus hl hk
  | jumps js => exact Or.inr <| Or.inr <| Or.inr <| Or.inr <| Or.inr <| task_jumps js w h ht hf hpos hbd hus hl hk
theorem Sta.pop {B p : Nat} {w : World} {l : List Inn} {g : Int} {k : Nat} {bk : Bool} {iv tv : Value} {t : CTk} {ts : List CTk} {us jvs : List Value} (h : Sta B p w l g k bk iv tv (t :: ts) us jvs nilS) :
    ∃ u us' jv jvs' q cap, us = u :: us' ∧ us'.length = ts.length ∧ tv = .slice (some ⟨q, 0, none⟩) (us'.length + 1) cap ∧ us'.length + 1 ≤ cap ∧ w.cell? ⟨q, us'.length, none⟩ = some u ∧
      Sta B p (w.setCell ⟨p, 4, none⟩ (.slice (some ⟨q, 0, none⟩) us'.length cap)) l g k bk iv (.slice (some ⟨q, 0, none⟩) us'.length cap) ts us' jvs' jv ∧
      TkAt B p (OffT p iv (.slice (some ⟨q, 0, none⟩) us'.length cap) (jv :: jvs')) (w.setCell ⟨p, 4, none⟩ (.slice (some ⟨q, 0, none⟩) us'.length cap)) t u jv ∧
      Below B w (w.setCell ⟨p, 4, none⟩ (.slice (some ⟨q, 0, none⟩) us'.length cap)) := by
  obtain ⟨hb, ht, hjb, hxj⟩ := h
  cases ht with
  | @cons _ u jv _ us' jvs' hT hj hk =>
    have hto := hb.«to»
    rw [List.reverse_cons, List.length_append, List.length_reverse, List.length_singleton] at hto
    obtain ⟨q, cap, rfl⟩ := ownsRow_succ hto
    have hcap := row_cap hto
    have hpop := ownsRow_pop (by simp) hto
    have hcell : w.cell? ⟨q, us'.length, none⟩ = some u := by
      obtain ⟨_, h2⟩ := hto
      rcases h2 with ⟨e, _⟩ | ⟨g', cap', cur, e, _, hg, hnc, hcm, hcs, htake⟩
      · cases e
      · cases e
        have h4 : w.cell? ⟨q, us'.length, none⟩ = cur[us'.length]? := by simp [World.cell?, hg]
        have h5 : (us'.reverse ++ [u])[us'.length]? = some u := by
          rw [List.getElem?_append_right (by simp)]; simp
        rw [h4, ← h5, ← htake, List.getElem?_take_of_lt (by omega), Array.getElem?_toList]
    have hset : ∀ b, b ≠ p → (w.setCell ⟨p, 4, none⟩ (.slice (some ⟨q, 0, none⟩) us'.length cap)).heap[b]? = w.heap[b]? := fun b hb => Below.heap_setCell _ _ _ _ (fun e => hb e)
    have hsz : (w.setCell ⟨p, 4, none⟩ (.slice (some ⟨q, 0, none⟩) us'.length cap)).heap.size = w.heap.size := by simp [World.setCell]
    have hg : w.grownBy (w.setCell ⟨p, 4, none⟩ (.slice (some ⟨q, 0, none⟩) us'.length cap)) (some p) := ⟨rfl, rfl, rfl, by rw [hsz]; exact Nat.le_refl _, fun b _ hb => hset b (fun e => hb (by rw [e]))⟩
    have hF : ∀ b, OffT p iv (.slice (some ⟨q, 0, none⟩) (us'.length + 1) cap) (nilS :: jv :: jvs') b → b < w.heap.size → OffT p iv (.slice (some ⟨q, 0, none⟩) us'.length cap) (jv :: jvs') b ∧ ∀ o, (w.setCell ⟨p, 4, none⟩ (.slice (some ⟨q, 0, none⟩) us'.length cap)).cell? ⟨b, o, none⟩ = w.cell? ⟨b, o, none⟩ := fun b hb _ =>
      ⟨⟨hb.1, fun y hm => hb.2 y (List.mem_cons_of_mem _ hm)⟩, fun o => World.cell?_of_block (w := w) (a := ⟨b, o, none⟩) (hset b hb.1.1)⟩
    have hjp : ∀ y ∈ jv :: jvs', ∀ b, y.ownBlock = some b → (w.setCell ⟨p, 4, none⟩ (.slice (some ⟨q, 0, none⟩) us'.length cap)).heap[b]? = w.heap[b]? := fun y hm b hb => hset b (hjb y (List.mem_cons_of_mem _ hm) b hb).1.1
    refine ⟨u, us', jv, jvs', q, cap, rfl, hk.len, rfl, hcap, hcell, ⟨⟨hb.blk.set 4 _, hb.io.kept hg (Or.inr hb.ip), ?_, hb.bp, hb.ip, hb.tp, hb.it⟩, hk.keep (by rw [hsz]; exact Nat.le_refl _) hF (fun y hm b hb => hjp y (List.mem_cons_of_mem _ hm) b hb), fun y hm b hb => ?_, fun b hb => (hj b hb).2⟩, hT.keep (by rw [hsz]; exact Nat.le_refl _) hF (hjp jv (List.mem_cons_self ..)), ⟨rfl, rfl, rfl, by rw [hsz]; exact Nat.le_refl _, fun b hb' => hset b (by have := hb.bp; omega)⟩⟩
    · rw [List.length_reverse]
      exact hpop.kept hg (Or.inr hb.tp)
    · obtain ⟨h1, h2⟩ := hjb y (List.mem_cons_of_mem _ hm) b hb
      exact ⟨h1, by rw [hsz]; exact h2⟩
theorem tkw_one : ∀ t : CTk, 1 ≤ tkw t := fun t => by
  cases t with
  | lay d => have := nsize_one d; simp only [tkw]; omega
  | save _ => exact Nat.le_refl _
  | turn ds => simp only [tkw]; omega
  | branch _ ds _ => simp only [tkw]; omega
  | jumps _ => exact Nat.le_refl _
  | rep _ _ _ _ => exact Nat.le_refl _
theorem tkws_len : ∀ ts : List CTk, ts.length ≤ tkws ts
  | [] => Nat.le_refl _
  | t :: ts => by
    have h1 := tkw_one t
    have h2 := tkws_len ts
    rw [List.length_cons, tkws]; omega
structure WhI (B p : Nat) (w0 : World) (g : Int) (bk : Bool) (T : List Inn × Nat) (n : Nat) (td : List CTk) (us jvs : List Value) (L : List Inn) (K : Nat) (iv tv : Value) (wr : World) : Prop where
  sta : Sta B p wr L g K bk iv tv td us jvs nilS
  eqv : Eqv (dens td (L, K)) T
  fit : ∀ t ∈ td, Fit L.length K t
  bd : Bd L
  pos : 0 < L.length
  le : K ≤ L.length
  len : L.length ≤ 7000
  few : tkws td ≤ n
  low : Below B w0 wr
theorem fit_rep {n k : Nat} {t : CTk} (h : Fit n k t) : (∀ d mn mx, t = .lay (.rep d mn mx) → repOk mn mx) ∧ (∀ ds, t = .lay (.alt ds) → ds ≠ []) := by
  refine ⟨fun d mn mx e => ?_, fun ds e => ?_⟩
  · subst e
    have h : cok (.rep d mn mx) = true := h
    rw [cok, Bool.and_eq_true] at h
    obtain ⟨o1, o2, o3⟩ := okrep_parts h.1
    exact ⟨o1, by omega⟩
  · subst e
    have h : cok (.alt ds) = true := h
    rw [cok, Bool.and_eq_true, decide_eq_true_eq] at h
    intro e
    rw [e] at h
    exact absurd h.1 (by decide)
theorem WhI.next {B p : Nat} {w0 : World} {g : Int} {bk : Bool} {T : List Inn × Nat} {n : Nat} {t : CTk} {td : List CTk} {us jvs us' jvs' : List Value} {L : List Inn} {K : Nat} {iv tv iv' tv' : Value} {wr w' : World} (h : WhI B p w0 g bk T n (t :: td) us jvs L K iv tv wr) (hl : L.length ≤ 3000)
    (hs : Sta B p w' (stp t L K).1.1 g (stp t L K).1.2 bk iv' tv' ((stp t L K).2 ++ td) us' jvs' nilS) (hb : Below B wr w') : ∃ n', n = n' + 1 ∧ WhI B p w0 g bk T n' ((stp t L K).2 ++ td) us' jvs' (stp t L K).1.1 (stp t L K).1.2 iv' tv' w' := by
  have hf := h.fit t (List.mem_cons_self ..)
  obtain ⟨r1, r2⟩ := fit_rep hf
  obtain ⟨a1, a2, a3⟩ := stp_fit t L K hf hl
  have hw := stp_w t L K
  have hfew := h.few
  rw [tkws] at hfew
  have hle := h.le
  have hpos := h.pos
  obtain ⟨g1, g2, g3⟩ := a1
  refine ⟨n - 1, by omega, hs, run_step t td L K T h.eqv r1 r2, fun u hm => ?_, stp_bd t L K hf hl h.le h.bd, by omega, by omega, a2, by rw [tkws_app]; omega, h.low.trans hb⟩
  rcases List.mem_append.1 hm with hm | hm
  · exact a3 u hm
  · exact (h.fit u (List.mem_cons_of_mem _ hm)).up ⟨g1, g2, g3⟩
end Go.Proofs.Ytihfenkphhnbcaa
namespace Go.Proofs.Ytihfenkphhnbcaa
open Go Go.RowKit
set_option linter.unusedVariables false in
set_option linter.unusedSimpArgs false in
set_option maxRecDepth 100000 in
set_option maxHeartbeats 4000000 in
theorem whole_any {B p : Nat} {l0 : List Inn} {g : Int} {bk : Bool} {iv tv v : Value} (d : Nd) (w : World) (h : Bld B p w l0 g 0 bk iv tv []) (hd : NdX (OffC p iv tv) w d v) (hok : cok d = true) (hbd : Bd l0) (hpos : 0 < l0.length) (hlen : l0.length ≤ 3000) (hsz : nsize d ≤ 1000000) :
    Calls Try.prog 23 #[ptr p, v] w fun e w' => e = .returned (.tuple #[]) ∧ (∃ iv' tv' us' L K, Bld B p w' L g K bk iv' tv' us' ∧ Eqv (L, K) (dens [.lay d] (l0, 0)) ∧ Bd L ∧ L.length ≤ 7000 ∧ K ≤ L.length) ∧ Below B w w' := by
  have hsh : (∃ T q, v = .iface T q) ∨ v = .nilIface := hd.elim fun _ h => nd_shape h
  obtain ⟨T0, hT0⟩ : ∃ T, dens [.lay d] (l0, 0) = T := ⟨_, rfl⟩
  rw [hT0]
  have hA : Below w.heap.size w ((w.alloc (.cells #[ptr p] 98)).alloc (.cells #[v] 37)) := ((Below.refl _ w).alloc (Nat.le_refl _) _).alloc (by simp) _
  have hAA : Below w.heap.size w (((w.alloc (.cells #[ptr p] 98)).alloc (.cells #[v] 37)).alloc (.cells #[.func (.func 46) #[] #[ptr w.heap.size, ptr (w.heap.size + 1)]] 1)) := hA.alloc (by simp; omega) _
  have hnew : ∀ y, w.heap.size ≤ y → OffC p iv tv y := fun y hy => ⟨fun e => by have := h.blk.lt; omega, fun e => by have := co_own_lt h.io _ e; omega, fun e => by have := co_own_lt h.«to» _ e; omega⟩
  have hT : ∀ b, OffC p iv tv b → OffT p iv tv [nilS, nilS] b := fun b hb => ⟨hb, fun jv hm e => by
    simp only [List.mem_cons, List.not_mem_nil, or_false] at hm
    rcases hm with rfl | rfl <;> exact absurd e (nil_own b)⟩
  have ht1 := laying_task (B := B) (p := p) (G := OffT p iv tv [nilS, nilS]) hd (fun b hb _ => hT b hb) (hT _ (hnew _ (by omega))) (hT _ (hnew _ (by omega)))
  have hN := next_any [Value.func (.func 46) #[] #[ptr w.heap.size, ptr (w.heap.size + 1)]] (w.heap.size + 2) 1 _ (h.below hAA) (fun j hj => by
    have hR := Blk.new ((w.alloc (.cells #[ptr p] 98)).alloc (.cells #[v] 37)) #[Value.func (.func 46) #[] #[ptr w.heap.size, ptr (w.heap.size + 1)]] 1 (w.heap.size + 2) (by simp)
    rw [hR.cell j]
    match j, hj with
    | 0, _ => rfl) (by simp) (hnew _ (by omega)) (fun u hu => by
    obtain rfl := List.mem_singleton.1 hu
    exact ⟨_, _, _, rfl⟩) (by simp) (by simp)
  have hend : ∀ (w6 : World) (tv6 : Value), Bld B p w6 l0 g 0 bk iv tv6 [Value.func (.func 46) #[] #[ptr w.heap.size, ptr (w.heap.size + 1)]] → CStep p (((w.alloc (.cells #[ptr p] 98)).alloc (.cells #[v] 37)).alloc (.cells #[.func (.func 46) #[] #[ptr w.heap.size, ptr (w.heap.size + 1)]] 1)) iv tv w6 iv tv6 →
      ∃ us jvs, WhI B p w g bk T0 (3 * nsize d) [.lay d] us jvs l0 0 iv tv6 w6 := fun w6 tv6 hB6 hS6 => by
    have hnone : ∀ (W W' : World) (b : Nat), nilS.ownBlock = some b → W'.heap[b]? = W.heap[b]? := fun _ _ b e => absurd e (nil_own b)
    have hX : Below ((w.alloc (.cells #[ptr p] 98)).alloc (.cells #[v] 37)).heap.size ((w.alloc (.cells #[ptr p] 98)).alloc (.cells #[v] 37)) (((w.alloc (.cells #[ptr p] 98)).alloc (.cells #[v] 37)).alloc (.cells #[.func (.func 46) #[] #[ptr w.heap.size, ptr (w.heap.size + 1)]] 1)) := (Below.refl _ _).alloc (Nat.le_refl _) _
    have ht2 := (ht1.keep hX.size (fun b hb hl => ⟨hb, fun o => hX.cell (p := ⟨b, o, none⟩) hl⟩) (hnone _ _)).keep hS6.size (OffT.step (jvs' := [nilS, nilS]) hS6 fun jv hm => .inr hm) (hnone _ _)
    have hone := nsize_one d
    refine ⟨[_], [nilS], ⟨hB6, .cons ht2 (fun b hb => absurd hb (nil_own b)) .nil, fun jv hm b hb => ?_, fun b hb => absurd hb (nil_own b)⟩, .inl hT0, fun t ht => ?_, hbd, hpos, by omega, by omega, by simp only [tkws, tkw]; omega, ((CStep.of_below (p := p) (iv := iv) (tv := tv) hAA).trans hS6).low h⟩
    · simp only [List.mem_cons, List.not_mem_nil, or_false] at hm
      rcases hm with rfl | rfl <;> exact absurd hb (nil_own b)
    · obtain rfl := List.mem_singleton.1 ht
      exact hok
  have Hend := Lib.hid hend
  clear hend ht1 hT hnew hA hAA hd h hT0
  go_enter Try.func23, Try.ntmps23
  go_upto_region 0 with fail
  go_cut [] (fun wx => ∃ us0 jvs0 tv6, WhI B p w g bk T0 (3 * nsize d) [.lay d] us0 jvs0 l0 0 iv tv6 wx)
  case first =>
   rcases hsh with ⟨T, q, rfl⟩ | rfl
   all_goals
    go_wp2_with (first
      | (go_at_call 35; refine (laying_any _ _ _ (by first | exact .inl ⟨_, _, rfl⟩ | exact .inr rfl)).mono ?_; rintro e w4 ⟨rfl, rfl⟩)
      | (go_at_call 34; refine hN.mono ?_; rintro e w6 ⟨rfl, tv6, hB6, hS6⟩; obtain ⟨us0, jvs0, hI⟩ := Hend.out w6 tv6 hB6 hS6; clear hB6 hS6))
    go_meet
    exact ⟨_, _, _, hI⟩
  case rest =>
    obtain ⟨us0, jvs0, tv6, hI⟩ := hcut
    clear hN Hend hsh
    go_wp2_with fail
    go_loopg [] (3 * nsize d + 1) (fun gk wr => ∃ n td us jvs L K iv' tv', n + 1 ≤ gk ∧ n ≤ 3000000 ∧ WhI B p w g bk T0 n td us jvs L K iv' tv' wr)
    case atStart => exact ⟨_, _, _, _, _, _, _, _, Nat.le_refl _, by omega, hI⟩
    case round =>
      clear hI
      obtain ⟨n, td, us, jvs, L, K, iv', tv', hgk, hn, hI⟩ := hrel
      have hTL := toolong_any wr hI.sta.bld
      have p4 := hI.sta.bld.cells.c4
      have z4 := hI.sta.bld.cells.z4
      have HI := Lib.hid hI
      cases td with
      | nil =>
        have hto := hI.sta.bld.«to»
        have hus0 : us.reverse.length = 0 := by have := hI.sta.tod.len; rw [List.length_reverse, this]; rfl
        rw [hus0] at hto
        obtain ⟨a, c, rfl⟩ := co_form hto
        clear hI hto
        go_wp2_with fail
        go_end0
        exact ⟨rfl, ⟨_, _, _, L, K, HI.out.sta.bld, run_end [] (L, K) T0 HI.out.eqv (.inl rfl), HI.out.bd, HI.out.len, HI.out.le⟩, HI.out.low⟩
      | cons t td =>
        obtain ⟨u, us', jv, jvs', q, cap, rfl, hul, rfl, hcap, hcell, hS, hTk, hlow⟩ := hI.sta.pop
        have hfew := hI.few
        have hfl := tkws_len (t :: td)
        rw [List.length_cons] at hfl
        obtain ⟨m, hm⟩ : ∃ m, us'.length = m := ⟨_, rfl⟩
        by_cases hlong : 3000 < L.length
        · have hd : decide (3000 < L.length) = true := decide_eq_true hlong
          rw [hd] at hTL
          rw [hm] at p4
          have hm0 : (0 : Int) < (m : Int) + 1 := by omega
          clear hI hS hTk hlow hcell z4
          go_wp2_with (go_at_call 24; refine hTL.mono ?_; rintro e w5 ⟨rfl, rfl⟩)
          go_end0
          exact ⟨rfl, ⟨_, _, _, L, K, HI.out.sta.bld, run_end (t :: td) (L, K) T0 HI.out.eqv (.inr hlong), HI.out.bd, HI.out.len, HI.out.le⟩, HI.out.low⟩
        · have hd : decide (3000 < L.length) = false := decide_eq_false hlong
          rw [hd] at hTL
          have hC6 := task_any t _ hS hTk (hI.fit t (List.mem_cons_self ..)) hI.pos hI.bd (by omega) (by omega) hI.le
          rw [hm] at p4 hcell hcap hC6 hlow
          have hm0 : (0 : Int) < (m : Int) + 1 := by omega
          have hm1 : (m : Int) < (m : Int) + 1 := by omega
          have hm2 : (m : Int) ≤ (cap : Int) := by omega
          have hm3 : m ≤ cap := by omega
          have Wm : IntKind.i64.wrap ((m : Int) + 1 - 1) = (m : Int) := by rw [IntWalk.i64_in _ (by omega)]; omega
          have Wn : IntKind.i64.wrap (m : Int) = (m : Int) := IntWalk.i64_in _ (by omega)
          clear hI hS hTk hfew hfl
          rcases hC6 with ⟨x, y, rfl, hC⟩ | ⟨x, y, rfl, hC⟩ | ⟨x, y, rfl, hC⟩ | ⟨x, y, z, r, rfl, hC⟩ | ⟨x, y, z, r, rfl, hC⟩ | ⟨x, y, rfl, hC⟩
          all_goals
            go_wp2_with (first
              | (go_at_call 24; refine hTL.mono ?_; clear hTL; rintro e w5 ⟨rfl, rfl⟩)
              | (refine hC.mono ?_; clear hC; rintro e w7 ⟨rfl, ⟨iv7, tv7, us7, jvs7, hS7, _⟩, hlow7⟩))
            obtain ⟨n', hn', hI7⟩ := HI.out.next (by omega) hS7 (hlow.trans hlow7)
            go_roundg (n' + 1)
            case measure => omega
            case rel => exact ⟨n', _, _, _, _, _, _, _, Nat.le_refl _, by omega, hI7⟩
end Go.Proofs.Ytihfenkphhnbcaa
namespace Go.Proofs.Ytihfenkphhnbcaa
open Go Go.RowKit
theorem blk4 {w : World} {b : Nat} {T : TypeId} {v0 v1 v2 v3 : Value} (h : Blk w b #[v0, v1, v2, v3] T) :
    w.cell? ⟨b, 0, none⟩ = some v0 ∧ w.cell? ⟨b, 1, none⟩ = some v1 ∧ w.cell? ⟨b, 2, none⟩ = some v2 ∧ w.cell? ⟨b, 3, none⟩ = some v3 ∧
    w.frozen? ⟨b, 0, none⟩ = false ∧ w.frozen? ⟨b, 1, none⟩ = false ∧ w.frozen? ⟨b, 2, none⟩ = false ∧ w.frozen? ⟨b, 3, none⟩ = false ∧ b < w.heap.size :=
  ⟨(h.cell 0).trans rfl, (h.cell 1).trans rfl, (h.cell 2).trans rfl, (h.cell 3).trans rfl, h.frozen 0, h.frozen 1, h.frozen 2, h.frozen 3, h.lt⟩
theorem blk_like {w w' : World} {p : Nat} {cs : Array Value} {T : TypeId} (h : Blk w p cs T) (e : w'.heap[p]? = w.heap[p]?) : Blk w' p cs T := by
  unfold Blk at h ⊢
  rw [e, h]
theorem put4 {w0 w : World} {p : Nat} {T : TypeId} {u0 u1 u2 u3 : Value} (hb : Below w0.heap.size w0 w) (hp : w0.heap.size ≤ p) (h : Blk w p #[u0, u1, u2, u3] T) (v0 v1 v2 v3 : Value) (w' : World)
    (hw : ((((w.setCell ⟨p, 0, none⟩ v0).setCell ⟨p, 1, none⟩ v1).setCell ⟨p, 2, none⟩ v2).setCell ⟨p, 3, none⟩ v3) = w') :
    Below w0.heap.size w0 w' ∧ Blk w' p #[v0, v1, v2, v3] T ∧ (∀ b, b ≠ p → w'.heap[b]? = w.heap[b]?) ∧ w'.heap.size = w.heap.size := by
  subst hw
  have h9 := (((h.set 0 v0).set 1 v1).set 2 v2).set 3 v3
  have o1 : ∀ (w : World) (j : Nat) (v : Value) b, b ≠ p → (w.setCell ⟨p, j, none⟩ v).heap[b]? = w.heap[b]? := fun w j v b hb => Below.heap_setCell _ _ _ _ (fun e => hb e)
  refine ⟨?_, h9, fun b hb => ?_, by simp [World.setCell]⟩
  · exact (((hb.setCell (p := ⟨p, 0, none⟩) hp v0).setCell (p := ⟨p, 1, none⟩) hp v1).setCell (p := ⟨p, 2, none⟩) hp v2).setCell (p := ⟨p, 3, none⟩) hp v3
  · rw [o1 _ _ _ _ hb, o1 _ _ _ _ hb, o1 _ _ _ _ hb, o1 _ _ _ _ hb]
theorem post4 {P : Program} {fn : Func} {Q : Ending → World → Prop} {e : Exit} {act : Act} {w0 w : World} {p : Nat} {T : TypeId} {u0 u1 u2 u3 : Value} (hb : Below w0.heap.size w0 w) (h : Blk w p #[u0, u1, u2, u3] T) (hp : w0.heap.size ≤ p) {v0 v1 v2 v3 : Value}
    (H : ∀ w', Below w0.heap.size w0 w' → Blk w' p #[v0, v1, v2, v3] T → (∀ b, b ≠ p → w'.heap[b]? = w.heap[b]?) → w'.heap.size = w.heap.size → bodyPost P fn Q e act w') :
    bodyPost P fn Q e act ((((w.setCell ⟨p, 0, none⟩ v0).setCell ⟨p, 1, none⟩ v1).setCell ⟨p, 2, none⟩ v2).setCell ⟨p, 3, none⟩ v3) := by
  obtain ⟨h1, h2, h3, h4⟩ := put4 hb hp h v0 v1 v2 v3 _ rfl
  exact H _ h1 h2 h3 h4
def prg (d : Nd) : List Inn := [ins 3 0 0] ++ cd d 1 0 ++ [ins 3 1 0] ++ [ins 9 0 0]
theorem prg_len (d : Nd) : (prg d).length = csz d + 3 := by simp [prg, cd_len]
abbrev PrV (iv : Value) (g k : Int) (bk : Bool) : Value := .agg #[iv, .int .i64 g, .int .i64 k, .bool bk]
def CompOk (w : World) (d : Nd) (e : Ending) (w' : World) : Prop :=
  Below w.heap.size w w' ∧ ((nrightB d = false ∧ e = .returned (.tuple #[PrV nilS 0 0 false, .int .i64 2])) ∨
    (nrightB d = true ∧ 3000 < csz d + 3 ∧ e = .returned (.tuple #[PrV nilS 0 0 false, .int .i64 3])) ∨
    (nrightB d = true ∧ csz d + 3 ≤ 3000 ∧ ∃ iv, e = .returned (.tuple #[PrV iv (ngroups d : Int) (clp d : Int) (nbacks d), .int .i64 0]) ∧ w'.ownsRow w.heap.size 49 7 iv (prg d).length (inF (prg d))))
theorem bld_new {B p : Nat} (w : World) (g : Int) (bk : Bool) (hp : p = w.heap.size) (hB : B ≤ p) : Bld B p (w.alloc (.cells #[nilS, .int .i64 g, .int .i64 0, .bool bk, nilS] 65)) [] g 0 bk nilS nilS [] :=
  ⟨Blk.new w _ _ p hp, World.ownsRow_nil _ _ _ _, World.ownsRow_nil _ _ _ _, hB, nil_own p, nil_own p, fun b h => absurd h (nil_own b)⟩
theorem own_less {w : World} {B C : Nat} (h : B ≤ C) {e : TypeId} {size n : Nat} {v : Value} {xs : List Value} (k : w.ownsRow C e size v n xs) : w.ownsRow B e size v n xs := by
  obtain ⟨h1, h2⟩ := k
  refine ⟨h1, ?_⟩
  rcases h2 with h2 | ⟨g, cap, cur, a, b, c⟩
  · exact .inl h2
  · exact .inr ⟨g, cap, cur, a, by omega, c⟩
theorem eqv_prg {d : Nd} {L : List Inn} {K : Nat} (h : Eqv (L, K) (dens [.lay d] ([ins 3 0 0], 0))) : (L ++ [ins 3 1 0] ++ [ins 9 0 0] = prg d ∧ K = clp d) ∨ (3000 < L.length ∧ 3000 < csz d + 3) := by
  have e : dens [.lay d] ([ins 3 0 0], 0) = ([ins 3 0 0] ++ cd d 1 0, 0 + clp d) := rfl
  rw [e] at h
  rcases h with h | ⟨h1, h2⟩
  · injection h with h1 h2
    exact .inl ⟨by rw [h1]; rfl, by omega⟩
  · refine .inr ⟨h1, ?_⟩
    simp only [List.length_append, cd_len, List.length_cons, List.length_nil] at h2
    omega
theorem nrightB_cok {d : Nd} (h : nrightB d = true) (hs : nsize d ≤ 1000000) : cok d = true := by
  unfold nrightB at h
  obtain ⟨x, hx⟩ := Option.isSome_iff_exists.1 h
  exact right_cok d 0 [] x hx (by omega) (by simp) (by omega)
set_option linter.unusedVariables false in
set_option linter.unusedSimpArgs false in
set_option maxRecDepth 100000 in
set_option maxHeartbeats 4000000 in
theorem compile_any (d : Nd) (v : Value) (w : World) (hd : NdX (fun k => k < w.heap.size) w d v) (hsz : nsize d ≤ 1000000) : Calls Try.prog 9 #[v] w (CompOk w d) := by
  have hsh : (∃ T q, v = .iface T q) ∨ v = .nilIface := hd.elim fun _ h => nd_shape h
  have hA : Below w.heap.size w (w.alloc (.cells #[nilS, .int .i64 0, .int .i64 0, .bool false] 32)) := (Below.refl _ w).alloc (Nat.le_refl _) _
  have hR0 := Blk.new w #[nilS, .int .i64 0, .int .i64 0, .bool false] 32 w.heap.size rfl
  have hdk : ∀ (W : World), Below w.heap.size w W → NdX (fun k => k < W.heap.size) W d v := fun W hW => hd.keep hW.size fun b hb hl => ⟨Nat.lt_of_lt_of_le hl hW.size, fun o => hW.cell (p := ⟨b, o, none⟩) hl⟩
  have hdw : ∀ (W : World), Below w.heap.size w W → NdX (fun k => k < w.heap.size) W d v := fun W hW => hd.keep hW.size fun b hb hl => ⟨hb, fun o => hW.cell (p := ⟨b, o, none⟩) hl⟩
  have hRt := pright_any d v _ (hdk _ hA) (by omega)
  have HA := Lib.hid hA
  have HR0 := Lib.hid hR0
  have Hdk := Lib.hid hdk
  have Hdw := Lib.hid hdw
  clear hd hdk hdw
  cases hr : nrightB d with
  | false =>
    rw [hr] at hRt
    have HR := Lib.hid hr
    clear hr
    rcases hsh with ⟨T, q, rfl⟩ | rfl
    all_goals
      go_enter Try.func9, Try.ntmps9
      go_upto_region 2 with (go_at_call 20; refine hRt.mono ?_; rintro e w1 ⟨rfl, b1⟩)
      have b01 := HA.out.trans (b1.mono HA.out.size)
      have hR1 := HR0.out.below b1 HR0.out.lt
      obtain ⟨z0, z1, z2, z3, v0, v1, v2, v3, hz⟩ := blk4 hR1
      have HB := Lib.hid b01
      have HK := Lib.hid hR1
      clear b1 b01 hR1 hRt
      go_wp2_with fail
      first
        | (with_reducible refine post4 HB.out HK.out (Nat.le_refl _) ?_; intro w9 hB9 hk9 hs9 hz9)
        | (have hB9 := HB.out; have hk9 := HK.out; generalize w1 = w9 at *)
      clear z0 z1 z2 z3 v0 v1 v2 v3 hz
      obtain ⟨z0, z1, z2, z3, _⟩ := blk4 hk9
      refine bodyPost_ret (v := .tuple #[PrV nilS 0 0 false, .int .i64 2]) (by simp [results, Try.results9, go_sem, z0, z1, z2, z3]) rfl ?_
      exact ⟨hB9, .inl ⟨HR.out, rfl⟩⟩
  | true =>
    have hcok := nrightB_cok hr hsz
    rw [hr] at hRt
    have HR := Lib.hid hr
    have HC := Lib.hid hcok
    clear hr hcok
    go_enter Try.func9, Try.ntmps9
    go_upto_region 3 with (go_at_call 20; refine hRt.mono ?_; clear hRt; rintro e w1 ⟨rfl, b1⟩)
    have b01 := HA.out.trans (b1.mono HA.out.size)
    have k1 := HR0.out.below b1 HR0.out.lt
    have B1 := Lib.hid b01
    have K1 := Lib.hid k1
    clear b1 b01 k1
    go_upto_region 4 with (first
      | (go_at_call 14; refine (pgroups_any d _ _ (Hdk.out _ B1.out) (by omega)).mono ?_; rintro e w2 ⟨rfl, b2⟩; have B2 := Lib.hid (B1.out.trans (b2.mono B1.out.size)); have K2 := Lib.hid (K1.out.below b2 K1.out.lt); clear b2)
      | (go_at_call 21; refine (pbacks_any d _ _ (Hdk.out _ B2.out) (by omega)).mono ?_; rintro e w3 ⟨rfl, b3⟩; have B3 := Lib.hid (B2.out.trans (b3.mono B2.out.size)); have K3 := Lib.hid (K2.out.below b3 K2.out.lt); clear b3))
    obtain ⟨p, hp⟩ : ∃ p, w3.heap.size = p := ⟨_, rfl⟩
    have hk3 := K3.out.lt
    have hB4 := bld_new (B := w.heap.size + 1) w3 (ngroups d : Int) (nbacks d) hp.symm (by omega)
    have hA4 : Below w3.heap.size w3 (w3.alloc (.cells #[nilS, .int .i64 (ngroups d : Int), .int .i64 0, .bool (nbacks d), nilS] 65)) := (Below.refl _ w3).alloc (Nat.le_refl _) _
    have b4 := B3.out.trans (hA4.mono B3.out.size)
    have k4 := K3.out.below hA4 K3.out.lt
    change Code.wp _ _ _ _ (w3.alloc (.cells #[nilS, .int .i64 (ngroups d : Int), .int .i64 0, .bool (nbacks d), nilS] 65))
    generalize w3.alloc (.cells #[nilS, .int .i64 (ngroups d : Int), .int .i64 0, .bool (nbacks d), nilS] 65) = w4 at *
    rw [hp]
    have hL := lay_ins 3 0 0 w4 hB4 (by simp)
    have B4 := Lib.hid b4
    have K4 := Lib.hid k4
    have HB4 := Lib.hid hB4
    have Hp := Lib.hid hp
    clear hA4 b4 k4 hB4 hp
    go_upto_region 5 with (go_at_call 22; refine hL.mono ?_; clear hL; rintro e w5 ⟨rfl, iv5, hB5, hC5, _⟩)
    have l5 := hC5.low HB4.out
    have b5 := B4.out.trans (l5.mono (Nat.le_succ _))
    have k5 := blk_like K4.out (l5.block _ (Nat.lt_succ_self _))
    have hbp := hB5.bp
    have hd5 : NdX (OffC p iv5 nilS) w5 d v := (Hdw.out _ b5).keep (Nat.le_refl _) fun b hb hl => ⟨⟨by omega, fun e => by have := own_of hB5.io b e; omega, nil_own b⟩, fun _ => rfl⟩
    have hW := whole_any d w5 hB5 hd5 HC.out (bd_one (l := []) (fun p i h => by simp at h) ⟨by simp [ins], by simp [ins], by simp [ins], by simp [ins], by simp [ins], by simp [ins]⟩) (by simp) (by simp) hsz
    have B5 := Lib.hid b5
    have K5 := Lib.hid k5
    clear hC5 l5 b5 k5 hd5 hB5
    go_upto_region 6 with (go_at_call 23; refine hW.mono ?_; clear hW; rintro e w6 ⟨rfl, ⟨iv6, tv6, us6, L, K, hB6, hE, _, hL7, hK7⟩, l6⟩)
    have hL := lay_ins 3 1 0 w6 hB6 (by omega)
    have B6 := Lib.hid (B5.out.trans (l6.mono (Nat.le_succ _)))
    have K6 := Lib.hid (blk_like K5.out (l6.block _ (Nat.lt_succ_self _)))
    have HB6 := Lib.hid hB6
    have HE := Lib.hid (eqv_prg hE)
    clear l6 hB6 hE
    go_upto_region 7 with (go_at_call 22; refine hL.mono ?_; clear hL; rintro e w7 ⟨rfl, iv7, hB7, hC7, _⟩)
    have l7 := hC7.low HB6.out
    have hL := lay_ins 9 0 0 w7 hB7 (by simp; omega)
    have B7 := Lib.hid (B6.out.trans (l7.mono (Nat.le_succ _)))
    have K7 := Lib.hid (blk_like K6.out (l7.block _ (Nat.lt_succ_self _)))
    have HB7 := Lib.hid hB7
    clear hC7 l7 hB7
    go_upto_region 8 with (go_at_call 22; refine hL.mono ?_; clear hL; rintro e w8 ⟨rfl, iv8, hB8, hC8, _⟩)
    have l8 := hC8.low HB7.out
    have hTL := toolong_any w8 hB8
    have B8 := Lib.hid (B7.out.trans (l8.mono (Nat.le_succ _)))
    have K8 := Lib.hid (blk_like K7.out (l8.block _ (Nat.lt_succ_self _)))
    have HB8 := Lib.hid hB8
    have hlen8 : (L ++ [ins 3 1 0] ++ [ins 9 0 0]).length = L.length + 2 := by simp
    rw [hlen8] at hTL
    obtain ⟨z0, z1, z2, z3, v0, v1, v2, v3, hz⟩ := blk4 K8.out
    clear hC8 l8
    by_cases hlong : 3000 < L.length + 2
    · have hdl : decide (3000 < L.length + 2) = true := decide_eq_true hlong
      rw [hdl] at hTL
      have hfin : 3000 < csz d + 3 := by
        rcases HE.out with ⟨h1, _⟩ | ⟨_, h2⟩
        · have := congrArg List.length h1
          rw [hlen8, prg_len] at this
          omega
        · exact h2
      clear hB8 hdl hlen8
      go_upto_region 9 with (go_at_call 24; refine hTL.mono ?_; clear hTL; rintro e w5 ⟨rfl, rfl⟩)
      go_wp2_with fail
      first
        | (with_reducible refine post4 B8.out K8.out (Nat.le_refl _) ?_; intro w9 hB9 hk9 hs9 hz9)
        | (have hB9 := B8.out; have hk9 := K8.out)
      clear z0 z1 z2 z3 v0 v1 v2 v3 hz
      obtain ⟨z0, z1, z2, z3, _⟩ := blk4 hk9
      refine bodyPost_ret (v := .tuple #[PrV nilS 0 0 false, .int .i64 3]) (by simp [results, Try.results9, go_sem, z0, z1, z2, z3]) rfl ?_
      exact ⟨hB9, .inr (.inl ⟨HR.out, hfin, rfl⟩)⟩
    · have hdl : decide (3000 < L.length + 2) = false := decide_eq_false hlong
      rw [hdl] at hTL
      have hfin : L ++ [ins 3 1 0] ++ [ins 9 0 0] = prg d ∧ K = clp d := by
        rcases HE.out with h1 | ⟨h2, _⟩
        · exact h1
        · omega
      obtain ⟨h1, rfl⟩ := hfin
      have hpl : csz d + 3 ≤ 3000 := by
        have := congrArg List.length h1
        rw [hlen8, prg_len] at this
        omega
      rw [h1] at hB8
      have hc8 := hB8.cells
      have c0 := hc8.c0
      have c1 := hc8.c1
      have c2 := hc8.c2
      have c3 := hc8.c3
      have HB9 := Lib.hid hB8
      obtain ⟨ia, ic, rfl⟩ := co_form hB8.io
      clear hB8 hdl hlen8 hc8 h1
      go_upto_region 10 with (go_at_call 24; refine hTL.mono ?_; clear hTL; rintro e w5 ⟨rfl, rfl⟩)
      go_wp2_with fail
      with_reducible refine post4 B8.out K8.out (Nat.le_refl _) ?_
      intro w9 hB9 hk9 hs9 hz9
      clear z0 z1 z2 z3 v0 v1 v2 v3 hz c0 c1 c2 c3
      obtain ⟨z0, z1, z2, z3, _⟩ := blk4 hk9
      refine bodyPost_ret (v := .tuple #[PrV (.slice ia (prg d).length ic) (ngroups d : Int) (clp d : Int) (nbacks d), .int .i64 0]) (by simp [results, Try.results9, go_sem, z0, z1, z2, z3]) rfl ?_
      refine ⟨hB9, .inr (.inr ⟨HR.out, hpl, _, rfl, own_less (Nat.le_succ _) (own_row_same HB9.out.io fun b hb => hs9 b fun e => ?_)⟩)⟩
      have := own_of HB9.out.io b hb
      omega
end Go.Proofs.Ytihfenkphhnbcaa
namespace Go.Proofs.Ytihfenkphhnbcaa
open Go Go.RowKit
theorem inst_cells {w : World} {B : Nat} {iv : Value} {l : List Inn} (h : w.ownsRow B 49 7 iv l.length (inF l)) (h0 : 0 < l.length) :
    ∃ q c, iv = .slice (some ⟨q, 0, none⟩) l.length c ∧ B ≤ q ∧ q < w.heap.size ∧ l.length ≤ c ∧ c ≤ maxLen ∧ ∀ j (hj : j < l.length) i, i < 7 → w.cell? ⟨q, j * 7 + i, none⟩ = (inC l[j])[i]? := by
  obtain ⟨h1, h2⟩ := h
  rcases h2 with ⟨_, h3⟩ | ⟨q, cap, cur, rfl, hB, hh, hn, hcap, hcs, htk⟩
  · omega
  · refine ⟨q, cap, rfl, hB, (Array.getElem?_eq_some_iff.1 hh).1, hn, hcap, fun j hj i hi => ?_⟩
    have hlt : j * 7 + i < l.length * 7 := by omega
    have h4 : w.cell? ⟨q, j * 7 + i, none⟩ = cur[j * 7 + i]? := by simp [World.cell?, hh]
    rw [h4, ← inF_take l j hj i hi, ← htk, List.getElem?_take_of_lt hlt, Array.getElem?_toList]
theorem compile_one (s : OSet) (w : World) : Calls Try.prog 9 #[.iface 55 (.agg #[.int .u64 (ow s 0), .int .u64 (ow s 1), .int .u64 (ow s 2), .int .u64 (ow s 3)])] w fun e w' => Below w.heap.size w w' ∧ ∃ q c, e = .returned (.tuple #[PrV (.slice (some ⟨q, 0, none⟩) 4 c) 0 0 false, .int .i64 0]) ∧ 4 ≤ c ∧
    w'.cell? ⟨q, 0, none⟩ = some (.int .i64 3) ∧ w'.cell? ⟨q, 7, none⟩ = some (.int .i64 0) ∧ w'.cell? ⟨q, 21, none⟩ = some (.int .i64 9) := by
  refine (compile_any (.one s) _ w ⟨1, rfl⟩ (by simp [nsize])).mono ?_
  rintro e w' ⟨hb, h | h | ⟨_, _, iv, rfl, ho⟩⟩
  · exact Bool.noConfusion (show true = false from h.1)
  · exact absurd h.2.1 (by simp [csz])
  · obtain ⟨q, c, rfl, _, _, hc, _, hcell⟩ := inst_cells ho (by rw [prg_len]; omega)
    exact ⟨hb, q, c, rfl, hc, hcell 0 (by rw [prg_len]; omega) 0 (by omega), hcell 1 (by rw [prg_len, csz]; omega) 0 (by omega), hcell 3 (by rw [prg_len, csz]; omega) 0 (by omega)⟩
set_option linter.unusedSimpArgs false in
set_option maxRecDepth 100000 in
set_option maxHeartbeats 4000000 in
theorem awake7_any (w : World) : Calls Try.prog 7 #[] w fun e w' => e = .returned (.bool true) ∧ Below w.heap.size w w' := by
  have hO := fun (w' : World) (b : Nat) (hb : b < w'.heap.size) (hc : w'.cell? ⟨b, 0, none⟩ = some (.int .u8 97)) => of_any [97] b 0 1 w' hb (by decide) (fun i hi => by
    obtain rfl : i = 0 := by simp at hi; exact hi
    exact hc) (fun i => by
    match i with
    | 0 => decide
    | i + 1 => simp)
  go_enter Try.func7, Try.ntmps7
  have hB1 := (Below.refl w.heap.size w).alloc (Nat.le_refl _) (.cells #[.int .u8 97] 5)
  have hC1 := hO (w.alloc (.cells #[.int .u8 97] 5)) w.heap.size (by simp) ((Blk.new w #[.int .u8 97] 5 _ rfl).cell 0)
  generalize ofl [97] = s at hC1
  have hC2 := compile_one s
  go_wp2_with (first
    | (go_at_call 15; refine hC1.mono ?_; rintro e w1 ⟨rfl, b1⟩)
    | (go_at_call 9; go_loud (refine (hC2 _).mono ?_; rintro e w2 ⟨b2, q, c, rfl, hc, c0, c1, c2⟩; have hq := World.block_lt_of_cell? _ _ c0; have hbA := (Below.refl w2.heap.size w2).alloc (Nat.le_refl _) (.cells #[.slice (some ⟨q, 0, none⟩) 4 c, .int .i64 0, .int .i64 0, .bool false] 32); have d0 := (hbA.cell (p := ⟨q, 0, none⟩) hq).trans c0; have d1 := (hbA.cell (p := ⟨q, 7, none⟩) hq).trans c1; have d2 := (hbA.cell (p := ⟨q, 21, none⟩) hq).trans c2)))
  go_ret
  refine ⟨rfl, ((hB1.trans (b1.mono hB1.size)).trans (b2.mono (Nat.le_trans hB1.size b1.size))).alloc (Nat.le_trans (Nat.le_trans hB1.size b1.size) b2.size) _⟩
end Go.Proofs.Ytihfenkphhnbcaa
