/- whole: the list of tasks is worked off. -/
import Derived.Test.YtjjhkagpoicimaaCbS
namespace Go.Proofs.Ytjjhkagpoicimaa
open Go Go.RowKit

set_option linter.unusedVariables false in
set_option linter.unusedSimpArgs false in
set_option maxRecDepth 100000 in
set_option maxHeartbeats 4000000 in
theorem whole_any {B p : Nat} {l0 : List Inn} {g : Int} {bk : Bool} {iv tv v : Value} (d : Nd) (w : World) (h : Bld B p w l0 g 0 bk iv tv []) (hd : NdX (OffC p iv tv) w d v) (hok : cok d = true) (hbd : Bd l0) (hpos : 0 < l0.length) (hlen : l0.length ≤ 3000) (hsz : nsize d ≤ 1000000) :
    Calls Try.prog 23 #[ptr p, v] w fun e w' => e = .returned (.tuple #[]) ∧ (∃ iv' tv' us' L K, Bld B p w' L g K bk iv' tv' us' ∧ Eqv (L, K) (dens [.lay d] (l0, 0)) ∧ Bd L ∧ L.length ≤ 7000 ∧ K ≤ L.length) ∧ Below B w w' := by
  have hsh : (∃ T q, v = .iface T q) ∨ v = .nilIface := hd.elim fun _ h => nd_shape h
  obtain ⟨T0, hT0⟩ : ∃ T, dens [.lay d] (l0, 0) = T := ⟨_, rfl⟩
  rw [hT0]
  have hA : Below w.heap.size w ((w.alloc (.cells #[ptr p] 98)).alloc (.cells #[v] 37)) := ((Below.refl _ w).alloc (Nat.le_refl _) _).alloc (by simp) _
  have hAA : Below w.heap.size w (((w.alloc (.cells #[ptr p] 98)).alloc (.cells #[v] 37)).alloc (.cells #[.func (.func 46) #[] #[ptr w.heap.size, ptr (w.heap.size + 1)]] 1)) := hA.alloc (by simp; omega) _
  have hnew : ∀ y, w.heap.size ≤ y → OffC p iv tv y := fun y hy => ⟨fun e => by have := h.blk.lt; omega, fun e => by have := co_own_lt h.io _ e; omega, fun e => by have := co_own_lt h.«to» _ e; omega⟩
  have hT : ∀ b, OffC p iv tv b → OffT p iv tv [nilS, nilS] b := fun b hb => ⟨hb, fun jv hm e => by
    simp only [List.mem_cons, List.not_mem_nil, or_false] at hm
    rcases hm with rfl | rfl <;> exact absurd e (nil_own b)⟩
  have ht1 := laying_task (B := B) (p := p) (G := OffT p iv tv [nilS, nilS]) hd (fun b hb _ => hT b hb) (hT _ (hnew _ (by omega))) (hT _ (hnew _ (by omega)))
  have hN := next_any [Value.func (.func 46) #[] #[ptr w.heap.size, ptr (w.heap.size + 1)]] (w.heap.size + 2) 1 _ (h.below hAA) (fun j hj => by
    have hR := Blk.new ((w.alloc (.cells #[ptr p] 98)).alloc (.cells #[v] 37)) #[Value.func (.func 46) #[] #[ptr w.heap.size, ptr (w.heap.size + 1)]] 1 (w.heap.size + 2) (by simp)
    rw [hR.cell j]
    match j, hj with
    | 0, _ => rfl) (by simp) (hnew _ (by omega)) (fun u hu => by
    obtain rfl := List.mem_singleton.1 hu
    exact ⟨_, _, _, rfl⟩) (by simp) (by simp)
  have hend : ∀ (w6 : World) (tv6 : Value), Bld B p w6 l0 g 0 bk iv tv6 [Value.func (.func 46) #[] #[ptr w.heap.size, ptr (w.heap.size + 1)]] → CStep p (((w.alloc (.cells #[ptr p] 98)).alloc (.cells #[v] 37)).alloc (.cells #[.func (.func 46) #[] #[ptr w.heap.size, ptr (w.heap.size + 1)]] 1)) iv tv w6 iv tv6 →
      ∃ us jvs, WhI B p w g bk T0 (3 * nsize d) [.lay d] us jvs l0 0 iv tv6 w6 := fun w6 tv6 hB6 hS6 => by
    have hnone : ∀ (W W' : World) (b : Nat), nilS.ownBlock = some b → W'.heap[b]? = W.heap[b]? := fun _ _ b e => absurd e (nil_own b)
    have hX : Below ((w.alloc (.cells #[ptr p] 98)).alloc (.cells #[v] 37)).heap.size ((w.alloc (.cells #[ptr p] 98)).alloc (.cells #[v] 37)) (((w.alloc (.cells #[ptr p] 98)).alloc (.cells #[v] 37)).alloc (.cells #[.func (.func 46) #[] #[ptr w.heap.size, ptr (w.heap.size + 1)]] 1)) := (Below.refl _ _).alloc (Nat.le_refl _) _
    have ht2 := (ht1.keep hX.size (fun b hb hl => ⟨hb, fun o => hX.cell (p := ⟨b, o, none⟩) hl⟩) (hnone _ _)).keep hS6.size (OffT.step (jvs' := [nilS, nilS]) hS6 fun jv hm => .inr hm) (hnone _ _)
    have hone := nsize_one d
    refine ⟨[_], [nilS], ⟨hB6, .cons ht2 (fun b hb => absurd hb (nil_own b)) .nil, fun jv hm b hb => ?_, fun b hb => absurd hb (nil_own b)⟩, .inl hT0, fun t ht => ?_, hbd, hpos, by omega, by omega, by simp only [tkws, tkw]; omega, ((CStep.of_below (p := p) (iv := iv) (tv := tv) hAA).trans hS6).low h⟩
    · simp only [List.mem_cons, List.not_mem_nil, or_false] at hm
      rcases hm with rfl | rfl <;> exact absurd hb (nil_own b)
    · obtain rfl := List.mem_singleton.1 ht
      exact hok
  have Hend := Lib.hid hend
  clear hend ht1 hT hnew hA hAA hd h hT0
  go_enter Try.func23, Try.ntmps23
  go_upto_region 0 with fail
  go_cut [] (fun wx => ∃ us0 jvs0 tv6, WhI B p w g bk T0 (3 * nsize d) [.lay d] us0 jvs0 l0 0 iv tv6 wx)
  case first =>
   rcases hsh with ⟨T, q, rfl⟩ | rfl
   all_goals
    go_wp2_with (first
      | (go_at_call 35; refine (laying_any _ _ _ (by first | exact .inl ⟨_, _, rfl⟩ | exact .inr rfl)).mono ?_; rintro e w4 ⟨rfl, rfl⟩)
      | (go_at_call 34; refine hN.mono ?_; rintro e w6 ⟨rfl, tv6, hB6, hS6⟩; obtain ⟨us0, jvs0, hI⟩ := Hend.out w6 tv6 hB6 hS6; clear hB6 hS6))
    go_meet
    exact ⟨_, _, _, hI⟩
  case rest =>
    obtain ⟨us0, jvs0, tv6, hI⟩ := hcut
    clear hN Hend hsh
    go_wp2_with fail
    go_loopg [] (3 * nsize d + 1) (fun gk wr => ∃ n td us jvs L K iv' tv', n + 1 ≤ gk ∧ n ≤ 3000000 ∧ WhI B p w g bk T0 n td us jvs L K iv' tv' wr)
    case atStart => exact ⟨_, _, _, _, _, _, _, _, Nat.le_refl _, by omega, hI⟩
    case round =>
      clear hI
      obtain ⟨n, td, us, jvs, L, K, iv', tv', hgk, hn, hI⟩ := hrel
      have hTL := toolong_any wr hI.sta.bld
      have p4 := hI.sta.bld.cells.c4
      have z4 := hI.sta.bld.cells.z4
      have HI := Lib.hid hI
      cases td with
      | nil =>
        have hto := hI.sta.bld.«to»
        have hus0 : us.reverse.length = 0 := by have := hI.sta.tod.len; rw [List.length_reverse, this]; rfl
        rw [hus0] at hto
        obtain ⟨a, c, rfl⟩ := co_form hto
        clear hI hto
        go_wp2_with fail
        go_end0
        exact ⟨rfl, ⟨_, _, _, L, K, HI.out.sta.bld, run_end [] (L, K) T0 HI.out.eqv (.inl rfl), HI.out.bd, HI.out.len, HI.out.le⟩, HI.out.low⟩
      | cons t td =>
        obtain ⟨u, us', jv, jvs', q, cap, rfl, hul, rfl, hcap, hcell, hS, hTk, hlow⟩ := hI.sta.pop
        have hfew := hI.few
        have hfl := tkws_len (t :: td)
        rw [List.length_cons] at hfl
        obtain ⟨m, hm⟩ : ∃ m, us'.length = m := ⟨_, rfl⟩
        by_cases hlong : 3000 < L.length
        · have hd : decide (3000 < L.length) = true := decide_eq_true hlong
          rw [hd] at hTL
          rw [hm] at p4
          have hm0 : (0 : Int) < (m : Int) + 1 := by omega
          clear hI hS hTk hlow hcell z4
          go_wp2_with (go_at_call 24; refine hTL.mono ?_; rintro e w5 ⟨rfl, rfl⟩)
          go_end0
          exact ⟨rfl, ⟨_, _, _, L, K, HI.out.sta.bld, run_end (t :: td) (L, K) T0 HI.out.eqv (.inr hlong), HI.out.bd, HI.out.len, HI.out.le⟩, HI.out.low⟩
        · have hd : decide (3000 < L.length) = false := decide_eq_false hlong
          rw [hd] at hTL
          have hC6 := task_any t _ hS hTk (hI.fit t (List.mem_cons_self ..)) hI.pos hI.bd (by omega) (by omega) hI.le
          rw [hm] at p4 hcell hcap hC6 hlow
          have hm0 : (0 : Int) < (m : Int) + 1 := by omega
          have hm1 : (m : Int) < (m : Int) + 1 := by omega
          have hm2 : (m : Int) ≤ (cap : Int) := by omega
          have hm3 : m ≤ cap := by omega
          have Wm : IntKind.i64.wrap ((m : Int) + 1 - 1) = (m : Int) := by rw [IntWalk.i64_in _ (by omega)]; omega
          have Wn : IntKind.i64.wrap (m : Int) = (m : Int) := IntWalk.i64_in _ (by omega)
          clear hI hS hTk hfew hfl
          rcases hC6 with ⟨x, y, rfl, hC⟩ | ⟨x, y, rfl, hC⟩ | ⟨x, y, rfl, hC⟩ | ⟨x, y, z, r, rfl, hC⟩ | ⟨x, y, z, r, rfl, hC⟩ | ⟨x, y, rfl, hC⟩
          all_goals
            go_wp2_with (first
              | (go_at_call 24; refine hTL.mono ?_; clear hTL; rintro e w5 ⟨rfl, rfl⟩)
              | (refine hC.mono ?_; clear hC; rintro e w7 ⟨rfl, ⟨iv7, tv7, us7, jvs7, hS7, _⟩, hlow7⟩))
            obtain ⟨n', hn', hI7⟩ := HI.out.next (by omega) hS7 (hlow.trans hlow7)
            go_roundg (n' + 1)
            case measure => omega
            case rel => exact ⟨n', _, _, _, _, _, _, _, Nat.le_refl _, by omega, hI7⟩
end Go.Proofs.Ytjjhkagpoicimaa
