/- CodeSizes, walked. -/
import Derived.Test.YtjjhkagpoicimaaClI
import Derived.Test.YtjjhkagpoicimaaTrRight
import Derived.Test.YtjjhkagpoicimaaTrFew
import Derived.Test.YtjjhkagpoicimaaTrReal
import Derived.Test.YtjjhkagpoicimaaNdInner
namespace Go.Proofs.Ytjjhkagpoicimaa
open Go Go.RowKit

set_option linter.unusedSimpArgs false in
set_option maxRecDepth 100000 in
set_option maxHeartbeats 4000000 in
theorem right7 (N : Nat) (t : Tr) (a : Option Addr) (cap : Nat) (w : World) (h : TrD N w t a cap) (hkn : tknown t = true) (hb : ngroups (canon t) ≤ 4000000) :
    Calls Try.prog 16 #[tV t a cap] w fun e w' => e = .returned (.bool (nrightB (canon t))) ∧ Below w.heap.size w w' := by
  have hW := (Below.refl w.heap.size w).alloc (Nat.le_refl _) (.cells (tC t a cap) 27)
  have hI := rright_any N t a cap 0 [] none 0 _ (h.below hW) hkn (IntsAt.nil _) (by omega) (by omega) (by simp; exact hb)
  unfold nrightB
  generalize nright (canon t) 0 [] = R at hI ⊢
  clear h
  unfold tV at hI ⊢
  simp only [List.length_nil] at hI
  go_enter Try.func16, Try.ntmps16
  go_wp2_with fail
  refine hI.mono ?_
  clear hI
  rintro e w1 ⟨he, b1⟩
  cases R with
  | none =>
    replace he : e = _ := he
    subst he
    go_wp2_with fail
    go_ret
    exact ⟨rfl, hW.trans (b1.mono hW.size)⟩
  | some q =>
    obtain ⟨a9, cap9, rfl, h9⟩ := he
    clear h9
    go_wp2_with fail
    go_ret
    exact ⟨rfl, hW.trans (b1.mono hW.size)⟩
theorem few7 {n : Nat} {w : World} {t : Tr} {a : Option Addr} {cap : Nat} (h : TrAt n w t a cap) (hb : tall t ≤ 1048576) (most : Int) (k : Nat) (hk : (k : Int) = most) :
    ∃ f : Bool, ∀ w', Below w.heap.size w w' → Calls Try.prog 8 #[tV t a cap, .int .i64 most] w' fun e w2 => e = .returned (.bool f) ∧ Below w'.heap.size w' w2 := by
  subst hk
  exact ⟨_, fun w' hw => lfew_any n t a cap k w' (TrAt.below hw _ _ _ _ h) (by omega)⟩
theorem size7 (t : Tr) (h : tall t ≤ 1048576) : nsize (canon t) ≤ 4000000 := by
  have := nsize_tall t
  omega
theorem trd7 {n : Nat} {w : World} {t : Tr} {a : Option Addr} {cap : Nat} (h : TrAt n w t a cap) : ∃ N, TrD N w t a cap := ⟨2 * n + 1, n, h, by have := kb_le t; omega⟩
/-- A right tree's canon has no more groups than nodes. -/
theorem real7 {N : Nat} {t : Tr} {a : Option Addr} {cap : Nat} {w : World} (h : TrD N w t a cap) (hs : nsize (canon t) ≤ 4000000) :
    Calls Try.prog 10 #[tV t a cap] w fun e w' => ∃ (T : TypeId) (v : Value), e = .returned (.iface T v) ∧ NdX (fun b => b < w'.heap.size) w' (canon t) (.iface T v) ∧ Below w.heap.size w w' := by
  refine (lreal_any N t a cap w h hs).mono ?_
  rintro e w' ⟨T, v, rfl, hd, hb⟩
  exact ⟨T, v, rfl, NdX.keep (F := fun b => w.heap.size ≤ b) (Nat.le_refl _) (fun b _ hl => ⟨hl, fun _ => rfl⟩) ⟨N, hd⟩, hb⟩
end Go.Proofs.Ytjjhkagpoicimaa
namespace Go.Proofs.Ytjjhkagpoicimaa
open Go Go.RowKit

/-- What Compile answers of a right tree without a Rep, of few parts. -/
theorem compile_norep (d : Nd) (v : Value) (w : World) (hd : NdX (fun k => k < w.heap.size) w d v) (hsz : nsize d ≤ 900) (hr : nrightB d = true) (hn : noRep d = true) :
    Calls Try.prog 9 #[v] w fun e w' => Below w.heap.size w w' ∧ ∃ ia c g bk, e = .returned (.tuple #[PrV (.slice ia (csz d + 3) c) g 0 bk, .int .i64 0]) := by
  have h3 := norep_size d hn
  refine (compile_any d v w hd (by omega)).mono ?_
  rintro e w' ⟨hb, h | h | ⟨_, _, iv, rfl, ho⟩⟩
  · rw [hr] at h; exact absurd h.1 (by decide)
  · have := h.2.1; omega
  · obtain ⟨ia, c, rfl⟩ := co_form ho
    rw [prg_len, norep_clp d hn]
    exact ⟨hb, ia, c, _, _, rfl⟩
theorem few_small {t : Tr} (h : (decide (tall t ≤ 100) && tknown t) = true) : tall t ≤ 100 ∧ tknown t = true := by
  rw [Bool.and_eq_true, decide_eq_true_eq] at h
  exact h
set_option linter.unusedSimpArgs false in
set_option maxRecDepth 100000 in
set_option maxHeartbeats 4000000 in
theorem sizes7_all (n : Nat) (t : Tr) (a : Option Addr) (ca : Nat) (w : World) (ht : TrAt n w t a ca) (h1 : tall t ≤ 1048576) :
    Calls Try.prog 6 #[tV t a ca] w fun e w' => e = .returned (.bool true) ∧ Below w.heap.size w w' := by
  have hT := Blk.new w (tC t a ca) 27 _ rfl
  have hB := (Below.refl w.heap.size w).alloc (Nat.le_refl _) (.cells (tC t a ca) 27)
  have hF := fun (w' : World) (hb : Below w.heap.size w w') => lfew_any n t a ca 100 w' (TrAt.below hb _ _ _ _ ht) (by omega)
  obtain ⟨N, hN⟩ := trd7 ht
  have HN := Lib.hid hN
  clear ht hN
  obtain ⟨f1, hf1⟩ : ∃ f1, (decide (tall t ≤ 100) && tknown t) = f1 := ⟨_, rfl⟩
  rw [hf1] at hF
  have Hf1 := Lib.hid hf1
  clear hf1 h1
  unfold tV at hF ⊢
  go_enter Try.func6, Try.ntmps6
  go_wp2_with fail
  refine (awake7_any _).mono ?_
  rintro e w1 ⟨rfl, b1⟩
  replace hB := hB.trans (b1.mono hB.size)
  replace hT := hT.below b1 hT.lt
  have hc := blk9 hT
  clear b1
  cases f1
  · obtain ⟨c0, c1, c2, c3, c4, c5, c6, c7, c8⟩ := hc
    go_wp2_with (first | (go_at_call 8; refine (hF _ hB).mono ?_; clear hF; rintro e w2 ⟨rfl, b2⟩; replace hB := hB.trans (b2.mono hB.size)) | (go_at_call 7; refine (awake7_any _).mono ?_; rintro e w3 ⟨rfl, b3⟩))
    go_ret
    exact ⟨rfl, hB.trans (b3.mono hB.size)⟩
  · obtain ⟨hs1, hs2⟩ := few_small Hf1.out
    have hz := nsize_tall t
    have hg := ngroups_size (canon t)
    have hRt := fun (w' : World) (hb : Below w.heap.size w w') => right7 N t a ca w' (HN.out.below hb) hs2 (by omega)
    obtain ⟨R, hR⟩ : ∃ R, nrightB (canon t) = R := ⟨_, rfl⟩
    rw [hR] at hRt
    unfold tV at hRt
    have HR := Lib.hid hR
    have Hz := Lib.hid (show nsize (canon t) ≤ 200 by omega)
    clear hs1 hs2 hz hg hR
    cases R
    · obtain ⟨c0, c1, c2, c3, c4, c5, c6, c7, c8⟩ := hc
      go_wp2_with (first
        | (go_at_call 8; refine (hF _ hB).mono ?_; clear hF; rintro e w2 ⟨rfl, b2⟩; replace hB := hB.trans (b2.mono hB.size); replace hT := hT.below b2 hT.lt; clear c0 c1 c2 c3 c4 c5 c6 c7 c8 b2; obtain ⟨c0, c1, c2, c3, c4, c5, c6, c7, c8⟩ := blk9 hT)
        | (go_at_call 16; refine (hRt _ hB).mono ?_; clear hRt; rintro e w4 ⟨rfl, b4⟩; replace hB := hB.trans (b4.mono hB.size))
        | (go_at_call 7; refine (awake7_any _).mono ?_; rintro e w3 ⟨rfl, b3⟩))
      go_ret
      exact ⟨rfl, hB.trans (b3.mono hB.size)⟩
    · have hcok := nrightB_cok HR.out (by have := Hz.out; omega)
      have hI := fun (w' : World) (hb : Below w.heap.size w w') => linst_any N t a ca w' (HN.out.below hb) (by have := Hz.out; omega) hcok
      have hRl := fun (w' : World) (hb : Below w.heap.size w w') => real7 (HN.out.below hb) (by have := Hz.out; omega)
      obtain ⟨M, hM⟩ : ∃ M, noRep (canon t) = M := ⟨_, rfl⟩
      rw [hM] at hI
      have HM := Lib.hid hM
      unfold tV at hI hRl
      clear hcok hM
      obtain ⟨c0, c1, c2, c3, c4, c5, c6, c7, c8⟩ := hc
      cases M
      · simp only [Bool.false_eq_true, if_false] at hI
        go_wp2_with (first
          | (go_at_call 8; refine (hF _ hB).mono ?_; clear hF; rintro e w2 ⟨rfl, b2⟩; replace hB := hB.trans (b2.mono hB.size); replace hT := hT.below b2 hT.lt; clear c0 c1 c2 c3 c4 c5 c6 c7 c8 b2; obtain ⟨c0, c1, c2, c3, c4, c5, c6, c7, c8⟩ := blk9 hT)
          | (go_at_call 16; refine (hRt _ hB).mono ?_; clear hRt; rintro e w4 ⟨rfl, b4⟩; replace hB := hB.trans (b4.mono hB.size); replace hT := hT.below b4 hT.lt; clear c0 c1 c2 c3 c4 c5 c6 c7 c8 b4; obtain ⟨c0, c1, c2, c3, c4, c5, c6, c7, c8⟩ := blk9 hT)
          | (go_at_call 17; refine (hI _ hB).mono ?_; clear hI; rintro e w5 ⟨rfl, b5⟩; replace hB := hB.trans (b5.mono hB.size)))
        go_ret
        exact ⟨rfl, hB⟩
      · simp only [if_true] at hI
        have hC := fun (w' : World) (v : Value) (hd : NdX (fun k => k < w'.heap.size) w' (canon t) v) => compile_norep (canon t) v w' hd (by have := Hz.out; omega) HR.out HM.out
        have hcz : csz (canon t) ≤ 600 := by have := norep_size _ HM.out; have := Hz.out; omega
        obtain ⟨C, hCz⟩ : ∃ C, csz (canon t) = C := ⟨_, rfl⟩
        rw [hCz] at hcz
        simp only [hCz] at hI hC
        have Wc : IntKind.i64.wrap ((C : Int) + 3) = (C : Int) + 3 := IntWalk.i64_in _ (by omega)
        clear hCz hcz
        go_wp2_with (first
          | (go_at_call 8; refine (hF _ hB).mono ?_; clear hF; rintro e w2 ⟨rfl, b2⟩; replace hB := hB.trans (b2.mono hB.size); replace hT := hT.below b2 hT.lt; clear c0 c1 c2 c3 c4 c5 c6 c7 c8 b2; obtain ⟨c0, c1, c2, c3, c4, c5, c6, c7, c8⟩ := blk9 hT)
          | (go_at_call 16; refine (hRt _ hB).mono ?_; clear hRt; rintro e w4 ⟨rfl, b4⟩; replace hB := hB.trans (b4.mono hB.size); replace hT := hT.below b4 hT.lt; clear c0 c1 c2 c3 c4 c5 c6 c7 c8 b4; obtain ⟨c0, c1, c2, c3, c4, c5, c6, c7, c8⟩ := blk9 hT)
          | (go_at_call 17; refine (hI _ hB).mono ?_; clear hI; rintro e w5 ⟨rfl, b5⟩; replace hB := hB.trans (b5.mono hB.size); replace hT := hT.below b5 hT.lt; clear c0 c1 c2 c3 c4 c5 c6 c7 c8 b5; obtain ⟨c0, c1, c2, c3, c4, c5, c6, c7, c8⟩ := blk9 hT)
          | (go_at_call 10; refine (hRl _ hB).mono ?_; clear hRl; rintro e w6 ⟨T, v, rfl, hd6, b6⟩; replace hB := hB.trans (b6.mono hB.size); have hC6 := hC w6 _ hd6; clear hC hd6)
          | (go_at_call 9; refine hC6.mono ?_; clear hC6; rintro e w7 ⟨b7, ia, c, g7, bk7, rfl⟩; replace hB := hB.trans (b7.mono hB.size)))
        go_ret
        exact ⟨by simp, hB.alloc hB.size _⟩
end Go.Proofs.Ytjjhkagpoicimaa
