/- Package files, walked: the names, rising. -/
import Derived.Test.YtnognicabhgmcaaDoorFiSo
import Derived.Test.YtnognicabhgmcaaDoorFiRw
import Derived.Sort.Walk0
namespace Go.Proofs.YtnognicabhgmcaaDoor
open Go Go.RowKit Go.Maps Go.Sort Go.Shelf

theorem bl_lt (x y : List UInt8) : bl x y = decide (x < y) := bytesLess_eq x y
theorem srt_le {l : List Fl} (h : Srt l) : (l.map (·.1)).Pairwise fun a b => decide (a ≤ b) = true := by
  unfold Srt at h
  rw [List.pairwise_map]
  refine h.imp fun {a b} hab => ?_
  rw [bl_lt, decide_eq_true_iff] at hab
  rw [decide_eq_true_iff]
  exact List.not_lt.1 fun hc => by
    have h1 : bl b.1 a.1 = true := by rw [bl_lt, decide_eq_true_iff]; exact hc
    have h2 : bl a.1 b.1 = true := by rw [bl_lt, decide_eq_true_iff]; exact hab
    rw [bl_asymm h2] at h1
    cases h1
theorem srt_nodup {l : List Fl} (h : Srt l) : (l.map (·.1)).Nodup := by
  unfold Srt at h
  unfold List.Nodup
  rw [List.pairwise_map]
  exact h.imp fun {a b} hab => bl_ne hab
theorem lines_mem {l : List Fl} {x : List UInt8} : (fLines l x).isSome = true ↔ x ∈ l.map (·.1) := by
  induction l with
  | nil => simp [fLines]
  | cons f l ih =>
    unfold fLines
    by_cases e : f.1 = x
    · subst e; simp
    · rw [if_neg e, ih, List.map_cons, List.mem_cons]
      exact ⟨.inr, fun h => h.resolve_left (Ne.symm e)⟩
theorem sorted_srt {l : List Fl} (h : Srt l) {ss : List (List UInt8)} (hp : ss.Perm (l.map (·.1))) : (ss.mergeSort fun x y => decide (x ≤ y)) = l.map (·.1) := by
  rw [mergeSort_of_perm hp]
  exact List.mergeSort_of_pairwise (srt_le h)
theorem own_keys {H : Type} {w : World} {R : Value → Option (DataW H × List MemPlace)} {b n : Nat} {D : DataW H} (hown : w.ownsMap Tryd.prog 9 R b n D) {l : List Fl} (h : Srt l) (hh : ∀ x, Maps.has D (.string x) = (fLines l x).isSome) : (l.map (·.1)).Perm (strKeys D) := by
  obtain ⟨es, hD, hpw, _⟩ := hown.entries (string_keyed Tryd.underlying9)
  obtain ⟨es', hD', hko⟩ := hown.keysOf
  obtain rfl : es = es' := by rw [hD] at hD'; simpa using hD'
  subst hD
  exact perm_strKeys hpw (fun p hp => by obtain ⟨v, hv⟩ := hko p hp; obtain ⟨x, _, hx, _⟩ := Maps.keyOf_str Tryd.underlying9 hv; exact ⟨x, hx⟩) (srt_nodup h) fun x => by rw [hh x, ← lines_mem]
theorem keys_size {H : Type} {D : DataW H} (hD : Go.Maps.IsMap D) : (strKeys D).length = Maps.size D := by obtain ⟨es, rfl⟩ := hD; simp [strKeys, Maps.size]
theorem fikeys_any (mb : Option Nat) (W : World) : Calls Tryd.prog 26 #[.map mb] W fun e w' => e = .returned (.func (.func 32) #[] #[.pointer (some ⟨W.heap.size, 0, none⟩)]) ∧ w' = W.alloc (.cells #[.map mb] 52) :=
  (callsIn_wide (n := 5)).1 (AnyZ.keys_in fikeysL Fence.wide 5 trivial rfl mb W)
theorem fisorted_any {H : Type} {b nn : Nat} {D0 : DataW H} {R : Value → Option (DataW H × List MemPlace)} {w : World} (hown : w.ownsMap Tryd.prog 9 R b nn D0) (hmax : Maps.size D0 ≤ 1000) :
    Calls Tryd.prog 25 #[.func (.func 32) #[] #[.pointer (some ⟨w.heap.size, 0, none⟩)]] (w.alloc (.cells #[.map (some b)] 52)) fun e w' => ∃ (v : Value) (ss : List (List UInt8)), e = .returned v ∧ ss.Perm (strKeys D0) ∧
      w'.ownsRow w.heap.size 9 1 v ss.length ((ss.mergeSort (fun x y => decide (x ≤ y))).map encStr) ∧ Below w.heap.size w w' := by
  have hbl := hown.lt
  have hseq : SeqGives Fence.wide 2 Tryd.prog 32 #[.pointer (some ⟨w.heap.size, 0, none⟩)] encStr (fun ss => ss.Perm (strKeys D0)) (Maps.size D0) (w.alloc (.cells #[.map (some b)] 52)) :=
    AnyZ.keys_gives (ρ := fiso) { fikeysL with } Fence.wide _ trivial rfl (by omega) w.heap.size b nn D0 _ (by simp) (by simp) (by
      obtain ⟨es, clock, hb, Ft, hs, hD⟩ := hown
      exact ⟨es, clock, (Below.heap_alloc _ _ b hbl).trans hb, Ft, hs, hD⟩)
  have cS := AnyZ.sorted_in fisortedL Fence.wide 5 trivial trivial trivial trivial rfl (by omega) (fisorts _) (enters_of Tryd.func31 (by kernel_rfl) rfl) 32 #[.pointer (some ⟨w.heap.size, 0, none⟩)] trivial (enters_of Tryd.func32 (by kernel_rfl) rfl) _ _ (by unfold maxLen; omega) (by omega) _ hseq
  refine (callsIn_wide.1 cS).mono ?_
  rintro e w' ⟨v, ss, rfl, hS, hrow, _, hb⟩
  exact ⟨v, ss, rfl, hS, ownsRow_base_a hrow (by simp), ((Below.refl _ w).alloc (Nat.le_refl _) _).trans (hb.mono (by simp))⟩
end Go.Proofs.YtnognicabhgmcaaDoor
