/- The proof's texts Gen, Cmn, AdWa, Idx, RdAB: what the claim reaches of them. -/
import Derived.Test.YtjbnogjkgmkagaaGreatDoorAs02
import Derived.Test.YtjbnogjkgmkagaaGreatDoorAs07
import Derived.Laws.ResultCell
import Derived.Test.YtjbnogjkgmkagaaGreatDoorAs06
import Derived.Test.YtjbnogjkgmkagaaGreatDoorAs03
import Derived.Maps.AppendAt
import Derived.Test.YtjbnogjkgmkagaaGreatDoorAs05
import Derived.Shelf.Strings.Search3
import Derived.Shelf.Strings.Prefix
import Derived.Lib.IndexMore
import Derived.Laws.BytesArg
import Derived.Test.YtjbnogjkgmkagaaGreatDoorAs01
import Derived.Deep.RegionHeld3
import Derived.Deep.QuietTactic
import Derived.BigQuiet
import Derived.Lib.OthersKept
import Derived.Deep.AppendLies
namespace Go.Proofs.YtjbnogjkgmkagaaGreatDoor
open Go Go.RowKit
theorem blk4 {w : World} {b : Nat} {T : TypeId} {v0 v1 v2 v3 : Value} (h : Blk w b #[v0, v1, v2, v3] T) :
  w.cell? ⟨b, 0, none⟩ = some v0 ∧ w.cell? ⟨b, 1, none⟩ = some v1 ∧ w.cell? ⟨b, 2, none⟩ = some v2 ∧ w.cell? ⟨b, 3, none⟩ = some v3 ∧
  w.frozen? ⟨b, 0, none⟩ = false ∧ w.frozen? ⟨b, 1, none⟩ = false ∧ w.frozen? ⟨b, 2, none⟩ = false ∧ w.frozen? ⟨b, 3, none⟩ = false ∧ b < w.heap.size :=
 ⟨(h.cell 0).trans rfl, (h.cell 1).trans rfl, (h.cell 2).trans rfl, (h.cell 3).trans rfl, h.frozen 0, h.frozen 1, h.frozen 2, h.frozen 3, h.lt⟩
theorem blk_like {w w' : World} {p : Nat} {cs : Array Value} {T : TypeId} (h : Blk w p cs T) (e : w'.heap[p]? = w.heap[p]?) : Blk w' p cs T := by
 unfold Blk at h ⊢
 rw [e, h]
theorem put4s {w0 w : World} {p : Nat} {T : TypeId} {u0 u1 u2 u3 : Value} (hb : Below w0.heap.size w0 w) (hp : w0.heap.size ≤ p) (h : Blk w p #[u0, u1, u2, u3] T) (v0 v1 v2 v3 : Value) (w' : World)
  (hw : ((((w.setCell ⟨p, 0, none⟩ v0).setCell ⟨p, 1, none⟩ v1).setCell ⟨p, 2, none⟩ v2).setCell ⟨p, 3, none⟩ v3) = w') :
  Below w0.heap.size w0 w' ∧ Blk w' p #[v0, v1, v2, v3] T ∧ (∀ b, b ≠ p → w'.heap[b]? = w.heap[b]?) ∧ w'.heap.size = w.heap.size := by
 subst hw
 have h9 := (((h.set 0 v0).set 1 v1).set 2 v2).set 3 v3
 have o1 : ∀ (w : World) (j : Nat) (v : Value) b, b ≠ p → (w.setCell ⟨p, j, none⟩ v).heap[b]? = w.heap[b]? := fun w j v b hb => Below.heap_setCell _ _ _ _ (fun e => hb e)
 refine ⟨?_, h9, fun b hb => ?_, by simp [World.setCell]⟩
 ·exact (((hb.setCell (p := ⟨p, 0, none⟩) hp v0).setCell (p := ⟨p, 1, none⟩) hp v1).setCell (p := ⟨p, 2, none⟩) hp v2).setCell (p := ⟨p, 3, none⟩) hp v3
 ·rw [o1 _ _ _ _ hb, o1 _ _ _ _ hb, o1 _ _ _ _ hb, o1 _ _ _ _ hb]
theorem post4 {P : Program} {fn : Func} {Q : Ending → World → Prop} {e : Exit} {act : Act} {w0 w : World} {p : Nat} {T : TypeId} {u0 u1 u2 u3 : Value} (hb : Below w0.heap.size w0 w) (h : Blk w p #[u0, u1, u2, u3] T) (hp : w0.heap.size ≤ p) {v0 v1 v2 v3 : Value}
  (H : ∀ w', Below w0.heap.size w0 w' → Blk w' p #[v0, v1, v2, v3] T → (∀ b, b ≠ p → w'.heap[b]? = w.heap[b]?) → w'.heap.size = w.heap.size → bodyPost P fn Q e act w') :
  bodyPost P fn Q e act ((((w.setCell ⟨p, 0, none⟩ v0).setCell ⟨p, 1, none⟩ v1).setCell ⟨p, 2, none⟩ v2).setCell ⟨p, 3, none⟩ v3) := by
 obtain ⟨h1, h2, h3, h4⟩ := put4s hb hp h v0 v1 v2 v3 _ rfl
 exact H _ h1 h2 h3 h4
theorem post4d {P : Program} {fn : Func} {Q : Ending → World → Prop} {e : Exit} {act : Act} {w0 w : World} {p : Nat} {T : TypeId} {u0 u1 u2 u3 : Value} (hb : Below w0.heap.size w0 w) (h : Blk w p #[u0, u1, u2, u3] T) (hp : w0.heap.size ≤ p) {v0 v1 v2 v3 : Value}
  (H : ∀ w', Below w0.heap.size w0 w' → Blk w' p #[v0, v1, v2, v3] T → (∀ b, b ≠ p → w'.heap[b]? = w.heap[b]?) → w'.heap.size = w.heap.size → bodyPost P fn Q e act w') :
  bodyPost P fn Q e act ((((w.setCell ⟨p, 0, none⟩ v0).setCell ⟨p, 1, none⟩ v1).setCell ⟨p, 2, none⟩ v2).setCell ⟨p, 3, none⟩ v3).drew := by
 obtain ⟨h1, h2, h3, h4⟩ := put4s hb hp h v0 v1 v2 v3 _ rfl
 exact H _ h1.drew h2 h3 h4
theorem own_less {w : World} {B C : Nat} (h : B ≤ C) {e : TypeId} {size n : Nat} {v : Value} {xs : List Value} (k : w.ownsRow C e size v n xs) : w.ownsRow B e size v n xs := by
 obtain ⟨h1, h2⟩ := k
 refine ⟨h1, ?_⟩
 rcases h2 with h2 | ⟨g, cap, cur, a, b, c⟩
 ·exact .inl h2
 ·exact .inr ⟨g, cap, cur, a, by omega, c⟩
theorem blkGrownR {w w' : World} {p : Nat} {r : Option Nat} {cs : Array Value} {T : TypeId} (h : Blk w p cs T) (hg : w.grownBy w' r) (hne : r ≠ some p) : Blk w' p cs T := by
 have hl := h.lt
 unfold Blk at h ⊢
 rw [hg.block p hl (fun e => hne e.symm)]
 exact h
theorem blk3 {w : World} {b : Nat} {T : TypeId} {v0 v1 v2 : Value} (h : Blk w b #[v0, v1, v2] T) :
  w.cell? ⟨b, 0, none⟩ = some v0 ∧ w.cell? ⟨b, 1, none⟩ = some v1 ∧ w.cell? ⟨b, 2, none⟩ = some v2 ∧
  w.frozen? ⟨b, 0, none⟩ = false ∧ w.frozen? ⟨b, 1, none⟩ = false ∧ w.frozen? ⟨b, 2, none⟩ = false ∧ b < w.heap.size :=
 ⟨(h.cell 0).trans rfl, (h.cell 1).trans rfl, (h.cell 2).trans rfl, h.frozen 0, h.frozen 1, h.frozen 2, h.lt⟩
theorem post3 {P : Program} {fn : Func} {Q : Ending → World → Prop} {e : Exit} {act : Act} {w0 w : World} {p : Nat} {T : TypeId} {u0 u1 u2 : Value} (hb : Below w0.heap.size w0 w) (h : Blk w p #[u0, u1, u2] T) (hp : w0.heap.size ≤ p) {v0 v1 v2 : Value}
  (H : ∀ w', Below w0.heap.size w0 w' → Blk w' p #[v0, v1, v2] T → (∀ b, b ≠ p → w'.heap[b]? = w.heap[b]?) → w'.heap.size = w.heap.size → bodyPost P fn Q e act w') :
  bodyPost P fn Q e act (((w.setCell ⟨p, 0, none⟩ v0).setCell ⟨p, 1, none⟩ v1).setCell ⟨p, 2, none⟩ v2) := by
 have o1 : ∀ (w : World) (j : Nat) (v : Value) b, b ≠ p → (w.setCell ⟨p, j, none⟩ v).heap[b]? = w.heap[b]? := fun w j v b hb => Below.heap_setCell _ _ _ _ (fun e => hb e)
 refine H _ ?_ (((h.set 0 v0).set 1 v1).set 2 v2) (fun b hb => ?_) (by simp [World.setCell])
 ·exact ((hb.setCell (p := ⟨p, 0, none⟩) hp v0).setCell (p := ⟨p, 1, none⟩) hp v1).setCell (p := ⟨p, 2, none⟩) hp v2
 ·rw [o1 _ _ _ _ hb, o1 _ _ _ _ hb, o1 _ _ _ _ hb]
theorem blkOfAlloc {w w2 : World} {cs : Array Value} {T : TypeId} (h : w.alloc (.cells cs T) = w2) : Blk w2 w.heap.size cs T := by
 subst h
 exact Blk.new w cs T _ rfl
theorem belowOfAlloc {w w2 : World} {o : Obj} (h : w.alloc o = w2) : Below w.heap.size w w2 := by
 subst h
 exact (Below.refl _ _).alloc (Nat.le_refl _) _
end Go.Proofs.YtjbnogjkgmkagaaGreatDoor
namespace Go.Proofs.YtjbnogjkgmkagaaGreatDoor
open Go Go.RowKit
def markC (m : Nat × Nat) : List Value := [.int .i64 (m.1 : Int), .string ⟨#[92, UInt8.ofNat m.2]⟩]
def marksC (l : List (Nat × Nat)) : List Value := l.flatMap markC
theorem marksC_snoc (l : List (Nat × Nat)) (m : Nat × Nat) : marksC (l ++ [m]) = marksC l ++ markC m := by unfold marksC; rw [List.flatMap_append]; simp
theorem mark_info : ∃ i, Tryz.prog.info? 71 = some i ∧ i.zero = some (.agg #[.int .i64 0, .string ⟨#[]⟩]) ∧ i.size = 2 ∧ i.bytes = 24 := by
 have h : (Tryz.prog.info? 71).map (fun i => (i.zero, i.size, i.bytes)) = some (some (.agg #[.int .i64 0, .string ⟨#[]⟩]), 2, 24) := by kernel_rfl
 obtain ⟨i, hi, he⟩ := Option.map_eq_some_iff.1 h
 injection he with h1 h2
 injection h2 with h2 h3
 exact ⟨i, hi, h1, h2, h3⟩
theorem own_lt' {B : Nat} {w : World} {e : TypeId} {size n : Nat} {v : Value} {us : List Value} (h : w.ownsRow B e size v n us) (g : Nat) (hg : v.ownBlock = some g) : g < w.heap.size := by
 rcases h.2 with ⟨rfl, _⟩ | ⟨g', cap, cur, rfl, _, hh, _⟩
 ·simp [Value.ownBlock] at hg
 ·simp [Value.ownBlock] at hg
  subst hg
  exact (Array.getElem?_eq_some_iff.1 hh).1
structure AtSet (w0 : World) (a : Nat) (t : OSet) (wx : World) : Prop where
 b : Below w0.heap.size w0 wx
 s : Blk wx a #[.int .u64 (ow t 0), .int .u64 (ow t 1), .int .u64 (ow t 2), .int .u64 (ow t 3)] 118
 lo : w0.heap.size ≤ a
theorem blk_four {w : World} {a : Nat} {x y z u : Value} {T : TypeId} (h : Blk w a #[x, y, z, u] T) : w.cell? ⟨a, 0, none⟩ = some x ∧ w.cell? ⟨a, 1, none⟩ = some y ∧ w.cell? ⟨a, 2, none⟩ = some z ∧ w.cell? ⟨a, 3, none⟩ = some u ∧
  w.frozen? ⟨a, 0, none⟩ = false ∧ w.frozen? ⟨a, 1, none⟩ = false ∧ w.frozen? ⟨a, 2, none⟩ = false ∧ w.frozen? ⟨a, 3, none⟩ = false ∧ a < w.heap.size :=
 ⟨(h.cell 0).trans rfl, (h.cell 1).trans rfl, (h.cell 2).trans rfl, (h.cell 3).trans rfl, h.frozen 0, h.frozen 1, h.frozen 2, h.frozen 3, h.lt⟩
theorem xi_len (cl L : List UInt8) (q : Int × Int × Nat) (h0 : cl ≠ []) (h : ivl cl L = some q) : q.2.2 ≤ L.length := by
 unfold ivl at h
 split at h
 ·rename_i hc
  injection h with h
  subst h
  rw [Bool.and_eq_true] at hc
  exact word_len _ _ _ hc.2 h0
 ·cases h
theorem own_form' {w : World} {B : Nat} {e : TypeId} {size n : Nat} {v : Value} {us : List Value} (h : w.ownsRow B e size v n us) : ∃ a c, v = .slice a n c := by
 rcases h.2 with ⟨rfl, h0⟩ | ⟨g, cap, cur, rfl, _⟩
 ·exact ⟨none, 0, by rw [h0]⟩
 ·exact ⟨_, _, rfl⟩
def PAns (r : ReRes (ReSt × Nd)) (w : World) (e : Ending) (w' : World) : Prop := Below w.heap.size w w' ∧ match r with
 | .error q => e = .returned (.tuple #[.nilIface, .slice none 0 0, .int .i64 (q.2 : Int), .int .i64 (q.1 : Int)])
 | .ok q => ∃ v mv, e = .returned (.tuple #[v, mv, .int .i64 0, .int .i64 0]) ∧ NdX (fun b => w.heap.size ≤ b) w' q.2 v ∧ w'.ownsRow w.heap.size 71 2 mv q.1.marks.length (marksC q.1.marks)
theorem rep_none {s : List UInt8} {k : Nat} (h0 : chAt s k 42 = false) (h1 : esAt s k 43 = false) (h2 : esAt s k 63 = false) (h : esAt s k 123 = false) : repAt false s k = .none := by unfold repAt; simp [h0, h1, h2, opAt, h]
theorem rep_star {s : List UInt8} {k : Nat} (h : chAt s k 42 = true) : repAt false s k = .some 0 (-1) 0 (k + 1) := by unfold repAt; rw [if_pos h]
theorem rep_plus {s : List UInt8} {k : Nat} (h0 : chAt s k 42 = false) (h : esAt s k 43 = true) : repAt false s k = .some 1 (-1) 43 (k + 2) := by unfold repAt; simp [h0, opAt, opLen, h]
theorem rep_ask {s : List UInt8} {k : Nat} (h0 : chAt s k 42 = false) (h1 : esAt s k 43 = false) (h : esAt s k 63 = true) : repAt false s k = .some 0 1 63 (k + 2) := by unfold repAt; simp [h0, h1, opAt, opLen, h]
theorem rep_intv {s : List UInt8} {k : Nat} {m n : Int} {j : Nat} (h0 : chAt s k 42 = false) (h1 : esAt s k 43 = false) (h2 : esAt s k 63 = false) (h : esAt s k 123 = true) (hi : intv false s (k + 2) = some (m, n, j)) : repAt false s k = .some m n 0 j := by unfold repAt; simp [h0, h1, h2, opAt, opLen, h, hi]
theorem rep_bad {s : List UInt8} {k : Nat} (h0 : chAt s k 42 = false) (h1 : esAt s k 43 = false) (h2 : esAt s k 63 = false) (h : esAt s k 123 = true) (hi : intv false s (k + 2) = none) : repAt false s k = .bad := by unfold repAt; simp [h0, h1, h2, opAt, opLen, h, hi]
theorem not_oz : (~~~oz : OSet) = oSpan 0 255 := by decide +kernel
end Go.Proofs.YtjbnogjkgmkagaaGreatDoor
namespace Go.Proofs.YtjbnogjkgmkagaaGreatDoor
open Go Go.RowKit
def wmC1 (m : Wm) : List Value := [.int .i64 m.1, .string m.2]
def wmC (l : List Wm) : List Value := l.flatMap wmC1
theorem wmC_snoc (l : List Wm) (m : Wm) : wmC (l ++ [m]) = wmC l ++ wmC1 m := by simp [wmC]
theorem wmC_cons (m : Wm) (l : List Wm) : wmC (m :: l) = wmC1 m ++ wmC l := by simp [wmC]
theorem wmC_app (l k : List Wm) : wmC (l ++ k) = wmC l ++ wmC k := by simp [wmC]
theorem wmC_len (l : List Wm) : (wmC l).length = l.length * 2 := by
 induction l with
 | nil => rfl
 | cons m l ih => rw [wmC_cons, List.length_append, ih]; simp [wmC1]; omega
theorem marksC_wm (l : List (Nat × Nat)) : marksC l = wmC (l.map wmOf) := by
 induction l with
 | nil => rfl
 | cons m l ih =>
  rw [List.map_cons, wmC_cons, ← ih]
  rfl
theorem wmC_at : ∀ (l : List Wm) (j : Nat) (h : j < l.length), (wmC l)[j * 2]? = some (.int .i64 l[j].1) ∧ (wmC l)[j * 2 + 1]? = some (.string l[j].2)
 | [], j, h => by simp at h
 | m :: l, 0, h => by rw [wmC_cons]; exact ⟨rfl, rfl⟩
 | m :: l, j + 1, h => by
  have ih := wmC_at l j (by simpa using h)
  rw [wmC_cons, show (j + 1) * 2 = j * 2 + 1 + 1 by omega, show j * 2 + 1 + 1 + 1 = j * 2 + 1 + 1 + 1 from rfl]
  simpa [wmC1] using ih
theorem wmC1_one (m : Wm) : ∀ u ∈ wmC1 m, u.oneCell' = true := fun u hu => by
 simp only [wmC1, List.mem_cons, List.not_mem_nil, or_false] at hu
 rcases hu with rfl | rfl <;> rfl
theorem wmC_one (l : List Wm) : ∀ u ∈ wmC l, u.oneCell' = true := fun u hu => by
 unfold wmC at hu
 obtain ⟨m, _, h⟩ := List.mem_flatMap.1 hu
 exact wmC1_one m u h
theorem wmC1_new (w : World) (m : Wm) (T : TypeId) : ∀ n u, (wmC1 m)[n]? = some u → (w.alloc (.cells #[.int .i64 m.1, .string m.2] T)).cell? ((⟨w.heap.size, 0, none⟩ : Addr).add n) = some u := by
 have hb := Blk.new w #[.int .i64 m.1, .string m.2] T w.heap.size rfl
 intro n u hu
 rw [Go.WideShapes.add_plain, Nat.zero_add, hb.cell n, ← Array.getElem?_toList]
 exact hu
theorem wm_cells {w : World} {B : Nat} {T : TypeId} {a : Option Addr} {c : Nat} {l : List Wm} (h : w.ownsRow B T 2 (.slice a l.length c) l.length (wmC l)) (h0 : 0 < l.length) :
  ∃ q, a = some ⟨q, 0, none⟩ ∧ q < w.heap.size ∧ l.length ≤ c ∧ c ≤ maxLen ∧ ∀ j (hj : j < l.length), w.cell? ⟨q, j * 2, none⟩ = some (.int .i64 l[j].1) ∧ w.cell? ⟨q, j * 2 + 1, none⟩ = some (.string l[j].2) := by
 obtain ⟨h1, h2⟩ := h
 rcases h2 with ⟨_, h3⟩ | ⟨q, cap, cur, e, hB, hh, hn, hcap, hcs, htk⟩
 ·omega
 ·injection e with e1 _ e2
  subst e1 e2
  refine ⟨q, rfl, (Array.getElem?_eq_some_iff.1 hh).1, hn, hcap, fun j hj => ?_⟩
  have hc : ∀ i, i < l.length * 2 → w.cell? ⟨q, i, none⟩ = (wmC l)[i]? := fun i hi => by
   have h4 : w.cell? ⟨q, i, none⟩ = cur[i]? := by simp [World.cell?, hh]
   rw [h4, ← htk, List.getElem?_take_of_lt hi, Array.getElem?_toList]
  have h5 := wmC_at l j hj
  exact ⟨(hc _ (by omega)).trans h5.1, (hc _ (by omega)).trans h5.2⟩
set_option linter.unusedVariables false in
set_option linter.unusedSimpArgs false in
set_option maxRecDepth 100000 in
set_option maxHeartbeats 2000000 in
theorem pmoved_any (l : List Wm) (a : Option Addr) (cap : Nat) (k : Int) (B : Nat) (w : World) (h : w.ownsRow B 71 2 (.slice a l.length cap) l.length (wmC l)) (hl : l.length ≤ 100000) :
  Calls Tryz.prog 103 #[.slice a l.length cap, .int .i64 k] w fun e w' => ∃ v, e = .returned v ∧ Below w.heap.size w w' ∧ w'.ownsRow w.heap.size 71 2 v l.length (wmC (wmMove k l)) := by
 have Hc := Lib.hid fun h0 => wm_cells h h0
 clear h
 obtain ⟨n, hn⟩ : ∃ n, l.length = n := ⟨_, rfl⟩
 rw [hn] at hl ⊢
 have Hn := Lib.hid hn
 obtain ⟨i0, hi, hz0, hz1, hz2⟩ := mark_info
 clear hn
 go_enter Tryz.func103, Tryz.ntmps103
 go_wp2_with fail
 go_loopw [5, 10] (fun vv i wr => ∃ (j : Nat), j ≤ n ∧ i = .int .i64 j ∧ wr.ownsRow w.heap.size 71 2 vv j (wmC (wmMove k (l.take j))) ∧ Below w.heap.size w wr) (fun _ i _ => n - (intOf i).toNat)
 case atStart => exact ⟨0, by omega, rfl, World.ownsRow_nil _ _ _ _, Below.refl _ _⟩
 case round =>
  obtain ⟨j, hj, rfl, hrow, hb⟩ := hrel
  have Hb := Lib.hid hb
  have Hrow := Lib.hid hrow
  obtain ⟨va, vc, rfl⟩ := own_form' hrow
  clear hb hrow
  by_cases hlt : j < n
  ·obtain ⟨q, rfl, hq, hc1, hc2, hcell⟩ := Hc.out (by rw [Hn.out]; omega)
   rw [Hn.out] at hc1
   have hjl : j < l.length := by rw [Hn.out]; omega
   obtain ⟨e0, e1⟩ := hcell j hjl
   have htk : wmMove k (l.take (j + 1)) = wmMove k (l.take j) ++ [(IntKind.i64.wrap (l[j].1 + k), l[j].2)] := by
    rw [show l.take (j + 1) = l.take j ++ [l[j]] by simp]; unfold wmMove; rw [List.map_append]; rfl
   have Htk := Lib.hid htk
   clear htk hcell
   generalize l[j] = m at e0 e1 Htk
   obtain ⟨mp, mw⟩ := m
   simp only at e0 e1 Htk
   replace e0 := (Hb.out.cell (p := ⟨q, j * 2, none⟩) hq).trans e0
   replace e1 := (Hb.out.cell (p := ⟨q, j * 2 + 1, none⟩) hq).trans e1
   have hji : (j : Int) < (n : Int) := by omega
   have Wj : IntKind.i64.wrap ((j : Int) + 1) = (j : Int) + 1 := IntWalk.i64_in _ (by omega)
   obtain ⟨y, hy⟩ : ∃ y, IntKind.i64.wrap (mp + k) = y := ⟨_, rfl⟩
   rw [hy] at Htk
   have hm1 : j + 1 ≤ maxLen := by unfold maxLen; omega
   have hm2 : (j + 1) * 24 ≤ 140737488355328 := by omega
   have hA1 := (Below.refl wr.heap.size wr).alloc (Nat.le_refl _) (.cells #[.int .i64 mp, .string mw] 71)
   have hX := Blk.new wr #[.int .i64 mp, .string mw] 71 _ rfl
   have hr1 := nd_own_below Hrow.out hA1
   have hb1 := Hb.out.trans (hA1.mono Hb.out.size)
   obtain ⟨W1, hW1⟩ : ∃ W1, wr.alloc (.cells #[.int .i64 mp, .string mw] 71) = W1 := ⟨_, rfl⟩
   rw [hW1] at hX hr1 hb1
   have x0 := (hX.cell 0).trans rfl
   have x1 := (hX.cell 1).trans rfl
   have hxl := hX.lt
   have Hr1 := Lib.hid hr1
   have Hb1 := Lib.hid hb1
   have hbs : w.heap.size ≤ (W1.alloc (.cells #[.int .i64 y, .string mw] 71)).heap.size := by have := hb1.size; simp; omega
   clear hX hr1 hb1 hA1
   go_wp2_with (at_builtin; go_loud (refine wpList_append_own_at _ rfl _ _ 52 rfl w.heap.size 71 i0 (.agg #[.int .i64 0, .string ⟨#[]⟩]) 2 24 Tryz.underlying52 hi hz0 hz1 hz2 rfl (by decide) (.slice va j vc) j (wmC (wmMove k (l.take j))) rfl (nd_own_below Hr1.out ((Below.refl _ W1).alloc (Nat.le_refl _) _)) ⟨W1.heap.size, 0, none⟩ 1 1 (wmC1 (y, mw)) rfl rfl (wmC1_new W1 (y, mw) _) (wmC1_one _) hm1 hm2 hbs ?_; intro v6 w6 hown6 hgr6 _ hat6))
   have HF := Lib.hid (show w6.ownsRow w.heap.size 71 2 v6 (j + 1) (wmC (wmMove k (l.take (j + 1)))) ∧ Below w.heap.size w w6 from by
    refine ⟨by rw [Htk.out, wmC_snoc]; exact hown6, (Hb1.out.alloc Hb1.out.size _).grown hgr6 hbs (fun b hb => own_of Hrow.out b hb)⟩)
   obtain ⟨v6a, v6c, rfl⟩ := own_form' hown6
   clear hown6 hgr6 hat6
   go_roundw
   case rel => exact ⟨j + 1, by omega, by go_num, HF.out.1, HF.out.2⟩
   case measure => simp [intOf]; omega
  ·obtain rfl : n = j := by omega
   have HF := Lib.hid (And.intro Hb.out Hrow.out)
   rw [show l.take n = l by rw [← Hn.out, List.take_length]] at HF
   clear Hb Hrow
   go_wp2_with fail
   go_ret
   exact ⟨_, rfl, HF.out.1, HF.out.2⟩
theorem wmMove_len (k : Int) (l : List Wm) : (wmMove k l).length = l.length := by simp [wmMove]
theorem pmoved' {l : List Wm} {n : Nat} (hn : l.length = n) (a : Option Addr) (cap : Nat) (k : Int) (B : Nat) (w : World) (h : w.ownsRow B 71 2 (.slice a n cap) n (wmC l)) (hl : n ≤ 100000) :
  Calls Tryz.prog 103 #[.slice a n cap, .int .i64 k] w fun e w' => ∃ a' c', e = .returned (.slice a' n c') ∧ Below w.heap.size w w' ∧ w'.ownsRow w.heap.size 71 2 (.slice a' n c') n (wmC (wmMove k l)) := by
 subst hn
 refine (pmoved_any l a cap k B w h hl).mono ?_
 rintro e w' ⟨v, rfl, h1, h2⟩
 obtain ⟨a', c', rfl⟩ := own_form' h2
 exact ⟨a', c', rfl, h1, h2⟩
end Go.Proofs.YtjbnogjkgmkagaaGreatDoor
namespace Go.Proofs.YtjbnogjkgmkagaaGreatDoor
open Go.RowKit Go.Shelf
theorem pconv2 (W : World) (x y : Int) : (convert 46 9 (.slice (some ⟨W.heap.size, 0, none⟩) 2 2)).run Tryz.prog (W.alloc (.cells #[.int .u8 x, .int .u8 y] 5)) = .ok (.string (strOfNums [x, y])) (W.alloc (.cells #[.int .u8 x, .int .u8 y] 5)) :=
 run_convert_bytes_arg _ 46 5 Tryz.underlying46 Tryz.underlying5 _ 0 2 2 [x, y] rfl (fun i hi => by
  rw [(Blk.new W _ _ _ rfl).cell]
  match i, hi with
  | 0, _ => rfl
  | 1, _ => rfl) _ Tryz.underlying9
theorem pconv2d (W : World) (x y : Int) : (convert 46 9 (.slice (some ⟨W.heap.size, 0, none⟩) 2 2)).run Tryz.prog (W.alloc (.cells #[.int .u8 x, .int .u8 y] 5)).drew = .ok (.string (strOfNums [x, y])) (W.alloc (.cells #[.int .u8 x, .int .u8 y] 5)).drew := pconv2 W.drew x y
theorem nums_two (x y : Nat) : (strOfNums [(x : Int), (y : Int)]).data.toList = [UInt8.ofNat x, UInt8.ofNat y] := rfl
theorem ext_list (s : ByteArray) (k : Nat) : (s.extract k s.size).data.toList = s.data.toList.drop k := by
 rw [ByteArray.data_extract, Array.toList_extract, List.extract_eq_take_drop]
 rw [List.take_of_length_le]
 simp
def iren : Go.Shelf.Ren := ⟨fun | 143 => 207 | 217 => 137 | 219 => 120 | 224 => 139 | 225 => 138 | 266 => 157 | 267 => 140 | 314 => 158 | n => n, fun | 3 => 3 | 4 => 4 | 5 => 5 | 9 => 9 | 46 => 239 | 51 => 251 | 146 => 252 | n => n, fun | 1 => 1 | n => n⟩
theorem ilays : Go.Proofs.Lays.n143 Tryz.prog iren := {
 mixed := by kernel_rfl
 f143 := Tryz.func207.trans (congrArg some (by kernel_rfl))
 f217 := Tryz.func137.trans (congrArg some (by kernel_rfl))
 f219 := Tryz.func120.trans (congrArg some (by kernel_rfl))
 f224 := Tryz.func139.trans (congrArg some (by kernel_rfl))
 f225 := Tryz.func138.trans (congrArg some (by kernel_rfl))
 f266 := Tryz.func157.trans (congrArg some (by kernel_rfl))
 f267 := Tryz.func140.trans (congrArg some (by kernel_rfl))
 f314 := Tryz.func158.trans (congrArg some (by kernel_rfl))
 t3 := Tryz.underlying3
 a3 := Tryz.isAgg3
 z3 := Tryz.sizeOf3
 v3 := Tryz.zeroValue3
 t4 := Tryz.underlying4
 a4 := Tryz.isAgg4
 z4 := Tryz.sizeOf4
 v4 := Tryz.zeroValue4
 t5 := Tryz.underlying5
 a5 := Tryz.isAgg5
 z5 := Tryz.sizeOf5
 v5 := Tryz.zeroValue5
 t9 := Tryz.underlying9
 a9 := Tryz.isAgg9
 z9 := Tryz.sizeOf9
 v9 := Tryz.zeroValue9
 t46 := Tryz.underlying239
 a46 := Tryz.isAgg239
 z46 := Tryz.sizeOf239
 v46 := Tryz.zeroValue239
 t51 := Tryz.underlying251
 a51 := Tryz.isAgg251
 z51 := Tryz.sizeOf251
 v51 := Tryz.zeroValue251
 t146 := Tryz.underlying252
 a146 := Tryz.isAgg252
 z146 := Tryz.sizeOf252
 v146 := Tryz.zeroValue252
 g1 := by kernel_rfl }
theorem index_any (s t : ByteArray) (m : Int) (w : World) (hs : s.size < 4294967281) (hm : w.cell? ⟨1, 0, none⟩ = some (.int .i64 m)) :
  Calls Tryz.prog 207 #[.string s, .string t] w fun e w' => e = .returned (.int .i64 (Lib.index s.data.toList t.data.toList)) ∧ w = w' :=
 (Any.strings_Index ilays s t m w hs hm).mono fun _ _ ⟨h1, h2⟩ => ⟨h1, h2.symm⟩
def pren : Go.Shelf.Ren := ⟨fun | 99 => 63 | 206 => 86 | n => n, fun | 3 => 3 | 4 => 4 | 9 => 9 | n => n, fun n => n⟩
theorem play0 : Go.Proofs.Lays.n99 Tryz.prog pren := {
 mixed := by kernel_rfl
 f99 := Tryz.func63.trans (congrArg some (by kernel_rfl))
 f206 := Tryz.func86.trans (congrArg some (by kernel_rfl))
 t3 := Tryz.underlying3
 a3 := Tryz.isAgg3
 z3 := Tryz.sizeOf3
 v3 := Tryz.zeroValue3
 t4 := Tryz.underlying4
 a4 := Tryz.isAgg4
 z4 := Tryz.sizeOf4
 v4 := Tryz.zeroValue4
 t9 := Tryz.underlying9
 a9 := Tryz.isAgg9
 z9 := Tryz.sizeOf9
 v9 := Tryz.zeroValue9 }
theorem prefix_any (s t : ByteArray) (w : World) :
  Calls Tryz.prog 63 #[.string s, .string t] w fun e w' => e = .returned (.bool (Lib.hasPrefix s.data.toList t.data.toList)) ∧ w = w' :=
 (Any.strings_HasPrefix play0 s t w).mono fun _ _ ⟨h1, h2⟩ => ⟨h1, h2.symm⟩
end Go.Proofs.YtjbnogjkgmkagaaGreatDoor
namespace Go.Proofs.YtjbnogjkgmkagaaGreatDoor
open Go Go.RowKit
structure RStep (p : Nat) (w : World) (mv cv : Value) (w' : World) (mv' cv' : Value) : Prop where
 os : w'.os = w.os
 tape : w'.tape = w.tape
 output : w'.output = w.output
 size : w.heap.size ≤ w'.heap.size
 block : ∀ b, b < w.heap.size → b ≠ p → mv.ownBlock ≠ some b → cv.ownBlock ≠ some b → w'.heap[b]? = w.heap[b]? ∧ mv'.ownBlock ≠ some b ∧ cv'.ownBlock ≠ some b
theorem RStep.refl (p : Nat) (w : World) (mv cv : Value) : RStep p w mv cv w mv cv := ⟨rfl, rfl, rfl, Nat.le_refl _, fun _ _ _ h1 h2 => ⟨rfl, h1, h2⟩⟩
theorem RStep.trans {p : Nat} {w w1 w2 : World} {mv cv mv1 cv1 mv2 cv2 : Value} (h : RStep p w mv cv w1 mv1 cv1) (k : RStep p w1 mv1 cv1 w2 mv2 cv2) : RStep p w mv cv w2 mv2 cv2 :=
 ⟨k.os.trans h.os, k.tape.trans h.tape, k.output.trans h.output, Nat.le_trans h.size k.size, fun b hb hp h1 h2 => by
  obtain ⟨e1, e2, e3⟩ := h.block b hb hp h1 h2
  obtain ⟨f1, f2, f3⟩ := k.block b (Nat.lt_of_lt_of_le hb h.size) hp e2 e3
  exact ⟨f1.trans e1, f2, f3⟩⟩
theorem RStep.of_below {p : Nat} {w w' : World} {mv cv : Value} (h : Below w.heap.size w w') : RStep p w mv cv w' mv cv :=
 ⟨h.os, h.tape, h.output, h.size, fun b hb _ h1 h2 => ⟨h.block b hb, h1, h2⟩⟩
def OffR (p : Nat) (mv cv : Value) (b : Nat) : Prop := b ≠ p ∧ mv.ownBlock ≠ some b ∧ cv.ownBlock ≠ some b
theorem RStep.keep {p : Nat} {w w' : World} {mv cv mv' cv' : Value} (h : RStep p w mv cv w' mv' cv') : ∀ b, OffR p mv cv b → b < w.heap.size → OffR p mv' cv' b ∧ ∀ o, w'.cell? ⟨b, o, none⟩ = w.cell? ⟨b, o, none⟩ := fun b hf hb => by
 obtain ⟨e1, e2, e3⟩ := h.block b hb hf.1 hf.2.1 hf.2.2
 exact ⟨⟨hf.1, e2, e3⟩, fun o => World.cell?_of_block (w := w) (a := ⟨b, o, none⟩) e1⟩
structure Rd (B p : Nat) (w : World) (s : ByteArray) (st : ReSt) (es : List Bool) (dep : Nat) (mv cv : Value) : Prop where
 blk : Blk w p #[.string s, .int .i64 (st.pos : Int), mv, cv, .int .i64 (dep : Int)] 213
 mo : w.ownsRow B 71 2 mv st.marks.length (marksC st.marks)
 co : w.ownsRow B 4 1 cv es.length (es.map Value.bool)
 rr : RR es (st.opened : Int) st.closed
 bp : B ≤ p
 mp : mv.ownBlock ≠ some p
 cp : cv.ownBlock ≠ some p
 mc : ∀ b, mv.ownBlock = some b → cv.ownBlock ≠ some b
 pos : st.pos ≤ s.size
 small : s.size ≤ 250
 few : st.marks.length ≤ st.pos ∧ es.length ≤ st.pos
theorem Rd.below {B p : Nat} {w w' : World} {s : ByteArray} {st : ReSt} {es : List Bool} {dep : Nat} {mv cv : Value} (h : Rd B p w s st es dep mv cv) (hb : Below w.heap.size w w') : Rd B p w' s st es dep mv cv :=
 { h with blk := h.blk.below hb h.blk.lt, mo := nd_own_below h.mo hb, co := nd_own_below h.co hb }
structure RdC (w : World) (p : Nat) (s : ByteArray) (k : Int) (mv cv : Value) (d : Int) : Prop where
 c0 : w.cell? ⟨p, 0, none⟩ = some (.string s)
 c1 : w.cell? ⟨p, 1, none⟩ = some (.int .i64 k)
 c2 : w.cell? ⟨p, 2, none⟩ = some mv
 c3 : w.cell? ⟨p, 3, none⟩ = some cv
 c4 : w.cell? ⟨p, 4, none⟩ = some (.int .i64 d)
 z1 : w.frozen? ⟨p, 1, none⟩ = false
 z2 : w.frozen? ⟨p, 2, none⟩ = false
 z3 : w.frozen? ⟨p, 3, none⟩ = false
 z4 : w.frozen? ⟨p, 4, none⟩ = false
theorem Rd.cells {B p : Nat} {w : World} {s : ByteArray} {st : ReSt} {es : List Bool} {dep : Nat} {mv cv : Value} (h : Rd B p w s st es dep mv cv) : RdC w p s (st.pos : Int) mv cv (dep : Int) :=
 ⟨(h.blk.cell 0).trans rfl, (h.blk.cell 1).trans rfl, (h.blk.cell 2).trans rfl, (h.blk.cell 3).trans rfl, (h.blk.cell 4).trans rfl, h.blk.frozen 1, h.blk.frozen 2, h.blk.frozen 3, h.blk.frozen 4⟩
theorem Rd.goto {B p : Nat} {w : World} {s : ByteArray} {st : ReSt} {es : List Bool} {dep : Nat} {mv cv : Value} (h : Rd B p w s st es dep mv cv) (k : Nat) (hk : st.pos ≤ k) (hs : k ≤ s.size) :
  Rd B p (w.setCell ⟨p, 1, none⟩ (.int .i64 (k : Int))) s (st.to k) es dep mv cv ∧ RStep p w mv cv (w.setCell ⟨p, 1, none⟩ (.int .i64 (k : Int))) mv cv := by
 have hset : ∀ b, b ≠ p → (w.setCell ⟨p, 1, none⟩ (.int .i64 (k : Int))).heap[b]? = w.heap[b]? := fun b hb => Below.heap_setCell _ _ _ _ (fun e => hb e)
 have hsz : (w.setCell ⟨p, 1, none⟩ (.int .i64 (k : Int))).heap.size = w.heap.size := by simp [World.setCell]
 refine ⟨{ blk := (h.blk.set 1 (.int .i64 (k : Int))), mo := ?_, co := ?_, rr := h.rr, bp := h.bp, mp := h.mp, cp := h.cp, mc := h.mc, pos := hs, small := h.small, few := ⟨Nat.le_trans h.few.1 hk, Nat.le_trans h.few.2 hk⟩ }, ?_⟩
 ·exact h.mo.kept ⟨rfl, rfl, rfl, by rw [hsz]; exact Nat.le_refl _, fun b _ hb => hset b (fun e => hb (by rw [e]))⟩ (Or.inr h.mp)
 ·exact h.co.kept ⟨rfl, rfl, rfl, by rw [hsz]; exact Nat.le_refl _, fun b _ hb => hset b (fun e => hb (by rw [e]))⟩ (Or.inr h.cp)
 ·exact ⟨rfl, rfl, rfl, by rw [hsz]; exact Nat.le_refl _, fun b _ hp h1 h2 => ⟨hset b hp, h1, h2⟩⟩
set_option linter.unusedSimpArgs false in
set_option maxRecDepth 100000 in
set_option maxHeartbeats 2000000 in
theorem stands_any {B p : Nat} {s : ByteArray} {st : ReSt} {es : List Bool} {dep : Nat} {mv cv : Value} (t : ByteArray) (w : World) (h : Rd B p w s st es dep mv cv) :
  Calls Tryz.prog 172 #[.pointer (some ⟨p, 0, none⟩), .string t] w fun e w' => e = .returned (.bool (wordAt s.data.toList st.pos t.data.toList)) ∧ ∃ n, w' = w.drewN n := by
 obtain ⟨c0, c1, c2, c3, c4, z1, z2, z3, z4⟩ := h.cells
 have hp := h.pos
 have hs := h.small
 have hx := ext_list s st.pos
 have hc := fun w => prefix_any (s.extract st.pos s.size) t w
 rw [hx] at hc
 clear hx h
 unfold wordAt
 go_enter Tryz.func172, Tryz.ntmps172
 go_wp2_with fail
 have hp2 : (st.pos : Int) ≤ (s.size : Int) := by omega
 go_quiet ((go_at_call 63; exact Calls.quiet_of_same ((hc _).mono fun _ _ h => ⟨h.1, h.2.symm⟩)))
 go_wp2_with fail
 go_ret
 exact ⟨rfl, _, rfl⟩
end Go.Proofs.YtjbnogjkgmkagaaGreatDoor
namespace Go.Proofs.YtjbnogjkgmkagaaGreatDoor
open Go Go.RowKit
set_option linter.unusedSimpArgs false in
set_option maxRecDepth 100000 in
set_option maxHeartbeats 2000000 in
theorem skip_no {B p : Nat} {s : ByteArray} {st : ReSt} {es : List Bool} {dep : Nat} {mv cv : Value} (t : ByteArray) (w : World) (h : Rd B p w s st es dep mv cv) (hn : wordAt s.data.toList st.pos t.data.toList = false) :
  Calls Tryz.prog 159 #[.pointer (some ⟨p, 0, none⟩), .string t] w fun e w' => e = .returned (.bool false) ∧ ∃ n, w' = w.drewN n := by
 have hc := stands_any t w h
 rw [hn] at hc
 clear h
 go_enter Tryz.func159, Tryz.ntmps159
 go_wp2_with (go_at_call 172; refine hc.mono ?_; rintro e w' ⟨rfl, n, rfl⟩)
 go_ret
 exact ⟨rfl, n, rfl⟩
set_option linter.unusedSimpArgs false in
set_option maxRecDepth 100000 in
set_option maxHeartbeats 2000000 in
theorem skip_yes {B p : Nat} {s : ByteArray} {st : ReSt} {es : List Bool} {dep : Nat} {mv cv : Value} (t : ByteArray) (w : World) (h : Rd B p w s st es dep mv cv) (hn : wordAt s.data.toList st.pos t.data.toList = true) (h0 : t.data.toList ≠ []) :
  Calls Tryz.prog 159 #[.pointer (some ⟨p, 0, none⟩), .string t] w fun e w' => e = .returned (.bool true) ∧ Rd B p w' s (st.to (st.pos + t.size)) es dep mv cv ∧ RStep p w mv cv w' mv cv := by
 have hc := stands_any t w h
 rw [hn] at hc
 have hl := word_len _ _ _ hn h0
 have e1 : s.data.toList.length = s.size := by simp
 have e2 : t.data.toList.length = t.size := by simp
 rw [e1, e2] at hl
 have hsm := h.small
 have Wn : IntKind.i64.wrap ((st.pos : Int) + (t.size : Int)) = ((st.pos + t.size : Nat) : Int) := by rw [IntWalk.i64_in _ (by omega)]; omega
 have hg := fun n => (h.below (below_drewN (Below.refl w.heap.size w) n)).goto (st.pos + t.size) (by omega) hl
 have hstep := fun n => RStep.of_below (p := p) (mv := mv) (cv := cv) (below_drewN (Below.refl w.heap.size w) n)
 obtain ⟨c0, c1, c2, c3, c4, z1, z2, z3, z4⟩ := h.cells
 have hx : (st.pos : Int) + (t.size : Int) = ((st.pos + t.size : Nat) : Int) := by omega
 clear h hn h0 e1 e2
 have HG := Lib.hid hg
 have HX := Lib.hid hx
 clear hg hx
 go_enter Tryz.func159, Tryz.ntmps159
 go_wp2_with (go_at_call 172; refine hc.mono ?_; rintro e w' ⟨rfl, n, rfl⟩)
 go_ret
 refine ⟨rfl, ?_, ?_⟩
 ·exact (HG.out n).1
 ·exact (hstep n).trans (HG.out n).2
set_option linter.unusedSimpArgs false in
set_option maxRecDepth 100000 in
set_option maxHeartbeats 2000000 in
theorem bends_any (s : ByteArray) (k : Nat) (w : World) :
  Calls Tryz.prog 160 #[.string (s.extract k s.size)] w fun e w' => e = .returned (.bool (endsAt s.data.toList k)) ∧ w = w' := by
 have h1 := fun w => prefix_any (s.extract k s.size) ⟨#[92, 124]⟩ w
 have h2 := fun w => prefix_any (s.extract k s.size) ⟨#[92, 41]⟩ w
 have hx := ext_list s k
 rw [hx] at h1 h2
 rw [ends_words]
 unfold wordAt
 have hE : (s.data.toList.drop k).isEmpty = (s.extract k s.size).toList.isEmpty := by rw [← hx, ByteArray.toList_eq]
 rw [hE]
 generalize s.extract k s.size = r at *
 generalize s.data.toList.drop k = l at *
 clear hE hx
 cases he : r.toList.isEmpty
 ·have e2 : ¬ r.toList = [] := by intro e; rw [e] at he; cases he
  have e1 : (r.toList == []) = false := by rw [beq_eq_false_iff_ne]; exact e2
  cases q1 : Lib.hasPrefix l [92, 124]
  ·rw [show Lib.hasPrefix l (⟨#[92, 124]⟩ : ByteArray).data.toList = false from q1] at h1
   cases q2 : Lib.hasPrefix l [92, 41]
   ·rw [show Lib.hasPrefix l (⟨#[92, 41]⟩ : ByteArray).data.toList = false from q2] at h2
    clear q1 q2
    go_enter Tryz.func160, Tryz.ntmps160
    go_wp2_with (first | (go_at_call_of 63 (ByteArray.mk #[92, 124]); refine (h1 _).mono ?_; rintro e w' ⟨rfl, rfl⟩) | (go_at_call 63; refine (h2 _).mono ?_; rintro e w' ⟨rfl, rfl⟩))
    go_ret
    exact ⟨rfl, rfl⟩
   ·rw [show Lib.hasPrefix l (⟨#[92, 41]⟩ : ByteArray).data.toList = true from q2] at h2
    clear q1 q2
    go_enter Tryz.func160, Tryz.ntmps160
    go_wp2_with (first | (go_at_call_of 63 (ByteArray.mk #[92, 124]); refine (h1 _).mono ?_; rintro e w' ⟨rfl, rfl⟩) | (go_at_call 63; refine (h2 _).mono ?_; rintro e w' ⟨rfl, rfl⟩))
    go_ret
    exact ⟨rfl, rfl⟩
  ·rw [show Lib.hasPrefix l (⟨#[92, 124]⟩ : ByteArray).data.toList = true from q1] at h1
   clear q1
   go_enter Tryz.func160, Tryz.ntmps160
   go_wp2_with (first | (go_at_call_of 63 (ByteArray.mk #[92, 124]); refine (h1 _).mono ?_; rintro e w' ⟨rfl, rfl⟩) | (go_at_call 63; refine (h2 _).mono ?_; rintro e w' ⟨rfl, rfl⟩))
   go_ret
   exact ⟨rfl, rfl⟩
 ·have e2 : r.toList = [] := List.isEmpty_iff.1 he
  have e1 : (r.toList == []) = true := by rw [e2]; rfl
  clear h1 h2
  go_enter Tryz.func160, Tryz.ntmps160
  go_wp2_with fail
  go_ret
  exact ⟨rfl, rfl⟩
set_option maxRecDepth 100000 in
theorem decodeN_hi (n b c d e : Nat) (h : ¬ b < 128) : 127 < (Lib.decodeN n b c d e).1 := by
 unfold Lib.decodeN
 rw [if_neg h]
 repeat' split
 all_goals (simp only; omega)
theorem decode_hi (s : ByteArray) (pos : Nat) (h : ¬ (s.data.toList.getD pos 0).toNat < 128) : 127 < (Utf8.decode s pos).1 := by
 rw [decode_list]
 exact decodeN_hi _ _ _ _ _ h
theorem ext_size (s : ByteArray) (k : Nat) : (s.extract k s.size).size = s.size - k := by
 simp
end Go.Proofs.YtjbnogjkgmkagaaGreatDoor
namespace Go.Proofs.YtjbnogjkgmkagaaGreatDoor
open Go Go.RowKit
theorem Rd.mark {B p : Nat} {W w6 : World} {s : ByteArray} {st : ReSt} {es : List Bool} {dep : Nat} {mv cv v6 : Value} {m : Nat × Nat} (h : Rd B p W s st es dep mv cv)
  (hown : w6.ownsRow B 71 2 v6 (st.marks.length + 1) (marksC st.marks ++ markC m)) (hg : W.grownBy w6 mv.ownBlock) (hat : v6.ownBlock = mv.ownBlock ∨ v6.ownBlock = some W.heap.size) (hfew : st.marks.length + 1 ≤ st.pos) :
  Rd B p (w6.setCell ⟨p, 2, none⟩ v6) s { st with marks := st.marks ++ [m] } es dep v6 cv ∧ RStep p W mv cv (w6.setCell ⟨p, 2, none⟩ v6) v6 cv := by
 have hpl := h.blk.lt
 have hcl := fun b hb => own_lt' h.co b hb
 have hset : ∀ b, b ≠ p → (w6.setCell ⟨p, 2, none⟩ v6).heap[b]? = w6.heap[b]? := fun b hb => Below.heap_setCell _ _ _ _ (fun e => hb e)
 have hsz : (w6.setCell ⟨p, 2, none⟩ v6).heap.size = w6.heap.size := by simp [World.setCell]
 have hv6p : v6.ownBlock ≠ some p := by
  rcases hat with e | e
  ·rw [e]; exact h.mp
  ·rw [e]; intro he; injection he with he; omega
 have hb6 : Blk w6 p #[.string s, .int .i64 (st.pos : Int), mv, cv, .int .i64 (dep : Int)] 213 := by
  have h1 := h.blk
  unfold Blk at h1 ⊢
  rw [hg.block p hpl (fun e => h.mp e.symm)]
  exact h1
 have hco6 := h.co.kept hg (by
  rcases hc : cv.ownBlock with _ | b
  ·exact .inl rfl
  ·refine .inr (fun e => ?_)
   exact h.mc b e.symm hc)
 refine ⟨{ blk := hb6.set 2 v6, mo := ?_, co := ?_, rr := h.rr, bp := h.bp, mp := hv6p, cp := h.cp, mc := ?_, pos := h.pos, small := h.small, few := ⟨by simp; exact hfew, h.few.2⟩ }, ?_⟩
 ·rw [List.length_append, marksC_snoc]
  exact hown.kept ⟨rfl, rfl, rfl, by rw [hsz]; exact Nat.le_refl _, fun b _ hb => hset b (fun e => hb (by rw [e]))⟩ (Or.inr hv6p)
 ·exact hco6.kept ⟨rfl, rfl, rfl, by rw [hsz]; exact Nat.le_refl _, fun b _ hb => hset b (fun e => hb (by rw [e]))⟩ (Or.inr h.cp)
 ·intro b hb
  rcases hat with e | e
  ·exact h.mc b (by rw [← e]; exact hb)
  ·intro hc
   rw [e] at hb
   injection hb with hb
   have := hcl b hc
   omega
 ·refine ⟨hg.os, hg.tape, hg.output, by rw [hsz]; exact hg.size, fun b hb hp h1 h2 => ⟨?_, ?_, h2⟩⟩
  ·rw [hset b hp]
   exact hg.block b hb (fun e => h1 e.symm)
  ·rcases hat with e | e
   ·rw [e]; exact h1
   ·rw [e]; intro he; injection he with he; omega
set_option linter.unusedSimpArgs false in
set_option maxRecDepth 100000 in
set_option maxHeartbeats 2000000 in
theorem skipm_no {B p : Nat} {s : ByteArray} {st : ReSt} {es : List Bool} {dep : Nat} {mv cv : Value} (t : ByteArray) (w : World) (h : Rd B p w s st es dep mv cv) (hn : wordAt s.data.toList st.pos t.data.toList = false) :
  Calls Tryz.prog 142 #[.pointer (some ⟨p, 0, none⟩), .string t] w fun e w' => e = .returned (.bool false) ∧ ∃ n, w' = w.drewN n := by
 have hc := skip_no t w h hn
 obtain ⟨c0, c1, c2, c3, c4, z1, z2, z3, z4⟩ := h.cells
 clear h
 go_enter Tryz.func142, Tryz.ntmps142
 go_wp2_with (go_at_call 159; refine hc.mono ?_; rintro e w' ⟨rfl, n, rfl⟩)
 go_ret
 exact ⟨rfl, n, rfl⟩
set_option linter.unusedSimpArgs false in
set_option maxRecDepth 100000 in
set_option maxHeartbeats 2000000 in
theorem skipm_yes {B p : Nat} {s : ByteArray} {st : ReSt} {es : List Bool} {dep : Nat} {mv cv : Value} (c : Nat) (w : World) (h : Rd B p w s st es dep mv cv) (hn : wordAt s.data.toList st.pos [92, UInt8.ofNat c] = true) :
  Calls Tryz.prog 142 #[.pointer (some ⟨p, 0, none⟩), .string ⟨#[92, UInt8.ofNat c]⟩] w fun e w' => e = .returned (.bool true) ∧ ∃ mv', Rd B p w' s ((st.mark c).to (st.pos + 2)) es dep mv' cv ∧ RStep p w mv cv w' mv' cv := by
 obtain ⟨i0, hi, hz0, hz1, hz2⟩ := mark_info
 have hc := skip_yes ⟨#[92, UInt8.ofNat c]⟩ w h hn (by simp)
 rw [show (ByteArray.mk #[92, UInt8.ofNat c]).size = 2 from rfl] at hc
 have hs := h.small
 have hp := h.pos
 have hfew := h.few.1
 obtain ⟨c0, c1, c2, c3, c4, z1, z2, z3, z4⟩ := h.cells
 have hb0 := Nat.le_trans h.bp (Nat.le_of_lt h.blk.lt)
 clear h
 go_enter Tryz.func142, Tryz.ntmps142
 go_wp2_with fail
 refine hc.mono ?_
 rintro e w1 ⟨rfl, hR, hS⟩
 clear hc c0 c1 c2 c3 c4 z1 z2 z3 z4
 obtain ⟨c0, c1, c2, c3, c4, z1, z2, z3, z4⟩ := hR.cells
 have hA := (Below.refl w1.heap.size w1).alloc (Nat.le_refl _) (.cells #[.int .i64 (st.pos : Int), .string ⟨#[92, UInt8.ofNat c]⟩] 71)
 have hRA := hR.below hA
 have hpl := hR.blk.lt
 have hSA := hS.trans (RStep.of_below (p := p) (mv := mv) (cv := cv) hA)
 have hnw : ∀ j u, (markC (st.pos, c))[j]? = some u → (w1.alloc (.cells #[.int .i64 (st.pos : Int), .string ⟨#[92, UInt8.ofNat c]⟩] 71)).cell? ((⟨w1.heap.size, 0, none⟩ : Addr).add j) = some u := by
  have hb := Blk.new w1 #[.int .i64 (st.pos : Int), .string ⟨#[92, UInt8.ofNat c]⟩] 71 w1.heap.size rfl
  intro j u hu
  rw [Go.WideShapes.add_plain, Nat.zero_add, hb.cell j, ← Array.getElem?_toList]
  exact hu
 have hv1 : ∀ u ∈ markC (st.pos, c), u.oneCell' = true := by intro u hu; simp [markC] at hu; rcases hu with rfl | rfl <;> rfl
 have hm1 : (st.to (st.pos + 2)).marks.length + 1 ≤ maxLen := by show st.marks.length + 1 ≤ _; unfold maxLen; omega
 have hm2 : ((st.to (st.pos + 2)).marks.length + 1) * 24 ≤ 140737488355328 := by show (st.marks.length + 1) * 24 ≤ _; omega
 have hbase : B ≤ w1.heap.size := Nat.le_trans hR.bp (Nat.le_of_lt hpl)
 have HS := Lib.hid hSA
 have HR := Lib.hid hRA
 clear hA hRA hSA hR hS
 go_wp2_with (at_builtin; refine wpList_append_any _ rfl _ _ 52 rfl B 71 i0 (.agg #[.int .i64 0, .string ⟨#[]⟩]) 2 24 Tryz.underlying52 hi hz0 hz1 hz2 rfl (by decide) mv _ _ rfl HR.out.mo (some ⟨w1.heap.size, 0, none⟩) 1 1 (markC (st.pos, c)) rfl rfl (fun _ => ⟨_, rfl, hnw⟩) hv1 hm1 hm2 (by simp; omega) ?_; intro v6 w6 hown6 hgrow6 hat6; have HM := Lib.hid (HR.out.mark (m := (st.pos, c)) hown6 hgrow6 hat6 (by show st.marks.length + 1 ≤ st.pos + 2; omega)); have hfz : w6.frozen? ⟨p, 2, none⟩ = false := (hgrow6.frozen_far ⟨p, 2, none⟩ (by simp; omega) (fun e => HR.out.mp e.symm)).trans (HR.out.blk.frozen 2); have hce : w6.cell? ⟨p, 2, none⟩ = some mv := (hgrow6.cell_far ⟨p, 2, none⟩ (by simp; omega) (fun e => HR.out.mp e.symm)).trans ((HR.out.blk.cell 2).trans rfl); obtain ⟨g, gcap, hv6, _, _⟩ := World.ownsRow.form hown6 (Nat.succ_pos _); subst hv6; clear hown6 hgrow6 hat6 hnw c0 c1 c2 c3 c4 z1 z2 z3 z4)
 go_ret
 exact ⟨rfl, _, HM.out.1, HS.out.trans HM.out.2⟩
end Go.Proofs.YtjbnogjkgmkagaaGreatDoor
