/- The proof's texts RfM, RfW, RfV: what the claim reaches of them. -/
import Derived.Test.YtkejeiopfblkgaaGreatDoorBp14
import Derived.Deep.RegionLaw
import Derived.Deep.RegionHeld3
import Derived.Maps.OwnSet
import Derived.Test.YtkejeiopfblkgaaGreatDoorBp15
namespace Go.Proofs.YtkejeiopfblkgaaGreatDoor
open Go Go.RowKit
theorem rmark_info : ∃ i, Tryz.prog.info? 70 = some i ∧ i.zero = some (.agg #[.int .i64 0, .string ⟨#[]⟩]) ∧ i.size = 2 ∧ i.bytes = 24 := by
 have h : (Tryz.prog.info? 70).map (fun i => (i.zero, i.size, i.bytes)) = some (some (.agg #[.int .i64 0, .string ⟨#[]⟩]), 2, 24) := by kernel_rfl
 obtain ⟨i, hi, he⟩ := Option.map_eq_some_iff.1 h
 injection he with h1 h2
 injection h2 with h2 h3
 exact ⟨i, hi, h1, h2, h3⟩
theorem rf_row_same {w w' : World} {base : Nat} {e : TypeId} {size : Nat} {v : Value} {n : Nat} {xs : List Value} (h : w.ownsRow base e size v n xs) (hs : ∀ b, v.ownBlock = some b → w'.heap[b]? = w.heap[b]?) : w'.ownsRow base e size v n xs := by
 obtain ⟨h1, h2⟩ := h
 refine ⟨h1, ?_⟩
 rcases h2 with h2 | ⟨g, cap, cur, hv, hg, hh, r⟩
 ·exact Or.inl h2
 ·exact Or.inr ⟨g, cap, cur, hv, hg, (hs g (by rw [hv]; rfl)).trans hh, r⟩
theorem rf_grown {w w' : World} {b : Nat} {cs : Array Value} {T : TypeId} {r : Option Nat} (h : Blk w b cs T) (hg : w.grownBy w' r) (hr : r ≠ some b) : Blk w' b cs T := by
 have hlt := h.lt
 unfold Blk at h ⊢
 rw [hg.block b hlt (fun e => hr e.symm)]
 exact h
theorem own_cells {base : Nat} {e : TypeId} {size : Nat} {v : Value} {n : Nat} {xs : List Value} {w : World} (h : w.ownsRow base e size v n xs) :
  ∃ a cap, v = .slice a n cap ∧ xs.length = n * size ∧ (0 < n → ∃ g, a = some ⟨g, 0, none⟩ ∧ g < w.heap.size ∧ ∀ j u, xs[j]? = some u → w.cell? ⟨g, j, none⟩ = some u) := by
 obtain ⟨h1, h2⟩ := h
 rcases h2 with ⟨rfl, hz⟩ | ⟨g, cap, cur, rfl, hg, hh, hn, hcap, hcs, htk⟩
 ·exact ⟨none, 0, by rw [hz], h1, fun h0 => by omega⟩
 ·refine ⟨_, cap, rfl, h1, fun _ => ⟨g, rfl, (Array.getElem?_eq_some_iff.1 hh).1, fun j u hu => ?_⟩⟩
  have hj : j < n * size := by
   have := (List.getElem?_eq_some_iff.1 hu).1
   omega
  have h3 : w.cell? ⟨g, j, none⟩ = cur[j]? := by simp [World.cell?, hh]
  rw [h3, ← Array.getElem?_toList]
  rw [← htk, List.getElem?_take_of_lt hj] at hu
  exact hu
set_option linter.unusedSimpArgs false in
set_option maxRecDepth 100000 in
set_option maxHeartbeats 40000000 in
theorem rmark_own {F : Nat → Prop} (s : ByteArray) (ere : Bool) (at' op : Nat) (cv mv : Value) (ms : List (Nat × Nat)) (c : Nat) (w : World) (hc : ∃ a l c, cv = .slice a l c) (hm : RowC F w 2 mv ms.length (marksC ms)) (hl : ms.length ≤ 1000) :
  Calls Tryz.prog 58 #[.agg (rfC s ere at' op cv mv 0 0), .string ⟨#[92, UInt8.ofNat c]⟩] w fun e w' => ∃ mv', e = .returned (.agg (rfC s ere at' op cv mv' 0 0)) ∧ w'.ownsRow 0 70 2 mv' (ms ++ [(at', c)]).length (marksC (ms ++ [(at', c)])) ∧ (∀ k, mv'.ownBlock = some k → w.heap.size ≤ k) ∧ Below w.heap.size w w' := by
 obtain ⟨ca, cl, cc, rfl⟩ := hc
 obtain ⟨i0, hi, hz0, hz1, hz2⟩ := rmark_info
 obtain ⟨ma, mc, rfl, hml, hmx0⟩ := hm
 have hmx : 0 < ms.length → ∃ g, ma = some ⟨g, 0, none⟩ ∧ g < w.heap.size ∧ ∀ j u, (marksC ms)[j]? = some u → w.cell? ⟨g, j, none⟩ = some u := fun h0 => by obtain ⟨g, e, _, hl, hx⟩ := hmx0 h0; exact ⟨g, e, hl, hx⟩
 clear hmx0
 obtain ⟨V, hV⟩ : ∃ V, V = (w.alloc (.cells (rfC s ere at' op (.slice ca cl cc) (.slice ma ms.length mc) 0 0) 87)).alloc (.cells (rfC ByteArray.empty false 0 0 (.slice none 0 0) (.slice none 0 0) 0 0) 87) := ⟨_, rfl⟩
 have hVb : Below w.heap.size w V := by rw [hV]; exact ((Below.refl _ _).alloc (Nat.le_refl _) _).alloc (by simp) _
 have hVs : V.heap.size = w.heap.size + 2 := by rw [hV]; simp
 have hK0 : Blk V w.heap.size (rfC s ere at' op (.slice ca cl cc) (.slice ma ms.length mc) 0 0) 87 := by rw [hV]; exact (Blk.new w _ _ _ rfl).alloc _
 have hK1 : Blk V (w.heap.size + 1) (rfC ByteArray.empty false 0 0 (.slice none 0 0) (.slice none 0 0) 0 0) 87 := by rw [hV]; exact Blk.new _ _ _ _ (by simp)
 have hnews : 0 < ms.length → ∃ a, ma = some a ∧ ∀ j u, (marksC ms)[j]? = some u → ∀ W, Below V.heap.size V W → W.cell? (a.add j) = some u := fun h0 => by
  obtain ⟨g, rfl, hg, hx⟩ := hmx h0
  refine ⟨_, rfl, fun j u hu W hb => ?_⟩
  rw [Go.WideShapes.add_plain, Nat.zero_add]
  exact (hb.cell (p := ⟨g, j, none⟩) (by rw [hVs]; show g < w.heap.size + 2; omega)).trans ((hVb.cell (p := ⟨g, j, none⟩) hg).trans (hx j u hu))
 have h1 : ∀ u ∈ marksC ms, u.oneCell' = true := fun u hu => by
  unfold marksC at hu
  obtain ⟨q, _, hq⟩ := List.mem_flatMap.1 hu
  simp [markC] at hq
  rcases hq with rfl | rfl <;> rfl
 have q2 : V.cell? ⟨w.heap.size, 2, none⟩ = some (.int .i64 (at' : Int)) := (hK0.cell 2).trans rfl
 have q5 : V.cell? ⟨w.heap.size, 5, none⟩ = some (.slice ma ms.length mc) := (hK0.cell 5).trans rfl
 have p0 : w.heap.size < V.heap.size := by omega
 have p1 : w.heap.size + 1 < V.heap.size := by omega
 have HVs := Lib.hid hVs
 have HV := Lib.hid hV
 have hm1 : 0 + ms.length ≤ maxLen := by unfold maxLen; omega
 have hm2 : (0 + ms.length) * 24 ≤ 140737488355328 := by omega
 have hv1 : ∀ u ∈ markC (at', c), u.oneCell' = true := by intro u hu; simp [markC] at hu; rcases hu with rfl | rfl <;> rfl
 have hm3 : ms.length + 1 ≤ maxLen := by unfold maxLen; omega
 have hm4 : (ms.length + 1) * 24 ≤ 140737488355328 := by omega
 have hnew1 : ∀ W : World, ∀ j u, (markC (at', c))[j]? = some u → (W.alloc (.cells #[.int .i64 (at' : Int), .string ⟨#[92, UInt8.ofNat c]⟩] 70)).cell? ((⟨W.heap.size, 0, none⟩ : Addr).add j) = some u := fun W j u hu => by
  rw [Go.WideShapes.add_plain, Nat.zero_add, (Blk.new W _ _ _ rfl).cell j, ← Array.getElem?_toList]
  exact hu
 clear hmx hVs
 go_enter Tryz.func58, Tryz.ntmps58
 go_upto_region 1 with fail
 rw [show (w.alloc (Obj.cells (rfC s ere at' op (.slice ca cl cc) (.slice ma ms.length mc) 0 0) 87)).alloc (Obj.cells #[.string ⟨#[]⟩, .bool false, .int .i64 0, .int .i64 0, .slice none 0 0, .slice none 0 0, .int .i64 0, .int .i64 0] 87) = V from hV.symm]
 clear hV
 go_cut [] (fun wx => ∃ a7 c7, Blk wx w.heap.size (rfC s ere at' op (.slice ca cl cc) (.slice a7 (ms.length + 1) c7) 0 0) 87 ∧ Blk wx (w.heap.size + 1) (rfC ByteArray.empty false 0 0 (.slice none 0 0) (.slice none 0 0) 0 0) 87 ∧ wx.ownsRow 0 70 2 (.slice a7 (ms.length + 1) c7) (ms.length + 1) (marksC ms ++ markC (at', c)) ∧ Below w.heap.size V wx ∧ (Value.slice a7 (ms.length + 1) c7).ownBlock ≠ some (w.heap.size + 1) ∧ ∀ k, (Value.slice a7 (ms.length + 1) c7).ownBlock = some k → w.heap.size ≤ k)
 case first =>
  go_region_law (first
   | (refine step_append_any rfl _ _ 37 rfl 0 70 i0 (.agg #[.int .i64 0, .string ⟨#[]⟩]) 2 24 Tryz.underlying37 hi hz0 hz1 hz2 rfl (by decide) (.slice (some ⟨V.heap.size, 0, none⟩) 0 0) 0 [] rfl (nd_own_below (own_empty (base := 0) V 70 2 V.heap.size rfl (Nat.zero_le _)) (by repeat (first | (with_reducible exact Below.refl _ _) | refine Below.drew ?_ | refine Below.alloc ?_ (by first | omega | (simp; done) | (simp; omega)) _))) ma ms.length mc (marksC ms) rfl hml (fun h0 => by obtain ⟨a, ha, hx⟩ := hnews h0; exact ⟨a, ha, fun j u hu => hx j u hu _ (by repeat (first | (with_reducible exact Below.refl _ _) | refine Below.drew ?_ | refine Below.alloc ?_ (by first | omega | (simp; done) | (simp; omega)) _))⟩) h1 hm1 hm2 (Nat.zero_le _) ?_; intro v6 w6 hown6 hgrow6 hat6; obtain ⟨a6, c6, hv6⟩ := own_form' hown6; rw [Nat.zero_add] at hv6; subst hv6; simp only [Nat.zero_add, List.nil_append] at hown6; (try simp only [Nat.zero_add] at hat6); have H7 : Hid ((Value.slice a6 ms.length c6).ownBlock ≠ some w.heap.size ∧ (Value.slice a6 ms.length c6).ownBlock ≠ some (w.heap.size + 1)) := Lib.hid (by constructor <;> (intro x; rcases hat6 with h | h <;> (rw [h] at x; simp [Value.ownBlock] at x; omega))); have H6 : Hid (∀ k, (Value.slice a6 ms.length c6).ownBlock = some k → w.heap.size ≤ k) := Lib.hid (by intro k x; rcases hat6 with h | h <;> (rw [h] at x; simp [Value.ownBlock] at x; omega)); have hR6 : Blk w6 (w.heap.size + 1) (rfC ByteArray.empty false 0 0 (.slice none 0 0) (.slice none 0 0) 0 0) 87 := rf_grown (hK1.below (by repeat (first | (with_reducible exact Below.refl _ _) | refine Below.drew ?_ | refine Below.alloc ?_ (by first | omega | (simp; done) | (simp; omega)) _)) hK1.lt) hgrow6 (fun x => by simp [Value.ownBlock] at x; omega); have HR6 := Lib.hid hR6; have hb6 : Below w.heap.size V w6 := ((by repeat (first | (with_reducible exact Below.refl _ _) | refine Below.drew ?_ | refine Below.alloc ?_ (by first | omega | (simp; done) | (simp; omega)) _) : Below w.heap.size V _).grown hgrow6 (by first | omega | (simp; done) | (simp; omega)) (fun k hk => by simp [Value.ownBlock] at hk; omega)); have hB6 : Blk w6 w.heap.size (rfC s ere at' op (.slice ca cl cc) (.slice ma ms.length mc) 0 0) 87 := rf_grown (hK0.below (by repeat (first | (with_reducible exact Below.refl _ _) | refine Below.drew ?_ | refine Below.alloc ?_ (by first | omega | (simp; done) | (simp; omega)) _)) hK0.lt) hgrow6 (fun x => by simp [Value.ownBlock] at x; omega); have r2 : w6.cell? ⟨w.heap.size, 2, none⟩ = some (.int .i64 (at' : Int)) := (hB6.cell 2).trans rfl; have r5 : w6.cell? ⟨w.heap.size, 5, none⟩ = some (.slice ma ms.length mc) := (hB6.cell 5).trans rfl; have g5 := hB6.frozen 5; have l6 := hB6.lt; have l6' := HR6.out.lt;  (try (have hX6 : Blk w6 (V.heap.size + 1) #[.int .i64 (at' : Int), .string ⟨#[92, UInt8.ofNat c]⟩] 70 := rf_grown (hg := hgrow6) (h := by first | exact Blk.new _ _ _ _ (by simp) | exact (Blk.new _ _ _ _ (by simp)).drew) (hr := fun x => by simp [Value.ownBlock] at x))); have HO6 := Lib.hid hown6; have HB6 := Lib.hid hB6; have HBB := Lib.hid hb6; clear hown6 hB6 hb6 hgrow6 hat6 hR6)
   | (refine step_append_any rfl _ _ 37 rfl 0 70 i0 (.agg #[.int .i64 0, .string ⟨#[]⟩]) 2 24 Tryz.underlying37 hi hz0 hz1 hz2 rfl (by decide) (.slice (some ⟨V.heap.size + 1, 0, none⟩) 0 0) 0 [] rfl (nd_own_below (own_empty (base := 0) (V.alloc (.cells #[.int .i64 (at' : Int), .string ⟨#[92, UInt8.ofNat c]⟩] 70)) 70 2 (V.heap.size + 1) (by simp) (Nat.zero_le _)) (by repeat (first | (with_reducible exact Below.refl _ _) | refine Below.drew ?_ | refine Below.alloc ?_ (by first | omega | (simp; done) | (simp; omega)) _))) ma ms.length mc (marksC ms) rfl hml (fun h0 => by obtain ⟨a, ha, hx⟩ := hnews h0; exact ⟨a, ha, fun j u hu => hx j u hu _ (by repeat (first | (with_reducible exact Below.refl _ _) | refine Below.drew ?_ | refine Below.alloc ?_ (by first | omega | (simp; done) | (simp; omega)) _))⟩) h1 hm1 hm2 (Nat.zero_le _) ?_; intro v6 w6 hown6 hgrow6 hat6; obtain ⟨a6, c6, hv6⟩ := own_form' hown6; rw [Nat.zero_add] at hv6; subst hv6; simp only [Nat.zero_add, List.nil_append] at hown6; (try simp only [Nat.zero_add] at hat6); have H7 : Hid ((Value.slice a6 ms.length c6).ownBlock ≠ some w.heap.size ∧ (Value.slice a6 ms.length c6).ownBlock ≠ some (w.heap.size + 1)) := Lib.hid (by constructor <;> (intro x; rcases hat6 with h | h <;> (rw [h] at x; simp [Value.ownBlock] at x; omega))); have H6 : Hid (∀ k, (Value.slice a6 ms.length c6).ownBlock = some k → w.heap.size ≤ k) := Lib.hid (by intro k x; rcases hat6 with h | h <;> (rw [h] at x; simp [Value.ownBlock] at x; omega)); have hR6 : Blk w6 (w.heap.size + 1) (rfC ByteArray.empty false 0 0 (.slice none 0 0) (.slice none 0 0) 0 0) 87 := rf_grown (hK1.below (by repeat (first | (with_reducible exact Below.refl _ _) | refine Below.drew ?_ | refine Below.alloc ?_ (by first | omega | (simp; done) | (simp; omega)) _)) hK1.lt) hgrow6 (fun x => by simp [Value.ownBlock] at x; omega); have HR6 := Lib.hid hR6; have hb6 : Below w.heap.size V w6 := ((by repeat (first | (with_reducible exact Below.refl _ _) | refine Below.drew ?_ | refine Below.alloc ?_ (by first | omega | (simp; done) | (simp; omega)) _) : Below w.heap.size V _).grown hgrow6 (by first | omega | (simp; done) | (simp; omega)) (fun k hk => by simp [Value.ownBlock] at hk; omega)); have hB6 : Blk w6 w.heap.size (rfC s ere at' op (.slice ca cl cc) (.slice ma ms.length mc) 0 0) 87 := rf_grown (hK0.below (by repeat (first | (with_reducible exact Below.refl _ _) | refine Below.drew ?_ | refine Below.alloc ?_ (by first | omega | (simp; done) | (simp; omega)) _)) hK0.lt) hgrow6 (fun x => by simp [Value.ownBlock] at x; omega); have r2 : w6.cell? ⟨w.heap.size, 2, none⟩ = some (.int .i64 (at' : Int)) := (hB6.cell 2).trans rfl; have r5 : w6.cell? ⟨w.heap.size, 5, none⟩ = some (.slice ma ms.length mc) := (hB6.cell 5).trans rfl; have g5 := hB6.frozen 5; have l6 := hB6.lt; have l6' := HR6.out.lt;  (try (have hX6 : Blk w6 V.heap.size #[.int .i64 (at' : Int), .string ⟨#[92, UInt8.ofNat c]⟩] 70 := rf_grown (hg := hgrow6) (h := by first | exact (Blk.new _ _ _ _ (by simp)).alloc _ | exact ((Blk.new _ _ _ _ (by simp)).alloc _).drew | exact ((Blk.new _ _ _ _ (by simp)).drew.alloc _)) (hr := fun x => by simp [Value.ownBlock] at x))); have HO6 := Lib.hid hown6; have HB6 := Lib.hid hB6; have HBB := Lib.hid hb6; clear hown6 hB6 hb6 hgrow6 hat6 hR6)
   | (refine step_append_any rfl _ _ 37 rfl 0 70 i0 (.agg #[.int .i64 0, .string ⟨#[]⟩]) 2 24 Tryz.underlying37 hi hz0 hz1 hz2 rfl (by decide) (.slice a6 ms.length c6) ms.length (marksC ms) rfl (nd_own_below HO6.out (by repeat (first | (with_reducible exact Below.refl _ _) | refine Below.drew ?_ | refine Below.alloc ?_ (by first | omega | (simp; done) | (simp; omega)) _))) (some ⟨V.heap.size + 1, 0, none⟩) 1 1 (markC (at', c)) rfl rfl (fun _ => ⟨_, rfl, (fun j u hu => by rw [Go.WideShapes.add_plain, Nat.zero_add, hX6.cell j, ← Array.getElem?_toList]; exact hu)⟩) hv1 hm3 hm4 (Nat.zero_le _) ?_; intro v7 w7 hown7 hgrow7 hat7; obtain ⟨a7, c7, rfl⟩ := own_form' hown7; have hB7 := rf_grown (HB6.out.below (by repeat (first | (with_reducible exact Below.refl _ _) | refine Below.drew ?_ | refine Below.alloc ?_ (by first | omega | (simp; done) | (simp; omega)) _)) HB6.out.lt) hgrow7 (fun x => H7.out.1 x); have s2 : w7.cell? ⟨w.heap.size, 2, none⟩ = some (.int .i64 (at' : Int)) := (hB7.cell 2).trans rfl; have s5 : w7.cell? ⟨w.heap.size, 5, none⟩ = some (.slice ma ms.length mc) := (hB7.cell 5).trans rfl; have t5 := hB7.frozen 5; have l7 := hB7.lt; have hR7 := rf_grown (HR6.out.below (by repeat (first | (with_reducible exact Below.refl _ _) | refine Below.drew ?_ | refine Below.alloc ?_ (by first | omega | (simp; done) | (simp; omega)) _)) HR6.out.lt) hgrow7 (fun x => H7.out.2 x); have HB7 := Lib.hid hB7; have HR7 := Lib.hid hR7; have HO7 := Lib.hid hown7; have HBB7 : Hid (Below w.heap.size V w7) := Lib.hid (HBB.out.trans ((by repeat (first | (with_reducible exact Below.refl _ _) | refine Below.drew ?_ | refine Below.alloc ?_ (by first | omega | (simp; done) | (simp; omega)) _) : Below w.heap.size w6 _).grown hgrow7 (by first | omega | (simp; done) | (simp; omega)) (fun k hk => H6.out k hk))); have H8 : Hid ((Value.slice a7 (ms.length + 1) c7).ownBlock ≠ some w.heap.size) := Lib.hid (fun x => hat7.elim (fun h => H7.out.1 (h.symm.trans x)) (fun h => by rw [h] at x; simp at x; omega)); have H9 : Hid ((Value.slice a7 (ms.length + 1) c7).ownBlock ≠ some (w.heap.size + 1)) := Lib.hid (fun x => hat7.elim (fun h => H7.out.2 (h.symm.trans x)) (fun h => by rw [h] at x; simp at x; omega)); have H10 : Hid (∀ k, (Value.slice a7 (ms.length + 1) c7).ownBlock = some k → w.heap.size ≤ k) := Lib.hid (fun k x => hat7.elim (fun h => H6.out k (h.symm.trans x)) (fun h => by rw [h] at x; simp at x; omega)); clear hown7 hB7 hR7 hgrow7 hat7)
   | (refine step_append_any rfl _ _ 37 rfl 0 70 i0 (.agg #[.int .i64 0, .string ⟨#[]⟩]) 2 24 Tryz.underlying37 hi hz0 hz1 hz2 rfl (by decide) (.slice a6 ms.length c6) ms.length (marksC ms) rfl (nd_own_below HO6.out (by repeat (first | (with_reducible exact Below.refl _ _) | refine Below.drew ?_ | refine Below.alloc ?_ (by first | omega | (simp; done) | (simp; omega)) _))) (some ⟨V.heap.size, 0, none⟩) 1 1 (markC (at', c)) rfl rfl (fun _ => ⟨_, rfl, (fun j u hu => by rw [Go.WideShapes.add_plain, Nat.zero_add, hX6.cell j, ← Array.getElem?_toList]; exact hu)⟩) hv1 hm3 hm4 (Nat.zero_le _) ?_; intro v7 w7 hown7 hgrow7 hat7; obtain ⟨a7, c7, rfl⟩ := own_form' hown7; have hB7 := rf_grown (HB6.out.below (by repeat (first | (with_reducible exact Below.refl _ _) | refine Below.drew ?_ | refine Below.alloc ?_ (by first | omega | (simp; done) | (simp; omega)) _)) HB6.out.lt) hgrow7 (fun x => H7.out.1 x); have s2 : w7.cell? ⟨w.heap.size, 2, none⟩ = some (.int .i64 (at' : Int)) := (hB7.cell 2).trans rfl; have s5 : w7.cell? ⟨w.heap.size, 5, none⟩ = some (.slice ma ms.length mc) := (hB7.cell 5).trans rfl; have t5 := hB7.frozen 5; have l7 := hB7.lt; have hR7 := rf_grown (HR6.out.below (by repeat (first | (with_reducible exact Below.refl _ _) | refine Below.drew ?_ | refine Below.alloc ?_ (by first | omega | (simp; done) | (simp; omega)) _)) HR6.out.lt) hgrow7 (fun x => H7.out.2 x); have HB7 := Lib.hid hB7; have HR7 := Lib.hid hR7; have HO7 := Lib.hid hown7; have HBB7 : Hid (Below w.heap.size V w7) := Lib.hid (HBB.out.trans ((by repeat (first | (with_reducible exact Below.refl _ _) | refine Below.drew ?_ | refine Below.alloc ?_ (by first | omega | (simp; done) | (simp; omega)) _) : Below w.heap.size w6 _).grown hgrow7 (by first | omega | (simp; done) | (simp; omega)) (fun k hk => H6.out k hk))); have H8 : Hid ((Value.slice a7 (ms.length + 1) c7).ownBlock ≠ some w.heap.size) := Lib.hid (fun x => hat7.elim (fun h => H7.out.1 (h.symm.trans x)) (fun h => by rw [h] at x; simp at x; omega)); have H9 : Hid ((Value.slice a7 (ms.length + 1) c7).ownBlock ≠ some (w.heap.size + 1)) := Lib.hid (fun x => hat7.elim (fun h => H7.out.2 (h.symm.trans x)) (fun h => by rw [h] at x; simp at x; omega)); have H10 : Hid (∀ k, (Value.slice a7 (ms.length + 1) c7).ownBlock = some k → w.heap.size ≤ k) := Lib.hid (fun k x => hat7.elim (fun h => H6.out k (h.symm.trans x)) (fun h => by rw [h] at x; simp at x; omega)); clear hown7 hB7 hR7 hgrow7 hat7)
   | (refine step_append_any rfl _ _ 37 rfl 0 70 i0 (.agg #[.int .i64 0, .string ⟨#[]⟩]) 2 24 Tryz.underlying37 hi hz0 hz1 hz2 rfl (by decide) (.slice a6 ms.length c6) ms.length (marksC ms) rfl (nd_own_below HO6.out (by repeat (first | (with_reducible exact Below.refl _ _) | refine Below.drew ?_ | refine Below.alloc ?_ (by first | omega | (simp; done) | (simp; omega)) _))) (some ⟨w6.heap.size, 0, none⟩) 1 1 (markC (at', c)) rfl rfl (fun _ => ⟨_, rfl, hnew1 w6⟩) hv1 hm3 hm4 (Nat.zero_le _) ?_; intro v7 w7 hown7 hgrow7 hat7; obtain ⟨a7, c7, rfl⟩ := own_form' hown7; have hB7 := rf_grown (HB6.out.below (by repeat (first | (with_reducible exact Below.refl _ _) | refine Below.drew ?_ | refine Below.alloc ?_ (by first | omega | (simp; done) | (simp; omega)) _)) HB6.out.lt) hgrow7 (fun x => H7.out.1 x); have s2 : w7.cell? ⟨w.heap.size, 2, none⟩ = some (.int .i64 (at' : Int)) := (hB7.cell 2).trans rfl; have s5 : w7.cell? ⟨w.heap.size, 5, none⟩ = some (.slice ma ms.length mc) := (hB7.cell 5).trans rfl; have t5 := hB7.frozen 5; have l7 := hB7.lt; have hR7 := rf_grown (HR6.out.below (by repeat (first | (with_reducible exact Below.refl _ _) | refine Below.drew ?_ | refine Below.alloc ?_ (by first | omega | (simp; done) | (simp; omega)) _)) HR6.out.lt) hgrow7 (fun x => H7.out.2 x); have HB7 := Lib.hid hB7; have HR7 := Lib.hid hR7; have HO7 := Lib.hid hown7; have HBB7 : Hid (Below w.heap.size V w7) := Lib.hid (HBB.out.trans ((by repeat (first | (with_reducible exact Below.refl _ _) | refine Below.drew ?_ | refine Below.alloc ?_ (by first | omega | (simp; done) | (simp; omega)) _) : Below w.heap.size w6 _).grown hgrow7 (by first | omega | (simp; done) | (simp; omega)) (fun k hk => H6.out k hk))); have H8 : Hid ((Value.slice a7 (ms.length + 1) c7).ownBlock ≠ some w.heap.size) := Lib.hid (fun x => hat7.elim (fun h => H7.out.1 (h.symm.trans x)) (fun h => by rw [h] at x; simp at x; omega)); have H9 : Hid ((Value.slice a7 (ms.length + 1) c7).ownBlock ≠ some (w.heap.size + 1)) := Lib.hid (fun x => hat7.elim (fun h => H7.out.2 (h.symm.trans x)) (fun h => by rw [h] at x; simp at x; omega)); have H10 : Hid (∀ k, (Value.slice a7 (ms.length + 1) c7).ownBlock = some k → w.heap.size ≤ k) := Lib.hid (fun k x => hat7.elim (fun h => H6.out k (h.symm.trans x)) (fun h => by rw [h] at x; simp at x; omega)); clear hown7 hB7 hR7 hgrow7 hat7))
  all_goals go_wp2_with fail
  all_goals go_meet
  all_goals exact ⟨a7, c7, HB7.out.set 5 _, HR7.out.set_other ⟨w.heap.size, 5, none⟩ (show w.heap.size ≠ w.heap.size + 1 by omega) _, rf_row_same HO7.out (fun b hb => Below.heap_setCell _ _ _ _ (fun x => H8.out (by rw [hb, x]))), HBB7.out.setCell (p := ⟨w.heap.size, 5, none⟩) (Nat.le_refl _) _, H9.out, H10.out⟩
 case rest =>
  obtain ⟨a7, c7, hB, hR, hO, hb, hne, hge⟩ := hcut
  obtain ⟨c0, c1, c2, c3, c4, c5, c6, c7', f0, f1, f2, f3, f4, f5, f6, f7, hl0⟩ := blk8 (hB.eqv (cs' := rfC s ere at' op (.slice ca cl cc) (.slice a7 (ms.length + 1) c7) 0 0) (by simp [rfC]))
  obtain ⟨d0, d1, d2, d3, d4, d5, d6, d7, g0, g1, g2, g3, g4, g5, g6, g7, hl1⟩ := blk8 hR
  have HBa := Lib.hid (hVb.trans hb)
  have HRa := Lib.hid hR
  have HOa := Lib.hid hO
  have HNe := Lib.hid hne
  have HGe := Lib.hid hge
  clear hnews q2 q5 hK0 hK1 hB hR hO hb hne hge
  go_wp2_with fail
  with_reducible refine post8 HBa.out HRa.out (Nat.le_succ _) ?_
  intro w9 hB9 hk9 hs9 hz9
  clear d0 d1 d2 d3 d4 d5 d6 d7 g0 g1 g2 g3 g4 g5 g6 g7 hl1 c0 c1 c2 c3 c4 c5 c6 c7' f0 f1 f2 f3 f4 f5 f6 f7 hl0
  obtain ⟨d0, d1, d2, d3, d4, d5, d6, d7, _⟩ := blk8 hk9
  refine bodyPost_ret (v := .agg (rfC s ere at' op (.slice ca cl cc) (.slice a7 (ms.length + 1) c7) 0 0)) (by simp [results, Tryz.results58, go_sem, d0, d1, d2, d3, d4, d5, d6, d7]) rfl ⟨_, rfl, ?_, HGe.out, hB9⟩
  rw [marksC_snoc, List.length_append]
  exact rf_row_same HOa.out (fun b hb => hs9 b (fun x => HNe.out (by rw [hb, x])))
theorem rmark_ok : RMarkOk := by
 intro F s ere at' op cv mv ms c w hc hm hl
 have h := rmark_own s ere at' op cv mv ms c.toNat w hc hm hl
 rw [UInt8.ofNat_toNat] at h
 refine h.mono ?_
 rintro e w' ⟨mv', h1, h2, h3, h4⟩
 refine ⟨mv', h1, ?_, h4⟩
 obtain ⟨a, cap, e1, e2, e3⟩ := own_cells h2
 refine ⟨a, cap, e1, e2, fun h0 => ?_⟩
 obtain ⟨g, e4, e5, e6⟩ := e3 h0
 exact ⟨g, e4, h3 g (by rw [e1, e4]; rfl), e5, e6⟩
end Go.Proofs.YtkejeiopfblkgaaGreatDoor
namespace Go.Proofs.YtkejeiopfblkgaaGreatDoor
open Go Go.RowKit
def RPAns (r : ReRes (ReSt × Nd)) (w : World) (e : Ending) (w' : World) : Prop := Below w.heap.size w w' ∧ match r with
 | .error q => e = .returned (.tuple #[.agg zC, .slice none 0 0, .int .i64 (q.2 : Int), .int .i64 (q.1 : Int)]) ∧ q.1 ≠ 0
 | .ok q => q.1.marks.length ≤ 250 ∧ ∃ mv a cap, e = .returned (.tuple #[.agg (tC (unc q.2) a cap), mv, .int .i64 0, .int .i64 0]) ∧ TrX (fun b => w.heap.size ≤ b) w' (unc q.2) a cap ∧ RowC (fun b => w.heap.size ≤ b) w' 2 mv q.1.marks.length (marksC q.1.marks)
theorem RPAns.drew {r : ReRes (ReSt × Nd)} {w : World} {e : Ending} {w' : World} (h : RPAns r w e w') : RPAns r w e w'.drew := by
 cases r with
 | error q => exact ⟨h.1.drew, h.2⟩
 | ok q =>
  obtain ⟨h1, h0, mv, a, cap, h2, h3, h4⟩ := h
  exact ⟨h1.drew, h0, mv, a, cap, h2, h3.below (Below.refl _ _).drew, h4.keep (Nat.le_refl _) (fun b hf _ => ⟨hf, fun _ => rfl⟩)⟩
theorem post9 {P : Program} {fn : Func} {Q : Ending → World → Prop} {e : Exit} {act : Act} {w0 w : World} {p : Nat} {T : TypeId} {u0 u1 u2 u3 u4 u5 u6 u7 u8 : Value} (hb : Below w0.heap.size w0 w) (h : Blk w p #[u0, u1, u2, u3, u4, u5, u6, u7, u8] T) (hp : w0.heap.size ≤ p) {v0 v1 v2 v3 v4 v5 v6 v7 v8 : Value}
  (H : ∀ w', Below w0.heap.size w0 w' → Blk w' p #[v0, v1, v2, v3, v4, v5, v6, v7, v8] T → (∀ b, b ≠ p → w'.heap[b]? = w.heap[b]?) → w'.heap.size = w.heap.size → bodyPost P fn Q e act w') :
  bodyPost P fn Q e act (((((((((w.setCell ⟨p, 0, none⟩ v0).setCell ⟨p, 1, none⟩ v1).setCell ⟨p, 2, none⟩ v2).setCell ⟨p, 3, none⟩ v3).setCell ⟨p, 4, none⟩ v4).setCell ⟨p, 5, none⟩ v5).setCell ⟨p, 6, none⟩ v6).setCell ⟨p, 7, none⟩ v7).setCell ⟨p, 8, none⟩ v8) := by
 obtain ⟨h1, h2, h3, h4⟩ := put9n hb hp h v0 v1 v2 v3 v4 v5 v6 v7 v8 _ rfl
 exact H _ h1 h2 h3 h4
theorem post9d {P : Program} {fn : Func} {Q : Ending → World → Prop} {e : Exit} {act : Act} {w0 w : World} {p : Nat} {T : TypeId} {u0 u1 u2 u3 u4 u5 u6 u7 u8 : Value} (hb : Below w0.heap.size w0 w) (h : Blk w p #[u0, u1, u2, u3, u4, u5, u6, u7, u8] T) (hp : w0.heap.size ≤ p) {v0 v1 v2 v3 v4 v5 v6 v7 v8 : Value} {W : World}
  (hW : (((((((((w.setCell ⟨p, 0, none⟩ v0).setCell ⟨p, 1, none⟩ v1).setCell ⟨p, 2, none⟩ v2).setCell ⟨p, 3, none⟩ v3).setCell ⟨p, 4, none⟩ v4).setCell ⟨p, 5, none⟩ v5).setCell ⟨p, 6, none⟩ v6).setCell ⟨p, 7, none⟩ v7).setCell ⟨p, 8, none⟩ v8) = W)
  (H : ∀ w', Below w0.heap.size w0 w' → Blk w' p #[v0, v1, v2, v3, v4, v5, v6, v7, v8] T → (∀ b, b ≠ p → w'.heap[b]? = w.heap[b]?) → w'.heap.size = w.heap.size → bodyPost P fn Q e act w') :
  bodyPost P fn Q e act W.drew := by
 obtain ⟨h1, h2, h3, h4⟩ := put9n hb hp h v0 v1 v2 v3 v4 v5 v6 v7 v8 _ hW
 exact H _ h1.drew h2.drew h3 h4
end Go.Proofs.YtkejeiopfblkgaaGreatDoor
namespace Go.Proofs.YtkejeiopfblkgaaGreatDoor
open Go Go.RowKit
def RBrOk (ere : Bool) (s : ByteArray) (sub : Option (ReSt → ReRes (ReSt × Nd))) (dp : Nat) : Prop := ∀ (F : Nat → Prop) (st : ReSt) (cv mv : Value) (w : World), RfR F w s st cv mv → Calls Tryz.prog 55 #[.agg (rfC s ere st.pos st.opened cv mv 0 0), .int .i64 (dp : Int)] w (RfAns F (fun _ => False) inAlt ere s (branchM ere s.data.toList sub (decide (dp = 0)) st.pos (s.data.toList.length + 1) st [] true) w)
theorem branch_alt (ere : Bool) (s : List UInt8) (sub : Option (ReSt → ReRes (ReSt × Nd))) (top : Bool) (beg : Nat) : ∀ (n : Nat) (st : ReSt) (parts : List Nd) (front : Bool) (st' : ReSt) (d : Nd), parts.all inCat = true → branchM ere s sub top beg n st parts front = .ok (st', d) → inAlt d = true
 | 0, _, _, _, _, _, _, h => by cases h
 | n + 1, st, parts, front, st', d, ha, h => by
  rw [branchM] at h
  split at h
  ·injection h with h; injection h with _ h2; subst h2; exact (unc_njoin _ ha).2
  ·split at h
   ·exact branch_alt ere s sub top beg n _ _ _ _ _ (by rw [List.all_append, ha]; rfl) h
   ·split at h
    ·exact branch_alt ere s sub top beg n _ _ _ _ _ (by rw [List.all_append, ha]; rfl) h
    ·split at h
     ·cases h
     ·split at h
      ·cases h
      ·rename_i hA
       split at h
       ·cases h
       ·rename_i hB
        exact branch_alt ere s sub top beg n _ _ _ _ _ (by rw [List.all_append, ha]; simp [rep_cat _ _ _ _ _ _ _ (atom_cat _ _ _ _ _ _ hA) hB]) h
def ChDone (F : Nat → Prop) (w : World) (s : ByteArray) (ere : Bool) (R : ReRes (ReSt × Nd)) (pv : Value) (wx : World) : Prop :=
 ∃ (at' op : Nat) (cv mv : Value) (er pl : Int) (l : List Nd) (us : List Value), BrX w s ere wx at' op cv mv er pl l pv us ∧ l.all inAlt = true ∧ l.length ≤ 300 ∧ (∃ a n c, cv = .slice a n c) ∧ (∃ a n c, mv = .slice a n c) ∧
  ((er = 0 ∧ pl = 0 ∧ ∃ st : ReSt, st.pos = at' ∧ st.opened = op ∧ RfR (OffF F w pv) wx s st cv mv ∧ R = .ok (st, nchoose l)) ∨ ∃ q : Nat × Nat, R = .error q ∧ q.1 ≠ 0 ∧ er = (q.1 : Int) ∧ pl = (q.2 : Int))
def ChLp (F : Nat → Prop) (w : World) (s : ByteArray) (ere : Bool) (sub : Option (ReSt → ReRes (ReSt × Nd))) (top : Bool) (R : ReRes (ReSt × Nd)) (pv : Value) (wx : World) : Prop :=
 (∃ (m : Nat) (st : ReSt) (cv mv : Value) (l : List Nd) (us : List Value), R = (if opAt ere s.data.toList st.pos 124 then choiceM ere s.data.toList sub top m ((if ere then st else st.mark 124).to (st.pos + opLen ere)) l else .ok (st, nchoose l)) ∧ s.size ≤ m + st.pos ∧ l.all inAlt = true ∧ l.length ≤ st.pos + 1 ∧ BrY F w s ere wx st cv mv l pv us) ∨
 (∃ (at' op : Nat) (cv mv : Value) (l : List Nd) (us : List Value) (q : Nat × Nat), BrX w s ere wx at' op cv mv (q.1 : Int) (q.2 : Int) l pv us ∧ l.all inAlt = true ∧ l.length ≤ 300 ∧ (∃ a n c, cv = .slice a n c) ∧ (∃ a n c, mv = .slice a n c) ∧ R = .error q ∧ q.1 ≠ 0)
theorem BrX.first {w : World} {s : ByteArray} {ere : Bool} {wk : World} {at' op : Nat} {cv mv : Value} {er pl : Int} {d : Nd} {a : Option Addr} {cap : Nat} (hB : Below w.heap.size w wk) (k2 : Blk wk w.heap.size (rfC s ere at' op cv mv er pl) 87) (k4 : Blk wk (w.heap.size + 1) rfZ 87) (k5 : Blk wk (w.heap.size + 1 + 1) zC 36) (ht : TrX (fun b => w.heap.size + 3 ≤ b) wk (unc d) a cap) :
  BrX w s ere (wk.alloc (.cells (tC (unc d) a cap) 36)) at' op cv mv er pl [d] (.slice (some ⟨wk.heap.size, 0, none⟩) 1 1) (tC (unc d) a cap).toList ∧ ∀ (F : Nat → Prop) (st : ReSt) (cv2 mv2 : Value), RfR (fun b => (F b ∧ b < w.heap.size) ∨ w.heap.size + 3 ≤ b) wk s st cv2 mv2 → RfR (OffF F w (.slice (some ⟨wk.heap.size, 0, none⟩) 1 1)) (wk.alloc (.cells (tC (unc d) a cap) 36)) s st cv2 mv2 := by
 have hA := (Below.refl wk.heap.size wk).alloc (Nat.le_refl _) (.cells (tC (unc d) a cap) 36)
 have hoff : ∀ b, b < wk.heap.size → OffV (.slice (some ⟨wk.heap.size, 0, none⟩) 1 1) b := fun b hb e => by
  injection e with e
  exact absurd e (by show ¬ wk.heap.size = b; omega)
 have h5 := k5.lt
 refine ⟨⟨hB.alloc hB.size _, k2.alloc _, k4.alloc _, k5.alloc _, ?_, ?_⟩, fun F st cv2 mv2 hr => hr.keep hA.size (fun b hf hlt => ⟨⟨hf, hoff b hlt⟩, fun o => hA.cell (p := ⟨b, o, none⟩) hlt⟩)⟩
 ·exact World.ownsRow_lit wk (tC (unc d) a cap) 1 (by omega) (by unfold maxLen; omega) (by simp)
 ·exact Chunks.single (ht.keep hA.size (fun b hf hlt => ⟨⟨hf, hoff b hlt⟩, fun o => hA.cell (p := ⟨b, o, none⟩) hlt⟩))
end Go.Proofs.YtkejeiopfblkgaaGreatDoor
