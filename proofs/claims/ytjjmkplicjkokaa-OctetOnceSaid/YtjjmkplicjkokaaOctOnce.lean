/- The walk of OctetOnce: of any bytes and any byte it returns true; what was there stays as it was. -/
import Derived.Test.YtjjmkplicjkokaaOctHeld
import Derived.Test.YtjjmkplicjkokaaOctOpen
import Derived.Deep.DeepCutAuto
import Derived.Outline
namespace Go.Proofs.Ytjjmkplicjkokaa
open Go.RowKit


/-! ### Plain mathematics -/
theorem ofl_fold (k : Nat) : ∀ (zs : List Int) (s : OSet), (∀ z ∈ zs, 0 ≤ z ∧ z ≤ 255) → (zs.foldl (fun s x => s ||| obit x.toNat) s).getLsbD k = (s.getLsbD k || zs.any (fun z => decide (z.toNat = k)))
  | [], s, _ => by simp
  | z :: zs, s, h => by
    have hz := h z (by simp)
    rw [List.foldl_cons, ofl_fold k zs _ (fun y hy => h y (by simp [hy])), BitVec.getLsbD_or, obit_get _ _ (by omega), List.any_cons, Bool.or_assoc]
theorem ofl_get (zs : List Int) (h : ∀ z ∈ zs, 0 ≤ z ∧ z ≤ 255) (k : Nat) : (ofl zs).getLsbD k = zs.any (fun z => decide (z.toNat = k)) := by
  unfold ofl
  rw [ofl_fold k zs oz h]
  simp [oz]
theorem any_same : ∀ (zs : List Int) (f g : Int → Bool), (∀ z ∈ zs, f z = g z) → zs.any f = zs.any g
  | [], _, _, _ => rfl
  | z :: zs, f, g, h => by rw [List.any_cons, List.any_cons, h z (by simp), any_same zs f g (fun y hy => h y (by simp [hy]))]
theorem ofl_has (zs : List Int) (h : ∀ z ∈ zs, 0 ≤ z ∧ z ≤ 255) (x : Int) (h0 : 0 ≤ x) : ohas (ofl zs) x.toNat = zs.any (fun z => z == x) := by
  unfold ohas
  rw [ofl_get zs h]
  exact any_same zs _ _ fun z hz => by
    have hz2 := h z hz
    rw [Bool.eq_iff_iff, beq_iff_eq, decide_eq_true_eq]
    omega
theorem ofl_reverse (zs : List Int) (h : ∀ z ∈ zs, 0 ≤ z ∧ z ≤ 255) : ofl zs.reverse = ofl zs := by
  refine BitVec.eq_of_getLsbD_eq fun k hk => ?_
  rw [ofl_get _ (fun z hz => h z (by simpa using hz)), ofl_get _ h]
  simp
theorem oset_and_not (s : OSet) : s &&& ~~~s = oz := by
  refine BitVec.eq_of_getLsbD_eq fun k hk => ?_
  simp [oz, hk]
theorem oset_not_not (s : OSet) : ~~~(~~~s) = s := by simp

/-- Which bytes have been met, and which have been told backwards, behind k rounds. -/
def fnd (x : Int) (zs : List Int) (k : Nat) : Bool := (zs.take k).any (fun z => z == x)
def bck (zs : List Int) (k : Nat) : List Int := zs.reverse.take k
theorem fnd_succ (x : Int) (zs : List Int) (k : Nat) (h : k < zs.length) : fnd x zs (k + 1) = (fnd x zs k || (zs.getD k 0 == x)) := by
  unfold fnd
  rw [List.take_succ_eq_append_getElem h, List.any_append]
  simp [List.getD, List.getElem?_eq_getElem h]
theorem bck_succ (zs : List Int) (k : Nat) (h : k < zs.length) : bck zs (k + 1) = bck zs k ++ [zs.getD (zs.length - 1 - k) 0] := by
  unfold bck
  rw [List.take_succ_eq_append_getElem (by simpa using h)]
  congr 1
  rw [List.getElem_reverse]
  simp [List.getD, List.getElem?_eq_getElem (show zs.length - 1 - k < zs.length by omega)]
theorem bck_len (zs : List Int) (k : Nat) (h : k ≤ zs.length) : (bck zs k).length = k := by simp [bck, h]
theorem bck_full (zs : List Int) : bck zs zs.length = zs.reverse := by unfold bck; rw [← List.length_reverse, List.take_length]
theorem fnd_full (x : Int) (zs : List Int) : fnd x zs zs.length = zs.any (fun z => z == x) := by unfold fnd; rw [List.take_length]

/-- What the last row of the statement reads: the set's words, and the row of the bytes told backwards. -/
structure HeldO (w0 : World) (p g : Nat) (s : OSet) (ys : List Int) (U : TypeId) (w' : World) : Prop where
  below : Below w0.heap.size w0 w'
  blk : Blk w' p (oc s) U
  lt : g < w'.heap.size
  row : ∀ i, i < ys.length → w'.cell? ⟨g, 0 + i, none⟩ = some (.int .u8 (ys.getD i 0))
abbrev ReadO (w0 : World) (p g : Nat) (s : OSet) (ys : List Int) (U : TypeId) (w' : World) : Prop :=
  (w'.cell? ⟨p, 0, none⟩ = some (.int .u64 (ow s 0)) ∧ w'.cell? ⟨p, 1, none⟩ = some (.int .u64 (ow s 1)) ∧ w'.cell? ⟨p, 2, none⟩ = some (.int .u64 (ow s 2)) ∧ w'.cell? ⟨p, 3, none⟩ = some (.int .u64 (ow s 3))) ∧ HeldO w0 p g s ys U w'
theorem HeldO.all {w0 : World} {p g : Nat} {s : OSet} {ys : List Int} {U : TypeId} {w' : World} (h : HeldO w0 p g s ys U w') : ReadO w0 p g s ys U w' := ⟨oblk_cells h.blk, h⟩
theorem readO_step {w0 : World} {p g : Nat} {s : OSet} {ys : List Int} {U : TypeId} {W W' : World} (hb : Below W.heap.size W W') (h : ReadO w0 p g s ys U W) : ReadO w0 p g s ys U W' :=
  HeldO.all ⟨h.2.below.trans (hb.mono h.2.below.size), h.2.blk.below hb h.2.blk.lt, Nat.lt_of_lt_of_le h.2.lt hb.size, fun i hi => (hb.cell (p := ⟨g, 0 + i, none⟩) h.2.lt).trans (h.2.row i hi)⟩
theorem readO_drew {w0 : World} {p g : Nat} {s : OSet} {ys : List Int} {U : TypeId} {W : World} (h : ReadO w0 p g s ys U W) : ReadO w0 p g s ys U W.drew :=
  HeldO.all ⟨h.2.below.drew, h.2.blk, h.2.lt, h.2.row⟩

/-- The set of the bytes that are held. -/
theorem of_held (w0 W : World) (p g n cap : Nat) (s : OSet) (ys : List Int) (U : TypeId) (hn : n = ys.length) (hm : ys.length ≤ 300) (hr : ∀ i, 0 ≤ ys.getD i 0 ∧ ys.getD i 0 ≤ 255) (hs : ofl ys = s) (h : ReadO w0 p g s ys U W) :
    Calls Try.prog 20 #[.slice (some ⟨g, 0, none⟩) n cap] W fun e w' => e = .returned (.agg #[.int .u64 (ow s 0), .int .u64 (ow s 1), .int .u64 (ow s 2), .int .u64 (ow s 3)]) ∧ Below W.heap.size W w' := by
  subst hn hs
  exact of_any ys g 0 cap W h.2.lt (by unfold maxLen; omega) h.2.row hr
theorem of_none (W : World) (s : OSet) (hs : oz = s) :
    Calls Try.prog 20 #[.slice none 0 0] W fun e w' => e = .returned (.agg #[.int .u64 (ow s 0), .int .u64 (ow s 1), .int .u64 (ow s 2), .int .u64 (ow s 3)]) ∧ Below W.heap.size W w' := by
  subst hs
  exact of_nil W
theorem once_info : (Try.prog.info? 5).map (fun i => (i.zero, i.size, i.bytes)) = some (some (.int .u8 0), 1, 1) := by kernel_rfl

theorem own_ge {w : World} {base : Nat} {e : TypeId} {size : Nat} {v : Value} {n : Nat} {xs : List Value} (h : w.ownsRow base e size v n xs) : ∀ k, v.ownBlock = some k → base ≤ k := by
  obtain ⟨_, h2⟩ := h
  intro k hk
  rcases h2 with ⟨rfl, _⟩ | ⟨g, cap, cur, rfl, hg, _⟩
  · simp [Value.ownBlock] at hk
  · simp [Value.ownBlock] at hk; omega

set_option maxRecDepth 100000 in
set_option maxHeartbeats 4000000 in
theorem once_row (zs : List Int) (b o cap : Nat) (x : Int) (h0 : 0 ≤ x) (h1 : x ≤ 255) (w : World) (hb : b < w.heap.size) (hm : zs.length ≤ 300)
    (hc : ∀ i, i < zs.length → w.cell? ⟨b, o + i, none⟩ = some (.int .u8 (zs.getD i 0))) (hr : ∀ i, 0 ≤ zs.getD i 0 ∧ zs.getD i 0 ≤ 255) :
    Calls Try.prog 7 #[.slice (some ⟨b, o, none⟩) zs.length cap, .int .u8 x] w fun e w' => e = .returned (.bool true) ∧ Below w.heap.size w w' := by
  obtain ⟨i0, hi, hz0, hz1, hz2⟩ := info_parts once_info
  have Hc := Lib.hid hc
  clear hc
  have Hr := Lib.hid hr
  clear hr
  have h300 : decide ((300 : Int) < (zs.length : Int)) = false := decide_eq_false (by omega)
  go_enter Try.func7, Try.ntmps7
  go_wp2_with fail
  refine (awake_any _).mono ?_
  rintro e w1 ⟨rfl, b1⟩
  have hW := b1
  go_wp2_with fail
  refine (of_any zs b o cap _ (Nat.lt_of_lt_of_le hb hW.size) (by unfold maxLen; omega) (fun i hi => (hW.cell (p := ⟨b, o + i, none⟩) hb).trans (Hc.out i hi)) Hr.out).mono ?_
  rintro e w2 ⟨rfl, b2⟩
  replace hW := hW.trans (b2.mono hW.size)
  have hB := Blk.new w2 (oc (ofl zs)) 26 _ rfl
  have hp5 : w.heap.size ≤ w2.heap.size := hW.size
  replace hW := hW.alloc hW.size (.cells (oc (ofl zs)) 26)
  clear b1 b2
  go_wp2
  go_loopw [6, 7, 21] (fun f v i wr => ∃ k : Nat, k ≤ zs.length ∧ i = .int .i64 k ∧ f = .bool (fnd x zs k) ∧ wr.ownsRow (w2.heap.size + 1) 5 1 v k ((bck zs k).map (Value.int .u8)) ∧ Below w.heap.size w wr ∧ Blk wr w2.heap.size (oc (ofl zs)) 26) (fun _ _ i _ => zs.length - (intOf i).toNat)
  case atStart =>
    exact ⟨0, by omega, rfl, rfl, World.ownsRow_nil _ _ _ _, hW, hB⟩
  case round =>
    obtain ⟨k, hk, rfl, rfl, hown, hbw, hblk⟩ := hrel
    have hsz := hblk.lt
    by_cases hlt : k < zs.length
    · have hs := Hr.out k
      have hs2 := Hr.out (zs.length - 1 - k)
      have Hf := Lib.hid (fnd_succ x zs k hlt)
      have Hb := Lib.hid (bck_succ zs k hlt)
      have c1 := (hbw.cell (p := ⟨b, o + k, none⟩) hb).trans (Hc.out k hlt)
      have c2 := (hbw.cell (p := ⟨b, o + (zs.length - 1 - k), none⟩) hb).trans (Hc.out (zs.length - 1 - k) (by omega))
      generalize zs.getD k 0 = z at hs Hf c1
      generalize zs.getD (zs.length - 1 - k) 0 = y at hs2 Hb c2
      cases hfk : fnd x zs k
      all_goals
        have Hfk := Lib.hid hfk
        clear hfk
        go_wp2_with (at_builtin; refine wpList_append_own _ rfl _ _ 46 rfl (w2.heap.size + 1) 5 i0 (.int .u8 0) 1 1 Try.underlying46 hi hz0 hz1 hz2 rfl (by decide) _ _ _ rfl (hown.alloc _) ⟨wr.heap.size, 0, none⟩ 1 1 [.int .u8 y] rfl rfl ?c1 ?c2 ?c3 ?c4 ?c5 ?_)
        case c1 =>
          intro j u hj
          match j, hj with
          | 0, hj => simp at hj; subst hj; simp [Addr.add]
        case c2 => intro u hu; simp at hu; subst hu; rfl
        case c3 => unfold maxLen; omega
        case c4 => omega
        case c5 => simp; omega
        · intro v' w3 hown' hgrow _
          go_wp2
          go_roundw
          case rel =>
            refine ⟨k + 1, by omega, by go_num, by rw [Hf.out, Hfk.out]; rfl, by rw [Hb.out, List.map_append]; exact hown', ?_, ?_⟩
            · exact hbw.trans (((Below.refl w.heap.size wr).alloc (by omega) _).grown hgrow (by simp; omega) (fun j hj => by have := own_ge hown j hj; omega))
            · exact hblk.below (((Below.refl (w2.heap.size + 1) wr).alloc (by omega) _).grown hgrow (by simp; omega) (own_ge hown)) (by omega)
          case measure => simp [intOf]; omega
    · have hk2 : k = zs.length := by omega
      subst hk2
      have hall : ∀ z ∈ zs, 0 ≤ z ∧ z ≤ 255 := fun z hz => by
        obtain ⟨i, hi, rfl⟩ := List.getElem_of_mem hz
        have := Hr.out i
        simpa [List.getD, List.getElem?_eq_getElem hi] using this
      have r1 : ohas (ofl zs) x.toNat = fnd x zs zs.length := by rw [ofl_has zs hall x h0, fnd_full]
      have r3 : ohas (~~~(ofl zs)) x.toNat = !fnd x zs zs.length := by
        rw [← r1]
        unfold ohas
        rw [BitVec.getLsbD_not]
        have : x.toNat < 256 := by omega
        simp [this]
      have r3' : ((!fnd x zs zs.length) != fnd x zs zs.length) = true := by cases fnd x zs zs.length <;> rfl
      have r2 := ofl_reverse zs hall
      have r4 := oset_not_not (ofl zs)
      have r5 := oset_and_not (ofl zs)
      have r6 := ow_zero
      have q := oset_eql
      have q0 := fun W => oset_eql oz oz W
      simp only [ow_zero, decide_true] at q0
      rw [bck_full] at hown
      obtain ⟨_, hrow⟩ := hown
      clear Hc Hr
      rcases hrow with ⟨rfl, hz⟩ | ⟨g, capv, cur, rfl, hg, hh, hn, hcap, hcs, htk⟩
      · have hzs : zs = [] := List.eq_nil_of_length_eq_zero hz
        have Hnil := Lib.hid (show oz = ofl zs by rw [hzs]; rfl)
        clear hzs
        have hall := HeldO.all (w0 := w) (p := w2.heap.size) (g := w2.heap.size) (s := ofl zs) (ys := ([] : List Int)) (U := 26) (w' := wr) ⟨hbw, hblk, hblk.lt, fun i hi => by simp at hi⟩
        go_wp2_with fail
        go_region_held3 (fun w' => (w'.cell? ⟨w2.heap.size, 0, none⟩ = some (.int .u64 (ow (ofl zs) 0)) ∧ w'.cell? ⟨w2.heap.size, 1, none⟩ = some (.int .u64 (ow (ofl zs) 1)) ∧ w'.cell? ⟨w2.heap.size, 2, none⟩ = some (.int .u64 (ow (ofl zs) 2)) ∧ w'.cell? ⟨w2.heap.size, 3, none⟩ = some (.int .u64 (ow (ofl zs) 3))) ∧ HeldO w w2.heap.size w2.heap.size (ofl zs) ([] : List Int) 26 w')
          (first | exact hall | exact readO_step hbX (by assumption) | exact readO_drew (by assumption))
          (first | (go_at_call 10; refine (has_any _ _ h0 h1 _).mono ?_; rintro e w' ⟨rfl, hbX⟩) | (go_at_call 20; refine (of_none _ _ Hnil.out).mono ?_; rintro e w' ⟨rfl, hbX⟩) | (go_at_call 16; refine (not_any _ _).mono ?_; rintro e w' ⟨rfl, hbX⟩) | (go_at_call 12; refine (and_any _ _ _).mono ?_; rintro e w' ⟨rfl, hbX⟩))
        go_wp2
        go_ret
        go_split_ands
        exact ⟨rfl, HeldO.below (by assumption)⟩
      · have hrw : ∀ i, i < zs.reverse.length → wr.cell? ⟨g, 0 + i, none⟩ = some (.int .u8 (zs.reverse.getD i 0)) := by
          intro i hi
          have hh2 : wr.cell? ⟨g, 0 + i, none⟩ = cur[i]? := by simp [World.cell?, hh]
          rw [hh2]
          have h3 : (cur.toList.take (zs.length * 1))[i]? = (zs.reverse.map (Value.int .u8))[i]? := by rw [htk]
          rw [List.getElem?_take_of_lt (by simpa using hi), List.getElem?_map, List.getElem?_eq_getElem hi] at h3
          simp only [Option.map_some] at h3
          simp [List.getD, List.getElem?_eq_getElem hi]
          simpa using h3
        have hrr : ∀ i, 0 ≤ zs.reverse.getD i 0 ∧ zs.reverse.getD i 0 ≤ 255 := fun i => by
          by_cases hi : i < zs.reverse.length
          · have := hall _ (show zs.reverse[i] ∈ zs by simp)
            simpa [List.getD, List.getElem?_eq_getElem hi] using this
          · simp [List.getD, List.getElem?_eq_none (show zs.reverse.length ≤ i by omega)]
        have HR := Lib.hid hrr
        clear hrr hall
        have HRW := Lib.hid hrw
        clear hrw
        have R2 := Lib.hid r2
        have hall := HeldO.all (w0 := w) (p := w2.heap.size) (g := g) (s := ofl zs) (ys := zs.reverse) (U := 26) (w' := wr) ⟨hbw, hblk, (Array.getElem?_eq_some_iff.1 hh).1, HRW.out⟩
        go_wp2_with fail
        go_region_held3 (fun w' => (w'.cell? ⟨w2.heap.size, 0, none⟩ = some (.int .u64 (ow (ofl zs) 0)) ∧ w'.cell? ⟨w2.heap.size, 1, none⟩ = some (.int .u64 (ow (ofl zs) 1)) ∧ w'.cell? ⟨w2.heap.size, 2, none⟩ = some (.int .u64 (ow (ofl zs) 2)) ∧ w'.cell? ⟨w2.heap.size, 3, none⟩ = some (.int .u64 (ow (ofl zs) 3))) ∧ HeldO w w2.heap.size g (ofl zs) zs.reverse 26 w')
          (first | exact hall | exact readO_step hbX (by assumption) | exact readO_drew (by assumption))
          (first | (go_at_call 10; refine (has_any _ _ h0 h1 _).mono ?_; rintro e w' ⟨rfl, hbX⟩) | (go_at_call 20; refine (of_held w _ w2.heap.size g _ _ (ofl zs) zs.reverse _ (by simp) (by simpa using hm) HR.out R2.out (by assumption)).mono ?_; rintro e w' ⟨rfl, hbX⟩) | (go_at_call 16; refine (not_any _ _).mono ?_; rintro e w' ⟨rfl, hbX⟩) | (go_at_call 12; refine (and_any _ _ _).mono ?_; rintro e w' ⟨rfl, hbX⟩))
        go_wp2
        go_ret
        go_split_ands
        exact ⟨rfl, HeldO.below (by assumption)⟩


end Go.Proofs.Ytjjmkplicjkokaa
