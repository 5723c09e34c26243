/- The proof's texts ShLb, SixGlob, ShowSetBackRow, ShLw, ShowBackRow: what the claim reaches of them. -/
import Derived.Test.YtpmeicclngckeaaGreatDoorBk24
import Derived.Test.YtpmeicclngckeaaGreatDoorBk31
import Derived.Test.YtpmeicclngckeaaGreatDoorBk13
import Derived.Test.YtpmeicclngckeaaGreatDoorCards
import Derived.Test.YtpmeicclngckeaaGreatDoorTie
import Derived.ShutString
import Derived.OpenShut
import Derived.Deep.DeepHandedRow
import Derived.Lib.LaidTab
import Derived.Stop.LaidErr
import Derived.Shelf.Vars
import Derived.Test.YtpmeicclngckeaaGreatDoorBk25
namespace Go.Proofs.YtpmeicclngckeaaGreatDoor
open Go Go.RowKit
set_option linter.unusedSimpArgs false in
set_option maxRecDepth 100000 in
set_option maxHeartbeats 2000000 in
theorem showsetback_any (s : OSet) (w : World) (hG : G6 w) : Calls Tryz.prog 4 #[.agg #[.int .u64 (ow s 0), .int .u64 (ow s 1), .int .u64 (ow s 2), .int .u64 (ow s 3)]] w fun e w' => e = .returned (.bool true) ∧ Below w.heap.size w w' := by
  have h0 := heldo_new w s 24
  obtain ⟨X, hX⟩ : ∃ X : ByteArray, X = ⟨(setT s).toArray⟩ := ⟨_, rfl⟩
  have hXl : X.size = (setT s).length := by rw [hX]; simp [ByteArray.size]
  have hset : ∀ W, HeldO w w.heap.size s 24 W → Calls Tryz.prog 9 #[.agg #[.int .u64 (ow s 0), .int .u64 (ow s 1), .int .u64 (ow s 2), .int .u64 (ow s 3)]] W fun e w' => e = .returned (.string X) ∧ Below W.heap.size W w' := fun W h => by rw [hX]; exact shset_any s W (hG.up h.below).gl.tab (hG.up h.below).gt
  have hep : X.size ≤ 250 → ∀ W, HeldO w w.heap.size s 24 W → Calls Tryz.prog 11 #[.string X] W fun e w' => (∃ ma mc, e = .returned (.tuple #[.iface 80 (.agg #[.int .u64 (ow s 0), .int .u64 (ow s 1), .int .u64 (ow s 2), .int .u64 (ow s 3)]), .slice ma 0 mc, .int .i64 0, .int .i64 0])) ∧ Below W.heap.size W w' := by
    intro hl W h
    refine (eparse_any X W (hG.up h.below).gl).mono fun e w' => ?_
    rw [show X.data.toList = setT s by rw [hX], set_back s (by omega)]
    rintro ⟨hb, v, mv, rfl, hn, hm⟩
    obtain ⟨ma, mc, rfl⟩ := own_form' hm
    obtain rfl : v = .iface 80 (.agg #[.int .u64 (ow s 0), .int .u64 (ow s 1), .int .u64 (ow s 2), .int .u64 (ow s 3)]) := by
      rcases nd_kinds hn with ⟨h, _⟩ | ⟨s', h, h2⟩ | ⟨l, a, cap, h, _⟩ | ⟨l, a, cap, h, _⟩ | ⟨d', mn, mx, u, h, h2, _⟩ | ⟨num, d', u, h, _⟩ | ⟨num, h, _⟩ | ⟨h, _⟩ | ⟨h, _⟩
      all_goals first
        | (cases h; exact h2)
        | (cases h; done)
    exact ⟨⟨ma, mc, rfl⟩, hb⟩
  have hho : ∀ W : World, Calls Tryz.prog 12 #[.iface 80 (.agg #[.int .u64 (ow s 0), .int .u64 (ow s 1), .int .u64 (ow s 2), .int .u64 (ow s 3)]), .agg #[.int .u64 (ow s 0), .int .u64 (ow s 1), .int .u64 (ow s 2), .int .u64 (ow s 3)]] W fun e w' => e = .returned (.bool true) ∧ Below W.heap.size W w' := fun W => by
    have := holds_any (F := fun _ => True) (.one s) _ s W (⟨1, rfl⟩ : NdX (fun _ => True) W (.one s) (.iface 80 (.agg #[.int .u64 (ow s 0), .int .u64 (ow s 1), .int .u64 (ow s 2), .int .u64 (ow s 3)])))
    rwa [show nholds (.one s) s = true by simp [nholds]] at this
  have haw := awake6_any _ (hG.up h0.below)
  have hall0 := h0.all
  unfold oc at hall0 haw
  clear hG hX h0 hXl
  go_enter Tryz.func4, Tryz.ntmps4
  go_wp2_with fail
  refine haw.mono ?_
  rintro e w1 ⟨rfl, b1⟩
  have hall := reado_step b1 hall0
  clear haw hall0 b1
  obtain ⟨⟨c0, c1, c2, c3⟩, hH⟩ := id hall
  have hs := hset _ hH
  clear hset
  go_wp2_with fail
  refine hs.mono ?_
  rintro e w2 ⟨rfl, b2⟩
  clear hs c0 c1 c2 c3 hH
  replace hall := reado_step b2 hall
  clear b2
  obtain ⟨⟨c0, c1, c2, c3⟩, hH⟩ := id hall
  by_cases hl : X.size ≤ 250
  · have hp := hep hl _ hH
    clear hep
    go_wp2_with fail
    refine hp.mono ?_
    rintro e w3 ⟨⟨ma, mc, rfl⟩, b3⟩
    clear hp c0 c1 c2 c3 hH
    replace hall := reado_step b3 hall
    clear b3
    obtain ⟨⟨c0, c1, c2, c3⟩, hH⟩ := id hall
    have hh := hho w3
    go_wp2_with fail
    refine hh.mono ?_
    rintro e w4 ⟨rfl, b4⟩
    go_wp2_with fail
    go_ret
    exact ⟨rfl, hH.below.trans (b4.mono hH.below.size)⟩
  · clear hep hho
    go_wp2_with fail
    go_ret
    exact ⟨rfl, hH.below⟩
end Go.Proofs.YtpmeicclngckeaaGreatDoor
namespace Go.Proofs.YtpmeicclngckeaaGreatDoor
open Go.ChangeShapes Go.WideShapes Go.ChangeAt Go.RowKit
theorem gTab : Tryz.prog.globalNamed "math/bits.deBruijn64tab" = some 0 := by kernel_rfl
theorem gTabType : (Tryz.prog.globals[0]?).map (·.type) = some 181 := by kernel_rfl
theorem cellsTab : Tryz.prog.cellsOf 181 = 64 := by kernel_rfl
theorem cellsU8 : Tryz.prog.cellsOf 5 = 1 := by kernel_rfl
theorem gOpn : Tryz.prog.globalNamed "placket/bracket.openers" = some 2 := by kernel_rfl
theorem gOpnType : (Tryz.prog.globals[2]?).map (·.type) = some 221 := by kernel_rfl
theorem cellsOpn : Tryz.prog.cellsOf 221 = 3 := by kernel_rfl
theorem gPowType : (Tryz.prog.globals[1]?).map (·.type) = some 216 := by kernel_rfl
theorem cellsPow : Tryz.prog.cellsOf 216 = 20 := by kernel_rfl
theorem cellsU64 : Tryz.prog.cellsOf 22 = 1 := by kernel_rfl
theorem g6_of {W : World} (h : laidMetH Tryz.prog [("math/bits.deBruijn32tab", Rows.laid_math_bits_deBruijn32tab), ("math/bits.deBruijn64tab", Rows.laid_math_bits_deBruijn64tab), ("internal/strconv.uint64pow10", Rows.laid_internal_strconv_uint64pow10), ("placket/bracket.openers", Rows.laid_placket_bracket_openers)] W) (hsh : W.ShapedOpen Tryz.prog) : G6 W := by
  have h0 : laidMet Tryz.prog [("math/bits.deBruijn32tab", Rows.laid_math_bits_deBruijn32tab), ("math/bits.deBruijn64tab", Rows.laid_math_bits_deBruijn64tab), ("internal/strconv.uint64pow10", Rows.laid_internal_strconv_uint64pow10), ("placket/bracket.openers", Rows.laid_placket_bracket_openers)] W := h
  have h1 := laidMet.tail h0
  have h2 := laidMet.tail h1
  have hT : Lib.TabIs Tryz.prog W "math/bits.deBruijn64tab" .u8 (Lib.deBruijn64tab.map Int.ofNat) :=
    Lib.tabIs_of_head gTab gTabType Tryz.underlying181 Tryz.underlying5 cellsU8 cellsTab h1
  have hP : Pow W := Lib.tabIs_of_head pow_g gPowType Tryz.underlying216 Tryz.underlying22 cellsU64 cellsPow h2
  have hO : Lib.TabIs Tryz.prog W "placket/bracket.openers" .u8 [58, 61, 46] :=
    Lib.tabIs_of_head gOpn gOpnType Tryz.underlying221 Tryz.underlying5 cellsU8 cellsOpn (laidMet.tail h2)
  obtain ⟨m, hm⟩ : ∃ m, W.cell? ⟨4, 0, none⟩ = some (.int .i64 m) :=
    cell_of_shapedOpen_int (t := 3) (zero := #[.int .i64 0]) hsh (of_decide_eq_true (by kernel_rfl)) (by kernel_rfl) rfl (by kernel_rfl) (by kernel_rfl) Tryz.underlying3
  refine ⟨⟨fun j hj => ?_, hO.cell gOpn 0 (by decide), hO.cell gOpn 1 (by decide), hO.cell gOpn 2 (by decide), ⟨m, hm⟩, ?_⟩, hP⟩
  · rw [hT.cell gTab j (by rw [List.length_map]; exact hj)]
    simp only [List.getD, List.getElem?_map]
    rw [List.getElem?_eq_getElem hj]
    rfl
  · have hlt : ∀ (b : Nat) (v : Value), W.cell? ⟨b, 0, none⟩ = some v → b < W.heap.size := fun b v hv => by
      cases hh : W.heap[b]? with
      | none => simp [World.cell?, hh] at hv
      | some o => exact (Array.getElem?_eq_some_iff.1 hh).1
    exact Nat.max_lt.2 ⟨Nat.max_lt.2 ⟨hlt _ _ (hT.cell gTab 0 (by decide)), hlt _ _ (hO.cell gOpn 0 (by decide))⟩, hlt _ _ hm⟩
def layCells (cs : Array Value) : Obj → Obj
  | .cells _ t frozen => .cells cs t frozen
  | o => o
noncomputable def laidWorld (os : Os) : World :=
  { World.holding Tryz.prog os ⟨#[], #[], []⟩ with heap := ((((World.holding Tryz.prog os ⟨#[], #[], []⟩).heap.modify 0 (layCells (Lib.deBruijn64tab.map fun n => Value.int .u8 (Int.ofNat n)).toArray)).modify 2 (layCells #[.int .u8 58, .int .u8 61, .int .u8 46])).modify 1 (layCells (Lib.pow10Tab.map fun z => Value.int .u64 z).toArray)).modify 3 (layCells (([0, 1, 28, 2, 29, 14, 24, 3, 30, 22, 20, 15, 25, 17, 4, 8, 31, 27, 13, 23, 21, 19, 16, 7, 26, 12, 18, 6, 11, 5, 10, 9] : List Nat).map fun n => Value.int .u8 (Int.ofNat n)).toArray) }
end Go.Proofs.YtpmeicclngckeaaGreatDoor
namespace Go.Proofs.YtpmeicclngckeaaGreatDoor.showSetBack
open Go.ChangeShapes Go.WideShapes Go.ChangeAt Go.RowKit
open Go.ChangeMaps (open_string shut_string)
set_option linter.unusedVariables false
set_option maxHeartbeats 1000000 in
set_option maxRecDepth 100000 in
theorem contract (H : Type) (enc : TypeId × Value → H) (W : World) (base : Nat) (args : Array Value) (ds gs : List (DataW H)) (before : List MemPlace)
    (hval : ∀ (j : Nat) t v, Tryz.f4.params[j]? = some t → args[j]? = some v → Value.okWide Tryz.prog W .any base t v)
    (hW : DataW.Whole enc Tryz.prog Tryz.f4.params.toList Rows.showSetBackSpec.vars false W args.toList ds gs before) (hL : laidMetH Tryz.prog Rows.showSetBackRow.laid W) (hsh : W.ShapedOpen Tryz.prog) :
    Calls Tryz.prog 4 args W fun e W' => ∃ v, e = .returned v ∧ Rows.showSetBackSpec.post enc Tryz.prog Tryz.f4 false true false false W args v W' := by
  have hG : G6 W := g6_of hL hsh
  have hW' := hW
  obtain ⟨p, q, hA0, hV, rfl, hfz, hnd⟩ := hW
  have hA : DataW.TrodAll enc Tryz.prog W 0 (fun _ => true) true Tryz.f4.params.toList args.toList ds p := hA0
  rw [Tryz.params4] at hA hval
  obtain ⟨v0, vs0, d0, ds0, p0, q0, hargs, rfl, rfl, h0, r0⟩ := trodAll_cons hA
  obtain ⟨rfl, rfl, rfl⟩ := trodAll_nil r0
  obtain rfl : args = #[v0] := by cases args; simp_all
  obtain ⟨rfl, rfl⟩ := trodVars_none hV
  have k0 := h0
  have lt0 : ∀ x ∈ p0, x.block < W.heap.size := by obtain ⟨m, hm⟩ := k0; exact DataW.trod_lt m _ _ _ hm
  obtain ⟨s0, rfl⟩ := open_set (hval 0 24 v0 rfl rfl) h0
  clear hA0
  refine (showsetback_any s0 W hG).mono fun e W' ⟨he, bel⟩ => ?_
  subst he
  exact ⟨_, rfl, _, _, _, [], _, [], hW', trodAll_mk1 (shut_bool Tryz.underlying4 _), (trodAll_cons_mk (Below.trod laidOut (by kernel_rfl) (of_decide_eq_true (by kernel_rfl)) k0 bel lt0) trodAll_mk0), rfl, bel.frame _, fun h => by cases h⟩
theorem laid_met (os : Os) : laidMet Tryz.prog Rows.showSetBackRow.laid ((laidWorld os).forCall (fun _ _ => 0) ⟨#[], #[.agg #[.int .u64 0, .int .u64 0, .int .u64 0, .int .u64 0]], []⟩).memory :=
  laidMet_of_run' 100 (by kernel_rfl) (by kernel_rfl)
theorem reads (os : Os) {H : Type} (enc : TypeId × Value → H) : ∃ places, DataW.whole enc Tryz.prog ((laidWorld os).forCall (fun _ _ => 0) ⟨#[], #[.agg #[.int .u64 0, .int .u64 0, .int .u64 0, .int .u64 0]], []⟩).memory Tryz.f4.params.toList Rows.showSetBackSpec.vars false (#[.agg #[.int .u64 0, .int .u64 0, .int .u64 0, .int .u64 0]] : Array Value).toList 100 = some ([.agg [.lit (.int .u64 0), .lit (.int .u64 0), .lit (.int .u64 0), .lit (.int .u64 0)]], [], places) :=
  ⟨[], by kernel_rfl⟩
set_option maxHeartbeats 1000000 in
set_option maxRecDepth 100000 in
theorem lifted (os : Os) (started : os.Started) (H : Type) (enc : TypeId × Value → H) (F : Stop.Interp) :
    ReturnsInHanded {} Tryz.checked os 4 .any ((OpenSpec.ofChange Rows.showSetBackSpec).preRow enc Tryz.prog Tryz.f4 Rows.showSetBackRow.domain false Rows.showSetBackRow.laid) (((OpenSpec.ofChange Rows.showSetBackSpec).at F).post enc Tryz.prog Tryz.f4 false true false false) := by
  obtain ⟨places, hx⟩ := reads os enc
  refine returnsInHanded_of_row (C := Tryz.checked) (s := OpenSpec.ofChange Rows.showSetBackSpec) own started (by kernel_rfl) Tryz.func4
    (witness_row_at (enc := enc) (C := Tryz.checked) false (laidWorld os) #[.agg #[.int .u64 0, .int .u64 0, .int .u64 0, .int .u64 0]] rfl (by kernel_rfl) (by kernel_rfl) (by kernel_rfl)
      (OpenSpec.preRow_of_cond 100 hx (by kernel_rfl) (fun k hk => by cases hk) (by kernel_rfl) (laid_met os))) ?_
  intro W base args ds gs before hval hW _ hcond _ hL hsh _
  exact contract H enc W base args ds gs before hval hW hL hsh
theorem said : Rows.ShowSetBackSaid :=
  OpenClaim.holds_of_cond 4 Tryz.f4 rfl rfl rfl rfl rfl rfl rfl ⟨rfl, rfl, rfl, rfl, rfl⟩ rfl rfl rfl rfl rfl (by kernel_rfl) Tryz.func4 (by kernel_rfl)
    (of_decide_eq_true (by kernel_rfl)) (by unfold Func.isWrapper; first | (rw [if_pos (by decide +kernel)]; kernel_rfl) | (rw [if_neg (by decide +kernel)]; exact ⟨rfl, rfl⟩))
    (fun os started H enc _ F => by rw [OpenClaim.pre_eq_preRow]; exact lifted os started H enc F)
theorem plain (f : FuncId) (fn : Func) (hf : Tryz.pinned.checked.prog.funcNamed "placket/placketlaw06.ShowSetBack" = some f) (hfn : Tryz.pinned.checked.prog.funcs[f]? = some fn) :
    true = Tryz.pinned.checked.prog.looks [] ∧ ∀ (j : Nat) t, fn.params[j]? = some t → Tryz.pinned.checked.prog.wantsStandIn t = false := by
  obtain rfl : f = 4 := Option.some.inj ((show Tryz.prog.funcNamed "placket/placketlaw06.ShowSetBack" = some 4 by kernel_rfl).symm.trans hf) |>.symm
  obtain rfl : fn = Tryz.f4 := (Option.some.inj (Tryz.func4.symm.trans hfn)).symm
  refine ⟨by kernel_rfl, fun j t ht => ?_⟩
  rw [Tryz.params4] at ht
  have h := Array.mem_of_getElem? ht
  simp only [List.mem_toArray, List.mem_cons, List.not_mem_nil, or_false] at h
  obtain rfl := h
  exact (show Tryz.prog.wantsStandIn 24 = false by kernel_rfl)
theorem proved : Rows.ShowSetBackCardSaid :=
  Claim7.holds_tied_plain_at .later [] _ _ _ _ said (fun _ h => by cases h) (by kernel_rfl) (fun _ h => by cases h) showSetBack_row_tie rfl ⟨rfl, rfl⟩ (by kernel_rfl) rfl plain (by kernel_rfl)
end Go.Proofs.YtpmeicclngckeaaGreatDoor.showSetBack
namespace Go.Proofs.YtpmeicclngckeaaGreatDoor
open Go Go.RowKit
def Seen6 (k : Int) (v : Value) (w : World) : Prop := k = 0 → ∃ ere s st d, parseM ere s = .ok (st, d) ∧ NdX (fun b => b < w.heap.size) w d v
theorem pans6 {ere : Bool} {s : List UInt8} {w w' : World} {e : Ending} (h : PAns (parseM ere s) w e w') :
    (∃ (v : Value) (a : Option Addr) (n c : Nat) (pos k : Int), e = .returned (.tuple #[v, .slice a n c, .int .i64 pos, .int .i64 k]) ∧ Seen6 k v w') ∧ Below w.heap.size w w' := by
  obtain ⟨hb, h⟩ := h
  refine ⟨?_, hb⟩
  cases hp : parseM ere s with
  | error q =>
    rw [hp] at h
    exact ⟨_, _, _, _, _, _, h, fun h0 => absurd (by exact_mod_cast h0) (whole_err hp)⟩
  | ok q =>
    obtain ⟨st, d⟩ := q
    rw [hp] at h
    obtain ⟨v, mv, he, hn, hm⟩ := h
    obtain ⟨a, c, rfl⟩ := own_form' hm
    exact ⟨_, _, _, _, _, _, he, fun _ => ⟨ere, s, st, d, hp, ndx_in hn⟩⟩
set_option linter.unusedSimpArgs false in
set_option maxRecDepth 100000 in
set_option maxHeartbeats 2000000 in
theorem shback_any (ere : Bool) (s : List UInt8) (st : ReSt) (d : Nd) (v : Value) (w : World) (hp : parseM ere s = .ok (st, d)) (hd : NdX (fun b => b < w.heap.size) w d v) (hG : G6 w) :
    Calls Tryz.prog 18 #[v] w fun e w' => e = .returned (.bool true) ∧ Below w.heap.size w w' := by
  have hz := whole_size hp
  have HE : ereT d = nT d := by unfold ereT; rw [parse_right ere s st d hp]; rfl
  obtain ⟨X, hX⟩ : ∃ X : ByteArray, X = ⟨(nT d).toArray⟩ := ⟨_, rfl⟩
  have hXl : X.size = (nT d).length := by rw [hX]; simp [ByteArray.size]
  have hsh : ∀ (W : World) (u : Value), Below w.heap.size w W → NdX (fun b => b < W.heap.size) W d u → Calls Tryz.prog 14 #[u] W fun e w' => e = .returned (.string X) ∧ Below W.heap.size W w' := fun W u hb hu => by
    have := shere_any d u W hu (by omega) (hG.up hb).tbl
    rwa [HE, ← hX] at this
  have hep : X.size ≤ 250 → ∀ W : World, Below w.heap.size w W → Calls Tryz.prog 11 #[.string X] W fun e w' => (∃ u a n c, e = .returned (.tuple #[u, .slice a n c, .int .i64 0, .int .i64 0]) ∧ NdX (fun b => b < w'.heap.size) w' d u) ∧ Below W.heap.size W w' := by
    intro hl W hb
    refine (eparse_any X W (hG.up hb).gl).mono fun e w' => ?_
    obtain ⟨st', hst⟩ := parse_back ere s st d hp (by omega)
    rw [show X.data.toList = nT d by rw [hX], hst]
    rintro ⟨hb, u, mv, rfl, hn, hm⟩
    obtain ⟨a, c, rfl⟩ := own_form' hm
    exact ⟨⟨_, _, _, _, rfl, ndx_in hn⟩, hb⟩
  have hsm : ∀ (W : World) (u : Value), Below w.heap.size w W → NdX (fun b => b < W.heap.size) W d u → Calls Tryz.prog 46 #[u, v] W fun r w' => r = .returned (.bool true) ∧ Below W.heap.size W w' := fun W u hb hu => by
    have := psame_any d d u v W hu (ndx_in (hd.below hb)) (by omega)
    rwa [nsame_refl d] at this
  have hs0 := hsh w v (Below.refl _ _) hd
  clear hd hG hp hz HE hX hXl
  go_enter Tryz.func18, Tryz.ntmps18
  go_wp2_with fail
  refine hs0.mono ?_
  rintro e w1 ⟨rfl, b1⟩
  clear hs0
  by_cases hl : X.size ≤ 250
  · have hp := hep hl _ b1
    clear hep
    go_wp2_with fail
    refine hp.mono ?_
    rintro e w2 ⟨⟨u, a, n, c, rfl, hu⟩, b2⟩
    have hB2 := b1.trans (b2.mono b1.size)
    have hm := hsm w2 u hB2 hu
    clear hp hsm b1 b2
    go_wp2_with fail
    refine hm.mono ?_
    rintro e w3 ⟨rfl, b3⟩
    have hB3 := hB2.trans (b3.mono hB2.size)
    have hs3 := hsh w3 u hB3 (ndx_in (hu.below b3))
    clear hm hsh hu hB2 b3
    go_wp2_with fail
    refine hs3.mono ?_
    rintro e w4 ⟨rfl, b4⟩
    clear hs3
    go_wp2_with fail
    go_ret
    exact ⟨rfl, hB3.trans (b4.mono hB3.size)⟩
  · clear hep hsh hsm
    go_wp2_with fail
    go_ret
    exact ⟨rfl, b1⟩
set_option linter.unusedSimpArgs false in
set_option maxRecDepth 100000 in
set_option maxHeartbeats 2000000 in
theorem showback_any (s : ByteArray) (x : Bool) (w : World) (hG : G6 w) : Calls Tryz.prog 6 #[.string s, .bool x] w fun e w' => e = .returned (.bool true) ∧ Below w.heap.size w w' := by
  have haw := fun W (hb : Below w.heap.size w W) => awake6_any W (hG.up hb)
  have hbp := fun W (hb : Below w.heap.size w W) => (bparse_any s W (hG.up hb).gl).mono fun e w' h => pans6 h
  have hep := fun W (hb : Below w.heap.size w W) => (eparse_any s W (hG.up hb).gl).mono fun e w' h => pans6 h
  have hbk : ∀ (k : Int) (v : Value) W, Below w.heap.size w W → Seen6 k v W → k = 0 → Calls Tryz.prog 18 #[v] W fun e w' => e = .returned (.bool true) ∧ Below W.heap.size W w' := fun k v W hb hs hk => by
    obtain ⟨ere, s', st, d, hp, hn⟩ := hs hk
    exact shback_any ere s' st d v W hp hn (hG.up hb)
  have haw0 := haw w (Below.refl _ _)
  clear hG
  go_enter Tryz.func6, Tryz.ntmps6
  go_wp2_with fail
  refine haw0.mono ?_
  rintro e w1 ⟨rfl, b1⟩
  clear haw0
  by_cases hl : s.size ≤ 250
  · have hb := hbp _ b1
    clear hbp haw
    go_wp2_with fail
    refine hb.mono ?_
    rintro e w2 ⟨⟨v, a, n, c, pos, k, rfl, hs⟩, b2⟩
    have hB2 := b1.trans (b2.mono b1.size)
    clear hb b1 b2
    cases x with
    | false =>
      clear hep
      by_cases hk : k = 0
      · have hr := hbk k v w2 hB2 hs hk
        subst hk
        clear hbk hs
        go_wp2_with fail
        refine hr.mono ?_
        rintro e w3 ⟨rfl, b3⟩
        go_wp2_with fail
        go_ret
        exact ⟨rfl, hB2.trans (b3.mono hB2.size)⟩
      · clear hbk hs
        go_wp2_with fail
        go_ret
        exact ⟨rfl, hB2⟩
    | true =>
      have he := hep _ hB2
      clear hep hs
      go_wp2_with fail
      refine he.mono ?_
      rintro e w3 ⟨⟨v', a', n', c', pos', k', rfl, hs⟩, b3⟩
      have hB3 := hB2.trans (b3.mono hB2.size)
      clear he hB2 b3
      by_cases hk : k' = 0
      · have hr := hbk k' v' w3 hB3 hs hk
        subst hk
        clear hbk hs
        go_wp2_with fail
        refine hr.mono ?_
        rintro e w4 ⟨rfl, b4⟩
        go_wp2_with fail
        go_ret
        exact ⟨rfl, hB3.trans (b4.mono hB3.size)⟩
      · clear hbk hs
        go_wp2_with fail
        go_ret
        exact ⟨rfl, hB3⟩
  · have ha := haw _ b1
    clear hbp hep hbk haw
    go_wp2_with fail
    refine ha.mono ?_
    rintro e w2 ⟨rfl, b2⟩
    go_wp2_with fail
    go_ret
    exact ⟨rfl, b1.trans (b2.mono b1.size)⟩
end Go.Proofs.YtpmeicclngckeaaGreatDoor
namespace Go.Proofs.YtpmeicclngckeaaGreatDoor.showBack
open Go.ChangeShapes Go.WideShapes Go.ChangeAt Go.RowKit
open Go.ChangeMaps (open_string shut_string)
set_option linter.unusedVariables false
set_option maxHeartbeats 1000000 in
set_option maxRecDepth 100000 in
theorem contract (H : Type) (enc : TypeId × Value → H) (W : World) (base : Nat) (args : Array Value) (ds gs : List (DataW H)) (before : List MemPlace)
    (hval : ∀ (j : Nat) t v, Tryz.f6.params[j]? = some t → args[j]? = some v → Value.okWide Tryz.prog W .any base t v)
    (hW : DataW.Whole enc Tryz.prog Tryz.f6.params.toList Rows.showBackSpec.vars false W args.toList ds gs before) (hL : laidMetH Tryz.prog Rows.showBackRow.laid W) (hsh : W.ShapedOpen Tryz.prog) :
    Calls Tryz.prog 6 args W fun e W' => ∃ v, e = .returned v ∧ Rows.showBackSpec.post enc Tryz.prog Tryz.f6 false true false false W args v W' := by
  have hG : G6 W := g6_of hL hsh
  have hW' := hW
  obtain ⟨p, q, hA0, hV, rfl, hfz, hnd⟩ := hW
  have hA : DataW.TrodAll enc Tryz.prog W 0 (fun _ => true) true Tryz.f6.params.toList args.toList ds p := hA0
  rw [Tryz.params6] at hA hval
  obtain ⟨v0, vs0, d0, ds0, p0, q0, hargs, rfl, rfl, h0, r0⟩ := trodAll_cons hA
  obtain ⟨v1, vs1, d1, ds1, p1, q1, rfl, rfl, rfl, h1, r1⟩ := trodAll_cons r0
  obtain ⟨rfl, rfl, rfl⟩ := trodAll_nil r1
  obtain rfl : args = #[v0, v1] := by cases args; simp_all
  obtain ⟨rfl, rfl⟩ := trodVars_none hV
  have k0 := h0
  have lt0 : ∀ x ∈ p0, x.block < W.heap.size := by obtain ⟨m, hm⟩ := k0; exact DataW.trod_lt m _ _ _ hm
  obtain ⟨a0, rfl, rfl, rfl, w0⟩ := open_string Tryz.underlying9 (hval 0 9 v0 rfl rfl) h0
  have k1 := h1
  have lt1 : ∀ x ∈ p1, x.block < W.heap.size := by obtain ⟨m, hm⟩ := k1; exact DataW.trod_lt m _ _ _ hm
  obtain ⟨a1, rfl, rfl, rfl⟩ := open_bool Tryz.underlying4 (hval 1 4 v1 rfl rfl) h1
  clear hA0
  refine (showback_any a0 a1 W hG).mono fun e W' ⟨he, bel⟩ => ?_
  subst he
  exact ⟨_, rfl, _, _, _, [], _, [], hW', trodAll_mk1 (shut_bool Tryz.underlying4 _), (trodAll_cons_mk (Below.trod laidOut (by kernel_rfl) (of_decide_eq_true (by kernel_rfl)) k0 bel lt0) (trodAll_cons_mk (Below.trod laidOut (by kernel_rfl) (of_decide_eq_true (by kernel_rfl)) k1 bel lt1) trodAll_mk0)), rfl, bel.frame _, fun h => by cases h⟩
theorem laid_met (os : Os) : laidMet Tryz.prog Rows.showBackRow.laid ((laidWorld os).forCall (fun _ _ => 0) ⟨#[], #[.string ByteArray.empty, .bool false], []⟩).memory :=
  laidMet_of_run' 100 (by kernel_rfl) (by kernel_rfl)
theorem reads (os : Os) {H : Type} (enc : TypeId × Value → H) : ∃ places, DataW.whole enc Tryz.prog ((laidWorld os).forCall (fun _ _ => 0) ⟨#[], #[.string ByteArray.empty, .bool false], []⟩).memory Tryz.f6.params.toList Rows.showBackSpec.vars false (#[.string ByteArray.empty, .bool false] : Array Value).toList 100 = some ([.lit (.string []), .lit (.bool false)], [], places) :=
  ⟨[], by kernel_rfl⟩
set_option maxHeartbeats 1000000 in
set_option maxRecDepth 100000 in
theorem lifted (os : Os) (started : os.Started) (H : Type) (enc : TypeId × Value → H) (F : Stop.Interp) :
    ReturnsInHanded {} Tryz.checked os 6 .any ((OpenSpec.ofChange Rows.showBackSpec).preRow enc Tryz.prog Tryz.f6 Rows.showBackRow.domain false Rows.showBackRow.laid) (((OpenSpec.ofChange Rows.showBackSpec).at F).post enc Tryz.prog Tryz.f6 false true false false) := by
  obtain ⟨places, hx⟩ := reads os enc
  refine returnsInHanded_of_row (C := Tryz.checked) (s := OpenSpec.ofChange Rows.showBackSpec) own started (by kernel_rfl) Tryz.func6
    (witness_row_at (enc := enc) (C := Tryz.checked) false (laidWorld os) #[.string ByteArray.empty, .bool false] rfl (by kernel_rfl) (by kernel_rfl) (by kernel_rfl)
      (OpenSpec.preRow_of_cond 100 hx (by kernel_rfl) (fun k hk => by cases hk) (by kernel_rfl) (laid_met os))) ?_
  intro W base args ds gs before hval hW _ hcond _ hL hsh _
  exact contract H enc W base args ds gs before hval hW hL hsh
theorem said : Rows.ShowBackSaid :=
  OpenClaim.holds_of_cond 6 Tryz.f6 rfl rfl rfl rfl rfl rfl rfl ⟨rfl, rfl, rfl, rfl, rfl⟩ rfl rfl rfl rfl rfl (by kernel_rfl) Tryz.func6 (by kernel_rfl)
    (of_decide_eq_true (by kernel_rfl)) (by unfold Func.isWrapper; first | (rw [if_pos (by decide +kernel)]; kernel_rfl) | (rw [if_neg (by decide +kernel)]; exact ⟨rfl, rfl⟩))
    (fun os started H enc _ F => by rw [OpenClaim.pre_eq_preRow]; exact lifted os started H enc F)
theorem plain (f : FuncId) (fn : Func) (hf : Tryz.pinned.checked.prog.funcNamed "placket/placketlaw06.ShowBack" = some f) (hfn : Tryz.pinned.checked.prog.funcs[f]? = some fn) :
    true = Tryz.pinned.checked.prog.looks [] ∧ ∀ (j : Nat) t, fn.params[j]? = some t → Tryz.pinned.checked.prog.wantsStandIn t = false := by
  obtain rfl : f = 6 := Option.some.inj ((show Tryz.prog.funcNamed "placket/placketlaw06.ShowBack" = some 6 by kernel_rfl).symm.trans hf) |>.symm
  obtain rfl : fn = Tryz.f6 := (Option.some.inj (Tryz.func6.symm.trans hfn)).symm
  refine ⟨by kernel_rfl, fun j t ht => ?_⟩
  rw [Tryz.params6] at ht
  have h := Array.mem_of_getElem? ht
  simp only [List.mem_toArray, List.mem_cons, List.not_mem_nil, or_false] at h
  rcases h with rfl | rfl
  · exact (show Tryz.prog.wantsStandIn 9 = false by kernel_rfl)
  · exact (show Tryz.prog.wantsStandIn 4 = false by kernel_rfl)
theorem proved : Rows.ShowBackCardSaid :=
  Claim7.holds_tied_plain_at .later [] _ _ _ _ said (fun _ h => by cases h) (by kernel_rfl) (fun _ h => by cases h) showBack_row_tie rfl ⟨rfl, rfl⟩ (by kernel_rfl) rfl plain (by kernel_rfl)
end Go.Proofs.YtpmeicclngckeaaGreatDoor.showBack
