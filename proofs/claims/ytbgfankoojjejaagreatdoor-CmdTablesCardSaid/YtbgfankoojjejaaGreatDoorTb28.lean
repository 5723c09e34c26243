/- The proof's texts AdWg, AdWh: what the claim reaches of them. -/
import Derived.Test.YtbgfankoojjejaaGreatDoorTb27
import Derived.Deep.RegionHeld3
namespace Go.Proofs.YtbgfankoojjejaaGreatDoor
open Go Go.RowKit
theorem adLine_err {L : List UInt8} {k : Nat} {q : Nat × Nat} (h : adLine L k = .error q) : q.1 ≠ 0 := by
 unfold adLine at h
 simp only at h
 split at h
 ·split at h
  ·injection h with h; rw [← h]; exact Nat.succ_ne_zero _
  ·cases h
 ·rename_i he
  injection h with h
  rw [← h]
  exact he
theorem adPlus_err {L : List UInt8} {k : Nat} {q : Nat × Nat} (h : adPlus L k = .error q) : q.1 ≠ 0 := by
 unfold adPlus at h
 simp only at h
 split at h
 ·cases h
 ·rename_i he
  injection h with h
  rw [← h]
  exact he
theorem adRx_err {ext : Bool} {L : List UInt8} {k : Nat} {d : UInt8} {q : Nat × Nat} (h : adRx ext L k d = .error q) : q.1 ≠ 0 := by
 unfold adRx at h
 split at h
 ·rename_i he
  injection h with h
  rw [← h]
  exact delim_err he
 ·cases h
theorem adDel_err {ext : Bool} {L : List UInt8} {k : Nat} {q : Nat × Nat} (h : adDel ext L k = .error q) : q.1 ≠ 0 := by
 unfold adDel at h
 split at h
 ·injection h with h; rw [← h]; exact Nat.succ_ne_zero _
 ·split at h
  ·injection h with h; rw [← h]; exact Nat.succ_ne_zero _
  ·exact adRx_err h
theorem adM_err {ext second : Bool} {L : List UInt8} {k : Nat} {q : Nat × Nat} (h : adM ext second L k = .error q) : q.1 ≠ 0 := by
 unfold adM at h
 split at h
 ·cases h
 ·split at h
  ·exact adLine_err h
  ·split at h
   ·cases h
   ·split at h
    ·exact adRx_err h
    ·split at h
     ·exact adDel_err h
     ·split at h
      ·exact adPlus_err h
      ·cases h
theorem adSec_err {ext : Bool} {L : List UInt8} {k : Nat} {q : Nat × Nat} (h : adSec ext L k = .error q) : q.1 ≠ 0 := by
 unfold adSec adSecOf at h
 split at h
 ·split at h
  ·rename_i he
   injection h with h
   rw [← h]
   exact adM_err he
  ·split at h
   ·injection h with h; rw [← h]; exact Nat.succ_ne_zero _
   ·cases h
 ·cases h
theorem delim_le {ext : Bool} {L : List UInt8} {b : Nat} {d : UInt8} {q : (List UInt8 × Nd) × List Wm × Nat} (hb : b ≤ L.length) (h : delimM ext L b d = .ok q) : q.2.2 ≤ L.length ∧ q.2.1.length ≤ 250 := by
 unfold delimM at h
 simp only at h
 split at h
 ·split at h
  ·cases h
  ·split at h
   ·cases h
   ·rename_i hp
    injection h with h
    subst h
    refine ⟨?_, ?_⟩
    ·show (pcBetween L b d true).2.1 ≤ _
     unfold pcBetween
     rw [pcAt_at _ _ _ _ hb]
     exact pcBtw_le d true L _ _ _ hb
    ·show (wmMove _ _).length ≤ _
     rw [wmMove_len, List.length_map]
     rename_i q' 
     have h1 := whole_mks (st := q'.1) (d := q'.2) hp
     unfold parseM at hp
     split at hp
     ·cases hp
     ·omega
 ·cases h
theorem adRx_le {ext : Bool} {L : List UInt8} {b : Nat} {d : UInt8} {q : Adr × List Wm × Nat} (hb : b ≤ L.length) (h : adRx ext L b d = .ok q) : q.2.2 ≤ L.length ∧ q.2.1.length ≤ 251 := by
 unfold adRx at h
 split at h
 ·cases h
 ·rename_i hp
  injection h with h
  subst h
  have := delim_le hb hp
  exact ⟨this.1, Nat.le_succ_of_le this.2⟩
theorem adM_le' {ext second : Bool} {L : List UInt8} {k : Nat} {q : Adr × List Wm × Nat} (hk : k ≤ L.length) (h : adM ext second L k = .ok q) : q.2.2 ≤ L.length ∧ q.2.1.length ≤ 251 := by
 unfold adM at h
 split at h
 ·injection h with h; subst h; exact ⟨hk, by simp⟩
 ·rename_i c t hd
  have hlt : k < L.length := by
   by_cases e : k < L.length
   ·exact e
   ·rw [List.drop_eq_nil_of_le (by omega)] at hd; cases hd
  split at h
  ·unfold adLine at h
   simp only at h
   split at h
   ·split at h
    ·cases h
    ·injection h with h; subst h; exact ⟨(pcNum_le L k hk).2, by simp⟩
   ·cases h
  ·split at h
   ·injection h with h; subst h; exact ⟨by show k + 1 ≤ _; omega, by simp⟩
   ·split at h
    ·exact adRx_le (by omega) h
    ·split at h
     ·unfold adDel at h
      split at h
      ·cases h
      ·rename_i x t2 hd2
       have : k + 1 < L.length := by
        by_cases e : k + 1 < L.length
        ·exact e
        ·rw [List.drop_eq_nil_of_le (by omega)] at hd2; cases hd2
       split at h
       ·cases h
       ·exact adRx_le (by omega) h
     ·split at h
      ·unfold adPlus at h
       simp only at h
       split at h
       ·injection h with h; subst h; exact ⟨(pcNum_le L (k + 1) (by omega)).2, by simp⟩
       ·cases h
      ·injection h with h; subst h; exact ⟨hk, by simp⟩
theorem adM_le {ext second : Bool} {k : Nat} {q : Adr × List Wm × Nat} (s : ByteArray) (hk : k ≤ s.size) (h : adM ext second s.data.toList k = .ok q) : q.2.2 ≤ s.size ∧ q.2.1.length ≤ 251 := by
 have := adM_le' (by rw [← size_list]; exact hk) h
 rw [← size_list] at this
 exact this
theorem adSec_le {ext : Bool} {k : Nat} {q : Adr × List Wm × Nat} (s : ByteArray) (hk : k ≤ s.size) (h : adSec ext s.data.toList k = .ok q) : q.2.2 ≤ s.size ∧ q.2.1.length ≤ 251 := by
 unfold adSec at h
 split at h
 ·rename_i h44
  have h1 := blk_le s k hk
  have h2 := head_lt h44
  have h3 := blk_le s (pcBlk s.data.toList k + 1) (by omega)
  unfold adSecOf at h
  split at h
  ·cases h
  ·rename_i he
   split at h
   ·cases h
   ·injection h with h
    subst h
    exact adM_le s h3 he
 ·injection h with h
  subst h
  exact ⟨hk, by simp⟩
theorem co_own_lt9 {B : Nat} {w : World} {e : TypeId} {size n : Nat} {v : Value} {us : List Value} (h : w.ownsRow B e size v n us) (g : Nat) (hg : v.ownBlock = some g) : g < w.heap.size := own_lt' h g hg
theorem AdA.mk' {w w9 : World} {A : AdRd Adr} {kd ln p : Nat} {tx : List UInt8} {tr : Option Nd} {ms : List Wm} {tv : Value} {ma : Option Addr} {mc : Nat} (hE : (.ok (⟨kd, ln, tx, tr⟩, ms, p) : AdRd Adr) = A) (h1 : Below w.heap.size w w9) (h2 : TrO (fun b => w.heap.size ≤ b ∧ (Value.slice ma ms.length mc).ownBlock ≠ some b) w9 tr tv)
  (h3 : w9.ownsRow w.heap.size 77 2 (.slice ma ms.length mc) ms.length (wmC ms)) : AdA w A (.returned (.tuple #[.agg #[.int .i64 (kd : Int), .int .i64 (ln : Int), .string (txt tx), tv], .slice ma ms.length mc, .int .i64 (p : Int), .int .i64 0])) w9 := by
 subst hE
 exact ⟨h1, tv, ma, mc, rfl, h2, h3⟩
set_option linter.unusedVariables false in
set_option linter.unusedSimpArgs false in
set_option maxRecDepth 100000 in
set_option maxHeartbeats 4000000 in
theorem psec_any (ext : Bool) (s : ByteArray) (k : Nat) (w : World) (hs : s.size ≤ 4000000) (hk : k ≤ s.size) (hG : Gl w) (hP : GP w) :
  Calls Tryz.prog 15 #[.string s, .int .i64 (k : Int), .bool ext] w (AdA w (adSec ext s.data.toList k)) := by
 have hA := (Below.refl w.heap.size w).alloc (Nat.le_refl _) (.cells adZ 28)
 have hR0 := Blk.new w adZ 28 w.heap.size rfl
 obtain ⟨W, hW⟩ : ∃ W, w.alloc (.cells adZ 28) = W := ⟨_, rfl⟩
 rw [hW] at hA hR0
 have hB := pblk_at s k W hs hk
 have hble := blk_le s k hk
 unfold adSec
 obtain ⟨b, hb⟩ : ∃ b, pcBlk s.data.toList k = b := ⟨_, rfl⟩
 rw [hb] at hB hble ⊢
 have hx0 : (0 : Int) ≤ (b : Int) := by omega
 have hx1 : (b : Int) ≤ (s.size : Int) := by omega
 have hpf := fun w => pfx_at s b 44 w
 have hGW := hG.up hA
 have hPW := hP.up hA
 have HA := Lib.hid hA
 have HR0 := Lib.hid hR0
 clear hb hA hR0 hG hP
 obtain ⟨z0, z1, z2, z3, v0, v1, v2, v3, hz⟩ := blk4 HR0.out
 by_cases h44 : (s.data.toList.drop b).head? = some 44
 ·rw [if_pos h44]
  have hlt := head_lt h44
  rw [decide_eq_true h44] at hpf
  obtain ⟨b1, hb1⟩ : ∃ b1, b + 1 = b1 := ⟨_, rfl⟩
  rw [hb1]
  have Wb : IntKind.i64.wrap ((b : Int) + 1) = (b1 : Int) := by rw [IntWalk.i64_in _ (by omega)]; omega
  have hB2 := fun w => pblk_at s b1 w hs (by omega)
  have hble2 := blk_le s b1 (by omega)
  obtain ⟨c, hc⟩ : ∃ c, pcBlk s.data.toList b1 = c := ⟨_, rfl⟩
  rw [hc] at hB2 hble2 ⊢
  have hAd := fun (w' : World) (hb : Below W.heap.size W w') => padr_at ext true s c w' hs hble2 (hGW.up hb) (hPW.up hb)
  have hwe : ∀ q, adM ext true s.data.toList c = .error q → q.1 ≠ 0 := fun q h => adM_err h
  generalize adM ext true s.data.toList c = R at hAd hwe ⊢
  obtain ⟨A, hans⟩ : ∃ A, adSecOf c R = A := ⟨_, rfl⟩
  rw [hans]
  have HAN := Lib.hid hans
  have HAd := Lib.hid hAd
  clear hans
  clear hc hb1 h44 hlt hGW hPW hAd
  go_enter Tryz.func15, Tryz.ntmps15
  go_upto_region 2 with (go_at_call 32; refine hB.mono ?_; clear hB; rintro e w1 ⟨rfl, b1'⟩; have B1 := Lib.hid b1'; clear b1')
  go_upto_region 4 with (go_at_call 33; refine (hpf _).mono ?_; clear hpf; rintro e w2 ⟨rfl, rfl⟩)
  go_upto_region 5 with (go_at_call 32; refine (hB2 _).mono ?_; clear hB2; rintro e w3 ⟨rfl, b3⟩; have B3 := Lib.hid (B1.out.trans (b3.mono B1.out.size)); clear b3)
  have A3 := Lib.hid (HA.out.trans (B3.out.mono HA.out.size))
  have K3 := Lib.hid (HR0.out.below B3.out HR0.out.lt)
  have hC := HAd.out _ B3.out
  clear z0 z1 z2 z3 v0 v1 v2 v3 hz
  obtain ⟨z0, z1, z2, z3, v0, v1, v2, v3, hz⟩ := blk4 K3.out
  cases R with
  | error q =>
   obtain ⟨n, p⟩ := q
   have hn : n ≠ 0 := hwe _ rfl
   have hnn : ((n : Int) == 0) = false := by simp; omega
   have HAE := Lib.hid (show (.error (n, p) : AdRd Adr) = A from HAN.out)
   clear hwe hn
   go_upto_region 6 with (go_at_call 14; refine hC.mono ?_; clear hC; rintro e w4 ⟨b4, rfl⟩; have B4 := Lib.hid (A3.out.trans (b4.mono A3.out.size)); have K4 := Lib.hid (K3.out.below b4 K3.out.lt); clear b4 z0 z1 z2 z3 v0 v1 v2 v3 hz)
   have hlt4 := K4.out.lt
   generalize hW5 : w4.alloc _ = w5
   have hb5 := belowOfAlloc hW5
   have hX := blkOfAlloc hW5
   have B5 := Lib.hid (B4.out.trans (hb5.mono B4.out.size))
   have K5 := Lib.hid (K4.out.below hb5 hlt4)
   obtain ⟨x0, x1, x2, x3, _, _, _, _, hxl⟩ := blk4 hX
   obtain ⟨z0, z1, z2, z3, v0, v1, v2, v3, hz⟩ := blk4 K5.out
   clear hb5 hX hW5
   go_wp2_with fail
   first
    | (with_reducible refine post4 B5.out K5.out (Nat.le_refl _) ?_; intro w9 hB9 hk9 hs9 hz9)
    | (have hB9 := B5.out; have hk9 := K5.out; generalize w5 = w9 at *)
   clear z0 z1 z2 z3 v0 v1 v2 v3 hz
   obtain ⟨z0, z1, z2, z3, _⟩ := blk4 hk9
   refine bodyPost_ret (v := .tuple #[.agg adZ, .slice none 0 0, .int .i64 (p : Int), .int .i64 (n : Int)]) (by simp [results, Tryz.results15, go_sem, z0, z1, z2, z3]) rfl ?_
   rw [← HAE.out]
   exact ⟨hB9, rfl⟩
  | ok q =>
   obtain ⟨⟨kd, ln, tx, tr⟩, ms, p⟩ := q
   clear hwe
   have hC : Calls Tryz.prog 14 #[.string s, .int .i64 (c : Int), .bool ext, .bool true] w3 fun e w' => AdA w3 (.ok (⟨kd, ln, tx, tr⟩, ms, p)) e w' := hC
   simp only [AdA] at hC
   by_cases hkd : kd = 0
   ·subst hkd
    have HAE := Lib.hid (show (.error (12, c) : AdRd Adr) = A from HAN.out)
    go_upto_region 6 with (go_at_call 14; refine hC.mono ?_; clear hC; rintro e w4 ⟨b4, tv, ma, mc, rfl, ht, _⟩; have hsh := ht.shape; have B4 := Lib.hid (A3.out.trans (b4.mono A3.out.size)); have K4 := Lib.hid (K3.out.below b4 K3.out.lt); clear b4 ht z0 z1 z2 z3 v0 v1 v2 v3 hz; rcases hsh with ⟨T9, q9, rfl⟩ | rfl)
    all_goals
     have hlt4 := K4.out.lt
     generalize hW5 : w4.alloc _ = w5
     have hb5 := belowOfAlloc hW5
     have hX := blkOfAlloc hW5
     have B5 := Lib.hid (B4.out.trans (hb5.mono B4.out.size))
     have K5 := Lib.hid (K4.out.below hb5 hlt4)
     obtain ⟨x0, x1, x2, x3, _, _, _, _, hxl⟩ := blk4 hX
     obtain ⟨z0, z1, z2, z3, v0, v1, v2, v3, hz⟩ := blk4 K5.out
     clear hb5 hX hW5
     go_wp2_with fail
     first
      | (with_reducible refine post4 B5.out K5.out (Nat.le_refl _) ?_; intro w9 hB9 hk9 hs9 hz9)
      | (have hB9 := B5.out; have hk9 := K5.out; generalize w5 = w9 at *)
     clear z0 z1 z2 z3 v0 v1 v2 v3 hz
     obtain ⟨z0, z1, z2, z3, _⟩ := blk4 hk9
     refine bodyPost_ret (v := .tuple #[.agg adZ, .slice none 0 0, .int .i64 (c : Int), .int .i64 12]) (by simp [results, Tryz.results15, go_sem, z0, z1, z2, z3]) rfl ?_
     rw [← HAE.out]
     exact ⟨hB9, rfl⟩
   ·have hkk : ((kd : Int) == 0) = false := by simp; omega
    have HAE := Lib.hid (show (.ok (⟨kd, ln, tx, tr⟩, ms, p) : AdRd Adr) = A from (if_neg hkd).symm.trans HAN.out)
    clear hkd
    go_upto_region 6 with (go_at_call 14; refine hC.mono ?_; clear hC; rintro e w4 ⟨b4, tv, ma, mc, rfl, ht, hm⟩; have hsh := ht.shape; have HT4 := Lib.hid ht; have HM4 := Lib.hid hm; have B4 := Lib.hid (A3.out.trans (b4.mono A3.out.size)); have K4 := Lib.hid (K3.out.below b4 K3.out.lt); clear b4 ht hm z0 z1 z2 z3 v0 v1 v2 v3 hz; rcases hsh with ⟨T9, q9, rfl⟩ | rfl)
    all_goals
     have hlt4 := K4.out.lt
     generalize hW5 : w4.alloc _ = w5
     have hb5 := belowOfAlloc hW5
     have hX := blkOfAlloc hW5
     have B5 := Lib.hid (B4.out.trans (hb5.mono B4.out.size))
     have K5 := Lib.hid (K4.out.below hb5 hlt4)
     have HT5 := Lib.hid (TrO.below hb5 HT4.out)
     have HM5 := Lib.hid (nd_own_below HM4.out hb5)
     have Hlt := Lib.hid K3.out.lt
     obtain ⟨x0, x1, x2, x3, _, _, _, _, hxl⟩ := blk4 hX
     obtain ⟨z0, z1, z2, z3, v0, v1, v2, v3, hz⟩ := blk4 K5.out
     clear hb5 hX hW5
     go_wp2_with fail
     with_reducible refine post4 B5.out K5.out (Nat.le_refl _) ?_
     intro w9 hB9 hk9 hs9 hz9
     clear z0 z1 z2 z3 v0 v1 v2 v3 hz
     obtain ⟨z0, z1, z2, z3, _⟩ := blk4 hk9
     have hfin := AdA.mk' HAE.out hB9 (TrO.keep (by omega) (fun b hb _ => ⟨⟨Nat.le_trans A3.out.size hb.1, hb.2⟩, fun o => World.cell?_of_block (w := w5) (a := ⟨b, o, none⟩) (hs9 b (by have := Hlt.out; have := hb.1; omega))⟩) HT5.out) (own_row_same (own_less A3.out.size HM5.out) fun g hg => hs9 g (by have := own_of HM5.out g hg; have := Hlt.out; omega))
     exact bodyPost_ret (by simp [results, Tryz.results15, go_sem, z0, z1, z2, z3]) rfl hfin
 ·rw [if_neg h44]
  rw [decide_eq_false h44] at hpf
  clear h44 hGW hPW
  go_enter Tryz.func15, Tryz.ntmps15
  go_wp2_with (first
   | (go_at_call 32; refine hB.mono ?_; clear hB; rintro e w1 ⟨rfl, b1'⟩; have B1 := Lib.hid (HA.out.trans (b1'.mono HA.out.size)); have K1 := Lib.hid (HR0.out.below b1' HR0.out.lt); clear b1' z0 z1 z2 z3 v0 v1 v2 v3 hz; obtain ⟨z0, z1, z2, z3, v0, v1, v2, v3, hz⟩ := blk4 K1.out)
   | (go_at_call 33; refine (hpf _).mono ?_; clear hpf; rintro e w2 ⟨rfl, rfl⟩))
  first
   | (with_reducible refine post4 B1.out K1.out (Nat.le_refl _) ?_; intro w9 hB9 hk9 hs9 hz9)
   | (have hB9 := B1.out; have hk9 := K1.out; generalize w1 = w9 at *)
  clear z0 z1 z2 z3 v0 v1 v2 v3 hz
  obtain ⟨z0, z1, z2, z3, _⟩ := blk4 hk9
  refine bodyPost_ret (v := .tuple #[.agg adZ, .slice none 0 0, .int .i64 (k : Int), .int .i64 0]) (by simp [results, Tryz.results15, go_sem, z0, z1, z2, z3]) rfl ?_
  exact ⟨hB9, .nilIface, none, 0, rfl, rfl, World.ownsRow_nil _ _ _ _⟩
end Go.Proofs.YtbgfankoojjejaaGreatDoor
namespace Go.Proofs.YtbgfankoojjejaaGreatDoor
open Go Go.RowKit
abbrev gdZ : Array Value := #[.int .i64 0, .int .i64 0, .string ⟨#[]⟩, .nilIface, .int .i64 0, .int .i64 0, .string ⟨#[]⟩, .nilIface, .bool false]
def GdA (w : World) (r : AdRd Grd) (e : Ending) (w' : World) : Prop := Below w.heap.size w w' ∧ match r with
 | .error q => e = .returned (.tuple #[.agg gdZ, .slice none 0 0, .int .i64 (q.2 : Int), .int .i64 (q.1 : Int)])
 | .ok q => ∃ ta tb ma mc, e = .returned (.tuple #[.agg #[.int .i64 (q.1.a.kind : Int), .int .i64 (q.1.a.line : Int), .string (txt q.1.a.text), ta, .int .i64 (q.1.b.kind : Int), .int .i64 (q.1.b.line : Int), .string (txt q.1.b.text), tb, .bool q.1.no], .slice ma q.2.1.length mc, .int .i64 (q.2.2 : Int), .int .i64 0]) ∧
  TrO (fun b => w.heap.size < b ∧ (Value.slice ma q.2.1.length mc).ownBlock ≠ some b) w' q.1.a.tree ta ∧ TrO (fun b => w.heap.size < b ∧ (Value.slice ma q.2.1.length mc).ownBlock ≠ some b) w' q.1.b.tree tb ∧ w'.ownsRow (w.heap.size + 1) 77 2 (.slice ma q.2.1.length mc) q.2.1.length (wmC q.2.1)
theorem blk9v {w : World} {b : Nat} {T : TypeId} {v0 v1 v2 v3 v4 v5 v6 v7 v8 : Value} (h : Blk w b #[v0, v1, v2, v3, v4, v5, v6, v7, v8] T) :
  (w.cell? ⟨b, 0, none⟩ = some v0 ∧ w.cell? ⟨b, 1, none⟩ = some v1 ∧ w.cell? ⟨b, 2, none⟩ = some v2 ∧ w.cell? ⟨b, 3, none⟩ = some v3 ∧ w.cell? ⟨b, 4, none⟩ = some v4 ∧ w.cell? ⟨b, 5, none⟩ = some v5 ∧ w.cell? ⟨b, 6, none⟩ = some v6 ∧ w.cell? ⟨b, 7, none⟩ = some v7 ∧ w.cell? ⟨b, 8, none⟩ = some v8) ∧
  (w.frozen? ⟨b, 0, none⟩ = false ∧ w.frozen? ⟨b, 1, none⟩ = false ∧ w.frozen? ⟨b, 2, none⟩ = false ∧ w.frozen? ⟨b, 3, none⟩ = false ∧ w.frozen? ⟨b, 4, none⟩ = false ∧ w.frozen? ⟨b, 5, none⟩ = false ∧ w.frozen? ⟨b, 6, none⟩ = false ∧ w.frozen? ⟨b, 7, none⟩ = false ∧ w.frozen? ⟨b, 8, none⟩ = false ∧ b < w.heap.size) :=
 ⟨⟨(h.cell 0).trans rfl, (h.cell 1).trans rfl, (h.cell 2).trans rfl, (h.cell 3).trans rfl, (h.cell 4).trans rfl, (h.cell 5).trans rfl, (h.cell 6).trans rfl, (h.cell 7).trans rfl, (h.cell 8).trans rfl⟩, h.frozen 0, h.frozen 1, h.frozen 2, h.frozen 3, h.frozen 4, h.frozen 5, h.frozen 6, h.frozen 7, h.frozen 8, h.lt⟩
theorem post9v {P : Program} {fn : Func} {Q : Ending → World → Prop} {e : Exit} {act : Act} {w0 w : World} {p : Nat} {T : TypeId} {u0 u1 u2 u3 u4 u5 u6 u7 u8 : Value} (hb : Below w0.heap.size w0 w) (h : Blk w p #[u0, u1, u2, u3, u4, u5, u6, u7, u8] T) (hp : w0.heap.size ≤ p) {v0 v1 v2 v3 v4 v5 v6 v7 v8 : Value}
  (H : ∀ w', Below w0.heap.size w0 w' → Blk w' p #[v0, v1, v2, v3, v4, v5, v6, v7, v8] T → (∀ b, b ≠ p → w'.heap[b]? = w.heap[b]?) → w'.heap.size = w.heap.size → bodyPost P fn Q e act w') :
  bodyPost P fn Q e act (((((((((w.setCell ⟨p, 0, none⟩ v0).setCell ⟨p, 1, none⟩ v1).setCell ⟨p, 2, none⟩ v2).setCell ⟨p, 3, none⟩ v3).setCell ⟨p, 4, none⟩ v4).setCell ⟨p, 5, none⟩ v5).setCell ⟨p, 6, none⟩ v6).setCell ⟨p, 7, none⟩ v7).setCell ⟨p, 8, none⟩ v8) := by
 have h9 := ((((((((h.set 0 v0).set 1 v1).set 2 v2).set 3 v3).set 4 v4).set 5 v5).set 6 v6).set 7 v7).set 8 v8
 have hcs : ((((((((((#[u0, u1, u2, u3, u4, u5, u6, u7, u8] : Array Value).setIfInBounds 0 v0).setIfInBounds 1 v1).setIfInBounds 2 v2).setIfInBounds 3 v3).setIfInBounds 4 v4).setIfInBounds 5 v5).setIfInBounds 6 v6).setIfInBounds 7 v7).setIfInBounds 8 v8) = #[v0, v1, v2, v3, v4, v5, v6, v7, v8] := by
  simp
 rw [hcs] at h9
 clear hcs h
 have o1 : ∀ (w : World) (j : Nat) (v : Value) b, b ≠ p → (w.setCell ⟨p, j, none⟩ v).heap[b]? = w.heap[b]? := fun w j v b hb => Below.heap_setCell _ _ _ _ (fun e => hb e)
 have s1 : ∀ (w : World) (j : Nat) (v : Value), (w.setCell ⟨p, j, none⟩ v).heap.size = w.heap.size := fun w j v => by simp [World.setCell]
 refine H _ ?_ h9 (fun b hb => ?_) ?_
 ·exact ((((((((hb.setCell (p := ⟨p, 0, none⟩) hp v0).setCell (p := ⟨p, 1, none⟩) hp v1).setCell (p := ⟨p, 2, none⟩) hp v2).setCell (p := ⟨p, 3, none⟩) hp v3).setCell (p := ⟨p, 4, none⟩) hp v4).setCell (p := ⟨p, 5, none⟩) hp v5).setCell (p := ⟨p, 6, none⟩) hp v6).setCell (p := ⟨p, 7, none⟩) hp v7).setCell (p := ⟨p, 8, none⟩) hp v8
 ·exact (o1 _ 8 v8 b hb).trans ((o1 _ 7 v7 b hb).trans ((o1 _ 6 v6 b hb).trans ((o1 _ 5 v5 b hb).trans ((o1 _ 4 v4 b hb).trans ((o1 _ 3 v3 b hb).trans ((o1 _ 2 v2 b hb).trans ((o1 _ 1 v1 b hb).trans (o1 _ 0 v0 b hb))))))))
 ·exact (s1 _ 8 v8).trans ((s1 _ 7 v7).trans ((s1 _ 6 v6).trans ((s1 _ 5 v5).trans ((s1 _ 4 v4).trans ((s1 _ 3 v3).trans ((s1 _ 2 v2).trans ((s1 _ 1 v1).trans (s1 _ 0 v0))))))))
structure GdSt (w : World) (g : Nat) (a b : Adr) (ta tb : Value) (no : Value) (ms : List Wm) (ma : Option Addr) (mc : Nat) (W : World) : Prop where
 b0 : Below w.heap.size w W
 p : Blk W w.heap.size gdZ 30
 q : Blk W g #[.int .i64 (a.kind : Int), .int .i64 (a.line : Int), .string (txt a.text), ta, .int .i64 (b.kind : Int), .int .i64 (b.line : Int), .string (txt b.text), tb, no] 30
 pg : w.heap.size < g
 ha : TrO (fun b => w.heap.size < b ∧ b ≠ g ∧ (Value.slice ma ms.length mc).ownBlock ≠ some b) W a.tree ta
 hb : TrO (fun b => w.heap.size < b ∧ b ≠ g ∧ (Value.slice ma ms.length mc).ownBlock ≠ some b) W b.tree tb
 r : W.ownsRow (w.heap.size + 1) 77 2 (.slice ma ms.length mc) ms.length (wmC ms)
 rg : (Value.slice ma ms.length mc).ownBlock ≠ some g
theorem GdSt.step {w : World} {g : Nat} {a b : Adr} {ta tb no : Value} {ms : List Wm} {ma : Option Addr} {mc : Nat} {W W' : World} (h : GdSt w g a b ta tb no ms ma mc W) (hb : Below W.heap.size W W') : GdSt w g a b ta tb no ms ma mc W' :=
 ⟨h.b0.trans (hb.mono h.b0.size), h.p.below hb h.p.lt, h.q.below hb h.q.lt, h.pg, h.ha.below hb, h.hb.below hb, nd_own_below h.r hb, h.rg⟩
theorem GdSt.not {w : World} {g : Nat} {a b : Adr} {ta tb no : Value} {ms : List Wm} {ma : Option Addr} {mc : Nat} {W : World} (h : GdSt w g a b ta tb no ms ma mc W) (n : Value) : GdSt w g a b ta tb n ms ma mc (W.setCell ⟨g, 8, none⟩ n) := by
 have hpg := h.pg
 have o1 : ∀ b, b ≠ g → (W.setCell ⟨g, 8, none⟩ n).heap[b]? = W.heap[b]? := fun b hb => Below.heap_setCell _ _ _ _ (fun e => hb e)
 have hsz : (W.setCell ⟨g, 8, none⟩ n).heap.size = W.heap.size := by simp [World.setCell]
 have hk : ∀ {t v}, TrO (fun b => w.heap.size < b ∧ b ≠ g ∧ (Value.slice ma ms.length mc).ownBlock ≠ some b) W t v → TrO (fun b => w.heap.size < b ∧ b ≠ g ∧ (Value.slice ma ms.length mc).ownBlock ≠ some b) (W.setCell ⟨g, 8, none⟩ n) t v := fun hk => TrO.keep (by omega) (fun b hb _ => ⟨hb, fun o => World.cell?_of_block (w := W) (a := ⟨b, o, none⟩) (o1 b hb.2.1)⟩) hk
 exact ⟨h.b0.setCell (p := ⟨g, 8, none⟩) (Nat.le_of_lt hpg) n, blk_like h.p (o1 _ (by omega)), h.q.set 8 n, hpg, hk h.ha, hk h.hb, own_row_same h.r fun b hb => o1 b fun e => h.rg (by rw [hb, e]), h.rg⟩
theorem GdSt.end {w : World} {g : Nat} {a b : Adr} {ta tb : Value} {no : Bool} {ms : List Wm} {ma : Option Addr} {mc : Nat} {W W' : World} (h : GdSt w g a b ta tb (.bool no) ms ma mc W) (h1 : Below w.heap.size w W') (hs : ∀ b, b ≠ w.heap.size → W'.heap[b]? = W.heap[b]?) (hz : W'.heap.size = W.heap.size) (p : Nat) :
  GdA w (.ok (⟨a, b, no⟩, ms, p)) (.returned (.tuple #[.agg #[.int .i64 (a.kind : Int), .int .i64 (a.line : Int), .string (txt a.text), ta, .int .i64 (b.kind : Int), .int .i64 (b.line : Int), .string (txt b.text), tb, .bool no], .slice ma ms.length mc, .int .i64 (p : Int), .int .i64 0])) W' := by
 have hk : ∀ {t v}, TrO (fun b => w.heap.size < b ∧ b ≠ g ∧ (Value.slice ma ms.length mc).ownBlock ≠ some b) W t v → TrO (fun b => w.heap.size < b ∧ (Value.slice ma ms.length mc).ownBlock ≠ some b) W' t v := fun hk => TrO.keep (by omega) (fun b hb _ => ⟨⟨hb.1, hb.2.2⟩, fun o => World.cell?_of_block (w := W) (a := ⟨b, o, none⟩) (hs b (by have := hb.1; omega))⟩) hk
 exact ⟨h1, ta, tb, ma, mc, rfl, hk h.ha, hk h.hb, own_row_same h.r fun b hb => hs b (by have := own_of h.r b hb; omega)⟩
theorem adNot_err {L : List UInt8} {k : Nat} {q : Nat × Nat} (h : adNot L k = .error q) : q.1 ≠ 0 := by
 unfold adNot at h
 split at h
 ·split at h
  ·injection h with h; rw [← h]; exact Nat.succ_ne_zero _
  ·cases h
 ·cases h
theorem newsOf {w : World} {B : Nat} {T : TypeId} {a : Option Addr} {n c : Nat} {xs : List Value} {size : Nat} (h : w.ownsRow B T size (.slice a n c) n xs) : 0 < n → ∃ ad, a = some ad ∧ ∀ j u, xs[j]? = some u → w.cell? (ad.add j) = some u := fun h0 => by
 have h2 := h
 rcases h.2 with ⟨_, h3⟩ | ⟨q, cap, cur, e, _⟩
 ·omega
 ·injection e with e1 _ e2
  subst e1 e2
  exact ⟨_, rfl, h2.cells rfl⟩
theorem GdSt.sec {w : World} {g : Nat} {a : Adr} {ta : Value} {ms : List Wm} {ma : Option Addr} {mc : Nat} {W : World} (h : GdSt w g a adNone ta .nilIface (.bool false) ms ma mc W) {b : Adr} {tb : Value} {ms2 : List Wm} {mb : Option Addr} {mcb B2 : Nat} (hg : g < B2) (hq : ∀ q, (Value.slice ma ms.length mc).ownBlock = some q → q < B2)
  (hb2 : TrO (fun x => B2 ≤ x ∧ (Value.slice mb ms2.length mcb).ownBlock ≠ some x) W b.tree tb) {W9 : World} {m9 : Option Addr} {c9 : Nat} (e0 : Below w.heap.size w W9) (hsz : W.heap.size ≤ W9.heap.size)
  (hp9 : ∀ x, x < W.heap.size → x ≠ g → (Value.slice ma ms.length mc).ownBlock ≠ some x → W9.heap[x]? = W.heap[x]?)
  (hq9 : Blk W9 g #[.int .i64 (a.kind : Int), .int .i64 (a.line : Int), .string (txt a.text), ta, .int .i64 (b.kind : Int), .int .i64 (b.line : Int), .string (txt b.text), tb, .bool false] 30)
  (hr9 : W9.ownsRow (w.heap.size + 1) 77 2 (.slice m9 (ms.length + ms2.length) c9) (ms.length + ms2.length) (wmC ms ++ wmC ms2)) (hat : (Value.slice m9 (ms.length + ms2.length) c9).ownBlock = (Value.slice ma ms.length mc).ownBlock ∨ ∃ x, (Value.slice m9 (ms.length + ms2.length) c9).ownBlock = some x ∧ W.heap.size ≤ x) :
  GdSt w g a b ta tb (.bool false) (ms ++ ms2) m9 c9 W9 := by
 have hpg := h.pg
 have hgl := h.q.lt
 have hn : ∀ x, x < W.heap.size → (Value.slice ma ms.length mc).ownBlock ≠ some x → (Value.slice m9 (ms.length + ms2.length) c9).ownBlock ≠ some x := fun x hx h1 e => by
  rcases hat with h2 | ⟨y, h2, hy⟩
  ·exact h1 (h2.symm.trans e)
  ·rw [h2] at e; injection e with e; omega
 have hl : (ms ++ ms2).length = ms.length + ms2.length := List.length_append
 refine ⟨e0, blk_like h.p (hp9 _ (by omega) (by omega) fun e => by have := own_of h.r _ e; omega), hq9, hpg, ?_, ?_, ?_, ?_⟩
 ·rw [hl]
  exact TrO.keep hsz (fun x hx hl => ⟨⟨hx.1, hx.2.1, hn x hl hx.2.2⟩, fun o => World.cell?_of_block (w := W) (a := ⟨x, o, none⟩) (hp9 x hl hx.2.1 hx.2.2)⟩) h.ha
 ·rw [hl]
  refine TrO.keep hsz (fun x hx hl => ?_) hb2
  have h1 : (Value.slice ma ms.length mc).ownBlock ≠ some x := fun e => by have := hq x e; have := hx.1; omega
  have h2 : x ≠ g := by have := hx.1; omega
  exact ⟨⟨by have := hx.1; omega, h2, hn x hl h1⟩, fun o => World.cell?_of_block (w := W) (a := ⟨x, o, none⟩) (hp9 x hl h2 h1)⟩
 ·rw [hl, wmC_app]
  exact hr9
 ·rw [hl]
  exact hn g hgl h.rg
theorem put4at {W : World} {g : Nat} {T : TypeId} {u0 u1 u2 u3 u4 u5 u6 u7 u8 : Value} (h : Blk W g #[u0, u1, u2, u3, u4, u5, u6, u7, u8] T) (v4 v5 v6 v7 : Value) (w' : World)
  (hw : ((((W.setCell ⟨g, 4, none⟩ v4).setCell ⟨g, 5, none⟩ v5).setCell ⟨g, 6, none⟩ v6).setCell ⟨g, 7, none⟩ v7) = w') :
  Blk w' g #[u0, u1, u2, u3, v4, v5, v6, v7, u8] T ∧ (∀ b, b ≠ g → w'.heap[b]? = W.heap[b]?) ∧ w'.heap.size = W.heap.size ∧ (∀ B, B ≤ g → Below B W w') := by
 subst hw
 have o1 : ∀ (w : World) (j : Nat) (v : Value) b, b ≠ g → (w.setCell ⟨g, j, none⟩ v).heap[b]? = w.heap[b]? := fun w j v b hb => Below.heap_setCell _ _ _ _ (fun e => hb e)
 refine ⟨(((h.set 4 v4).set 5 v5).set 6 v6).set 7 v7, fun b hb => ?_, by simp [World.setCell], fun B hB => ?_⟩
 ·rw [o1 _ _ _ _ hb, o1 _ _ _ _ hb, o1 _ _ _ _ hb, o1 _ _ _ _ hb]
 ·exact (((((Below.refl _ _).setCell (p := ⟨g, 4, none⟩) hB v4).setCell (p := ⟨g, 5, none⟩) hB v5).setCell (p := ⟨g, 6, none⟩) hB v6).setCell (p := ⟨g, 7, none⟩) hB v7)
end Go.Proofs.YtbgfankoojjejaaGreatDoor
