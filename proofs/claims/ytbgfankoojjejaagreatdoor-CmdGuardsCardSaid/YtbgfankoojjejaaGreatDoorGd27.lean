/- The proof's texts AdWg, AdWh, AdWi: what the claim reaches of them. -/
import Derived.Test.YtbgfankoojjejaaGreatDoorGd26
import Derived.Deep.RegionHeld3
set_option linter.unusedSimpArgs false
set_option linter.unusedVariables false
set_option maxHeartbeats 8000000
set_option maxRecDepth 1000000
namespace Go.Proofs.YtbgfankoojjejaaGreatDoor
open Go Go.RowKit
theorem adLine_err {L:List UInt8} {k:Nat} {q:Nat × Nat} (h:adLine L k=.error q):q.1≠0:=by
 unfold adLine at h
 simp only at h
 split at h
 ·split at h
  ·injection h with h;rw [←h];exact Nat.succ_ne_zero _
  ·cases h
 ·rename_i he
  injection h with h
  rw [←h]
  exact he
theorem adPlus_err {L:List UInt8} {k:Nat} {q:Nat × Nat} (h:adPlus L k=.error q):q.1≠0:=by
 unfold adPlus at h
 simp only at h
 split at h
 ·cases h
 ·rename_i he
  injection h with h
  rw [←h]
  exact he
theorem adRx_err {ext:Bool} {L:List UInt8} {k:Nat} {d:UInt8} {q:Nat × Nat} (h:adRx ext L k d=.error q):q.1≠0:=by
 unfold adRx at h
 split at h
 ·rename_i he
  injection h with h
  rw [←h]
  exact delim_err he
 ·cases h
theorem adDel_err {ext:Bool} {L:List UInt8} {k:Nat} {q:Nat × Nat} (h:adDel ext L k=.error q):q.1≠0:=by
 unfold adDel at h
 split at h
 ·injection h with h;rw [←h];exact Nat.succ_ne_zero _
 ·split at h
  ·injection h with h;rw [←h];exact Nat.succ_ne_zero _
  ·exact adRx_err h
theorem adM_err {ext second:Bool} {L:List UInt8} {k:Nat} {q:Nat × Nat} (h:adM ext second L k=.error q):q.1≠0:=by
 unfold adM at h
 split at h
 ·cases h
 ·split at h
  ·exact adLine_err h
  ·split at h
   ·cases h
   ·split at h
    ·exact adRx_err h
    ·split at h
     ·exact adDel_err h
     ·split at h
      ·exact adPlus_err h
      ·cases h
theorem adSec_err {ext:Bool} {L:List UInt8} {k:Nat} {q:Nat × Nat} (h:adSec ext L k=.error q):q.1≠0:=by
 unfold adSec adSecOf at h
 split at h
 ·split at h
  ·rename_i he
   injection h with h
   rw [←h]
   exact adM_err he
  ·split at h
   ·injection h with h;rw [←h];exact Nat.succ_ne_zero _
   ·cases h
 ·cases h
theorem delim_le {ext:Bool} {L:List UInt8} {b:Nat} {d:UInt8} {q:(List UInt8 × Nd) × List Wm × Nat} (hb:b≤L.length) (h:delimM ext L b d=.ok q):q.2.2≤L.length∧q.2.1.length≤250:=by
 unfold delimM at h
 simp only at h
 split at h
 ·split at h
  ·cases h
  ·split at h
   ·cases h
   ·rename_i hp
    injection h with h
    subst h
    refine ⟨?_,?_⟩
    ·show (pcBetween L b d true).2.1≤_
     unfold pcBetween
     rw [pcAt_at _ _ _ _ hb]
     exact pcBtw_le d true L _ _ _ hb
    ·show (wmMove _ _).length≤_
     rw [wmMove_len,List.length_map]
     rename_i q' 
     have h1:=whole_mks (st:=q'.1) (d:=q'.2) hp
     unfold parseM at hp
     split at hp
     ·cases hp
     ·omega
 ·cases h
theorem adRx_le {ext:Bool} {L:List UInt8} {b:Nat} {d:UInt8} {q:Adr × List Wm × Nat} (hb:b≤L.length) (h:adRx ext L b d=.ok q):q.2.2≤L.length∧q.2.1.length≤251:=by
 unfold adRx at h
 split at h
 ·cases h
 ·rename_i hp
  injection h with h
  subst h
  have:=delim_le hb hp
  exact ⟨this.1,Nat.le_succ_of_le this.2⟩
theorem adM_le' {ext second:Bool} {L:List UInt8} {k:Nat} {q:Adr × List Wm × Nat} (hk:k≤L.length) (h:adM ext second L k=.ok q):q.2.2≤L.length∧q.2.1.length≤251:=by
 unfold adM at h
 split at h
 ·injection h with h;subst h;exact ⟨hk,by simp⟩
 ·rename_i c t hd
  have hlt:k < L.length:=by
   by_cases e:k < L.length
   ·exact e
   ·rw [List.drop_eq_nil_of_le (by omega)] at hd;cases hd
  split at h
  ·unfold adLine at h
   simp only at h
   split at h
   ·split at h
    ·cases h
    ·injection h with h;subst h;exact ⟨(pcNum_le L k hk).2,by simp⟩
   ·cases h
  ·split at h
   ·injection h with h;subst h;exact ⟨by show k+1≤_;omega,by simp⟩
   ·split at h
    ·exact adRx_le (by omega) h
    ·split at h
     ·unfold adDel at h
      split at h
      ·cases h
      ·rename_i x t2 hd2
       have:k+1 < L.length:=by
        by_cases e:k+1 < L.length
        ·exact e
        ·rw [List.drop_eq_nil_of_le (by omega)] at hd2;cases hd2
       split at h
       ·cases h
       ·exact adRx_le (by omega) h
     ·split at h
      ·unfold adPlus at h
       simp only at h
       split at h
       ·injection h with h;subst h;exact ⟨(pcNum_le L (k+1) (by omega)).2,by simp⟩
       ·cases h
      ·injection h with h;subst h;exact ⟨hk,by simp⟩
theorem adM_le {ext second:Bool} {k:Nat} {q:Adr × List Wm × Nat} (s:ByteArray) (hk:k≤s.size) (h:adM ext second s.data.toList k=.ok q):q.2.2≤s.size∧q.2.1.length≤251:=by
 have:=adM_le' (by rw [←size_list];exact hk) h
 rw [←size_list] at this
 exact this
theorem adSec_le {ext:Bool} {k:Nat} {q:Adr × List Wm × Nat} (s:ByteArray) (hk:k≤s.size) (h:adSec ext s.data.toList k=.ok q):q.2.2≤s.size∧q.2.1.length≤251:=by
 unfold adSec at h
 split at h
 ·rename_i h44
  have h1:=blk_le s k hk
  have h2:=head_lt h44
  have h3:=blk_le s (pcBlk s.data.toList k+1) (by omega)
  unfold adSecOf at h
  split at h
  ·cases h
  ·rename_i he
   split at h
   ·cases h
   ·injection h with h
    subst h
    exact adM_le s h3 he
 ·injection h with h
  subst h
  exact ⟨hk,by simp⟩
theorem co_own_lt9 {B:Nat} {w:World} {e:TypeId} {size n:Nat} {v:Value} {us:List Value} (h:w.ownsRow B e size v n us) (g:Nat) (hg:v.ownBlock=some g):g < w.heap.size:=own_lt' h g hg
theorem AdA.mk' {w w9:World} {A:AdRd Adr} {kd ln p:Nat} {tx:List UInt8} {tr:Option Nd} {ms:List Wm} {tv:Value} {ma:Option Addr} {mc:Nat} (hE:(.ok (⟨kd,ln,tx,tr⟩,ms,p):AdRd Adr)=A) (h1:Below w.heap.size w w9) (h2:TrO (fun b=>w.heap.size≤b∧(Value.slice ma ms.length mc).ownBlock≠some b) w9 tr tv)
  (h3:w9.ownsRow w.heap.size 77 2 (.slice ma ms.length mc) ms.length (wmC ms)):AdA w A (.returned (.tuple #[.agg #[.int .i64 (kd:Int),.int .i64 (ln:Int),.string (txt tx),tv],.slice ma ms.length mc,.int .i64 (p:Int),.int .i64 0])) w9:=by
 subst hE
 exact ⟨h1,tv,ma,mc,rfl,h2,h3⟩
theorem psec_any (ext:Bool) (s:ByteArray) (k:Nat) (w:World) (hs:s.size≤4000000) (hk:k≤s.size) (hG:Gl w) (hP:GP w) :
  Calls Tryz.prog 15 #[.string s,.int .i64 (k:Int),.bool ext] w (AdA w (adSec ext s.data.toList k)):=by
 have hA:=(Below.refl w.heap.size w).alloc (Nat.le_refl _) (.cells adZ 28)
 have hR0:=Blk.new w adZ 28 w.heap.size rfl
 obtain ⟨W,hW⟩:∃ W,w.alloc (.cells adZ 28)=W:=⟨_,rfl⟩
 rw [hW] at hA hR0
 have hB:=pblk_at s k W hs hk
 have hble:=blk_le s k hk
 unfold adSec
 obtain ⟨b,hb⟩:∃ b,pcBlk s.data.toList k=b:=⟨_,rfl⟩
 rw [hb] at hB hble ⊢
 have hx0:(0:Int)≤(b:Int):=by omega
 have hx1:(b:Int)≤(s.size:Int):=by omega
 have hpf:=fun w=>pfx_at s b 44 w
 have hGW:=hG.up hA
 have hPW:=hP.up hA
 have HA:=Lib.hid hA
 have HR0:=Lib.hid hR0
 clear hb hA hR0 hG hP
 obtain ⟨z0,z1,z2,z3,v0,v1,v2,v3,hz⟩:=blk4 HR0.out
 by_cases h44:(s.data.toList.drop b).head?=some 44
 ·rw [if_pos h44]
  have hlt:=head_lt h44
  rw [decide_eq_true h44] at hpf
  obtain ⟨b1,hb1⟩:∃ b1,b+1=b1:=⟨_,rfl⟩
  rw [hb1]
  have Wb:IntKind.i64.wrap ((b:Int)+1)=(b1:Int):=by rw [IntWalk.i64_in _ (by omega)];omega
  have hB2:=fun w=>pblk_at s b1 w hs (by omega)
  have hble2:=blk_le s b1 (by omega)
  obtain ⟨c,hc⟩:∃ c,pcBlk s.data.toList b1=c:=⟨_,rfl⟩
  rw [hc] at hB2 hble2 ⊢
  have hAd:=fun (w':World) (hb:Below W.heap.size W w')=>padr_at ext true s c w' hs hble2 (hGW.up hb) (hPW.up hb)
  have hwe:∀ q,adM ext true s.data.toList c=.error q→q.1≠0:=fun q h=>adM_err h
  generalize adM ext true s.data.toList c=R at hAd hwe ⊢
  obtain ⟨A,hans⟩:∃ A,adSecOf c R=A:=⟨_,rfl⟩
  rw [hans]
  have HAN:=Lib.hid hans
  have HAd:=Lib.hid hAd
  clear hans
  clear hc hb1 h44 hlt hGW hPW hAd
  go_enter Tryz.func15,Tryz.ntmps15
  go_upto_region 2 with (go_at_call 32;refine hB.mono ?_;clear hB;rintro e w1 ⟨rfl,b1'⟩;have B1:=Lib.hid b1';clear b1')
  go_upto_region 4 with (go_at_call 33;refine (hpf _).mono ?_;clear hpf;rintro e w2 ⟨rfl,rfl⟩)
  go_upto_region 5 with (go_at_call 32;refine (hB2 _).mono ?_;clear hB2;rintro e w3 ⟨rfl,b3⟩;have B3:=Lib.hid (B1.out.trans (b3.mono B1.out.size));clear b3)
  have A3:=Lib.hid (HA.out.trans (B3.out.mono HA.out.size))
  have K3:=Lib.hid (HR0.out.below B3.out HR0.out.lt)
  have hC:=HAd.out _ B3.out
  clear z0 z1 z2 z3 v0 v1 v2 v3 hz
  obtain ⟨z0,z1,z2,z3,v0,v1,v2,v3,hz⟩:=blk4 K3.out
  cases R with
  | error q=>
   obtain ⟨n,p⟩:=q
   have hn:n≠0:=hwe _ rfl
   have hnn:((n:Int) == 0)=false:=by simp;omega
   have HAE:=Lib.hid (show (.error (n,p):AdRd Adr)=A from HAN.out)
   clear hwe hn
   go_upto_region 6 with (go_at_call 14;refine hC.mono ?_;clear hC;rintro e w4 ⟨b4,rfl⟩;have B4:=Lib.hid (A3.out.trans (b4.mono A3.out.size));have K4:=Lib.hid (K3.out.below b4 K3.out.lt);clear b4 z0 z1 z2 z3 v0 v1 v2 v3 hz)
   have hlt4:=K4.out.lt
   generalize hW5:w4.alloc _=w5
   have hb5:=belowOfAlloc hW5
   have hX:=blkOfAlloc hW5
   have B5:=Lib.hid (B4.out.trans (hb5.mono B4.out.size))
   have K5:=Lib.hid (K4.out.below hb5 hlt4)
   obtain ⟨x0,x1,x2,x3,_,_,_,_,hxl⟩:=blk4 hX
   obtain ⟨z0,z1,z2,z3,v0,v1,v2,v3,hz⟩:=blk4 K5.out
   clear hb5 hX hW5
   go_wp2_with fail
   first
    | (with_reducible refine post4 B5.out K5.out (Nat.le_refl _) ?_;intro w9 hB9 hk9 hs9 hz9)
    | (have hB9:=B5.out;have hk9:=K5.out;generalize w5=w9 at *)
   clear z0 z1 z2 z3 v0 v1 v2 v3 hz
   obtain ⟨z0,z1,z2,z3,_⟩:=blk4 hk9
   refine bodyPost_ret (v:=.tuple #[.agg adZ,.slice none 0 0,.int .i64 (p:Int),.int .i64 (n:Int)]) (by simp [results,Tryz.results15,go_sem,z0,z1,z2,z3]) rfl ?_
   rw [←HAE.out]
   exact ⟨hB9,rfl⟩
  | ok q=>
   obtain ⟨⟨kd,ln,tx,tr⟩,ms,p⟩:=q
   clear hwe
   have hC:Calls Tryz.prog 14 #[.string s,.int .i64 (c:Int),.bool ext,.bool true] w3 fun e w'=>AdA w3 (.ok (⟨kd,ln,tx,tr⟩,ms,p)) e w':=hC
   simp only [AdA] at hC
   by_cases hkd:kd=0
   ·subst hkd
    have HAE:=Lib.hid (show (.error (12,c):AdRd Adr)=A from HAN.out)
    go_upto_region 6 with (go_at_call 14;refine hC.mono ?_;clear hC;rintro e w4 ⟨b4,tv,ma,mc,rfl,ht,_⟩;have hsh:=ht.shape;have B4:=Lib.hid (A3.out.trans (b4.mono A3.out.size));have K4:=Lib.hid (K3.out.below b4 K3.out.lt);clear b4 ht z0 z1 z2 z3 v0 v1 v2 v3 hz;rcases hsh with ⟨T9,q9,rfl⟩ | rfl)
    all_goals
     have hlt4:=K4.out.lt
     generalize hW5:w4.alloc _=w5
     have hb5:=belowOfAlloc hW5
     have hX:=blkOfAlloc hW5
     have B5:=Lib.hid (B4.out.trans (hb5.mono B4.out.size))
     have K5:=Lib.hid (K4.out.below hb5 hlt4)
     obtain ⟨x0,x1,x2,x3,_,_,_,_,hxl⟩:=blk4 hX
     obtain ⟨z0,z1,z2,z3,v0,v1,v2,v3,hz⟩:=blk4 K5.out
     clear hb5 hX hW5
     go_wp2_with fail
     first
      | (with_reducible refine post4 B5.out K5.out (Nat.le_refl _) ?_;intro w9 hB9 hk9 hs9 hz9)
      | (have hB9:=B5.out;have hk9:=K5.out;generalize w5=w9 at *)
     clear z0 z1 z2 z3 v0 v1 v2 v3 hz
     obtain ⟨z0,z1,z2,z3,_⟩:=blk4 hk9
     refine bodyPost_ret (v:=.tuple #[.agg adZ,.slice none 0 0,.int .i64 (c:Int),.int .i64 12]) (by simp [results,Tryz.results15,go_sem,z0,z1,z2,z3]) rfl ?_
     rw [←HAE.out]
     exact ⟨hB9,rfl⟩
   ·have hkk:((kd:Int) == 0)=false:=by simp;omega
    have HAE:=Lib.hid (show (.ok (⟨kd,ln,tx,tr⟩,ms,p):AdRd Adr)=A from (if_neg hkd).symm.trans HAN.out)
    clear hkd
    go_upto_region 6 with (go_at_call 14;refine hC.mono ?_;clear hC;rintro e w4 ⟨b4,tv,ma,mc,rfl,ht,hm⟩;have hsh:=ht.shape;have HT4:=Lib.hid ht;have HM4:=Lib.hid hm;have B4:=Lib.hid (A3.out.trans (b4.mono A3.out.size));have K4:=Lib.hid (K3.out.below b4 K3.out.lt);clear b4 ht hm z0 z1 z2 z3 v0 v1 v2 v3 hz;rcases hsh with ⟨T9,q9,rfl⟩ | rfl)
    all_goals
     have hlt4:=K4.out.lt
     generalize hW5:w4.alloc _=w5
     have hb5:=belowOfAlloc hW5
     have hX:=blkOfAlloc hW5
     have B5:=Lib.hid (B4.out.trans (hb5.mono B4.out.size))
     have K5:=Lib.hid (K4.out.below hb5 hlt4)
     have HT5:=Lib.hid (TrO.below hb5 HT4.out)
     have HM5:=Lib.hid (nd_own_below HM4.out hb5)
     have Hlt:=Lib.hid K3.out.lt
     obtain ⟨x0,x1,x2,x3,_,_,_,_,hxl⟩:=blk4 hX
     obtain ⟨z0,z1,z2,z3,v0,v1,v2,v3,hz⟩:=blk4 K5.out
     clear hb5 hX hW5
     go_wp2_with fail
     with_reducible refine post4 B5.out K5.out (Nat.le_refl _) ?_
     intro w9 hB9 hk9 hs9 hz9
     clear z0 z1 z2 z3 v0 v1 v2 v3 hz
     obtain ⟨z0,z1,z2,z3,_⟩:=blk4 hk9
     have hfin:=AdA.mk' HAE.out hB9 (TrO.keep (by omega) (fun b hb _=>⟨⟨Nat.le_trans A3.out.size hb.1,hb.2⟩,fun o=>World.cell?_of_block (w:=w5) (a:=⟨b,o,none⟩) (hs9 b (by have:=Hlt.out;have:=hb.1;omega))⟩) HT5.out) (own_row_same (own_less A3.out.size HM5.out) fun g hg=>hs9 g (by have:=own_of HM5.out g hg;have:=Hlt.out;omega))
     exact bodyPost_ret (by simp [results,Tryz.results15,go_sem,z0,z1,z2,z3]) rfl hfin
 ·rw [if_neg h44]
  rw [decide_eq_false h44] at hpf
  clear h44 hGW hPW
  go_enter Tryz.func15,Tryz.ntmps15
  go_wp2_with (first
   | (go_at_call 32;refine hB.mono ?_;clear hB;rintro e w1 ⟨rfl,b1'⟩;have B1:=Lib.hid (HA.out.trans (b1'.mono HA.out.size));have K1:=Lib.hid (HR0.out.below b1' HR0.out.lt);clear b1' z0 z1 z2 z3 v0 v1 v2 v3 hz;obtain ⟨z0,z1,z2,z3,v0,v1,v2,v3,hz⟩:=blk4 K1.out)
   | (go_at_call 33;refine (hpf _).mono ?_;clear hpf;rintro e w2 ⟨rfl,rfl⟩))
  first
   | (with_reducible refine post4 B1.out K1.out (Nat.le_refl _) ?_;intro w9 hB9 hk9 hs9 hz9)
   | (have hB9:=B1.out;have hk9:=K1.out;generalize w1=w9 at *)
  clear z0 z1 z2 z3 v0 v1 v2 v3 hz
  obtain ⟨z0,z1,z2,z3,_⟩:=blk4 hk9
  refine bodyPost_ret (v:=.tuple #[.agg adZ,.slice none 0 0,.int .i64 (k:Int),.int .i64 0]) (by simp [results,Tryz.results15,go_sem,z0,z1,z2,z3]) rfl ?_
  exact ⟨hB9,.nilIface,none,0,rfl,rfl,World.ownsRow_nil _ _ _ _⟩
end Go.Proofs.YtbgfankoojjejaaGreatDoor
namespace Go.Proofs.YtbgfankoojjejaaGreatDoor
open Go Go.RowKit
abbrev gdZ:Array Value:=#[.int .i64 0,.int .i64 0,.string ⟨#[]⟩,.nilIface,.int .i64 0,.int .i64 0,.string ⟨#[]⟩,.nilIface,.bool false]
def GdA (w:World) (r:AdRd Grd) (e:Ending) (w':World):Prop:=Below w.heap.size w w'∧match r with
 | .error q=>e=.returned (.tuple #[.agg gdZ,.slice none 0 0,.int .i64 (q.2:Int),.int .i64 (q.1:Int)])
 | .ok q=>∃ ta tb ma mc,e=.returned (.tuple #[.agg #[.int .i64 (q.1.a.kind:Int),.int .i64 (q.1.a.line:Int),.string (txt q.1.a.text),ta,.int .i64 (q.1.b.kind:Int),.int .i64 (q.1.b.line:Int),.string (txt q.1.b.text),tb,.bool q.1.no],.slice ma q.2.1.length mc,.int .i64 (q.2.2:Int),.int .i64 0])∧
  TrO (fun b=>w.heap.size < b∧(Value.slice ma q.2.1.length mc).ownBlock≠some b) w' q.1.a.tree ta∧TrO (fun b=>w.heap.size < b∧(Value.slice ma q.2.1.length mc).ownBlock≠some b) w' q.1.b.tree tb∧w'.ownsRow (w.heap.size+1) 77 2 (.slice ma q.2.1.length mc) q.2.1.length (wmC q.2.1)
theorem blk9v {w:World} {b:Nat} {T:TypeId} {v0 v1 v2 v3 v4 v5 v6 v7 v8:Value} (h:Blk w b #[v0,v1,v2,v3,v4,v5,v6,v7,v8] T) :
  (w.cell? ⟨b,0,none⟩=some v0∧w.cell? ⟨b,1,none⟩=some v1∧w.cell? ⟨b,2,none⟩=some v2∧w.cell? ⟨b,3,none⟩=some v3∧w.cell? ⟨b,4,none⟩=some v4∧w.cell? ⟨b,5,none⟩=some v5∧w.cell? ⟨b,6,none⟩=some v6∧w.cell? ⟨b,7,none⟩=some v7∧w.cell? ⟨b,8,none⟩=some v8)∧
  (w.frozen? ⟨b,0,none⟩=false∧w.frozen? ⟨b,1,none⟩=false∧w.frozen? ⟨b,2,none⟩=false∧w.frozen? ⟨b,3,none⟩=false∧w.frozen? ⟨b,4,none⟩=false∧w.frozen? ⟨b,5,none⟩=false∧w.frozen? ⟨b,6,none⟩=false∧w.frozen? ⟨b,7,none⟩=false∧w.frozen? ⟨b,8,none⟩=false∧b < w.heap.size):=
 ⟨⟨(h.cell 0).trans rfl,(h.cell 1).trans rfl,(h.cell 2).trans rfl,(h.cell 3).trans rfl,(h.cell 4).trans rfl,(h.cell 5).trans rfl,(h.cell 6).trans rfl,(h.cell 7).trans rfl,(h.cell 8).trans rfl⟩,h.frozen 0,h.frozen 1,h.frozen 2,h.frozen 3,h.frozen 4,h.frozen 5,h.frozen 6,h.frozen 7,h.frozen 8,h.lt⟩
theorem post9v {P:Program} {fn:Func} {Q:Ending→World→Prop} {e:Exit} {act:Act} {w0 w:World} {p:Nat} {T:TypeId} {u0 u1 u2 u3 u4 u5 u6 u7 u8:Value} (hb:Below w0.heap.size w0 w) (h:Blk w p #[u0,u1,u2,u3,u4,u5,u6,u7,u8] T) (hp:w0.heap.size≤p) {v0 v1 v2 v3 v4 v5 v6 v7 v8:Value}
  (H:∀ w',Below w0.heap.size w0 w'→Blk w' p #[v0,v1,v2,v3,v4,v5,v6,v7,v8] T→(∀ b,b≠p→w'.heap[b]?=w.heap[b]?)→w'.heap.size=w.heap.size→bodyPost P fn Q e act w') :
  bodyPost P fn Q e act (((((((((w.setCell ⟨p,0,none⟩ v0).setCell ⟨p,1,none⟩ v1).setCell ⟨p,2,none⟩ v2).setCell ⟨p,3,none⟩ v3).setCell ⟨p,4,none⟩ v4).setCell ⟨p,5,none⟩ v5).setCell ⟨p,6,none⟩ v6).setCell ⟨p,7,none⟩ v7).setCell ⟨p,8,none⟩ v8):=by
 have h9:=((((((((h.set 0 v0).set 1 v1).set 2 v2).set 3 v3).set 4 v4).set 5 v5).set 6 v6).set 7 v7).set 8 v8
 have hcs:((((((((((#[u0,u1,u2,u3,u4,u5,u6,u7,u8]:Array Value).setIfInBounds 0 v0).setIfInBounds 1 v1).setIfInBounds 2 v2).setIfInBounds 3 v3).setIfInBounds 4 v4).setIfInBounds 5 v5).setIfInBounds 6 v6).setIfInBounds 7 v7).setIfInBounds 8 v8)=#[v0,v1,v2,v3,v4,v5,v6,v7,v8]:=by
  simp
 rw [hcs] at h9
 clear hcs h
 have o1:∀ (w:World) (j:Nat) (v:Value) b,b≠p→(w.setCell ⟨p,j,none⟩ v).heap[b]?=w.heap[b]?:=fun w j v b hb=>Below.heap_setCell _ _ _ _ (fun e=>hb e)
 have s1:∀ (w:World) (j:Nat) (v:Value),(w.setCell ⟨p,j,none⟩ v).heap.size=w.heap.size:=fun w j v=>by simp [World.setCell]
 refine H _ ?_ h9 (fun b hb=>?_) ?_
 ·exact ((((((((hb.setCell (p:=⟨p,0,none⟩) hp v0).setCell (p:=⟨p,1,none⟩) hp v1).setCell (p:=⟨p,2,none⟩) hp v2).setCell (p:=⟨p,3,none⟩) hp v3).setCell (p:=⟨p,4,none⟩) hp v4).setCell (p:=⟨p,5,none⟩) hp v5).setCell (p:=⟨p,6,none⟩) hp v6).setCell (p:=⟨p,7,none⟩) hp v7).setCell (p:=⟨p,8,none⟩) hp v8
 ·exact (o1 _ 8 v8 b hb).trans ((o1 _ 7 v7 b hb).trans ((o1 _ 6 v6 b hb).trans ((o1 _ 5 v5 b hb).trans ((o1 _ 4 v4 b hb).trans ((o1 _ 3 v3 b hb).trans ((o1 _ 2 v2 b hb).trans ((o1 _ 1 v1 b hb).trans (o1 _ 0 v0 b hb))))))))
 ·exact (s1 _ 8 v8).trans ((s1 _ 7 v7).trans ((s1 _ 6 v6).trans ((s1 _ 5 v5).trans ((s1 _ 4 v4).trans ((s1 _ 3 v3).trans ((s1 _ 2 v2).trans ((s1 _ 1 v1).trans (s1 _ 0 v0))))))))
structure GdSt (w:World) (g:Nat) (a b:Adr) (ta tb:Value) (no:Value) (ms:List Wm) (ma:Option Addr) (mc:Nat) (W:World):Prop where
 b0:Below w.heap.size w W
 p:Blk W w.heap.size gdZ 30
 q:Blk W g #[.int .i64 (a.kind:Int),.int .i64 (a.line:Int),.string (txt a.text),ta,.int .i64 (b.kind:Int),.int .i64 (b.line:Int),.string (txt b.text),tb,no] 30
 pg:w.heap.size < g
 ha:TrO (fun b=>w.heap.size < b∧b≠g∧(Value.slice ma ms.length mc).ownBlock≠some b) W a.tree ta
 hb:TrO (fun b=>w.heap.size < b∧b≠g∧(Value.slice ma ms.length mc).ownBlock≠some b) W b.tree tb
 r:W.ownsRow (w.heap.size+1) 77 2 (.slice ma ms.length mc) ms.length (wmC ms)
 rg:(Value.slice ma ms.length mc).ownBlock≠some g
theorem GdSt.step {w:World} {g:Nat} {a b:Adr} {ta tb no:Value} {ms:List Wm} {ma:Option Addr} {mc:Nat} {W W':World} (h:GdSt w g a b ta tb no ms ma mc W) (hb:Below W.heap.size W W'):GdSt w g a b ta tb no ms ma mc W':=
 ⟨h.b0.trans (hb.mono h.b0.size),h.p.below hb h.p.lt,h.q.below hb h.q.lt,h.pg,h.ha.below hb,h.hb.below hb,nd_own_below h.r hb,h.rg⟩
theorem GdSt.not {w:World} {g:Nat} {a b:Adr} {ta tb no:Value} {ms:List Wm} {ma:Option Addr} {mc:Nat} {W:World} (h:GdSt w g a b ta tb no ms ma mc W) (n:Value):GdSt w g a b ta tb n ms ma mc (W.setCell ⟨g,8,none⟩ n):=by
 have hpg:=h.pg
 have o1:∀ b,b≠g→(W.setCell ⟨g,8,none⟩ n).heap[b]?=W.heap[b]?:=fun b hb=>Below.heap_setCell _ _ _ _ (fun e=>hb e)
 have hsz:(W.setCell ⟨g,8,none⟩ n).heap.size=W.heap.size:=by simp [World.setCell]
 have hk:∀ {t v},TrO (fun b=>w.heap.size < b∧b≠g∧(Value.slice ma ms.length mc).ownBlock≠some b) W t v→TrO (fun b=>w.heap.size < b∧b≠g∧(Value.slice ma ms.length mc).ownBlock≠some b) (W.setCell ⟨g,8,none⟩ n) t v:=fun hk=>TrO.keep (by omega) (fun b hb _=>⟨hb,fun o=>World.cell?_of_block (w:=W) (a:=⟨b,o,none⟩) (o1 b hb.2.1)⟩) hk
 exact ⟨h.b0.setCell (p:=⟨g,8,none⟩) (Nat.le_of_lt hpg) n,blk_like h.p (o1 _ (by omega)),h.q.set 8 n,hpg,hk h.ha,hk h.hb,own_row_same h.r fun b hb=>o1 b fun e=>h.rg (by rw [hb,e]),h.rg⟩
theorem GdSt.end {w:World} {g:Nat} {a b:Adr} {ta tb:Value} {no:Bool} {ms:List Wm} {ma:Option Addr} {mc:Nat} {W W':World} (h:GdSt w g a b ta tb (.bool no) ms ma mc W) (h1:Below w.heap.size w W') (hs:∀ b,b≠w.heap.size→W'.heap[b]?=W.heap[b]?) (hz:W'.heap.size=W.heap.size) (p:Nat) :
  GdA w (.ok (⟨a,b,no⟩,ms,p)) (.returned (.tuple #[.agg #[.int .i64 (a.kind:Int),.int .i64 (a.line:Int),.string (txt a.text),ta,.int .i64 (b.kind:Int),.int .i64 (b.line:Int),.string (txt b.text),tb,.bool no],.slice ma ms.length mc,.int .i64 (p:Int),.int .i64 0])) W':=by
 have hk:∀ {t v},TrO (fun b=>w.heap.size < b∧b≠g∧(Value.slice ma ms.length mc).ownBlock≠some b) W t v→TrO (fun b=>w.heap.size < b∧(Value.slice ma ms.length mc).ownBlock≠some b) W' t v:=fun hk=>TrO.keep (by omega) (fun b hb _=>⟨⟨hb.1,hb.2.2⟩,fun o=>World.cell?_of_block (w:=W) (a:=⟨b,o,none⟩) (hs b (by have:=hb.1;omega))⟩) hk
 exact ⟨h1,ta,tb,ma,mc,rfl,hk h.ha,hk h.hb,own_row_same h.r fun b hb=>hs b (by have:=own_of h.r b hb;omega)⟩
theorem adNot_err {L:List UInt8} {k:Nat} {q:Nat × Nat} (h:adNot L k=.error q):q.1≠0:=by
 unfold adNot at h
 split at h
 ·split at h
  ·injection h with h;rw [←h];exact Nat.succ_ne_zero _
  ·cases h
 ·cases h
theorem newsOf {w:World} {B:Nat} {T:TypeId} {a:Option Addr} {n c:Nat} {xs:List Value} {size:Nat} (h:w.ownsRow B T size (.slice a n c) n xs):0 < n→∃ ad,a=some ad∧∀ j u,xs[j]?=some u→w.cell? (ad.add j)=some u:=fun h0=>by
 have h2:=h
 rcases h.2 with ⟨_,h3⟩ | ⟨q,cap,cur,e,_⟩
 ·omega
 ·injection e with e1 _ e2
  subst e1 e2
  exact ⟨_,rfl,h2.cells rfl⟩
theorem GdSt.sec {w:World} {g:Nat} {a:Adr} {ta:Value} {ms:List Wm} {ma:Option Addr} {mc:Nat} {W:World} (h:GdSt w g a adNone ta .nilIface (.bool false) ms ma mc W) {b:Adr} {tb:Value} {ms2:List Wm} {mb:Option Addr} {mcb B2:Nat} (hg:g < B2) (hq:∀ q,(Value.slice ma ms.length mc).ownBlock=some q→q < B2)
  (hb2:TrO (fun x=>B2≤x∧(Value.slice mb ms2.length mcb).ownBlock≠some x) W b.tree tb) {W9:World} {m9:Option Addr} {c9:Nat} (e0:Below w.heap.size w W9) (hsz:W.heap.size≤W9.heap.size)
  (hp9:∀ x,x < W.heap.size→x≠g→(Value.slice ma ms.length mc).ownBlock≠some x→W9.heap[x]?=W.heap[x]?)
  (hq9:Blk W9 g #[.int .i64 (a.kind:Int),.int .i64 (a.line:Int),.string (txt a.text),ta,.int .i64 (b.kind:Int),.int .i64 (b.line:Int),.string (txt b.text),tb,.bool false] 30)
  (hr9:W9.ownsRow (w.heap.size+1) 77 2 (.slice m9 (ms.length+ms2.length) c9) (ms.length+ms2.length) (wmC ms++wmC ms2)) (hat:(Value.slice m9 (ms.length+ms2.length) c9).ownBlock=(Value.slice ma ms.length mc).ownBlock∨∃ x,(Value.slice m9 (ms.length+ms2.length) c9).ownBlock=some x∧W.heap.size≤x) :
  GdSt w g a b ta tb (.bool false) (ms++ms2) m9 c9 W9:=by
 have hpg:=h.pg
 have hgl:=h.q.lt
 have hn:∀ x,x < W.heap.size→(Value.slice ma ms.length mc).ownBlock≠some x→(Value.slice m9 (ms.length+ms2.length) c9).ownBlock≠some x:=fun x hx h1 e=>by
  rcases hat with h2 | ⟨y,h2,hy⟩
  ·exact h1 (h2.symm.trans e)
  ·rw [h2] at e;injection e with e;omega
 have hl:(ms++ms2).length=ms.length+ms2.length:=List.length_append
 refine ⟨e0,blk_like h.p (hp9 _ (by omega) (by omega) fun e=>by have:=own_of h.r _ e;omega),hq9,hpg,?_,?_,?_,?_⟩
 ·rw [hl]
  exact TrO.keep hsz (fun x hx hl=>⟨⟨hx.1,hx.2.1,hn x hl hx.2.2⟩,fun o=>World.cell?_of_block (w:=W) (a:=⟨x,o,none⟩) (hp9 x hl hx.2.1 hx.2.2)⟩) h.ha
 ·rw [hl]
  refine TrO.keep hsz (fun x hx hl=>?_) hb2
  have h1:(Value.slice ma ms.length mc).ownBlock≠some x:=fun e=>by have:=hq x e;have:=hx.1;omega
  have h2:x≠g:=by have:=hx.1;omega
  exact ⟨⟨by have:=hx.1;omega,h2,hn x hl h1⟩,fun o=>World.cell?_of_block (w:=W) (a:=⟨x,o,none⟩) (hp9 x hl h2 h1)⟩
 ·rw [hl,wmC_app]
  exact hr9
 ·rw [hl]
  exact hn g hgl h.rg
theorem put4at {W:World} {g:Nat} {T:TypeId} {u0 u1 u2 u3 u4 u5 u6 u7 u8:Value} (h:Blk W g #[u0,u1,u2,u3,u4,u5,u6,u7,u8] T) (v4 v5 v6 v7:Value) (w':World)
  (hw:((((W.setCell ⟨g,4,none⟩ v4).setCell ⟨g,5,none⟩ v5).setCell ⟨g,6,none⟩ v6).setCell ⟨g,7,none⟩ v7)=w') :
  Blk w' g #[u0,u1,u2,u3,v4,v5,v6,v7,u8] T∧(∀ b,b≠g→w'.heap[b]?=W.heap[b]?)∧w'.heap.size=W.heap.size∧(∀ B,B≤g→Below B W w'):=by
 subst hw
 have o1:∀ (w:World) (j:Nat) (v:Value) b,b≠g→(w.setCell ⟨g,j,none⟩ v).heap[b]?=w.heap[b]?:=fun w j v b hb=>Below.heap_setCell _ _ _ _ (fun e=>hb e)
 refine ⟨(((h.set 4 v4).set 5 v5).set 6 v6).set 7 v7,fun b hb=>?_,by simp [World.setCell],fun B hB=>?_⟩
 ·rw [o1 _ _ _ _ hb,o1 _ _ _ _ hb,o1 _ _ _ _ hb,o1 _ _ _ _ hb]
 ·exact (((((Below.refl _ _).setCell (p:=⟨g,4,none⟩) hB v4).setCell (p:=⟨g,5,none⟩) hB v5).setCell (p:=⟨g,6,none⟩) hB v6).setCell (p:=⟨g,7,none⟩) hB v7)
end Go.Proofs.YtbgfankoojjejaaGreatDoor
namespace Go.Proofs.YtbgfankoojjejaaGreatDoor
open Go Go.RowKit
theorem pguard_at (ext:Bool) (s:ByteArray) (k:Nat) (w:World) (hs:s.size≤4000000) (hk:k≤s.size) (hG:Gl w) (hP:GP w) :
  Calls Tryz.prog 10 #[.string s,.int .i64 (k:Int),.bool ext] w (GdA w (gdM ext s.data.toList k)):=by
 have hA:=(Below.refl w.heap.size w).alloc (Nat.le_refl _) (.cells gdZ 30)
 have hR0:=Blk.new w gdZ 30 w.heap.size rfl
 obtain ⟨W,hW⟩:∃ W,w.alloc (.cells gdZ 30)=W:=⟨_,rfl⟩
 rw [hW] at hA hR0
 have hGW:=hG.up hA
 have hPW:=hP.up hA
 have hAd:=padr_at ext false s k W hs hk hGW hPW
 unfold gdM
 have hwe:∀ q,adM ext false s.data.toList k=.error q→q.1≠0:=fun q h=>adM_err h
 have hle:∀ q,adM ext false s.data.toList k=.ok q→q.2.2≤s.size∧q.2.1.length≤251:=fun q h=>adM_le s (by omega) h
 generalize adM ext false s.data.toList k=R at hAd hwe hle ⊢
 obtain ⟨A,hans⟩:∃ A,gdOf s.data.toList (adTwo ext s.data.toList R)=A:=⟨_,rfl⟩
 rw [hans]
 have HAN:=Lib.hid hans
 have HA:=Lib.hid hA
 have HR0:=Lib.hid hR0
 have HG:=Lib.hid hGW
 have HP:=Lib.hid hPW
 clear hans hA hR0 hG hP hGW hPW
 cases R with
 | error q=>
  obtain ⟨n,p⟩:=q
  have hn:n≠0:=hwe _ rfl
  have hnn:((n:Int) != 0)=true:=by simp;omega
  have HAE:=Lib.hid (show (.error (n,p):AdRd Grd)=A from HAN.out)
  clear hwe hn hle
  go_enter Tryz.func10,Tryz.ntmps10
  go_upto_region 2 with (go_at_call 14;refine hAd.mono ?_;clear hAd;rintro e w1 ⟨b1,rfl⟩;have B1:=Lib.hid (HA.out.trans (b1.mono HA.out.size));have K1:=Lib.hid (HR0.out.below b1 HR0.out.lt);clear b1)
  have hlt1:=K1.out.lt
  generalize hW2:w1.alloc _=w2
  have hb2:=belowOfAlloc hW2
  have B2:=Lib.hid (B1.out.trans (hb2.mono B1.out.size))
  have K2:=Lib.hid (K1.out.below hb2 hlt1)
  clear hb2 hW2
  obtain ⟨⟨z0,z1,z2,z3,z4,z5,z6,z7,z8⟩,v0,v1,v2,v3,v4,v5,v6,v7,v8,hz⟩:=blk9v K2.out
  go_wp2_with fail
  first
   | (with_reducible refine post9v B2.out K2.out (Nat.le_refl _) ?_;intro w9 hB9 hk9 hs9 hz9)
   | (have hB9:=B2.out;have hk9:=K2.out;generalize w2=w9 at *)
  clear z0 z1 z2 z3 z4 z5 z6 z7 z8 v0 v1 v2 v3 v4 v5 v6 v7 v8 hz
  obtain ⟨⟨z0,z1,z2,z3,z4,z5,z6,z7,z8⟩,_⟩:=blk9v hk9
  refine bodyPost_ret (v:=.tuple #[.agg gdZ,.slice none 0 0,.int .i64 (p:Int),.int .i64 (n:Int)]) (by simp [results,Tryz.results10,go_sem,z0,z1,z2,z3,z4,z5,z6,z7,z8]) rfl ?_
  rw [←HAE.out]
  exact ⟨hB9,rfl⟩
 | ok q=>
  obtain ⟨a,ms,p⟩:=q
  clear hwe
  obtain ⟨hpl,hml⟩:=hle _ rfl
  simp only at hpl hml
  clear hle
  have hAd:Calls Tryz.prog 14 #[.string s,.int .i64 (k:Int),.bool ext,.bool false] W fun e w'=>AdA W (.ok (a,ms,p)) e w':=hAd
  simp only [AdA] at hAd
  go_enter Tryz.func10,Tryz.ntmps10
  go_upto_region 2 with (go_at_call 14;refine hAd.mono ?_;clear hAd;rintro e w1 ⟨b1,ta,ma,mc,rfl,hta,hm⟩;have HT1:=Lib.hid hta;have HM1:=Lib.hid hm;have hsh:=hta.shape;have B1:=Lib.hid (HA.out.trans (b1.mono HA.out.size));have C1:=Lib.hid b1;have K1:=Lib.hid (HR0.out.below b1 HR0.out.lt);clear b1 hta hm;rcases hsh with ⟨T9,q9,rfl⟩ | rfl)
  all_goals
   have hlt1:=K1.out.lt
   generalize hW2:w1.alloc _=w2
   have hb2:=belowOfAlloc hW2
   have hX:=blkOfAlloc hW2
   obtain ⟨x0,x1,x2,x3,_,_,_,_,hxl⟩:=blk4 hX
   have B2:=Lib.hid hb2
   clear hX
   go_upto_region 5 with fail
   generalize hW3:w2.alloc _=w3
   have hb3:=belowOfAlloc hW3
   have hY:=blkOfAlloc hW3
   have hW0:=HR0.out.lt
   have hg:w.heap.size < w2.heap.size:=by have:=hb2.size;omega
   have hb13:=(B2.out.trans (hb3.mono B2.out.size))
   have S3:=Lib.hid (show GdSt w w2.heap.size a adNone _ .nilIface (.bool false) ms ma mc w3 from
    ⟨B1.out.trans (hb13.mono B1.out.size),K1.out.below hb13 hlt1,hY,hg,
     TrO.keep (F:=fun b=>W.heap.size≤b∧(Value.slice ma ms.length mc).ownBlock≠some b) hb13.size (fun b hb hl=>⟨⟨by have:=hb.1;omega,by have:=B2.out.size;omega,hb.2⟩,fun o=>hb13.cell (p:=⟨b,o,none⟩) hl⟩) HT1.out,rfl,
     own_less (by omega) (nd_own_below HM1.out hb13),fun e=>by have:=co_own_lt9 HM1.out _ e;have:=hb2.size;omega⟩)
   have D3:=Lib.hid (C1.out.trans (hb13.mono C1.out.size))
   obtain ⟨g,hgq⟩:∃ g,w2.heap.size=g:=⟨_,rfl⟩
   rw [hgq] at S3 ⊢
   have hxl3:w1.heap.size < w3.heap.size:=by have:=hb13.size;have:=hb3.size;omega
   replace x0:=(hb3.cell (p:=⟨w1.heap.size,0,none⟩) hxl).trans x0
   replace x1:=(hb3.cell (p:=⟨w1.heap.size,1,none⟩) hxl).trans x1
   replace x2:=(hb3.cell (p:=⟨w1.heap.size,2,none⟩) hxl).trans x2
   replace x3:=(hb3.cell (p:=⟨w1.heap.size,3,none⟩) hxl).trans x3
   clear hb2 hb3 hY hb13 hg hlt1 hW2 hW3 hW0 hgq
   obtain ⟨kd,hkd⟩:∃ kd,a.kind=kd:=⟨_,rfl⟩
   rw [hkd] at x0
   have Hkd:=Lib.hid hkd
   by_cases hk0:kd=0
   ·subst hk0
    have HAE:=Lib.hid (show gdEnd a adNone ms (adNot s.data.toList p)=A from by
     rw [←HAN.out]
     show _=gdOf s.data.toList (if a.kind=0 then _ else _)
     rw [if_pos Hkd.out]
     rfl)
    clear hkd
    go_upto_region 10 with fail
    (try clear x0);(try clear x1);(try clear x2);(try clear x3)
    have hnt:=pnot_any s p w3 hs hpl
    have hne9:∀ q,adNot s.data.toList p=.error q→q.1≠0:=fun q h=>adNot_err h
    generalize adNot s.data.toList p=N at hnt hne9 HAE
    obtain ⟨⟨y0,y1,y2,y3,y4,y5,y6,y7,y8⟩,f0,f1,f2,f3,f4,f5,f6,f7,f8,hyl⟩:=blk9v S3.out.q
    cases N with
    | error q=>
     obtain ⟨n2,p2⟩:=q
     have hn:n2≠0:=hne9 _ rfl
     have hnn:((n2:Int) != 0)=true:=by simp;omega
     clear hne9 hn
     go_upto_region 11 with (go_at_call 16;refine hnt.mono ?_;clear hnt;rintro e w8 ⟨b8,rfl⟩;have S8:=Lib.hid (S3.out.step b8);clear b8 y0 y1 y2 y3 y4 y5 y6 y7 y8 f0 f1 f2 f3 f4 f5 f6 f7 f8 hyl;obtain ⟨⟨y0,y1,y2,y3,y4,y5,y6,y7,y8⟩,f0,f1,f2,f3,f4,f5,f6,f7,f8,hyl⟩:=blk9v S8.out.q)
     have S9:=Lib.hid (S8.out.not (.bool false))
     clear y0 y1 y2 y3 y4 y5 y6 y7 y8 f0 f1 f2 f3 f4 f5 f6 f7 f8 hyl
     first
      | generalize w8.setCell ⟨g,8,none⟩ (.bool false)=w9 at *
      | (replace S9:=S8;generalize w8=w9 at *)
     obtain ⟨⟨z0,z1,z2,z3,z4,z5,z6,z7,z8⟩,v0,v1,v2,v3,v4,v5,v6,v7,v8,hz⟩:=blk9v S9.out.p
     go_wp2_with fail
     first
      | (with_reducible refine post9v S9.out.b0 S9.out.p (Nat.le_refl _) ?_;intro w10 hB9 hk9 hs9 hz9)
      | (have hB9:=S9.out.b0;have hk9:=S9.out.p;generalize w9=w10 at *)
     clear z0 z1 z2 z3 z4 z5 z6 z7 z8 v0 v1 v2 v3 v4 v5 v6 v7 v8 hz
     obtain ⟨⟨z0,z1,z2,z3,z4,z5,z6,z7,z8⟩,_⟩:=blk9v hk9
     refine bodyPost_ret (v:=.tuple #[.agg gdZ,.slice none 0 0,.int .i64 (p2:Int),.int .i64 (n2:Int)]) (by simp [results,Tryz.results10,go_sem,z0,z1,z2,z3,z4,z5,z6,z7,z8]) rfl ?_
     rw [←HAE.out]
     exact ⟨hB9,rfl⟩
    | ok q=>
     obtain ⟨no,p2⟩:=q
     clear hne9
     go_upto_region 11 with (go_at_call 16;refine hnt.mono ?_;clear hnt;rintro e w8 ⟨b8,rfl⟩;have S8:=Lib.hid (S3.out.step b8);clear b8 y0 y1 y2 y3 y4 y5 y6 y7 y8 f0 f1 f2 f3 f4 f5 f6 f7 f8 hyl;obtain ⟨⟨y0,y1,y2,y3,y4,y5,y6,y7,y8⟩,f0,f1,f2,f3,f4,f5,f6,f7,f8,hyl⟩:=blk9v S8.out.q)
     have S9:=Lib.hid (S8.out.not (.bool no))
     clear y0 y1 y2 y3 y4 y5 y6 y7 y8 f0 f1 f2 f3 f4 f5 f6 f7 f8 hyl
     generalize w8.setCell ⟨g,8,none⟩ (.bool no)=w9 at *
     obtain ⟨⟨y0,y1,y2,y3,y4,y5,y6,y7,y8⟩,f0,f1,f2,f3,f4,f5,f6,f7,f8,hyl⟩:=blk9v S9.out.q
     obtain ⟨⟨z0,z1,z2,z3,z4,z5,z6,z7,z8⟩,v0,v1,v2,v3,v4,v5,v6,v7,v8,hz⟩:=blk9v S9.out.p
     have hwg:=S9.out.pg
     go_wp2_with fail
     with_reducible refine post9v S9.out.b0 S9.out.p (Nat.le_refl _) ?_
     intro w10 hB9 hk9 hs9 hz9
     clear z0 z1 z2 z3 z4 z5 z6 z7 z8 v0 v1 v2 v3 v4 v5 v6 v7 v8 hz y0 y1 y2 y3 y4 y5 y6 y7 y8 f0 f1 f2 f3 f4 f5 f6 f7 f8 hyl
     obtain ⟨⟨z0,z1,z2,z3,z4,z5,z6,z7,z8⟩,_⟩:=blk9v hk9
     have hfin:=S9.out.end hB9 hs9 hz9 p2
     rw [show (.ok (⟨_,_,no⟩,_,p2):AdRd Grd)=A from HAE.out] at hfin
     exact bodyPost_ret (by simp [results,Tryz.results10,go_sem,z0,z1,z2,z3,z4,z5,z6,z7,z8]) rfl hfin
   ·have hkk:((kd:Int) != 0)=true:=by simp;omega
    have HAE:=Lib.hid (show gdOf s.data.toList (adJoin a ms (adSec ext s.data.toList p))=A from by
     rw [←HAN.out]
     show _=gdOf s.data.toList (if a.kind=0 then _ else _)
     rw [if_neg (by rw [Hkd.out];exact hk0)])
    have hsc:=psec_any ext s p w3 hs hpl (HG.out.up D3.out) (HP.out.up D3.out)
    have hne:∀ q,adSec ext s.data.toList p=.error q→q.1≠0:=fun q h=>adSec_err h
    have hle2:∀ q,adSec ext s.data.toList p=.ok q→q.2.2≤s.size∧q.2.1.length≤251:=fun q h=>adSec_le s hpl h
    generalize adSec ext s.data.toList p=R2 at hsc hne hle2 HAE
    clear hkd hk0
    go_upto_region 6 with fail
    clear x0 x1 x2 x3
    cases R2 with
    | error q=>
     obtain ⟨n2,p2⟩:=q
     have hn:n2≠0:=hne _ rfl
     have hnn:((n2:Int) != 0)=true:=by simp;omega
     clear hne hle2 hn
     go_upto_region 7 with (go_at_call 15;refine hsc.mono ?_;clear hsc;rintro e w5 ⟨b5,rfl⟩;have S5:=Lib.hid (S3.out.step b5);clear b5)
     generalize hW6:w5.alloc _=w6
     have S6:=Lib.hid (S5.out.step (belowOfAlloc hW6))
     clear hW6
     obtain ⟨⟨z0,z1,z2,z3,z4,z5,z6,z7,z8⟩,v0,v1,v2,v3,v4,v5,v6,v7,v8,hz⟩:=blk9v S6.out.p
     go_wp2_with fail
     first
      | (with_reducible refine post9v S6.out.b0 S6.out.p (Nat.le_refl _) ?_;intro w10 hB9 hk9 hs9 hz9)
      | (have hB9:=S6.out.b0;have hk9:=S6.out.p;generalize w6=w10 at *)
     clear z0 z1 z2 z3 z4 z5 z6 z7 z8 v0 v1 v2 v3 v4 v5 v6 v7 v8 hz
     obtain ⟨⟨z0,z1,z2,z3,z4,z5,z6,z7,z8⟩,_⟩:=blk9v hk9
     refine bodyPost_ret (v:=.tuple #[.agg gdZ,.slice none 0 0,.int .i64 (p2:Int),.int .i64 (n2:Int)]) (by simp [results,Tryz.results10,go_sem,z0,z1,z2,z3,z4,z5,z6,z7,z8]) rfl ?_
     rw [←HAE.out]
     exact ⟨hB9,rfl⟩
    | ok q=>
     obtain ⟨b,ms2,p2⟩:=q
     clear hne
     obtain ⟨hpl2,hml2⟩:=hle2 _ rfl
     simp only at hpl2 hml2
     clear hle2
     replace HAE:=Lib.hid (show gdEnd a b (ms++ms2) (adNot s.data.toList p2)=A from HAE.out)
     have hsc:Calls Tryz.prog 15 #[.string s,.int .i64 (p:Int),.bool ext] w3 fun e w'=>AdA w3 (.ok (b,ms2,p2)) e w':=hsc
     simp only [AdA] at hsc
     go_upto_region 7 with (go_at_call 15;refine hsc.mono ?_;clear hsc;rintro e w5 ⟨b5,tb,mb,mcb,rfl,htb,hmb⟩;have S5:=Lib.hid (S3.out.step b5);have T5:=Lib.hid htb;have M5:=Lib.hid hmb;have Z5:=Lib.hid b5.size;have hsh2:=htb.shape;clear b5 htb hmb;rcases hsh2 with ⟨T8,q8,rfl⟩ | rfl)
     all_goals
      generalize hW6:w5.alloc _=w6
      have hb6:=belowOfAlloc hW6
      have hX:=blkOfAlloc hW6
      have S6:=Lib.hid (S5.out.step hb6)
      have T6:=Lib.hid (TrO.below hb6 T5.out)
      have M6:=Lib.hid (nd_own_below M5.out hb6)
      have HX:=Lib.hid hX
      have Hg3:=Lib.hid S3.out.q.lt
      have Hq3:=Lib.hid (fun q (e:(Value.slice ma ms.length mc).ownBlock=some q)=>co_own_lt9 S3.out.r q e)
      have Hx5:=Lib.hid (show w3.heap.size≤w5.heap.size from Z5.out)
      obtain ⟨x,hx⟩:∃ x,w5.heap.size=x:=⟨_,rfl⟩
      have Hxl:=Lib.hid (show x < w6.heap.size by rw [←hx];exact hX.lt)
      rw [hx] at HX Hx5 ⊢
      clear hb6 hX hW6 hx
      obtain ⟨x0,x1,x2,x3,_,_,_,_,hxl⟩:=blk4 HX.out
      obtain ⟨⟨y0,y1,y2,y3,y4,y5,y6,y7,y8⟩,f0,f1,f2,f3,f4,f5,f6,f7,f8,hyl⟩:=blk9v S6.out.q
      obtain ⟨i0,hi,hz0,hz1,hz2⟩:=mark_info
      have hm1:ms.length+ms2.length≤maxLen:=by unfold maxLen;omega
      have hm2:(ms.length+ms2.length) * 24≤140737488355328:=by omega
      have hbs:w.heap.size+1≤w6.heap.size:=by have:=S6.out.pg;omega
      have hxo:(Value.slice ma ms.length mc).ownBlock≠some x:=fun e=>by have:=Hq3.out x e;have:=Hx5.out;omega
      have HXO:=Lib.hid hxo
      clear hxo
      go_upto_region 9 with fail
      go_region_law (first
       | (refine step_append_any rfl _ _ 36 rfl (w.heap.size+1) 77 i0 (.agg #[.int .i64 0,.string ⟨#[]⟩]) 2 24 Tryz.underlying36 hi hz0 hz1 hz2 rfl (by decide) (.slice ma ms.length mc) ms.length (wmC ms) rfl S6.out.r mb ms2.length mcb (wmC ms2) rfl (wmC_len ms2) (newsOf M6.out) (wmC_one ms2) hm1 hm2 hbs ?_;intro v7 w7 hown7 hgr7 hat7;obtain ⟨m7,c7,rfl⟩:=own_form' hown7;have HO7:=Lib.hid hown7;have HG7:=Lib.hid hgr7;have HA7:=Lib.hid hat7;have HX7:=Lib.hid (blkGrownR HX.out.drew hgr7 HXO.out);have HY7:=Lib.hid (blkGrownR S6.out.q.drew hgr7 S6.out.rg);clear hown7 hgr7 hat7 x0 x1 x2 x3 hxl y0 y1 y2 y3 y4 y5 y6 y7 y8 f0 f1 f2 f3 f4 f5 f6 f7 f8 hyl;obtain ⟨x0,x1,x2,x3,_,_,_,_,hxl⟩:=blk4 HX7.out;obtain ⟨⟨y0,y1,y2,y3,y4,y5,y6,y7,y8⟩,f0,f1,f2,f3,f4,f5,f6,f7,f8,hyl⟩:=blk9v HY7.out))
      all_goals
       have hS7:=HG7.out.size
       generalize hW8:((((w7.setCell ⟨g,4,none⟩ _).setCell ⟨g,5,none⟩ _).setCell ⟨g,6,none⟩ _).setCell ⟨g,7,none⟩ _)=w8
       obtain ⟨k1,k2,k3,k4⟩:=put4at HY7.out _ _ _ _ w8 hW8
       have hgl:=S6.out.q.lt
       have hpg:=S6.out.pg
       have hng:∀ q,(Value.slice m7 (ms.length+ms2.length) c7).ownBlock=some q→q≠g:=fun q e e2=>by
        subst e2
        rcases HA7.out with h | h
        ·exact S6.out.rg (h.symm.trans e)
        ·rw [h] at e;injection e with e;have:w6.heap.size=q:=e;omega
       have S9:=Lib.hid (GdSt.sec S6.out Hg3.out Hq3.out T6.out (((S6.out.b0.drew).grown HG7.out S6.out.b0.size (fun q e=>Nat.le_of_succ_le (own_of S6.out.r q e))).trans (k4 _ (Nat.le_of_lt hpg))) (by have:w6.heap.size≤w7.heap.size:=hS7;omega)
        (fun y hy h1 h2=>(k2 y h1).trans (HG7.out.block y hy fun e=>h2 e.symm)) k1 (own_row_same HO7.out fun q e=>k2 q (hng q e)) (HA7.out.imp id fun e=>⟨_,e,Nat.le_refl _⟩))
       have Hm7:=Lib.hid (show (ms++ms2).length=ms.length+ms2.length from List.length_append)
       clear k1 k2 k3 k4 hgl hpg hng hS7 hW8 x0 x1 x2 x3 hxl y0 y1 y2 y3 y4 y5 y6 y7 y8 f0 f1 f2 f3 f4 f5 f6 f7 f8 hyl
       go_upto_region 10 with fail
       have hnt:=pnot_any s p2 w8 hs hpl2
       have hne9:∀ q,adNot s.data.toList p2=.error q→q.1≠0:=fun q h=>adNot_err h
       generalize adNot s.data.toList p2=N at hnt hne9 HAE
       obtain ⟨⟨y0,y1,y2,y3,y4,y5,y6,y7,y8⟩,f0,f1,f2,f3,f4,f5,f6,f7,f8,hyl⟩:=blk9v S9.out.q
       cases N with
       | error q=>
        obtain ⟨n2,p2⟩:=q
        have hn:n2≠0:=hne9 _ rfl
        have hnn:((n2:Int) != 0)=true:=by simp;omega
        clear hne9 hn
        go_upto_region 11 with (go_at_call 16;refine hnt.mono ?_;clear hnt;rintro e w8 ⟨b8,rfl⟩;have S8:=Lib.hid (S9.out.step b8);clear b8 y0 y1 y2 y3 y4 y5 y6 y7 y8 f0 f1 f2 f3 f4 f5 f6 f7 f8 hyl;obtain ⟨⟨y0,y1,y2,y3,y4,y5,y6,y7,y8⟩,f0,f1,f2,f3,f4,f5,f6,f7,f8,hyl⟩:=blk9v S8.out.q)
        have S9:=Lib.hid (S8.out.not (.bool false))
        clear y0 y1 y2 y3 y4 y5 y6 y7 y8 f0 f1 f2 f3 f4 f5 f6 f7 f8 hyl
        first
         | generalize w8.setCell ⟨g,8,none⟩ (.bool false)=w9 at *
         | (replace S9:=S8;generalize w8=w9 at *)
        obtain ⟨⟨z0,z1,z2,z3,z4,z5,z6,z7,z8⟩,v0,v1,v2,v3,v4,v5,v6,v7,v8,hz⟩:=blk9v S9.out.p
        go_wp2_with fail
        first
         | (with_reducible refine post9v S9.out.b0 S9.out.p (Nat.le_refl _) ?_;intro w10 hB9 hk9 hs9 hz9)
         | (have hB9:=S9.out.b0;have hk9:=S9.out.p;generalize w9=w10 at *)
        clear z0 z1 z2 z3 z4 z5 z6 z7 z8 v0 v1 v2 v3 v4 v5 v6 v7 v8 hz
        obtain ⟨⟨z0,z1,z2,z3,z4,z5,z6,z7,z8⟩,_⟩:=blk9v hk9
        refine bodyPost_ret (v:=.tuple #[.agg gdZ,.slice none 0 0,.int .i64 (p2:Int),.int .i64 (n2:Int)]) (by simp [results,Tryz.results10,go_sem,z0,z1,z2,z3,z4,z5,z6,z7,z8]) rfl ?_
        rw [←HAE.out]
        exact ⟨hB9,rfl⟩
       | ok q=>
        obtain ⟨no,p2⟩:=q
        clear hne9
        go_upto_region 11 with (go_at_call 16;refine hnt.mono ?_;clear hnt;rintro e w8 ⟨b8,rfl⟩;have S8:=Lib.hid (S9.out.step b8);clear b8 y0 y1 y2 y3 y4 y5 y6 y7 y8 f0 f1 f2 f3 f4 f5 f6 f7 f8 hyl;obtain ⟨⟨y0,y1,y2,y3,y4,y5,y6,y7,y8⟩,f0,f1,f2,f3,f4,f5,f6,f7,f8,hyl⟩:=blk9v S8.out.q)
        have S9:=Lib.hid (S8.out.not (.bool no))
        clear y0 y1 y2 y3 y4 y5 y6 y7 y8 f0 f1 f2 f3 f4 f5 f6 f7 f8 hyl
        generalize w8.setCell ⟨g,8,none⟩ (.bool no)=w9 at *
        obtain ⟨⟨y0,y1,y2,y3,y4,y5,y6,y7,y8⟩,f0,f1,f2,f3,f4,f5,f6,f7,f8,hyl⟩:=blk9v S9.out.q
        obtain ⟨⟨z0,z1,z2,z3,z4,z5,z6,z7,z8⟩,v0,v1,v2,v3,v4,v5,v6,v7,v8,hz⟩:=blk9v S9.out.p
        have hwg:=S9.out.pg
        go_wp2_with fail
        with_reducible refine post9v S9.out.b0 S9.out.p (Nat.le_refl _) ?_
        intro w10 hB9 hk9 hs9 hz9
        clear z0 z1 z2 z3 z4 z5 z6 z7 z8 v0 v1 v2 v3 v4 v5 v6 v7 v8 hz y0 y1 y2 y3 y4 y5 y6 y7 y8 f0 f1 f2 f3 f4 f5 f6 f7 f8 hyl
        obtain ⟨⟨z0,z1,z2,z3,z4,z5,z6,z7,z8⟩,_⟩:=blk9v hk9
        have hfin:=S9.out.end hB9 hs9 hz9 p2
        rw [show (.ok (⟨_,_,no⟩,_,p2):AdRd Grd)=A from HAE.out] at hfin
        exact bodyPost_ret (by simp [results,Tryz.results10,go_sem,z0,z1,z2,z3,z4,z5,z6,z7,z8]) rfl hfin
end Go.Proofs.YtbgfankoojjejaaGreatDoor
