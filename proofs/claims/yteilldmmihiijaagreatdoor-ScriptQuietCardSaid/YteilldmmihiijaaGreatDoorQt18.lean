/- Texts. -/
import Derived.Test.YteilldmmihiijaaGreatDoorQt17
import Derived.Deep.RegionHeld3
import Derived.Test.YteilldmmihiijaaGreatDoorQt05
import Derived.Test.YteilldmmihiijaaGreatDoorQt02
import Derived.RangeFuncBound
import Derived.RangeFuncCalls
import Derived.Shelf.Abstract
import Derived.Shelf.RegionOpen
import Derived.WalkKit
import Derived.OwnWalkIn
import Derived.TacticsInMore
import Derived.LoopNIn
import Derived.LoopIn
import Derived.Sort.LoopGhostIn
import Derived.Sort.CutIn
import Derived.Maps.OwnIn
import Derived.Test.YteilldmmihiijaaGreatDoorQt15
import Derived.Test.YteilldmmihiijaaGreatDoorRows
import Derived.Test.YteilldmmihiijaaGreatDoorQt01
import Derived.ProofKit
import Derived.OpenShut
import Derived.Deep.Slices
import Derived.Lib.LaidTab
import Derived.Lib.Hide
import Derived.ChangeKeysEq
import Derived.Deep.DeepCutAuto
import Derived.Deep.RegionWith
import Derived.Deep.QuietTactic
import Derived.Test.YteilldmmihiijaaGreatDoorQt07
import Derived.Defers
import Derived.Recover
import Derived.Tactics2
set_option linter.unusedSimpArgs false
set_option linter.unusedVariables false
set_option maxHeartbeats 8000000
set_option maxRecDepth 1000000
namespace Go.Proofs.YteilldmmihiijaaGreatDoor
open Go.Lib renaming hid→Ac8
open Nat renaming le_refl→Adf,le_trans→Adg,lt_of_lt_of_le→Adi
open List renaming length_append→Adh
open Go.RowKit.Below renaming refl→Adk,heap_setCell→Adl
open Go.IntWalk renaming i64_in→Adm
open Go.World renaming cell?_of_block→Adn
section
open Go Go.RowKit
theorem Qp (W:World) (g n k:Nat) (h:k≠g):(W.freeze ⟨g,0,none⟩ n).heap[k]?=W.heap[k]?:=by
 unfold World.freeze;split
 ·rfl
 ·simp [Array.getElem?_modify,Ne.symm h]
theorem Ow (W:World) (a:Addr) (n:Nat):(W.freeze a n).heap.size=W.heap.size:=by
 unfold World.freeze;split
 ·rfl
 ·simp
/-- What was written, as a string. -/
theorem Ox {B b:Nat} {ps:List Cp} {t:List UInt8} {pv av bv:Value} {W:World} (h:MkS B b ps t pv av bv W) (h0:t≠[]) (hl:t.length≤4000000) :
  Calls Tryz.prog 88 #[.pointer (some ⟨b,1,none⟩)] W fun e W'=>e=.returned (.string ⟨t.toArray⟩)∧(∀ k,bv.ownBlock≠some k→W'.heap[k]?=W.heap[k]?)∧Below B W W'∧W'.heap.size=W.heap.size:=by
 have hown:=h.br;have hbk:=h.q;have hl0:t.length≠0:=by simpa using h0
 rcases hown.2 with ⟨_,hz⟩ | ⟨g,cap,cur,fz,rfl,hbg,hg,hfz,hnc,hcm,hcs,htk⟩
 ·exact absurd hz hl0
 ·have c1:W.drew.cell? ⟨b,2,none⟩=some (.slice (some ⟨g,0,none⟩) t.length cap):=(hbk.cell 2).trans rfl
  have hSD:(Builtin.unsafeSliceData_ #[165] 186 #[.slice (some ⟨g,0,none⟩) t.length cap]).run Tryz.prog W.drew=.ok (.pointer (some ⟨g,0,none⟩)) W.drew:=Lib.run_unsafeSliceData_row _ _ _ _ _ _ (by omega);have hUS:(Builtin.unsafeString_ #[186,3] 9 #[.pointer (some ⟨g,0,none⟩),.int .i64 t.length]).run Tryz.prog W.drew=.ok (.string ⟨t.toArray⟩) (W.drew.freeze ⟨g,0,none⟩ t.length):=by
   refine Lib.run_unsafeString_row W.drew 186 3 9 5 Tryz.underlying186 (by kernel_rfl) g cur.size (by have hg':W.drew.heap[g]?=some (.cells cur 5 fz):=hg;simp [World.shape?,hg']) t h0 (by omega) (by unfold maxLen at hcm;omega) ?_;intro j x hx;exact hown.cells (g:=g) rfl j (.int .u8 x.toNat) (by simp [Lib.byteCells,hx])
  clear h hown hbk;go_enter Tryz.func88,Tryz.ntmps88
  go_wp2
  go_region
  all_goals
   go_wp2
   go_ret;refine ⟨rfl,fun k hk=>?_,Lib.below_freeze (Below.drew (Adk B W)) (p:=⟨g,0,none⟩) hbg _,Ow _ _ _⟩;exact Qp W.drew g _ k (fun e=>hk (by rw [e];rfl))
theorem L2:∃ i,Tryz.prog.info? 74=some i∧i.zero=some (.agg #[.int .i64 0,.string ⟨#[]⟩])∧i.size=2∧i.bytes=24:=by
 have h:(Tryz.prog.info? 74).map (fun i=>(i.zero,i.size,i.bytes))=some (some (.agg #[.int .i64 0,.string ⟨#[]⟩]),2,24):=by kernel_rfl
 obtain ⟨i,hi,he⟩:=Option.map_eq_some_iff.1 h;injection he with h1 h2;injection h2 with h2 h3;exact ⟨i,hi,h1,h2,h3⟩
theorem Ry (w:World) (u v:Value) (t:TypeId):∀ j x,[u,v][j]?=some x→(w.alloc (.cells #[u,v] t)).cell? ((⟨w.heap.size,0,none⟩:Addr).add j)=some x:=by
 have hb:=Blk.new w #[u,v] t w.heap.size rfl;intro j x hx;rw [Go.WideShapes.add_plain,Nat.zero_add,hb.cell j,←Array.getElem?_toList];exact hx
theorem MkS.part {B b:Nat} {ps:List Cp} {t:List UInt8} {pv av bv:Value} {W W1 w6:World} (h:MkS B b ps t pv av bv W) (hb:Below W.heap.size W W1) (c:Cp) {v6:Value} (hg:W1.grownBy w6 pv.ownBlock) (ho:w6.ownsRow B 74 2 v6 (ps.length+1) (cpC ps++[.int .i64 c.1,.string (txt c.2)])) :
  MkS B b (ps++[c]) t v6 av bv (w6.setCell ⟨b,0,none⟩ v6):=by
 have hs1:=hb.size;have hq6:=AE (h.q.below hb h.q.lt) hg h.np;have hn6:v6.ownBlock≠some b:=ML ho hq6 (by decide);refine ⟨hq6.set 0 _,h.bb,h.a,?_,?_⟩
 ·rw [Oo,Adh]
  exact Aa ho fun k hk=>Ev _ _ _ _ k fun e=>hn6 (by rw [hk,e])
 ·refine Gf h.br fun k hk=>?_
  rw [Ev _ _ _ _ k fun e=>h.nb (by rw [hk,e]),hg.block k (by have:=(h.br.lt k hk).2;omega) (fun e=>h.npb k e.symm hk),hb.block k (h.br.lt k hk).2]
/-- The text is ended. -/
theorem L3 {B b:Nat} {ps:List Cp} {t:List UInt8} {pv av bv:Value} {W:World} (h:MkS B b ps t pv av bv W) (hl:t.length≤4000000) (hp:ps.length≤4000000) (hBw:B≤W.heap.size) :
  Calls Tryz.prog 108 #[.pointer (some ⟨b,0,none⟩)] W fun e W'=>e=.returned (.tuple #[])∧(∃ pv' av' bv',MkS B b (D8 ps t) [] pv' av' bv' W')∧Below B W W':=by
 have hL:=Wt h;unfold D8;by_cases ht:t=[]
 ·rw [if_pos ht]
  have hz:¬ (0:Int) < (t.length:Int):=by simp [ht]
  have HH:=Ac8 (show MkS B b ps [] pv av bv W by rw [←ht];exact h);clear h ht;go_enter Tryz.func108,Tryz.ntmps108;go_wp2_with (go_at_call 122;refine hL.mono ?_;rintro e w1 ⟨rfl,rfl⟩)
  go_end0;exact ⟨rfl,⟨_,_,_,HH.out⟩,Adk _ _⟩
 ·rw [if_neg ht]
  have hz:(0:Int) < (t.length:Int):=by have:=List.length_pos_iff.2 ht;omega
  have hS:=fun (W1:World) (h1:MkS B b ps t pv av bv W1)=>Ox h1 ht hl
  obtain ⟨i0,hi,hz0,hz1,hz2⟩:=L2;have hm1:ps.length+1≤maxLen:=by unfold maxLen;omega
  have hm2:(ps.length+1) * 24≤140737488355328:=by omega
  have c0:W.cell? ⟨b,0,none⟩=some pv:=(h.q.cell 0).trans rfl;obtain ⟨pa,pc,rfl⟩:=A7 h.pr;have hlt:=h.q.lt;have HH:=Ac8 h;have HB:=Ac8 hBw;have Ht:=Ac8 ht;clear h hBw ht;go_enter Tryz.func108,Tryz.ntmps108;go_upto_region 1 with (go_at_call 122;refine hL.mono ?_;rintro e w0 ⟨rfl,hw⟩;have hw':=hw.symm;subst hw')
  go_cut [] (fun wx=>∃ v6,Blk wx b #[v6,av,bv] 188∧wx.ownsRow B 74 2 v6 (ps.length+1) (cpC ps++[.int .i64 (-1),.string (txt t)])∧Below B W wx)
  case first=>
   go_region_law (first
    | (refine A1 rfl _ _ 43 rfl B 74 i0 (.agg #[.int .i64 0,.string ⟨#[]⟩]) 2 24 Tryz.underlying43 hi hz0 hz1 hz2 rfl (by decide) (.slice pa ps.length pc) ps.length (cpC ps) rfl (Ag HR1.out (by repeat (first | (with_reducible exact Adk _ _) | refine Below.drew ?_ | refine Below.alloc ?_ (Adf _) _))) (some ⟨w1.heap.size,0,none⟩) 1 1 [.int .i64 (-1),.string ⟨t.toArray⟩] rfl rfl (fun _=>⟨_,rfl,Ry _ _ _ _⟩) (by intro u hu;simp at hu;rcases hu with rfl | rfl <;> rfl) hm1 hm2 (by simp;omega) ?_;intro v6 w6 hown6 hgrow6 hat6;obtain ⟨a6,c6,rfl⟩:=A7 hown6;have hbl:=(Adk w1.heap.size w1).alloc (Adf _) (.cells #[.int .i64 (-1),.string ⟨t.toArray⟩] 74);have hq6:=AE (HQ1.out.below hbl HQ1.out.lt) hgrow6 HH.out.np;have HG:=Ac8 (show Blk w6 b #[_,av,bv] _∧World.ownsRow w6 B 74 2 (.slice a6 (ps.length+1) c6) (ps.length+1) (cpC ps++[.int .i64 (-1),.string (txt t)])∧Below B W w6 from ⟨hq6,hown6,(HB1.out.trans (hbl.mono hbs)).grown hgrow6 (by simp;omega) (fun k hk=>AN HH.out.pr k hk)⟩);have f0:=hq6.frozen 0;have g0:w6.cell? ⟨b,0,none⟩=some (.slice pa ps.length pc):=(hq6.cell 0).trans rfl;clear hown6 hgrow6 hat6 hq6 hbl)
    | (go_simp;go_at_call 88;refine (hS _ (by first | exact HH.out | exact (show MkS B b ps t _ av bv W.drew from ⟨HH.out.q,HH.out.bb,HH.out.a,HH.out.pr,HH.out.br⟩))).mono ?_;rintro e w1 ⟨rfl,k1,b1,s1⟩;have HB1:=Ac8 (by first | exact b1 | exact (Adk B W).drew.trans b1:Below B W w1);have HQ1:=Ac8 (show Blk w1 b _ _ from (k1 b HH.out.nb).trans HH.out.q);have HR1:=Ac8 (Aa (w:=W) HH.out.pr fun g hg=>k1 g (HH.out.npb g hg));have hbs:B≤w1.heap.size:=Adg HB.out HB1.out.size;have d0:w1.cell? ⟨b,0,none⟩=some (.slice pa ps.length pc):=(HQ1.out.cell 0).trans rfl;have hlt1:b < w1.heap.size:=HQ1.out.lt;clear k1 b1 s1))
   all_goals
    (try go_wp2_with fail)
    go_meet;refine ⟨_,HG.out.1.set 0 _,Aa HG.out.2.1 fun k hk=>Ev _ _ _ _ k fun e=>ML HG.out.2.1 HG.out.1 (by decide) (by rw [hk,e]),HG.out.2.2.setCell (p:=⟨b,0,none⟩) HH.out.bb _⟩
  case rest=>
   obtain ⟨v6,q6,r6,b6⟩:=hcut;have hR:=Qo q6 HH.out.bb (ps:=ps++[(-1,t)]) (by rw [Oo,Adh];exact r6);have HB6:=Ac8 b6;clear q6 r6 b6 hL hS c0;go_wp2_with (go_at_call 123;refine hR.mono ?_;rintro e w7 ⟨rfl,h7,b7⟩)
   go_end0;exact ⟨rfl,⟨_,_,_,h7⟩,HB6.out.trans b7⟩
/-- A group is put behind. -/
theorem L4 {B b:Nat} {ps:List Cp} {t:List UInt8} {pv av bv:Value} {W:World} (n:Int) (h:MkS B b ps t pv av bv W) (hl:t.length≤4000000) (hp:ps.length≤3000000) (hBw:B≤W.heap.size) :
  Calls Tryz.prog 107 #[.pointer (some ⟨b,0,none⟩),.int .i64 n] W fun e W'=>e=.returned (.tuple #[])∧(∃ pv' av' bv',MkS B b (D8 ps t++[(n,[])]) [] pv' av' bv' W')∧Below B W W':=by
 have hE:=L3 h hl (by omega) hBw;have hpl:(D8 ps t).length≤3000001:=by
  unfold D8;split
  ·omega
  ·simp;omega
 generalize D8 ps t=qs at hE hpl ⊢;obtain ⟨i0,hi,hz0,hz1,hz2⟩:=L2;have HBw:=Ac8 hBw;clear h hBw;go_enter Tryz.func107,Tryz.ntmps107;go_upto_region 1 with (go_at_call 108;refine hE.mono ?_;clear hE;rintro e w1 ⟨rfl,⟨pv1,av1,bv1,h1⟩,b1⟩;have H1:=Ac8 h1;have HB1:=Ac8 b1;obtain ⟨pa,pc,rfl⟩:=A7 h1.pr;have hlt:=h1.q.lt;have c0:w1.cell? ⟨b,0,none⟩=some (.slice pa qs.length pc):=(h1.q.cell 0).trans rfl;clear h1 b1)
 have hm1:qs.length+1≤maxLen:=by unfold maxLen;omega
 have hm2:(qs.length+1) * 24≤140737488355328:=by omega
 have hbs:B≤w1.heap.size:=Adg HBw.out HB1.out.size;have hbl:=(Adk w1.heap.size w1).alloc (Adf _) (.cells #[.int .i64 n,.string ⟨#[]⟩] 74);have hbs2:B≤(w1.alloc (.cells #[.int .i64 n,.string ⟨#[]⟩] 74)).heap.size:=by have:=hbl.size;omega
 have HBL:=Ac8 hbl;clear hbl;go_wp2_with (at_builtin;go_loud (refine wpList_append_own_at _ rfl _ _ 43 rfl B 74 i0 (.agg #[.int .i64 0,.string ⟨#[]⟩]) 2 24 Tryz.underlying43 hi hz0 hz1 hz2 rfl (by decide) (.slice pa qs.length pc) qs.length (cpC qs) rfl (Ag H1.out.pr HBL.out) ⟨w1.heap.size,0,none⟩ 1 1 [.int .i64 n,.string ⟨#[]⟩] rfl rfl (Ry _ _ _ _) (by intro u hu;simp at hu;rcases hu with rfl | rfl <;> rfl) hm1 hm2 hbs2 ?_;intro v6 w6 hown6 hgr6 _ hat6;obtain ⟨a6,c6,rfl⟩:=A7 hown6;have HP:=Ac8 (H1.out.part HBL.out (n,[]) hgr6 hown6);have hq6:=AE (H1.out.q.below HBL.out H1.out.q.lt) hgr6 H1.out.np;have f0:=hq6.frozen 0;have g0:w6.cell? ⟨b,0,none⟩=some (.slice pa qs.length pc):=(hq6.cell 0).trans rfl;have HB6:=Ac8 (((HB1.out.trans (HBL.out.mono hbs)).grown hgr6 (by simp;omega) (fun k hk=>AN H1.out.pr k hk)).setCell (p:=⟨b,0,none⟩) H1.out.bb (.slice a6 (qs.length+1) c6));clear hown6 hgr6 hat6 hq6))
 go_end0;exact ⟨rfl,⟨_,_,_,HP.out⟩,HB6.out⟩
end
section
open Go Go.RowKit
def PtA (W:World) (R:List Cp × Nat) (e:Ending) (W':World):Prop:=Below W.heap.size W W'∧∃ pa pc,e=.returned (.tuple #[.slice pa R.1.length pc,.int .i64 (R.2:Int)])∧W'.ownsRow W.heap.size 74 2 (.slice pa R.1.length pc) R.1.length (cpC R.1)
theorem Rz {W W':World} (hb:Below W.heap.size W W') (k:Nat):PtA W ([],k) (.returned (.tuple #[.slice none 0 0,.int .i64 (k:Int)])) W':=⟨hb,none,0,rfl,World.ownsRow_nil _ _ _ _⟩
theorem L5 (ps:List Cp) (t:List UInt8):(D8 ps t).length≤ps.length+1:=by
 unfold D8;split
 ·omega
 ·simp
theorem Qq (s:ByteArray) (n:Nat) (W:World) (hs:s.size≤4000) :
  Calls Tryz.prog 89 #[.string s,.int .i64 (n:Int)] W (PtA W (Ca n s.data.toList false [] [])):=by
 obtain ⟨R,hR⟩:∃ R,Ca n s.data.toList false [] []=R:=⟨_,rfl⟩;rw [hR];have HR:=Ac8 hR;clear hR;obtain ⟨W0,hW0⟩:∃ W0,W.alloc (.cells #[.slice none 0 0,.pointer none,.slice none 0 0] 188)=W0:=⟨_,rfl⟩;have hq0:=Ae hW0;have hb0:=Ac hW0;have hM0:MkS W.heap.size W.heap.size [] [] (.slice none 0 0) (.pointer none) (.slice none 0 0) W0:=⟨hq0,Adf _,.inl rfl,World.ownsRow_nil _ _ _ _,World.ownsRowF_nil _ _ _ _⟩
 have HB0:=Ac8 hb0;have HM0:=Ac8 hM0;clear hq0 hb0 hM0;go_enter Tryz.func89,Tryz.ntmps89;go_wp2_with fail
 go_loopw [7,13] (fun e i wr=>∃ (j:Nat) (esc:Bool) (ps:List Cp) (t:List UInt8) (pv av bv:Value),j≤s.size∧e=.bool esc∧i=.int .i64 j∧MkS W.heap.size W.heap.size ps t pv av bv wr∧Below W.heap.size W wr∧Ca n (s.data.toList.drop j) esc ps t=R∧t.length≤j∧ps.length≤2 * j) (fun _ i _=>s.size - (intOf i).toNat)
 case atStart=>exact ⟨0,false,[],[],_,_,_,by omega,rfl,rfl,HM0.out,HB0.out,HR.out,by simp,by simp⟩
 case round=>
  obtain ⟨j,esc,ps,t,pv,av,bv,hj,rfl,rfl,hm,hbw,hc,htl,hpl⟩:=hrel;have HM:=Ac8 hm;have HB:=Ac8 hbw;have hBs:W.heap.size≤wr.heap.size:=hbw.size;clear hm hbw;by_cases hlt:j < s.size
  ·have hji:(j:Int) < (s.size:Int):=by omega
   have hy0:(0:Int)≤(j:Int):=by omega
   rw [Bh s j hlt] at hc;obtain ⟨b,hb⟩:∃ b,s[j]=b:=⟨_,rfl⟩;have hsx:s[j]'hlt=b:=hb;rw [hb] at hc;clear hb;have Wj:IntKind.i64.wrap ((j:Int)+1)=(j:Int)+1:=Adm _ (by omega);cases esc with
   | false=>
    by_cases h92:b=92
    ·have q92:((b.toNat:Int) == 92)=true:=by rw [h92];rfl
     have HC:=Ac8 (show Ca n (s.data.toList.drop (j+1)) true ps t=R by rw [←hc,h92];simp [Ca]);clear h92 hc;go_wp2_with fail
     go_roundw
     case rel=>exact ⟨j+1,true,ps,t,pv,av,bv,by omega,rfl,by go_num,HM.out,HB.out,HC.out,by omega,by omega⟩
     case measure=>simp [intOf];omega
    ·have q92:((b.toNat:Int) == 92)=false:=An (c:=92) h92
     by_cases h38:b=38
     ·have q38:((b.toNat:Int) == 38)=true:=by rw [h38];rfl
      have HC:=Ac8 (show Ca n (s.data.toList.drop (j+1)) false (D8 ps t++[(0,[])]) []=R by rw [←hc,h38];simp [Ca]);clear h92 h38 hc;have hAg:=L4 0 HM.out (by omega) (by omega) hBs;go_wp2_with (first | (go_at_call 92;refine (AT _ _).mono ?_;rintro e w5 ⟨rfl,hw5⟩;have hw5':=hw5.symm;subst hw5') | (go_at_call 107;with_reducible refine hAg.mono ?_;clear hAg;rintro e w6 ⟨rfl,⟨pv6,av6,bv6,h6⟩,b6⟩));go_roundw;(case rel=>exact ⟨j+1,false,D8 ps t++[(0,[])],[],pv6,av6,bv6,by omega,rfl,by go_num,h6,HB.out.trans b6,HC.out,by simp,by have:=L5 ps t;simp;omega⟩);(case measure=>simp [intOf];omega)
     ·have q38:((b.toNat:Int) == 38)=false:=An (c:=38) h38
      have HC:=Ac8 (show Ca n (s.data.toList.drop (j+1)) false ps (t++[b])=R by rw [←hc];simp [Ca,h92,h38]);clear h92 h38 hc;have hWb:=G8 b HM.out (by omega) hBs;go_wp2_with (first | (go_at_call 92;refine (AT _ _).mono ?_;rintro e w5 ⟨rfl,hw5⟩;have hw5':=hw5.symm;subst hw5') | (go_at_call 87;with_reducible refine hWb.mono ?_;clear hWb;rintro e w6 ⟨rfl,⟨bv6,h6⟩,b6⟩));go_roundw;(case rel=>exact ⟨j+1,false,ps,t++[b],pv,_,bv6,by omega,rfl,by go_num,h6,HB.out.trans b6,HC.out,by simp;omega,by omega⟩);(case measure=>simp [intOf];omega)
   | true=>
    by_cases hd:A2.contains b=true
    ·have hd2:=hd
     rw [DB] at hd2;simp only [Bool.and_eq_true,decide_eq_true_eq] at hd2;obtain ⟨m,hmb⟩:∃ m,b.toNat - 48=m:=⟨_,rfl⟩;have Wm:IntKind.u8.wrap ((b.toNat:Int) - 48)=(m:Int):=by
      rw [show ((b.toNat:Int) - 48)=(m:Int) by omega];simp [IntKind.wrap,IntKind.bits,IntKind.signed];omega
     have Wi:IntKind.i64.wrap (m:Int)=(m:Int):=Adm _ (by omega);have hdc:A2.contains b=true:=hd;by_cases hnm:n < m
     ·have hni:(n:Int) < (m:Int):=by omega
      have HC:=Ac8 (show R=([],9) by rw [←hc];unfold Ca;rw [if_pos hd,hmb,if_pos hnm]);clear hd hc hd2;go_wp2_with (go_at_call 92;refine (AT _ _).mono ?_;rintro e w5 ⟨rfl,hw5⟩;have hw5':=hw5.symm;subst hw5';rw [hdc])
      go_ret2
      rw [HC.out];exact Rz HB.out 9
     ·have hni:¬ (n:Int) < (m:Int):=by omega
      have HC:=Ac8 (show Ca n (s.data.toList.drop (j+1)) false (D8 ps t++[((m:Int),[])]) []=R by rw [←hc];conv=>rhs;unfold Ca;rw [if_pos hd,hmb,if_neg hnm]);clear hd hc hd2;have hAg:=L4 (m:Int) HM.out (by omega) (by omega) hBs;go_wp2_with (first | (go_at_call 92;refine (AT _ _).mono ?_;rintro e w5 ⟨rfl,hw5⟩;have hw5':=hw5.symm;subst hw5';rw [hdc]) | (go_at_call 107;go_loud (refine hAg.mono ?_;clear hAg;rintro e w6 ⟨rfl,⟨pv6,av6,bv6,h6⟩,b6⟩)));go_roundw;(case rel=>exact ⟨j+1,false,D8 ps t++[((m:Int),[])],[],pv6,av6,bv6,by omega,rfl,by go_num,h6,HB.out.trans b6,HC.out,by simp,by have:=L5 ps t;simp;omega⟩);(case measure=>simp [intOf];omega)
    ·have hdc:A2.contains b=false:=by simpa using hd
     by_cases h110:b=110
     ·have q110:((b.toNat:Int) == 110)=true:=by rw [h110];rfl
      have HC:=Ac8 (show Ca n (s.data.toList.drop (j+1)) false ps (t++[10])=R by rw [←hc,h110];simp [Ca,A2]);clear hd hc h110;have hWb:=G8 10 HM.out (by omega) hBs;rw [show (((10:UInt8).toNat:Nat):Int)=10 from rfl] at hWb;go_wp2_with (first | (go_at_call 92;refine (AT _ _).mono ?_;rintro e w5 ⟨rfl,hw5⟩;have hw5':=hw5.symm;subst hw5';rw [hdc]) | (go_at_call 87;with_reducible refine hWb.mono ?_;clear hWb;rintro e w6 ⟨rfl,⟨bv6,h6⟩,b6⟩));go_roundw;(case rel=>exact ⟨j+1,false,ps,t++[10],pv,_,bv6,by omega,rfl,by go_num,h6,HB.out.trans b6,HC.out,by simp;omega,by omega⟩);(case measure=>simp [intOf];omega)
     ·have q110:((b.toNat:Int) == 110)=false:=An (c:=110) h110
      have HC:=Ac8 (show Ca n (s.data.toList.drop (j+1)) false ps (t++[b])=R by rw [←hc];conv=>rhs;unfold Ca;rw [if_neg hd,if_neg h110]);clear hd hc h110;have hWb:=G8 b HM.out (by omega) hBs;go_wp2_with (first | (go_at_call 92;refine (AT _ _).mono ?_;rintro e w5 ⟨rfl,hw5⟩;have hw5':=hw5.symm;subst hw5';rw [hdc]) | (go_at_call 87;with_reducible refine hWb.mono ?_;clear hWb;rintro e w6 ⟨rfl,⟨bv6,h6⟩,b6⟩));go_roundw;(case rel=>exact ⟨j+1,false,ps,t++[b],pv,_,bv6,by omega,rfl,by go_num,h6,HB.out.trans b6,HC.out,by simp;omega,by omega⟩);(case measure=>simp [intOf];omega)
  ·obtain rfl:j=s.size:=by omega
   rw [Bl s s.size (Adf _)] at hc;cases esc with
   | true=>
    have HC:=Ac8 (show R=([],11) by rw [←hc];rfl);clear hc;go_wp2_with fail
    go_ret2
    rw [HC.out];exact Rz HB.out 11
   | false=>
    have HC:=Ac8 (show R=(D8 ps t,0) by rw [←hc];rfl);have hE:=L3 HM.out (by omega) (by omega) hBs;clear hc;go_wp2_with (go_at_call 108;with_reducible refine hE.mono ?_;clear hE;rintro e w6 ⟨rfl,⟨pv6,av6,bv6,h6⟩,b6⟩;have H6:=Ac8 h6;have c0:w6.cell? ⟨W.heap.size,0,none⟩=some pv6:=(h6.q.cell 0).trans rfl;clear h6)
    go_ret2
    rw [HC.out];obtain ⟨a6,c6,rfl⟩:=A7 H6.out.pr;exact ⟨HB.out.trans b6,a6,c6,rfl,H6.out.pr⟩
end
section
open Go Go.RowKit
attribute [local go_sem] Oper.semAt_some
theorem IR {m m':Nat} {P:Program} {l:Nat} {f:FuncId} {tmps:Array Value} {assign body:Code} {w:World} {R:Ending→World→Prop}
  (h:RoundIn Fence.wide m P l f tmps assign body w R):RoundIn Fence.wide m' P l f tmps assign body w R:=⟨h.1,fun c cs _=>h.2 c cs (room_wide _)⟩
theorem D5 {m:Nat} (m':Nat) {P:Program} {l:Nat} {args:Array Value} {W:World} {R:Ending→World→Prop} (h:YieldAt Fence.wide m P l args W R):YieldAt Fence.wide m' P l args W R:=by
 obtain ⟨fn,tmps,assign,body,hy,hR⟩:=h;exact ⟨fn,tmps,assign,body,hy,IR hR⟩
theorem TA:∃ i,Tryz.prog.info? 220=some i∧i.zero=some (.agg #[.nilIface,.slice none 0 0])∧i.size=2∧i.bytes=40:=by
 have h:(Tryz.prog.info? 220).map (fun i=>(i.zero,i.size,i.bytes))=some (some (.agg #[.nilIface,.slice none 0 0]),2,40):=by kernel_rfl
 obtain ⟨i,hi,he⟩:=Option.map_eq_some_iff.1 h;injection he with h1 h2;injection h2 with h2 h3;exact ⟨i,hi,h1,h2,h3⟩
def Wu (n₀:Nat) (root:Nd) (pre:List (Nd × Bool)) (x:Nd × Bool) (args:Array Value) (C:Nat→Prop) (base:Nat) (W:World):Prop:=
 ∃ v,args=#[v,.bool x.2]∧(∃ suf,pre++x :: suf=Fl root)∧NdX (fun k=>k < n₀∨(base≤k∧¬ C k)) W x.1 v
theorem L6 (n l base n₀ S Y:Nat) (root:Nd) (hsz:Au root≤4000000) (J:List (Nd × Bool)→(Nat→Prop)→World→Prop) (Jx:World→Prop)
  (hJ:∀ pre C X Y,J pre C X→Other base C X Y→J pre C Y)
  (hR:∀ pre x args C X,J pre C X→Wu n₀ root pre x args C base X→YieldAt Fence.wide 0 Tryz.prog l args X fun e Y=>
   (e=.returned (.bool true)∧∃ C',J (pre++[x]) C' Y∧Rdn n₀ base C C' X Y)∨(e=.returned (.bool false)∧Jx Y∧Rdn n₀ base C C X Y))
  (pre:List (Nd × Bool)) (C:Nat→Prop) (W:World) (s:List (Nd × List Nd)) (sv:Value) (us:List Value) (d:Nd) (v:Value)
  (hS:Stk n₀ base S Y l C W s sv us) (h0:J pre C W) (hd:NdX (Lies n₀ base C S sv) W d v) (hp:pre++(Fl d++IS s)=Fl root) (hC:∀ k,C k→k < W.heap.size) :
  CallsIn Fence.wide n Tryz.prog 125 #[v,.pointer (some ⟨S,0,none⟩),.pointer (some ⟨Y,0,none⟩)] W fun e Z=>
   ∃ b,e=.returned (.bool b)∧(b=true→∃ C' sv' us',J (pre++[(d,true)]) C' Z∧Stk n₀ base S Y l C' Z (s++[(d,Cf d)]) sv' us'∧∀ k,C' k→k < Z.heap.size)∧(b=false→Jx Z):=by
 obtain ⟨i0,hi,hz0,hz1,hz2⟩:=TA;have hlen:s.length+2≤8000000:=by
  have h1:=EP root;have h2:=QM s;have h3:=congrArg List.length hp;have h4:2≤(Fl d).length:=by rw [E5];simp
  simp at h3;omega
 have hI:=fun (w':World) (hb:Below W.heap.size W w')=>Io (F:=Lies n₀ base C S sv) d v w' (hd.below hb)
 have hdep:∀ k:Nat,(Fence.wide.depth.isSome=true→1≤k):=fun k h=>by simp [Fence.wide] at h
 have hbs:base≤W.heap.size:=by have:=hS.bS;have:=hS.lS;omega
 have hsh:(∃ T q,v=.iface T q)∨v=.nilIface:=hd.elim fun _ h=>Av h
 have hv1:v.oneCell'=true:=by rcases hsh with ⟨_,_,rfl⟩ | rfl <;> rfl
 have hm1:s.length+1≤maxLen:=by unfold maxLen;omega
 have hm2:(s.length+1) * 40≤140737488355328:=by omega
 have hone:∀ (a2:Option Addr) (k cap2:Nat),∀ y∈[v,.slice a2 k cap2],y.oneCell'=true:=by
  intro a2 k cap2 y hy;simp at hy;rcases hy with rfl | rfl
  ·exact hv1
  ·rfl
 have hPush:∀ (w2 w3:World) (a2:Option Addr) (cap2:Nat) (v':Value),Below W.heap.size W w2→AW (fun b=>Lies n₀ base C S sv b∨W.heap.size≤b) w2 (Cf d) a2 cap2→
   w3.ownsRow base 220 2 v' (s.length+1) (us++[v,.slice a2 (Cf d).length cap2])→(w2.alloc (.cells #[v,.slice a2 (Cf d).length cap2] 220)).grownBy w3 sv.ownBlock→(v'.ownBlock=sv.ownBlock∨v'.ownBlock=some (w2.alloc (.cells #[v,.slice a2 (Cf d).length cap2] 220)).heap.size)→
   Boxed w3 S 218 sv∧Stk n₀ base S Y l C (w3.setCell ⟨S,0,none⟩ v') (s++[(d,Cf d)]) v' (us++[v,.slice a2 (Cf d).length cap2])∧Other base C W (w3.setCell ⟨S,0,none⟩ v')∧NdX (Lies n₀ base C S v') (w3.setCell ⟨S,0,none⟩ v') d v:=by
  intro w2 w3 a2 cap2 v' hb2 hr2 hown' hgrow hat;exact hS.push (hb2.trans ((Adk _ w2).alloc hb2.size (.cells #[v,.slice a2 (Cf d).length cap2] 220))) hd (hr2.below ((Adk _ w2).alloc (Adf _) _)) hC hown' hgrow hat
 have hc:=hS.box.cell;have hf:=hS.box.frozen;have hmix:Tryz.prog.follows .mixedOrders=true:=by kernel_rfl
 rcases hsh with ⟨T,q,rfl⟩ | rfl
 all_goals
  refine callsIn_of_wp Tryz.func125 rfl trivial ?_ rfl;simp only [Tryz.ntmps125,List.size_toArray,List.length_cons,List.length_nil,Nat.reduceAdd,Nat.reduceSub,Array.replicate_succ,Array.replicate_zero,List.push_toArray,List.append_toArray,List.nil_append,List.cons_append]
  gi_upto_region 1 with fail
  gi_cut [] from 5 (fun wx=>∃ sv' us',J pre C wx∧Stk n₀ base S Y l C wx (s++[(d,Cf d)]) sv' us'∧Other base C W wx∧NdX (Lies n₀ base C S sv') wx d _)
  case first=>
   refine wpIn_wide.2 ?_
   go_region_law (first
    | (refine Bq rfl _ _ _ rfl 35 _ rfl (by rfl) (enters_of Tryz.func35 (by kernel_rfl) rfl) (hI _ (by first | exact Adk _ _ | exact Below.drew (Adk _ _))) ?_;rintro e w2 ⟨a2,cap2,rfl,hr2,hb2'⟩;refine ⟨_,rfl,?_⟩;have hb2:Below W.heap.size W w2:=(by first | exact hb2' | exact (Below.drew (Adk _ _)).trans hb2');clear hb2';have hS2:=hS.below hb2;have hc2:=hS2.box.cell;have hcA:=fun o=>(hS2.box.alloc o).cell;have hf2:=hS2.box.frozen)
    | (refine step_append_lies _ rfl _ _ 218 rfl base 220 i0 (.agg #[.nilIface,.slice none 0 0]) 2 40 Tryz.underlying218 hi hz0 hz1 hz2 rfl (by decide) sv s.length us rfl (hS2.row.alloc _) ⟨w2.heap.size,0,none⟩ 1 1 [_,.slice a2 (Cf d).length cap2] rfl rfl (cell_two_new _ _ _ _) (hone _ _ _) (by decide) hm1 hm2 (by simp;have:=hb2.size;omega) _ rfl ?_;intro g' cap' w3 hown' hgrow hat _;obtain ⟨hS3,hS4,hO4,hd4⟩:=hPush w2 w3 a2 cap2 _ hb2 hr2 hown' hgrow (hat.elim (fun h=>.inl h.symm) (fun h=>.inr (by rw [h];rfl)));have hc3:=hS3.cell;have hf3:=hS3.frozen))
   all_goals go_wp2_with fail
   all_goals gi_meet
   all_goals exact ⟨_,_,hJ _ _ _ _ h0 hO4,hS4,hO4,hd4⟩
  case rest=>
   obtain ⟨sv',us',hJ1,hS1,hO1,hd1⟩:=hcut;have hC1:∀ k,C k→k < wc.heap.size:=fun k hk=>Adi (hC k hk) hO1.size
   have hcC:=hS1.cC;have hy1:=hS1.yld.cell;have hf1:=hS1.yld.frozen;obtain ⟨fn,tmps,assign,body,hy,hR⟩:=D5 (n - 1) (hR pre (d,true) #[_,.bool true] C wc hJ1 ⟨_,rfl,⟨Fm (Cf d)++((d,false) :: IS s),by rw [←hp,E5];simp⟩,NF hd1⟩)
   gi_wp2
   refine ⟨hdep _,hR.mono ?_⟩;rintro e Z (⟨rfl,C',hJ2,hr⟩ | ⟨rfl,hx,_⟩)
   ·gi_wp2
    go_ret;have hcC':∀ k,C' k→base≤k:=fun k hk=>(hr.new k hk).elim (hcC k) (fun h=>by have:=hO1.size;omega)
    exact ⟨true,rfl,fun _=>⟨C',sv',us',hJ2,hS1.round hr hcC',fun k hk=>(hr.new k hk).elim (fun h=>Adi (hC1 k h) hr.size) (fun h=>h.2)⟩,fun h=>absurd h (by decide)⟩
   ·gi_wp2
    go_ret;exact ⟨false,rfl,fun h=>absurd h (by decide),fun _=>hx⟩
theorem Wv (n l base n₀ R:Nat) (root:Nd) (hsz:Au root≤4000000) (J:List (Nd × Bool)→(Nat→Prop)→World→Prop) (Jx:World→Prop)
  (hJ:∀ pre C X Y,J pre C X→Other base C X Y→J pre C Y) (hJx:∀ X Y,Jx X→Other base (fun _=>False) X Y→Jx Y)
  (hR:∀ pre x args C X,J pre C X→Wu n₀ root pre x args C base X→YieldAt Fence.wide 0 Tryz.prog l args X fun e Y=>
   (e=.returned (.bool true)∧∃ C',J (pre++[x]) C' Y∧Rdn n₀ base C C' X Y)∨(e=.returned (.bool false)∧Jx Y∧Rdn n₀ base C C X Y))
  (W:World) (v:Value) (hb:base=W.heap.size) (hn:n₀≤base) (h0:J [] (fun _=>False) W) (hv:NdX (fun k=>k < n₀) W root v) (hc:W.cell? ⟨R,0,none⟩=some v) :
  CallsIn Fence.wide n Tryz.prog 124 #[.func (.yield l) #[] #[],.pointer (some ⟨R,0,none⟩)] W fun e Z=>(∃ v,e=.returned v)∧((∃ C,J (Fl root) C Z)∨Jx Z):=by
 have hdep:∀ k:Nat,(Fence.wide.depth.isSome=true→1≤k):=fun k h=>by simp [Fence.wide] at h
 refine callsIn_of_wp Tryz.func124 rfl trivial ?_ rfl;simp only [Tryz.ntmps124,List.size_toArray,List.length_cons,List.length_nil,Nat.reduceAdd,Nat.reduceSub,Array.replicate_succ,Array.replicate_zero,List.push_toArray,List.append_toArray,List.nil_append,List.cons_append];obtain ⟨W0,hW0⟩:∃ W0,(W.alloc (.cells #[.func (.yield l) #[] #[]] 217)).alloc (.cells #[.slice none 0 0] 218)=W0:=⟨_,rfl⟩;have hB0:Below W.heap.size W W0:=by rw [←hW0];exact ((Adk _ W).alloc (Adf _) _).alloc (by simp) _
 have hRlt:R < W.heap.size:=World.block_lt_of_cell? W _ hc;have hcR:W0.cell? ⟨R,0,none⟩=some v:=(hB0.cell (p:=⟨R,0,none⟩) hRlt).trans hc;have hS0:Stk n₀ base (W.heap.size+1) W.heap.size l (fun _=>False) W0 [] (.slice none 0 0) []:=by
  have hY:=Boxed.new W 217 (.func (.yield l) #[] #[]);have hS:=Boxed.new (W.alloc (.cells #[.func (.yield l) #[] #[]] 217)) 218 (.slice none 0 0);rw [World.size_alloc,hW0] at hS;have hY2:=hY.alloc (.cells #[.slice none 0 0] 218);rw [hW0] at hY2;exact ⟨hS,hY2,by omega,by omega,hn,fun h=>h,fun h=>h,fun k h=>h.elim,World.ownsRow_nil _ _ _ _,fun g h=>by simp [Value.ownBlock] at h,rfl⟩
 have hJ0:J [] (fun _=>False) W0:=hJ _ _ _ _ h0 (Other.of_below hB0);have hbeg:=L6 (n - 1) l base n₀ (W.heap.size+1) W.heap.size root hsz J Jx hJ hR [] (fun _=>False) W0 [] (.slice none 0 0) [] root v hS0 hJ0
  ((hv.below hB0).keep (Adf _) (fun b hb _=>⟨.inl hb,fun _=>rfl⟩)) (by simp [IS]) (fun k h=>h.elim)
 gi_wp2_with (refine ⟨trivial,hdep _,?_⟩;gi_at_call 125;refine hbeg.mono ?_;clear hbeg;rintro e Z1 ⟨b1,rfl,hg1⟩)
 clear hS0 hJ0 hcR hB0 hc hv h0
 gi_loopg [5] (2 * Au root) (fun k go wr=>∃ b,go=.bool b∧(b=true→∃ pre C s sv us,J pre C wr∧Stk n₀ base (W.heap.size+1) W.heap.size l C wr s sv us∧pre++IS s=Fl root∧(∀ k,C k→k < wr.heap.size)∧(IS s).length+1≤k)∧(b=false→Jx wr))
 case atStart=>
  refine ⟨b1,rfl,fun h=>?_,hg1.2⟩;obtain ⟨C1,sv1,us1,hJ1,hS1,hC1⟩:=hg1.1 h;have hr:Fl root=(root,true) :: IS [(root,Cf root)]:=by rw [E5];simp [IS]
  refine ⟨_,C1,_,sv1,us1,hJ1,hS1,by rw [hr];rfl,hC1,?_⟩;have:=EP root;rw [hr] at this;simp at this;simp;omega
 case round=>
  obtain ⟨b,rfl,ht,hf⟩:=hrel;cases b with
  | false=>
   have hx:=hf rfl;clear ht hf
   gi_wp2
   go_end0;exact ⟨⟨_,rfl⟩,.inr hx⟩
  | true=>
   obtain ⟨pre,C,s,sv,us,hJ1,hS1,hp,hC,hk⟩:=ht rfl;clear ht hf hg1;rcases List.eq_nil_or_concat s with rfl | ⟨s,⟨d,r⟩,rfl⟩
   ·obtain ⟨a,c,rfl⟩:∃ a c,sv=.slice a 0 c:=by
     rcases hS1.row.2 with ⟨e,_⟩ | ⟨g,cap,cur,e,_⟩
     ·exact ⟨_,_,e⟩
     ·exact ⟨_,_,e⟩
    have hc1:=hS1.box.cell
    gi_wp2
    go_end0;exact ⟨⟨_,rfl⟩,.inl ⟨C,by rw [←hp];simpa [IS] using hJ1⟩⟩
   ·rw [List.concat_eq_append] at hS1 hp hk
    have hlen:s.length+1≤8000000:=by
     have h1:=EP root;have h2:=QM (s++[(d,r)]);have h3:=congrArg List.length hp;simp at h2 h3;omega
    obtain ⟨g,cap,us',v2,a2,cap2,rfl,_,hul,q0,q1,qf,hd2,hr2⟩:=hS1.top;have hc1:=hS1.box.cell;have hf1:=hS1.box.frozen;have hbw:base≤wr.heap.size:=by have:=hS1.bS;have:=hS1.lS;omega
    have Wn:IntKind.i64.wrap ((s.length:Int)+1 - 1)=(s.length:Int):=by rw [Adm _ (by omega)];omega
    cases r with
    | nil=>
     have hp2:(pre++[(d,false)])++IS s=Fl root:=by rw [←hp,CI];simp [Fm]
     have hk2:(IS s).length+1 < gk:=by rw [CI] at hk;simp [Fm] at hk;omega
     obtain ⟨fn,tmps,assign,body,hy,hR2⟩:=D5 (n - 1) (hR pre (d,false) #[v2,.bool false] C wr.drew (hJ _ _ _ _ hJ1 (Other.drew (Other.refl _ _ _))) ⟨_,rfl,⟨IS s,by rw [←hp2];simp⟩,(NF hd2).drew⟩);have hyd:=hS1.yld.cell;have hR3:=hR2.mono (R':=fun e Z=>∃ b,e=.returned (.bool b)∧∃ C',(b=true→J (pre++[(d,false)]) C' Z)∧(b=false→Jx Z∧C'=C)∧Rdn n₀ base C C' wr.drew Z) (fun e Z h=>h.elim (fun ⟨he,C',h1,h2⟩=>⟨true,he,C',fun _=>h1,fun h=>absurd h (by decide),h2⟩) (fun ⟨he,h1,h2⟩=>⟨false,he,C,fun h=>absurd h (by decide),fun _=>⟨h1,rfl⟩,h2⟩));clear hR2 hd2 hr2;have hcC:=hS1.cC;have hmix:Tryz.prog.follows .mixedOrders=true:=by kernel_rfl
     gi_upto_region 10 with fail
     gi_cut [5] from 12 (fun x wx=>∃ b,x=.bool b∧∃ C',(b=true→J (pre++[(d,false)]) C' wx)∧(b=false→Jx wx)∧Stk n₀ base (W.heap.size+1) W.heap.size l C' wx (s++[(d,[])]) (.slice (some ⟨g,0,none⟩) (s.length+1) cap) us∧∀ k,C' k→k < wx.heap.size)
     case first=>
      gi_region_with_o (refine ⟨hdep _,hR3.mono ?_⟩;rintro e Z ⟨b,rfl,C',h1,h2,hr⟩)
      all_goals gi_wp2
      all_goals gi_meet
      all_goals exact ⟨b,rfl,C',h1,fun h=>(h2 h).1,(hS1.below (Below.drew (Adk _ _))).round hr (fun k hk=>Or.elim (hr.new k hk) (hcC k) (fun h=>Adg hbw h.1)),fun k hk=>Or.elim (hr.new k hk) (fun h=>Adi (hC k h) hr.size) (fun h=>h.2)⟩
     case rest=>
      obtain ⟨b,rfl,C',h1,h2,hS3,hC3⟩:=hcut;obtain ⟨us3,hS4,hO4⟩:=hS3.pop;have hc3:=hS3.box.cell;have hf3:=hS3.box.frozen;have hcp:s.length+1≤cap:=by
       exact Ro hS3.row
      have hcp2:(s.length:Int)≤(cap:Int):=by omega
      have hcp3:¬ cap=0:=by omega
      gi_wp2
      gi_roundg ((IS s).length+1)
      case measure=>exact hk2
      case rel=>exact ⟨b,rfl,fun h=>⟨_,C',s,_,us3,hJ _ _ _ _ (h1 h) hO4,hS4,hp2,fun k hk=>Adi (hC3 k hk) hO4.size,Adf _⟩,fun h=>hJx _ _ (h2 h) hO4.none⟩
    | cons c r'=>
     obtain ⟨b2,o2,u,rfl,hfb,hlt,hcap,hu,hdu,htl⟩:=hr2.tail;obtain ⟨a4,cap4,htl4,hcase⟩:∃ a4 cap4,AW (Lies n₀ base C (W.heap.size+1) (.slice (some ⟨g,0,none⟩) (s.length+1) cap)) wr r' a4 cap4∧((cap2=1∧a4=some ⟨b2,o2,none⟩∧cap4=0∧r'=[])∨(1 < cap2∧a4=some ⟨b2,o2+1,none⟩∧cap4=cap2 - 1)):=by
      rcases Nat.eq_or_lt_of_le hcap with h1 | h1
      ·have h2:=hr2.1
       simp at h2;have h3:r'=[]:=List.eq_nil_of_length_eq_zero (by omega);subst h3;exact ⟨_,_,AW.nil _ _ _ _ (by decide),.inl ⟨h1.symm,rfl,rfl,rfl⟩⟩
      ·exact ⟨_,_,htl,.inr ⟨h1,rfl,rfl⟩⟩
     have hr2c:=hr2.1;simp at hr2c;clear htl hr2;obtain ⟨us2,hS2,hO2⟩:=hS1.shift htl4;have hp2:pre++(Fl c++IS (s++[(d,r')]))=Fl root:=by rw [←hp,CI,CI];simp [Fm]
     have hk2:(IS (s++[(d,r')])).length+(Fl c).length < gk:=by
      have h1:=congrArg List.length (E5 c);rw [CI] at hk;rw [CI];simp [Fm] at hk h1 ⊢;omega
     have hl2:=congrArg List.length (E5 c);simp at hl2;obtain ⟨mz,hmz⟩:∃ mz,mz=(IS (s++[(d,r')])).length+(Fl c).length:=⟨_,rfl⟩;rw [←hmz] at hk2;have hrem:(IS ((s++[(d,r')])++[(c,Cf c)])).length+1≤mz:=by rw [CI];simp;omega
     clear hmz hl2;have hbeg:=L6 (n - 1) l base n₀ (W.heap.size+1) W.heap.size root hsz J Jx hJ hR pre C _ _ _ us2 c u hS2 (hJ _ _ _ _ hJ1 hO2)
      (hdu.keep hO2.size (fun k hk hlt=>⟨hk,fun o=>Adn (w:=wr) (a:=⟨k,o,none⟩) (Adl _ _ _ _ (So hS1 hk))⟩)) hp2 (fun k hk=>Adi (hC k hk) hO2.size)
     clear hS1 hS2 hdu htl4 hd2;rcases hcase with ⟨rfl,rfl,rfl,rfl⟩ | ⟨hc1,rfl,rfl⟩
     all_goals
      gi_wp2_with (refine ⟨trivial,hdep _,?_⟩;gi_at_call 125;refine hbeg.mono ?_;clear hbeg;rintro e Z ⟨b,rfl,h1,h2⟩)
      gi_roundg mz
      case measure=>exact hk2
      case rel=>
       refine ⟨b,rfl,fun h=>?_,h2⟩;obtain ⟨C',sv',us',g1,g2,g3⟩:=h1 h;exact ⟨_,C',_,sv',us',g1,g2,by rw [←hp2,E5,CI,CI];simp,g3,hrem⟩
end
section
open Go Go.RowKit
theorem Ww (v:Value) (w:World) (hsh:(∃ T q,v=.iface T q)∨v=.nilIface):Calls Tryz.prog 109 #[v] w fun e w'=>e=.returned (.func (.func 124) #[] #[.pointer (some ⟨w.heap.size,0,none⟩)])∧w'=w.alloc (.cells #[v] 38):=by
 rcases hsh with ⟨T,q,rfl⟩ | rfl
 all_goals
  go_enter Tryz.func109,Tryz.ntmps109;go_wp2_with fail
  go_ret;exact ⟨rfl,rfl⟩
theorem Qr (root:Nd) (hsz:Au root≤4000000) (n₀ R:Nat) (v:Value) (w:World) (hn:n₀≤w.heap.size) (hc:w.cell? ⟨R,0,none⟩=some v) (hv:NdX (fun k=>k < n₀) w root v) :
  Zx Tryz.prog 124 #[.pointer (some ⟨R,0,none⟩)] n₀ (Wu n₀ root) (fun xs=>xs=Fl root) w:=by
 intro l m J Jx W hb hJ hJx hR h0;refine callsIn_wide.1 ((Wv 0 l W.heap.size n₀ R root hsz J Jx hJ hJx (fun pre x args C X h1 h2=>D5 0 (hR pre x args C X h1 h2)) W v rfl (Adg hn hb.size) h0 (hv.below hb) ((hb.cell (p:=⟨R,0,none⟩) (World.block_lt_of_cell? w _ hc)).trans hc)).mono ?_);rintro e Y ⟨h1,h2⟩;refine ⟨h1,h2.elim (fun ⟨C,h⟩=>.inl ⟨_,C,rfl,h⟩) .inr⟩
theorem TB {n₀:Nat} {root:Nd} {pre:List (Nd × Bool)} {x:Nd × Bool} {args:Array Value} {C:Nat→Prop} {base k:Nat} {W:World} {o:Obj} (h:Wu n₀ root pre x args C base W) (h1:n₀≤k) (h2:k < base):Wu n₀ root pre x args C base (W.putObj k o):=by
 obtain ⟨v,ha,hs,hv⟩:=h;refine ⟨v,ha,hs,hv.keep (by simp) (fun b hb _=>⟨hb,fun p=>Adn (w:=W) (a:=⟨b,p,none⟩) (World.putObj_heap_other ?_)⟩)⟩;show b≠k;rcases hb with hb | hb
 ·omega
 ·omega
end
section
open Go Go.RowKit
attribute [local go_sem] Oper.semAt_some
def L7 (p:Nd × Bool→Bool) (l:List (Nd × Bool)):Nat:=(l.filter p).length
theorem Oy (p:Nd × Bool→Bool) (l:List (Nd × Bool)) (x:Nd × Bool):L7 p (l++[x])=L7 p l+(if p x then 1 else 0):=by
 unfold L7;rw [List.filter_append,Adh];cases h:p x <;> simp [h]
theorem Do (p:Nd × Bool→Bool) (l m:List (Nd × Bool)):L7 p (l++m)=L7 p l+L7 p m:=by
 unfold L7;rw [List.filter_append,Adh]
theorem Ia (p:Nd × Bool→Bool) (x:Nd × Bool) (l:List (Nd × Bool)):L7 p (x :: l)=(if p x then 1 else 0)+L7 p l:=by
 rw [show x :: l=[x]++l from rfl,Do];unfold L7;cases h:p x <;> simp [h]
theorem Ji (p:Nd × Bool→Bool):L7 p []=0:=rfl
theorem Abh (p:Nd × Bool→Bool) (l:List (Nd × Bool)):L7 p l≤l.length:=List.length_filter_le _ _
def OD (x:Nd × Bool):Bool:=IP x.1 && x.2
theorem YU (l:List Nd) (b:Bool):OD (.cat l,b)=false:=rfl
theorem YV (l:List Nd) (b:Bool):OD (.alt l,b)=false:=rfl
theorem YW (d:Nd) (m n:Int) (b:Bool):OD (.rep d m n,b)=false:=rfl
theorem TC (d:Nd) (n:Int) (b:Bool):OD (.group n d,b)=b:=Bool.true_and b
mutual
theorem Fg:∀ d:Nd,L7 OD (Fl d)=Cm d
 | .cat l=>by have:=FL l;simp [Fl,Cm,Ia,Do,Ji,YU,this]
 | .alt l=>by have:=FL l;simp [Fl,Cm,Ia,Do,Ji,YV,this]
 | .rep d _ _=>by have:=Fg d;simp [Fl,Cm,Ia,Do,Ji,YW,this]
 | .group _ d=>by have:=Fg d;simp [Fl,Cm,Ia,Do,Ji,TC,this];omega
 | .empty=>rfl
 | .one _=>rfl
 | .back _=>rfl
 | .start=>rfl
 | .fin=>rfl
theorem FL:∀ l:List Nd,L7 OD (Fm l)=Fq l
 | []=>rfl
 | d :: ds=>by have:=Fg d;have:=FL ds;simp [Fm,Fq,Do, *]
end
structure Ctr (w0:World) (B t:Nat) (d:Nd) (val:List (Nd × Bool)→Value) (pre:List (Nd × Bool)) (C:Nat→Prop) (W:World):Prop where
 nonc:∀ k,¬ C k
 box:Boxed W B t (val pre)
 below:Below w0.heap.size w0 W
 size:w0.heap.size≤B
theorem Ctr.other {w0:World} {B t D:Nat} {d:Nd} {val:List (Nd × Bool)→Value} {pre:List (Nd × Bool)} {C:Nat→Prop} {X Y:World} (h:Ctr w0 B t d val pre C X) (ho:Other D C X Y) (hB:B < D) (hD:w0.heap.size≤D):Ctr w0 B t d val pre C Y:=
 ⟨h.nonc,Boxed.same h.box (ho.block _ h.box.lt (.inl hB)),h.below.trans ⟨ho.os,ho.tape,ho.output,ho.size,fun k hk=>ho.block k (Adi hk h.below.size) (.inl (Adi hk hD))⟩,h.size⟩
theorem Ctr.skip {w0:World} {B t:Nat} {d:Nd} {val:List (Nd × Bool)→Value} {pre:List (Nd × Bool)} {x:Nd × Bool} {C:Nat→Prop} {X:World} (h:Ctr w0 B t d val pre C X) (hv:val (pre++[x])=val pre):Ctr w0 B t d val (pre++[x]) C X:=
 ⟨h.nonc,by rw [hv];exact h.box,h.below,h.size⟩
theorem Ctr.step {w0:World} {B t:Nat} {d:Nd} {val:List (Nd × Bool)→Value} {pre:List (Nd × Bool)} {x:Nd × Bool} {C:Nat→Prop} {X:World} {u:Value} (h:Ctr w0 B t d val pre C X) (hv:val (pre++[x])=u):Ctr w0 B t d val (pre++[x]) C (X.setCell ⟨B,0,none⟩ u):=
 ⟨h.nonc,by rw [hv];exact Boxed.set u h.box,h.below.setCell (p:=⟨B,0,none⟩) h.size u,h.size⟩
theorem Ctr.mem {w0:World} {B t:Nat} {d:Nd} {val:List (Nd × Bool)→Value} {pre:List (Nd × Bool)} {C:Nat→Prop} {X Y:World} (h:Ctr w0 B t d val pre C X) (hb:Below X.heap.size X Y):Ctr w0 B t d val pre C Y:=
 ⟨h.nonc,Boxed.same h.box (hb.block _ h.box.lt),h.below.trans (hb.mono h.below.size),h.size⟩
theorem Rdn.refl (n₀ B:Nat) (C:Nat→Prop) (W:World):Rdn n₀ B C C W W:=⟨Adf _,fun _ _ _=>rfl,fun _ h=>.inl h⟩
theorem Rdn.setCell (n₀ B:Nat) (C:Nat→Prop) (W:World) {p:Addr} {u:Value} (h1:n₀≤p.block) (h2:p.block < B):Rdn n₀ B C C W (W.setCell p u):=
 ⟨by simp [World.setCell],fun k _ hk=>Adl _ _ _ _ (fun e=>by subst e;rcases hk with h | h <;> omega),fun _ h=>.inl h⟩
theorem Rdn.below {n₀ B:Nat} {C:Nat→Prop} {W W':World} (h:Below W.heap.size W W'):Rdn n₀ B C C W W':=⟨h.size,fun k hk _=>h.block k hk,fun _ h=>.inl h⟩
theorem Rdn.trans {n₀ B:Nat} {C:Nat→Prop} {X Y Z:World} (h:Rdn n₀ B C C X Y) (k:Rdn n₀ B C C Y Z):Rdn n₀ B C C X Z:=
 ⟨Adg h.size k.size,fun i hi hc=>(k.block i (Adi hi h.size) hc).trans (h.block i hi hc),fun _ h=>.inl h⟩
theorem TD {w0 W:World} {D:Nat} {o':Obj} (hD:w0.heap.size≤D):Below w0.heap.size W (W.putObj D o'):=
 ⟨rfl,rfl,rfl,by simp,fun k hk=>World.putObj_heap_other (by omega)⟩
theorem YX {pre:List (Nd × Bool)} {x:Nd × Bool} {d:Nd} (h:∃ suf,pre++x :: suf=Fl d):pre.length+1≤2 * Au d:=by
 obtain ⟨suf,h⟩:=h;have:=congrArg List.length h;rw [EP] at this;simp at this;omega
theorem Ib {F:Nat→Prop} {w0:World} {d:Nd} {v:Value} (h:NdX F w0 d v):∃ (num:Int) (u:Value),((∃ T q,u=.iface T q)∨u=.nilIface)∧
  (∀ w,(Instr.typeAssert v 38 103 true).run Tryz.prog w=.ok (.tuple #[.agg #[.int .i64 num,u],.bool (IP d)]) w)∧∀ n d',d=.group n d'→num=n:=by
 obtain ⟨n,h⟩:=h;cases n with
 | zero=>exact h.elim
 | succ n=>
  cases d with
  | empty=>
   rcases h with rfl | rfl
   ·exact ⟨0,.nilIface,.inr rfl,JC _,fun _ _ h=>by cases h⟩
   ·exact ⟨0,.nilIface,.inr rfl,My,fun _ _ h=>by cases h⟩
  | one s=>obtain rfl:=h;exact ⟨0,.nilIface,.inr rfl,Mh _,fun _ _ h=>by cases h⟩
  | cat l=>obtain ⟨a,cap,rfl,_⟩:=h;exact ⟨0,.nilIface,.inr rfl,Mj _,fun _ _ h=>by cases h⟩
  | alt l=>obtain ⟨a,cap,rfl,_⟩:=h;exact ⟨0,.nilIface,.inr rfl,Ml _,fun _ _ h=>by cases h⟩
  | rep d mn mx=>obtain ⟨u,rfl,_⟩:=h;exact ⟨0,.nilIface,.inr rfl,Mn _,fun _ _ h=>by cases h⟩
  | group num d=>obtain ⟨u,rfl,hu⟩:=h;exact ⟨num,u,Av hu,JE _,fun _ _ h=>by cases h;rfl⟩
  | back num=>obtain rfl:=h;exact ⟨0,.nilIface,.inr rfl,KD _,fun _ _ h=>by cases h⟩
  | start=>obtain rfl:=h;exact ⟨0,.nilIface,.inr rfl,JG _,fun _ _ h=>by cases h⟩
  | fin=>obtain rfl:=h;exact ⟨0,.nilIface,.inr rfl,Mw _,fun _ _ h=>by cases h⟩
theorem Oz (d:Nd) (v:Value) (w:World) (h:NdX (fun k=>k < w.heap.size) w d v) (hsz:Au d≤4000000) :
  Calls Tryz.prog 90 #[v] w fun e w'=>e=.returned (.int .i64 (Cm d:Int))∧Below w.heap.size w w':=by
 have hsh:(∃ T q,v=.iface T q)∨v=.nilIface:=h.elim fun _ h=>Av h
 refine (callsIn_wide (n:=3)).1 ?_;refine callsIn_of_wp_marks Tryz.func90 rfl trivial ?_ rfl;simp only [Tryz.ntmps90,List.size_toArray,List.length_cons,List.length_nil,Nat.reduceAdd,Nat.reduceSub,Array.replicate_succ,Array.replicate_zero,List.push_toArray,List.append_toArray,List.nil_append,List.cons_append]
 gi_wp2_with (refine ⟨trivial,?_⟩;gi_at_call 109;refine (callsIn_wide.2 (Ww _ _ hsh)).mono ?_;rintro e w' ⟨rfl,rfl⟩)
 obtain ⟨V,hV⟩:∃ V,(w.alloc (.cells #[.int .i64 0] 3)).alloc (.cells #[v] 38)=V:=⟨_,rfl⟩;have hB:Below w.heap.size w V:=by rw [←hV];exact ((Adk _ w).alloc (Adf _) _).alloc (by simp) _
 have hVs:V.heap.size=w.heap.size+2:=by rw [←hV];simp
 have hc:V.cell? ⟨w.heap.size+1,0,none⟩=some v:=by
  have h1:=(Boxed.new (w.alloc (.cells #[.int .i64 0] 3)) 38 v).cell;rw [World.size_alloc,hV] at h1;exact h1
 have hb0:Boxed V w.heap.size 3 (.int .i64 ((L7 OD []:Nat):Int)):=by
  have h1:=(Boxed.new w 3 (.int .i64 0)).alloc (.cells #[v] 38);rw [hV] at h1;exact h1
 rw [hV];refine Fw (gf:=124) (lb:=#[.pointer (some ⟨w.heap.size+1,0,none⟩)]) rfl (enters_of Tryz.func124 (by kernel_rfl) rfl)
  (Qr d hsz w.heap.size (w.heap.size+1) v V (by omega) hc (h.below hB)) (Adk _ _) (by omega)
  (fun pre x args C b W hk=>by obtain ⟨_,rfl,_⟩:=hk;rfl)
  (fun pre x args C b W k o hk h1 h2=>TB hk h1 h2)
  (fun pre C W=>Ctr w w.heap.size 3 d (fun pre=>.int .i64 ((L7 OD pre:Nat):Int)) pre C W) (fun _ _=>False)
  (fun pre C X Y hk ho=>hk.other ho (by omega) (by omega)) (fun _ _ _ hk _=>hk) ⟨fun _ h=>h,hb0,hB,Adf _⟩ ?round ?done ?stop
 case round=>
  rintro l pre ⟨d',b⟩ args C W hI hOk hC hlt;obtain ⟨v',rfl,hsuf,hv'⟩:=hOk;obtain ⟨num,u,hu,hTA,_⟩:=Ib hv'
  gi_wp2
  clear hI hlt hv';intro W hI hOk hlt;clear hOk;have hc:=hI.box.cell;have hf:=hI.box.frozen;have hcA:=fun o=>(hI.mem ((Adk _ W).alloc (Adf _) o)).box.cell
  have hfA:=fun o=>(hI.mem ((Adk _ W).alloc (Adf _) o)).box.frozen
  have hIA:=fun o=>hI.mem ((Adk _ W).alloc (Adf _) o)
  have hRA:=fun o=>Rdn.below (n₀:=w.heap.size) (B:=w.heap.size+2) (C:=C) ((Adk _ W).alloc (Adf _) o)
  have Wn:OD (d',b)=true→IntKind.i64.wrap (((L7 OD pre:Nat):Int)+1)=((L7 OD (pre++[(d',b)]):Nat):Int):=by
   intro hn;have h1:=Abh OD pre;have h2:=YX hsuf;rw [Oy,Adm _ (by omega),hn];rfl
  have hno:OD (d',b)=false→L7 OD (pre++[(d',b)])=L7 OD pre:=fun hn=>by rw [Oy,hn];rfl
  have hgb:OD (d',b)=(IP d' && b):=rfl;rw [hgb] at Wn hno;cases hG:IP d'
  ·rw [hG] at hTA hno
   have Hno:=Ac8 (hno rfl);clear hno hgb Wn hG;rcases hu with ⟨T,q,rfl⟩ | rfl
   all_goals
    gi_wp2
    exact ⟨C,hRA _,(hIA _).skip (by rw [Hno.out])⟩
  ·rw [hG] at hTA hno Wn
   cases b with
   | false=>
    have Hno:=Ac8 (hno rfl);clear hno hgb Wn hG;rcases hu with ⟨T,q,rfl⟩ | rfl
    all_goals
     gi_wp2
     exact ⟨C,hRA _,(hIA _).skip (by rw [Hno.out])⟩
   | true=>
    replace Wn:=Wn rfl;clear hno hgb hG;rcases hu with ⟨T,q,rfl⟩ | rfl
    all_goals
     gi_wp2
     exact ⟨C,(hRA _).trans (Rdn.setCell _ _ _ _ (Adf _) (by simp)),(hIA _).step rfl⟩
 case done=>
  rintro xs C W rfl hI hK;have hc:=hI.box.cell;rw [Fg] at hc
  gi_wp2
  refine ⟨by simp,.inl ⟨_,_,rfl,run_takeDeferred hK,?_⟩⟩;exact ⟨_,results_tmp rfl _ _ _,rfl,hI.below.trans (TD (by omega))⟩
 case stop=>
  intro c W hk _;exact hk.elim
end
section
open Go Go.RowKit
attribute [local go_sem] Oper.semAt_some
end
section
open Go Go.RowKit
theorem MM (d:UInt8) (rx:Bool) (L:List UInt8):∀ (n p:Nat) (acc:List UInt8),p≤L.length→(Ch d rx L n p acc).1.length≤acc.length+(L.length - p)
 | 0,p,acc,h=>Nat.zero_le _
 | n+1,p,acc,h=>by
  cases hd:L.drop p with
  | nil=>rw [Di hd];exact Nat.zero_le _
  | cons c t=>
   have hl:t.length+1=L.length - p:=by rw [←List.length_drop,hd];rfl
   by_cases hc:c=d
   ·subst hc;rw [Dj hd];simp only;omega
   ·obtain ⟨x,k,e,he⟩:∃ x k e,AV d rx c t p=(x,k,e):=⟨_,_,_,rfl⟩
    by_cases h0:e=0
    ·subst h0
     rw [C7 hd hc he];obtain ⟨h1,h2,h3⟩:=E8 he;have ih:=MM d rx L n k (acc++x) (by omega);rw [Adh] at ih;omega
    ·rw [DK hd hc h0 he]
     obtain ⟨h1,_,_⟩:=Gt he h0;rw [h1];exact Nat.zero_le _
theorem CmSt.partsR {w:World} {p:Nat} {s:ByteArray} {ext:Bool} {st:CS} {ta tb ts:Value} {pa:Option Addr} {pc:Nat} {ma:Option Addr} {mc:Nat} {W:World} (h:CmSt w p s ext st ta tb ts pa pc ma mc W) {ps:List Cp} {a:Option Addr} {c B:Nat} (hB:w.heap.size≤B) (hr:W.ownsRow B 74 2 (.slice a ps.length c) ps.length (cpC ps)) (hn:∀ g,(Value.slice a ps.length c).ownBlock=some g→g≠p∧(Value.slice ma st.ms.length mc).ownBlock≠some g) (k:Nat) :
  CmSt w p s ext (st.parts ps k) ta tb ts a c ma mc ((W.setCell ⟨p,17,none⟩ (.slice a ps.length c)).setCell ⟨p,2,none⟩ (.int .i64 (k:Int))):=by
 refine CmSt.go (st:={ st with c:={ st.c with sub:={ st.c.sub with parts:=ps } } }) ?_ k;have o1:∀ b,b≠p→(W.setCell ⟨p,17,none⟩ (.slice a ps.length c)).heap[b]?=W.heap[b]?:=fun b hb=>Adl _ _ _ _ (fun e=>hb e)
 have hsz:(W.setCell ⟨p,17,none⟩ (.slice a ps.length c)).heap.size=W.heap.size:=by simp [World.setCell]
 have hk:∀ {t x},TrO (fun b=>w.heap.size≤b∧b≠p∧(Value.slice ma st.ms.length mc).ownBlock≠some b) W t x→TrO (fun b=>w.heap.size≤b∧b≠p∧(Value.slice ma st.ms.length mc).ownBlock≠some b) (W.setCell ⟨p,17,none⟩ (.slice a ps.length c)) t x:=fun hk=>TrO.keep (by omega) (fun b hb _=>⟨hb,fun o=>Adn (w:=W) (a:=⟨b,o,none⟩) (o1 b hb.2.1)⟩) hk
 exact ⟨h.b0.setCell (p:=⟨p,17,none⟩) h.pg _,h.q.set 17 _,h.pg,hk h.ha,hk h.hb,hk h.hs,Aa h.r fun b hb=>o1 b fun e=>h.rg (by rw [hb,e]),h.rg,BN hB (Aa hr fun b hb=>o1 b (hn b hb).1),hn⟩
theorem Wy (w:World) (p:Nat) (s:ByteArray) (ext:Bool) (st:CS) (d:UInt8) (D:Nd) (W:World) (h:Dg w p s ext st W) (hD:st.c.sub.tree=some D) (hsz:Au D≤4000000) (hs:s.size≤4000) (hk:st.k≤s.size) (hP:GP w) :
  Calls Tryz.prog 74 #[.pointer (some ⟨p,0,none⟩),.int .u8 (d.toNat:Int)] W fun e W'=>e=.returned (.int .i64 ((CE s.data.toList d st).1:Int))∧Dg w p s ext (CE s.data.toList d st).2 W':=by
 obtain ⟨ta,tb,ts,pa,pc,ma,mc,h⟩:=h;have hs4:s.size≤4000000:=by omega
 have hN:=fun w1 (hb:Below W.heap.size W w1)=>FK s st.k d false w1 hs4 hk ((hP.up h.b0).up hb)
 unfold CE Aj;rw [Dq _ _ _ _ (by rw [←Ad];exact hk),←Ad,hD,show EW (some D)=Cm D from rfl];have hln:=MM d false s.data.toList (s.size+1) st.k [] (by rw [←Ad];exact hk);obtain ⟨⟨t,q,e0⟩,hR⟩:∃ R,Ch d false s.data.toList (s.size+1) st.k []=R:=⟨_,rfl⟩;rw [hR] at hN hln ⊢;rw [←Ad] at hln;simp only [List.length_nil] at hln;have hN:∀ w1,Below W.heap.size W w1→Calls Tryz.prog 76 #[.string s,.int .i64 (st.k:Int),.int .u8 d.toNat,.bool false] w1 fun e w'=>e=.returned (.tuple #[.string (txt t),.int .i64 (q:Int),.int .i64 (e0:Int)])∧Below w1.heap.size w1 w':=hN
 obtain ⟨T,hT⟩:∃ T,txt t=T:=⟨_,rfl⟩;have hTl:T.data.toList=t:=by rw [←hT,DR]
 have hTs:T.size≤4000:=by rw [←hT,CJ];omega
 rw [hT] at hN;have hQ:=fun w2=>Qq T (Cm D) w2 hTs
 rw [hTl] at hQ;obtain ⟨⟨ps,e1⟩,hR2⟩:∃ R,Ca (Cm D) t false [] []=R:=⟨_,rfl⟩;simp only [hR2] at hQ ⊢;have HH:=Ac8 h;have k0:W.cell? ⟨p,0,none⟩=some (.string s):=(h.q.cell 0).trans rfl;have k2:W.cell? ⟨p,2,none⟩=some (.int .i64 (st.k:Int)):=(h.q.cell 2).trans rfl;have hsh:=h.hs.shape;clear h hR hR2 hT hTl hln hP;unfold DG;simp only;by_cases he:e0=0
 ·rw [if_pos he]
  have ce:((e0:Int) != 0)=false:=by simp [he]
  clear he;obtain ⟨Z,hZ⟩:∃ Z,(if e1=0 then ((0,st.parts ps q):CO) else (e1,st))=Z:=⟨_,rfl⟩;rw [hZ];have HZ:=Ac8 hZ;clear hZ;rcases hsh with ⟨T8,q8,rfl⟩ | rfl
  all_goals
   go_enter Tryz.func74,Tryz.ntmps74;go_upto_region 1 with fail
   go_region_held3 (fun w'=>w'.cell? ⟨p,0,none⟩=some (.string s)∧w'.cell? ⟨p,2,none⟩=some (.int .i64 (st.k:Int))) (first | exact ⟨k0,k2⟩ | (refine ⟨?_,?_⟩ <;> assumption)) (first | (go_at_call 76;refine (hN _ (by first | exact Adk _ _ | exact (Adk _ _).drew)).mono ?_;rintro e w1 ⟨rfl,b1⟩;have H1:=Ac8 (by first | exact HH.out.step b1 | exact HH.out.drew.step b1:CmSt w p s ext st ta tb _ pa pc ma mc w1);have m0:(w1).cell? ⟨p,0,none⟩=some (.string s):=(H1.out.q.cell 0).trans rfl;have m2:(w1).cell? ⟨p,2,none⟩=some (.int .i64 (st.k:Int)):=(H1.out.q.cell 2).trans rfl;clear b1))
   have hgr:=Oz D _ w1 (by have h9:=H1.out.hs;rw [hD] at h9;exact NdX.keep (Adf _) (fun b _ hl=>⟨hl,fun _=>rfl⟩) h9) hsz;have k16:w1.cell? ⟨p,16,none⟩=some _:=(H1.out.q.cell 16).trans rfl;clear k0 k2 m0 m2;go_upto_region 6 with (first
    | (go_at_call 90;refine hgr.mono ?_;clear hgr;rintro e w2 ⟨rfl,b2⟩;have H2:=Ac8 (H1.out.step b2);clear b2)
    | (go_at_call 89;refine (hQ _).mono ?_;rintro e w3 ⟨b3,a3,c3,rfl,r3⟩;have H3:=Ac8 (H2.out.step b3);have R3:=Ac8 r3;have HL:=Ac8 (And.intro H2.out.b0.size H2.out.q.lt);have HM:=Ac8 (fun g hg=>AA H2.out.r g hg);clear b3 r3))
   by_cases h1:e1=0
   ·subst h1
    obtain rfl:(0,st.parts ps q)=Z:=by rw [←HZ.out,if_pos rfl]
    have k2:w3.cell? ⟨p,2,none⟩=some (.int .i64 (st.k:Int)):=(H3.out.q.cell 2).trans rfl;have k17:w3.cell? ⟨p,17,none⟩=some (.slice pa st.c.sub.parts.length pc):=(H3.out.q.cell 17).trans rfl;have f2:=H3.out.q.frozen 2;have f17:=H3.out.q.frozen 17;have H4:=Ac8 (H3.out.partsR HL.out.1 R3.out (fun g hg=>by
     have hge:=AN R3.out g hg;have hlp:=HL.out.2;refine ⟨by omega,fun e=>?_⟩;have:=HM.out g e;omega) q)
    go_wp2_with fail
    go_ret;exact ⟨rfl,H4.out.R⟩
   ·obtain rfl:(e1,st)=Z:=by rw [←HZ.out,if_neg h1]
    have c1:((e1:Int) != 0)=true:=by simpa using h1
    clear h1;go_wp2_with fail
    go_ret;exact ⟨rfl,H3.out.R⟩
 ·rw [if_neg he]
  have ce:((e0:Int) != 0)=true:=by simpa using he
  clear he;go_enter Tryz.func74,Tryz.ntmps74;go_upto_region 1 with fail
  go_region_held3 (fun w'=>w'.cell? ⟨p,0,none⟩=some (.string s)∧w'.cell? ⟨p,2,none⟩=some (.int .i64 (st.k:Int))) (first | exact ⟨k0,k2⟩ | (refine ⟨?_,?_⟩ <;> assumption)) (first | (go_at_call 76;refine (hN _ (by first | exact Adk _ _ | exact (Adk _ _).drew)).mono ?_;rintro e w1 ⟨rfl,b1⟩;have H1:=Ac8 (by first | exact HH.out.step b1 | exact HH.out.drew.step b1:CmSt w p s ext st ta tb _ pa pc ma mc w1);have m0:(w1).cell? ⟨p,0,none⟩=some (.string s):=(H1.out.q.cell 0).trans rfl;have m2:(w1).cell? ⟨p,2,none⟩=some (.int .i64 (st.k:Int)):=(H1.out.q.cell 2).trans rfl;clear b1))
  have f2:=H1.out.q.frozen 2;have H2:=Ac8 (H1.out.go q);go_wp2_with fail
  go_ret;exact ⟨rfl,H2.out.R⟩
end
section
open Go.ChangeShapes Go.WideShapes Go.ChangeAt Go.RowKit
theorem own:ownKnob Tryz.prog.godebug=none:=by kernel_rfl
theorem R0:laidOutB Tryz.prog=true:=by kernel_rfl
end
section
open Go.ChangeShapes Go.WideShapes Go.ChangeAt Go.RowKit
end
section
open Go.RowKit
end
section
open Go.RowKit
def kb (t:Tr):Nat:=if (t.kind=4∨t.kind=5)∧t.parts=[] then 1 else 0
end
section
open Go.RowKit
end
section
open Go.RowKit
theorem Abi (a b c d:Int) (w:World):(part 107 #[.int .u64 a,.int .u64 b,.int .u64 c,.int .u64 d] (0 * 1)).run Tryz.prog w=.ok (.int .u64 a) w:=by kernel_rfl
theorem Abj (a b c d:Int) (w:World):(part 107 #[.int .u64 a,.int .u64 b,.int .u64 c,.int .u64 d] 1).run Tryz.prog w=.ok (.int .u64 b) w:=by kernel_rfl
theorem Abk (a b c d:Int) (w:World):(part 107 #[.int .u64 a,.int .u64 b,.int .u64 c,.int .u64 d] 2).run Tryz.prog w=.ok (.int .u64 c) w:=by kernel_rfl
theorem Abl (a b c d:Int) (w:World):(part 107 #[.int .u64 a,.int .u64 b,.int .u64 c,.int .u64 d] 3).run Tryz.prog w=.ok (.int .u64 d) w:=by kernel_rfl
theorem TE (a b c d a' b' c' d':Int) (w:World):(Op.eqItems 9999 107 1 #[.int .u64 a,.int .u64 b,.int .u64 c,.int .u64 d] #[.int .u64 a',.int .u64 b',.int .u64 c',.int .u64 d'] [0,1,2,3]).run Tryz.prog w=.ok (a == a' && (b == b' && (c == c' && d == d'))) w:=by
 have h:=fun (x y:Int) (w:World)=>(run_equalIn_int (P:=Tryz.prog) w 9998 107 .u64 .u64 x y Tryz.underlying107:(Op.equalIn 9999 107 (.int .u64 x) (.int .u64 y)).run Tryz.prog w=_)
 simp only [Op.eqItems,Sem.run_bind,Abi,h,Result.andThen_ok];cases ha:a == a' <;> cases hb:b == b' <;> cases hc:c == c' <;> cases hd:d == d' <;> simp [ha,hb,hc,hd,h,Abj,Abk,Abl]
theorem Wz (s t:OSet):(ow s 0 == ow t 0 && (ow s 1 == ow t 1 && (ow s 2 == ow t 2 && ow s 3 == ow t 3)))=decide (s=t):=by
 by_cases h:s=t
 ·subst h;simp
 ·have h2:=QJ h
  rw [decide_eq_false h];cases hx:(ow s 0 == ow t 0 && (ow s 1 == ow t 1 && (ow s 2 == ow t 2 && ow s 3 == ow t 3)))
  ·rfl
  ·exfalso
   simp only [Bool.and_eq_true,beq_iff_eq] at hx;exact h2 hx
end
section
open Go Go.RowKit
def Qs (d:Nd) (s:OSet):Bool:=match d with
 | .one t=>decide (t=s)
 | _=>false
theorem W7 (s t:OSet) (w:World):(Op.equalIn 10000 109 (.agg #[.int .u64 (ow s 0),.int .u64 (ow s 1),.int .u64 (ow s 2),.int .u64 (ow s 3)]) (.agg #[.int .u64 (ow t 0),.int .u64 (ow t 1),.int .u64 (ow t 2),.int .u64 (ow t 3)])).run Tryz.prog w=.ok (decide (s=t)) w:=by
 have hc:Tryz.prog.cellsOf 107=1:=by kernel_rfl
 have hi0:(Tryz.prog.info? 107).isSome=true:=by kernel_rfl
 obtain ⟨i,hi⟩:=Option.isSome_iff_exists.1 hi0;rw [run_equalIn_array w 9999 (e:=107) (n:=4) _ _ Tryz.underlying109 hi];rw [hc,show List.range 4=[0,1,2,3] from rfl,TE,Wz]
theorem TF {F:Nat→Prop} (d:Nd) (v:Value) (t:OSet) (w:World) (h:NdX F w d v):Calls Tryz.prog 52 #[v,.agg #[.int .u64 (ow t 0),.int .u64 (ow t 1),.int .u64 (ow t 2),.int .u64 (ow t 3)]] w fun e w'=>e=.returned (.bool (Qs d t))∧Below w.heap.size w w':=by
 have hq:=W7;rcases Cb h with ⟨rfl,rfl | rfl⟩ | ⟨s,rfl,rfl⟩ | ⟨l,a,cap,rfl,rfl,hr⟩ | ⟨l,a,cap,rfl,rfl,hr⟩ | ⟨d',mn,mx,u,rfl,rfl,hu⟩ | ⟨num,d',u,rfl,rfl,hu⟩ | ⟨num,rfl,rfl⟩ | ⟨rfl,rfl⟩ | ⟨rfl,rfl⟩
 all_goals
  go_enter Tryz.func52,Tryz.ntmps52;go_wp2_with fail
  go_ret;refine ⟨rfl,?_⟩
  repeat (first | (with_reducible exact Adk _ _) | refine Below.drew ?_ | refine Below.setCell ?_ (by first | omega | (simp;omega) | simp) _ | refine Below.alloc ?_ (by first | omega | (simp;omega) | simp) _)
end
section
open Go Go.RowKit
def YY:Nd→Bool
 | .empty=>true
 | _=>false
def Abm:Nd→Bool
 | .cat _=>true
 | _=>false
def Abn:Nd→Bool
 | .rep _ _ _=>true
 | _=>false
def Abo:Nd→Bool
 | .start=>true
 | _=>false
def Abp:Nd→Bool
 | .fin=>true
 | _=>false
theorem IK {F:Nat→Prop} (d:Nd) (v:Value) (w:World) (h:NdX F w d v):Calls Tryz.prog 51 #[v] w fun e w'=>e=.returned (.bool (YY d))∧Below w.heap.size w w':=by
 rcases Cb h with ⟨rfl,rfl | rfl⟩ | ⟨s,rfl,rfl⟩ | ⟨l,a,cap,rfl,rfl,hr⟩ | ⟨l,a,cap,rfl,rfl,hr⟩ | ⟨d',mn,mx,u,rfl,rfl,hu⟩ | ⟨num,d',u,rfl,rfl,hu⟩ | ⟨num,rfl,rfl⟩ | ⟨rfl,rfl⟩ | ⟨rfl,rfl⟩
 all_goals
  go_enter Tryz.func51,Tryz.ntmps51;go_wp2_with fail
  go_ret;exact ⟨rfl,Adk _ _⟩
theorem Qt {F:Nat→Prop} {w0:World} {d:Nd} {v:Value} (h:NdX F w0 d v):∃ a n c,∀ w,(Instr.typeAssert v 38 98 true).run Tryz.prog w=.ok (.tuple #[.agg #[.slice a n c],.bool (Abm d)]) w:=by
 rcases Cb h with ⟨rfl,rfl | rfl⟩ | ⟨s,rfl,rfl⟩ | ⟨l,a,cap,rfl,rfl,hr⟩ | ⟨l,a,cap,rfl,rfl,hr⟩ | ⟨d',mn,mx,u,rfl,rfl,hu⟩ | ⟨num,d',u,rfl,rfl,hu⟩ | ⟨num,rfl,rfl⟩ | ⟨rfl,rfl⟩ | ⟨rfl,rfl⟩
 ·exact ⟨none,0,0,Me _⟩
 ·exact ⟨none,0,0,P1⟩
 ·exact ⟨none,0,0,Pm _⟩
 ·exact ⟨_,_,_,Pp _⟩
 ·exact ⟨none,0,0,Ps _⟩
 ·exact ⟨none,0,0,Pv _⟩
 ·exact ⟨none,0,0,Mp _⟩
 ·exact ⟨none,0,0,NA _⟩
 ·exact ⟨none,0,0,Mt _⟩
 ·exact ⟨none,0,0,Py _⟩
theorem Qu {F:Nat→Prop} {w0:World} {d:Nd} {v:Value} (h:NdX F w0 d v):∃ u mn mx,((∃ T q,u=.iface T q)∨u=.nilIface)∧(∀ w,(Instr.typeAssert v 38 101 true).run Tryz.prog w=.ok (.tuple #[.agg #[u,.int .i64 mn,.int .i64 mx],.bool (Abn d)]) w)∧∀ d' a b,d=.rep d' a b→mn=a∧mx=b:=by
 rcases Cb h with ⟨rfl,rfl | rfl⟩ | ⟨s,rfl,rfl⟩ | ⟨l,a,cap,rfl,rfl,hr⟩ | ⟨l,a,cap,rfl,rfl,hr⟩ | ⟨d',mn,mx,u,rfl,rfl,hu⟩ | ⟨num,d',u,rfl,rfl,hu⟩ | ⟨num,rfl,rfl⟩ | ⟨rfl,rfl⟩ | ⟨rfl,rfl⟩
 ·exact ⟨.nilIface,0,0,.inr rfl,Mf _,fun _ _ _ h=>by cases h⟩
 ·exact ⟨.nilIface,0,0,.inr rfl,P2,fun _ _ _ h=>by cases h⟩
 ·exact ⟨.nilIface,0,0,.inr rfl,Pn _,fun _ _ _ h=>by cases h⟩
 ·exact ⟨.nilIface,0,0,.inr rfl,Pq _,fun _ _ _ h=>by cases h⟩
 ·exact ⟨.nilIface,0,0,.inr rfl,Pt _,fun _ _ _ h=>by cases h⟩
 ·exact ⟨u,mn,mx,hu.elim fun _ h=>Av h,Pw _,fun _ _ _ h=>by cases h;exact ⟨rfl,rfl⟩⟩
 ·exact ⟨.nilIface,0,0,.inr rfl,Mq _,fun _ _ _ h=>by cases h⟩
 ·exact ⟨.nilIface,0,0,.inr rfl,NB _,fun _ _ _ h=>by cases h⟩
 ·exact ⟨.nilIface,0,0,.inr rfl,Mu _,fun _ _ _ h=>by cases h⟩
 ·exact ⟨.nilIface,0,0,.inr rfl,Pz _,fun _ _ _ h=>by cases h⟩
theorem MN {F:Nat→Prop} {w0:World} {d:Nd} {v:Value} (h:NdX F w0 d v):∃ num:Int,(∀ w,(Instr.typeAssert v 38 117 true).run Tryz.prog w=.ok (.tuple #[.agg #[.int .i64 num],.bool (ZF d)]) w)∧∀ n,d=.back n→num=n:=by
 rcases Cb h with ⟨rfl,rfl | rfl⟩ | ⟨s,rfl,rfl⟩ | ⟨l,a,cap,rfl,rfl,hr⟩ | ⟨l,a,cap,rfl,rfl,hr⟩ | ⟨d',mn,mx,u,rfl,rfl,hu⟩ | ⟨num,d',u,rfl,rfl,hu⟩ | ⟨num,rfl,rfl⟩ | ⟨rfl,rfl⟩ | ⟨rfl,rfl⟩
 ·exact ⟨0,K9 _,fun _ h=>by cases h⟩
 ·exact ⟨0,NE,fun _ h=>by cases h⟩
 ·exact ⟨0,N6 _,fun _ h=>by cases h⟩
 ·exact ⟨0,N7 _,fun _ h=>by cases h⟩
 ·exact ⟨0,N8 _,fun _ h=>by cases h⟩
 ·exact ⟨0,N9 _,fun _ h=>by cases h⟩
 ·exact ⟨0,KC _,fun _ h=>by cases h⟩
 ·exact ⟨num,Ms _,fun _ h=>by cases h;rfl⟩
 ·exact ⟨0,KF _,fun _ h=>by cases h⟩
 ·exact ⟨0,ND _,fun _ h=>by cases h⟩
theorem MO {F:Nat→Prop} {w0:World} {d:Nd} {v:Value} (h:NdX F w0 d v):∀ w,(Instr.typeAssert v 38 119 true).run Tryz.prog w=.ok (.tuple #[.agg #[],.bool (Abo d)]) w:=by
 rcases Cb h with ⟨rfl,rfl | rfl⟩ | ⟨s,rfl,rfl⟩ | ⟨l,a,cap,rfl,rfl,hr⟩ | ⟨l,a,cap,rfl,rfl,hr⟩ | ⟨d',mn,mx,u,rfl,rfl,hu⟩ | ⟨num,d',u,rfl,rfl,hu⟩ | ⟨num,rfl,rfl⟩ | ⟨rfl,rfl⟩ | ⟨rfl,rfl⟩
 ·exact JD _
 ·exact Mz
 ·exact Mi _
 ·exact Mk _
 ·exact Mm _
 ·exact Mo _
 ·exact JF _
 ·exact KE _
 ·exact JH _
 ·exact Mx _
theorem Qv {F:Nat→Prop} {w0:World} {d:Nd} {v:Value} (h:NdX F w0 d v):∀ w,(Instr.typeAssert v 38 121 true).run Tryz.prog w=.ok (.tuple #[.agg #[],.bool (Abp d)]) w:=by
 rcases Cb h with ⟨rfl,rfl | rfl⟩ | ⟨s,rfl,rfl⟩ | ⟨l,a,cap,rfl,rfl,hr⟩ | ⟨l,a,cap,rfl,rfl,hr⟩ | ⟨d',mn,mx,u,rfl,rfl,hu⟩ | ⟨num,d',u,rfl,rfl,hu⟩ | ⟨num,rfl,rfl⟩ | ⟨rfl,rfl⟩ | ⟨rfl,rfl⟩
 ·exact Mg _
 ·exact P3
 ·exact Po _
 ·exact Pr _
 ·exact Pu _
 ·exact Px _
 ·exact Mr _
 ·exact NC _
 ·exact Mv _
 ·exact P0 _
theorem Kt (e:Nd):E3 .empty e=YY e:=by cases e <;> rfl
theorem WA (s:OSet) (e:Nd):E3 (.one s) e=Qs e s:=by cases e <;> first | rfl | exact decide_eq_decide.2 ⟨Eq.symm,Eq.symm⟩
theorem WB (l:List Nd) (e:Nd):E3 (.cat l) e=Abm e:=by cases e <;> rfl
theorem WC (l:List Nd) (e:Nd):E3 (.alt l) e=!inAlt e:=by cases e <;> rfl
theorem Qw (e:Nd):E3 .start e=Abo e:=by cases e <;> rfl
theorem WD (e:Nd):E3 .fin e=Abp e:=by cases e <;> rfl
theorem WE (d:Nd) (mn mx:Int) (e:Nd) (p q:Int) (h:∀ d' a b,e=.rep d' a b→p=a∧q=b):E3 (.rep d mn mx) e=(Abn e && (mn == p) && (mx == q)):=by
 cases e with
 | rep e a b=>obtain ⟨rfl,rfl⟩:=h _ _ _ rfl;rfl
 | _=>rfl
theorem Qx (d:Nd) (n:Int) (e:Nd) (p:Int) (h:∀ k d',e=.group k d'→p=k):E3 (.group n d) e=(IP e && (n == p)):=by
 cases e with
 | group k e=>obtain rfl:=h _ _ rfl;rfl
 | _=>rfl
theorem TG (n:Int) (e:Nd) (p:Int) (h:∀ k,e=.back k→p=k):E3 (.back n) e=(ZF e && (n == p)):=by
 cases e with
 | back k=>obtain rfl:=h _ rfl;rfl
 | _=>rfl
theorem TH {F:Nat→Prop} (d e:Nd) (v y:Value) (w:World) (h:NdX F w d v) (k:NdX F w e y):Calls Tryz.prog 36 #[v,y] w fun r w'=>r=.returned (.bool (E3 d e))∧Below w.heap.size w w':=by
 rcases Cb h with ⟨rfl,rfl | rfl⟩ | ⟨s,rfl,rfl⟩ | ⟨l,a,cap,rfl,rfl,hr⟩ | ⟨l,a,cap,rfl,rfl,hr⟩ | ⟨d',mn,mx,u,rfl,rfl,hu⟩ | ⟨num,d',u,rfl,rfl,hu⟩ | ⟨num,rfl,rfl⟩ | ⟨rfl,rfl⟩ | ⟨rfl,rfl⟩
 ·rw [Kt]
  have hC:=IK e y w k;generalize YY e=R at hC ⊢;go_enter Tryz.func36,Tryz.ntmps36;go_wp2_with (go_at_call 51;refine hC.mono ?_;rintro r w2 ⟨rfl,b2⟩)
  go_ret;exact ⟨rfl,b2⟩
 ·rw [Kt]
  have hC:=IK e y w k;generalize YY e=R at hC ⊢;go_enter Tryz.func36,Tryz.ntmps36;go_wp2_with (go_at_call 51;refine hC.mono ?_;rintro r w2 ⟨rfl,b2⟩)
  go_ret;exact ⟨rfl,b2⟩
 ·rw [WA]
  have hB:=(Adk w.heap.size w).alloc (Adf _) (.cells #[.int .u64 (ow s 0),.int .u64 (ow s 1),.int .u64 (ow s 2),.int .u64 (ow s 3)] 111);have hC:=TF e y s _ (k.below hB);generalize Qs e s=R at hC ⊢;go_enter Tryz.func36,Tryz.ntmps36;go_wp2_with (go_at_call 52;refine hC.mono ?_;rintro r w2 ⟨rfl,b2⟩)
  go_ret;exact ⟨rfl,hB.trans (b2.mono hB.size)⟩
 ·rw [WB]
  obtain ⟨a2,n2,c2,hTA⟩:=Qt k;generalize Abm e=R at hTA ⊢;go_enter Tryz.func36,Tryz.ntmps36;go_wp2_with fail
  go_ret;refine ⟨rfl,?_⟩
  repeat (first | (with_reducible exact hW) | (with_reducible exact Adk _ _) | refine Below.drew ?_ | refine Below.setCell ?_ (by first | omega | (simp;omega) | simp) _ | refine Below.alloc ?_ (by first | omega | (simp;omega) | simp) _)
 ·rw [WC]
  have hB:=(Adk w.heap.size w).alloc (Adf _) (.cells #[.slice a l.length cap] 99);have hC:=Sx e y _ (k.below hB);generalize (!inAlt e)=R at hC ⊢;go_enter Tryz.func36,Tryz.ntmps36;go_wp2_with (go_at_call 53;refine hC.mono ?_;rintro r w2 ⟨rfl,b2⟩)
  go_ret;exact ⟨rfl,hB.trans (b2.mono hB.size)⟩
 ·obtain ⟨u2,p,q,hu2,hTA,hpq⟩:=Qu k
  rw [WE d' mn mx e p q hpq];have hu1:(∃ T q,u=.iface T q)∨u=.nilIface:=hu.elim fun _ h=>Av h
  generalize Abn e=R at hTA ⊢;clear hpq k h hu;rcases hu1 with ⟨T,q1,rfl⟩ | rfl
  all_goals
   rcases hu2 with ⟨T2,q2,rfl⟩ | rfl
   all_goals
    cases R
    ·go_enter Tryz.func36,Tryz.ntmps36
     go_wp2_with fail
     go_ret;refine ⟨rfl,?_⟩
     repeat (first | (with_reducible exact hW) | (with_reducible exact Adk _ _) | refine Below.drew ?_ | refine Below.setCell ?_ (by first | omega | (simp;omega) | simp) _ | refine Below.alloc ?_ (by first | omega | (simp;omega) | simp) _)
    ·cases hE:mn == p
     ·go_enter Tryz.func36,Tryz.ntmps36
      go_wp2_with fail
      go_ret;refine ⟨rfl,?_⟩
      repeat (first | (with_reducible exact hW) | (with_reducible exact Adk _ _) | refine Below.drew ?_ | refine Below.setCell ?_ (by first | omega | (simp;omega) | simp) _ | refine Below.alloc ?_ (by first | omega | (simp;omega) | simp) _)
     ·go_enter Tryz.func36,Tryz.ntmps36
      go_wp2_with fail
      go_ret;refine ⟨rfl,?_⟩
      repeat (first | (with_reducible exact hW) | (with_reducible exact Adk _ _) | refine Below.drew ?_ | refine Below.setCell ?_ (by first | omega | (simp;omega) | simp) _ | refine Below.alloc ?_ (by first | omega | (simp;omega) | simp) _)
 ·obtain ⟨p,u2,hu2,hTA,hpq⟩:=Ib k
  rw [Qx d' num e p hpq];have hu1:(∃ T q,u=.iface T q)∨u=.nilIface:=hu.elim fun _ h=>Av h
  generalize IP e=R at hTA ⊢;clear hpq k h hu;rcases hu1 with ⟨T,q1,rfl⟩ | rfl
  all_goals
   rcases hu2 with ⟨T2,q2,rfl⟩ | rfl
   all_goals
    cases R
    all_goals
     go_enter Tryz.func36,Tryz.ntmps36;go_wp2_with fail
     go_ret;refine ⟨rfl,?_⟩
     repeat (first | (with_reducible exact hW) | (with_reducible exact Adk _ _) | refine Below.drew ?_ | refine Below.setCell ?_ (by first | omega | (simp;omega) | simp) _ | refine Below.alloc ?_ (by first | omega | (simp;omega) | simp) _)
 ·obtain ⟨p,hTA,hpq⟩:=MN k
  rw [TG num e p hpq];generalize ZF e=R at hTA ⊢;clear hpq k h;cases R
  all_goals
   go_enter Tryz.func36,Tryz.ntmps36;go_wp2_with fail
   go_ret;refine ⟨rfl,?_⟩
   repeat (first | (with_reducible exact hW) | (with_reducible exact Adk _ _) | refine Below.drew ?_ | refine Below.setCell ?_ (by first | omega | (simp;omega) | simp) _ | refine Below.alloc ?_ (by first | omega | (simp;omega) | simp) _)
 ·have hTA:=MO k
  rw [Qw];generalize Abo e=R at hTA ⊢;go_enter Tryz.func36,Tryz.ntmps36;go_wp2_with fail
  go_ret;refine ⟨rfl,?_⟩
  repeat (first | (with_reducible exact hW) | (with_reducible exact Adk _ _) | refine Below.drew ?_ | refine Below.setCell ?_ (by first | omega | (simp;omega) | simp) _ | refine Below.alloc ?_ (by first | omega | (simp;omega) | simp) _)
 ·have hTA:=Qv k
  rw [WD];generalize Abp e=R at hTA ⊢;go_enter Tryz.func36,Tryz.ntmps36;go_wp2_with fail
  go_ret;refine ⟨rfl,?_⟩
  repeat (first | (with_reducible exact hW) | (with_reducible exact Adk _ _) | refine Below.drew ?_ | refine Below.setCell ?_ (by first | omega | (simp;omega) | simp) _ | refine Below.alloc ?_ (by first | omega | (simp;omega) | simp) _)
end
end Go.Proofs.YteilldmmihiijaaGreatDoor
