/- Texts. -/
import Derived.Test.YteilldmmihiijaaGreatDoorTw09
import Derived.RangeFuncBound
import Derived.RangeFuncCalls
import Derived.Shelf.Abstract
import Derived.Shelf.RegionOpen
import Derived.OwnWalkIn
import Derived.TacticsInMore
import Derived.LoopNIn
import Derived.LoopIn
import Derived.Sort.LoopGhostIn
import Derived.Sort.CutIn
import Derived.Maps.OwnIn
import Derived.ProofKit
import Derived.OpenShut
import Derived.Lib.LaidTab
import Derived.Deep.RegionWith
set_option linter.unusedSimpArgs false
set_option linter.unusedVariables false
set_option maxHeartbeats 8000000
set_option maxRecDepth 1000000
namespace Go.Proofs.YteilldmmihiijaaGreatDoor
open Go.Lib renaming hid→Ad5
open List renaming setIfInBounds_toArray→Ad6,length_append→Aee
open Nat renaming le_refl→Aec,le_trans→Aed,lt_of_lt_of_le→Aef
open Go.RowKit.Below renaming refl→Aeh,heap_setCell→Aei
open Go.IntWalk renaming i64_in→Aej
open Go.World renaming cell?_of_block→Aek
section
open Go Go.RowKit
def PtA (W:World) (R:List Cp × Nat) (e:Ending) (W':World):Prop:=Below W.heap.size W W'∧∃ pa pc,e=.returned (.tuple #[.slice pa R.1.length pc,.int .i64 (R.2:Int)])∧W'.ownsRow W.heap.size 74 2 (.slice pa R.1.length pc) R.1.length (cpC R.1)
theorem Sf {W W':World} (hb:Below W.heap.size W W') (k:Nat):PtA W ([],k) (.returned (.tuple #[.slice none 0 0,.int .i64 (k:Int)])) W':=⟨hb,none,0,rfl,World.ownsRow_nil _ _ _ _⟩
theorem LJ (ps:List Cp) (t:List UInt8):(DF ps t).length≤ps.length+1:=by
 unfold DF;split
 ·omega
 ·simp
theorem QN (s:ByteArray) (n:Nat) (W:World) (hs:s.size≤4000) :
  Calls Tryz.prog 89 #[.string s,.int .i64 (n:Int)] W (PtA W (Cg n s.data.toList false [] [])):=by
 obtain ⟨R,hR⟩:∃ R,Cg n s.data.toList false [] []=R:=⟨_,rfl⟩;rw [hR];have HR:=Ad5 hR;clear hR;obtain ⟨W0,hW0⟩:∃ W0,W.alloc (.cells #[.slice none 0 0,.pointer none,.slice none 0 0] 188)=W0:=⟨_,rfl⟩;have hq0:=Ae hW0;have hb0:=Ac hW0;have hM0:MkS W.heap.size W.heap.size [] [] (.slice none 0 0) (.pointer none) (.slice none 0 0) W0:=⟨hq0,Aec _,.inl rfl,World.ownsRow_nil _ _ _ _,World.ownsRowF_nil _ _ _ _⟩
 have HB0:=Ad5 hb0;have HM0:=Ad5 hM0;clear hq0 hb0 hM0;go_enter Tryz.func89,Tryz.ntmps89;go_wp2_with fail
 go_loopw [7,13] (fun e i wr=>∃ (j:Nat) (esc:Bool) (ps:List Cp) (t:List UInt8) (pv av bv:Value),j≤s.size∧e=.bool esc∧i=.int .i64 j∧MkS W.heap.size W.heap.size ps t pv av bv wr∧Below W.heap.size W wr∧Cg n (s.data.toList.drop j) esc ps t=R∧t.length≤j∧ps.length≤2 * j) (fun _ i _=>s.size - (intOf i).toNat)
 case atStart=>exact ⟨0,false,[],[],_,_,_,by omega,rfl,rfl,HM0.out,HB0.out,HR.out,by simp,by simp⟩
 case round=>
  obtain ⟨j,esc,ps,t,pv,av,bv,hj,rfl,rfl,hm,hbw,hc,htl,hpl⟩:=hrel;have HM:=Ad5 hm;have HB:=Ad5 hbw;have hBs:W.heap.size≤wr.heap.size:=hbw.size;clear hm hbw;by_cases hlt:j < s.size
  ·have hji:(j:Int) < (s.size:Int):=by omega
   have hy0:(0:Int)≤(j:Int):=by omega
   rw [Bi s j hlt] at hc;obtain ⟨b,hb⟩:∃ b,s[j]=b:=⟨_,rfl⟩;have hsx:s[j]'hlt=b:=hb;rw [hb] at hc;clear hb;have Wj:IntKind.i64.wrap ((j:Int)+1)=(j:Int)+1:=Aej _ (by omega);cases esc with
   | false=>
    by_cases h92:b=92
    ·have q92:((b.toNat:Int) == 92)=true:=by rw [h92];rfl
     have HC:=Ad5 (show Cg n (s.data.toList.drop (j+1)) true ps t=R by rw [←hc,h92];simp [Cg]);clear h92 hc;go_wp2_with fail
     go_roundw
     case rel=>exact ⟨j+1,true,ps,t,pv,av,bv,by omega,rfl,by go_num,HM.out,HB.out,HC.out,by omega,by omega⟩
     case measure=>simp [intOf];omega
    ·have q92:((b.toNat:Int) == 92)=false:=An (c:=92) h92;by_cases h38:b=38
     ·have q38:((b.toNat:Int) == 38)=true:=by rw [h38];rfl
      have HC:=Ad5 (show Cg n (s.data.toList.drop (j+1)) false (DF ps t++[(0,[])]) []=R by rw [←hc,h38];simp [Cg]);clear h92 h38 hc;have hAg:=LI 0 HM.out (by omega) (by omega) hBs;go_wp2_with (first | (go_at_call 92;refine (AT _ _).mono ?_;rintro e w5 ⟨rfl,hw5⟩;have hw5':=hw5.symm;subst hw5') | (go_at_call 107;with_reducible refine hAg.mono ?_;clear hAg;rintro e w6 ⟨rfl,⟨pv6,av6,bv6,h6⟩,b6⟩));go_roundw;(case rel=>exact ⟨j+1,false,DF ps t++[(0,[])],[],pv6,av6,bv6,by omega,rfl,by go_num,h6,HB.out.trans b6,HC.out,by simp,by have:=LJ ps t;simp;omega⟩);(case measure=>simp [intOf];omega)
     ·have q38:((b.toNat:Int) == 38)=false:=An (c:=38) h38;have HC:=Ad5 (show Cg n (s.data.toList.drop (j+1)) false ps (t++[b])=R by rw [←hc];simp [Cg,h92,h38]);clear h92 h38 hc;have hWb:=GH b HM.out (by omega) hBs;go_wp2_with (first | (go_at_call 92;refine (AT _ _).mono ?_;rintro e w5 ⟨rfl,hw5⟩;have hw5':=hw5.symm;subst hw5') | (go_at_call 87;with_reducible refine hWb.mono ?_;clear hWb;rintro e w6 ⟨rfl,⟨bv6,h6⟩,b6⟩));go_roundw;(case rel=>exact ⟨j+1,false,ps,t++[b],pv,_,bv6,by omega,rfl,by go_num,h6,HB.out.trans b6,HC.out,by simp;omega,by omega⟩);(case measure=>simp [intOf];omega)
   | true=>
    by_cases hd:A4.contains b=true
    ·have hd2:=hd;rw [DH] at hd2;simp only [Bool.and_eq_true,decide_eq_true_eq] at hd2;obtain ⟨m,hmb⟩:∃ m,b.toNat - 48=m:=⟨_,rfl⟩;have Wm:IntKind.u8.wrap ((b.toNat:Int) - 48)=(m:Int):=by
      rw [show ((b.toNat:Int) - 48)=(m:Int) by omega];simp [IntKind.wrap,IntKind.bits,IntKind.signed];omega
     have Wi:IntKind.i64.wrap (m:Int)=(m:Int):=Aej _ (by omega);have hdc:A4.contains b=true:=hd;by_cases hnm:n < m
     ·have hni:(n:Int) < (m:Int):=by omega
      have HC:=Ad5 (show R=([],9) by rw [←hc];unfold Cg;rw [if_pos hd,hmb,if_pos hnm]);clear hd hc hd2;go_wp2_with (go_at_call 92;refine (AT _ _).mono ?_;rintro e w5 ⟨rfl,hw5⟩;have hw5':=hw5.symm;subst hw5';rw [hdc])
      go_ret2
      rw [HC.out];exact Sf HB.out 9
     ·have hni:¬ (n:Int) < (m:Int):=by omega
      have HC:=Ad5 (show Cg n (s.data.toList.drop (j+1)) false (DF ps t++[((m:Int),[])]) []=R by rw [←hc];conv=>rhs;unfold Cg;rw [if_pos hd,hmb,if_neg hnm]);clear hd hc hd2;have hAg:=LI (m:Int) HM.out (by omega) (by omega) hBs;go_wp2_with (first | (go_at_call 92;refine (AT _ _).mono ?_;rintro e w5 ⟨rfl,hw5⟩;have hw5':=hw5.symm;subst hw5';rw [hdc]) | (go_at_call 107;go_loud (refine hAg.mono ?_;clear hAg;rintro e w6 ⟨rfl,⟨pv6,av6,bv6,h6⟩,b6⟩)));go_roundw;(case rel=>exact ⟨j+1,false,DF ps t++[((m:Int),[])],[],pv6,av6,bv6,by omega,rfl,by go_num,h6,HB.out.trans b6,HC.out,by simp,by have:=LJ ps t;simp;omega⟩);(case measure=>simp [intOf];omega)
    ·have hdc:A4.contains b=false:=by simpa using hd
     by_cases h110:b=110
     ·have q110:((b.toNat:Int) == 110)=true:=by rw [h110];rfl
      have HC:=Ad5 (show Cg n (s.data.toList.drop (j+1)) false ps (t++[10])=R by rw [←hc,h110];simp [Cg,A4]);clear hd hc h110;have hWb:=GH 10 HM.out (by omega) hBs;rw [show (((10:UInt8).toNat:Nat):Int)=10 from rfl] at hWb;go_wp2_with (first | (go_at_call 92;refine (AT _ _).mono ?_;rintro e w5 ⟨rfl,hw5⟩;have hw5':=hw5.symm;subst hw5';rw [hdc]) | (go_at_call 87;with_reducible refine hWb.mono ?_;clear hWb;rintro e w6 ⟨rfl,⟨bv6,h6⟩,b6⟩));go_roundw;(case rel=>exact ⟨j+1,false,ps,t++[10],pv,_,bv6,by omega,rfl,by go_num,h6,HB.out.trans b6,HC.out,by simp;omega,by omega⟩);(case measure=>simp [intOf];omega)
     ·have q110:((b.toNat:Int) == 110)=false:=An (c:=110) h110;have HC:=Ad5 (show Cg n (s.data.toList.drop (j+1)) false ps (t++[b])=R by rw [←hc];conv=>rhs;unfold Cg;rw [if_neg hd,if_neg h110]);clear hd hc h110;have hWb:=GH b HM.out (by omega) hBs;go_wp2_with (first | (go_at_call 92;refine (AT _ _).mono ?_;rintro e w5 ⟨rfl,hw5⟩;have hw5':=hw5.symm;subst hw5';rw [hdc]) | (go_at_call 87;with_reducible refine hWb.mono ?_;clear hWb;rintro e w6 ⟨rfl,⟨bv6,h6⟩,b6⟩));go_roundw;(case rel=>exact ⟨j+1,false,ps,t++[b],pv,_,bv6,by omega,rfl,by go_num,h6,HB.out.trans b6,HC.out,by simp;omega,by omega⟩);(case measure=>simp [intOf];omega)
  ·obtain rfl:j=s.size:=by omega
   rw [Bn s s.size (Aec _)] at hc;cases esc with
   | true=>
    have HC:=Ad5 (show R=([],11) by rw [←hc];rfl);clear hc;go_wp2_with fail
    go_ret2
    rw [HC.out];exact Sf HB.out 11
   | false=>
    have HC:=Ad5 (show R=(DF ps t,0) by rw [←hc];rfl);have hE:=LH HM.out (by omega) (by omega) hBs;clear hc;go_wp2_with (go_at_call 108;with_reducible refine hE.mono ?_;clear hE;rintro e w6 ⟨rfl,⟨pv6,av6,bv6,h6⟩,b6⟩;have H6:=Ad5 h6;have c0:w6.cell? ⟨W.heap.size,0,none⟩=some pv6:=(h6.q.cell 0).trans rfl;clear h6)
    go_ret2
    rw [HC.out];obtain ⟨a6,c6,rfl⟩:=A6 H6.out.pr;exact ⟨HB.out.trans b6,a6,c6,rfl,H6.out.pr⟩
attribute [local go_sem] Oper.semAt_some
theorem IY {m m':Nat} {P:Program} {l:Nat} {f:FuncId} {tmps:Array Value} {assign body:Code} {w:World} {R:Ending→World→Prop}
  (h:RoundIn Fence.wide m P l f tmps assign body w R):RoundIn Fence.wide m' P l f tmps assign body w R:=⟨h.1,fun c cs _=>h.2 c cs (room_wide _)⟩
theorem DD {m:Nat} (m':Nat) {P:Program} {l:Nat} {args:Array Value} {W:World} {R:Ending→World→Prop} (h:YieldAt Fence.wide m P l args W R):YieldAt Fence.wide m' P l args W R:=by
 obtain ⟨fn,tmps,assign,body,hy,hR⟩:=h;exact ⟨fn,tmps,assign,body,hy,IY hR⟩
theorem Um:∃ i,Tryz.prog.info? 220=some i∧i.zero=some (.agg #[.nilIface,.slice none 0 0])∧i.size=2∧i.bytes=40:=by
 have h:(Tryz.prog.info? 220).map (fun i=>(i.zero,i.size,i.bytes))=some (some (.agg #[.nilIface,.slice none 0 0]),2,40):=by kernel_rfl
 obtain ⟨i,hi,he⟩:=Option.map_eq_some_iff.1 h;injection he with h1 h2;injection h2 with h2 h3;exact ⟨i,hi,h1,h2,h3⟩
def Xc (n₀:Nat) (root:Nd) (pre:List (Nd × Bool)) (x:Nd × Bool) (args:Array Value) (C:Nat→Prop) (base:Nat) (W:World):Prop:=
 ∃ v,args=#[v,.bool x.2]∧(∃ suf,pre++x :: suf=Fx root)∧NdX (fun k=>k < n₀∨(base≤k∧¬ C k)) W x.1 v
theorem LK (n l base n₀ S Y:Nat) (root:Nd) (hsz:Aw root≤4000000) (J:List (Nd × Bool)→(Nat→Prop)→World→Prop) (Jx:World→Prop)
  (hJ:∀ pre C X Y,J pre C X→Other base C X Y→J pre C Y)
  (hR:∀ pre x args C X,J pre C X→Xc n₀ root pre x args C base X→YieldAt Fence.wide 0 Tryz.prog l args X fun e Y=>
   (e=.returned (.bool true)∧∃ C',J (pre++[x]) C' Y∧Rdn n₀ base C C' X Y)∨(e=.returned (.bool false)∧Jx Y∧Rdn n₀ base C C X Y))
  (pre:List (Nd × Bool)) (C:Nat→Prop) (W:World) (s:List (Nd × List Nd)) (sv:Value) (us:List Value) (d:Nd) (v:Value)
  (hS:Stk n₀ base S Y l C W s sv us) (h0:J pre C W) (hd:NdX (Lies n₀ base C S sv) W d v) (hp:pre++(Fx d++IZ s)=Fx root) (hC:∀ k,C k→k < W.heap.size) :
  CallsIn Fence.wide n Tryz.prog 125 #[v,.pointer (some ⟨S,0,none⟩),.pointer (some ⟨Y,0,none⟩)] W fun e Z=>
   ∃ b,e=.returned (.bool b)∧(b=true→∃ C' sv' us',J (pre++[(d,true)]) C' Z∧Stk n₀ base S Y l C' Z (s++[(d,Ck d)]) sv' us'∧∀ k,C' k→k < Z.heap.size)∧(b=false→Jx Z):=by
 obtain ⟨i0,hi,hz0,hz1,hz2⟩:=Um;have hlen:s.length+2≤8000000:=by
  have h1:=Fa root;have h2:=Rr s;have h3:=congrArg List.length hp;have h4:2≤(Fx d).length:=by rw [EG];simp
  simp at h3;omega
 have hI:=fun (w':World) (hb:Below W.heap.size W w')=>Iu (F:=Lies n₀ base C S sv) d v w' (hd.below hb)
 have hdep:∀ k:Nat,(Fence.wide.depth.isSome=true→1≤k):=fun k h=>by simp [Fence.wide] at h
 have hbs:base≤W.heap.size:=by have:=hS.bS;have:=hS.lS;omega
 have hsh:(∃ T q,v=.iface T q)∨v=.nilIface:=hd.elim fun _ h=>Ax h
 have hv1:v.oneCell'=true:=by rcases hsh with ⟨_,_,rfl⟩ | rfl <;> rfl
 have hm1:s.length+1≤maxLen:=by unfold maxLen;omega
 have hm2:(s.length+1) * 40≤140737488355328:=by omega
 have hone:∀ (a2:Option Addr) (k cap2:Nat),∀ y∈[v,.slice a2 k cap2],y.oneCell'=true:=by
  intro a2 k cap2 y hy;simp at hy;rcases hy with rfl | rfl
  ·exact hv1
  ·rfl
 have hPush:∀ (w2 w3:World) (a2:Option Addr) (cap2:Nat) (v':Value),Below W.heap.size W w2→AW (fun b=>Lies n₀ base C S sv b∨W.heap.size≤b) w2 (Ck d) a2 cap2→
   w3.ownsRow base 220 2 v' (s.length+1) (us++[v,.slice a2 (Ck d).length cap2])→(w2.alloc (.cells #[v,.slice a2 (Ck d).length cap2] 220)).grownBy w3 sv.ownBlock→(v'.ownBlock=sv.ownBlock∨v'.ownBlock=some (w2.alloc (.cells #[v,.slice a2 (Ck d).length cap2] 220)).heap.size)→
   Boxed w3 S 218 sv∧Stk n₀ base S Y l C (w3.setCell ⟨S,0,none⟩ v') (s++[(d,Ck d)]) v' (us++[v,.slice a2 (Ck d).length cap2])∧Other base C W (w3.setCell ⟨S,0,none⟩ v')∧NdX (Lies n₀ base C S v') (w3.setCell ⟨S,0,none⟩ v') d v:=by
  intro w2 w3 a2 cap2 v' hb2 hr2 hown' hgrow hat;exact hS.push (hb2.trans ((Aeh _ w2).alloc hb2.size (.cells #[v,.slice a2 (Ck d).length cap2] 220))) hd (hr2.below ((Aeh _ w2).alloc (Aec _) _)) hC hown' hgrow hat
 have hc:=hS.box.cell;have hf:=hS.box.frozen;have hmix:Tryz.prog.follows .mixedOrders=true:=by kernel_rfl
 rcases hsh with ⟨T,q,rfl⟩ | rfl
 all_goals
  refine callsIn_of_wp Tryz.func125 rfl trivial ?_ rfl;simp only [Tryz.ntmps125,List.size_toArray,List.length_cons,List.length_nil,Nat.reduceAdd,Nat.reduceSub,Array.replicate_succ,Array.replicate_zero,List.push_toArray,List.append_toArray,List.nil_append,List.cons_append]
  gi_upto_region 1 with fail
  gi_cut [] from 5 (fun wx=>∃ sv' us',J pre C wx∧Stk n₀ base S Y l C wx (s++[(d,Ck d)]) sv' us'∧Other base C W wx∧NdX (Lies n₀ base C S sv') wx d _)
  case first=>
   refine wpIn_wide.2 ?_
   go_region_law (first
    | (refine Bs rfl _ _ _ rfl 35 _ rfl (by rfl) (enters_of Tryz.func35 (by kernel_rfl) rfl) (hI _ (by first | exact Aeh _ _ | exact Below.drew (Aeh _ _))) ?_;rintro e w2 ⟨a2,cap2,rfl,hr2,hb2'⟩;refine ⟨_,rfl,?_⟩;have hb2:Below W.heap.size W w2:=(by first | exact hb2' | exact (Below.drew (Aeh _ _)).trans hb2');clear hb2';have hS2:=hS.below hb2;have hc2:=hS2.box.cell;have hcA:=fun o=>(hS2.box.alloc o).cell;have hf2:=hS2.box.frozen)
    | (refine step_append_lies _ rfl _ _ 218 rfl base 220 i0 (.agg #[.nilIface,.slice none 0 0]) 2 40 Tryz.underlying218 hi hz0 hz1 hz2 rfl (by decide) sv s.length us rfl (hS2.row.alloc _) ⟨w2.heap.size,0,none⟩ 1 1 [_,.slice a2 (Ck d).length cap2] rfl rfl (cell_two_new _ _ _ _) (hone _ _ _) (by decide) hm1 hm2 (by simp;have:=hb2.size;omega) _ rfl ?_;intro g' cap' w3 hown' hgrow hat _;obtain ⟨hS3,hS4,hO4,hd4⟩:=hPush w2 w3 a2 cap2 _ hb2 hr2 hown' hgrow (hat.elim (fun h=>.inl h.symm) (fun h=>.inr (by rw [h];rfl)));have hc3:=hS3.cell;have hf3:=hS3.frozen))
   all_goals go_wp2_with fail
   all_goals gi_meet
   all_goals exact ⟨_,_,hJ _ _ _ _ h0 hO4,hS4,hO4,hd4⟩
  case rest=>
   obtain ⟨sv',us',hJ1,hS1,hO1,hd1⟩:=hcut;have hC1:∀ k,C k→k < wc.heap.size:=fun k hk=>Aef (hC k hk) hO1.size
   have hcC:=hS1.cC;have hy1:=hS1.yld.cell;have hf1:=hS1.yld.frozen;obtain ⟨fn,tmps,assign,body,hy,hR⟩:=DD (n - 1) (hR pre (d,true) #[_,.bool true] C wc hJ1 ⟨_,rfl,⟨Fy (Ck d)++((d,false) :: IZ s),by rw [←hp,EG];simp⟩,NX hd1⟩)
   gi_wp2
   refine ⟨hdep _,hR.mono ?_⟩;rintro e Z (⟨rfl,C',hJ2,hr⟩ | ⟨rfl,hx,_⟩)
   ·gi_wp2
    go_ret;have hcC':∀ k,C' k→base≤k:=fun k hk=>(hr.new k hk).elim (hcC k) (fun h=>by have:=hO1.size;omega)
    exact ⟨true,rfl,fun _=>⟨C',sv',us',hJ2,hS1.round hr hcC',fun k hk=>(hr.new k hk).elim (fun h=>Aef (hC1 k h) hr.size) (fun h=>h.2)⟩,fun h=>absurd h (by decide)⟩
   ·gi_wp2
    go_ret;exact ⟨false,rfl,fun h=>absurd h (by decide),fun _=>hx⟩
theorem Xd (n l base n₀ R:Nat) (root:Nd) (hsz:Aw root≤4000000) (J:List (Nd × Bool)→(Nat→Prop)→World→Prop) (Jx:World→Prop)
  (hJ:∀ pre C X Y,J pre C X→Other base C X Y→J pre C Y) (hJx:∀ X Y,Jx X→Other base (fun _=>False) X Y→Jx Y)
  (hR:∀ pre x args C X,J pre C X→Xc n₀ root pre x args C base X→YieldAt Fence.wide 0 Tryz.prog l args X fun e Y=>
   (e=.returned (.bool true)∧∃ C',J (pre++[x]) C' Y∧Rdn n₀ base C C' X Y)∨(e=.returned (.bool false)∧Jx Y∧Rdn n₀ base C C X Y))
  (W:World) (v:Value) (hb:base=W.heap.size) (hn:n₀≤base) (h0:J [] (fun _=>False) W) (hv:NdX (fun k=>k < n₀) W root v) (hc:W.cell? ⟨R,0,none⟩=some v) :
  CallsIn Fence.wide n Tryz.prog 124 #[.func (.yield l) #[] #[],.pointer (some ⟨R,0,none⟩)] W fun e Z=>(∃ v,e=.returned v)∧((∃ C,J (Fx root) C Z)∨Jx Z):=by
 have hdep:∀ k:Nat,(Fence.wide.depth.isSome=true→1≤k):=fun k h=>by simp [Fence.wide] at h
 refine callsIn_of_wp Tryz.func124 rfl trivial ?_ rfl;simp only [Tryz.ntmps124,List.size_toArray,List.length_cons,List.length_nil,Nat.reduceAdd,Nat.reduceSub,Array.replicate_succ,Array.replicate_zero,List.push_toArray,List.append_toArray,List.nil_append,List.cons_append];obtain ⟨W0,hW0⟩:∃ W0,(W.alloc (.cells #[.func (.yield l) #[] #[]] 217)).alloc (.cells #[.slice none 0 0] 218)=W0:=⟨_,rfl⟩;have hB0:Below W.heap.size W W0:=by rw [←hW0];exact ((Aeh _ W).alloc (Aec _) _).alloc (by simp) _
 have hRlt:R < W.heap.size:=World.block_lt_of_cell? W _ hc;have hcR:W0.cell? ⟨R,0,none⟩=some v:=(hB0.cell (p:=⟨R,0,none⟩) hRlt).trans hc;have hS0:Stk n₀ base (W.heap.size+1) W.heap.size l (fun _=>False) W0 [] (.slice none 0 0) []:=by
  have hY:=Boxed.new W 217 (.func (.yield l) #[] #[]);have hS:=Boxed.new (W.alloc (.cells #[.func (.yield l) #[] #[]] 217)) 218 (.slice none 0 0);rw [World.size_alloc,hW0] at hS;have hY2:=hY.alloc (.cells #[.slice none 0 0] 218);rw [hW0] at hY2;exact ⟨hS,hY2,by omega,by omega,hn,fun h=>h,fun h=>h,fun k h=>h.elim,World.ownsRow_nil _ _ _ _,fun g h=>by simp [Value.ownBlock] at h,rfl⟩
 have hJ0:J [] (fun _=>False) W0:=hJ _ _ _ _ h0 (Other.of_below hB0);have hbeg:=LK (n - 1) l base n₀ (W.heap.size+1) W.heap.size root hsz J Jx hJ hR [] (fun _=>False) W0 [] (.slice none 0 0) [] root v hS0 hJ0
  ((hv.below hB0).keep (Aec _) (fun b hb _=>⟨.inl hb,fun _=>rfl⟩)) (by simp [IZ]) (fun k h=>h.elim)
 gi_wp2_with (refine ⟨trivial,hdep _,?_⟩;gi_at_call 125;refine hbeg.mono ?_;clear hbeg;rintro e Z1 ⟨b1,rfl,hg1⟩)
 clear hS0 hJ0 hcR hB0 hc hv h0
 gi_loopg [5] (2 * Aw root) (fun k go wr=>∃ b,go=.bool b∧(b=true→∃ pre C s sv us,J pre C wr∧Stk n₀ base (W.heap.size+1) W.heap.size l C wr s sv us∧pre++IZ s=Fx root∧(∀ k,C k→k < wr.heap.size)∧(IZ s).length+1≤k)∧(b=false→Jx wr))
 case atStart=>
  refine ⟨b1,rfl,fun h=>?_,hg1.2⟩;obtain ⟨C1,sv1,us1,hJ1,hS1,hC1⟩:=hg1.1 h;have hr:Fx root=(root,true) :: IZ [(root,Ck root)]:=by rw [EG];simp [IZ]
  refine ⟨_,C1,_,sv1,us1,hJ1,hS1,by rw [hr];rfl,hC1,?_⟩;have:=Fa root;rw [hr] at this;simp at this;simp;omega
 case round=>
  obtain ⟨b,rfl,ht,hf⟩:=hrel;cases b with
  | false=>
   have hx:=hf rfl;clear ht hf
   gi_wp2
   go_end0;exact ⟨⟨_,rfl⟩,.inr hx⟩
  | true=>
   obtain ⟨pre,C,s,sv,us,hJ1,hS1,hp,hC,hk⟩:=ht rfl;clear ht hf hg1;rcases List.eq_nil_or_concat s with rfl | ⟨s,⟨d,r⟩,rfl⟩
   ·obtain ⟨a,c,rfl⟩:∃ a c,sv=.slice a 0 c:=by
     rcases hS1.row.2 with ⟨e,_⟩ | ⟨g,cap,cur,e,_⟩
     ·exact ⟨_,_,e⟩
     ·exact ⟨_,_,e⟩
    have hc1:=hS1.box.cell
    gi_wp2
    go_end0;exact ⟨⟨_,rfl⟩,.inl ⟨C,by rw [←hp];simpa [IZ] using hJ1⟩⟩
   ·rw [List.concat_eq_append] at hS1 hp hk;have hlen:s.length+1≤8000000:=by
     have h1:=Fa root;have h2:=Rr (s++[(d,r)]);have h3:=congrArg List.length hp;simp at h2 h3;omega
    obtain ⟨g,cap,us',v2,a2,cap2,rfl,_,hul,q0,q1,qf,hd2,hr2⟩:=hS1.top;have hc1:=hS1.box.cell;have hf1:=hS1.box.frozen;have hbw:base≤wr.heap.size:=by have:=hS1.bS;have:=hS1.lS;omega
    have Wn:IntKind.i64.wrap ((s.length:Int)+1 - 1)=(s.length:Int):=by rw [Aej _ (by omega)];omega
    cases r with
    | nil=>
     have hp2:(pre++[(d,false)])++IZ s=Fx root:=by rw [←hp,CQ];simp [Fy]
     have hk2:(IZ s).length+1 < gk:=by rw [CQ] at hk;simp [Fy] at hk;omega
     obtain ⟨fn,tmps,assign,body,hy,hR2⟩:=DD (n - 1) (hR pre (d,false) #[v2,.bool false] C wr.drew (hJ _ _ _ _ hJ1 (Other.drew (Other.refl _ _ _))) ⟨_,rfl,⟨IZ s,by rw [←hp2];simp⟩,(NX hd2).drew⟩);have hyd:=hS1.yld.cell;have hR3:=hR2.mono (R':=fun e Z=>∃ b,e=.returned (.bool b)∧∃ C',(b=true→J (pre++[(d,false)]) C' Z)∧(b=false→Jx Z∧C'=C)∧Rdn n₀ base C C' wr.drew Z) (fun e Z h=>h.elim (fun ⟨he,C',h1,h2⟩=>⟨true,he,C',fun _=>h1,fun h=>absurd h (by decide),h2⟩) (fun ⟨he,h1,h2⟩=>⟨false,he,C,fun h=>absurd h (by decide),fun _=>⟨h1,rfl⟩,h2⟩));clear hR2 hd2 hr2;have hcC:=hS1.cC;have hmix:Tryz.prog.follows .mixedOrders=true:=by kernel_rfl
     gi_upto_region 10 with fail
     gi_cut [5] from 12 (fun x wx=>∃ b,x=.bool b∧∃ C',(b=true→J (pre++[(d,false)]) C' wx)∧(b=false→Jx wx)∧Stk n₀ base (W.heap.size+1) W.heap.size l C' wx (s++[(d,[])]) (.slice (some ⟨g,0,none⟩) (s.length+1) cap) us∧∀ k,C' k→k < wx.heap.size)
     case first=>
      gi_region_with_o (refine ⟨hdep _,hR3.mono ?_⟩;rintro e Z ⟨b,rfl,C',h1,h2,hr⟩)
      all_goals gi_wp2
      all_goals gi_meet
      all_goals exact ⟨b,rfl,C',h1,fun h=>(h2 h).1,(hS1.below (Below.drew (Aeh _ _))).round hr (fun k hk=>Or.elim (hr.new k hk) (hcC k) (fun h=>Aed hbw h.1)),fun k hk=>Or.elim (hr.new k hk) (fun h=>Aef (hC k h) hr.size) (fun h=>h.2)⟩
     case rest=>
      obtain ⟨b,rfl,C',h1,h2,hS3,hC3⟩:=hcut;obtain ⟨us3,hS4,hO4⟩:=hS3.pop;have hc3:=hS3.box.cell;have hf3:=hS3.box.frozen;have hcp:s.length+1≤cap:=by
       exact RQ hS3.row
      have hcp2:(s.length:Int)≤(cap:Int):=by omega
      have hcp3:¬ cap=0:=by omega
      gi_wp2
      gi_roundg ((IZ s).length+1)
      case measure=>exact hk2
      case rel=>exact ⟨b,rfl,fun h=>⟨_,C',s,_,us3,hJ _ _ _ _ (h1 h) hO4,hS4,hp2,fun k hk=>Aef (hC3 k hk) hO4.size,Aec _⟩,fun h=>hJx _ _ (h2 h) hO4.none⟩
    | cons c r'=>
     obtain ⟨b2,o2,u,rfl,hfb,hlt,hcap,hu,hdu,htl⟩:=hr2.tail;obtain ⟨a4,cap4,htl4,hcase⟩:∃ a4 cap4,AW (Lies n₀ base C (W.heap.size+1) (.slice (some ⟨g,0,none⟩) (s.length+1) cap)) wr r' a4 cap4∧((cap2=1∧a4=some ⟨b2,o2,none⟩∧cap4=0∧r'=[])∨(1 < cap2∧a4=some ⟨b2,o2+1,none⟩∧cap4=cap2 - 1)):=by
      rcases Nat.eq_or_lt_of_le hcap with h1 | h1
      ·have h2:=hr2.1;simp at h2;have h3:r'=[]:=List.eq_nil_of_length_eq_zero (by omega);subst h3;exact ⟨_,_,AW.nil _ _ _ _ (by decide),.inl ⟨h1.symm,rfl,rfl,rfl⟩⟩
      ·exact ⟨_,_,htl,.inr ⟨h1,rfl,rfl⟩⟩
     have hr2c:=hr2.1;simp at hr2c;clear htl hr2;obtain ⟨us2,hS2,hO2⟩:=hS1.shift htl4;have hp2:pre++(Fx c++IZ (s++[(d,r')]))=Fx root:=by rw [←hp,CQ,CQ];simp [Fy]
     have hk2:(IZ (s++[(d,r')])).length+(Fx c).length < gk:=by
      have h1:=congrArg List.length (EG c);rw [CQ] at hk;rw [CQ];simp [Fy] at hk h1 ⊢;omega
     have hl2:=congrArg List.length (EG c);simp at hl2;obtain ⟨mz,hmz⟩:∃ mz,mz=(IZ (s++[(d,r')])).length+(Fx c).length:=⟨_,rfl⟩;rw [←hmz] at hk2;have hrem:(IZ ((s++[(d,r')])++[(c,Ck c)])).length+1≤mz:=by rw [CQ];simp;omega
     clear hmz hl2;have hbeg:=LK (n - 1) l base n₀ (W.heap.size+1) W.heap.size root hsz J Jx hJ hR pre C _ _ _ us2 c u hS2 (hJ _ _ _ _ hJ1 hO2)
      (hdu.keep hO2.size (fun k hk hlt=>⟨hk,fun o=>Aek (w:=wr) (a:=⟨k,o,none⟩) (Aei _ _ _ _ (SW hS1 hk))⟩)) hp2 (fun k hk=>Aef (hC k hk) hO2.size)
     clear hS1 hS2 hdu htl4 hd2;rcases hcase with ⟨rfl,rfl,rfl,rfl⟩ | ⟨hc1,rfl,rfl⟩
     all_goals
      gi_wp2_with (refine ⟨trivial,hdep _,?_⟩;gi_at_call 125;refine hbeg.mono ?_;clear hbeg;rintro e Z ⟨b,rfl,h1,h2⟩)
      gi_roundg mz
      case measure=>exact hk2
      case rel=>
       refine ⟨b,rfl,fun h=>?_,h2⟩;obtain ⟨C',sv',us',g1,g2,g3⟩:=h1 h;exact ⟨_,C',_,sv',us',g1,g2,by rw [←hp2,EG,CQ,CQ];simp,g3,hrem⟩
theorem Xe (v:Value) (w:World) (hsh:(∃ T q,v=.iface T q)∨v=.nilIface):Calls Tryz.prog 109 #[v] w fun e w'=>e=.returned (.func (.func 124) #[] #[.pointer (some ⟨w.heap.size,0,none⟩)])∧w'=w.alloc (.cells #[v] 38):=by
 rcases hsh with ⟨T,q,rfl⟩ | rfl
 all_goals
  go_enter Tryz.func109,Tryz.ntmps109;go_wp2_with fail
  go_ret;exact ⟨rfl,rfl⟩
theorem QO (root:Nd) (hsz:Aw root≤4000000) (n₀ R:Nat) (v:Value) (w:World) (hn:n₀≤w.heap.size) (hc:w.cell? ⟨R,0,none⟩=some v) (hv:NdX (fun k=>k < n₀) w root v) :
  ZY Tryz.prog 124 #[.pointer (some ⟨R,0,none⟩)] n₀ (Xc n₀ root) (fun xs=>xs=Fx root) w:=by
 intro l m J Jx W hb hJ hJx hR h0;refine callsIn_wide.1 ((Xd 0 l W.heap.size n₀ R root hsz J Jx hJ hJx (fun pre x args C X h1 h2=>DD 0 (hR pre x args C X h1 h2)) W v rfl (Aed hn hb.size) h0 (hv.below hb) ((hb.cell (p:=⟨R,0,none⟩) (World.block_lt_of_cell? w _ hc)).trans hc)).mono ?_);rintro e Y ⟨h1,h2⟩;refine ⟨h1,h2.elim (fun ⟨C,h⟩=>.inl ⟨_,C,rfl,h⟩) .inr⟩
theorem Un {n₀:Nat} {root:Nd} {pre:List (Nd × Bool)} {x:Nd × Bool} {args:Array Value} {C:Nat→Prop} {base k:Nat} {W:World} {o:Obj} (h:Xc n₀ root pre x args C base W) (h1:n₀≤k) (h2:k < base):Xc n₀ root pre x args C base (W.putObj k o):=by
 obtain ⟨v,ha,hs,hv⟩:=h;refine ⟨v,ha,hs,hv.keep (by simp) (fun b hb _=>⟨hb,fun p=>Aek (w:=W) (a:=⟨b,p,none⟩) (World.putObj_heap_other ?_)⟩)⟩;show b≠k;rcases hb with hb | hb
 ·omega
 ·omega
attribute [local go_sem] Oper.semAt_some
def LL (p:Nd × Bool→Bool) (l:List (Nd × Bool)):Nat:=(l.filter p).length
theorem OI (p:Nd × Bool→Bool) (l:List (Nd × Bool)) (x:Nd × Bool):LL p (l++[x])=LL p l+(if p x then 1 else 0):=by
 unfold LL;rw [List.filter_append,Aee];cases h:p x <;> simp [h]
theorem Dx (p:Nd × Bool→Bool) (l m:List (Nd × Bool)):LL p (l++m)=LL p l+LL p m:=by
 unfold LL;rw [List.filter_append,Aee]
theorem Ih (p:Nd × Bool→Bool) (x:Nd × Bool) (l:List (Nd × Bool)):LL p (x :: l)=(if p x then 1 else 0)+LL p l:=by
 rw [show x :: l=[x]++l from rfl,Dx];unfold LL;cases h:p x <;> simp [h]
theorem Jp (p:Nd × Bool→Bool):LL p []=0:=rfl
theorem Acg (p:Nd × Bool→Bool) (l:List (Nd × Bool)):LL p l≤l.length:=List.length_filter_le _ _
def OY (x:Nd × Bool):Bool:=IW x.1 && x.2
theorem Z2 (l:List Nd) (b:Bool):OY (.cat l,b)=false:=rfl
theorem Z3 (l:List Nd) (b:Bool):OY (.alt l,b)=false:=rfl
theorem Z4 (d:Nd) (m n:Int) (b:Bool):OY (.rep d m n,b)=false:=rfl
theorem Uo (d:Nd) (n:Int) (b:Bool):OY (.group n d,b)=b:=Bool.true_and b
mutual
theorem Fr:∀ d:Nd,LL OY (Fx d)=Cu d
 | .cat l=>by have:=FU l;simp [Fx,Cu,Ih,Dx,Jp,Z2,this]
 | .alt l=>by have:=FU l;simp [Fx,Cu,Ih,Dx,Jp,Z3,this]
 | .rep d _ _=>by have:=Fr d;simp [Fx,Cu,Ih,Dx,Jp,Z4,this]
 | .group _ d=>by have:=Fr d;simp [Fx,Cu,Ih,Dx,Jp,Uo,this];omega
 | .empty=>rfl
 | .one _=>rfl
 | .back _=>rfl
 | .start=>rfl
 | .fin=>rfl
theorem FU:∀ l:List Nd,LL OY (Fy l)=F1 l
 | []=>rfl
 | d :: ds=>by have:=Fr d;have:=FU ds;simp [Fy,F1,Dx, *]
end
structure Ctr (w0:World) (B t:Nat) (d:Nd) (val:List (Nd × Bool)→Value) (pre:List (Nd × Bool)) (C:Nat→Prop) (W:World):Prop where
 nonc:∀ k,¬ C k
 box:Boxed W B t (val pre)
 below:Below w0.heap.size w0 W
 size:w0.heap.size≤B
theorem Ctr.other {w0:World} {B t D:Nat} {d:Nd} {val:List (Nd × Bool)→Value} {pre:List (Nd × Bool)} {C:Nat→Prop} {X Y:World} (h:Ctr w0 B t d val pre C X) (ho:Other D C X Y) (hB:B < D) (hD:w0.heap.size≤D):Ctr w0 B t d val pre C Y:=
 ⟨h.nonc,Boxed.same h.box (ho.block _ h.box.lt (.inl hB)),h.below.trans ⟨ho.os,ho.tape,ho.output,ho.size,fun k hk=>ho.block k (Aef hk h.below.size) (.inl (Aef hk hD))⟩,h.size⟩
theorem Ctr.skip {w0:World} {B t:Nat} {d:Nd} {val:List (Nd × Bool)→Value} {pre:List (Nd × Bool)} {x:Nd × Bool} {C:Nat→Prop} {X:World} (h:Ctr w0 B t d val pre C X) (hv:val (pre++[x])=val pre):Ctr w0 B t d val (pre++[x]) C X:=
 ⟨h.nonc,by rw [hv];exact h.box,h.below,h.size⟩
theorem Ctr.step {w0:World} {B t:Nat} {d:Nd} {val:List (Nd × Bool)→Value} {pre:List (Nd × Bool)} {x:Nd × Bool} {C:Nat→Prop} {X:World} {u:Value} (h:Ctr w0 B t d val pre C X) (hv:val (pre++[x])=u):Ctr w0 B t d val (pre++[x]) C (X.setCell ⟨B,0,none⟩ u):=
 ⟨h.nonc,by rw [hv];exact Boxed.set u h.box,h.below.setCell (p:=⟨B,0,none⟩) h.size u,h.size⟩
theorem Ctr.mem {w0:World} {B t:Nat} {d:Nd} {val:List (Nd × Bool)→Value} {pre:List (Nd × Bool)} {C:Nat→Prop} {X Y:World} (h:Ctr w0 B t d val pre C X) (hb:Below X.heap.size X Y):Ctr w0 B t d val pre C Y:=
 ⟨h.nonc,Boxed.same h.box (hb.block _ h.box.lt),h.below.trans (hb.mono h.below.size),h.size⟩
theorem Rdn.refl (n₀ B:Nat) (C:Nat→Prop) (W:World):Rdn n₀ B C C W W:=⟨Aec _,fun _ _ _=>rfl,fun _ h=>.inl h⟩
theorem Rdn.setCell (n₀ B:Nat) (C:Nat→Prop) (W:World) {p:Addr} {u:Value} (h1:n₀≤p.block) (h2:p.block < B):Rdn n₀ B C C W (W.setCell p u):=
 ⟨by simp [World.setCell],fun k _ hk=>Aei _ _ _ _ (fun e=>by subst e;rcases hk with h | h <;> omega),fun _ h=>.inl h⟩
theorem Rdn.below {n₀ B:Nat} {C:Nat→Prop} {W W':World} (h:Below W.heap.size W W'):Rdn n₀ B C C W W':=⟨h.size,fun k hk _=>h.block k hk,fun _ h=>.inl h⟩
theorem Rdn.trans {n₀ B:Nat} {C:Nat→Prop} {X Y Z:World} (h:Rdn n₀ B C C X Y) (k:Rdn n₀ B C C Y Z):Rdn n₀ B C C X Z:=
 ⟨Aed h.size k.size,fun i hi hc=>(k.block i (Aef hi h.size) hc).trans (h.block i hi hc),fun _ h=>.inl h⟩
theorem Up {w0 W:World} {D:Nat} {o':Obj} (hD:w0.heap.size≤D):Below w0.heap.size W (W.putObj D o'):=
 ⟨rfl,rfl,rfl,by simp,fun k hk=>World.putObj_heap_other (by omega)⟩
theorem Z6 {pre:List (Nd × Bool)} {x:Nd × Bool} {d:Nd} (h:∃ suf,pre++x :: suf=Fx d):pre.length+1≤2 * Aw d:=by
 obtain ⟨suf,h⟩:=h;have:=congrArg List.length h;rw [Fa] at this;simp at this;omega
theorem Ii {F:Nat→Prop} {w0:World} {d:Nd} {v:Value} (h:NdX F w0 d v):∃ (num:Int) (u:Value),((∃ T q,u=.iface T q)∨u=.nilIface)∧
  (∀ w,(Instr.typeAssert v 38 103 true).run Tryz.prog w=.ok (.tuple #[.agg #[.int .i64 num,u],.bool (IW d)]) w)∧∀ n d',d=.group n d'→num=n:=by
 obtain ⟨n,h⟩:=h;cases n with
 | zero=>exact h.elim
 | succ n=>
  cases d with
  | empty=>
   rcases h with rfl | rfl
   ·exact ⟨0,.nilIface,.inr rfl,JM _,fun _ _ h=>by cases h⟩
   ·exact ⟨0,.nilIface,.inr rfl,MI,fun _ _ h=>by cases h⟩
  | one s=>obtain rfl:=h;exact ⟨0,.nilIface,.inr rfl,Mz _,fun _ _ h=>by cases h⟩
  | cat l=>obtain ⟨a,cap,rfl,_⟩:=h;exact ⟨0,.nilIface,.inr rfl,M1 _,fun _ _ h=>by cases h⟩
  | alt l=>obtain ⟨a,cap,rfl,_⟩:=h;exact ⟨0,.nilIface,.inr rfl,M3 _,fun _ _ h=>by cases h⟩
  | rep d mn mx=>obtain ⟨u,rfl,_⟩:=h;exact ⟨0,.nilIface,.inr rfl,M7 _,fun _ _ h=>by cases h⟩
  | group num d=>obtain ⟨u,rfl,hu⟩:=h;exact ⟨num,u,Ax hu,JO _,fun _ _ h=>by cases h;rfl⟩
  | back num=>obtain rfl:=h;exact ⟨0,.nilIface,.inr rfl,KP _,fun _ _ h=>by cases h⟩
  | start=>obtain rfl:=h;exact ⟨0,.nilIface,.inr rfl,JQ _,fun _ _ h=>by cases h⟩
  | fin=>obtain rfl:=h;exact ⟨0,.nilIface,.inr rfl,MG _,fun _ _ h=>by cases h⟩
theorem OJ (d:Nd) (v:Value) (w:World) (h:NdX (fun k=>k < w.heap.size) w d v) (hsz:Aw d≤4000000) :
  Calls Tryz.prog 90 #[v] w fun e w'=>e=.returned (.int .i64 (Cu d:Int))∧Below w.heap.size w w':=by
 have hsh:(∃ T q,v=.iface T q)∨v=.nilIface:=h.elim fun _ h=>Ax h
 refine (callsIn_wide (n:=3)).1 ?_;refine callsIn_of_wp_marks Tryz.func90 rfl trivial ?_ rfl;simp only [Tryz.ntmps90,List.size_toArray,List.length_cons,List.length_nil,Nat.reduceAdd,Nat.reduceSub,Array.replicate_succ,Array.replicate_zero,List.push_toArray,List.append_toArray,List.nil_append,List.cons_append]
 gi_wp2_with (refine ⟨trivial,?_⟩;gi_at_call 109;refine (callsIn_wide.2 (Xe _ _ hsh)).mono ?_;rintro e w' ⟨rfl,rfl⟩)
 obtain ⟨V,hV⟩:∃ V,(w.alloc (.cells #[.int .i64 0] 3)).alloc (.cells #[v] 38)=V:=⟨_,rfl⟩;have hB:Below w.heap.size w V:=by rw [←hV];exact ((Aeh _ w).alloc (Aec _) _).alloc (by simp) _
 have hVs:V.heap.size=w.heap.size+2:=by rw [←hV];simp
 have hc:V.cell? ⟨w.heap.size+1,0,none⟩=some v:=by
  have h1:=(Boxed.new (w.alloc (.cells #[.int .i64 0] 3)) 38 v).cell;rw [World.size_alloc,hV] at h1;exact h1
 have hb0:Boxed V w.heap.size 3 (.int .i64 ((LL OY []:Nat):Int)):=by
  have h1:=(Boxed.new w 3 (.int .i64 0)).alloc (.cells #[v] 38);rw [hV] at h1;exact h1
 rw [hV];refine F6 (gf:=124) (lb:=#[.pointer (some ⟨w.heap.size+1,0,none⟩)]) rfl (enters_of Tryz.func124 (by kernel_rfl) rfl)
  (QO d hsz w.heap.size (w.heap.size+1) v V (by omega) hc (h.below hB)) (Aeh _ _) (by omega)
  (fun pre x args C b W hk=>by obtain ⟨_,rfl,_⟩:=hk;rfl)
  (fun pre x args C b W k o hk h1 h2=>Un hk h1 h2)
  (fun pre C W=>Ctr w w.heap.size 3 d (fun pre=>.int .i64 ((LL OY pre:Nat):Int)) pre C W) (fun _ _=>False)
  (fun pre C X Y hk ho=>hk.other ho (by omega) (by omega)) (fun _ _ _ hk _=>hk) ⟨fun _ h=>h,hb0,hB,Aec _⟩ ?round ?done ?stop
 case round=>
  rintro l pre ⟨d',b⟩ args C W hI hOk hC hlt;obtain ⟨v',rfl,hsuf,hv'⟩:=hOk;obtain ⟨num,u,hu,hTA,_⟩:=Ii hv'
  gi_wp2
  clear hI hlt hv';intro W hI hOk hlt;clear hOk;have hc:=hI.box.cell;have hf:=hI.box.frozen;have hcA:=fun o=>(hI.mem ((Aeh _ W).alloc (Aec _) o)).box.cell
  have hfA:=fun o=>(hI.mem ((Aeh _ W).alloc (Aec _) o)).box.frozen
  have hIA:=fun o=>hI.mem ((Aeh _ W).alloc (Aec _) o)
  have hRA:=fun o=>Rdn.below (n₀:=w.heap.size) (B:=w.heap.size+2) (C:=C) ((Aeh _ W).alloc (Aec _) o)
  have Wn:OY (d',b)=true→IntKind.i64.wrap (((LL OY pre:Nat):Int)+1)=((LL OY (pre++[(d',b)]):Nat):Int):=by
   intro hn;have h1:=Acg OY pre;have h2:=Z6 hsuf;rw [OI,Aej _ (by omega),hn];rfl
  have hno:OY (d',b)=false→LL OY (pre++[(d',b)])=LL OY pre:=fun hn=>by rw [OI,hn];rfl
  have hgb:OY (d',b)=(IW d' && b):=rfl;rw [hgb] at Wn hno;cases hG:IW d'
  ·rw [hG] at hTA hno;have Hno:=Ad5 (hno rfl);clear hno hgb Wn hG;rcases hu with ⟨T,q,rfl⟩ | rfl
   all_goals
    gi_wp2
    exact ⟨C,hRA _,(hIA _).skip (by rw [Hno.out])⟩
  ·rw [hG] at hTA hno Wn;cases b with
   | false=>
    have Hno:=Ad5 (hno rfl);clear hno hgb Wn hG;rcases hu with ⟨T,q,rfl⟩ | rfl
    all_goals
     gi_wp2
     exact ⟨C,hRA _,(hIA _).skip (by rw [Hno.out])⟩
   | true=>
    replace Wn:=Wn rfl;clear hno hgb hG;rcases hu with ⟨T,q,rfl⟩ | rfl
    all_goals
     gi_wp2
     exact ⟨C,(hRA _).trans (Rdn.setCell _ _ _ _ (Aec _) (by simp)),(hIA _).step rfl⟩
 case done=>
  rintro xs C W rfl hI hK;have hc:=hI.box.cell;rw [Fr] at hc
  gi_wp2
  refine ⟨by simp,.inl ⟨_,_,rfl,run_takeDeferred hK,?_⟩⟩;exact ⟨_,results_tmp rfl _ _ _,rfl,hI.below.trans (Up (by omega))⟩
 case stop=>
  intro c W hk _;exact hk.elim
attribute [local go_sem] Oper.semAt_some
theorem Ng (d:UInt8) (rx:Bool) (L:List UInt8):∀ (n p:Nat) (acc:List UInt8),p≤L.length→(Cm d rx L n p acc).1.length≤acc.length+(L.length - p)
 | 0,p,acc,h=>Nat.zero_le _
 | n+1,p,acc,h=>by
  cases hd:L.drop p with
  | nil=>rw [Dq hd];exact Nat.zero_le _
  | cons c t=>
   have hl:t.length+1=L.length - p:=by rw [←List.length_drop,hd];rfl
   by_cases hc:c=d
   ·subst hc;rw [Dr hd];simp only;omega
   ·obtain ⟨x,k,e,he⟩:∃ x k e,AV d rx c t p=(x,k,e):=⟨_,_,_,rfl⟩;by_cases h0:e=0
    ·subst h0;rw [CE hd hc he];obtain ⟨h1,h2,h3⟩:=EK he;have ih:=Ng d rx L n k (acc++x) (by omega);rw [Aee] at ih;omega
    ·rw [DQ hd hc h0 he];obtain ⟨h1,_,_⟩:=G2 he h0;rw [h1];exact Nat.zero_le _
theorem CmSt.partsR {w:World} {p:Nat} {s:ByteArray} {ext:Bool} {st:CS} {ta tb ts:Value} {pa:Option Addr} {pc:Nat} {ma:Option Addr} {mc:Nat} {W:World} (h:CmSt w p s ext st ta tb ts pa pc ma mc W) {ps:List Cp} {a:Option Addr} {c B:Nat} (hB:w.heap.size≤B) (hr:W.ownsRow B 74 2 (.slice a ps.length c) ps.length (cpC ps)) (hn:∀ g,(Value.slice a ps.length c).ownBlock=some g→g≠p∧(Value.slice ma st.ms.length mc).ownBlock≠some g) (k:Nat) :
  CmSt w p s ext (st.parts ps k) ta tb ts a c ma mc ((W.setCell ⟨p,17,none⟩ (.slice a ps.length c)).setCell ⟨p,2,none⟩ (.int .i64 (k:Int))):=by
 refine CmSt.go (st:={ st with c:={ st.c with sub:={ st.c.sub with parts:=ps } } }) ?_ k;have o1:∀ b,b≠p→(W.setCell ⟨p,17,none⟩ (.slice a ps.length c)).heap[b]?=W.heap[b]?:=fun b hb=>Aei _ _ _ _ (fun e=>hb e)
 have hsz:(W.setCell ⟨p,17,none⟩ (.slice a ps.length c)).heap.size=W.heap.size:=by simp [World.setCell]
 have hk:∀ {t x},TrO (fun b=>w.heap.size≤b∧b≠p∧(Value.slice ma st.ms.length mc).ownBlock≠some b) W t x→TrO (fun b=>w.heap.size≤b∧b≠p∧(Value.slice ma st.ms.length mc).ownBlock≠some b) (W.setCell ⟨p,17,none⟩ (.slice a ps.length c)) t x:=fun hk=>TrO.keep (by omega) (fun b hb _=>⟨hb,fun o=>Aek (w:=W) (a:=⟨b,o,none⟩) (o1 b hb.2.1)⟩) hk
 exact ⟨h.b0.setCell (p:=⟨p,17,none⟩) h.pg _,h.q.set 17 _,h.pg,hk h.ha,hk h.hb,hk h.hs,Aa h.r fun b hb=>o1 b fun e=>h.rg (by rw [hb,e]),h.rg,BS hB (Aa hr fun b hb=>o1 b (hn b hb).1),hn⟩
theorem Xf (w:World) (p:Nat) (s:ByteArray) (ext:Bool) (st:CS) (d:UInt8) (D:Nd) (W:World) (h:Do w p s ext st W) (hD:st.c.sub.tree=some D) (hsz:Aw D≤4000000) (hs:s.size≤4000) (hk:st.k≤s.size) (hP:GP w) :
  Calls Tryz.prog 74 #[.pointer (some ⟨p,0,none⟩),.int .u8 (d.toNat:Int)] W fun e W'=>e=.returned (.int .i64 ((CL s.data.toList d st).1:Int))∧Do w p s ext (CL s.data.toList d st).2 W':=by
 obtain ⟨ta,tb,ts,pa,pc,ma,mc,h⟩:=h;have hs4:s.size≤4000000:=by omega
 have hN:=fun w1 (hb:Below W.heap.size W w1)=>FT s st.k d false w1 hs4 hk ((hP.up h.b0).up hb)
 unfold CL Aj;rw [Dz _ _ _ _ (by rw [←Ad];exact hk),←Ad,hD,show Ff (some D)=Cu D from rfl];have hln:=Ng d false s.data.toList (s.size+1) st.k [] (by rw [←Ad];exact hk);obtain ⟨⟨t,q,e0⟩,hR⟩:∃ R,Cm d false s.data.toList (s.size+1) st.k []=R:=⟨_,rfl⟩;rw [hR] at hN hln ⊢;rw [←Ad] at hln;simp only [List.length_nil] at hln;have hN:∀ w1,Below W.heap.size W w1→Calls Tryz.prog 76 #[.string s,.int .i64 (st.k:Int),.int .u8 d.toNat,.bool false] w1 fun e w'=>e=.returned (.tuple #[.string (txt t),.int .i64 (q:Int),.int .i64 (e0:Int)])∧Below w1.heap.size w1 w':=hN
 obtain ⟨T,hT⟩:∃ T,txt t=T:=⟨_,rfl⟩;have hTl:T.data.toList=t:=by rw [←hT,DY]
 have hTs:T.size≤4000:=by rw [←hT,CR];omega
 rw [hT] at hN;have hQ:=fun w2=>QN T (Cu D) w2 hTs
 rw [hTl] at hQ;obtain ⟨⟨ps,e1⟩,hR2⟩:∃ R,Cg (Cu D) t false [] []=R:=⟨_,rfl⟩;simp only [hR2] at hQ ⊢;have HH:=Ad5 h;have k0:W.cell? ⟨p,0,none⟩=some (.string s):=(h.q.cell 0).trans rfl;have k2:W.cell? ⟨p,2,none⟩=some (.int .i64 (st.k:Int)):=(h.q.cell 2).trans rfl;have hsh:=h.hs.shape;clear h hR hR2 hT hTl hln hP;unfold DM;simp only;by_cases he:e0=0
 ·rw [if_pos he];have ce:((e0:Int) != 0)=false:=by simp [he]
  clear he;obtain ⟨Z,hZ⟩:∃ Z,(if e1=0 then ((0,st.parts ps q):CO) else (e1,st))=Z:=⟨_,rfl⟩;rw [hZ];have HZ:=Ad5 hZ;clear hZ;rcases hsh with ⟨T8,q8,rfl⟩ | rfl
  all_goals
   go_enter Tryz.func74,Tryz.ntmps74;go_upto_region 1 with fail
   go_region_held3 (fun w'=>w'.cell? ⟨p,0,none⟩=some (.string s)∧w'.cell? ⟨p,2,none⟩=some (.int .i64 (st.k:Int))) (first | exact ⟨k0,k2⟩ | (refine ⟨?_,?_⟩ <;> assumption)) (first | (go_at_call 76;refine (hN _ (by first | exact Aeh _ _ | exact (Aeh _ _).drew)).mono ?_;rintro e w1 ⟨rfl,b1⟩;have H1:=Ad5 (by first | exact HH.out.step b1 | exact HH.out.drew.step b1:CmSt w p s ext st ta tb _ pa pc ma mc w1);have m0:(w1).cell? ⟨p,0,none⟩=some (.string s):=(H1.out.q.cell 0).trans rfl;have m2:(w1).cell? ⟨p,2,none⟩=some (.int .i64 (st.k:Int)):=(H1.out.q.cell 2).trans rfl;clear b1))
   have hgr:=OJ D _ w1 (by have h9:=H1.out.hs;rw [hD] at h9;exact NdX.keep (Aec _) (fun b _ hl=>⟨hl,fun _=>rfl⟩) h9) hsz;have k16:w1.cell? ⟨p,16,none⟩=some _:=(H1.out.q.cell 16).trans rfl;clear k0 k2 m0 m2;go_upto_region 6 with (first
    | (go_at_call 90;refine hgr.mono ?_;clear hgr;rintro e w2 ⟨rfl,b2⟩;have H2:=Ad5 (H1.out.step b2);clear b2)
    | (go_at_call 89;refine (hQ _).mono ?_;rintro e w3 ⟨b3,a3,c3,rfl,r3⟩;have H3:=Ad5 (H2.out.step b3);have R3:=Ad5 r3;have HL:=Ad5 (And.intro H2.out.b0.size H2.out.q.lt);have HM:=Ad5 (fun g hg=>AB H2.out.r g hg);clear b3 r3))
   by_cases h1:e1=0
   ·subst h1;obtain rfl:(0,st.parts ps q)=Z:=by rw [←HZ.out,if_pos rfl]
    have k2:w3.cell? ⟨p,2,none⟩=some (.int .i64 (st.k:Int)):=(H3.out.q.cell 2).trans rfl;have k17:w3.cell? ⟨p,17,none⟩=some (.slice pa st.c.sub.parts.length pc):=(H3.out.q.cell 17).trans rfl;have f2:=H3.out.q.frozen 2;have f17:=H3.out.q.frozen 17;have H4:=Ad5 (H3.out.partsR HL.out.1 R3.out (fun g hg=>by
     have hge:=AL R3.out g hg;have hlp:=HL.out.2;refine ⟨by omega,fun e=>?_⟩;have:=HM.out g e;omega) q)
    go_wp2_with fail
    go_ret;exact ⟨rfl,H4.out.R⟩
   ·obtain rfl:(e1,st)=Z:=by rw [←HZ.out,if_neg h1]
    have c1:((e1:Int) != 0)=true:=by simpa using h1
    clear h1;go_wp2_with fail
    go_ret;exact ⟨rfl,H3.out.R⟩
 ·rw [if_neg he];have ce:((e0:Int) != 0)=true:=by simpa using he
  clear he;go_enter Tryz.func74,Tryz.ntmps74;go_upto_region 1 with fail
  go_region_held3 (fun w'=>w'.cell? ⟨p,0,none⟩=some (.string s)∧w'.cell? ⟨p,2,none⟩=some (.int .i64 (st.k:Int))) (first | exact ⟨k0,k2⟩ | (refine ⟨?_,?_⟩ <;> assumption)) (first | (go_at_call 76;refine (hN _ (by first | exact Aeh _ _ | exact (Aeh _ _).drew)).mono ?_;rintro e w1 ⟨rfl,b1⟩;have H1:=Ad5 (by first | exact HH.out.step b1 | exact HH.out.drew.step b1:CmSt w p s ext st ta tb _ pa pc ma mc w1);have m0:(w1).cell? ⟨p,0,none⟩=some (.string s):=(H1.out.q.cell 0).trans rfl;have m2:(w1).cell? ⟨p,2,none⟩=some (.int .i64 (st.k:Int)):=(H1.out.q.cell 2).trans rfl;clear b1))
  have f2:=H1.out.q.frozen 2;have H2:=Ad5 (H1.out.go q);go_wp2_with fail
  go_ret;exact ⟨rfl,H2.out.R⟩
end
section
open Go.ChangeShapes Go.WideShapes Go.ChangeAt Go.RowKit
theorem own:ownKnob Tryz.prog.godebug=none:=by kernel_rfl
theorem Sg:laidOutB Tryz.prog=true:=by kernel_rfl
end
section
open Go.RowKit
def kb (t:Tr):Nat:=if (t.kind=4∨t.kind=5)∧t.parts=[] then 1 else 0
theorem Ach (a b c d:Int) (w:World):(part 107 #[.int .u64 a,.int .u64 b,.int .u64 c,.int .u64 d] (0 * 1)).run Tryz.prog w=.ok (.int .u64 a) w:=by kernel_rfl
theorem Aci (a b c d:Int) (w:World):(part 107 #[.int .u64 a,.int .u64 b,.int .u64 c,.int .u64 d] 1).run Tryz.prog w=.ok (.int .u64 b) w:=by kernel_rfl
theorem Acj (a b c d:Int) (w:World):(part 107 #[.int .u64 a,.int .u64 b,.int .u64 c,.int .u64 d] 2).run Tryz.prog w=.ok (.int .u64 c) w:=by kernel_rfl
theorem Ack (a b c d:Int) (w:World):(part 107 #[.int .u64 a,.int .u64 b,.int .u64 c,.int .u64 d] 3).run Tryz.prog w=.ok (.int .u64 d) w:=by kernel_rfl
theorem Uq (a b c d a' b' c' d':Int) (w:World):(Op.eqItems 9999 107 1 #[.int .u64 a,.int .u64 b,.int .u64 c,.int .u64 d] #[.int .u64 a',.int .u64 b',.int .u64 c',.int .u64 d'] [0,1,2,3]).run Tryz.prog w=.ok (a == a' && (b == b' && (c == c' && d == d'))) w:=by
 have h:=fun (x y:Int) (w:World)=>(run_equalIn_int (P:=Tryz.prog) w 9998 107 .u64 .u64 x y Tryz.underlying107:(Op.equalIn 9999 107 (.int .u64 x) (.int .u64 y)).run Tryz.prog w=_)
 simp only [Op.eqItems,Sem.run_bind,Ach,h,Result.andThen_ok];cases ha:a == a' <;> cases hb:b == b' <;> cases hc:c == c' <;> cases hd:d == d' <;> simp [ha,hb,hc,hd,h,Aci,Acj,Ack]
theorem Xg (s t:OSet):(ow s 0 == ow t 0 && (ow s 1 == ow t 1 && (ow s 2 == ow t 2 && ow s 3 == ow t 3)))=decide (s=t):=by
 by_cases h:s=t
 ·subst h;simp
 ·have h2:=Ro h;rw [decide_eq_false h];cases hx:(ow s 0 == ow t 0 && (ow s 1 == ow t 1 && (ow s 2 == ow t 2 && ow s 3 == ow t 3)))
  ·rfl
  ·exfalso;simp only [Bool.and_eq_true,beq_iff_eq] at hx;exact h2 hx
end
section
open Go Go.RowKit
def QP (d:Nd) (s:OSet):Bool:=match d with
 | .one t=>decide (t=s)
 | _=>false
theorem Xh (s t:OSet) (w:World):(Op.equalIn 10000 109 (.agg #[.int .u64 (ow s 0),.int .u64 (ow s 1),.int .u64 (ow s 2),.int .u64 (ow s 3)]) (.agg #[.int .u64 (ow t 0),.int .u64 (ow t 1),.int .u64 (ow t 2),.int .u64 (ow t 3)])).run Tryz.prog w=.ok (decide (s=t)) w:=by
 have hc:Tryz.prog.cellsOf 107=1:=by kernel_rfl
 have hi0:(Tryz.prog.info? 107).isSome=true:=by kernel_rfl
 obtain ⟨i,hi⟩:=Option.isSome_iff_exists.1 hi0;rw [run_equalIn_array w 9999 (e:=107) (n:=4) _ _ Tryz.underlying109 hi];rw [hc,show List.range 4=[0,1,2,3] from rfl,Uq,Xg]
theorem Ur {F:Nat→Prop} (d:Nd) (v:Value) (t:OSet) (w:World) (h:NdX F w d v):Calls Tryz.prog 52 #[v,.agg #[.int .u64 (ow t 0),.int .u64 (ow t 1),.int .u64 (ow t 2),.int .u64 (ow t 3)]] w fun e w'=>e=.returned (.bool (QP d t))∧Below w.heap.size w w':=by
 have hq:=Xh;rcases Ch h with ⟨rfl,rfl | rfl⟩ | ⟨s,rfl,rfl⟩ | ⟨l,a,cap,rfl,rfl,hr⟩ | ⟨l,a,cap,rfl,rfl,hr⟩ | ⟨d',mn,mx,u,rfl,rfl,hu⟩ | ⟨num,d',u,rfl,rfl,hu⟩ | ⟨num,rfl,rfl⟩ | ⟨rfl,rfl⟩ | ⟨rfl,rfl⟩
 all_goals
  go_enter Tryz.func52,Tryz.ntmps52;go_wp2_with fail
  go_ret;refine ⟨rfl,?_⟩
  repeat (first | (with_reducible exact Aeh _ _) | refine Below.drew ?_ | refine Below.setCell ?_ (by first | omega | (simp;omega) | simp) _ | refine Below.alloc ?_ (by first | omega | (simp;omega) | simp) _)
def Z7:Nd→Bool
 | .empty=>true
 | _=>false
def Acl:Nd→Bool
 | .cat _=>true
 | _=>false
def Acm:Nd→Bool
 | .rep _ _ _=>true
 | _=>false
def Acn:Nd→Bool
 | .start=>true
 | _=>false
def Aco:Nd→Bool
 | .fin=>true
 | _=>false
theorem IS {F:Nat→Prop} (d:Nd) (v:Value) (w:World) (h:NdX F w d v):Calls Tryz.prog 51 #[v] w fun e w'=>e=.returned (.bool (Z7 d))∧Below w.heap.size w w':=by
 rcases Ch h with ⟨rfl,rfl | rfl⟩ | ⟨s,rfl,rfl⟩ | ⟨l,a,cap,rfl,rfl,hr⟩ | ⟨l,a,cap,rfl,rfl,hr⟩ | ⟨d',mn,mx,u,rfl,rfl,hu⟩ | ⟨num,d',u,rfl,rfl,hu⟩ | ⟨num,rfl,rfl⟩ | ⟨rfl,rfl⟩ | ⟨rfl,rfl⟩
 all_goals
  go_enter Tryz.func51,Tryz.ntmps51;go_wp2_with fail
  go_ret;exact ⟨rfl,Aeh _ _⟩
theorem QQ {F:Nat→Prop} {w0:World} {d:Nd} {v:Value} (h:NdX F w0 d v):∃ a n c,∀ w,(Instr.typeAssert v 38 98 true).run Tryz.prog w=.ok (.tuple #[.agg #[.slice a n c],.bool (Acl d)]) w:=by
 rcases Ch h with ⟨rfl,rfl | rfl⟩ | ⟨s,rfl,rfl⟩ | ⟨l,a,cap,rfl,rfl,hr⟩ | ⟨l,a,cap,rfl,rfl,hr⟩ | ⟨d',mn,mx,u,rfl,rfl,hu⟩ | ⟨num,d',u,rfl,rfl,hu⟩ | ⟨num,rfl,rfl⟩ | ⟨rfl,rfl⟩ | ⟨rfl,rfl⟩
 ·exact ⟨none,0,0,Mw _⟩
 ·exact ⟨none,0,0,PT⟩
 ·exact ⟨none,0,0,PE _⟩
 ·exact ⟨_,_,_,PH _⟩
 ·exact ⟨none,0,0,PK _⟩
 ·exact ⟨none,0,0,PN _⟩
 ·exact ⟨none,0,0,M9 _⟩
 ·exact ⟨none,0,0,NS _⟩
 ·exact ⟨none,0,0,MD _⟩
 ·exact ⟨none,0,0,PQ _⟩
theorem QR {F:Nat→Prop} {w0:World} {d:Nd} {v:Value} (h:NdX F w0 d v):∃ u mn mx,((∃ T q,u=.iface T q)∨u=.nilIface)∧(∀ w,(Instr.typeAssert v 38 101 true).run Tryz.prog w=.ok (.tuple #[.agg #[u,.int .i64 mn,.int .i64 mx],.bool (Acm d)]) w)∧∀ d' a b,d=.rep d' a b→mn=a∧mx=b:=by
 rcases Ch h with ⟨rfl,rfl | rfl⟩ | ⟨s,rfl,rfl⟩ | ⟨l,a,cap,rfl,rfl,hr⟩ | ⟨l,a,cap,rfl,rfl,hr⟩ | ⟨d',mn,mx,u,rfl,rfl,hu⟩ | ⟨num,d',u,rfl,rfl,hu⟩ | ⟨num,rfl,rfl⟩ | ⟨rfl,rfl⟩ | ⟨rfl,rfl⟩
 ·exact ⟨.nilIface,0,0,.inr rfl,Mx _,fun _ _ _ h=>by cases h⟩
 ·exact ⟨.nilIface,0,0,.inr rfl,PU,fun _ _ _ h=>by cases h⟩
 ·exact ⟨.nilIface,0,0,.inr rfl,PF _,fun _ _ _ h=>by cases h⟩
 ·exact ⟨.nilIface,0,0,.inr rfl,PI _,fun _ _ _ h=>by cases h⟩
 ·exact ⟨.nilIface,0,0,.inr rfl,PL _,fun _ _ _ h=>by cases h⟩
 ·exact ⟨u,mn,mx,hu.elim fun _ h=>Ax h,PO _,fun _ _ _ h=>by cases h;exact ⟨rfl,rfl⟩⟩
 ·exact ⟨.nilIface,0,0,.inr rfl,MA _,fun _ _ _ h=>by cases h⟩
 ·exact ⟨.nilIface,0,0,.inr rfl,NT _,fun _ _ _ h=>by cases h⟩
 ·exact ⟨.nilIface,0,0,.inr rfl,ME _,fun _ _ _ h=>by cases h⟩
 ·exact ⟨.nilIface,0,0,.inr rfl,PR _,fun _ _ _ h=>by cases h⟩
theorem Nh {F:Nat→Prop} {w0:World} {d:Nd} {v:Value} (h:NdX F w0 d v):∃ num:Int,(∀ w,(Instr.typeAssert v 38 117 true).run Tryz.prog w=.ok (.tuple #[.agg #[.int .i64 num],.bool (Aap d)]) w)∧∀ n,d=.back n→num=n:=by
 rcases Ch h with ⟨rfl,rfl | rfl⟩ | ⟨s,rfl,rfl⟩ | ⟨l,a,cap,rfl,rfl,hr⟩ | ⟨l,a,cap,rfl,rfl,hr⟩ | ⟨d',mn,mx,u,rfl,rfl,hu⟩ | ⟨num,d',u,rfl,rfl,hu⟩ | ⟨num,rfl,rfl⟩ | ⟨rfl,rfl⟩ | ⟨rfl,rfl⟩
 ·exact ⟨0,KN _,fun _ h=>by cases h⟩
 ·exact ⟨0,NW,fun _ h=>by cases h⟩
 ·exact ⟨0,NN _,fun _ h=>by cases h⟩
 ·exact ⟨0,NO _,fun _ h=>by cases h⟩
 ·exact ⟨0,NP _,fun _ h=>by cases h⟩
 ·exact ⟨0,NQ _,fun _ h=>by cases h⟩
 ·exact ⟨0,KO _,fun _ h=>by cases h⟩
 ·exact ⟨num,MC _,fun _ h=>by cases h;rfl⟩
 ·exact ⟨0,KR _,fun _ h=>by cases h⟩
 ·exact ⟨0,NV _,fun _ h=>by cases h⟩
theorem Ni {F:Nat→Prop} {w0:World} {d:Nd} {v:Value} (h:NdX F w0 d v):∀ w,(Instr.typeAssert v 38 119 true).run Tryz.prog w=.ok (.tuple #[.agg #[],.bool (Acn d)]) w:=by
 rcases Ch h with ⟨rfl,rfl | rfl⟩ | ⟨s,rfl,rfl⟩ | ⟨l,a,cap,rfl,rfl,hr⟩ | ⟨l,a,cap,rfl,rfl,hr⟩ | ⟨d',mn,mx,u,rfl,rfl,hu⟩ | ⟨num,d',u,rfl,rfl,hu⟩ | ⟨num,rfl,rfl⟩ | ⟨rfl,rfl⟩ | ⟨rfl,rfl⟩
 ·exact JN _
 ·exact MJ
 ·exact M0 _
 ·exact M2 _
 ·exact M4 _
 ·exact M8 _
 ·exact JP _
 ·exact KQ _
 ·exact JR _
 ·exact MH _
theorem QS {F:Nat→Prop} {w0:World} {d:Nd} {v:Value} (h:NdX F w0 d v):∀ w,(Instr.typeAssert v 38 121 true).run Tryz.prog w=.ok (.tuple #[.agg #[],.bool (Aco d)]) w:=by
 rcases Ch h with ⟨rfl,rfl | rfl⟩ | ⟨s,rfl,rfl⟩ | ⟨l,a,cap,rfl,rfl,hr⟩ | ⟨l,a,cap,rfl,rfl,hr⟩ | ⟨d',mn,mx,u,rfl,rfl,hu⟩ | ⟨num,d',u,rfl,rfl,hu⟩ | ⟨num,rfl,rfl⟩ | ⟨rfl,rfl⟩ | ⟨rfl,rfl⟩
 ·exact My _
 ·exact PV
 ·exact PG _
 ·exact PJ _
 ·exact PM _
 ·exact PP _
 ·exact MB _
 ·exact NU _
 ·exact MF _
 ·exact PS _
theorem K8 (e:Nd):EE .empty e=Z7 e:=by cases e <;> rfl
theorem Xi (s:OSet) (e:Nd):EE (.one s) e=QP e s:=by cases e <;> first | rfl | exact decide_eq_decide.2 ⟨Eq.symm,Eq.symm⟩
theorem Xj (l:List Nd) (e:Nd):EE (.cat l) e=Acl e:=by cases e <;> rfl
theorem Xk (l:List Nd) (e:Nd):EE (.alt l) e=!inAlt e:=by cases e <;> rfl
theorem QT (e:Nd):EE .start e=Acn e:=by cases e <;> rfl
theorem Xl (e:Nd):EE .fin e=Aco e:=by cases e <;> rfl
theorem Xm (d:Nd) (mn mx:Int) (e:Nd) (p q:Int) (h:∀ d' a b,e=.rep d' a b→p=a∧q=b):EE (.rep d mn mx) e=(Acm e && (mn == p) && (mx == q)):=by
 cases e with
 | rep e a b=>obtain ⟨rfl,rfl⟩:=h _ _ _ rfl;rfl
 | _=>rfl
theorem QU (d:Nd) (n:Int) (e:Nd) (p:Int) (h:∀ k d',e=.group k d'→p=k):EE (.group n d) e=(IW e && (n == p)):=by
 cases e with
 | group k e=>obtain rfl:=h _ _ rfl;rfl
 | _=>rfl
theorem Us (n:Int) (e:Nd) (p:Int) (h:∀ k,e=.back k→p=k):EE (.back n) e=(Aap e && (n == p)):=by
 cases e with
 | back k=>obtain rfl:=h _ rfl;rfl
 | _=>rfl
theorem Ut {F:Nat→Prop} (d e:Nd) (v y:Value) (w:World) (h:NdX F w d v) (k:NdX F w e y):Calls Tryz.prog 36 #[v,y] w fun r w'=>r=.returned (.bool (EE d e))∧Below w.heap.size w w':=by
 rcases Ch h with ⟨rfl,rfl | rfl⟩ | ⟨s,rfl,rfl⟩ | ⟨l,a,cap,rfl,rfl,hr⟩ | ⟨l,a,cap,rfl,rfl,hr⟩ | ⟨d',mn,mx,u,rfl,rfl,hu⟩ | ⟨num,d',u,rfl,rfl,hu⟩ | ⟨num,rfl,rfl⟩ | ⟨rfl,rfl⟩ | ⟨rfl,rfl⟩
 ·rw [K8];have hC:=IS e y w k;generalize Z7 e=R at hC ⊢;go_enter Tryz.func36,Tryz.ntmps36;go_wp2_with (go_at_call 51;refine hC.mono ?_;rintro r w2 ⟨rfl,b2⟩)
  go_ret;exact ⟨rfl,b2⟩
 ·rw [K8];have hC:=IS e y w k;generalize Z7 e=R at hC ⊢;go_enter Tryz.func36,Tryz.ntmps36;go_wp2_with (go_at_call 51;refine hC.mono ?_;rintro r w2 ⟨rfl,b2⟩)
  go_ret;exact ⟨rfl,b2⟩
 ·rw [Xi];have hB:=(Aeh w.heap.size w).alloc (Aec _) (.cells #[.int .u64 (ow s 0),.int .u64 (ow s 1),.int .u64 (ow s 2),.int .u64 (ow s 3)] 111);have hC:=Ur e y s _ (k.below hB);generalize QP e s=R at hC ⊢;go_enter Tryz.func36,Tryz.ntmps36;go_wp2_with (go_at_call 52;refine hC.mono ?_;rintro r w2 ⟨rfl,b2⟩)
  go_ret;exact ⟨rfl,hB.trans (b2.mono hB.size)⟩
 ·rw [Xj];obtain ⟨a2,n2,c2,hTA⟩:=QQ k;generalize Acl e=R at hTA ⊢;go_enter Tryz.func36,Tryz.ntmps36;go_wp2_with fail
  go_ret;refine ⟨rfl,?_⟩
  repeat (first | (with_reducible exact hW) | (with_reducible exact Aeh _ _) | refine Below.drew ?_ | refine Below.setCell ?_ (by first | omega | (simp;omega) | simp) _ | refine Below.alloc ?_ (by first | omega | (simp;omega) | simp) _)
 ·rw [Xk];have hB:=(Aeh w.heap.size w).alloc (Aec _) (.cells #[.slice a l.length cap] 99);have hC:=Tf e y _ (k.below hB);generalize (!inAlt e)=R at hC ⊢;go_enter Tryz.func36,Tryz.ntmps36;go_wp2_with (go_at_call 53;refine hC.mono ?_;rintro r w2 ⟨rfl,b2⟩)
  go_ret;exact ⟨rfl,hB.trans (b2.mono hB.size)⟩
 ·obtain ⟨u2,p,q,hu2,hTA,hpq⟩:=QR k;rw [Xm d' mn mx e p q hpq];have hu1:(∃ T q,u=.iface T q)∨u=.nilIface:=hu.elim fun _ h=>Ax h
  generalize Acm e=R at hTA ⊢;clear hpq k h hu;rcases hu1 with ⟨T,q1,rfl⟩ | rfl
  all_goals
   rcases hu2 with ⟨T2,q2,rfl⟩ | rfl
   all_goals
    cases R
    ·go_enter Tryz.func36,Tryz.ntmps36;go_wp2_with fail
     go_ret;refine ⟨rfl,?_⟩
     repeat (first | (with_reducible exact hW) | (with_reducible exact Aeh _ _) | refine Below.drew ?_ | refine Below.setCell ?_ (by first | omega | (simp;omega) | simp) _ | refine Below.alloc ?_ (by first | omega | (simp;omega) | simp) _)
    ·cases hE:mn == p
     ·go_enter Tryz.func36,Tryz.ntmps36;go_wp2_with fail
      go_ret;refine ⟨rfl,?_⟩
      repeat (first | (with_reducible exact hW) | (with_reducible exact Aeh _ _) | refine Below.drew ?_ | refine Below.setCell ?_ (by first | omega | (simp;omega) | simp) _ | refine Below.alloc ?_ (by first | omega | (simp;omega) | simp) _)
     ·go_enter Tryz.func36,Tryz.ntmps36;go_wp2_with fail
      go_ret;refine ⟨rfl,?_⟩
      repeat (first | (with_reducible exact hW) | (with_reducible exact Aeh _ _) | refine Below.drew ?_ | refine Below.setCell ?_ (by first | omega | (simp;omega) | simp) _ | refine Below.alloc ?_ (by first | omega | (simp;omega) | simp) _)
 ·obtain ⟨p,u2,hu2,hTA,hpq⟩:=Ii k;rw [QU d' num e p hpq];have hu1:(∃ T q,u=.iface T q)∨u=.nilIface:=hu.elim fun _ h=>Ax h
  generalize IW e=R at hTA ⊢;clear hpq k h hu;rcases hu1 with ⟨T,q1,rfl⟩ | rfl
  all_goals
   rcases hu2 with ⟨T2,q2,rfl⟩ | rfl
   all_goals
    cases R
    all_goals
     go_enter Tryz.func36,Tryz.ntmps36;go_wp2_with fail
     go_ret;refine ⟨rfl,?_⟩
     repeat (first | (with_reducible exact hW) | (with_reducible exact Aeh _ _) | refine Below.drew ?_ | refine Below.setCell ?_ (by first | omega | (simp;omega) | simp) _ | refine Below.alloc ?_ (by first | omega | (simp;omega) | simp) _)
 ·obtain ⟨p,hTA,hpq⟩:=Nh k;rw [Us num e p hpq];generalize Aap e=R at hTA ⊢;clear hpq k h;cases R
  all_goals
   go_enter Tryz.func36,Tryz.ntmps36;go_wp2_with fail
   go_ret;refine ⟨rfl,?_⟩
   repeat (first | (with_reducible exact hW) | (with_reducible exact Aeh _ _) | refine Below.drew ?_ | refine Below.setCell ?_ (by first | omega | (simp;omega) | simp) _ | refine Below.alloc ?_ (by first | omega | (simp;omega) | simp) _)
 ·have hTA:=Ni k;rw [QT];generalize Acn e=R at hTA ⊢;go_enter Tryz.func36,Tryz.ntmps36;go_wp2_with fail
  go_ret;refine ⟨rfl,?_⟩
  repeat (first | (with_reducible exact hW) | (with_reducible exact Aeh _ _) | refine Below.drew ?_ | refine Below.setCell ?_ (by first | omega | (simp;omega) | simp) _ | refine Below.alloc ?_ (by first | omega | (simp;omega) | simp) _)
 ·have hTA:=QS k;rw [Xl];generalize Aco e=R at hTA ⊢;go_enter Tryz.func36,Tryz.ntmps36;go_wp2_with fail
  go_ret;refine ⟨rfl,?_⟩
  repeat (first | (with_reducible exact hW) | (with_reducible exact Aeh _ _) | refine Below.drew ?_ | refine Below.setCell ?_ (by first | omega | (simp;omega) | simp) _ | refine Below.alloc ?_ (by first | omega | (simp;omega) | simp) _)
def FV (T:List (Nd × Nd)):Bool:=T.all (fun p=>Dh p.1 p.2)
def DG (T:List (Nd × Nd)):Nat:=Az (T.map Prod.fst)
theorem QV (T:List (Nd × Nd)) (d e:Nd):FV (T++[(d,e)])=(FV T && Dh d e):=by unfold FV;rw [List.all_append];simp
theorem Nj (T U:List (Nd × Nd)):FV (T++U)=(FV T && FV U):=by unfold FV;rw [List.all_append]
theorem QW (l m:List Nd) (h:l.length=m.length):DU l m=FV (l.zip m):=by
 induction l generalizing m with
 | nil=>
  cases m with
  | nil=>rfl
  | cons e es=>simp at h
 | cons d ds ih=>
  cases m with
  | nil=>simp at h
  | cons e es=>rw [DU,ih es (by simpa using h)];rfl
theorem Fs (T U:List (Nd × Nd)):DG (T++U)=DG T+DG U:=by unfold DG;rw [List.map_append,Dy]
theorem LM (d e:Nd):DG [(d,e)]=Aw d:=by simp [DG,Az]
theorem LN (l m:List Nd) (h:l.length=m.length):DG (l.zip m)=Az l:=by unfold DG;rw [List.map_fst_zip (by omega)]
theorem LO (T:List (Nd × Nd)):T.length≤DG T:=by have:=Gt (T.map Prod.fst);unfold DG;simpa using this
theorem Xn (l m:List Nd) (k:Nat) (h1:k < l.length) (h2:k < m.length):(l.zip m).take (k+1)=(l.zip m).take k++[(l[k],m[k])]:=by
 rw [List.take_succ_eq_append_getElem (by rw [List.length_zip];omega),List.getElem_zip]
def Off (sv:Value) (b:Nat):Prop:=sv.ownBlock≠some b
def PrC (G:Nat→Prop) (W:World):List (Nd × Nd)→List Value→Prop
 | [],us=>us=[]
 | x :: s,us=>∃ v y us',us=v :: y :: us'∧NdX G W x.1 v∧NdX G W x.2 y∧PrC G W s us'
theorem PrC.len {G:Nat→Prop} {W:World}:∀ {s:List (Nd × Nd)} {us:List Value},PrC G W s us→us.length=s.length * 2
 | [],us,h=>by rw [show us=[] from h];rfl
 | x :: s,us,⟨v,y,us',h,_,_,h4⟩=>by rw [h];have:=PrC.len h4;simp [this];omega
theorem PrC.keep {F G:Nat→Prop} {W W':World} (hs:W.heap.size≤W'.heap.size) (hF:∀ b,F b→b < W.heap.size→G b∧∀ o,W'.cell? ⟨b,o,none⟩=W.cell? ⟨b,o,none⟩) :
  ∀ {s:List (Nd × Nd)} {us:List Value},PrC F W s us→PrC G W' s us
 | [],_,h=>h
 | _ :: _,_,⟨v,y,us',h,h2,h3,h4⟩=>⟨v,y,us',h,h2.keep hs hF,h3.keep hs hF,PrC.keep hs hF h4⟩
theorem PrC.snoc {G:Nat→Prop} {W:World} {d e:Nd} {v y:Value} (hd:NdX G W d v) (he:NdX G W e y) :
  ∀ {s:List (Nd × Nd)} {us:List Value},PrC G W s us→PrC G W (s++[(d,e)]) (us++[v,y])
 | [],us,h=>by obtain rfl:us=[]:=h;exact ⟨v,y,[],rfl,hd,he,rfl⟩
 | _ :: _,_,⟨v',y',us',h,h2,h3,h4⟩=>⟨v',y',_,by rw [h];rfl,h2,h3,PrC.snoc hd he h4⟩
theorem PrC.last {G:Nat→Prop} {W:World} {d e:Nd} :
  ∀ {s:List (Nd × Nd)} {us:List Value},PrC G W (s++[(d,e)]) us→∃ us' v y,us=us'++[v,y]∧NdX G W d v∧NdX G W e y∧PrC G W s us'
 | [],us,⟨v,y,us',h,h2,h3,h4⟩=>by obtain rfl:us'=[]:=h4;exact ⟨[],v,y,h,h2,h3,rfl⟩
 | x :: s,us,⟨v',y',us',h,h2,h3,h4⟩=>by
  obtain ⟨us2,v,y,e,g2,g3,g4⟩:=PrC.last h4;exact ⟨v' :: y' :: us2,v,y,by rw [h,e];rfl,g2,g3,v',y',us2,rfl,h2,h3,g4⟩
structure Prs (base:Nat) (W:World) (T:List (Nd × Nd)) (sv:Value) (us:List Value):Prop where
 row:W.ownsRow base 82 2 sv T.length us
 cells:PrC (Off sv) W T us
theorem Uu {sv:Value} {W W':World} (hb:Below W.heap.size W W'):∀ b,Off sv b→b < W.heap.size→Off sv b∧∀ o,W'.cell? ⟨b,o,none⟩=W.cell? ⟨b,o,none⟩:=
 fun b hf hlt=>⟨hf,fun o=>hb.cell (p:=⟨b,o,none⟩) hlt⟩
theorem LP {sv v':Value} {W W':World} (hg:W.grownBy W' sv.ownBlock) (hat:v'.ownBlock=sv.ownBlock∨v'.ownBlock=some W.heap.size):∀ b,Off sv b→b < W.heap.size→Off v' b∧∀ o,W'.cell? ⟨b,o,none⟩=W.cell? ⟨b,o,none⟩:=by
 intro b hf hlt;refine ⟨?_,fun o=>Aek (w:=W) (a:=⟨b,o,none⟩) (hg.block b hlt (fun e=>hf e.symm))⟩;rcases hat with e | e
 ·unfold Off;rw [e];exact hf
 ·unfold Off;rw [e];intro e2;injection e2 with e2;omega
theorem Prs.mem {base:Nat} {W W':World} {T:List (Nd × Nd)} {sv:Value} {us:List Value} (h:Prs base W T sv us) (hb:Below W.heap.size W W'):Prs base W' T sv us:=
 ⟨Aa h.row (fun g hg=>hb.block _ (h.row.lt g hg).2),h.cells.keep hb.size (Uu hb)⟩
theorem Prs.push {base:Nat} {W W':World} {T:List (Nd × Nd)} {sv v' v y:Value} {us:List Value} {d e:Nd} (h:Prs base W T sv us) (hd:NdX (Off sv) W d v) (he:NdX (Off sv) W e y)
  (hown:W'.ownsRow base 82 2 v' (T.length+1) (us++[v,y])) (hg:W.grownBy W' sv.ownBlock) (hat:v'.ownBlock=sv.ownBlock∨v'.ownBlock=some W.heap.size):Prs base W' (T++[(d,e)]) v' (us++[v,y]):=by
 have hk:=LP hg hat
 exact ⟨by rw [Aee];exact hown,PrC.snoc (hd.keep hg.size hk) (he.keep hg.size hk) (h.cells.keep hg.size hk)⟩
theorem Prs.top {base:Nat} {W:World} {T:List (Nd × Nd)} {sv:Value} {us:List Value} {d e:Nd} (h:Prs base W (T++[(d,e)]) sv us) :
  ∃ g cap v y us',sv=.slice (some ⟨g,0,none⟩) (T.length+1) cap∧T.length+1≤cap∧base≤g∧g < W.heap.size∧W.cell? ⟨g,T.length * 2,none⟩=some v∧W.cell? ⟨g,T.length * 2+1,none⟩=some y∧NdX (Off sv) W d v∧NdX (Off sv) W e y∧Prs base W T (.slice (some ⟨g,0,none⟩) T.length cap) us':=by
 have hrow:=h.row;rw [Aee] at hrow;obtain ⟨g,cap,rfl⟩:=ownsRow_succ hrow;obtain ⟨us',v,y,rfl,h1,h2,h3⟩:=h.cells.last;have hl:=h3.len;have hg:=hrow.lt g rfl;refine ⟨g,cap,v,y,us',rfl,RQ hrow,hg.1,hg.2,?_,?_,h1,h2,ownsRow_pop hl hrow,h3⟩
 ·rw [hrow.cellAt (T.length * 2) (show T.length * 2 < (T.length+1) * 2 by omega),←hl,List.getElem?_append_right (Aec _)];simp
 ·rw [hrow.cellAt (T.length * 2+1) (show T.length * 2+1 < (T.length+1) * 2 by omega),←hl,List.getElem?_append_right (by omega)];rw [show us'.length+1 - us'.length=1 by omega];rfl
theorem Uv:∃ i,Tryz.prog.info? 82=some i∧i.zero=some (.agg #[.nilIface,.nilIface])∧i.size=2∧i.bytes=32:=by
 have h:(Tryz.prog.info? 82).map (fun i=>(i.zero,i.size,i.bytes))=some (some (.agg #[.nilIface,.nilIface]),2,32):=by kernel_rfl
 obtain ⟨i,hi,he⟩:=Option.map_eq_some_iff.1 h;injection he with h1 h2;injection h2 with h2 h3;exact ⟨i,hi,h1,h2,h3⟩
theorem OK {g n n' cap b0:Nat} {w:World} {l:List Nd} {a:Option Addr} {c:Nat} (h:AW (fun b=>Off (.slice (some ⟨g,0,none⟩) n cap) b∨b0≤b) w l a c) (hg:g < b0):AW (Off (.slice (some ⟨g,0,none⟩) n' cap)) w l a c:=
 h.keep (Aec _) (fun b hb _=>⟨Or.elim hb (fun h=>h) (fun h e=>by simp [Value.ownBlock] at e;omega),fun _=>rfl⟩)
theorem LQ (d e:Nd) (v y:Value) (w:World) (h:NdX (fun k=>k < w.heap.size) w d v) (k:NdX (fun k=>k < w.heap.size) w e y) (hsz:Aw d≤4000000) :
  Calls Tryz.prog 28 #[v,y] w fun r w'=>r=.returned (.bool (Dh d e))∧Below w.heap.size w w':=by
 obtain ⟨i0,hi,hz0,hz1,hz2⟩:=Uv;obtain ⟨R,hR⟩:∃ R,R=Dh d e:=⟨_,rfl⟩;rw [←hR];have HR:=Ad5 hR;clear hR;have hs1:(∃ T q,v=.iface T q)∨v=.nilIface:=h.elim fun _ h=>Ax h
 have hs2:(∃ T q,y=.iface T q)∨y=.nilIface:=k.elim fun _ h=>Ax h
 go_enter Tryz.func28,Tryz.ntmps28;go_upto_region 1 with fail;go_cut [5] from 11 (fun tv wx=>∃ us,Prs w.heap.size wx [(d,e)] tv us∧Below w.heap.size w wx)
 case first=>
  have hP:∀ (v y:Value),NdX (fun k=>k < w.heap.size) w d v→NdX (fun k=>k < w.heap.size) w e y→Prs w.heap.size (w.alloc (.cells #[v,y] 82)) [(d,e)] (.slice (some ⟨w.heap.size,0,none⟩) 1 1) [v,y]:=by
   intro v y h k;have hB:=(Aeh w.heap.size w).alloc (Aec _) (.cells #[v,y] 82);have hk:∀ b,b < w.heap.size→b < w.heap.size→Off (.slice (some ⟨w.heap.size,0,none⟩) 1 1) b∧∀ o,(w.alloc (.cells #[v,y] 82)).cell? ⟨b,o,none⟩=w.cell? ⟨b,o,none⟩:=fun b hb _=>
    ⟨fun e2=>by simp [Value.ownBlock] at e2;omega,fun o=>hB.cell (p:=⟨b,o,none⟩) hb⟩
   exact ⟨World.ownsRow_lit w #[v,y] 1 (Aec _) (by decide) rfl,v,y,[],rfl,h.keep hB.size hk,k.keep hB.size hk,rfl⟩
  have hP2:=hP v y h k;clear hP h k;rcases hs1 with ⟨T1,q1,rfl⟩ | rfl
  all_goals
   rcases hs2 with ⟨T2,q2,rfl⟩ | rfl
   all_goals
    go_wp2_with fail
    go_meet;exact ⟨_,hP2,(Aeh w.heap.size w).alloc (Aec _) _⟩
 case rest=>
  clear hs1 hs2 h k;obtain ⟨us0,hP0,hW0⟩:=hcut;go_wp2_with fail
  go_loopg [5] (DG [(d,e)]+1) (fun gk tv wr=>∃ T us pv,pv=tv∧Prs w.heap.size wr T pv us∧R=FV T∧DG T+1≤gk∧DG T≤4000000∧Below w.heap.size w wr)
  case atStart=>exact ⟨_,us0,_,rfl,hP0,by rw [HR.out];simp [FV],Aec _,by rw [LM];exact hsz,hW0⟩
  case round=>
   obtain ⟨T,us,pv,hpv,hP,hRT,hgk,hsT,hW⟩:=hrel;subst hpv;clear hP0 hW0;rcases List.eq_nil_or_concat T with rfl | ⟨T,⟨d1,e1⟩,rfl⟩
   ·obtain ⟨a0,c0,rfl⟩:∃ a c,pv=.slice a 0 c:=by
     rcases hP.row.2 with ⟨e,_⟩ | ⟨g,cap,cur,e,_⟩
     ·exact ⟨_,_,e⟩
     ·exact ⟨_,_,e⟩
    have Hr:=Ad5 hRT;clear hRT hgk hsT;go_wp2_with fail
    go_ret;exact ⟨by rw [Hr.out];rfl,hW⟩
   ·rw [List.concat_eq_append] at hP hRT hgk hsT;have hlT:=LO T;rw [Fs,LM] at hgk hsT;rw [QV,Pd] at hRT;have Hr:=Ad5 hRT;have Hg:=Ad5 hgk;have Hs:=Ad5 hsT;have Hk:=Ad5 (Jy d1);obtain ⟨g,cap,va,vb,us',rfl,hcap,hbg,hgl,q0,q1,hd1,he1,hP1⟩:=hP.top;have Wn:IntKind.i64.wrap ((T.length:Int)+1 - 1)=(T.length:Int):=by rw [Aej _ (by omega)];omega
    have hcp2:(T.length:Int)≤(cap:Int):=by omega
    have hcp3:¬ cap=0:=by omega
    have hT8:T.length≤4000000:=by omega
    clear hRT hgk hsT hP hlT;go_upto_region 3 with fail;go_cut [6] from 18 (fun x wx=>∃ p,x=.pointer (some ⟨p,0,none⟩)∧wx.cell? ⟨p,0,none⟩=some va∧wx.cell? ⟨p,1,none⟩=some vb∧p < wx.heap.size∧Below wr.heap.size wr wx)
    case first=>
     have h1:(∃ T q,va=.iface T q)∨va=.nilIface:=hd1.elim fun _ h=>Ax h
     have h2:(∃ T q,vb=.iface T q)∨vb=.nilIface:=he1.elim fun _ h=>Ax h
     clear hd1 he1 hP1;rcases h1 with ⟨T1,q1,rfl⟩ | rfl
     all_goals
      rcases h2 with ⟨T2,q2,rfl⟩ | rfl
      all_goals
       go_wp2_with fail
       go_meet;have hbk:=fun a b=>Blk.new wr #[a,b] 82 _ rfl
       exact ⟨_,rfl,((hbk _ _).cell 0).trans rfl,((hbk _ _).cell 1).trans rfl,(hbk _ _).lt,(Aeh wr.heap.size wr).alloc (Aec _) _⟩
    case rest=>
     obtain ⟨p,rfl,p0,p1,hpl,hV⟩:=hcut;clear q0 q1;replace hd1:=hd1.below hV;replace he1:=he1.below hV;replace hP1:=hP1.mem hV;replace hW:=hW.trans (hV.mono hW.size);have hgl2:g < wc.heap.size:=Aef hgl hV.size;have hI1:=fun w' (hb:Below wc.heap.size wc w')=>Iu d1 va w' (hd1.below hb)
     have hI2:=fun w' (hb:Below wc.heap.size wc w')=>Iu e1 vb w' (he1.below hb)
     have hAl:=fun w' (hb:Below wc.heap.size wc w')=>Ut d1 e1 va vb w' (hd1.below hb) (he1.below hb)
     clear hV;generalize Ck d1=l at hI1 Hr Hk;generalize Ck e1=m at hI2 Hr;generalize EE d1 e1=hh at hAl Hr;clear hd1 he1;go_upto_region 5 with fail;go_cut [7,8] from 29 (fun x z wx=>∃ a1 c1 a2 c2,x=.slice a1 l.length c1∧z=.slice a2 m.length c2∧AW (Off (.slice (some ⟨g,0,none⟩) T.length cap)) wx l a1 c1∧AW (Off (.slice (some ⟨g,0,none⟩) T.length cap)) wx m a2 c2∧Below wc.heap.size wc wx)
     case first=>
      clear hAl
      go_region_with (first
       | (go_at_call_of 35 va;refine (hI1 _ (by first | exact hX9 | exact Below.drew (Aeh _ _))).mono ?_;rintro r w8 ⟨a1,c1,rfl,hR1,b8⟩;have hX8:Below wc.heap.size wc w8:=(by first | exact hX9.trans (b8.mono hX9.size) | exact (Below.drew (Aeh _ _)).trans b8);have k80:=(hX8.cell (p:=⟨p,0,none⟩) hpl).trans p0;have k81:=(hX8.cell (p:=⟨p,1,none⟩) hpl).trans p1;replace hR1:=OK (n':=T.length) hR1 (by first | exact Aef hgl2 hX9.size | exact hgl2);(try have hR2':=hR2.below b8))
       | (go_at_call_of 35 vb;refine (hI2 _ (by first | exact hX8 | exact Below.drew (Aeh _ _))).mono ?_;rintro r w9 ⟨a2,c2,rfl,hR2,b9⟩;have hX9:Below wc.heap.size wc w9:=(by first | exact hX8.trans (b9.mono hX8.size) | exact (Below.drew (Aeh _ _)).trans b9);have k90:=(hX9.cell (p:=⟨p,0,none⟩) hpl).trans p0;have k91:=(hX9.cell (p:=⟨p,1,none⟩) hpl).trans p1;replace hR2:=OK (n':=T.length) hR2 (by first | exact Aef hgl2 hX8.size | exact hgl2);(try have hR1':=hR1.below b9)))
      all_goals go_wp2_with fail
      all_goals go_meet
      all_goals first | exact ⟨a1,c1,a2,c2,rfl,rfl,hR1',hR2,hX9⟩ | exact ⟨a1,c1,a2,c2,rfl,rfl,hR1,hR2',hX8⟩
     case rest=>
      obtain ⟨a1,c1,a2,c2,rfl,rfl,hR1,hR2,hV⟩:=hcut;have hA2:=hAl _ hV;clear hAl hI1 hI2;have k0:=(hV.cell (p:=⟨p,0,none⟩) hpl).trans p0;have k1:=(hV.cell (p:=⟨p,1,none⟩) hpl).trans p1;clear p0 p1;replace hP1:=hP1.mem hV;replace hW:=hW.trans (hV.mono hW.size);clear hV;cases hh
      ·have Hf:=Ad5 (show R=false by rw [Hr.out,Bool.false_and,Bool.and_false]);go_wp2_with (go_at_call 36;refine hA2.mono ?_;rintro r w3 ⟨rfl,b3⟩)
       go_ret;exact ⟨IP Hf.out.symm,hW.trans (b3.mono hW.size)⟩
      ·by_cases hl:l.length=m.length
       ·have e1:((l.length:Int) != (m.length:Int))=false:=by simp [hl]
        have Hl:=Ad5 hl;have HRn:=Ad5 (show R=FV (T++l.zip m) by rw [Hr.out,Nj,QW _ _ hl];rfl);have Hgn:=Ad5 (show DG (T++l.zip m)+1 < gk by have h1:=Hg.out;have h2:=Hk.out;rw [Fs,LN _ _ hl];omega);have Hsn:=Ad5 (show DG (T++l.zip m)≤4000000 by have h1:=Hs.out;have h2:=Hk.out;rw [Fs,LN _ _ hl];omega);have hbd:T.length+l.length+1≤4000000:=by have h1:=Hs.out;have h2:=Hk.out;have h3:=LO T;have h4:=Gt l;omega
        have hq1:=hR1.1;have hq2:=hR1.2.1;have hq3:=hR2.1;have hq4:=hR2.2.1;unfold maxLen at hq2 hq4;clear hl Hr Hg Hs Hk HR;go_wp2_with (go_at_call 36;refine hA2.mono ?_;rintro r w3 ⟨rfl,b3⟩)
        replace hP1:=hP1.mem b3;replace hR1:=hR1.below b3;replace hR2:=hR2.below b3;replace hW:=hW.trans (b3.mono hW.size);clear b3 hA2 k0 k1;go_loopw [5,50] (fun tv i wq=>∃ (k:Nat) (us2:List Value) (pv:Value),k≤l.length∧i=.int .i64 k∧pv=tv∧Prs w.heap.size wq (T++(l.zip m).take k) pv us2∧AW (Off pv) wq l a1 c1∧AW (Off pv) wq m a2 c2∧Below w.heap.size w wq) (fun _ i _=>l.length - (intOf i).toNat)
        case atStart=>exact ⟨0,us',_,Nat.zero_le _,rfl,rfl,by rw [List.take_zero,List.append_nil];exact hP1,hR1,hR2,hW⟩
        case round=>
         clear hP1 hR1 hR2 hW;obtain ⟨k,us2,pv,hk,rfl,hpv,hP,hR1,hR2,hW⟩:=hrel;subst hpv;by_cases hlt:k < l.length
         ·have hkm:k < m.length:=by have:=Hl.out;omega
          obtain ⟨b1,o1,rfl,_,hb1,hx1⟩:=hR1.2.2 (by omega);obtain ⟨b2,o2,rfl,_,hb2,hx2⟩:=hR2.2.2 (by omega);obtain ⟨u1,hu1,hn1⟩:=hx1 k hlt;obtain ⟨u2,hu2,hn2⟩:=hx2 k hkm;have Hz:=Ad5 (Xn l m k hlt hkm);have hlen2:(T++(l.zip m).take k).length=T.length+k:=by have:=Hl.out;rw [Aee,List.length_take,List.length_zip];omega
          have hA:=fun o=>(Aeh wr.heap.size wr).alloc (Aec _) o
          have hPd:=fun o=>hP.mem (hA o)
          have hrow:=fun o=>(hPd o).row
          rw [hlen2] at hrow;have hm1:T.length+k+1≤maxLen:=by unfold maxLen;omega
          have hm2:(T.length+k+1) * 32≤140737488355328:=by omega
          clear hx1 hx2;have hPush:∀ (o:Obj) (w4:World) (v4:Value),w4.ownsRow w.heap.size 82 2 v4 (T.length+k+1) (us2++[u1,u2])→(wr.alloc o).grownBy w4 pv.ownBlock→(v4.ownBlock=pv.ownBlock∨v4.ownBlock=some (wr.alloc o).heap.size)→
            Prs w.heap.size w4 (T++(l.zip m).take (k+1)) v4 (us2++[u1,u2])∧AW (Off v4) w4 l (some ⟨b1,o1,none⟩) c1∧AW (Off v4) w4 m (some ⟨b2,o2,none⟩) c2∧Below w.heap.size w w4:=by
           intro o w4 v4 hown hgrow hat;have hkp:=LP hgrow hat
           refine ⟨?_,(hR1.below (hA o)).keep hgrow.size hkp,(hR2.below (hA o)).keep hgrow.size hkp,(hW.trans ((hA o).mono hW.size)).grown hgrow (Aed hW.size (hA o).size) (fun k hk=>(hP.row.lt k hk).1)⟩;rw [Hz.out,←List.append_assoc];exact (hPd o).push (hn1.below (hA o)) (hn2.below (hA o)) (by rw [hlen2];exact hown) hgrow hat
          have h1:(∃ T q,u1=.iface T q)∨u1=.nilIface:=hn1.elim fun _ h=>Ax h
          have h2:(∃ T q,u2=.iface T q)∨u2=.nilIface:=hn2.elim fun _ h=>Ax h
          have hbase:=fun o=>Aed hW.size (hA o).size
          clear hPd hR1 hR2 hW hP hn1 hn2 hA hlen2;rcases h1 with ⟨T1,r1,rfl⟩ | rfl
          all_goals
           rcases h2 with ⟨T2,r2,rfl⟩ | rfl
           all_goals
            go_wp2_with (at_builtin;refine Af _ rfl _ _ 83 rfl w.heap.size 82 i0 (.agg #[.nilIface,.nilIface]) 2 32 Tryz.underlying83 hi hz0 hz1 hz2 rfl (by decide) _ _ _ rfl (hrow _) (some ⟨wr.heap.size,0,none⟩) 1 1 [_,_] rfl rfl (fun _=>⟨_,rfl,cell_two_new _ _ _ _⟩) (by intro y hy;simp at hy;rcases hy with rfl | rfl <;> rfl) hm1 hm2 (hbase _) ?_;intro v4 w4 hown hgrow hat)
            obtain ⟨g1,g2,g3,g4⟩:=hPush _ _ _ hown hgrow hat;clear hrow hbase hPush hown hgrow hat;go_roundw
            case rel=>exact ⟨k+1,_,_,by omega,by go_num,rfl,g1,g2,g3,g4⟩
            case measure=>simp [intOf];omega
         ·obtain rfl:k=l.length:=by omega
          have hz2:(l.zip m).take l.length=l.zip m:=List.take_of_length_le (by rw [List.length_zip];omega);rw [hz2] at hP;go_wp2_with fail
          go_roundg (DG (T++l.zip m)+1)
          case measure=>exact Hgn.out
          case rel=>exact ⟨_,_,_,rfl,hP,HRn.out,Aec _,Hsn.out,hW⟩
       ·have e1:((l.length:Int) != (m.length:Int))=true:=by simp;omega
        have Hf:=Ad5 (show R=false by rw [Hr.out,Pe _ _ hl,Bool.and_false,Bool.and_false]);clear hl;go_wp2_with (go_at_call 36;refine hA2.mono ?_;rintro r w3 ⟨rfl,b3⟩)
        go_ret;exact ⟨IP Hf.out.symm,hW.trans (b3.mono hW.size)⟩
def I7 (x y:Adr):Bool:=
 if x.kind=y.kind then (if x.kind=1∨x.kind=4 then decide (x.line=y.line) else if x.kind=3 then (match x.tree,y.tree with | some d,some e=>Dh d e | _,_=>true) else true) else false
def Cb (x y:Adr) (R:Bool):Bool:=
 if x.kind=y.kind then (if x.kind=1∨x.kind=4 then R else if x.kind=3 then (match x.tree,y.tree with | some d,some e=>Dh d e | _,_=>true) else true) else false
theorem Ij (x y:Adr):Cb x y (decide ((x.line:Int)=(y.line:Int)))=I7 x y:=by
 unfold Cb I7;rw [show decide ((x.line:Int)=(y.line:Int))=decide (x.line=y.line) from decide_eq_decide.2 (by omega)]
theorem IT (x:Adr):I7 x x=true:=by
 unfold I7;rw [if_pos rfl];split
 ·simp
 ·split
  ·cases x.tree with
   | none=>rfl
   | some d=>exact DX d
  ·rfl
def Bq (x:Adr):Prop:=x.kind=3→∃ d,x.tree=some d∧Aw d≤4000000
theorem K9 (x y:Adr) (lx ly:Int) (sx sy:ByteArray) (tx ty:Value) (w:World) (hx:TrO (fun b=>b < w.heap.size) w x.tree tx) (hy:TrO (fun b=>b < w.heap.size) w y.tree ty) (fx:Bq x) (fy:Bq y) :
  Calls Tryz.prog 27 #[.agg #[.int .i64 (x.kind:Int),.int .i64 lx,.string sx,tx],.agg #[.int .i64 (y.kind:Int),.int .i64 ly,.string sy,ty]] w fun e w'=>e=.returned (.bool (Cb x y (decide (lx=ly))))∧Below w.heap.size w w':=by
 have hw2:∀ W2,Below w.heap.size w W2→∀ {t v},TrO (fun b=>b < w.heap.size) w t v→TrO (fun b=>b < W2.heap.size) W2 t v:=fun W2 hb t v h=>TrO.keep hb.size (fun b hb1 hl=>⟨Aef hl hb.size,fun o=>hb.cell (p:=⟨b,o,none⟩) hl⟩) h
 have hX:=Blk.new w #[.int .i64 (x.kind:Int),.int .i64 lx,.string sx,tx] 40 _ rfl;have hb1:=(Aeh w.heap.size w).alloc (Aec _) (.cells #[.int .i64 (x.kind:Int),.int .i64 lx,.string sx,tx] 40);have hs1:=World.size_alloc w (.cells #[.int .i64 (x.kind:Int),.int .i64 lx,.string sx,tx] 40);obtain ⟨W1,hW1⟩:∃ W1,w.alloc (.cells #[.int .i64 (x.kind:Int),.int .i64 lx,.string sx,tx] 40)=W1:=⟨_,rfl⟩;rw [hW1] at hX hb1 hs1;have hY:=Blk.new W1 #[.int .i64 (y.kind:Int),.int .i64 ly,.string sy,ty] 40 _ rfl;have hb2:=hb1.alloc hb1.size (.cells #[.int .i64 (y.kind:Int),.int .i64 ly,.string sy,ty] 40);replace hX:=hX.alloc (.cells #[.int .i64 (y.kind:Int),.int .i64 ly,.string sy,ty] 40);obtain ⟨W2,hW2⟩:∃ W2,W1.alloc (.cells #[.int .i64 (y.kind:Int),.int .i64 ly,.string sy,ty] 40)=W2:=⟨_,rfl⟩;rw [hW2] at hX hY hb2;obtain ⟨p,hp⟩:∃ p,W1.heap.size=p:=⟨_,rfl⟩;rw [hp] at hY;obtain ⟨x0,x1,x2,x3,_,_,_,_,hxl⟩:=Be hX;obtain ⟨y0,y1,y2,y3,_,_,_,_,hyl⟩:=Be hY;have HB:=Ad5 hb2;have HX:=Ad5 (hw2 _ hb2 hx);have HY:=Ad5 (hw2 _ hb2 hy);have hshx:=hx.shape;have hshy:=hy.shape;clear hX hY hb1 hb2 hs1 hx hy hw2;by_cases hk:x.kind=y.kind
 ·have hkk:((x.kind:Int) != (y.kind:Int))=false:=by simp [hk]
  by_cases h14:x.kind=1∨x.kind=4
  ·rw [show Cb x y (decide (lx=ly))=decide (lx=ly) by unfold Cb;rw [if_pos hk,if_pos h14]];have hl:(lx == ly)=decide (lx=ly):=by
    by_cases h:lx=ly
    ·rw [decide_eq_true h];simp [h]
    ·rw [decide_eq_false h];simp;omega
   generalize decide (lx=ly)=R at hl ⊢;rcases h14 with h | h
   ·have q1:((x.kind:Int) == 1)=true:=by simp [h]
    clear h hk fx fy;rcases hshx with ⟨T8,q8,rfl⟩ | rfl <;> rcases hshy with ⟨T9,q9,rfl⟩ | rfl
    all_goals
     go_enter Tryz.func27,Tryz.ntmps27;go_wp2_with fail
     go_ret;exact ⟨rfl,HB.out⟩
   ·have q1:((x.kind:Int) == 1)=false:=by simp [h]
    have q4:((x.kind:Int) == 4)=true:=by simp [h]
    clear h hk fx fy;rcases hshx with ⟨T8,q8,rfl⟩ | rfl <;> rcases hshy with ⟨T9,q9,rfl⟩ | rfl
    all_goals
     go_enter Tryz.func27,Tryz.ntmps27;go_wp2_with fail
     go_ret;exact ⟨rfl,HB.out⟩
  ·have q1:((x.kind:Int) == 1)=false:=by simp;omega
   have q4:((x.kind:Int) == 4)=false:=by simp;omega
   by_cases h3:x.kind=3
   ·obtain ⟨d,hd,hsz⟩:=fx h3;obtain ⟨e,he,_⟩:=fy (hk▸h3);rw [show Cb x y (decide (lx=ly))=Dh d e by unfold Cb;rw [if_pos hk,if_neg h14,if_pos h3,hd,he]];have q3:((x.kind:Int) == 3)=true:=by simp [h3]
    have hX:=HX.out;have hY:=HY.out;rw [hd] at hX;rw [he] at hY;have hS:=LQ d e tx ty W2 hX hY hsz;generalize Dh d e=R at hS ⊢;clear hk h14 h3 fx fy hX hY hd he;rcases hshx with ⟨T8,q8,rfl⟩ | rfl <;> rcases hshy with ⟨T9,q9,rfl⟩ | rfl
    all_goals
     go_enter Tryz.func27,Tryz.ntmps27;go_wp2_with (go_at_call 28;refine hS.mono ?_;clear hS;rintro e w3 ⟨rfl,b3⟩)
     go_ret;exact ⟨rfl,HB.out.trans (b3.mono HB.out.size)⟩
   ·rw [show Cb x y (decide (lx=ly))=true by unfold Cb;rw [if_pos hk,if_neg h14,if_neg h3]];have q3:((x.kind:Int) == 3)=false:=by simp;omega
    clear hk h14 h3 fx fy;rcases hshx with ⟨T8,q8,rfl⟩ | rfl <;> rcases hshy with ⟨T9,q9,rfl⟩ | rfl
    all_goals
     go_enter Tryz.func27,Tryz.ntmps27;go_wp2_with fail
     go_ret;exact ⟨rfl,HB.out⟩
 ·rw [show Cb x y (decide (lx=ly))=false by unfold Cb;rw [if_neg hk]];have hkk:((x.kind:Int) != (y.kind:Int))=true:=by simp;omega
  clear hk fx fy;rcases hshx with ⟨T8,q8,rfl⟩ | rfl <;> rcases hshy with ⟨T9,q9,rfl⟩ | rfl
  all_goals
   go_enter Tryz.func27,Tryz.ntmps27;go_wp2_with fail
   go_ret;exact ⟨rfl,HB.out⟩
def QY (g h:Grd):Bool:=g.no == h.no && (I7 g.a h.a && I7 g.b h.b)
def Nk (g h:Grd) (R1 R2:Bool):Bool:=g.no == h.no && (Cb g.a h.a R1 && Cb g.b h.b R2)
structure Gd3 (B:Nat) (g h:Grd) (ta tb tc td:Value) (W:World):Prop where
 a:TrO (fun b=>b < B) W g.a.tree ta
 b:TrO (fun b=>b < B) W g.b.tree tb
 c:TrO (fun b=>b < B) W h.a.tree tc
 d:TrO (fun b=>b < B) W h.b.tree td
abbrev Gd2 (g h:Grd) (ta tb tc td:Value) (W:World):Prop:=Gd3 W.heap.size g h ta tb tc td W
theorem Jq {F:Nat→Prop} {w:World} {t:Option Nd} {v:Value} (h:TrO F w t v):TrO (fun b=>b < w.heap.size) w t v:=TrO.keep (Aec _) (fun _ _ hl=>⟨hl,fun _=>rfl⟩) h
theorem Gd3.keep {B:Nat} {g h:Grd} {ta tb tc td:Value} {w W:World} (k:Gd3 B g h ta tb tc td w) (hs:w.heap.size≤W.heap.size) (hb:∀ b,b < B→W.heap[b]?=w.heap[b]?):Gd3 B g h ta tb tc td W:=by
 have e:∀ {t:Option Nd} {v:Value},TrO (fun b=>b < B) w t v→TrO (fun b=>b < B) W t v:=fun k=>TrO.keep hs (fun b h1 _=>⟨h1,fun o=>Aek (w:=w) (a:=⟨b,o,none⟩) (hb b h1)⟩) k
 exact ⟨e k.a,e k.b,e k.c,e k.d⟩
theorem Gd3.wide {B:Nat} {g h:Grd} {ta tb tc td:Value} {W:World} (k:Gd3 B g h ta tb tc td W):Gd2 g h ta tb tc td W:=⟨Jq k.a,Jq k.b,Jq k.c,Jq k.d⟩
theorem DE {w W:World} (hb:Below w.heap.size w W) {t:Option Nd} {v:Value} (h:TrO (fun b=>b < w.heap.size) w t v):TrO (fun b=>b < W.heap.size) W t v:=
 TrO.keep hb.size (fun b _ hl=>⟨Aef hl hb.size,fun o=>hb.cell (p:=⟨b,o,none⟩) hl⟩) h
theorem QZ {g h:Grd} {ta tb tc td:Value} {w W:World} (k:Gd2 g h ta tb tc td w) (hb:Below w.heap.size w W):Gd2 g h ta tb tc td W:=⟨DE hb k.a,DE hb k.b,DE hb k.c,DE hb k.d⟩
theorem Ra (g h:Grd) (la lb lc ld:Int) (sa sb sc sd:ByteArray) (ta tb tc td:Value) (w:World) (k:Gd2 g h ta tb tc td w) (fa:Bq g.a) (fb:Bq g.b) (fc:Bq h.a) (fd:Bq h.b) :
  Calls Tryz.prog 19 #[.agg #[.int .i64 (g.a.kind:Int),.int .i64 la,.string sa,ta,.int .i64 (g.b.kind:Int),.int .i64 lb,.string sb,tb,.bool g.no],.agg #[.int .i64 (h.a.kind:Int),.int .i64 lc,.string sc,tc,.int .i64 (h.b.kind:Int),.int .i64 ld,.string sd,td,.bool h.no]] w fun e w'=>e=.returned (.bool (Nk g h (decide (la=lc)) (decide (lb=ld))))∧Below w.heap.size w w':=by
 have hX:=Blk.new w #[.int .i64 (g.a.kind:Int),.int .i64 la,.string sa,ta,.int .i64 (g.b.kind:Int),.int .i64 lb,.string sb,tb,.bool g.no] 42 _ rfl;have hb1:=(Aeh w.heap.size w).alloc (Aec _) (.cells #[.int .i64 (g.a.kind:Int),.int .i64 la,.string sa,ta,.int .i64 (g.b.kind:Int),.int .i64 lb,.string sb,tb,.bool g.no] 42);obtain ⟨W1,hW1⟩:∃ W1,w.alloc (.cells #[.int .i64 (g.a.kind:Int),.int .i64 la,.string sa,ta,.int .i64 (g.b.kind:Int),.int .i64 lb,.string sb,tb,.bool g.no] 42)=W1:=⟨_,rfl⟩;rw [hW1] at hX hb1;have hY:=Blk.new W1 #[.int .i64 (h.a.kind:Int),.int .i64 lc,.string sc,tc,.int .i64 (h.b.kind:Int),.int .i64 ld,.string sd,td,.bool h.no] 42 _ rfl;have hb2:=hb1.alloc hb1.size (.cells #[.int .i64 (h.a.kind:Int),.int .i64 lc,.string sc,tc,.int .i64 (h.b.kind:Int),.int .i64 ld,.string sd,td,.bool h.no] 42);replace hX:=hX.alloc (.cells #[.int .i64 (h.a.kind:Int),.int .i64 lc,.string sc,tc,.int .i64 (h.b.kind:Int),.int .i64 ld,.string sd,td,.bool h.no] 42);obtain ⟨W2,hW2⟩:∃ W2,W1.alloc (.cells #[.int .i64 (h.a.kind:Int),.int .i64 lc,.string sc,tc,.int .i64 (h.b.kind:Int),.int .i64 ld,.string sd,td,.bool h.no] 42)=W2:=⟨_,rfl⟩;rw [hW2] at hX hY hb2;obtain ⟨p,hp⟩:∃ p,W1.heap.size=p:=⟨_,rfl⟩;rw [hp] at hY;have HX:=Ad5 hX;have HY:=Ad5 hY;obtain ⟨⟨x0,x1,x2,x3,x4,x5,x6,x7,x8⟩,_,_,_,_,_,_,_,_,_,hxl⟩:=BT hX;obtain ⟨⟨y0,y1,y2,y3,y4,y5,y6,y7,y8⟩,_,_,_,_,_,_,_,_,_,hyl⟩:=BT hY;have HB:=Ad5 hb2;have hK:=QZ k hb2;have hs1:=K9 g.a h.a la lc sa sc ta tc W2 hK.a hK.c fa fc;have hs2:=fun w' (hb:Below W2.heap.size W2 w')=>K9 g.b h.b lb ld sb sd tb td w' (QZ hK hb).b (QZ hK hb).d fb fd
 clear hX hY hb1 hb2 k hK fa fb fc fd;unfold Nk;generalize Cb g.a h.a (decide (la=lc))=R1 at hs1 ⊢;generalize Cb g.b h.b (decide (lb=ld))=R2 at hs2 ⊢;obtain ⟨n,hn⟩:∃ n,(g.no == h.no)=n:=⟨_,rfl⟩;rw [hn];cases n
 ·clear hs1 hs2;go_enter Tryz.func19,Tryz.ntmps19;go_wp2_with fail
  go_ret;exact ⟨rfl,HB.out⟩
 ·cases R1
  ·clear hs2;go_enter Tryz.func19,Tryz.ntmps19;go_wp2_with (go_at_call 27;refine hs1.mono ?_;clear hs1;rintro e w3 ⟨rfl,b3⟩)
   go_ret;exact ⟨rfl,HB.out.trans (b3.mono HB.out.size)⟩
  ·go_enter Tryz.func19,Tryz.ntmps19;go_wp2_with (first
    | (go_at_call 27;refine hs1.mono ?_;clear hs1;rintro e w3 ⟨rfl,b3⟩;have hs4:=hs2 w3 b3;clear hs2;have B3:=Ad5 (HB.out.trans (b3.mono HB.out.size));have X3:=Ad5 (HX.out.below b3 HX.out.lt);have Y3:=Ad5 (HY.out.below b3 HY.out.lt);clear b3 x0 x1 x2 x3 x4 x5 x6 x7 x8 hxl y0 y1 y2 y3 y4 y5 y6 y7 y8 hyl;obtain ⟨⟨x0,x1,x2,x3,x4,x5,x6,x7,x8⟩,_,_,_,_,_,_,_,_,_,hxl⟩:=BT X3.out;obtain ⟨⟨y0,y1,y2,y3,y4,y5,y6,y7,y8⟩,_,_,_,_,_,_,_,_,_,hyl⟩:=BT Y3.out)
    | (go_at_call 27;refine hs4.mono ?_;clear hs4;rintro e w4 ⟨rfl,b4⟩))
   go_ret;exact ⟨rfl,B3.out.trans (b4.mono B3.out.size)⟩
theorem Rb (g h:Grd) (ta tb tc td:Value) (w:World) (k:Gd2 g h ta tb tc td w) (fa:Bq g.a) (fb:Bq g.b) (fc:Bq h.a) (fd:Bq h.b) :
  Calls Tryz.prog 19 #[.agg #[.int .i64 (g.a.kind:Int),.int .i64 (g.a.line:Int),.string (txt g.a.text),ta,.int .i64 (g.b.kind:Int),.int .i64 (g.b.line:Int),.string (txt g.b.text),tb,.bool g.no],.agg #[.int .i64 (h.a.kind:Int),.int .i64 (h.a.line:Int),.string (txt h.a.text),tc,.int .i64 (h.b.kind:Int),.int .i64 (h.b.line:Int),.string (txt h.b.text),td,.bool h.no]] w fun e w'=>e=.returned (.bool (QY g h))∧Below w.heap.size w w':=by
 have e:=Ra g h g.a.line g.b.line h.a.line h.b.line (txt g.a.text) (txt g.b.text) (txt h.a.text) (txt h.b.text) ta tb tc td w k fa fb fc fd;unfold Nk at e
 rwa [Ij,Ij] at e
theorem GI {ext:Bool} {L:List UInt8} {b:Nat} {d:UInt8} {q:(List UInt8 × Nd) × List Wm × Nat} (h:Ar ext L b d=.ok q):Aw q.1.2≤4000000:=by
 unfold Ar at h;simp only at h;split at h
 ·split at h
  ·cases h
  ·split at h
   ·cases h
   ·rename_i q' hp;injection h with h;subst h;have:=PB (st:=q'.1) (d:=q'.2) hp;show Aw q'.2≤_;omega
 ·cases h
theorem LR {ext:Bool} {L:List UInt8} {b:Nat} {d:UInt8} {q:Adr × List Wm × Nat} (h:En ext L b d=.ok q):Bq q.1:=by
 unfold En at h;split at h
 ·cases h
 ·rename_i hp;injection h with h;subst h;exact fun _=>⟨_,rfl,GI hp⟩
theorem Ev {a:Adr} (h:a.kind≠3):Bq a:=fun h3=>absurd h3 h
theorem OL {ext second:Bool} {L:List UInt8} {k:Nat} {q:Adr × List Wm × Nat} (h:EY ext second L k=.ok q):Bq q.1:=by
 unfold EY at h;split at h
 ·injection h with h;subst h;exact Ev (Nat.ne_of_lt (Nat.lt_of_sub_eq_succ rfl))
 ·split at h
  ·unfold Dt at h;simp only at h;split at h
   ·split at h
    ·cases h
    ·injection h with h;subst h;exact Ev (Nat.ne_of_lt (Nat.lt_of_sub_eq_succ rfl))
   ·cases h
  ·split at h
   ·injection h with h;subst h;exact Ev (Nat.ne_of_lt (Nat.lt_of_sub_eq_succ rfl))
   ·split at h
    ·exact LR h
    ·split at h
     ·unfold EP at h;split at h
      ·cases h
      ·split at h
       ·cases h
       ·exact LR h
     ·split at h
      ·unfold Du at h;simp only at h;split at h
       ·injection h with h;subst h;exact Ev (Nat.ne_of_gt (Nat.lt_of_sub_eq_succ rfl))
       ·cases h
      ·injection h with h;subst h;exact Ev (Nat.ne_of_lt (Nat.lt_of_sub_eq_succ rfl))
theorem Xo {ext:Bool} {L:List UInt8} {k:Nat} {q:Grd × List Wm × Nat} (h:Jd ext L k=.ok q):Bq q.1.a∧Bq q.1.b:=by
 unfold Jd at h;cases h1:EY ext false L k with
 | error q=>rw [h1] at h;cases h
 | ok r=>
  rw [h1] at h;have f1:=OL h1;unfold Eo at h;simp only at h;split at h
  ·unfold GB FF at h;simp only at h;split at h
   ·cases h
   ·injection h with h;subst h;exact ⟨f1,Ev (show (0:Nat)≠3 by decide)⟩
  ·cases h2:Ce ext L r.2.2 with
   | error q=>rw [h2] at h;cases h
   | ok r2=>
    rw [h2] at h;have f2:Bq r2.1:=by
     unfold Ce at h2;split at h2
     ·unfold E4 at h2;split at h2
      ·cases h2
      ·rename_i h3;split at h2
       ·cases h2
       ·injection h2 with h2;subst h2;exact OL h3
     ·injection h2 with h2;subst h2;exact Ev (show (0:Nat)≠3 by decide)
    unfold FE GB FF at h;simp only at h;split at h
    ·cases h
    ·injection h with h;subst h;exact ⟨f1,f2⟩
theorem Si {ext:Bool} {L:List UInt8} {k:Nat} {q:Nat × Nat} (h:Jd ext L k=.error q):q.1≠0:=by
 unfold Jd at h;cases h1:EY ext false L k with
 | error q2=>
  rw [h1] at h;have e:=Jn h1;unfold Eo GB at h;injection h with h;rw [←h];exact e
 | ok r=>
  rw [h1] at h;unfold Eo at h;simp only at h;split at h
  ·unfold GB FF at h;simp only at h;split at h
   ·rename_i h2;injection h with h;rw [←h];exact Gp h2
   ·cases h
  ·cases h2:Ce ext L r.2.2 with
   | error q2=>
    rw [h2] at h;have e:=LE h2;unfold FE GB at h;injection h with h;rw [←h];exact e
   | ok r2=>
    rw [h2] at h;unfold FE GB FF at h;simp only at h;split at h
    ·rename_i h3;injection h with h;rw [←h];exact Gp h3
    ·cases h
theorem Aag {ext:Bool} {L:List UInt8} {d:UInt8} {st:CS} (hk:st.k≤L.length) (h0:(DL ext L d st).1=0):(DL ext L d st).2.k≤L.length∧(DL ext L d st).2.ms.length≤st.ms.length+250∧∃ D,(DL ext L d st).2.c.sub.tree=some D∧Aw D≤4000000:=by
 unfold DL at h0 ⊢;cases hR:Ar ext L st.k d with
 | error q=>rw [hR] at h0;exact absurd h0 (DT hR)
 | ok q=>
  obtain ⟨h1,h2⟩:=Kv hk hR;refine ⟨h1,?_,_,rfl,GI hR⟩;show (st.ms++q.2.1).length≤_;rw [Aee];omega
theorem Xp (w:World) (p:Nat) (s:ByteArray) (ext:Bool) (st:CS) (W:World) (h:Do w p s ext st W) (hs:s.size≤4000) (hk:st.k≤s.size) (hl:st.ms.length≤90000) (hG:Gl w) (hP:GP w) :
  Calls Tryz.prog 48 #[.pointer (some ⟨p,0,none⟩)] W fun e W'=>e=.returned (.int .i64 ((C8 ext s.data.toList st).1:Int))∧Do w p s ext (C8 ext s.data.toList st).2 W':=by
 have hs4:s.size≤4000000:=by omega
 have hA:=O9 w p s ext st W h hs4 hk;have hk1:=Fi (L:=s.data.toList) (st:=st) (by rw [←Ad];exact hk);have hm1:=Hj s.data.toList st;rw [←Ad] at hk1;obtain ⟨Z,hZ⟩:∃ Z,C8 ext s.data.toList st=Z:=⟨_,rfl⟩;rw [hZ];unfold C8 at hZ;obtain ⟨⟨d,e1,s1⟩,hR1⟩:∃ R,A8 s.data.toList st=R:=⟨_,rfl⟩;rw [hR1] at hA hk1 hm1 hZ;simp only at hA hk1 hm1 hZ;unfold CO.then at hZ
 simp only at hZ;clear hR1 h;by_cases h1:e1=0
 ·subst h1;rw [if_pos rfl] at hZ;have hB:=fun W1 (h1:Do w p s ext s1 W1)=>Zz w p s ext s1 d W1 h1 hs4 hk1 (by rw [hm1];exact hl) hG hP
  have hok2:=Aag (ext:=ext) (d:=d) (st:=s1) (L:=s.data.toList) (by rw [←Ad];exact hk1);obtain ⟨⟨e2,s2⟩,hR2⟩:∃ R,DL ext s.data.toList d s1=R:=⟨_,rfl⟩;rw [hR2] at hB hok2 hZ;simp only at hB hok2 hZ;clear hR2;by_cases h2:e2=0
  ·subst h2;rw [if_pos rfl] at hZ;obtain ⟨hk2,hm2,D,hD,hDz⟩:=hok2 rfl;rw [←Ad] at hk2;have hC:=fun W1 (h1:Do w p s ext s2 W1)=>Xf w p s ext s2 d D W1 h1 hD hDz hs hk2 hP
   have hk3:=Je (L:=s.data.toList) (d:=d) (st:=s2) (by rw [←Ad];exact hk2);have hm3:=V8 s.data.toList d s2;rw [←Ad] at hk3;obtain ⟨⟨e3,s3⟩,hR3⟩:∃ R,CL s.data.toList d s2=R:=⟨_,rfl⟩;rw [hR3] at hC hk3 hm3 hZ;simp only at hC hk3 hm3 hZ;by_cases h3:e3=0
   ·subst h3;rw [if_pos rfl,←Ad] at hZ;have hE:=fun W1 (h1:Do w p s ext s3 W1)=>QI w p s ext s3 W1 h1 hs4 hk3 (by rw [hm3];rw [hm1] at hm2;omega)
    rw [hZ] at hE;clear hR3 hZ hok2 hD hDz hk3 hm3 hm2 hk2 hm1 hk1 hG hP hl hk;go_enter Tryz.func48,Tryz.ntmps48;go_wp2_with (first
     | (go_at_call 72;refine hA.mono ?_;clear hA;rintro e w1 ⟨rfl,h1⟩)
     | (go_at_call 73;refine (hB _ h1).mono ?_;clear hB;rintro e w2 ⟨rfl,h2⟩)
     | (go_at_call 74;refine (hC _ h2).mono ?_;clear hC;rintro e w3 ⟨rfl,h3⟩)
     | (go_at_call 75;refine (hE _ h3).mono ?_;clear hE;rintro e w4 ⟨rfl,h4⟩))
    go_ret;exact ⟨rfl,h4⟩
   ·rw [if_neg h3] at hZ;subst hZ;have ce:((e3:Int) != 0)=true:=by simpa using h3
    clear hR3 hok2 hD hDz hk3 hm3 hm2 hk2 hm1 hk1 hG hP hl hk h3;go_enter Tryz.func48,Tryz.ntmps48;go_wp2_with (first
     | (go_at_call 72;refine hA.mono ?_;clear hA;rintro e w1 ⟨rfl,h1⟩)
     | (go_at_call 73;refine (hB _ h1).mono ?_;clear hB;rintro e w2 ⟨rfl,h2⟩)
     | (go_at_call 74;refine (hC _ h2).mono ?_;clear hC;rintro e w3 ⟨rfl,h3⟩))
    go_ret;exact ⟨rfl,h3⟩
  ·rw [if_neg h2] at hZ;subst hZ;have ce:((e2:Int) != 0)=true:=by simpa using h2
   clear hok2 hm1 hk1 hG hP hl hk h2;go_enter Tryz.func48,Tryz.ntmps48;go_wp2_with (first
    | (go_at_call 72;refine hA.mono ?_;clear hA;rintro e w1 ⟨rfl,h1⟩)
    | (go_at_call 73;refine (hB _ h1).mono ?_;clear hB;rintro e w2 ⟨rfl,h2⟩))
   go_ret;exact ⟨rfl,h2⟩
 ·rw [if_neg h1] at hZ;subst hZ;have ce:((e1:Int) != 0)=true:=by simpa using h1
  clear hm1 hk1 hG hP hl hk h1;go_enter Tryz.func48,Tryz.ntmps48;go_wp2_with (go_at_call 72;refine hA.mono ?_;clear hA;rintro e w1 ⟨rfl,h1⟩)
  go_ret;exact ⟨rfl,h1⟩
def LsA (W:World) (R:Option (List UInt8)) (e:Ending) (W':World):Prop:=Below W.heap.size W W'∧match R with
 | none=>∃ a n c,e=.returned (.tuple #[.slice a n c,.bool false])
 | some l=>∃ a c,e=.returned (.tuple #[.slice a l.length c,.bool true])∧W'.ownsRow W.heap.size 5 1 (.slice a l.length c) l.length (Lib.byteCells l)
theorem LS (s:ByteArray) (W:World) (hs:s.size≤4000000):Calls Tryz.prog 96 #[.string s] W (LsA W (BQ s.data.toList false [])):=by
 obtain ⟨R,hR⟩:∃ R,BQ s.data.toList false []=R:=⟨_,rfl⟩;rw [hR];have HR:=Ad5 hR;obtain ⟨i0,hi,hz0,hz1,hz2⟩:=OF;clear hR;go_enter Tryz.func96,Tryz.ntmps96;go_wp2_with fail
 go_loopw [4,5,10] (fun l e i wr=>∃ (j:Nat) (esc:Bool) (acc:List UInt8) (a:Option Addr) (c:Nat),j≤s.size∧l=.slice a acc.length c∧e=.bool esc∧i=.int .i64 j∧wr.ownsRow W.heap.size 5 1 (.slice a acc.length c) acc.length (Lib.byteCells acc)∧Below W.heap.size W wr∧BQ (s.data.toList.drop j) esc acc=R∧acc.length≤j) (fun _ _ i _=>s.size - (intOf i).toNat)
 case atStart=>exact ⟨0,false,[],none,0,by omega,rfl,rfl,rfl,World.ownsRow_nil _ _ _ _,Aeh _ _,HR.out,by simp⟩
 case round=>
  obtain ⟨j,esc,acc,a,c,hj,rfl,rfl,rfl,hrow,hbw,hc,hal⟩:=hrel;have HRw:=Ad5 hrow;have HB:=Ad5 hbw;have hBs:W.heap.size≤wr.heap.size:=hbw.size;have hm1:acc.length+1≤maxLen:=by unfold maxLen;omega
  have hm2:(acc.length+1) * 1≤140737488355328:=by omega
  clear hrow hbw;by_cases hlt:j < s.size
  ·have hji:(j:Int) < (s.size:Int):=by omega
   have hy0:(0:Int)≤(j:Int):=by omega
   rw [Bi s j hlt] at hc;obtain ⟨b,hb⟩:∃ b,s[j]=b:=⟨_,rfl⟩;have hsx:s[j]'hlt=b:=hb;rw [hb] at hc;clear hb;have Wj:IntKind.i64.wrap ((j:Int)+1)=(j:Int)+1:=Aej _ (by omega);cases esc with
   | false=>
    by_cases h92:b=92
    ·have q92:((b.toNat:Int) == 92)=true:=by rw [h92];rfl
     have HC:=Ad5 (show BQ (s.data.toList.drop (j+1)) true acc=R by rw [←hc,h92];simp [BQ]);clear h92 hc;go_wp2_with fail
     go_roundw
     case rel=>exact ⟨j+1,true,acc,a,c,by omega,rfl,rfl,by go_num,HRw.out,HB.out,HC.out,by omega⟩
     case measure=>simp [intOf];omega
    ·have q92:((b.toNat:Int) == 92)=false:=An (c:=92) h92;have HC:=Ad5 (show BQ (s.data.toList.drop (j+1)) false (acc++[b])=R by rw [←hc];simp [BQ,h92]);clear h92 hc;have hbl:=(Aeh wr.heap.size wr).alloc (Aec _) (.cells #[.int .u8 (b.toNat:Int)] 5);have hbs2:W.heap.size≤(wr.alloc (.cells #[.int .u8 (b.toNat:Int)] 5)).heap.size:=Aed hBs hbl.size;have HBL:=Ad5 hbl;clear hbl;go_wp2_with (at_builtin;refine wpList_append_own_at _ rfl _ _ 165 rfl W.heap.size 5 i0 (.int .u8 0) 1 1 Tryz.underlying165 hi hz0 hz1 hz2 rfl (by decide) (.slice a acc.length c) acc.length (Lib.byteCells acc) rfl (Ag HRw.out HBL.out) ⟨wr.heap.size,0,none⟩ 1 1 [.int .u8 (b.toNat:Int)] rfl rfl (Jo _ _ _) (by intro u hu;simp at hu;subst hu;rfl) hm1 hm2 hbs2 ?_;intro v6 w6 hown6 hgr6 _ hat6;obtain ⟨a6,c6,rfl⟩:=A6 hown6;have HO:=Ad5 hown6;have HB6:=Ad5 ((HB.out.trans (HBL.out.mono hBs)).grown hgr6 hbs2 (fun k hk=>AL HRw.out k hk));clear hown6 hgr6 hat6);go_roundw;(case rel=>exact ⟨j+1,false,acc++[b],a6,c6,by omega,by simp,rfl,by go_num,(by have h9:=HO.out;rw [Df,Aee];exact h9),HB6.out,HC.out,by simp;omega⟩);(case measure=>simp [intOf];omega)
   | true=>
    by_cases h110:b=110
    ·have q110:((b.toNat:Int) == 110)=true:=by rw [h110];rfl
     have HC:=Ad5 (show BQ (s.data.toList.drop (j+1)) false (acc++[10])=R by rw [←hc,h110];simp [BQ]);clear h110 hc;have hbl:=(Aeh wr.heap.size wr).alloc (Aec _) (.cells #[.int .u8 10] 5);have hbs2:W.heap.size≤(wr.alloc (.cells #[.int .u8 10] 5)).heap.size:=Aed hBs hbl.size;have HBL:=Ad5 hbl;clear hbl;go_wp2_with (at_builtin;refine wpList_append_own_at _ rfl _ _ 165 rfl W.heap.size 5 i0 (.int .u8 0) 1 1 Tryz.underlying165 hi hz0 hz1 hz2 rfl (by decide) (.slice a acc.length c) acc.length (Lib.byteCells acc) rfl (Ag HRw.out HBL.out) ⟨wr.heap.size,0,none⟩ 1 1 [.int .u8 10] rfl rfl (Jo _ _ _) (by intro u hu;simp at hu;subst hu;rfl) hm1 hm2 hbs2 ?_;intro v6 w6 hown6 hgr6 _ hat6;obtain ⟨a6,c6,rfl⟩:=A6 hown6;have HO:=Ad5 hown6;have HB6:=Ad5 ((HB.out.trans (HBL.out.mono hBs)).grown hgr6 hbs2 (fun k hk=>AL HRw.out k hk));clear hown6 hgr6 hat6);go_roundw;(case rel=>exact ⟨j+1,false,acc++[10],a6,c6,by omega,by simp,rfl,by go_num,(by have h9:=HO.out;rw [Df,Aee];exact h9),HB6.out,HC.out,by simp;omega⟩);(case measure=>simp [intOf];omega)
    ·have q110:((b.toNat:Int) == 110)=false:=An (c:=110) h110;by_cases h92:b=92
     ·have q92:((b.toNat:Int) != 92)=false:=by rw [h92];rfl
      have HC:=Ad5 (show BQ (s.data.toList.drop (j+1)) false (acc++[b])=R by rw [←hc,h92];simp [BQ]);clear h110 h92 hc;have hbl:=(Aeh wr.heap.size wr).alloc (Aec _) (.cells #[.int .u8 (b.toNat:Int)] 5);have hbs2:W.heap.size≤(wr.alloc (.cells #[.int .u8 (b.toNat:Int)] 5)).heap.size:=Aed hBs hbl.size;have HBL:=Ad5 hbl;clear hbl;go_wp2_with (at_builtin;refine wpList_append_own_at _ rfl _ _ 165 rfl W.heap.size 5 i0 (.int .u8 0) 1 1 Tryz.underlying165 hi hz0 hz1 hz2 rfl (by decide) (.slice a acc.length c) acc.length (Lib.byteCells acc) rfl (Ag HRw.out HBL.out) ⟨wr.heap.size,0,none⟩ 1 1 [.int .u8 (b.toNat:Int)] rfl rfl (Jo _ _ _) (by intro u hu;simp at hu;subst hu;rfl) hm1 hm2 hbs2 ?_;intro v6 w6 hown6 hgr6 _ hat6;obtain ⟨a6,c6,rfl⟩:=A6 hown6;have HO:=Ad5 hown6;have HB6:=Ad5 ((HB.out.trans (HBL.out.mono hBs)).grown hgr6 hbs2 (fun k hk=>AL HRw.out k hk));clear hown6 hgr6 hat6);go_roundw;(case rel=>exact ⟨j+1,false,acc++[b],a6,c6,by omega,by simp,rfl,by go_num,(by have h9:=HO.out;rw [Df,Aee];exact h9),HB6.out,HC.out,by simp;omega⟩);(case measure=>simp [intOf];omega)
     ·have q92:((b.toNat:Int) != 92)=true:=by have e:=An (c:=92) h92;rw [bne,show ((b.toNat:Int) == 92)=false from e];rfl
      have HC:=Ad5 (show R=none by rw [←hc];simp [BQ,h110,h92]);clear h110 h92 hc;go_wp2_with fail
      go_ret2
      rw [HC.out];exact ⟨HB.out,none,0,0,rfl⟩
  ·obtain rfl:j=s.size:=by omega
   rw [Bn s s.size (Aec _)] at hc;cases esc with
   | true=>
    have HC:=Ad5 (show R=none by rw [←hc];rfl);clear hc;go_wp2_with fail
    go_ret2
    rw [HC.out];exact ⟨HB.out,_,_,_,rfl⟩
   | false=>
    have HC:=Ad5 (show R=some acc by rw [←hc];rfl);clear hc;go_wp2_with fail
    go_ret2
    rw [HC.out];exact ⟨HB.out,a,c,rfl,HRw.out⟩
def tabC (T:List UInt8):Array Value:=(Lib.byteCells T).toArray
def stdC (seen:List UInt8):Array Value:=((List.range 256).map fun k=>Value.bool (decide (UInt8.ofNat k∈seen))).toArray
theorem Sj (T:List UInt8) (j:Nat) (b:UInt8):(tabC T).setIfInBounds j (.int .u8 (b.toNat:Int))=tabC (T.set j b):=by
 unfold tabC Lib.byteCells;rw [Ad6,List.map_set]
theorem Nl (T:List UInt8) (j:Nat) (h:j < T.length):(tabC T)[j]?=some (.int .u8 (T[j].toNat:Int)):=by
 unfold tabC Lib.byteCells;rw [List.getElem?_toArray,List.getElem?_map,List.getElem?_eq_getElem h];rfl
theorem Z8 (seen:List UInt8) (b:UInt8):(stdC seen)[b.toNat]?=some (.bool (decide (b∈seen))):=by
 unfold stdC;rw [List.getElem?_toArray,List.getElem?_map,List.getElem?_range b.toNat_lt];simp
theorem Z9 (seen:List UInt8) (b:UInt8):(stdC seen).setIfInBounds b.toNat (.bool true)=stdC (b :: seen):=by
 unfold stdC;rw [Ad6]
 congr 1
 refine List.ext_getElem (by simp) fun k h1 h2=>?_
 have hk:k < 256:=by simpa using h2
 rw [List.getElem_set,List.getElem_map,List.getElem_map,List.getElem_range];by_cases h:b.toNat=k
 ·rw [if_pos h];have:UInt8.ofNat k=b:=by rw [←h];simp
  simp [this]
 ·rw [if_neg h];have:¬ UInt8.ofNat k=b:=fun e=>h (by rw [←e,UInt8.toNat_ofNat'];omega)
  simp [this]
theorem Acp {T:List UInt8} (hl:T.length=256) (h:∀ k,k < 256→T[k]?=some (UInt8.ofNat k)):T=JF:=by
 refine List.ext_getElem? fun k=>?_
 by_cases hk:k < 256
 ·rw [h k hk];unfold JF;rw [List.getElem?_map,List.getElem?_range hk];rfl
 ·rw [List.getElem?_eq_none (by omega),List.getElem?_eq_none (by unfold JF;simp;omega)]
theorem ZA {T:List UInt8} {i:Nat} (hi:i < 256) (hl:T.length=256) (h:∀ k,k < i→T[k]?=some (UInt8.ofNat k)):∀ k,k < i+1→(T.set i (UInt8.ofNat i))[k]?=some (UInt8.ofNat k):=by
 intro k hk;rw [List.getElem?_set];by_cases e:i=k
 ·rw [if_pos e,if_pos (by omega),e]
 ·rw [if_neg e];exact h k (by omega)
theorem Rc {k:UInt8} {ks vs seen T:List UInt8}:Ha (k :: ks) vs seen T=if k∈seen then none else Ha ks vs.tail (k :: seen) (T.set k.toNat (vs.headD 0)):=by
 rw [Ha]
def tbZ (R:Option (List UInt8)):List UInt8 × Nat:=match R with | none=>([],15) | some T=>(T,0)
theorem Xq (T:List UInt8):strOfNums (T.map fun b=>(b.toNat:Int))=txt T:=by
 unfold strOfNums txt
 congr 1
 rw [List.map_map]
 congr 1
 conv=>rhs;rw [←List.map_id T]
 exact List.map_congr_left fun b _=>by simp
theorem OM {l:List UInt8} {j:Nat} (h:j < l.length):l.drop j=l[j] :: l.drop (j+1):=List.drop_eq_getElem_cons h
theorem Aah {w:World} {B n c:Nat} {T:TypeId} {a:Option Addr} {l:List UInt8} (h:w.ownsRow B T 1 (.slice a n c) n (Lib.byteCells l)) (h0:0 < l.length):∃ q,a=some ⟨q,0,none⟩∧l.length≤maxLen∧q < w.heap.size∧∀ j (h:j < l.length),w.cell? ⟨q,j,none⟩=some (.int .u8 (l[j].toNat:Int)):=by
 have hn:n=l.length:=by have:=h.1;rw [Lib.byteCells_length] at this;omega
 rcases h.2 with ⟨h1,h2⟩ | ⟨g,cap,cur,h1,hB,hg,hc1,hc2,_,ht⟩
 ·omega
 ·injection h1 with h1 h2 h3;refine ⟨g,h1,by omega,(Array.getElem?_eq_some_iff.1 hg).1,fun j hj=>?_⟩;have hh:(Lib.byteCells l)[j]?=some (.int .u8 (l[j].toNat:Int)):=by
   unfold Lib.byteCells;rw [List.getElem?_map,List.getElem?_eq_getElem hj];rfl
  rw [←ht,List.getElem?_take] at hh;split at hh
  ·simp only [World.cell?,hg];rw [Array.getElem?_toList] at hh;simpa using hh
  ·cases hh
theorem Xr:Tryz.zeroCells181=tabC (List.replicate 256 0):=by kernel_rfl
theorem Xs:Tryz.zeroCells127=stdC []:=by kernel_rfl
structure TbS (W w3:World) (g:Nat) (T:List UInt8) (wr:World):Prop where
 q:Blk wr g (tabC T) 181
 l:T.length=256
 b:Below W.heap.size W wr
 o:∀ b,b≠g→wr.heap[b]?=w3.heap[b]?
 s:wr.heap.size=w3.heap.size
theorem TbS.set {W w3:World} {g:Nat} {T:List UInt8} {wr:World} (h:TbS W w3 g T wr) (hg:W.heap.size≤g) (j:Nat) (v:UInt8):TbS W w3 g (T.set j v) (wr.setCell ⟨g,j,none⟩ (.int .u8 (v.toNat:Int))):=by
 have h9:=h.q.set j (.int .u8 (v.toNat:Int));rw [Sj] at h9;exact ⟨h9,by rw [List.length_set];exact h.l,h.b.setCell (p:=⟨g,j,none⟩) hg _,fun b hb=>(Aei _ _ _ _ (fun e=>hb e)).trans (h.o b hb),by simp [World.setCell,h.s]⟩
theorem TbS.at {W w3:World} {g:Nat} {T:List UInt8} {wr:World} (h:TbS W w3 g T wr) {j:Nat} (hj:j < 256):∃ v,wr.cell? ⟨g,j,none⟩=some (.int .u8 v):=
 ⟨_,(h.q.cell j).trans (Nl T j (by rw [h.l];exact hj))⟩
structure StS (W w4:World) (g h:Nat) (T seen:List UInt8) (wr:World):Prop where
 q:Blk wr g (tabC T) 181
 r:Blk wr h (stdC seen) 127
 l:T.length=256
 b:Below W.heap.size W wr
 o:∀ b,b≠g→b≠h→wr.heap[b]?=w4.heap[b]?
theorem StS.set {W w4:World} {g h:Nat} {T seen:List UInt8} {wr:World} (k:StS W w4 g h T seen wr) (hg:W.heap.size≤g) (hh:W.heap.size≤h) (hn:g≠h) (x v:UInt8):StS W w4 g h (T.set x.toNat v) (x :: seen) ((wr.setCell ⟨h,x.toNat,none⟩ (.bool true)).setCell ⟨g,x.toNat,none⟩ (.int .u8 (v.toNat:Int))):=by
 have h8:=k.r.set x.toNat (.bool true)
 rw [Z9] at h8;have q8:Blk (wr.setCell ⟨h,x.toNat,none⟩ (.bool true)) g (tabC T) 181:=Er k.q (Aei _ _ _ _ (fun e=>hn e));have h9:=q8.set x.toNat (.int .u8 (v.toNat:Int))
 rw [Sj] at h9;exact ⟨h9,Er h8 (Aei _ _ _ _ (fun e=>hn e.symm)),by rw [List.length_set];exact k.l,(k.b.setCell (p:=⟨h,x.toNat,none⟩) hh _).setCell (p:=⟨g,x.toNat,none⟩) hg _,fun b h1 h2=>(Aei _ _ _ _ (fun e=>h1 e)).trans ((Aei _ _ _ _ (fun e=>h2 e)).trans (k.o b h1 h2))⟩
theorem Xt (a b:ByteArray) (W:World) (ha:a.size≤4000) (hb:b.size≤4000) :
  Calls Tryz.prog 77 #[.string a,.string b] W fun e W'=>e=.returned (.tuple #[.string (txt (Lm a.data.toList b.data.toList).1),.int .i64 ((Lm a.data.toList b.data.toList).2:Int)])∧Below W.heap.size W W':=by
 have hA:=LS a W (by omega);have hB:=fun W1=>LS b W1 (by omega)
 unfold Lm;generalize BQ a.data.toList false []=A at hA ⊢;generalize BQ b.data.toList false []=Bv at hB ⊢;obtain ⟨Z,hZ⟩:∃ Z,Yx A Bv=Z:=⟨_,rfl⟩;rw [hZ];have HZ:=Ad5 hZ;clear hZ ha hb;have hF:∀ {W R e W'},LsA W R e W'→∃ x n c,e=.returned (.tuple #[.slice x n c,.bool R.isSome])∧Below W.heap.size W W'∧∀ l,R=some l→n=l.length∧W'.ownsRow W.heap.size 5 1 (.slice x l.length c) l.length (Lib.byteCells l):=by
  rintro W R e W' ⟨hb,h⟩;cases R with
  | none=>obtain ⟨x,n,c,rfl⟩:=h;exact ⟨x,n,c,rfl,hb,fun _ h=>by cases h⟩
  | some l=>obtain ⟨x,c,rfl,hr⟩:=h;exact ⟨x,l.length,c,rfl,hb,fun l' e=>by injection e with e;subst e;exact ⟨rfl,hr⟩⟩
 replace hA:=hA.mono fun _ _ h=>hF h
 replace hB:=fun W1=>(hB W1).mono fun _ _ h=>hF h
 clear hF;obtain ⟨oa,hoa⟩:∃ o,A.isSome=o:=⟨_,rfl⟩;obtain ⟨ob,hob⟩:∃ o,Bv.isSome=o:=⟨_,rfl⟩;simp only [hoa] at hA;simp only [hob] at hB;have HO:=Ad5 (And.intro hoa hob);clear hoa hob;go_enter Tryz.func77,Tryz.ntmps77;go_upto_region 2 with (go_at_call 96;refine hA.mono ?_;clear hA;rintro e w1 ⟨x1,n1,c1,rfl,b1,hr1⟩;have HR1:=Ad5 hr1;have hB2:=hB w1;clear hB hr1)
 go_upto_region 3 with (go_at_call 96;refine hB2.mono ?_;clear hB2;rintro e w2 ⟨x2,n2,c2,rfl,b2,hr2⟩;have HR2:=Ad5 hr2;clear hr2)
 have B2:=Ad5 (b1.trans (b2.mono b1.size));have C2:=Ad5 b2;have C1:=Ad5 b1;clear b1 b2;cases oa with
 | false=>
  obtain rfl:([],18)=Z:=by
   rw [←HZ.out];cases A with
   | none=>rfl
   | some l=>cases HO.out.1
  go_wp2_with fail
  go_ret2
  exact ⟨rfl,B2.out⟩
 | true=>
 cases ob with
 | false=>
  obtain rfl:([],18)=Z:=by
   rw [←HZ.out];cases Bv with
   | none=>cases A <;> rfl
   | some l=>cases HO.out.2
  go_wp2_with fail
  go_ret2
  exact ⟨rfl,B2.out⟩
 | true=>
 cases A with
 | none=>cases HO.out.1
 | some ks=>
 cases Bv with
 | none=>cases HO.out.2
 | some vs=>
 obtain ⟨e1,r1⟩:=HR1.out ks rfl;obtain ⟨e2,r2⟩:=HR2.out vs rfl;subst e1 e2;clear HR1 HR2 HO;by_cases hlen:ks.length=vs.length
 ·have hle:((ks.length:Int) != (vs.length:Int))=false:=by simp [hlen]
  obtain ⟨R,hR⟩:∃ R,Ha ks vs [] JF=R:=⟨_,rfl⟩;have HZ2:=Ad5 (show tbZ R=Z by
   rw [←HZ.out,←hR];unfold Yx tbZ;simp only;rw [if_pos hlen];cases Ha ks vs [] JF <;> rfl)
  have HR:=Ad5 hR;have HL:=Ad5 hlen;have K1:=Ad5 (Ag r1 C2.out);have K2:=Ad5 r2;clear HZ hR hlen r1 r2;go_upto_region 6 with fail;obtain ⟨w3,hW3⟩:∃ w3,w2.alloc (.cells Tryz.zeroCells181 181)=w3:=⟨_,rfl⟩;have hq3:=Ae hW3;have hb3:=Ac hW3;rw [hW3];rw [Xr] at hq3;have hTb3:TbS W w3 w2.heap.size (List.replicate 256 0) w3:=⟨hq3,by simp,B2.out.trans (hb3.mono B2.out.size),fun _ _=>rfl,rfl⟩
  have KL:=Ad5 (And.intro (fun q hq=>AB K1.out q hq) (fun q hq=>AB K2.out q hq));replace K1:=Ad5 (Ag K1.out hb3);replace K2:=Ad5 (Ag K2.out hb3);have Hg:=Ad5 B2.out.size;obtain ⟨g,hg⟩:∃ g,w2.heap.size=g:=⟨_,rfl⟩;rw [hg] at hTb3 KL Hg ⊢;have H3:=Ad5 hTb3;clear hq3 hb3 hTb3 hW3 hg;go_wp2_with fail
  go_loopw [38] (fun i wr=>∃ (j:Nat) (T:List UInt8),j≤256∧i=.int .i64 j∧TbS W w3 g T wr∧∀ k,k < j→T[k]?=some (UInt8.ofNat k)) (fun i _=>256 - (intOf i).toNat)
  case atStart=>exact ⟨0,_,by omega,rfl,H3.out,fun k hk=>by omega⟩
  case round=>
   obtain ⟨j,T,hj,rfl,ht,hT⟩:=hrel;have HT:=Ad5 ht;have HTA:=Ad5 hT;clear ht hT;by_cases hlt:j < 256
   ·have hji:(j:Int) < 256:=by omega
    have hy0:(0:Int)≤(j:Int):=by omega
    have Wj:IntKind.i64.wrap ((j:Int)+1)=(j:Int)+1:=Aej _ (by omega);have Wc:IntKind.u8.wrap (j:Int)=(j:Int):=by
     simp [IntKind.wrap,IntKind.bits,IntKind.signed];omega
    obtain ⟨v,c0⟩:=HT.out.at hlt;have f0:=HT.out.q.frozen j;have H4:=Ad5 (show TbS W w3 g (T.set j (UInt8.ofNat j)) (wr.setCell ⟨g,j,none⟩ (.int .u8 (j:Int))) by
     have h9:=HT.out.set Hg.out j (UInt8.ofNat j);rw [show ((UInt8.ofNat j).toNat:Int)=(j:Int) by rw [UInt8.toNat_ofNat'];omega] at h9;exact h9)
    have H5:=Ad5 (ZA hlt HT.out.l HTA.out);go_wp2_with fail
    go_roundw
    case rel=>exact ⟨j+1,_,by omega,by go_num,H4.out,H5.out⟩
    case measure=>simp [intOf];omega
   ·obtain rfl:j=256:=by omega
    obtain rfl:=Acp HT.out.l HTA.out;clear hlt HTA;have hji:¬ ((256:Nat):Int) < 256:=by omega
    go_upto_region 12 with fail;obtain ⟨w4,hW4⟩:∃ w4,wr.alloc (.cells Tryz.zeroCells127 127)=w4:=⟨_,rfl⟩;have hq4:=Ae hW4;have hb4:=Ac hW4;rw [hW4];rw [Xs] at hq4;have hgl:=HT.out.q.lt;have hS4:StS W w4 g wr.heap.size JF [] w4:=⟨HT.out.q.below hb4 hgl,hq4,HT.out.l,HT.out.b.trans (hb4.mono HT.out.b.size),fun _ _ _=>rfl⟩
    have hgw:g≤w3.heap.size:=by have h:=H3.out.q.lt;omega
    have KA:=Ad5 (Ag (Aa K1.out (fun q hq=>HT.out.o q (by have:=KL.out.1 q hq;omega))) hb4);have KB:=Ad5 (Ag (Aa K2.out (fun q hq=>HT.out.o q (by have:=KL.out.2 q hq;omega))) hb4);have Hh:=Ad5 HT.out.b.size;obtain ⟨h,hh⟩:∃ h,wr.heap.size=h:=⟨_,rfl⟩;rw [hh] at hS4 hgl Hh ⊢;have Hgh:=Ad5 hgl;have H4:=Ad5 hS4;clear hq4 hb4 hS4 hW4 hh hgl hgw HT H3 K1 K2;go_wp2_with fail
    go_loopw [48] (fun i ws=>∃ (j:Nat) (T seen:List UInt8),j≤ks.length∧i=.int .i64 j∧StS W w4 g h T seen ws∧Ha (ks.drop j) (vs.drop j) seen T=R) (fun i _=>ks.length - (intOf i).toNat)
    case atStart=>exact ⟨0,_,_,by omega,rfl,H4.out,HR.out⟩
    case round=>
     obtain ⟨j,T,seen,hj,rfl,ht,hT⟩:=hrel;have HT:=Ad5 ht;clear ht;by_cases hlt:j < ks.length
     ·have hji:(j:Int) < (ks.length:Int):=by omega
      have hy0:(0:Int)≤(j:Int):=by omega
      have hlv:j < vs.length:=by rw [←HL.out];exact hlt
      have hjv:(j:Int) < (vs.length:Int):=by omega
      obtain ⟨qk,rfl,hmx,_,hqc⟩:=Aah KA.out (by omega);have Wj:IntKind.i64.wrap ((j:Int)+1)=(j:Int)+1:=Aej _ (by unfold maxLen at hmx;omega);obtain ⟨qv,rfl,_,_,hqd⟩:=Aah KB.out (by omega);have l1:=KL.out.1 qk rfl;have l2:=KL.out.2 qv rfl;have l3:=Hgh.out;have ck:wr.cell? ⟨qk,j,none⟩=some (.int .u8 (ks[j].toNat:Int)):=(Aek (w:=w4) (a:=⟨qk,j,none⟩) (HT.out.o qk (by omega) (by omega))).trans (hqc j hlt);have cv:wr.cell? ⟨qv,j,none⟩=some (.int .u8 (vs[j].toNat:Int)):=(Aek (w:=w4) (a:=⟨qv,j,none⟩) (HT.out.o qv (by omega) (by omega))).trans (hqd j hlv);have n1:qv≠h:=by omega
      have n2:g≠h:=by omega
      rw [OM hlt,OM hlv,Rc] at hT;simp only [List.tail_cons,List.headD_cons] at hT;obtain ⟨b,hb⟩:∃ b,ks[j]=b:=⟨_,rfl⟩;obtain ⟨v,hv⟩:∃ v,vs[j]=v:=⟨_,rfl⟩;rw [hb] at ck hT;rw [hv] at cv hT;have hlb:=b.toNat_lt;have b0:(0:Int)≤(b.toNat:Int):=by omega
      have b1:(b.toNat:Int) < 256:=by omega
      have cs:=(HT.out.r.cell b.toNat).trans (Z8 seen b);have fs:=HT.out.r.frozen b.toNat
      obtain ⟨tv,ct⟩:∃ tv,wr.cell? ⟨g,b.toNat,none⟩=some (.int .u8 tv):=⟨_,(HT.out.q.cell b.toNat).trans (Nl T b.toNat (by rw [HT.out.l];exact hlb))⟩;have ft:=HT.out.q.frozen b.toNat
      clear hb hv hqc hqd l1 l2 l3 hlb;by_cases hs:b∈seen
      ·rw [decide_eq_true hs] at cs;rw [if_pos hs] at hT;obtain rfl:([],15)=Z:=by rw [←HZ2.out,←hT];rfl
       clear hs hT ct ft cv n1 n2;go_wp2_with fail
       go_ret2
       exact ⟨rfl,HT.out.b⟩
      ·rw [decide_eq_false hs] at cs;rw [if_neg hs] at hT;have H5:=Ad5 (HT.out.set Hg.out Hh.out n2 b v);have HR5:=Ad5 hT;clear hs hT;go_wp2_with fail
       go_roundw
       case rel=>exact ⟨j+1,_,_,by omega,by go_num,H5.out,HR5.out⟩
       case measure=>simp [intOf];omega
     ·obtain rfl:j=ks.length:=by omega
      rw [List.drop_eq_nil_of_le (Aec _),Ha] at hT;obtain rfl:(T,0)=Z:=by rw [←HZ2.out,←hT];rfl
      have hcv:(convert 165 9 (.slice (some ⟨g,0,none⟩) 256 256)).run Tryz.prog wr=.ok (.string (txt T)) wr:=by
       have h9:=run_convert_bytes_arg (P:=Tryz.prog) wr 165 5 Tryz.underlying165 Tryz.underlying5 g 0 256 256 (T.map fun b=>(b.toNat:Int)) (by rw [List.length_map];exact HT.out.l) (fun i hi=>by
        have hi2:i < T.length:=by rw [HT.out.l];exact hi
        rw [Nat.zero_add,HT.out.q.cell i,Nl T i hi2];simp [List.getD,List.getElem?_map,List.getElem?_eq_getElem hi2]) 9 Tryz.underlying9
       rw [Xq] at h9;exact h9
      have hlt:¬ ((ks.length:Nat):Int) < (ks.length:Int):=by omega
      clear hT hle;go_wp2_with fail
      go_ret2
      exact ⟨rfl,HT.out.b⟩
 ·obtain rfl:([],18)=Z:=by
   rw [←HZ.out];unfold Yx;simp only;rw [if_neg hlen]
  have hle:((ks.length:Int) != (vs.length:Int))=true:=by simp;omega
  clear r1 r2 hlen;go_wp2_with fail
  go_ret2
  exact ⟨rfl,B2.out⟩
theorem Adk (s:ByteArray) (k:Nat) (d:UInt8) (rx:Bool) (W:World) (hs:s.size≤4000000) (hk:k≤s.size) (hP:GP W):Calls Tryz.prog 76 #[.string s,.int .i64 (k:Int),.int .u8 (d.toNat:Int),.bool rx] W fun e w'=>e=.returned (.tuple #[.string (txt (Aj s.data.toList (k:Int) d rx).1),.int .i64 ((Aj s.data.toList (k:Int) d rx).2.1:Int),.int .i64 ((Aj s.data.toList (k:Int) d rx).2.2:Int)])∧Below W.heap.size W w':=by
 have h:=FT s k d rx W hs hk hP;unfold Aj;rw [Dz _ _ _ _ (by rw [←Ad];exact hk),←Ad];exact h
theorem ON {d:UInt8} {rx:Bool} {s:ByteArray} {k:Nat} (hk:k≤s.size):(Aj s.data.toList (k:Int) d rx).1.length≤s.size:=by
 unfold Aj;rw [Dz _ _ _ _ (by rw [←Ad];exact hk),←Ad];have h:=Ng d rx s.data.toList (s.size+1) k [] (by rw [←Ad];exact hk);rw [←Ad] at h;simp only [List.length_nil] at h;omega
theorem CmSt.tableS {w:World} {p:Nat} {s:ByteArray} {ext:Bool} {st:CS} {ta tb ts:Value} {pa:Option Addr} {pc:Nat} {ma:Option Addr} {mc:Nat} {W:World} (h:CmSt w p s ext st ta tb ts pa pc ma mc W) (t:List UInt8) (k:Nat):CmSt w p s ext (st.table t k) ta tb ts pa pc ma mc ((W.setCell ⟨p,22,none⟩ (.string (txt t))).setCell ⟨p,2,none⟩ (.int .i64 (k:Int))):=
 (h.put 22 (.string (txt t)) { st with c:={ st.c with table:=t } } rfl rfl rfl rfl fun _ _=>rfl).go k
theorem Xu (w:World) (p:Nat) (s:ByteArray) (ext:Bool) (st:CS) (W:World) (h:Do w p s ext st W) (hs:s.size≤4000) (hk:st.k≤s.size) (hl:st.ms.length≤100000) (hP:GP w) :
  Calls Tryz.prog 49 #[.pointer (some ⟨p,0,none⟩)] W fun e W'=>e=.returned (.int .i64 ((Cy s.data.toList st).1:Int))∧Do w p s ext (Cy s.data.toList st).2 W':=by
 have hs4:s.size≤4000000:=by omega
 have hA:=O9 w p s ext st W h hs4 hk;have hk1:=Fi (L:=s.data.toList) (st:=st) (by rw [←Ad];exact hk);have hm1:=Hj s.data.toList st;rw [←Ad] at hk1;obtain ⟨Z,hZ⟩:∃ Z,Cy s.data.toList st=Z:=⟨_,rfl⟩;rw [hZ];unfold Cy at hZ;obtain ⟨⟨d,e1,s1⟩,hR1⟩:∃ R,A8 s.data.toList st=R:=⟨_,rfl⟩;rw [hR1] at hA hk1 hm1 hZ;simp only at hA hk1 hm1 hZ;unfold CO.then at hZ
 simp only at hZ;clear hR1 h;by_cases h1:e1=0
 ·subst h1;rw [if_pos rfl] at hZ;obtain ⟨k1,hk1e⟩:∃ k1,s1.k=k1:=⟨_,rfl⟩;rw [hk1e] at hk1 hZ;have HK1:=Ad5 hk1e;have hN1:=fun W1 (h1:GP W1)=>Adk s k1 d false W1 hs4 hk1 h1
  have hl1:=ON (d:=d) (rx:=false) (s:=s) hk1;have hq1:=D0 (d:=d) (rx:=false) (L:=s.data.toList) (k:=k1) (by rw [←Ad];exact hk1);rw [←Ad] at hq1;obtain ⟨⟨t1,q1,e2⟩,hR2⟩:∃ R,Aj s.data.toList (k1:Int) d false=R:=⟨_,rfl⟩;rw [hR2] at hN1 hl1 hq1 hZ;simp only at hN1 hl1 hq1;unfold FI at hZ;simp only at hZ;clear hR2 hk1e;have HP:=Ad5 hP;obtain ⟨T1,hT1⟩:∃ T,txt t1=T:=⟨_,rfl⟩;have hT1l:T1.data.toList=t1:=by rw [←hT1,DY]
  have hT1s:T1.size≤4000:=by rw [←hT1,CR];omega
  rw [hT1] at hN1;by_cases h2:e2=0
  ·subst h2;rw [if_pos rfl] at hZ;have hN2:=fun W1 (h1:GP W1)=>Adk s q1 d false W1 hs4 hq1 h1
   have hl2:=ON (d:=d) (rx:=false) (s:=s) hq1;have hq2:=D0 (d:=d) (rx:=false) (L:=s.data.toList) (k:=q1) (by rw [←Ad];exact hq1);rw [←Ad] at hq2;obtain ⟨⟨t2,q2,e3⟩,hR3⟩:∃ R,Aj s.data.toList (q1:Int) d false=R:=⟨_,rfl⟩;rw [hR3] at hN2 hl2 hq2 hZ;simp only at hN2 hl2 hq2;unfold FH at hZ;simp only at hZ;clear hR3;obtain ⟨T2,hT2⟩:∃ T,txt t2=T:=⟨_,rfl⟩;have hT2l:T2.data.toList=t2:=by rw [←hT2,DY]
   have hT2s:T2.size≤4000:=by rw [←hT2,CR];omega
   rw [hT2] at hN2;by_cases h3:e3=0
   ·subst h3;rw [if_pos rfl] at hZ;have hQ:=fun W1=>Xt T1 T2 W1 hT1s hT2s
    rw [hT1l,hT2l] at hQ;obtain ⟨⟨tb0,e4⟩,hR4⟩:∃ R,Lm t1 t2=R:=⟨_,rfl⟩;rw [hR4] at hQ hZ;simp only at hQ hZ;clear hR4 hT1 hT2 hT1l hT2l hl1 hl2;by_cases h4:e4=0
    ·subst h4;rw [if_pos rfl] at hZ;have hE:=fun W1 (h1:Do w p s ext (s1.table tb0 q2) W1)=>Kx w p s ext (s1.table tb0 q2) W1 h1 hs4 hq2 (by show s1.ms.length≤_;rw [hm1];exact hl)
     rw [hZ] at hE;clear hZ hm1 hk1 hP hl hk hq1 hq2 hT1s hT2s;go_enter Tryz.func49,Tryz.ntmps49;go_upto_region 4 with (go_at_call 72;refine hA.mono ?_;clear hA;rintro e w1 ⟨rfl,h1⟩;obtain ⟨ta,tb,ts,pa,pc,ma,mc,h1⟩:=h1;have H1:=Ad5 h1;have k0:w1.cell? ⟨p,0,none⟩=some (.string s):=(h1.q.cell 0).trans rfl;have k2:w1.cell? ⟨p,2,none⟩=some (.int .i64 (k1:Int)):=(h1.q.cell 2).trans (by rw [←HK1.out];rfl);clear h1)
     go_region_held3 (fun w'=>w'.cell? ⟨p,0,none⟩=some (.string s)∧w'.cell? ⟨p,2,none⟩=some (.int .i64 (k1:Int))) (first | exact ⟨k0,k2⟩ | (refine ⟨?_,?_⟩ <;> assumption)) (first | (go_at_call 76;refine (hN1 _ (by first | exact HP.out.up H1.out.b0 | exact HP.out.up H1.out.b0.drew)).mono ?_;clear hN1;rintro e w2 ⟨rfl,b1⟩;have H2:=Ad5 (by first | exact H1.out.step b1 | exact H1.out.drew.step b1:CmSt w p s ext s1 ta tb ts pa pc ma mc w2);have m0:(w2).cell? ⟨p,0,none⟩=some (.string s):=(H2.out.q.cell 0).trans rfl;have m2:(w2).cell? ⟨p,2,none⟩=some (.int .i64 (k1:Int)):=(H2.out.q.cell 2).trans (by rw [←HK1.out];rfl);clear b1))
     clear k0 k2;have k0:=m0;have k2:=m2;clear m0 m2;go_upto_region 16 with (first | (go_at_call 76;refine (hN2 _ (HP.out.up H2.out.b0)).mono ?_;clear hN2;rintro e w3 ⟨rfl,b1⟩;have H3:=Ad5 (by first | exact H2.out.step b1 | exact H2.out.drew.step b1:CmSt w p s ext s1 ta tb ts pa pc ma mc w3);have m0:(w3).cell? ⟨p,0,none⟩=some (.string s):=(H3.out.q.cell 0).trans rfl;have m2:(w3).cell? ⟨p,2,none⟩=some (.int .i64 (k1:Int)):=(H3.out.q.cell 2).trans (by rw [←HK1.out];rfl);clear b1) | (go_at_call 77;refine (hQ _).mono ?_;clear hQ;rintro e w4 ⟨rfl,b4⟩;have H4:=Ad5 (H3.out.step b4);clear b4))
     clear k0 k2;have c2:w4.cell? ⟨p,2,none⟩=some (.int .i64 (s1.k:Int)):=(H4.out.q.cell 2).trans rfl;have c22:w4.cell? ⟨p,22,none⟩=some (.string (txt s1.c.table)):=(H4.out.q.cell 22).trans rfl;have f2:=H4.out.q.frozen 2;have f22:=H4.out.q.frozen 22;have H5:=Ad5 (H4.out.tableS tb0 q2);go_wp2_with (go_at_call 50;refine (hE _ H5.out.R).mono ?_;clear hE;rintro e w6 ⟨rfl,h6⟩)
     go_ret;exact ⟨rfl,h6⟩
    ·rw [if_neg h4] at hZ;subst hZ;have ce:((e4:Int) != 0)=true:=by simpa using h4
     clear hm1 hk1 hP hl hk hq1 hq2 hT1s hT2s h4;go_enter Tryz.func49,Tryz.ntmps49;go_upto_region 4 with (go_at_call 72;refine hA.mono ?_;clear hA;rintro e w1 ⟨rfl,h1⟩;obtain ⟨ta,tb,ts,pa,pc,ma,mc,h1⟩:=h1;have H1:=Ad5 h1;have k0:w1.cell? ⟨p,0,none⟩=some (.string s):=(h1.q.cell 0).trans rfl;have k2:w1.cell? ⟨p,2,none⟩=some (.int .i64 (k1:Int)):=(h1.q.cell 2).trans (by rw [←HK1.out];rfl);clear h1)
     go_region_held3 (fun w'=>w'.cell? ⟨p,0,none⟩=some (.string s)∧w'.cell? ⟨p,2,none⟩=some (.int .i64 (k1:Int))) (first | exact ⟨k0,k2⟩ | (refine ⟨?_,?_⟩ <;> assumption)) (first | (go_at_call 76;refine (hN1 _ (by first | exact HP.out.up H1.out.b0 | exact HP.out.up H1.out.b0.drew)).mono ?_;clear hN1;rintro e w2 ⟨rfl,b1⟩;have H2:=Ad5 (by first | exact H1.out.step b1 | exact H1.out.drew.step b1:CmSt w p s ext s1 ta tb ts pa pc ma mc w2);have m0:(w2).cell? ⟨p,0,none⟩=some (.string s):=(H2.out.q.cell 0).trans rfl;have m2:(w2).cell? ⟨p,2,none⟩=some (.int .i64 (k1:Int)):=(H2.out.q.cell 2).trans (by rw [←HK1.out];rfl);clear b1))
     clear k0 k2;have k0:=m0;have k2:=m2;clear m0 m2;go_upto_region 14 with (first | (go_at_call 76;refine (hN2 _ (HP.out.up H2.out.b0)).mono ?_;clear hN2;rintro e w3 ⟨rfl,b1⟩;have H3:=Ad5 (by first | exact H2.out.step b1 | exact H2.out.drew.step b1:CmSt w p s ext s1 ta tb ts pa pc ma mc w3);have m0:(w3).cell? ⟨p,0,none⟩=some (.string s):=(H3.out.q.cell 0).trans rfl;have m2:(w3).cell? ⟨p,2,none⟩=some (.int .i64 (k1:Int)):=(H3.out.q.cell 2).trans (by rw [←HK1.out];rfl);clear b1) | (go_at_call 77;refine (hQ _).mono ?_;clear hQ;rintro e w4 ⟨rfl,b4⟩;have H4:=Ad5 (H3.out.step b4);clear b4))
     clear k0 k2;have c2:w4.cell? ⟨p,2,none⟩=some (.int .i64 (s1.k:Int)):=(H4.out.q.cell 2).trans rfl;have f2:=H4.out.q.frozen 2;have H5:=Ad5 (H4.out.go q1);go_wp2_with fail
     go_ret;exact ⟨rfl,H5.out.R⟩
   ·rw [if_neg h3] at hZ;subst hZ;have ce:((e3:Int) != 0)=true:=by simpa using h3
    clear hm1 hk1 hP hl hk hq1 hq2 hT1s hT2s h3 hT1 hT2 hT1l hT2l hl1 hl2;go_enter Tryz.func49,Tryz.ntmps49;go_upto_region 4 with (go_at_call 72;refine hA.mono ?_;clear hA;rintro e w1 ⟨rfl,h1⟩;obtain ⟨ta,tb,ts,pa,pc,ma,mc,h1⟩:=h1;have H1:=Ad5 h1;have k0:w1.cell? ⟨p,0,none⟩=some (.string s):=(h1.q.cell 0).trans rfl;have k2:w1.cell? ⟨p,2,none⟩=some (.int .i64 (k1:Int)):=(h1.q.cell 2).trans (by rw [←HK1.out];rfl);clear h1)
    go_region_held3 (fun w'=>w'.cell? ⟨p,0,none⟩=some (.string s)∧w'.cell? ⟨p,2,none⟩=some (.int .i64 (k1:Int))) (first | exact ⟨k0,k2⟩ | (refine ⟨?_,?_⟩ <;> assumption)) (first | (go_at_call 76;refine (hN1 _ (by first | exact HP.out.up H1.out.b0 | exact HP.out.up H1.out.b0.drew)).mono ?_;clear hN1;rintro e w2 ⟨rfl,b1⟩;have H2:=Ad5 (by first | exact H1.out.step b1 | exact H1.out.drew.step b1:CmSt w p s ext s1 ta tb ts pa pc ma mc w2);have m0:(w2).cell? ⟨p,0,none⟩=some (.string s):=(H2.out.q.cell 0).trans rfl;have m2:(w2).cell? ⟨p,2,none⟩=some (.int .i64 (k1:Int)):=(H2.out.q.cell 2).trans (by rw [←HK1.out];rfl);clear b1))
    clear k0 k2;have k0:=m0;have k2:=m2;clear m0 m2;go_upto_region 10 with (go_at_call 76;refine (hN2 _ (HP.out.up H2.out.b0)).mono ?_;clear hN2;rintro e w3 ⟨rfl,b1⟩;have H3:=Ad5 (by first | exact H2.out.step b1 | exact H2.out.drew.step b1:CmSt w p s ext s1 ta tb ts pa pc ma mc w3);have m0:(w3).cell? ⟨p,0,none⟩=some (.string s):=(H3.out.q.cell 0).trans rfl;have m2:(w3).cell? ⟨p,2,none⟩=some (.int .i64 (k1:Int)):=(H3.out.q.cell 2).trans (by rw [←HK1.out];rfl);clear b1)
    clear k0 k2;have c2:w3.cell? ⟨p,2,none⟩=some (.int .i64 (s1.k:Int)):=(H3.out.q.cell 2).trans rfl;clear m0 m2;have f2:=H3.out.q.frozen 2;have H5:=Ad5 (H3.out.go q2);go_wp2_with fail
    go_ret;exact ⟨rfl,H5.out.R⟩
  ·rw [if_neg h2] at hZ;subst hZ;have ce:((e2:Int) != 0)=true:=by simpa using h2
   clear hm1 hk1 hP hl hk hq1 hT1s h2 hT1 hT1l hl1;go_enter Tryz.func49,Tryz.ntmps49;go_upto_region 4 with (go_at_call 72;refine hA.mono ?_;clear hA;rintro e w1 ⟨rfl,h1⟩;obtain ⟨ta,tb,ts,pa,pc,ma,mc,h1⟩:=h1;have H1:=Ad5 h1;have k0:w1.cell? ⟨p,0,none⟩=some (.string s):=(h1.q.cell 0).trans rfl;have k2:w1.cell? ⟨p,2,none⟩=some (.int .i64 (k1:Int)):=(h1.q.cell 2).trans (by rw [←HK1.out];rfl);clear h1)
   go_region_held3 (fun w'=>w'.cell? ⟨p,0,none⟩=some (.string s)∧w'.cell? ⟨p,2,none⟩=some (.int .i64 (k1:Int))) (first | exact ⟨k0,k2⟩ | (refine ⟨?_,?_⟩ <;> assumption)) (first | (go_at_call 76;refine (hN1 _ (by first | exact HP.out.up H1.out.b0 | exact HP.out.up H1.out.b0.drew)).mono ?_;clear hN1;rintro e w2 ⟨rfl,b1⟩;have H2:=Ad5 (by first | exact H1.out.step b1 | exact H1.out.drew.step b1:CmSt w p s ext s1 ta tb ts pa pc ma mc w2);have m0:(w2).cell? ⟨p,0,none⟩=some (.string s):=(H2.out.q.cell 0).trans rfl;have m2:(w2).cell? ⟨p,2,none⟩=some (.int .i64 (k1:Int)):=(H2.out.q.cell 2).trans (by rw [←HK1.out];rfl);clear b1))
   clear k0 k2;have c2:w2.cell? ⟨p,2,none⟩=some (.int .i64 (s1.k:Int)):=(H2.out.q.cell 2).trans rfl;clear m0 m2;have f2:=H2.out.q.frozen 2;have H5:=Ad5 (H2.out.go q1);go_wp2_with fail
   go_ret;exact ⟨rfl,H5.out.R⟩
 ·rw [if_neg h1] at hZ;subst hZ;have ce:((e1:Int) != 0)=true:=by simpa using h1
  clear hm1 hk1 hP hl hk h1;go_enter Tryz.func49,Tryz.ntmps49;go_wp2_with (go_at_call 72;refine hA.mono ?_;clear hA;rintro e w1 ⟨rfl,h1⟩)
  go_ret;exact ⟨rfl,h1⟩
end
section
open Go.RowKit
theorem LT (s:ByteArray) (k:Nat) (w:World) (hs:s.size≤4000000) (hk:k≤s.size) :
  Calls Tryz.prog 71 #[.string s,.int .i64 k] w fun e w'=>e=pcA (By (s.data.toList.drop k) k [])∧Below w.heap.size w w':=by
 have hP:=EL s k w hk;obtain ⟨R,hR⟩:∃ R,By (s.data.toList.drop k) k []=R:=⟨_,rfl⟩;rw [hR];have HR:=Ad5 hR;clear hR;go_enter Tryz.func71,Tryz.ntmps71;go_wp2_with (go_at_call 38;refine hP.mono ?_;rintro e w' ⟨rfl,rfl⟩)
 clear hP;go_loopw [1] (fun i wr=>∃ (p:Nat) (acc:List UInt8),p≤s.size∧i=.int .i64 p∧Lib.IsBuilderF 167 5 w'.heap.size w'.heap.size (Lib.byteCells acc) wr∧Below w'.heap.size w' wr∧w'.heap.size≤wr.heap.size∧acc.length≤p∧By (s.data.toList.drop p) p acc=R) (fun i _=>s.size - (intOf i).toNat)
 case atStart=>exact ⟨k,[],hk,rfl,Lib.IsBuilderF.of (Lib.fresh_isBuilder 167 5 w'),(Aeh _ w').alloc (Aec _) _,by simp,by simp,HR.out⟩
 case round=>
  obtain ⟨p,acc,hp,rfl,hI,hbw,hsz,hal,hacc⟩:=hrel;have HA:=Ad5 hacc;clear hacc;have hlc:(Lib.byteCells acc).length+1≤140737488355328:=by rw [Lib.byteCells_length];omega
  have fin:∀ W1:World,Lib.BuilderAtF 167 5 w'.heap.size w'.heap.size (.pointer (some ⟨w'.heap.size,0,none⟩)) (Lib.byteCells acc++[.int .u8 10]) W1→Lib.IsBuilderF 167 5 w'.heap.size w'.heap.size (Lib.byteCells (acc++[10])) W1:=fun W1 h=>by
   rw [Lib.byteCells_append];exact Or.inr h
  by_cases hlt:p < s.size
  ·have hlti:(p:Int) < (s.size:Int):=by omega
   have hd:=Bi s p hlt;have Hd:=Ad5 hd;clear hd;have hx256:=s[p].toNat_lt;by_cases h10:s[p]=10
   ·have q10:((s[p].toNat:Int) != 10)=false:=by rw [h10];rfl
    have Hx:=Ad5 h10;clear h10 hx256;have hmn:IntKind.i64.wrap ((p:Int)+1)=(p:Int)+1:=Aej _ (by omega);have hle:(p:Int)+1≤(s.size:Int):=by omega
    go_wp2_with (go_at_call 87;refine (Ew w'.heap.size w'.heap.size _ _ _ hI hlc hsz).mono ?_)
    rintro e W1 ⟨rfl,h1,b1,_⟩;go_wp2_with (go_at_call 88;refine (CA w'.heap.size w'.heap.size (acc++[10]) _ (fin W1 h1) (by have:=b1.size;omega)).mono ?_)
    rintro e W2 ⟨rfl,_,b2,_⟩
    go_wp2
    go_ret3
    refine ⟨?_,(hbw.trans b1).trans b2⟩;rw [←HA.out,Hd.out,Hx.out,DZ];exact CT rfl (by show min ((p:Int)+1) (s.size:Int)=((p+1:Nat):Int);omega) rfl
   ·have q10:((s[p].toNat:Int) != 10)=true:=bne_iff_ne.2 fun h=>h10 (UInt8.toNat_inj.1 (by show s[p].toNat=10;omega))
    have H10:=Ad5 h10;clear h10;by_cases h92:s[p]=92
    ·have q92:((s[p].toNat:Int) == 92)=true:=by rw [h92];rfl
     have Hx:=Ad5 h92;clear h92 hx256;have hmn:IntKind.i64.wrap ((p:Int)+1)=(p:Int)+1:=Aej _ (by omega);by_cases hend:p+1=s.size
     ·have qe:((p:Int)+1 == (s.size:Int))=true:=beq_iff_eq.2 (by omega);have Hde:=Ad5 (Bn s (p+1) (by omega));have He:=Ad5 hend;clear hend
      go_wp2
      go_ret3
      refine ⟨?_,hbw⟩;rw [←HA.out,Hd.out,Hx.out,Hde.out,Dp];rfl
     ·have qe:((p:Int)+1 == (s.size:Int))=false:=beq_eq_false_iff_ne.2 (by omega);have hlt2:p+1 < s.size:=by omega
      have hlt2i:(p:Int)+1 < (s.size:Int):=by omega
      have Hde:=Ad5 (Bi s (p+1) hlt2);have hmn2:IntKind.i64.wrap ((p:Int)+1+1)=(p:Int)+1+1:=Aej _ (by omega);go_wp2_with (go_at_call 87;refine (Ew w'.heap.size w'.heap.size _ _ _ hI hlc hsz).mono ?_)
      rintro e W1 ⟨rfl,h1,b1,_⟩
      go_wp2
      go_roundw
      case rel=>
       refine ⟨p+2,acc++[s[p+1]],by omega,by go_num,?_,hbw.trans b1,Aed hsz b1.size,by simp;omega,?_⟩
       ·rw [Lib.byteCells_append];exact Or.inr h1
       ·rw [←HA.out,Hd.out,Hx.out,Hde.out,Ed]
      case measure=>simp [intOf];omega
    ·have q92:((s[p].toNat:Int) == 92)=false:=beq_eq_false_iff_ne.2 fun h=>h92 (UInt8.toNat_inj.1 (by show s[p].toNat=92;omega))
     have H92:=Ad5 h92;clear h92 hx256;have hmn:IntKind.i64.wrap ((p:Int)+1)=(p:Int)+1:=Aej _ (by omega);go_wp2_with (go_at_call 87;refine (Ew w'.heap.size w'.heap.size _ _ _ hI hlc hsz).mono ?_)
     rintro e W1 ⟨rfl,h1,b1,_⟩
     go_wp2
     go_roundw
     case rel=>
      refine ⟨p+1,acc++[s[p]],by omega,by go_num,?_,hbw.trans b1,Aed hsz b1.size,by simp;omega,?_⟩
      ·rw [Lib.byteCells_append];exact Or.inr h1
      ·rw [←HA.out,Hd.out,CD _ _ _ _ H10.out H92.out]
     case measure=>simp [intOf];omega
  ·have hlti:¬ (p:Int) < (s.size:Int):=by omega
   have hpe:p=s.size:=by omega
   have Hd:=Ad5 (Bn s p (by omega));have hmn:IntKind.i64.wrap ((p:Int)+1)=(p:Int)+1:=Aej _ (by omega);have hle:¬ (p:Int)+1≤(s.size:Int):=by omega
   have He:=Ad5 hpe;clear hpe;go_wp2_with (go_at_call 87;refine (Ew w'.heap.size w'.heap.size _ _ _ hI hlc hsz).mono ?_;rintro e W1 ⟨rfl,h1,b1,_⟩)
   go_wp2_with (go_at_call 88;refine (CA w'.heap.size w'.heap.size (acc++[10]) _ (fin W1 h1) (by have:=b1.size;omega)).mono ?_;rintro e W2 ⟨rfl,_,b2,_⟩)
   go_wp2
   go_ret3
   refine ⟨?_,(hbw.trans b1).trans b2⟩;rw [←HA.out,Hd.out,By];exact CT rfl (by show min ((p:Int)+1) (s.size:Int)=(p:Int);omega) rfl
end
section
open Go Go.RowKit
theorem ZB (c:UInt8) (t:List UInt8):Lib.hasPrefix (c :: t) [92,10]=decide (c=92∧t.head?=some 10):=by
 unfold Lib.hasPrefix;cases t with
 | nil=>
  show ((92:UInt8) == c && false)=_;rw [Bool.and_false];simp
 | cons x u=>
  show ((92:UInt8) == c && ((10:UInt8) == x && List.isPrefixOf [] u))=_;by_cases h:c=92
  ·subst h;by_cases h2:x=10
   ·subst h2;simp
   ·have:((10:UInt8) == x)=false:=beq_eq_false_iff_ne.2 (Ne.symm h2);rw [this];simp [h2]
  ·have:((92:UInt8) == c)=false:=beq_eq_false_iff_ne.2 (Ne.symm h);rw [this];simp [h]
theorem I8 (w:World) (p:Nat) (s:ByteArray) (ext:Bool) (st:CS) (W:World) (h:Do w p s ext st W) (hs:s.size≤4000000) (hk:st.k≤s.size) (hl:st.ms.length≤100000) :
  Calls Tryz.prog 46 #[.pointer (some ⟨p,0,none⟩)] W fun e W'=>e=.returned (.int .i64 ((C3 s.data.toList st).1:Int))∧Do w p s ext (C3 s.data.toList st).2 W':=by
 obtain ⟨ta,tb,ts,pa,pc,ma,mc,h⟩:=h;have hB:=Ig s st.k hs hk;obtain ⟨K,hK⟩:∃ K,Ak s.data.toList st.k=K:=⟨_,rfl⟩;have hKl:K≤s.size:=by rw [←hK,Ad];exact (FG _ _ (by rw [←Ad];exact hk)).2
 unfold C3;rw [hK] at hB ⊢;have HH:=Ad5 h;have k0:W.cell? ⟨p,0,none⟩=some (.string s):=(h.q.cell 0).trans rfl;have k2:W.cell? ⟨p,2,none⟩=some (.int .i64 (st.k:Int)):=(h.q.cell 2).trans rfl;have Hl:=Ad5 hl;have hx0:(0:Int)≤(K:Int):=by omega
 have hx1:(K:Int)≤(s.size:Int):=by omega
 obtain ⟨E,hEx⟩:∃ E,s.extract K s.size=E:=⟨_,rfl⟩;have hEl:E.data.toList=s.data.toList.drop K:=by rw [←hEx];exact Cd s K
 have hEs:E.size=s.size - K:=by rw [←hEx,ByteArray.size_extract];omega
 clear h hK hk hl;by_cases hz:K=s.size
 ·rw [Bn s K (by omega)];have c1:E.toList.isEmpty=true:=by rw [ByteArray.toList_eq,hEl,Bn s K (by omega)];rfl
  have c2:E.toList=[]:=List.isEmpty_iff.1 c1;clear hz hEl hEs;simp only;go_enter Tryz.func46,Tryz.ntmps46;go_upto_region 1 with fail;go_cut [] (fun wx=>CmSt w p s ext (st.go K) ta tb ts pa pc ma mc wx);(case first=>((go_region_law (first | (go_simp;go_at_call 66;refine (hB _).mono ?_;rintro e w1 ⟨rfl,b1⟩;have H1:=Ad5 (by first | exact HH.out.step b1 | exact HH.out.drew.step b1:CmSt w p s ext st ta tb ts pa pc ma mc w1);have f2:=H1.out.q.frozen 2;have g2:w1.cell? ⟨p,2,none⟩=some (.int .i64 (st.k:Int)):=(H1.out.q.cell 2).trans rfl;clear b1)));all_goals ((try go_wp2_with fail);go_meet;exact H1.out.go K)));have H2:=Ad5 hcut;clear hcut k0 k2;have k0:World.cell? wc ⟨p,0,none⟩=some (.string s):=(H2.out.q.cell 0).trans rfl;have k2:World.cell? wc ⟨p,2,none⟩=some (.int .i64 (K:Int)):=(H2.out.q.cell 2).trans rfl;go_upto_region 2 with fail;go_quiet (fail);generalize nq=n1;have H3:=Ad5 (H2.out.drewN n1);go_wp2_with fail
  go_ret;exact ⟨rfl,H3.out.R⟩
 ·have hlt:K < s.size:=by omega
  have hd:=Bi s K hlt;have c1:E.toList.isEmpty=false:=by rw [ByteArray.toList_eq,hEl,hd];rfl
  have c2:¬ E.toList=[]:=fun h=>by rw [h] at c1;cases c1
  have hE0:0 < E.size:=by omega
  have hEi:(0:Int) < (E.size:Int):=by omega
  have hEh:E[0]'hE0=s[K]:=by
   have h1:=Bi E 0 hE0;rw [List.drop_zero,hEl,hd] at h1;injection h1 with h1;exact h1.symm
  have hpf:=fun w=>Cs E ⟨#[92,10]⟩ w
  rw [hEl,hd,show (⟨#[92,10]⟩:ByteArray).data.toList=[92,10] from rfl,ZB] at hpf;rw [hd];obtain ⟨b,hb⟩:∃ b,s[K]=b:=⟨_,rfl⟩;rw [hb] at hEh hpf ⊢;simp only;clear hz hb hEl hEs;by_cases h10:b=10
  ·rw [if_pos h10];have q10:((b.toNat:Int) == 10)=true:=by rw [h10];rfl
   clear h10 hpf;go_enter Tryz.func46,Tryz.ntmps46;go_upto_region 1 with fail;go_cut [] (fun wx=>CmSt w p s ext (st.go K) ta tb ts pa pc ma mc wx);(case first=>((go_region_law (first | (go_simp;go_at_call 66;refine (hB _).mono ?_;rintro e w1 ⟨rfl,b1⟩;have H1:=Ad5 (by first | exact HH.out.step b1 | exact HH.out.drew.step b1:CmSt w p s ext st ta tb ts pa pc ma mc w1);have f2:=H1.out.q.frozen 2;have g2:w1.cell? ⟨p,2,none⟩=some (.int .i64 (st.k:Int)):=(H1.out.q.cell 2).trans rfl;clear b1)));all_goals ((try go_wp2_with fail);go_meet;exact H1.out.go K)));have H2:=Ad5 hcut;clear hcut k0 k2;have k0:World.cell? wc ⟨p,0,none⟩=some (.string s):=(H2.out.q.cell 0).trans rfl;have k2:World.cell? wc ⟨p,2,none⟩=some (.int .i64 (K:Int)):=(H2.out.q.cell 2).trans rfl;go_upto_region 2 with fail;go_quiet (fail);generalize nq=n1;have H3:=Ad5 (H2.out.drewN n1);go_wp2_with fail
   go_ret;exact ⟨rfl,H3.out.R⟩
  ·rw [if_neg h10];have q10:((b.toNat:Int) == 10)=false:=Ku (n:=10) (by decide) h10;by_cases h2:b=92∧(s.data.toList.drop (K+1)).head?=some 10
   ·rw [if_pos h2];rw [decide_eq_true h2] at hpf;obtain ⟨K2,hK2⟩:∃ K2,K+2=K2:=⟨_,rfl⟩;have h1:K+1 < s.size:=Gn h2.2;have hK2l:K2≤s.size:=by omega
    have Wk:IntKind.i64.wrap ((K:Int)+2)=(K2:Int):=by rw [Aej _ (by omega)];omega
    rw [hK2];have hN:=fun w1=>LT s K2 w1 hs hK2l
    obtain ⟨st5,hst5⟩:∃ st5,(st.go K).go K2=st5:=⟨_,rfl⟩;have hgo:(st.go K2)=st5:=hst5;rw [hgo];have HK5:=Ad5 (show st5.k=K2 by rw [←hst5];rfl);unfold Db;rw [HK5.out];obtain ⟨⟨t,q,e0⟩,hR⟩:∃ R,By (s.data.toList.drop K2) K2 []=R:=⟨_,rfl⟩;rw [hR] at hN ⊢;have hN:∀ w1,Calls Tryz.prog 71 #[.string s,.int .i64 (K2:Int)] w1 fun e w'=>e=.returned (.tuple #[.string (txt t),.int .i64 (q:Int),.int .i64 (e0:Int)])∧Below w1.heap.size w1 w':=hN
    clear h10 h2 hK2 hR hgo h1 hd;simp only;go_enter Tryz.func46,Tryz.ntmps46;go_upto_region 1 with fail;go_cut [] (fun wx=>CmSt w p s ext (st.go K) ta tb ts pa pc ma mc wx);(case first=>((go_region_law (first | (go_simp;go_at_call 66;refine (hB _).mono ?_;rintro e w1 ⟨rfl,b1⟩;have H1:=Ad5 (by first | exact HH.out.step b1 | exact HH.out.drew.step b1:CmSt w p s ext st ta tb ts pa pc ma mc w1);have f2:=H1.out.q.frozen 2;have g2:w1.cell? ⟨p,2,none⟩=some (.int .i64 (st.k:Int)):=(H1.out.q.cell 2).trans rfl;clear b1)));all_goals ((try go_wp2_with fail);go_meet;exact H1.out.go K)));have H2:=Ad5 hcut;clear hcut k0 k2;have k0:World.cell? wc ⟨p,0,none⟩=some (.string s):=(H2.out.q.cell 0).trans rfl;have k2:World.cell? wc ⟨p,2,none⟩=some (.int .i64 (K:Int)):=(H2.out.q.cell 2).trans rfl;go_upto_region 2 with fail;go_quiet (fail);generalize nq=n1;have H3:=Ad5 (H2.out.drewN n1);clear k0 k2;have k2:(wc.drewN n1).cell? ⟨p,2,none⟩=some (.int .i64 (K:Int)):=(H3.out.q.cell 2).trans rfl;have f2:=H3.out.q.frozen 2;have H5:=Ad5 (by have h9:=H3.out.go K2;rw [hst5] at h9;exact h9);go_upto_region 10 with (go_at_call 23;refine (hpf _).mono ?_;clear hpf;rintro e w4 ⟨rfl,rfl⟩)
    clear k2 f2;generalize (wc.drewN n1).setCell ⟨p,2,none⟩ (.int .i64 (K2:Int))=w5 at H5 ⊢
    (have k0:w5.cell? ⟨p,0,none⟩=some (.string s):=(H5.out.q.cell 0).trans rfl);(have k2:w5.cell? ⟨p,2,none⟩=some (.int .i64 (K2:Int)):=(H5.out.q.cell 2).trans (by rw [←HK5.out];rfl));go_region_held3 (fun w'=>w'.cell? ⟨p,0,none⟩=some (.string s)∧w'.cell? ⟨p,2,none⟩=some (.int .i64 (K2:Int))) (first | exact ⟨k0,k2⟩ | (refine ⟨?_,?_⟩ <;> assumption)) (first | (go_at_call 71;refine (hN _).mono ?_;rintro e w6 ⟨rfl,b6⟩;have H6:=Ad5 (by first | exact H5.out.step b6 | exact H5.out.drew.step b6:CmSt w p s ext st5 ta tb ts pa pc ma mc w6);have m0:w6.cell? ⟨p,0,none⟩=some (.string s):=(H6.out.q.cell 0).trans rfl;have m2:w6.cell? ⟨p,2,none⟩=some (.int .i64 (K2:Int)):=(H6.out.q.cell 2).trans (by rw [←HK5.out];rfl);clear b6));(all_goals (clear k0 k2 m0;have k14:w6.cell? ⟨p,14,none⟩=some (.string (txt st5.c.arg)):=(H6.out.q.cell 14).trans rfl;have f2:=H6.out.q.frozen 2;have f14:=H6.out.q.frozen 14;have H7:=Ad5 (H6.out.arg t q);go_wp2_with fail;go_ret;exact ⟨rfl,H7.out.R⟩))
   ·rw [if_neg h2];rw [decide_eq_false h2] at hpf;have hN:=fun w1=>LT s K w1 hs hKl
    obtain ⟨st5,hst5⟩:∃ st5,(st.go K).mark st.c.pl [116,101,120,116]=st5:=⟨_,rfl⟩;rw [hst5];have HK5:=Ad5 (show st5.k=K by rw [←hst5];rfl);have HS5:=Ad5 hst5;unfold Db;rw [HK5.out];obtain ⟨⟨t,q,e0⟩,hR⟩:∃ R,By (s.data.toList.drop K) K []=R:=⟨_,rfl⟩;rw [hR] at hN ⊢;have hN:∀ w1,Calls Tryz.prog 71 #[.string s,.int .i64 (K:Int)] w1 fun e w'=>e=.returned (.tuple #[.string (txt t),.int .i64 (q:Int),.int .i64 (e0:Int)])∧Below w1.heap.size w1 w':=hN
    clear h10 h2 hR hd hst5;simp only;go_enter Tryz.func46,Tryz.ntmps46;go_upto_region 1 with fail;go_cut [] (fun wx=>CmSt w p s ext (st.go K) ta tb ts pa pc ma mc wx);(case first=>((go_region_law (first | (go_simp;go_at_call 66;refine (hB _).mono ?_;rintro e w1 ⟨rfl,b1⟩;have H1:=Ad5 (by first | exact HH.out.step b1 | exact HH.out.drew.step b1:CmSt w p s ext st ta tb ts pa pc ma mc w1);have f2:=H1.out.q.frozen 2;have g2:w1.cell? ⟨p,2,none⟩=some (.int .i64 (st.k:Int)):=(H1.out.q.cell 2).trans rfl;clear b1)));all_goals ((try go_wp2_with fail);go_meet;exact H1.out.go K)));have H2:=Ad5 hcut;clear hcut k0 k2;have k0:World.cell? wc ⟨p,0,none⟩=some (.string s):=(H2.out.q.cell 0).trans rfl;have k2:World.cell? wc ⟨p,2,none⟩=some (.int .i64 (K:Int)):=(H2.out.q.cell 2).trans rfl;go_upto_region 2 with fail;go_quiet (fail);generalize nq=n1;have H3:=Ad5 (H2.out.drewN n1);clear k0 k2;generalize wc.drewN n1=w4 at H3 ⊢;have k3:w4.cell? ⟨p,3,none⟩=some (.int .i64 (st.c.pl:Int)):=(H3.out.q.cell 3).trans rfl;have k23:w4.cell? ⟨p,23,none⟩=some (.slice ma st.ms.length mc):=(H3.out.q.cell 23).trans rfl;obtain ⟨i0,hi,hz0,hz1,hz2⟩:=Cx;have hlm:=Hl.out;have hm1:st.ms.length+1≤maxLen:=by unfold maxLen;omega
    have hm2:(st.ms.length+1) * 24≤140737488355328:=by omega
    have hlo:w.heap.size≤w4.heap.size:=H3.out.b0.size;have hplt:=H3.out.q.lt;clear hlm;go_upto_region 3 with (go_at_call 23;refine (hpf _).mono ?_;clear hpf;rintro e w9 ⟨rfl,rfl⟩)
    go_region_law (first
     | (refine Av rfl _ _ 26 rfl w.heap.size 33 i0 (.agg #[.int .i64 0,.string ⟨#[]⟩]) 2 24 Tryz.underlying26 hi hz0 hz1 hz2 rfl (by decide) (.slice ma st.ms.length mc) st.ms.length (wmC st.ms) rfl (Ag H3.out.r (by repeat (first | (with_reducible exact Aeh _ _) | refine Below.drew ?_ | refine Below.alloc ?_ (Aec _) _))) (some ⟨w4.heap.size,0,none⟩) 1 1 (JS ((st.c.pl:Int),⟨#[116,101,120,116]⟩)) rfl rfl (fun _=>⟨_,rfl,JT w4 ((st.c.pl:Int),⟨#[116,101,120,116]⟩) _⟩) (Ia _) hm1 hm2 (by simp;omega) ?_;intro v6 w6 hown6 hgrow6 hat6;obtain ⟨a6,c6,rfl⟩:=A6 hown6;have HP:=Ad5 (H3.out.push (n:=1) (ms2:=[((st.c.pl:Int),⟨#[116,101,120,116]⟩)]) (((Aeh w4.heap.size w4).alloc (Aec _) _).drew) rfl hgrow6 (show w6.ownsRow w.heap.size 33 2 (.slice a6 (st.ms.length+1) c6) (st.ms.length+1) (wmC st.ms++wmC [((st.c.pl:Int),⟨#[116,101,120,116]⟩)]) by simpa [wmC] using hown6) hat6);have f23:=(AG (H3.out.q.below (((Aeh w4.heap.size w4).alloc (Aec _) _).drew) H3.out.q.lt) hgrow6 H3.out.rg).frozen 23;have g23:w6.cell? ⟨p,23,none⟩=some (.slice ma st.ms.length mc):=((AG (H3.out.q.below (((Aeh w4.heap.size w4).alloc (Aec _) _).drew) H3.out.q.lt) hgrow6 H3.out.rg).cell 23).trans rfl;clear hown6 hgrow6 hat6))
    all_goals
     have H5:=Ad5 (show CmSt w p s ext st5 ta tb ts pa pc a6 c6 (w6.setCell ⟨p,23,none⟩ (.slice a6 (st.ms.length+1) c6)) by rw [←HS5.out];exact HP.out);clear HP;go_upto_region 10 with fail;clear k3 k23 f23 g23 hplt;generalize w6.setCell ⟨p,23,none⟩ (.slice a6 (st.ms.length+1) c6)=w5 at H5 ⊢
     (have k0:w5.cell? ⟨p,0,none⟩=some (.string s):=(H5.out.q.cell 0).trans rfl);(have k2:w5.cell? ⟨p,2,none⟩=some (.int .i64 (K:Int)):=(H5.out.q.cell 2).trans (by rw [←HK5.out];rfl));go_region_held3 (fun w'=>w'.cell? ⟨p,0,none⟩=some (.string s)∧w'.cell? ⟨p,2,none⟩=some (.int .i64 (K:Int))) (first | exact ⟨k0,k2⟩ | (refine ⟨?_,?_⟩ <;> assumption)) (first | (go_at_call 71;refine (hN _).mono ?_;rintro e w6 ⟨rfl,b6⟩;have H6:=Ad5 (by first | exact H5.out.step b6 | exact H5.out.drew.step b6:CmSt w p s ext st5 ta tb ts pa pc a6 c6 w6);have m0:w6.cell? ⟨p,0,none⟩=some (.string s):=(H6.out.q.cell 0).trans rfl;have m2:w6.cell? ⟨p,2,none⟩=some (.int .i64 (K:Int)):=(H6.out.q.cell 2).trans (by rw [←HK5.out];rfl);clear b6));(all_goals (clear k0 k2 m0;have k14:w6.cell? ⟨p,14,none⟩=some (.string (txt st5.c.arg)):=(H6.out.q.cell 14).trans rfl;have f2:=H6.out.q.frozen 2;have f14:=H6.out.q.frozen 14;have H7:=Ad5 (H6.out.arg t q);go_wp2_with fail;go_ret;exact ⟨rfl,H7.out.R⟩))
end
end Go.Proofs.YteilldmmihiijaaGreatDoor
