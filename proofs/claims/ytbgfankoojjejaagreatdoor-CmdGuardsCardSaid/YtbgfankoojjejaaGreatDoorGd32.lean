/- The proof's texts NdWg, NdAb, CmWh: what the claim reaches of them. -/
import Derived.Test.YtbgfankoojjejaaGreatDoorGd06
import Derived.Test.YtbgfankoojjejaaGreatDoorGd02
import Derived.RangeFuncBound
import Derived.RangeFuncCalls
import Derived.Shelf.Abstract
import Derived.Shelf.RegionOpen
import Derived.WalkKit
import Derived.OwnWalkIn
import Derived.TacticsInMore
import Derived.LoopNIn
import Derived.LoopIn
import Derived.Sort.LoopGhostIn
import Derived.Sort.CutIn
import Derived.Maps.OwnIn
import Derived.Test.YtbgfankoojjejaaGreatDoorGd31
import Derived.Test.YtbgfankoojjejaaGreatDoorGd25
set_option linter.unusedSimpArgs false
set_option linter.unusedVariables false
set_option maxHeartbeats 8000000
set_option maxRecDepth 1000000
namespace Go.Proofs.YtbgfankoojjejaaGreatDoor
open Go Go.RowKit
attribute [local go_sem] Oper.semAt_some
theorem round_any_depth {m m':Nat} {P:Program} {l:Nat} {f:FuncId} {tmps:Array Value} {assign body:Code} {w:World} {R:Ending→World→Prop}
  (h:RoundIn Fence.wide m P l f tmps assign body w R):RoundIn Fence.wide m' P l f tmps assign body w R:=⟨h.1,fun c cs _=>h.2 c cs (room_wide _)⟩
theorem yield_any_depth {m:Nat} (m':Nat) {P:Program} {l:Nat} {args:Array Value} {W:World} {R:Ending→World→Prop} (h:YieldAt Fence.wide m P l args W R):YieldAt Fence.wide m' P l args W R:=by
 obtain ⟨fn,tmps,assign,body,hy,hR⟩:=h
 exact ⟨fn,tmps,assign,body,hy,round_any_depth hR⟩
theorem open_info:∃ i,Tryz.prog.info? 195=some i∧i.zero=some (.agg #[.nilIface,.slice none 0 0])∧i.size=2∧i.bytes=40:=by
 have h:(Tryz.prog.info? 195).map (fun i=>(i.zero,i.size,i.bytes))=some (some (.agg #[.nilIface,.slice none 0 0]),2,40):=by kernel_rfl
 obtain ⟨i,hi,he⟩:=Option.map_eq_some_iff.1 h
 injection he with h1 h2
 injection h2 with h2 h3
 exact ⟨i,hi,h1,h2,h3⟩
def NdOk (n₀:Nat) (root:Nd) (pre:List (Nd × Bool)) (x:Nd × Bool) (args:Array Value) (C:Nat→Prop) (base:Nat) (W:World):Prop:=
 ∃ v,args=#[v,.bool x.2]∧(∃ suf,pre++x :: suf=evs root)∧NdX (fun k=>k < n₀∨(base≤k∧¬ C k)) W x.1 v
theorem begin_any (n l base n₀ S Y:Nat) (root:Nd) (hsz:nsize root≤4000000) (J:List (Nd × Bool)→(Nat→Prop)→World→Prop) (Jx:World→Prop)
  (hJ:∀ pre C X Y,J pre C X→Other base C X Y→J pre C Y)
  (hR:∀ pre x args C X,J pre C X→NdOk n₀ root pre x args C base X→YieldAt Fence.wide 0 Tryz.prog l args X fun e Y=>
   (e=.returned (.bool true)∧∃ C',J (pre++[x]) C' Y∧Rdn n₀ base C C' X Y)∨(e=.returned (.bool false)∧Jx Y∧Rdn n₀ base C C X Y))
  (pre:List (Nd × Bool)) (C:Nat→Prop) (W:World) (s:List (Nd × List Nd)) (sv:Value) (us:List Value) (d:Nd) (v:Value)
  (hS:Stk n₀ base S Y l C W s sv us) (h0:J pre C W) (hd:NdX (Lies n₀ base C S sv) W d v) (hp:pre++(evs d++rem s)=evs root) (hC:∀ k,C k→k < W.heap.size) :
  CallsIn Fence.wide n Tryz.prog 101 #[v,.pointer (some ⟨S,0,none⟩),.pointer (some ⟨Y,0,none⟩)] W fun e Z=>
   ∃ b,e=.returned (.bool b)∧(b=true→∃ C' sv' us',J (pre++[(d,true)]) C' Z∧Stk n₀ base S Y l C' Z (s++[(d,nkids d)]) sv' us'∧∀ k,C' k→k < Z.heap.size)∧(b=false→Jx Z):=by
 obtain ⟨i0,hi,hz0,hz1,hz2⟩:=open_info
 have hlen:s.length+2≤8000000:=by
  have h1:=evs_len root
  have h2:=rem_len s
  have h3:=congrArg List.length hp
  have h4:2≤(evs d).length:=by rw [evs_kids];simp
  simp at h3
  omega
 have hI:=fun (w':World) (hb:Below W.heap.size W w')=>inner_any (F:=Lies n₀ base C S sv) d v w' (hd.below hb)
 have hdep:∀ k:Nat,(Fence.wide.depth.isSome=true→1≤k):=fun k h=>by simp [Fence.wide] at h
 have hbs:base≤W.heap.size:=by have:=hS.bS;have:=hS.lS;omega
 have hsh:(∃ T q,v=.iface T q)∨v=.nilIface:=hd.elim fun _ h=>nd_shape h
 have hv1:v.oneCell'=true:=by rcases hsh with ⟨_,_,rfl⟩ | rfl <;> rfl
 have hm1:s.length+1≤maxLen:=by unfold maxLen;omega
 have hm2:(s.length+1) * 40≤140737488355328:=by omega
 have hone:∀ (a2:Option Addr) (k cap2:Nat),∀ y∈[v,.slice a2 k cap2],y.oneCell'=true:=by
  intro a2 k cap2 y hy
  simp at hy
  rcases hy with rfl | rfl
  ·exact hv1
  ·rfl
 have hPush:∀ (w2 w3:World) (a2:Option Addr) (cap2:Nat) (v':Value),Below W.heap.size W w2→NdRw (fun b=>Lies n₀ base C S sv b∨W.heap.size≤b) w2 (nkids d) a2 cap2→
   w3.ownsRow base 195 2 v' (s.length+1) (us++[v,.slice a2 (nkids d).length cap2])→(w2.alloc (.cells #[v,.slice a2 (nkids d).length cap2] 195)).grownBy w3 sv.ownBlock→(v'.ownBlock=sv.ownBlock∨v'.ownBlock=some (w2.alloc (.cells #[v,.slice a2 (nkids d).length cap2] 195)).heap.size)→
   Boxed w3 S 193 sv∧Stk n₀ base S Y l C (w3.setCell ⟨S,0,none⟩ v') (s++[(d,nkids d)]) v' (us++[v,.slice a2 (nkids d).length cap2])∧Other base C W (w3.setCell ⟨S,0,none⟩ v')∧NdX (Lies n₀ base C S v') (w3.setCell ⟨S,0,none⟩ v') d v:=by
  intro w2 w3 a2 cap2 v' hb2 hr2 hown' hgrow hat
  exact hS.push (hb2.trans ((Below.refl _ w2).alloc hb2.size (.cells #[v,.slice a2 (nkids d).length cap2] 195))) hd (hr2.below ((Below.refl _ w2).alloc (Nat.le_refl _) _)) hC hown' hgrow hat
 have hc:=hS.box.cell
 have hf:=hS.box.frozen
 have hmix:Tryz.prog.follows .mixedOrders=true:=by kernel_rfl
 rcases hsh with ⟨T,q,rfl⟩ | rfl
 all_goals
  refine callsIn_of_wp Tryz.func101 rfl trivial ?_ rfl
  simp only [Tryz.ntmps101,List.size_toArray,List.length_cons,List.length_nil,Nat.reduceAdd,Nat.reduceSub,Array.replicate_succ,Array.replicate_zero,List.push_toArray,List.append_toArray,List.nil_append,List.cons_append]
  gi_upto_region 1 with fail
  gi_cut [] from 5 (fun wx=>∃ sv' us',J pre C wx∧Stk n₀ base S Y l C wx (s++[(d,nkids d)]) sv' us'∧Other base C W wx∧NdX (Lies n₀ base C S sv') wx d _)
  case first=>
   refine wpIn_wide.2 ?_
   go_region_law (first
    | (refine step_call rfl _ _ _ rfl 45 _ rfl (by rfl) (enters_of Tryz.func45 (by kernel_rfl) rfl) (hI _ (by first | exact Below.refl _ _ | exact Below.drew (Below.refl _ _))) ?_;rintro e w2 ⟨a2,cap2,rfl,hr2,hb2'⟩;refine ⟨_,rfl,?_⟩;have hb2:Below W.heap.size W w2:=(by first | exact hb2' | exact (Below.drew (Below.refl _ _)).trans hb2');clear hb2';have hS2:=hS.below hb2;have hc2:=hS2.box.cell;have hcA:=fun o=>(hS2.box.alloc o).cell;have hf2:=hS2.box.frozen)
    | (refine step_append_lies _ rfl _ _ 193 rfl base 195 i0 (.agg #[.nilIface,.slice none 0 0]) 2 40 Tryz.underlying193 hi hz0 hz1 hz2 rfl (by decide) sv s.length us rfl (hS2.row.alloc _) ⟨w2.heap.size,0,none⟩ 1 1 [_,.slice a2 (nkids d).length cap2] rfl rfl (cell_two_new _ _ _ _) (hone _ _ _) (by decide) hm1 hm2 (by simp;have:=hb2.size;omega) _ rfl ?_;intro g' cap' w3 hown' hgrow hat _;obtain ⟨hS3,hS4,hO4,hd4⟩:=hPush w2 w3 a2 cap2 _ hb2 hr2 hown' hgrow (hat.elim (fun h=>.inl h.symm) (fun h=>.inr (by rw [h];rfl)));have hc3:=hS3.cell;have hf3:=hS3.frozen))
   all_goals go_wp2_with fail
   all_goals gi_meet
   all_goals exact ⟨_,_,hJ _ _ _ _ h0 hO4,hS4,hO4,hd4⟩
  case rest=>
   obtain ⟨sv',us',hJ1,hS1,hO1,hd1⟩:=hcut
   have hC1:∀ k,C k→k < wc.heap.size:=fun k hk=>Nat.lt_of_lt_of_le (hC k hk) hO1.size
   have hcC:=hS1.cC
   have hy1:=hS1.yld.cell
   have hf1:=hS1.yld.frozen
   obtain ⟨fn,tmps,assign,body,hy,hR⟩:=yield_any_depth (n - 1) (hR pre (d,true) #[_,.bool true] C wc hJ1 ⟨_,rfl,⟨evss (nkids d)++((d,false) :: rem s),by rw [←hp,evs_kids];simp⟩,ndx_lies hd1⟩)
   gi_wp2
   refine ⟨hdep _,hR.mono ?_⟩
   rintro e Z (⟨rfl,C',hJ2,hr⟩ | ⟨rfl,hx,_⟩)
   ·gi_wp2
    go_ret
    have hcC':∀ k,C' k→base≤k:=fun k hk=>(hr.new k hk).elim (hcC k) (fun h=>by have:=hO1.size;omega)
    exact ⟨true,rfl,fun _=>⟨C',sv',us',hJ2,hS1.round hr hcC',fun k hk=>(hr.new k hk).elim (fun h=>Nat.lt_of_lt_of_le (hC1 k h) hr.size) (fun h=>h.2)⟩,fun h=>absurd h (by decide)⟩
   ·gi_wp2
    go_ret
    exact ⟨false,rfl,fun h=>absurd h (by decide),fun _=>hx⟩
theorem iter_any (n l base n₀ R:Nat) (root:Nd) (hsz:nsize root≤4000000) (J:List (Nd × Bool)→(Nat→Prop)→World→Prop) (Jx:World→Prop)
  (hJ:∀ pre C X Y,J pre C X→Other base C X Y→J pre C Y) (hJx:∀ X Y,Jx X→Other base (fun _=>False) X Y→Jx Y)
  (hR:∀ pre x args C X,J pre C X→NdOk n₀ root pre x args C base X→YieldAt Fence.wide 0 Tryz.prog l args X fun e Y=>
   (e=.returned (.bool true)∧∃ C',J (pre++[x]) C' Y∧Rdn n₀ base C C' X Y)∨(e=.returned (.bool false)∧Jx Y∧Rdn n₀ base C C X Y))
  (W:World) (v:Value) (hb:base=W.heap.size) (hn:n₀≤base) (h0:J [] (fun _=>False) W) (hv:NdX (fun k=>k < n₀) W root v) (hc:W.cell? ⟨R,0,none⟩=some v) :
  CallsIn Fence.wide n Tryz.prog 100 #[.func (.yield l) #[] #[],.pointer (some ⟨R,0,none⟩)] W fun e Z=>(∃ v,e=.returned v)∧((∃ C,J (evs root) C Z)∨Jx Z):=by
 have hdep:∀ k:Nat,(Fence.wide.depth.isSome=true→1≤k):=fun k h=>by simp [Fence.wide] at h
 refine callsIn_of_wp Tryz.func100 rfl trivial ?_ rfl
 simp only [Tryz.ntmps100,List.size_toArray,List.length_cons,List.length_nil,Nat.reduceAdd,Nat.reduceSub,Array.replicate_succ,Array.replicate_zero,List.push_toArray,List.append_toArray,List.nil_append,List.cons_append]
 obtain ⟨W0,hW0⟩:∃ W0,(W.alloc (.cells #[.func (.yield l) #[] #[]] 192)).alloc (.cells #[.slice none 0 0] 193)=W0:=⟨_,rfl⟩
 have hB0:Below W.heap.size W W0:=by rw [←hW0];exact ((Below.refl _ W).alloc (Nat.le_refl _) _).alloc (by simp) _
 have hRlt:R < W.heap.size:=World.block_lt_of_cell? W _ hc
 have hcR:W0.cell? ⟨R,0,none⟩=some v:=(hB0.cell (p:=⟨R,0,none⟩) hRlt).trans hc
 have hS0:Stk n₀ base (W.heap.size+1) W.heap.size l (fun _=>False) W0 [] (.slice none 0 0) []:=by
  have hY:=Boxed.new W 192 (.func (.yield l) #[] #[])
  have hS:=Boxed.new (W.alloc (.cells #[.func (.yield l) #[] #[]] 192)) 193 (.slice none 0 0)
  rw [World.size_alloc,hW0] at hS
  have hY2:=hY.alloc (.cells #[.slice none 0 0] 193)
  rw [hW0] at hY2
  exact ⟨hS,hY2,by omega,by omega,hn,fun h=>h,fun h=>h,fun k h=>h.elim,World.ownsRow_nil _ _ _ _,fun g h=>by simp [Value.ownBlock] at h,rfl⟩
 have hJ0:J [] (fun _=>False) W0:=hJ _ _ _ _ h0 (Other.of_below hB0)
 have hbeg:=begin_any (n - 1) l base n₀ (W.heap.size+1) W.heap.size root hsz J Jx hJ hR [] (fun _=>False) W0 [] (.slice none 0 0) [] root v hS0 hJ0
  ((hv.below hB0).keep (Nat.le_refl _) (fun b hb _=>⟨.inl hb,fun _=>rfl⟩)) (by simp [rem]) (fun k h=>h.elim)
 gi_wp2_with (refine ⟨trivial,hdep _,?_⟩;gi_at_call 101;refine hbeg.mono ?_;clear hbeg;rintro e Z1 ⟨b1,rfl,hg1⟩)
 clear hS0 hJ0 hcR hB0 hc hv h0
 gi_loopg [5] (2 * nsize root) (fun k go wr=>∃ b,go=.bool b∧(b=true→∃ pre C s sv us,J pre C wr∧Stk n₀ base (W.heap.size+1) W.heap.size l C wr s sv us∧pre++rem s=evs root∧(∀ k,C k→k < wr.heap.size)∧(rem s).length+1≤k)∧(b=false→Jx wr))
 case atStart=>
  refine ⟨b1,rfl,fun h=>?_,hg1.2⟩
  obtain ⟨C1,sv1,us1,hJ1,hS1,hC1⟩:=hg1.1 h
  have hr:evs root=(root,true) :: rem [(root,nkids root)]:=by rw [evs_kids];simp [rem]
  refine ⟨_,C1,_,sv1,us1,hJ1,hS1,by rw [hr];rfl,hC1,?_⟩
  have:=evs_len root
  rw [hr] at this
  simp at this
  simp
  omega
 case round=>
  obtain ⟨b,rfl,ht,hf⟩:=hrel
  cases b with
  | false=>
   have hx:=hf rfl
   clear ht hf
   gi_wp2
   go_end0
   exact ⟨⟨_,rfl⟩,.inr hx⟩
  | true=>
   obtain ⟨pre,C,s,sv,us,hJ1,hS1,hp,hC,hk⟩:=ht rfl
   clear ht hf hg1
   rcases List.eq_nil_or_concat s with rfl | ⟨s,⟨d,r⟩,rfl⟩
   ·obtain ⟨a,c,rfl⟩:∃ a c,sv=.slice a 0 c:=by
     rcases hS1.row.2 with ⟨e,_⟩ | ⟨g,cap,cur,e,_⟩
     ·exact ⟨_,_,e⟩
     ·exact ⟨_,_,e⟩
    have hc1:=hS1.box.cell
    gi_wp2
    go_end0
    exact ⟨⟨_,rfl⟩,.inl ⟨C,by rw [←hp];simpa [rem] using hJ1⟩⟩
   ·rw [List.concat_eq_append] at hS1 hp hk
    have hlen:s.length+1≤8000000:=by
     have h1:=evs_len root
     have h2:=rem_len (s++[(d,r)])
     have h3:=congrArg List.length hp
     simp at h2 h3
     omega
    obtain ⟨g,cap,us',v2,a2,cap2,rfl,_,hul,q0,q1,qf,hd2,hr2⟩:=hS1.top
    have hc1:=hS1.box.cell
    have hf1:=hS1.box.frozen
    have hbw:base≤wr.heap.size:=by have:=hS1.bS;have:=hS1.lS;omega
    have Wn:IntKind.i64.wrap ((s.length:Int)+1 - 1)=(s.length:Int):=by rw [IntWalk.i64_in _ (by omega)];omega
    cases r with
    | nil=>
     have hp2:(pre++[(d,false)])++rem s=evs root:=by rw [←hp,rem_snoc];simp [evss]
     have hk2:(rem s).length+1 < gk:=by rw [rem_snoc] at hk;simp [evss] at hk;omega
     obtain ⟨fn,tmps,assign,body,hy,hR2⟩:=yield_any_depth (n - 1) (hR pre (d,false) #[v2,.bool false] C wr.drew (hJ _ _ _ _ hJ1 (Other.drew (Other.refl _ _ _))) ⟨_,rfl,⟨rem s,by rw [←hp2];simp⟩,(ndx_lies hd2).drew⟩)
     have hyd:=hS1.yld.cell
     have hR3:=hR2.mono (R':=fun e Z=>∃ b,e=.returned (.bool b)∧∃ C',(b=true→J (pre++[(d,false)]) C' Z)∧(b=false→Jx Z∧C'=C)∧Rdn n₀ base C C' wr.drew Z) (fun e Z h=>h.elim (fun ⟨he,C',h1,h2⟩=>⟨true,he,C',fun _=>h1,fun h=>absurd h (by decide),h2⟩) (fun ⟨he,h1,h2⟩=>⟨false,he,C,fun h=>absurd h (by decide),fun _=>⟨h1,rfl⟩,h2⟩))
     clear hR2 hd2 hr2
     have hcC:=hS1.cC
     have hmix:Tryz.prog.follows .mixedOrders=true:=by kernel_rfl
     gi_upto_region 10 with fail
     gi_cut [5] from 12 (fun x wx=>∃ b,x=.bool b∧∃ C',(b=true→J (pre++[(d,false)]) C' wx)∧(b=false→Jx wx)∧Stk n₀ base (W.heap.size+1) W.heap.size l C' wx (s++[(d,[])]) (.slice (some ⟨g,0,none⟩) (s.length+1) cap) us∧∀ k,C' k→k < wx.heap.size)
     case first=>
      gi_region_with_o (refine ⟨hdep _,hR3.mono ?_⟩;rintro e Z ⟨b,rfl,C',h1,h2,hr⟩)
      all_goals gi_wp2
      all_goals gi_meet
      all_goals exact ⟨b,rfl,C',h1,fun h=>(h2 h).1,(hS1.below (Below.drew (Below.refl _ _))).round hr (fun k hk=>Or.elim (hr.new k hk) (hcC k) (fun h=>Nat.le_trans hbw h.1)),fun k hk=>Or.elim (hr.new k hk) (fun h=>Nat.lt_of_lt_of_le (hC k h) hr.size) (fun h=>h.2)⟩
     case rest=>
      obtain ⟨b,rfl,C',h1,h2,hS3,hC3⟩:=hcut
      obtain ⟨us3,hS4,hO4⟩:=hS3.pop
      have hc3:=hS3.box.cell
      have hf3:=hS3.box.frozen
      have hcp:s.length+1≤cap:=by
       exact row_cap hS3.row
      have hcp2:(s.length:Int)≤(cap:Int):=by omega
      have hcp3:¬ cap=0:=by omega
      gi_wp2
      gi_roundg ((rem s).length+1)
      case measure=>exact hk2
      case rel=>exact ⟨b,rfl,fun h=>⟨_,C',s,_,us3,hJ _ _ _ _ (h1 h) hO4,hS4,hp2,fun k hk=>Nat.lt_of_lt_of_le (hC3 k hk) hO4.size,Nat.le_refl _⟩,fun h=>hJx _ _ (h2 h) hO4.none⟩
    | cons c r'=>
     obtain ⟨b2,o2,u,rfl,hfb,hlt,hcap,hu,hdu,htl⟩:=hr2.tail
     obtain ⟨a4,cap4,htl4,hcase⟩:∃ a4 cap4,NdRw (Lies n₀ base C (W.heap.size+1) (.slice (some ⟨g,0,none⟩) (s.length+1) cap)) wr r' a4 cap4∧((cap2=1∧a4=some ⟨b2,o2,none⟩∧cap4=0∧r'=[])∨(1 < cap2∧a4=some ⟨b2,o2+1,none⟩∧cap4=cap2 - 1)):=by
      rcases Nat.eq_or_lt_of_le hcap with h1 | h1
      ·have h2:=hr2.1
       simp at h2
       have h3:r'=[]:=List.eq_nil_of_length_eq_zero (by omega)
       subst h3
       exact ⟨_,_,NdRw.nil _ _ _ _ (by decide),.inl ⟨h1.symm,rfl,rfl,rfl⟩⟩
      ·exact ⟨_,_,htl,.inr ⟨h1,rfl,rfl⟩⟩
     have hr2c:=hr2.1
     simp at hr2c
     clear htl hr2
     obtain ⟨us2,hS2,hO2⟩:=hS1.shift htl4
     have hp2:pre++(evs c++rem (s++[(d,r')]))=evs root:=by rw [←hp,rem_snoc,rem_snoc];simp [evss]
     have hk2:(rem (s++[(d,r')])).length+(evs c).length < gk:=by
      have h1:=congrArg List.length (evs_kids c)
      rw [rem_snoc] at hk
      rw [rem_snoc]
      simp [evss] at hk h1 ⊢
      omega
     have hl2:=congrArg List.length (evs_kids c)
     simp at hl2
     obtain ⟨mz,hmz⟩:∃ mz,mz=(rem (s++[(d,r')])).length+(evs c).length:=⟨_,rfl⟩
     rw [←hmz] at hk2
     have hrem:(rem ((s++[(d,r')])++[(c,nkids c)])).length+1≤mz:=by rw [rem_snoc];simp;omega
     clear hmz hl2
     have hbeg:=begin_any (n - 1) l base n₀ (W.heap.size+1) W.heap.size root hsz J Jx hJ hR pre C _ _ _ us2 c u hS2 (hJ _ _ _ _ hJ1 hO2)
      (hdu.keep hO2.size (fun k hk hlt=>⟨hk,fun o=>World.cell?_of_block (w:=wr) (a:=⟨k,o,none⟩) (Below.heap_setCell _ _ _ _ (stk_apart hS1 hk))⟩)) hp2 (fun k hk=>Nat.lt_of_lt_of_le (hC k hk) hO2.size)
     clear hS1 hS2 hdu htl4 hd2
     rcases hcase with ⟨rfl,rfl,rfl,rfl⟩ | ⟨hc1,rfl,rfl⟩
     all_goals
      gi_wp2_with (refine ⟨trivial,hdep _,?_⟩;gi_at_call 101;refine hbeg.mono ?_;clear hbeg;rintro e Z ⟨b,rfl,h1,h2⟩)
      gi_roundg mz
      case measure=>exact hk2
      case rel=>
       refine ⟨b,rfl,fun h=>?_,h2⟩
       obtain ⟨C',sv',us',g1,g2,g3⟩:=h1 h
       exact ⟨_,C',_,sv',us',g1,g2,by rw [←hp2,evs_kids,rem_snoc,rem_snoc];simp,g3,hrem⟩
end Go.Proofs.YtbgfankoojjejaaGreatDoor
namespace Go.Proofs.YtbgfankoojjejaaGreatDoor
open Go Go.RowKit
theorem walk_any (v:Value) (w:World) (hsh:(∃ T q,v=.iface T q)∨v=.nilIface):Calls Tryz.prog 82 #[v] w fun e w'=>e=.returned (.func (.func 100) #[] #[.pointer (some ⟨w.heap.size,0,none⟩)])∧w'=w.alloc (.cells #[v] 26):=by
 rcases hsh with ⟨T,q,rfl⟩ | rfl
 all_goals
  go_enter Tryz.func82,Tryz.ntmps82
  go_wp2_with fail
  go_ret
  exact ⟨rfl,rfl⟩
theorem walk_gives (root:Nd) (hsz:nsize root≤4000000) (n₀ R:Nat) (v:Value) (w:World) (hn:n₀≤w.heap.size) (hc:w.cell? ⟨R,0,none⟩=some v) (hv:NdX (fun k=>k < n₀) w root v) :
  Gives Tryz.prog 100 #[.pointer (some ⟨R,0,none⟩)] n₀ (NdOk n₀ root) (fun xs=>xs=evs root) w:=by
 intro l m J Jx W hb hJ hJx hR h0
 refine callsIn_wide.1 ((iter_any 0 l W.heap.size n₀ R root hsz J Jx hJ hJx (fun pre x args C X h1 h2=>yield_any_depth 0 (hR pre x args C X h1 h2)) W v rfl (Nat.le_trans hn hb.size) h0 (hv.below hb) ((hb.cell (p:=⟨R,0,none⟩) (World.block_lt_of_cell? w _ hc)).trans hc)).mono ?_)
 rintro e Y ⟨h1,h2⟩
 refine ⟨h1,h2.elim (fun ⟨C,h⟩=>.inl ⟨_,C,rfl,h⟩) .inr⟩
theorem nd_ok_put {n₀:Nat} {root:Nd} {pre:List (Nd × Bool)} {x:Nd × Bool} {args:Array Value} {C:Nat→Prop} {base k:Nat} {W:World} {o:Obj} (h:NdOk n₀ root pre x args C base W) (h1:n₀≤k) (h2:k < base):NdOk n₀ root pre x args C base (W.putObj k o):=by
 obtain ⟨v,ha,hs,hv⟩:=h
 refine ⟨v,ha,hs,hv.keep (by simp) (fun b hb _=>⟨hb,fun p=>World.cell?_of_block (w:=W) (a:=⟨b,p,none⟩) (World.putObj_heap_other ?_)⟩)⟩
 show b≠k
 rcases hb with hb | hb
 ·omega
 ·omega
end Go.Proofs.YtbgfankoojjejaaGreatDoor
namespace Go.Proofs.YtbgfankoojjejaaGreatDoor
open Go Go.RowKit
attribute [local go_sem] Oper.semAt_some
def cnt (p:Nd × Bool→Bool) (l:List (Nd × Bool)):Nat:=(l.filter p).length
theorem cnt_snoc (p:Nd × Bool→Bool) (l:List (Nd × Bool)) (x:Nd × Bool):cnt p (l++[x])=cnt p l+(if p x then 1 else 0):=by
 unfold cnt
 rw [List.filter_append,List.length_append]
 cases h:p x <;> simp [h]
theorem cnt_append (p:Nd × Bool→Bool) (l m:List (Nd × Bool)):cnt p (l++m)=cnt p l+cnt p m:=by
 unfold cnt
 rw [List.filter_append,List.length_append]
theorem cnt_cons (p:Nd × Bool→Bool) (x:Nd × Bool) (l:List (Nd × Bool)):cnt p (x :: l)=(if p x then 1 else 0)+cnt p l:=by
 rw [show x :: l=[x]++l from rfl,cnt_append]
 unfold cnt
 cases h:p x <;> simp [h]
theorem cnt_nil (p:Nd × Bool→Bool):cnt p []=0:=rfl
theorem cnt_le (p:Nd × Bool→Bool) (l:List (Nd × Bool)):cnt p l≤l.length:=List.length_filter_le _ _
def ngb (x:Nd × Bool):Bool:=ngrp x.1 && x.2
theorem ngb_cat (l:List Nd) (b:Bool):ngb (.cat l,b)=false:=rfl
theorem ngb_alt (l:List Nd) (b:Bool):ngb (.alt l,b)=false:=rfl
theorem ngb_rep (d:Nd) (m n:Int) (b:Bool):ngb (.rep d m n,b)=false:=rfl
theorem ngb_group (d:Nd) (n:Int) (b:Bool):ngb (.group n d,b)=b:=Bool.true_and b
mutual
theorem evs_groups:∀ d:Nd,cnt ngb (evs d)=ngroups d
 | .cat l=>by have:=evss_groups l;simp [evs,ngroups,cnt_cons,cnt_append,cnt_nil,ngb_cat,this]
 | .alt l=>by have:=evss_groups l;simp [evs,ngroups,cnt_cons,cnt_append,cnt_nil,ngb_alt,this]
 | .rep d _ _=>by have:=evs_groups d;simp [evs,ngroups,cnt_cons,cnt_append,cnt_nil,ngb_rep,this]
 | .group _ d=>by have:=evs_groups d;simp [evs,ngroups,cnt_cons,cnt_append,cnt_nil,ngb_group,this];omega
 | .empty=>rfl
 | .one _=>rfl
 | .back _=>rfl
 | .start=>rfl
 | .fin=>rfl
theorem evss_groups:∀ l:List Nd,cnt ngb (evss l)=ngroupss l
 | []=>rfl
 | d :: ds=>by have:=evs_groups d;have:=evss_groups ds;simp [evss,ngroupss,cnt_append, *]
end
structure Ctr (w0:World) (B t:Nat) (d:Nd) (val:List (Nd × Bool)→Value) (pre:List (Nd × Bool)) (C:Nat→Prop) (W:World):Prop where
 nonc:∀ k,¬ C k
 box:Boxed W B t (val pre)
 below:Below w0.heap.size w0 W
 size:w0.heap.size≤B
theorem Ctr.other {w0:World} {B t D:Nat} {d:Nd} {val:List (Nd × Bool)→Value} {pre:List (Nd × Bool)} {C:Nat→Prop} {X Y:World} (h:Ctr w0 B t d val pre C X) (ho:Other D C X Y) (hB:B < D) (hD:w0.heap.size≤D):Ctr w0 B t d val pre C Y:=
 ⟨h.nonc,Boxed.same h.box (ho.block _ h.box.lt (.inl hB)),h.below.trans ⟨ho.os,ho.tape,ho.output,ho.size,fun k hk=>ho.block k (Nat.lt_of_lt_of_le hk h.below.size) (.inl (Nat.lt_of_lt_of_le hk hD))⟩,h.size⟩
theorem Ctr.skip {w0:World} {B t:Nat} {d:Nd} {val:List (Nd × Bool)→Value} {pre:List (Nd × Bool)} {x:Nd × Bool} {C:Nat→Prop} {X:World} (h:Ctr w0 B t d val pre C X) (hv:val (pre++[x])=val pre):Ctr w0 B t d val (pre++[x]) C X:=
 ⟨h.nonc,by rw [hv];exact h.box,h.below,h.size⟩
theorem Ctr.step {w0:World} {B t:Nat} {d:Nd} {val:List (Nd × Bool)→Value} {pre:List (Nd × Bool)} {x:Nd × Bool} {C:Nat→Prop} {X:World} {u:Value} (h:Ctr w0 B t d val pre C X) (hv:val (pre++[x])=u):Ctr w0 B t d val (pre++[x]) C (X.setCell ⟨B,0,none⟩ u):=
 ⟨h.nonc,by rw [hv];exact Boxed.set u h.box,h.below.setCell (p:=⟨B,0,none⟩) h.size u,h.size⟩
theorem Ctr.mem {w0:World} {B t:Nat} {d:Nd} {val:List (Nd × Bool)→Value} {pre:List (Nd × Bool)} {C:Nat→Prop} {X Y:World} (h:Ctr w0 B t d val pre C X) (hb:Below X.heap.size X Y):Ctr w0 B t d val pre C Y:=
 ⟨h.nonc,Boxed.same h.box (hb.block _ h.box.lt),h.below.trans (hb.mono h.below.size),h.size⟩
theorem Rdn.refl (n₀ B:Nat) (C:Nat→Prop) (W:World):Rdn n₀ B C C W W:=⟨Nat.le_refl _,fun _ _ _=>rfl,fun _ h=>.inl h⟩
theorem Rdn.setCell (n₀ B:Nat) (C:Nat→Prop) (W:World) {p:Addr} {u:Value} (h1:n₀≤p.block) (h2:p.block < B):Rdn n₀ B C C W (W.setCell p u):=
 ⟨by simp [World.setCell],fun k _ hk=>Below.heap_setCell _ _ _ _ (fun e=>by subst e;rcases hk with h | h <;> omega),fun _ h=>.inl h⟩
theorem Rdn.below {n₀ B:Nat} {C:Nat→Prop} {W W':World} (h:Below W.heap.size W W'):Rdn n₀ B C C W W':=⟨h.size,fun k hk _=>h.block k hk,fun _ h=>.inl h⟩
theorem Rdn.trans {n₀ B:Nat} {C:Nat→Prop} {X Y Z:World} (h:Rdn n₀ B C C X Y) (k:Rdn n₀ B C C Y Z):Rdn n₀ B C C X Z:=
 ⟨Nat.le_trans h.size k.size,fun i hi hc=>(k.block i (Nat.lt_of_lt_of_le hi h.size) hc).trans (h.block i hi hc),fun _ h=>.inl h⟩
theorem below_put {w0 W:World} {D:Nat} {o':Obj} (hD:w0.heap.size≤D):Below w0.heap.size W (W.putObj D o'):=
 ⟨rfl,rfl,rfl,by simp,fun k hk=>World.putObj_heap_other (by omega)⟩
theorem pre_len {pre:List (Nd × Bool)} {x:Nd × Bool} {d:Nd} (h:∃ suf,pre++x :: suf=evs d):pre.length+1≤2 * nsize d:=by
 obtain ⟨suf,h⟩:=h
 have:=congrArg List.length h
 rw [evs_len] at this
 simp at this
 omega
theorem assert_group {F:Nat→Prop} {w0:World} {d:Nd} {v:Value} (h:NdX F w0 d v):∃ (num:Int) (u:Value),((∃ T q,u=.iface T q)∨u=.nilIface)∧
  (∀ w,(Instr.typeAssert v 26 126 true).run Tryz.prog w=.ok (.tuple #[.agg #[.int .i64 num,u],.bool (ngrp d)]) w)∧∀ n d',d=.group n d'→num=n:=by
 obtain ⟨n,h⟩:=h
 cases n with
 | zero=>exact h.elim
 | succ n=>
  cases d with
  | empty=>
   rcases h with rfl | rfl
   ·exact ⟨0,.nilIface,.inr rfl,ta_Empty_Group _,fun _ _ h=>by cases h⟩
   ·exact ⟨0,.nilIface,.inr rfl,ta_nil_Group,fun _ _ h=>by cases h⟩
  | one s=>obtain rfl:=h;exact ⟨0,.nilIface,.inr rfl,ta_One_Group _,fun _ _ h=>by cases h⟩
  | cat l=>obtain ⟨a,cap,rfl,_⟩:=h;exact ⟨0,.nilIface,.inr rfl,ta_Cat_Group _,fun _ _ h=>by cases h⟩
  | alt l=>obtain ⟨a,cap,rfl,_⟩:=h;exact ⟨0,.nilIface,.inr rfl,ta_Alt_Group _,fun _ _ h=>by cases h⟩
  | rep d mn mx=>obtain ⟨u,rfl,_⟩:=h;exact ⟨0,.nilIface,.inr rfl,ta_Rep_Group _,fun _ _ h=>by cases h⟩
  | group num d=>obtain ⟨u,rfl,hu⟩:=h;exact ⟨num,u,nd_shape hu,ta_Group_Group _,fun _ _ h=>by cases h;rfl⟩
  | back num=>obtain rfl:=h;exact ⟨0,.nilIface,.inr rfl,ta_Back_Group _,fun _ _ h=>by cases h⟩
  | start=>obtain rfl:=h;exact ⟨0,.nilIface,.inr rfl,ta_Start_Group _,fun _ _ h=>by cases h⟩
  | fin=>obtain rfl:=h;exact ⟨0,.nilIface,.inr rfl,ta_End_Group _,fun _ _ h=>by cases h⟩
theorem pgroups_any (d:Nd) (v:Value) (w:World) (h:NdX (fun k=>k < w.heap.size) w d v) (hsz:nsize d≤4000000) :
  Calls Tryz.prog 57 #[v] w fun e w'=>e=.returned (.int .i64 (ngroups d:Int))∧Below w.heap.size w w':=by
 have hsh:(∃ T q,v=.iface T q)∨v=.nilIface:=h.elim fun _ h=>nd_shape h
 refine (callsIn_wide (n:=3)).1 ?_
 refine callsIn_of_wp_marks Tryz.func57 rfl trivial ?_ rfl
 simp only [Tryz.ntmps57,List.size_toArray,List.length_cons,List.length_nil,Nat.reduceAdd,Nat.reduceSub,Array.replicate_succ,Array.replicate_zero,List.push_toArray,List.append_toArray,List.nil_append,List.cons_append]
 gi_wp2_with (refine ⟨trivial,?_⟩;gi_at_call 82;refine (callsIn_wide.2 (walk_any _ _ hsh)).mono ?_;rintro e w' ⟨rfl,rfl⟩)
 obtain ⟨V,hV⟩:∃ V,(w.alloc (.cells #[.int .i64 0] 3)).alloc (.cells #[v] 26)=V:=⟨_,rfl⟩
 have hB:Below w.heap.size w V:=by rw [←hV];exact ((Below.refl _ w).alloc (Nat.le_refl _) _).alloc (by simp) _
 have hVs:V.heap.size=w.heap.size+2:=by rw [←hV];simp
 have hc:V.cell? ⟨w.heap.size+1,0,none⟩=some v:=by
  have h1:=(Boxed.new (w.alloc (.cells #[.int .i64 0] 3)) 26 v).cell
  rw [World.size_alloc,hV] at h1
  exact h1
 have hb0:Boxed V w.heap.size 3 (.int .i64 ((cnt ngb []:Nat):Int)):=by
  have h1:=(Boxed.new w 3 (.int .i64 0)).alloc (.cells #[v] 26)
  rw [hV] at h1
  exact h1
 rw [hV]
 refine wpIn_rangeFunc_cells (gf:=100) (lb:=#[.pointer (some ⟨w.heap.size+1,0,none⟩)]) rfl (enters_of Tryz.func100 (by kernel_rfl) rfl)
  (walk_gives d hsz w.heap.size (w.heap.size+1) v V (by omega) hc (h.below hB)) (Below.refl _ _) (by omega)
  (fun pre x args C b W hk=>by obtain ⟨_,rfl,_⟩:=hk;rfl)
  (fun pre x args C b W k o hk h1 h2=>nd_ok_put hk h1 h2)
  (fun pre C W=>Ctr w w.heap.size 3 d (fun pre=>.int .i64 ((cnt ngb pre:Nat):Int)) pre C W) (fun _ _=>False)
  (fun pre C X Y hk ho=>hk.other ho (by omega) (by omega)) (fun _ _ _ hk _=>hk) ⟨fun _ h=>h,hb0,hB,Nat.le_refl _⟩ ?round ?done ?stop
 case round=>
  rintro l pre ⟨d',b⟩ args C W hI hOk hC hlt
  obtain ⟨v',rfl,hsuf,hv'⟩:=hOk
  obtain ⟨num,u,hu,hTA,_⟩:=assert_group hv'
  gi_wp2
  clear hI hlt hv'
  intro W hI hOk hlt
  clear hOk
  have hc:=hI.box.cell
  have hf:=hI.box.frozen
  have hcA:=fun o=>(hI.mem ((Below.refl _ W).alloc (Nat.le_refl _) o)).box.cell
  have hfA:=fun o=>(hI.mem ((Below.refl _ W).alloc (Nat.le_refl _) o)).box.frozen
  have hIA:=fun o=>hI.mem ((Below.refl _ W).alloc (Nat.le_refl _) o)
  have hRA:=fun o=>Rdn.below (n₀:=w.heap.size) (B:=w.heap.size+2) (C:=C) ((Below.refl _ W).alloc (Nat.le_refl _) o)
  have Wn:ngb (d',b)=true→IntKind.i64.wrap (((cnt ngb pre:Nat):Int)+1)=((cnt ngb (pre++[(d',b)]):Nat):Int):=by
   intro hn
   have h1:=cnt_le ngb pre
   have h2:=pre_len hsuf
   rw [cnt_snoc,IntWalk.i64_in _ (by omega),hn]
   rfl
  have hno:ngb (d',b)=false→cnt ngb (pre++[(d',b)])=cnt ngb pre:=fun hn=>by rw [cnt_snoc,hn];rfl
  have hgb:ngb (d',b)=(ngrp d' && b):=rfl
  rw [hgb] at Wn hno
  cases hG:ngrp d'
  ·rw [hG] at hTA hno
   have Hno:=Lib.hid (hno rfl)
   clear hno hgb Wn hG
   rcases hu with ⟨T,q,rfl⟩ | rfl
   all_goals
    gi_wp2
    exact ⟨C,hRA _,(hIA _).skip (by rw [Hno.out])⟩
  ·rw [hG] at hTA hno Wn
   cases b with
   | false=>
    have Hno:=Lib.hid (hno rfl)
    clear hno hgb Wn hG
    rcases hu with ⟨T,q,rfl⟩ | rfl
    all_goals
     gi_wp2
     exact ⟨C,hRA _,(hIA _).skip (by rw [Hno.out])⟩
   | true=>
    replace Wn:=Wn rfl
    clear hno hgb hG
    rcases hu with ⟨T,q,rfl⟩ | rfl
    all_goals
     gi_wp2
     exact ⟨C,(hRA _).trans (Rdn.setCell _ _ _ _ (Nat.le_refl _) (by simp)),(hIA _).step rfl⟩
 case done=>
  rintro xs C W rfl hI hK
  have hc:=hI.box.cell
  rw [evs_groups] at hc
  gi_wp2
  refine ⟨by simp,.inl ⟨_,_,rfl,run_takeDeferred hK,?_⟩⟩
  exact ⟨_,results_tmp rfl _ _ _,rfl,hI.below.trans (below_put (by omega))⟩
 case stop=>
  intro c W hk _
  exact hk.elim
end Go.Proofs.YtbgfankoojjejaaGreatDoor
namespace Go.Proofs.YtbgfankoojjejaaGreatDoor
open Go Go.RowKit
attribute [local go_sem] Oper.semAt_some
end Go.Proofs.YtbgfankoojjejaaGreatDoor
namespace Go.Proofs.YtbgfankoojjejaaGreatDoor
open Go Go.RowKit
theorem btw_len (d:UInt8) (rx:Bool) (L:List UInt8):∀ (n p:Nat) (acc:List UInt8),p≤L.length→(pcBtw d rx L n p acc).1.length≤acc.length+(L.length - p)
 | 0,p,acc,h=>Nat.zero_le _
 | n+1,p,acc,h=>by
  cases hd:L.drop p with
  | nil=>rw [pcBtw_nil hd];exact Nat.zero_le _
  | cons c t=>
   have hl:t.length+1=L.length - p:=by rw [←List.length_drop,hd];rfl
   by_cases hc:c=d
   ·subst hc;rw [pcBtw_del hd];simp only;omega
   ·obtain ⟨x,k,e,he⟩:∃ x k e,pcPart d rx c t p=(x,k,e):=⟨_,_,_,rfl⟩
    by_cases h0:e=0
    ·subst h0
     rw [pcBtw_part hd hc he]
     obtain ⟨h1,h2,h3⟩:=pcPart_ok he
     have ih:=btw_len d rx L n k (acc++x) (by omega)
     rw [List.length_append] at ih
     omega
    ·rw [pcBtw_err hd hc h0 he]
     obtain ⟨h1,_,_⟩:=pcPart_err he h0
     rw [h1]
     exact Nat.zero_le _
theorem CmSt.partsR {w:World} {p:Nat} {s:ByteArray} {ext:Bool} {st:CS} {ta tb ts:Value} {pa:Option Addr} {pc:Nat} {ma:Option Addr} {mc:Nat} {W:World} (h:CmSt w p s ext st ta tb ts pa pc ma mc W) {ps:List Cp} {a:Option Addr} {c B:Nat} (hB:w.heap.size≤B) (hr:W.ownsRow B 43 2 (.slice a ps.length c) ps.length (cpC ps)) (hn:∀ g,(Value.slice a ps.length c).ownBlock=some g→g≠p∧(Value.slice ma st.ms.length mc).ownBlock≠some g) (k:Nat) :
  CmSt w p s ext (st.parts ps k) ta tb ts a c ma mc ((W.setCell ⟨p,17,none⟩ (.slice a ps.length c)).setCell ⟨p,2,none⟩ (.int .i64 (k:Int))):=by
 refine CmSt.go (st:={ st with c:={ st.c with sub:={ st.c.sub with parts:=ps } } }) ?_ k
 have o1:∀ b,b≠p→(W.setCell ⟨p,17,none⟩ (.slice a ps.length c)).heap[b]?=W.heap[b]?:=fun b hb=>Below.heap_setCell _ _ _ _ (fun e=>hb e)
 have hsz:(W.setCell ⟨p,17,none⟩ (.slice a ps.length c)).heap.size=W.heap.size:=by simp [World.setCell]
 have hk:∀ {t x},TrO (fun b=>w.heap.size≤b∧b≠p∧(Value.slice ma st.ms.length mc).ownBlock≠some b) W t x→TrO (fun b=>w.heap.size≤b∧b≠p∧(Value.slice ma st.ms.length mc).ownBlock≠some b) (W.setCell ⟨p,17,none⟩ (.slice a ps.length c)) t x:=fun hk=>TrO.keep (by omega) (fun b hb _=>⟨hb,fun o=>World.cell?_of_block (w:=W) (a:=⟨b,o,none⟩) (o1 b hb.2.1)⟩) hk
 exact ⟨h.b0.setCell (p:=⟨p,17,none⟩) h.pg _,h.q.set 17 _,h.pg,hk h.ha,hk h.hb,hk h.hs,own_row_same h.r fun b hb=>o1 b fun e=>h.rg (by rw [hb,e]),h.rg,own_less hB (own_row_same hr fun b hb=>o1 b (hn b hb).1),hn⟩
theorem krep_any (w:World) (p:Nat) (s:ByteArray) (ext:Bool) (st:CS) (d:UInt8) (D:Nd) (W:World) (h:CmR w p s ext st W) (hD:st.c.sub.tree=some D) (hsz:nsize D≤4000000) (hs:s.size≤4000) (hk:st.k≤s.size) (hP:GP w) :
  Calls Tryz.prog 41 #[.pointer (some ⟨p,0,none⟩),.int .u8 (d.toNat:Int)] W fun e W'=>e=.returned (.int .i64 ((cmRep s.data.toList d st).1:Int))∧CmR w p s ext (cmRep s.data.toList d st).2 W':=by
 obtain ⟨ta,tb,ts,pa,pc,ma,mc,h⟩:=h
 have hs4:s.size≤4000000:=by omega
 have hN:=fun w1 (hb:Below W.heap.size W w1)=>pbetween_at s st.k d false w1 hs4 hk ((hP.up h.b0).up hb)
 unfold cmRep pcBetween
 rw [pcAt_at _ _ _ _ (by rw [←size_list];exact hk),←size_list,hD,show cmTreeGroups (some D)=ngroups D from rfl]
 have hln:=btw_len d false s.data.toList (s.size+1) st.k [] (by rw [←size_list];exact hk)
 obtain ⟨⟨t,q,e0⟩,hR⟩:∃ R,pcBtw d false s.data.toList (s.size+1) st.k []=R:=⟨_,rfl⟩
 rw [hR] at hN hln ⊢
 rw [←size_list] at hln
 simp only [List.length_nil] at hln
 have hN:∀ w1,Below W.heap.size W w1→Calls Tryz.prog 43 #[.string s,.int .i64 (st.k:Int),.int .u8 d.toNat,.bool false] w1 fun e w'=>e=.returned (.tuple #[.string (txt t),.int .i64 (q:Int),.int .i64 (e0:Int)])∧Below w1.heap.size w1 w':=hN
 obtain ⟨T,hT⟩:∃ T,txt t=T:=⟨_,rfl⟩
 have hTl:T.data.toList=t:=by rw [←hT,txt_list]
 have hTs:T.size≤4000:=by rw [←hT,txt_size];omega
 rw [hT] at hN
 have hQ:=fun w2=>kparts_any T (ngroups D) w2 hTs
 rw [hTl] at hQ
 obtain ⟨⟨ps,e1⟩,hR2⟩:∃ R,cpRun (ngroups D) t false [] []=R:=⟨_,rfl⟩
 simp only [hR2] at hQ ⊢
 have HH:=Lib.hid h
 have k0:W.cell? ⟨p,0,none⟩=some (.string s):=(h.q.cell 0).trans rfl
 have k2:W.cell? ⟨p,2,none⟩=some (.int .i64 (st.k:Int)):=(h.q.cell 2).trans rfl
 have hsh:=h.hs.shape
 clear h hR hR2 hT hTl hln hP
 unfold cmRepOf
 simp only
 by_cases he:e0=0
 ·rw [if_pos he]
  have ce:((e0:Int) != 0)=false:=by simp [he]
  clear he
  obtain ⟨Z,hZ⟩:∃ Z,(if e1=0 then ((0,st.parts ps q):CO) else (e1,st))=Z:=⟨_,rfl⟩
  rw [hZ]
  have HZ:=Lib.hid hZ
  clear hZ
  rcases hsh with ⟨T8,q8,rfl⟩ | rfl
  all_goals
   go_enter Tryz.func41,Tryz.ntmps41
   go_upto_region 1 with fail
   go_region_held3 (fun w'=>w'.cell? ⟨p,0,none⟩=some (.string s)∧w'.cell? ⟨p,2,none⟩=some (.int .i64 (st.k:Int))) (first | exact ⟨k0,k2⟩ | (refine ⟨?_,?_⟩ <;> assumption)) (first | (go_at_call 43;refine (hN _ (by first | exact Below.refl _ _ | exact (Below.refl _ _).drew)).mono ?_;rintro e w1 ⟨rfl,b1⟩;have H1:=Lib.hid (by first | exact HH.out.step b1 | exact HH.out.drew.step b1:CmSt w p s ext st ta tb _ pa pc ma mc w1);have m0:(w1).cell? ⟨p,0,none⟩=some (.string s):=(H1.out.q.cell 0).trans rfl;have m2:(w1).cell? ⟨p,2,none⟩=some (.int .i64 (st.k:Int)):=(H1.out.q.cell 2).trans rfl;clear b1))
   have hgr:=pgroups_any D _ w1 (by have h9:=H1.out.hs;rw [hD] at h9;exact NdX.keep (Nat.le_refl _) (fun b _ hl=>⟨hl,fun _=>rfl⟩) h9) hsz
   have k16:w1.cell? ⟨p,16,none⟩=some _:=(H1.out.q.cell 16).trans rfl
   clear k0 k2 m0 m2
   go_upto_region 6 with (first
    | (go_at_call 57;refine hgr.mono ?_;clear hgr;rintro e w2 ⟨rfl,b2⟩;have H2:=Lib.hid (H1.out.step b2);clear b2)
    | (go_at_call 56;refine (hQ _).mono ?_;rintro e w3 ⟨b3,a3,c3,rfl,r3⟩;have H3:=Lib.hid (H2.out.step b3);have R3:=Lib.hid r3;have HL:=Lib.hid (And.intro H2.out.b0.size H2.out.q.lt);have HM:=Lib.hid (fun g hg=>own_lt' H2.out.r g hg);clear b3 r3))
   by_cases h1:e1=0
   ·subst h1
    obtain rfl:(0,st.parts ps q)=Z:=by rw [←HZ.out,if_pos rfl]
    have k2:w3.cell? ⟨p,2,none⟩=some (.int .i64 (st.k:Int)):=(H3.out.q.cell 2).trans rfl
    have k17:w3.cell? ⟨p,17,none⟩=some (.slice pa st.c.sub.parts.length pc):=(H3.out.q.cell 17).trans rfl
    have f2:=H3.out.q.frozen 2
    have f17:=H3.out.q.frozen 17
    have H4:=Lib.hid (H3.out.partsR HL.out.1 R3.out (fun g hg=>by
     have hge:=own_of R3.out g hg
     have hlp:=HL.out.2
     refine ⟨by omega,fun e=>?_⟩
     have:=HM.out g e
     omega) q)
    go_wp2_with fail
    go_ret
    exact ⟨rfl,H4.out.R⟩
   ·obtain rfl:(e1,st)=Z:=by rw [←HZ.out,if_neg h1]
    have c1:((e1:Int) != 0)=true:=by simpa using h1
    clear h1
    go_wp2_with fail
    go_ret
    exact ⟨rfl,H3.out.R⟩
 ·rw [if_neg he]
  have ce:((e0:Int) != 0)=true:=by simpa using he
  clear he
  go_enter Tryz.func41,Tryz.ntmps41
  go_upto_region 1 with fail
  go_region_held3 (fun w'=>w'.cell? ⟨p,0,none⟩=some (.string s)∧w'.cell? ⟨p,2,none⟩=some (.int .i64 (st.k:Int))) (first | exact ⟨k0,k2⟩ | (refine ⟨?_,?_⟩ <;> assumption)) (first | (go_at_call 43;refine (hN _ (by first | exact Below.refl _ _ | exact (Below.refl _ _).drew)).mono ?_;rintro e w1 ⟨rfl,b1⟩;have H1:=Lib.hid (by first | exact HH.out.step b1 | exact HH.out.drew.step b1:CmSt w p s ext st ta tb _ pa pc ma mc w1);have m0:(w1).cell? ⟨p,0,none⟩=some (.string s):=(H1.out.q.cell 0).trans rfl;have m2:(w1).cell? ⟨p,2,none⟩=some (.int .i64 (st.k:Int)):=(H1.out.q.cell 2).trans rfl;clear b1))
  have f2:=H1.out.q.frozen 2
  have H2:=Lib.hid (H1.out.go q)
  go_wp2_with fail
  go_ret
  exact ⟨rfl,H2.out.R⟩
end Go.Proofs.YtbgfankoojjejaaGreatDoor
