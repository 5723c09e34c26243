/- Texts. -/
import Derived.Test.YteilldmmihiijaaGreatDoorQt18
import Derived.Test.YteilldmmihiijaaGreatDoorQt09
import Derived.Test.YteilldmmihiijaaGreatDoorQt05
import Derived.Deep.LoopGhost
import Derived.Deep.DeepCutAuto
import Derived.Deep.RegionWith
import Derived.Test.YteilldmmihiijaaGreatDoorQt16
import Derived.Test.YteilldmmihiijaaGreatDoorQt03
import Derived.Test.YteilldmmihiijaaGreatDoorQt04
import Derived.Test.YteilldmmihiijaaGreatDoorQt17
import Derived.Laws.BytesArg
import Derived.Test.YteilldmmihiijaaGreatDoorQt01
set_option linter.unusedSimpArgs false
set_option linter.unusedVariables false
set_option maxHeartbeats 8000000
set_option maxRecDepth 1000000
namespace Go.Proofs.YteilldmmihiijaaGreatDoor
open Go.Lib renaming hid→Ac8
open List renaming setIfInBounds_toArray→Ac9,length_append→Adh
open Nat renaming le_refl→Adf,le_trans→Adg,lt_of_lt_of_le→Adi
open Go.RowKit.Below renaming refl→Adk,heap_setCell→Adl
open Go.IntWalk renaming i64_in→Adm
open Go.World renaming cell?_of_block→Adn
section
open Go Go.RowKit
def FM (T:List (Nd × Nd)):Bool:=T.all (fun p=>Da p.1 p.2)
def DA (T:List (Nd × Nd)):Nat:=Ax (T.map Prod.fst)
theorem Qy (T:List (Nd × Nd)) (d e:Nd):FM (T++[(d,e)])=(FM T && Da d e):=by unfold FM;rw [List.all_append];simp
theorem MP (T U:List (Nd × Nd)):FM (T++U)=(FM T && FM U):=by unfold FM;rw [List.all_append]
theorem Qz (l m:List Nd) (h:l.length=m.length):DN l m=FM (l.zip m):=by
 induction l generalizing m with
 | nil=>
  cases m with
  | nil=>rfl
  | cons e es=>simp at h
 | cons d ds ih=>
  cases m with
  | nil=>simp at h
  | cons e es=>rw [DN,ih es (by simpa using h)];rfl
theorem Fh (T U:List (Nd × Nd)):DA (T++U)=DA T+DA U:=by unfold DA;rw [List.map_append,Dp]
theorem L8 (d e:Nd):DA [(d,e)]=Au d:=by simp [DA,Ax]
theorem L9 (l m:List Nd) (h:l.length=m.length):DA (l.zip m)=Ax l:=by unfold DA;rw [List.map_fst_zip (by omega)]
theorem LA (T:List (Nd × Nd)):T.length≤DA T:=by have:=Gi (T.map Prod.fst);unfold DA;simpa using this
theorem WF (l m:List Nd) (k:Nat) (h1:k < l.length) (h2:k < m.length):(l.zip m).take (k+1)=(l.zip m).take k++[(l[k],m[k])]:=by
 rw [List.take_succ_eq_append_getElem (by rw [List.length_zip];omega),List.getElem_zip]
def Off (sv:Value) (b:Nat):Prop:=sv.ownBlock≠some b
def PrC (G:Nat→Prop) (W:World):List (Nd × Nd)→List Value→Prop
 | [],us=>us=[]
 | x :: s,us=>∃ v y us',us=v :: y :: us'∧NdX G W x.1 v∧NdX G W x.2 y∧PrC G W s us'
theorem PrC.len {G:Nat→Prop} {W:World}:∀ {s:List (Nd × Nd)} {us:List Value},PrC G W s us→us.length=s.length * 2
 | [],us,h=>by rw [show us=[] from h];rfl
 | x :: s,us,⟨v,y,us',h,_,_,h4⟩=>by rw [h];have:=PrC.len h4;simp [this];omega
theorem PrC.keep {F G:Nat→Prop} {W W':World} (hs:W.heap.size≤W'.heap.size) (hF:∀ b,F b→b < W.heap.size→G b∧∀ o,W'.cell? ⟨b,o,none⟩=W.cell? ⟨b,o,none⟩) :
  ∀ {s:List (Nd × Nd)} {us:List Value},PrC F W s us→PrC G W' s us
 | [],_,h=>h
 | _ :: _,_,⟨v,y,us',h,h2,h3,h4⟩=>⟨v,y,us',h,h2.keep hs hF,h3.keep hs hF,PrC.keep hs hF h4⟩
theorem PrC.snoc {G:Nat→Prop} {W:World} {d e:Nd} {v y:Value} (hd:NdX G W d v) (he:NdX G W e y) :
  ∀ {s:List (Nd × Nd)} {us:List Value},PrC G W s us→PrC G W (s++[(d,e)]) (us++[v,y])
 | [],us,h=>by obtain rfl:us=[]:=h;exact ⟨v,y,[],rfl,hd,he,rfl⟩
 | _ :: _,_,⟨v',y',us',h,h2,h3,h4⟩=>⟨v',y',_,by rw [h];rfl,h2,h3,PrC.snoc hd he h4⟩
theorem PrC.last {G:Nat→Prop} {W:World} {d e:Nd} :
  ∀ {s:List (Nd × Nd)} {us:List Value},PrC G W (s++[(d,e)]) us→∃ us' v y,us=us'++[v,y]∧NdX G W d v∧NdX G W e y∧PrC G W s us'
 | [],us,⟨v,y,us',h,h2,h3,h4⟩=>by obtain rfl:us'=[]:=h4;exact ⟨[],v,y,h,h2,h3,rfl⟩
 | x :: s,us,⟨v',y',us',h,h2,h3,h4⟩=>by
  obtain ⟨us2,v,y,e,g2,g3,g4⟩:=PrC.last h4;exact ⟨v' :: y' :: us2,v,y,by rw [h,e];rfl,g2,g3,v',y',us2,rfl,h2,h3,g4⟩
structure Prs (base:Nat) (W:World) (T:List (Nd × Nd)) (sv:Value) (us:List Value):Prop where
 row:W.ownsRow base 82 2 sv T.length us
 cells:PrC (Off sv) W T us
theorem TI {sv:Value} {W W':World} (hb:Below W.heap.size W W'):∀ b,Off sv b→b < W.heap.size→Off sv b∧∀ o,W'.cell? ⟨b,o,none⟩=W.cell? ⟨b,o,none⟩:=
 fun b hf hlt=>⟨hf,fun o=>hb.cell (p:=⟨b,o,none⟩) hlt⟩
theorem LB {sv v':Value} {W W':World} (hg:W.grownBy W' sv.ownBlock) (hat:v'.ownBlock=sv.ownBlock∨v'.ownBlock=some W.heap.size):∀ b,Off sv b→b < W.heap.size→Off v' b∧∀ o,W'.cell? ⟨b,o,none⟩=W.cell? ⟨b,o,none⟩:=by
 intro b hf hlt;refine ⟨?_,fun o=>Adn (w:=W) (a:=⟨b,o,none⟩) (hg.block b hlt (fun e=>hf e.symm))⟩;rcases hat with e | e
 ·unfold Off;rw [e];exact hf
 ·unfold Off;rw [e];intro e2;injection e2 with e2;omega
theorem Prs.mem {base:Nat} {W W':World} {T:List (Nd × Nd)} {sv:Value} {us:List Value} (h:Prs base W T sv us) (hb:Below W.heap.size W W'):Prs base W' T sv us:=
 ⟨Aa h.row (fun g hg=>hb.block _ (h.row.lt g hg).2),h.cells.keep hb.size (TI hb)⟩
theorem Prs.push {base:Nat} {W W':World} {T:List (Nd × Nd)} {sv v' v y:Value} {us:List Value} {d e:Nd} (h:Prs base W T sv us) (hd:NdX (Off sv) W d v) (he:NdX (Off sv) W e y)
  (hown:W'.ownsRow base 82 2 v' (T.length+1) (us++[v,y])) (hg:W.grownBy W' sv.ownBlock) (hat:v'.ownBlock=sv.ownBlock∨v'.ownBlock=some W.heap.size):Prs base W' (T++[(d,e)]) v' (us++[v,y]):=by
 have hk:=LB hg hat
 exact ⟨by rw [Adh];exact hown,PrC.snoc (hd.keep hg.size hk) (he.keep hg.size hk) (h.cells.keep hg.size hk)⟩
theorem Prs.top {base:Nat} {W:World} {T:List (Nd × Nd)} {sv:Value} {us:List Value} {d e:Nd} (h:Prs base W (T++[(d,e)]) sv us) :
  ∃ g cap v y us',sv=.slice (some ⟨g,0,none⟩) (T.length+1) cap∧T.length+1≤cap∧base≤g∧g < W.heap.size∧W.cell? ⟨g,T.length * 2,none⟩=some v∧W.cell? ⟨g,T.length * 2+1,none⟩=some y∧NdX (Off sv) W d v∧NdX (Off sv) W e y∧Prs base W T (.slice (some ⟨g,0,none⟩) T.length cap) us':=by
 have hrow:=h.row;rw [Adh] at hrow;obtain ⟨g,cap,rfl⟩:=ownsRow_succ hrow;obtain ⟨us',v,y,rfl,h1,h2,h3⟩:=h.cells.last;have hl:=h3.len;have hg:=hrow.lt g rfl;refine ⟨g,cap,v,y,us',rfl,Ro hrow,hg.1,hg.2,?_,?_,h1,h2,ownsRow_pop hl hrow,h3⟩
 ·rw [hrow.cellAt (T.length * 2) (show T.length * 2 < (T.length+1) * 2 by omega),←hl,List.getElem?_append_right (Adf _)]
  simp
 ·rw [hrow.cellAt (T.length * 2+1) (show T.length * 2+1 < (T.length+1) * 2 by omega),←hl,List.getElem?_append_right (by omega)]
  rw [show us'.length+1 - us'.length=1 by omega];rfl
theorem TJ:∃ i,Tryz.prog.info? 82=some i∧i.zero=some (.agg #[.nilIface,.nilIface])∧i.size=2∧i.bytes=32:=by
 have h:(Tryz.prog.info? 82).map (fun i=>(i.zero,i.size,i.bytes))=some (some (.agg #[.nilIface,.nilIface]),2,32):=by kernel_rfl
 obtain ⟨i,hi,he⟩:=Option.map_eq_some_iff.1 h;injection he with h1 h2;injection h2 with h2 h3;exact ⟨i,hi,h1,h2,h3⟩
end
section
open Go Go.RowKit
theorem O0 {g n n' cap b0:Nat} {w:World} {l:List Nd} {a:Option Addr} {c:Nat} (h:AW (fun b=>Off (.slice (some ⟨g,0,none⟩) n cap) b∨b0≤b) w l a c) (hg:g < b0):AW (Off (.slice (some ⟨g,0,none⟩) n' cap)) w l a c:=
 h.keep (Adf _) (fun b hb _=>⟨Or.elim hb (fun h=>h) (fun h e=>by simp [Value.ownBlock] at e;omega),fun _=>rfl⟩)
theorem LC (d e:Nd) (v y:Value) (w:World) (h:NdX (fun k=>k < w.heap.size) w d v) (k:NdX (fun k=>k < w.heap.size) w e y) (hsz:Au d≤4000000) :
  Calls Tryz.prog 28 #[v,y] w fun r w'=>r=.returned (.bool (Da d e))∧Below w.heap.size w w':=by
 obtain ⟨i0,hi,hz0,hz1,hz2⟩:=TJ;obtain ⟨R,hR⟩:∃ R,R=Da d e:=⟨_,rfl⟩;rw [←hR];have HR:=Ac8 hR;clear hR;have hs1:(∃ T q,v=.iface T q)∨v=.nilIface:=h.elim fun _ h=>Av h
 have hs2:(∃ T q,y=.iface T q)∨y=.nilIface:=k.elim fun _ h=>Av h
 go_enter Tryz.func28,Tryz.ntmps28;go_upto_region 1 with fail;go_cut [5] from 11 (fun tv wx=>∃ us,Prs w.heap.size wx [(d,e)] tv us∧Below w.heap.size w wx)
 case first=>
  have hP:∀ (v y:Value),NdX (fun k=>k < w.heap.size) w d v→NdX (fun k=>k < w.heap.size) w e y→Prs w.heap.size (w.alloc (.cells #[v,y] 82)) [(d,e)] (.slice (some ⟨w.heap.size,0,none⟩) 1 1) [v,y]:=by
   intro v y h k;have hB:=(Adk w.heap.size w).alloc (Adf _) (.cells #[v,y] 82);have hk:∀ b,b < w.heap.size→b < w.heap.size→Off (.slice (some ⟨w.heap.size,0,none⟩) 1 1) b∧∀ o,(w.alloc (.cells #[v,y] 82)).cell? ⟨b,o,none⟩=w.cell? ⟨b,o,none⟩:=fun b hb _=>
    ⟨fun e2=>by simp [Value.ownBlock] at e2;omega,fun o=>hB.cell (p:=⟨b,o,none⟩) hb⟩
   exact ⟨World.ownsRow_lit w #[v,y] 1 (Adf _) (by decide) rfl,v,y,[],rfl,h.keep hB.size hk,k.keep hB.size hk,rfl⟩
  have hP2:=hP v y h k;clear hP h k;rcases hs1 with ⟨T1,q1,rfl⟩ | rfl
  all_goals
   rcases hs2 with ⟨T2,q2,rfl⟩ | rfl
   all_goals
    go_wp2_with fail
    go_meet;exact ⟨_,hP2,(Adk w.heap.size w).alloc (Adf _) _⟩
 case rest=>
  clear hs1 hs2 h k;obtain ⟨us0,hP0,hW0⟩:=hcut;go_wp2_with fail
  go_loopg [5] (DA [(d,e)]+1) (fun gk tv wr=>∃ T us pv,pv=tv∧Prs w.heap.size wr T pv us∧R=FM T∧DA T+1≤gk∧DA T≤4000000∧Below w.heap.size w wr)
  case atStart=>exact ⟨_,us0,_,rfl,hP0,by rw [HR.out];simp [FM],Adf _,by rw [L8];exact hsz,hW0⟩
  case round=>
   obtain ⟨T,us,pv,hpv,hP,hRT,hgk,hsT,hW⟩:=hrel;subst hpv;clear hP0 hW0;rcases List.eq_nil_or_concat T with rfl | ⟨T,⟨d1,e1⟩,rfl⟩
   ·obtain ⟨a0,c0,rfl⟩:∃ a c,pv=.slice a 0 c:=by
     rcases hP.row.2 with ⟨e,_⟩ | ⟨g,cap,cur,e,_⟩
     ·exact ⟨_,_,e⟩
     ·exact ⟨_,_,e⟩
    have Hr:=Ac8 hRT;clear hRT hgk hsT;go_wp2_with fail
    go_ret;exact ⟨by rw [Hr.out];rfl,hW⟩
   ·rw [List.concat_eq_append] at hP hRT hgk hsT
    have hlT:=LA T;rw [Fh,L8] at hgk hsT;rw [Qy,OF] at hRT;have Hr:=Ac8 hRT;have Hg:=Ac8 hgk;have Hs:=Ac8 hsT;have Hk:=Ac8 (Jq d1);obtain ⟨g,cap,va,vb,us',rfl,hcap,hbg,hgl,q0,q1,hd1,he1,hP1⟩:=hP.top;have Wn:IntKind.i64.wrap ((T.length:Int)+1 - 1)=(T.length:Int):=by rw [Adm _ (by omega)];omega
    have hcp2:(T.length:Int)≤(cap:Int):=by omega
    have hcp3:¬ cap=0:=by omega
    have hT8:T.length≤4000000:=by omega
    clear hRT hgk hsT hP hlT;go_upto_region 3 with fail;go_cut [6] from 18 (fun x wx=>∃ p,x=.pointer (some ⟨p,0,none⟩)∧wx.cell? ⟨p,0,none⟩=some va∧wx.cell? ⟨p,1,none⟩=some vb∧p < wx.heap.size∧Below wr.heap.size wr wx)
    case first=>
     have h1:(∃ T q,va=.iface T q)∨va=.nilIface:=hd1.elim fun _ h=>Av h
     have h2:(∃ T q,vb=.iface T q)∨vb=.nilIface:=he1.elim fun _ h=>Av h
     clear hd1 he1 hP1;rcases h1 with ⟨T1,q1,rfl⟩ | rfl
     all_goals
      rcases h2 with ⟨T2,q2,rfl⟩ | rfl
      all_goals
       go_wp2_with fail
       go_meet;have hbk:=fun a b=>Blk.new wr #[a,b] 82 _ rfl
       exact ⟨_,rfl,((hbk _ _).cell 0).trans rfl,((hbk _ _).cell 1).trans rfl,(hbk _ _).lt,(Adk wr.heap.size wr).alloc (Adf _) _⟩
    case rest=>
     obtain ⟨p,rfl,p0,p1,hpl,hV⟩:=hcut;clear q0 q1;replace hd1:=hd1.below hV;replace he1:=he1.below hV;replace hP1:=hP1.mem hV;replace hW:=hW.trans (hV.mono hW.size);have hgl2:g < wc.heap.size:=Adi hgl hV.size;have hI1:=fun w' (hb:Below wc.heap.size wc w')=>Io d1 va w' (hd1.below hb)
     have hI2:=fun w' (hb:Below wc.heap.size wc w')=>Io e1 vb w' (he1.below hb)
     have hAl:=fun w' (hb:Below wc.heap.size wc w')=>TH d1 e1 va vb w' (hd1.below hb) (he1.below hb)
     clear hV;generalize Cf d1=l at hI1 Hr Hk;generalize Cf e1=m at hI2 Hr;generalize E3 d1 e1=hh at hAl Hr;clear hd1 he1;go_upto_region 5 with fail;go_cut [7,8] from 29 (fun x z wx=>∃ a1 c1 a2 c2,x=.slice a1 l.length c1∧z=.slice a2 m.length c2∧AW (Off (.slice (some ⟨g,0,none⟩) T.length cap)) wx l a1 c1∧AW (Off (.slice (some ⟨g,0,none⟩) T.length cap)) wx m a2 c2∧Below wc.heap.size wc wx)
     case first=>
      clear hAl
      go_region_with (first
       | (go_at_call_of 35 va;refine (hI1 _ (by first | exact hX9 | exact Below.drew (Adk _ _))).mono ?_;rintro r w8 ⟨a1,c1,rfl,hR1,b8⟩;have hX8:Below wc.heap.size wc w8:=(by first | exact hX9.trans (b8.mono hX9.size) | exact (Below.drew (Adk _ _)).trans b8);have k80:=(hX8.cell (p:=⟨p,0,none⟩) hpl).trans p0;have k81:=(hX8.cell (p:=⟨p,1,none⟩) hpl).trans p1;replace hR1:=O0 (n':=T.length) hR1 (by first | exact Adi hgl2 hX9.size | exact hgl2);(try have hR2':=hR2.below b8))
       | (go_at_call_of 35 vb;refine (hI2 _ (by first | exact hX8 | exact Below.drew (Adk _ _))).mono ?_;rintro r w9 ⟨a2,c2,rfl,hR2,b9⟩;have hX9:Below wc.heap.size wc w9:=(by first | exact hX8.trans (b9.mono hX8.size) | exact (Below.drew (Adk _ _)).trans b9);have k90:=(hX9.cell (p:=⟨p,0,none⟩) hpl).trans p0;have k91:=(hX9.cell (p:=⟨p,1,none⟩) hpl).trans p1;replace hR2:=O0 (n':=T.length) hR2 (by first | exact Adi hgl2 hX8.size | exact hgl2);(try have hR1':=hR1.below b9)))
      all_goals go_wp2_with fail
      all_goals go_meet
      all_goals first | exact ⟨a1,c1,a2,c2,rfl,rfl,hR1',hR2,hX9⟩ | exact ⟨a1,c1,a2,c2,rfl,rfl,hR1,hR2',hX8⟩
     case rest=>
      obtain ⟨a1,c1,a2,c2,rfl,rfl,hR1,hR2,hV⟩:=hcut;have hA2:=hAl _ hV;clear hAl hI1 hI2;have k0:=(hV.cell (p:=⟨p,0,none⟩) hpl).trans p0;have k1:=(hV.cell (p:=⟨p,1,none⟩) hpl).trans p1;clear p0 p1;replace hP1:=hP1.mem hV;replace hW:=hW.trans (hV.mono hW.size);clear hV;cases hh
      ·have Hf:=Ac8 (show R=false by rw [Hr.out,Bool.false_and,Bool.and_false])
       go_wp2_with (go_at_call 36;refine hA2.mono ?_;rintro r w3 ⟨rfl,b3⟩)
       go_ret;exact ⟨IH Hf.out.symm,hW.trans (b3.mono hW.size)⟩
      ·by_cases hl:l.length=m.length
       ·have e1:((l.length:Int) != (m.length:Int))=false:=by simp [hl]
        have Hl:=Ac8 hl;have HRn:=Ac8 (show R=FM (T++l.zip m) by rw [Hr.out,MP,Qz _ _ hl];rfl);have Hgn:=Ac8 (show DA (T++l.zip m)+1 < gk by have h1:=Hg.out;have h2:=Hk.out;rw [Fh,L9 _ _ hl];omega);have Hsn:=Ac8 (show DA (T++l.zip m)≤4000000 by have h1:=Hs.out;have h2:=Hk.out;rw [Fh,L9 _ _ hl];omega);have hbd:T.length+l.length+1≤4000000:=by have h1:=Hs.out;have h2:=Hk.out;have h3:=LA T;have h4:=Gi l;omega
        have hq1:=hR1.1;have hq2:=hR1.2.1;have hq3:=hR2.1;have hq4:=hR2.2.1;unfold maxLen at hq2 hq4;clear hl Hr Hg Hs Hk HR;go_wp2_with (go_at_call 36;refine hA2.mono ?_;rintro r w3 ⟨rfl,b3⟩)
        replace hP1:=hP1.mem b3;replace hR1:=hR1.below b3;replace hR2:=hR2.below b3;replace hW:=hW.trans (b3.mono hW.size);clear b3 hA2 k0 k1;go_loopw [5,50] (fun tv i wq=>∃ (k:Nat) (us2:List Value) (pv:Value),k≤l.length∧i=.int .i64 k∧pv=tv∧Prs w.heap.size wq (T++(l.zip m).take k) pv us2∧AW (Off pv) wq l a1 c1∧AW (Off pv) wq m a2 c2∧Below w.heap.size w wq) (fun _ i _=>l.length - (intOf i).toNat)
        case atStart=>exact ⟨0,us',_,Nat.zero_le _,rfl,rfl,by rw [List.take_zero,List.append_nil];exact hP1,hR1,hR2,hW⟩
        case round=>
         clear hP1 hR1 hR2 hW;obtain ⟨k,us2,pv,hk,rfl,hpv,hP,hR1,hR2,hW⟩:=hrel;subst hpv;by_cases hlt:k < l.length
         ·have hkm:k < m.length:=by have:=Hl.out;omega
          obtain ⟨b1,o1,rfl,_,hb1,hx1⟩:=hR1.2.2 (by omega);obtain ⟨b2,o2,rfl,_,hb2,hx2⟩:=hR2.2.2 (by omega);obtain ⟨u1,hu1,hn1⟩:=hx1 k hlt;obtain ⟨u2,hu2,hn2⟩:=hx2 k hkm;have Hz:=Ac8 (WF l m k hlt hkm);have hlen2:(T++(l.zip m).take k).length=T.length+k:=by have:=Hl.out;rw [Adh,List.length_take,List.length_zip];omega
          have hA:=fun o=>(Adk wr.heap.size wr).alloc (Adf _) o
          have hPd:=fun o=>hP.mem (hA o)
          have hrow:=fun o=>(hPd o).row
          rw [hlen2] at hrow;have hm1:T.length+k+1≤maxLen:=by unfold maxLen;omega
          have hm2:(T.length+k+1) * 32≤140737488355328:=by omega
          clear hx1 hx2;have hPush:∀ (o:Obj) (w4:World) (v4:Value),w4.ownsRow w.heap.size 82 2 v4 (T.length+k+1) (us2++[u1,u2])→(wr.alloc o).grownBy w4 pv.ownBlock→(v4.ownBlock=pv.ownBlock∨v4.ownBlock=some (wr.alloc o).heap.size)→
            Prs w.heap.size w4 (T++(l.zip m).take (k+1)) v4 (us2++[u1,u2])∧AW (Off v4) w4 l (some ⟨b1,o1,none⟩) c1∧AW (Off v4) w4 m (some ⟨b2,o2,none⟩) c2∧Below w.heap.size w w4:=by
           intro o w4 v4 hown hgrow hat;have hkp:=LB hgrow hat
           refine ⟨?_,(hR1.below (hA o)).keep hgrow.size hkp,(hR2.below (hA o)).keep hgrow.size hkp,(hW.trans ((hA o).mono hW.size)).grown hgrow (Adg hW.size (hA o).size) (fun k hk=>(hP.row.lt k hk).1)⟩;rw [Hz.out,←List.append_assoc];exact (hPd o).push (hn1.below (hA o)) (hn2.below (hA o)) (by rw [hlen2];exact hown) hgrow hat
          have h1:(∃ T q,u1=.iface T q)∨u1=.nilIface:=hn1.elim fun _ h=>Av h
          have h2:(∃ T q,u2=.iface T q)∨u2=.nilIface:=hn2.elim fun _ h=>Av h
          have hbase:=fun o=>Adg hW.size (hA o).size
          clear hPd hR1 hR2 hW hP hn1 hn2 hA hlen2;rcases h1 with ⟨T1,r1,rfl⟩ | rfl
          all_goals
           rcases h2 with ⟨T2,r2,rfl⟩ | rfl
           all_goals
            go_wp2_with (at_builtin;refine Af _ rfl _ _ 83 rfl w.heap.size 82 i0 (.agg #[.nilIface,.nilIface]) 2 32 Tryz.underlying83 hi hz0 hz1 hz2 rfl (by decide) _ _ _ rfl (hrow _) (some ⟨wr.heap.size,0,none⟩) 1 1 [_,_] rfl rfl (fun _=>⟨_,rfl,cell_two_new _ _ _ _⟩) (by intro y hy;simp at hy;rcases hy with rfl | rfl <;> rfl) hm1 hm2 (hbase _) ?_;intro v4 w4 hown hgrow hat)
            obtain ⟨g1,g2,g3,g4⟩:=hPush _ _ _ hown hgrow hat;clear hrow hbase hPush hown hgrow hat;go_roundw
            case rel=>exact ⟨k+1,_,_,by omega,by go_num,rfl,g1,g2,g3,g4⟩
            case measure=>simp [intOf];omega
         ·obtain rfl:k=l.length:=by omega
          have hz2:(l.zip m).take l.length=l.zip m:=List.take_of_length_le (by rw [List.length_zip];omega);rw [hz2] at hP;go_wp2_with fail
          go_roundg (DA (T++l.zip m)+1)
          case measure=>exact Hgn.out
          case rel=>exact ⟨_,_,_,rfl,hP,HRn.out,Adf _,Hsn.out,hW⟩
       ·have e1:((l.length:Int) != (m.length:Int))=true:=by simp;omega
        have Hf:=Ac8 (show R=false by rw [Hr.out,OG _ _ hl,Bool.and_false,Bool.and_false]);clear hl;go_wp2_with (go_at_call 36;refine hA2.mono ?_;rintro r w3 ⟨rfl,b3⟩)
        go_ret;exact ⟨IH Hf.out.symm,hW.trans (b3.mono hW.size)⟩
end
section
open Go Go.RowKit
def I0 (x y:Adr):Bool:=
 if x.kind=y.kind then (if x.kind=1∨x.kind=4 then decide (x.line=y.line) else if x.kind=3 then (match x.tree,y.tree with | some d,some e=>Da d e | _,_=>true) else true) else false
def BV (x y:Adr) (R:Bool):Bool:=
 if x.kind=y.kind then (if x.kind=1∨x.kind=4 then R else if x.kind=3 then (match x.tree,y.tree with | some d,some e=>Da d e | _,_=>true) else true) else false
theorem Ic (x y:Adr):BV x y (decide ((x.line:Int)=(y.line:Int)))=I0 x y:=by
 unfold BV I0;rw [show decide ((x.line:Int)=(y.line:Int))=decide (x.line=y.line) from decide_eq_decide.2 (by omega)]
theorem IL (x:Adr):I0 x x=true:=by
 unfold I0;rw [if_pos rfl];split
 ·simp
 ·split
  ·cases x.tree with
   | none=>rfl
   | some d=>exact DQ d
  ·rfl
def Bp (x:Adr):Prop:=x.kind=3→∃ d,x.tree=some d∧Au d≤4000000
theorem Ku (x y:Adr) (lx ly:Int) (sx sy:ByteArray) (tx ty:Value) (w:World) (hx:TrO (fun b=>b < w.heap.size) w x.tree tx) (hy:TrO (fun b=>b < w.heap.size) w y.tree ty) (fx:Bp x) (fy:Bp y) :
  Calls Tryz.prog 27 #[.agg #[.int .i64 (x.kind:Int),.int .i64 lx,.string sx,tx],.agg #[.int .i64 (y.kind:Int),.int .i64 ly,.string sy,ty]] w fun e w'=>e=.returned (.bool (BV x y (decide (lx=ly))))∧Below w.heap.size w w':=by
 have hw2:∀ W2,Below w.heap.size w W2→∀ {t v},TrO (fun b=>b < w.heap.size) w t v→TrO (fun b=>b < W2.heap.size) W2 t v:=fun W2 hb t v h=>TrO.keep hb.size (fun b hb1 hl=>⟨Adi hl hb.size,fun o=>hb.cell (p:=⟨b,o,none⟩) hl⟩) h
 have hX:=Blk.new w #[.int .i64 (x.kind:Int),.int .i64 lx,.string sx,tx] 40 _ rfl;have hb1:=(Adk w.heap.size w).alloc (Adf _) (.cells #[.int .i64 (x.kind:Int),.int .i64 lx,.string sx,tx] 40);have hs1:=World.size_alloc w (.cells #[.int .i64 (x.kind:Int),.int .i64 lx,.string sx,tx] 40);obtain ⟨W1,hW1⟩:∃ W1,w.alloc (.cells #[.int .i64 (x.kind:Int),.int .i64 lx,.string sx,tx] 40)=W1:=⟨_,rfl⟩;rw [hW1] at hX hb1 hs1;have hY:=Blk.new W1 #[.int .i64 (y.kind:Int),.int .i64 ly,.string sy,ty] 40 _ rfl;have hb2:=hb1.alloc hb1.size (.cells #[.int .i64 (y.kind:Int),.int .i64 ly,.string sy,ty] 40);replace hX:=hX.alloc (.cells #[.int .i64 (y.kind:Int),.int .i64 ly,.string sy,ty] 40);obtain ⟨W2,hW2⟩:∃ W2,W1.alloc (.cells #[.int .i64 (y.kind:Int),.int .i64 ly,.string sy,ty] 40)=W2:=⟨_,rfl⟩;rw [hW2] at hX hY hb2;obtain ⟨p,hp⟩:∃ p,W1.heap.size=p:=⟨_,rfl⟩;rw [hp] at hY;obtain ⟨x0,x1,x2,x3,_,_,_,_,hxl⟩:=Bd hX;obtain ⟨y0,y1,y2,y3,_,_,_,_,hyl⟩:=Bd hY;have HB:=Ac8 hb2;have HX:=Ac8 (hw2 _ hb2 hx);have HY:=Ac8 (hw2 _ hb2 hy);have hshx:=hx.shape;have hshy:=hy.shape;clear hX hY hb1 hb2 hs1 hx hy hw2;by_cases hk:x.kind=y.kind
 ·have hkk:((x.kind:Int) != (y.kind:Int))=false:=by simp [hk]
  by_cases h14:x.kind=1∨x.kind=4
  ·rw [show BV x y (decide (lx=ly))=decide (lx=ly) by unfold BV;rw [if_pos hk,if_pos h14]]
   have hl:(lx == ly)=decide (lx=ly):=by
    by_cases h:lx=ly
    ·rw [decide_eq_true h];simp [h]
    ·rw [decide_eq_false h];simp;omega
   generalize decide (lx=ly)=R at hl ⊢;rcases h14 with h | h
   ·have q1:((x.kind:Int) == 1)=true:=by simp [h]
    clear h hk fx fy;rcases hshx with ⟨T8,q8,rfl⟩ | rfl <;> rcases hshy with ⟨T9,q9,rfl⟩ | rfl
    all_goals
     go_enter Tryz.func27,Tryz.ntmps27;go_wp2_with fail
     go_ret;exact ⟨rfl,HB.out⟩
   ·have q1:((x.kind:Int) == 1)=false:=by simp [h]
    have q4:((x.kind:Int) == 4)=true:=by simp [h]
    clear h hk fx fy;rcases hshx with ⟨T8,q8,rfl⟩ | rfl <;> rcases hshy with ⟨T9,q9,rfl⟩ | rfl
    all_goals
     go_enter Tryz.func27,Tryz.ntmps27;go_wp2_with fail
     go_ret;exact ⟨rfl,HB.out⟩
  ·have q1:((x.kind:Int) == 1)=false:=by simp;omega
   have q4:((x.kind:Int) == 4)=false:=by simp;omega
   by_cases h3:x.kind=3
   ·obtain ⟨d,hd,hsz⟩:=fx h3
    obtain ⟨e,he,_⟩:=fy (hk▸h3);rw [show BV x y (decide (lx=ly))=Da d e by unfold BV;rw [if_pos hk,if_neg h14,if_pos h3,hd,he]];have q3:((x.kind:Int) == 3)=true:=by simp [h3]
    have hX:=HX.out;have hY:=HY.out;rw [hd] at hX;rw [he] at hY;have hS:=LC d e tx ty W2 hX hY hsz;generalize Da d e=R at hS ⊢;clear hk h14 h3 fx fy hX hY hd he;rcases hshx with ⟨T8,q8,rfl⟩ | rfl <;> rcases hshy with ⟨T9,q9,rfl⟩ | rfl
    all_goals
     go_enter Tryz.func27,Tryz.ntmps27;go_wp2_with (go_at_call 28;refine hS.mono ?_;clear hS;rintro e w3 ⟨rfl,b3⟩)
     go_ret;exact ⟨rfl,HB.out.trans (b3.mono HB.out.size)⟩
   ·rw [show BV x y (decide (lx=ly))=true by unfold BV;rw [if_pos hk,if_neg h14,if_neg h3]]
    have q3:((x.kind:Int) == 3)=false:=by simp;omega
    clear hk h14 h3 fx fy;rcases hshx with ⟨T8,q8,rfl⟩ | rfl <;> rcases hshy with ⟨T9,q9,rfl⟩ | rfl
    all_goals
     go_enter Tryz.func27,Tryz.ntmps27;go_wp2_with fail
     go_ret;exact ⟨rfl,HB.out⟩
 ·rw [show BV x y (decide (lx=ly))=false by unfold BV;rw [if_neg hk]]
  have hkk:((x.kind:Int) != (y.kind:Int))=true:=by simp;omega
  clear hk fx fy;rcases hshx with ⟨T8,q8,rfl⟩ | rfl <;> rcases hshy with ⟨T9,q9,rfl⟩ | rfl
  all_goals
   go_enter Tryz.func27,Tryz.ntmps27;go_wp2_with fail
   go_ret;exact ⟨rfl,HB.out⟩
end
section
open Go Go.RowKit
def Q0 (g h:Grd):Bool:=g.no == h.no && (I0 g.a h.a && I0 g.b h.b)
def MQ (g h:Grd) (R1 R2:Bool):Bool:=g.no == h.no && (BV g.a h.a R1 && BV g.b h.b R2)
structure Gd3 (B:Nat) (g h:Grd) (ta tb tc td:Value) (W:World):Prop where
 a:TrO (fun b=>b < B) W g.a.tree ta
 b:TrO (fun b=>b < B) W g.b.tree tb
 c:TrO (fun b=>b < B) W h.a.tree tc
 d:TrO (fun b=>b < B) W h.b.tree td
abbrev Gd2 (g h:Grd) (ta tb tc td:Value) (W:World):Prop:=Gd3 W.heap.size g h ta tb tc td W
theorem Jj {F:Nat→Prop} {w:World} {t:Option Nd} {v:Value} (h:TrO F w t v):TrO (fun b=>b < w.heap.size) w t v:=TrO.keep (Adf _) (fun _ _ hl=>⟨hl,fun _=>rfl⟩) h
theorem Gd3.keep {B:Nat} {g h:Grd} {ta tb tc td:Value} {w W:World} (k:Gd3 B g h ta tb tc td w) (hs:w.heap.size≤W.heap.size) (hb:∀ b,b < B→W.heap[b]?=w.heap[b]?):Gd3 B g h ta tb tc td W:=by
 have e:∀ {t:Option Nd} {v:Value},TrO (fun b=>b < B) w t v→TrO (fun b=>b < B) W t v:=fun k=>TrO.keep hs (fun b h1 _=>⟨h1,fun o=>Adn (w:=w) (a:=⟨b,o,none⟩) (hb b h1)⟩) k
 exact ⟨e k.a,e k.b,e k.c,e k.d⟩
theorem Gd3.wide {B:Nat} {g h:Grd} {ta tb tc td:Value} {W:World} (k:Gd3 B g h ta tb tc td W):Gd2 g h ta tb tc td W:=⟨Jj k.a,Jj k.b,Jj k.c,Jj k.d⟩
theorem D6 {w W:World} (hb:Below w.heap.size w W) {t:Option Nd} {v:Value} (h:TrO (fun b=>b < w.heap.size) w t v):TrO (fun b=>b < W.heap.size) W t v:=
 TrO.keep hb.size (fun b _ hl=>⟨Adi hl hb.size,fun o=>hb.cell (p:=⟨b,o,none⟩) hl⟩) h
theorem Q4 {g h:Grd} {ta tb tc td:Value} {w W:World} (k:Gd2 g h ta tb tc td w) (hb:Below w.heap.size w W):Gd2 g h ta tb tc td W:=⟨D6 hb k.a,D6 hb k.b,D6 hb k.c,D6 hb k.d⟩
theorem Q5 (g h:Grd) (la lb lc ld:Int) (sa sb sc sd:ByteArray) (ta tb tc td:Value) (w:World) (k:Gd2 g h ta tb tc td w) (fa:Bp g.a) (fb:Bp g.b) (fc:Bp h.a) (fd:Bp h.b) :
  Calls Tryz.prog 19 #[.agg #[.int .i64 (g.a.kind:Int),.int .i64 la,.string sa,ta,.int .i64 (g.b.kind:Int),.int .i64 lb,.string sb,tb,.bool g.no],.agg #[.int .i64 (h.a.kind:Int),.int .i64 lc,.string sc,tc,.int .i64 (h.b.kind:Int),.int .i64 ld,.string sd,td,.bool h.no]] w fun e w'=>e=.returned (.bool (MQ g h (decide (la=lc)) (decide (lb=ld))))∧Below w.heap.size w w':=by
 have hX:=Blk.new w #[.int .i64 (g.a.kind:Int),.int .i64 la,.string sa,ta,.int .i64 (g.b.kind:Int),.int .i64 lb,.string sb,tb,.bool g.no] 42 _ rfl;have hb1:=(Adk w.heap.size w).alloc (Adf _) (.cells #[.int .i64 (g.a.kind:Int),.int .i64 la,.string sa,ta,.int .i64 (g.b.kind:Int),.int .i64 lb,.string sb,tb,.bool g.no] 42);obtain ⟨W1,hW1⟩:∃ W1,w.alloc (.cells #[.int .i64 (g.a.kind:Int),.int .i64 la,.string sa,ta,.int .i64 (g.b.kind:Int),.int .i64 lb,.string sb,tb,.bool g.no] 42)=W1:=⟨_,rfl⟩;rw [hW1] at hX hb1;have hY:=Blk.new W1 #[.int .i64 (h.a.kind:Int),.int .i64 lc,.string sc,tc,.int .i64 (h.b.kind:Int),.int .i64 ld,.string sd,td,.bool h.no] 42 _ rfl;have hb2:=hb1.alloc hb1.size (.cells #[.int .i64 (h.a.kind:Int),.int .i64 lc,.string sc,tc,.int .i64 (h.b.kind:Int),.int .i64 ld,.string sd,td,.bool h.no] 42);replace hX:=hX.alloc (.cells #[.int .i64 (h.a.kind:Int),.int .i64 lc,.string sc,tc,.int .i64 (h.b.kind:Int),.int .i64 ld,.string sd,td,.bool h.no] 42);obtain ⟨W2,hW2⟩:∃ W2,W1.alloc (.cells #[.int .i64 (h.a.kind:Int),.int .i64 lc,.string sc,tc,.int .i64 (h.b.kind:Int),.int .i64 ld,.string sd,td,.bool h.no] 42)=W2:=⟨_,rfl⟩;rw [hW2] at hX hY hb2;obtain ⟨p,hp⟩:∃ p,W1.heap.size=p:=⟨_,rfl⟩;rw [hp] at hY;have HX:=Ac8 hX;have HY:=Ac8 hY;obtain ⟨⟨x0,x1,x2,x3,x4,x5,x6,x7,x8⟩,_,_,_,_,_,_,_,_,_,hxl⟩:=BO hX;obtain ⟨⟨y0,y1,y2,y3,y4,y5,y6,y7,y8⟩,_,_,_,_,_,_,_,_,_,hyl⟩:=BO hY;have HB:=Ac8 hb2;have hK:=Q4 k hb2;have hs1:=Ku g.a h.a la lc sa sc ta tc W2 hK.a hK.c fa fc;have hs2:=fun w' (hb:Below W2.heap.size W2 w')=>Ku g.b h.b lb ld sb sd tb td w' (Q4 hK hb).b (Q4 hK hb).d fb fd
 clear hX hY hb1 hb2 k hK fa fb fc fd;unfold MQ;generalize BV g.a h.a (decide (la=lc))=R1 at hs1 ⊢;generalize BV g.b h.b (decide (lb=ld))=R2 at hs2 ⊢;obtain ⟨n,hn⟩:∃ n,(g.no == h.no)=n:=⟨_,rfl⟩;rw [hn];cases n
 ·clear hs1 hs2
  go_enter Tryz.func19,Tryz.ntmps19;go_wp2_with fail
  go_ret;exact ⟨rfl,HB.out⟩
 ·cases R1
  ·clear hs2
   go_enter Tryz.func19,Tryz.ntmps19;go_wp2_with (go_at_call 27;refine hs1.mono ?_;clear hs1;rintro e w3 ⟨rfl,b3⟩)
   go_ret;exact ⟨rfl,HB.out.trans (b3.mono HB.out.size)⟩
  ·go_enter Tryz.func19,Tryz.ntmps19
   go_wp2_with (first
    | (go_at_call 27;refine hs1.mono ?_;clear hs1;rintro e w3 ⟨rfl,b3⟩;have hs4:=hs2 w3 b3;clear hs2;have B3:=Ac8 (HB.out.trans (b3.mono HB.out.size));have X3:=Ac8 (HX.out.below b3 HX.out.lt);have Y3:=Ac8 (HY.out.below b3 HY.out.lt);clear b3 x0 x1 x2 x3 x4 x5 x6 x7 x8 hxl y0 y1 y2 y3 y4 y5 y6 y7 y8 hyl;obtain ⟨⟨x0,x1,x2,x3,x4,x5,x6,x7,x8⟩,_,_,_,_,_,_,_,_,_,hxl⟩:=BO X3.out;obtain ⟨⟨y0,y1,y2,y3,y4,y5,y6,y7,y8⟩,_,_,_,_,_,_,_,_,_,hyl⟩:=BO Y3.out)
    | (go_at_call 27;refine hs4.mono ?_;clear hs4;rintro e w4 ⟨rfl,b4⟩))
   go_ret;exact ⟨rfl,B3.out.trans (b4.mono B3.out.size)⟩
theorem Q6 (g h:Grd) (ta tb tc td:Value) (w:World) (k:Gd2 g h ta tb tc td w) (fa:Bp g.a) (fb:Bp g.b) (fc:Bp h.a) (fd:Bp h.b) :
  Calls Tryz.prog 19 #[.agg #[.int .i64 (g.a.kind:Int),.int .i64 (g.a.line:Int),.string (txt g.a.text),ta,.int .i64 (g.b.kind:Int),.int .i64 (g.b.line:Int),.string (txt g.b.text),tb,.bool g.no],.agg #[.int .i64 (h.a.kind:Int),.int .i64 (h.a.line:Int),.string (txt h.a.text),tc,.int .i64 (h.b.kind:Int),.int .i64 (h.b.line:Int),.string (txt h.b.text),td,.bool h.no]] w fun e w'=>e=.returned (.bool (Q0 g h))∧Below w.heap.size w w':=by
 have e:=Q5 g h g.a.line g.b.line h.a.line h.b.line (txt g.a.text) (txt g.b.text) (txt h.a.text) (txt h.b.text) ta tb tc td w k fa fb fc fd;unfold MQ at e
 rwa [Ic,Ic] at e
end
section
open Go Go.RowKit
theorem G9 {ext:Bool} {L:List UInt8} {b:Nat} {d:UInt8} {q:(List UInt8 × Nd) × List Wm × Nat} (h:At ext L b d=.ok q):Au q.1.2≤4000000:=by
 unfold At at h;simp only at h;split at h
 ·split at h
  ·cases h
  ·split at h
   ·cases h
   ·rename_i q' hp
    injection h with h;subst h;have:=Pj (st:=q'.1) (d:=q'.2) hp;show Au q'.2≤_;omega
 ·cases h
theorem LD {ext:Bool} {L:List UInt8} {b:Nat} {d:UInt8} {q:Adr × List Wm × Nat} (h:Ec ext L b d=.ok q):Bp q.1:=by
 unfold Ec at h;split at h
 ·cases h
 ·rename_i hp
  injection h with h;subst h;exact fun _=>⟨_,rfl,G9 hp⟩
theorem Ek {a:Adr} (h:a.kind≠3):Bp a:=fun h3=>absurd h3 h
theorem O1 {ext second:Bool} {L:List UInt8} {k:Nat} {q:Adr × List Wm × Nat} (h:EN ext second L k=.ok q):Bp q.1:=by
 unfold EN at h;split at h
 ·injection h with h;subst h;exact Ek (Nat.ne_of_lt (Nat.lt_of_sub_eq_succ rfl))
 ·split at h
  ·unfold Dl at h
   simp only at h;split at h
   ·split at h
    ·cases h
    ·injection h with h;subst h;exact Ek (Nat.ne_of_lt (Nat.lt_of_sub_eq_succ rfl))
   ·cases h
  ·split at h
   ·injection h with h;subst h;exact Ek (Nat.ne_of_lt (Nat.lt_of_sub_eq_succ rfl))
   ·split at h
    ·exact LD h
    ·split at h
     ·unfold EE at h
      split at h
      ·cases h
      ·split at h
       ·cases h
       ·exact LD h
     ·split at h
      ·unfold Dm at h
       simp only at h;split at h
       ·injection h with h;subst h;exact Ek (Nat.ne_of_gt (Nat.lt_of_sub_eq_succ rfl))
       ·cases h
      ·injection h with h;subst h;exact Ek (Nat.ne_of_lt (Nat.lt_of_sub_eq_succ rfl))
theorem WG {ext:Bool} {L:List UInt8} {k:Nat} {q:Grd × List Wm × Nat} (h:IW ext L k=.ok q):Bp q.1.a∧Bp q.1.b:=by
 unfold IW at h;cases h1:EN ext false L k with
 | error q=>rw [h1] at h;cases h
 | ok r=>
  rw [h1] at h;have f1:=O1 h1;unfold Ed at h;simp only at h;split at h
  ·unfold G2 F5 at h
   simp only at h;split at h
   ·cases h
   ·injection h with h
    subst h;exact ⟨f1,Ek (show (0:Nat)≠3 by decide)⟩
  ·cases h2:BY ext L r.2.2 with
   | error q=>rw [h2] at h;cases h
   | ok r2=>
    rw [h2] at h;have f2:Bp r2.1:=by
     unfold BY at h2;split at h2
     ·unfold Et at h2
      split at h2
      ·cases h2
      ·rename_i h3
       split at h2
       ·cases h2
       ·injection h2 with h2
        subst h2;exact O1 h3
     ·injection h2 with h2
      subst h2;exact Ek (show (0:Nat)≠3 by decide)
    unfold F4 G2 F5 at h;simp only at h;split at h
    ·cases h
    ·injection h with h
     subst h;exact ⟨f1,f2⟩
theorem R4 {ext:Bool} {L:List UInt8} {k:Nat} {q:Nat × Nat} (h:IW ext L k=.error q):q.1≠0:=by
 unfold IW at h;cases h1:EN ext false L k with
 | error q2=>
  rw [h1] at h;have e:=Jg h1;unfold Ed G2 at h;injection h with h;rw [←h];exact e
 | ok r=>
  rw [h1] at h;unfold Ed at h;simp only at h;split at h
  ·unfold G2 F5 at h
   simp only at h;split at h
   ·rename_i h2
    injection h with h;rw [←h];exact Ge h2
   ·cases h
  ·cases h2:BY ext L r.2.2 with
   | error q2=>
    rw [h2] at h;have e:=L0 h2;unfold F4 G2 at h;injection h with h;rw [←h];exact e
   | ok r2=>
    rw [h2] at h;unfold F4 G2 F5 at h;simp only at h;split at h
    ·rename_i h3
     injection h with h;rw [←h];exact Ge h3
    ·cases h
end
section
open Go Go.RowKit
theorem Z6 {ext:Bool} {L:List UInt8} {d:UInt8} {st:CS} (hk:st.k≤L.length) (h0:(DF ext L d st).1=0):(DF ext L d st).2.k≤L.length∧(DF ext L d st).2.ms.length≤st.ms.length+250∧∃ D,(DF ext L d st).2.c.sub.tree=some D∧Au D≤4000000:=by
 unfold DF at h0 ⊢;cases hR:At ext L st.k d with
 | error q=>rw [hR] at h0;exact absurd h0 (EL hR)
 | ok q=>
  obtain ⟨h1,h2⟩:=Kk hk hR;refine ⟨h1,?_,_,rfl,G9 hR⟩;show (st.ms++q.2.1).length≤_;rw [Adh];omega
theorem WH (w:World) (p:Nat) (s:ByteArray) (ext:Bool) (st:CS) (W:World) (h:Dg w p s ext st W) (hs:s.size≤4000) (hk:st.k≤s.size) (hl:st.ms.length≤90000) (hG:Gl w) (hP:GP w) :
  Calls Tryz.prog 48 #[.pointer (some ⟨p,0,none⟩)] W fun e W'=>e=.returned (.int .i64 ((Cx ext s.data.toList st).1:Int))∧Dg w p s ext (Cx ext s.data.toList st).2 W':=by
 have hs4:s.size≤4000000:=by omega
 have hA:=Oq w p s ext st W h hs4 hk;have hk1:=EZ (L:=s.data.toList) (st:=st) (by rw [←Ad];exact hk);have hm1:=GT s.data.toList st;rw [←Ad] at hk1;obtain ⟨Z,hZ⟩:∃ Z,Cx ext s.data.toList st=Z:=⟨_,rfl⟩;rw [hZ];unfold Cx at hZ;obtain ⟨⟨d,e1,s1⟩,hR1⟩:∃ R,A6 s.data.toList st=R:=⟨_,rfl⟩;rw [hR1] at hA hk1 hm1 hZ;simp only at hA hk1 hm1 hZ;unfold CO.then at hZ
 simp only at hZ;clear hR1 h;by_cases h1:e1=0
 ·subst h1
  rw [if_pos rfl] at hZ;have hB:=fun W1 (h1:Dg w p s ext s1 W1)=>YS w p s ext s1 d W1 h1 hs4 hk1 (by rw [hm1];exact hl) hG hP
  have hok2:=Z6 (ext:=ext) (d:=d) (st:=s1) (L:=s.data.toList) (by rw [←Ad];exact hk1);obtain ⟨⟨e2,s2⟩,hR2⟩:∃ R,DF ext s.data.toList d s1=R:=⟨_,rfl⟩;rw [hR2] at hB hok2 hZ;simp only at hB hok2 hZ;clear hR2;by_cases h2:e2=0
  ·subst h2
   rw [if_pos rfl] at hZ;obtain ⟨hk2,hm2,D,hD,hDz⟩:=hok2 rfl;rw [←Ad] at hk2;have hC:=fun W1 (h1:Dg w p s ext s2 W1)=>Wy w p s ext s2 d D W1 h1 hD hDz hs hk2 hP
   have hk3:=IX (L:=s.data.toList) (d:=d) (st:=s2) (by rw [←Ad];exact hk2);have hm3:=Va s.data.toList d s2;rw [←Ad] at hk3;obtain ⟨⟨e3,s3⟩,hR3⟩:∃ R,CE s.data.toList d s2=R:=⟨_,rfl⟩;rw [hR3] at hC hk3 hm3 hZ;simp only at hC hk3 hm3 hZ;by_cases h3:e3=0
   ·subst h3
    rw [if_pos rfl,←Ad] at hZ;have hE:=fun W1 (h1:Dg w p s ext s3 W1)=>Ql w p s ext s3 W1 h1 hs4 hk3 (by rw [hm3];rw [hm1] at hm2;omega)
    rw [hZ] at hE;clear hR3 hZ hok2 hD hDz hk3 hm3 hm2 hk2 hm1 hk1 hG hP hl hk;go_enter Tryz.func48,Tryz.ntmps48;go_wp2_with (first
     | (go_at_call 72;refine hA.mono ?_;clear hA;rintro e w1 ⟨rfl,h1⟩)
     | (go_at_call 73;refine (hB _ h1).mono ?_;clear hB;rintro e w2 ⟨rfl,h2⟩)
     | (go_at_call 74;refine (hC _ h2).mono ?_;clear hC;rintro e w3 ⟨rfl,h3⟩)
     | (go_at_call 75;refine (hE _ h3).mono ?_;clear hE;rintro e w4 ⟨rfl,h4⟩))
    go_ret;exact ⟨rfl,h4⟩
   ·rw [if_neg h3] at hZ
    subst hZ;have ce:((e3:Int) != 0)=true:=by simpa using h3
    clear hR3 hok2 hD hDz hk3 hm3 hm2 hk2 hm1 hk1 hG hP hl hk h3;go_enter Tryz.func48,Tryz.ntmps48;go_wp2_with (first
     | (go_at_call 72;refine hA.mono ?_;clear hA;rintro e w1 ⟨rfl,h1⟩)
     | (go_at_call 73;refine (hB _ h1).mono ?_;clear hB;rintro e w2 ⟨rfl,h2⟩)
     | (go_at_call 74;refine (hC _ h2).mono ?_;clear hC;rintro e w3 ⟨rfl,h3⟩))
    go_ret;exact ⟨rfl,h3⟩
  ·rw [if_neg h2] at hZ
   subst hZ;have ce:((e2:Int) != 0)=true:=by simpa using h2
   clear hok2 hm1 hk1 hG hP hl hk h2;go_enter Tryz.func48,Tryz.ntmps48;go_wp2_with (first
    | (go_at_call 72;refine hA.mono ?_;clear hA;rintro e w1 ⟨rfl,h1⟩)
    | (go_at_call 73;refine (hB _ h1).mono ?_;clear hB;rintro e w2 ⟨rfl,h2⟩))
   go_ret;exact ⟨rfl,h2⟩
 ·rw [if_neg h1] at hZ
  subst hZ;have ce:((e1:Int) != 0)=true:=by simpa using h1
  clear hm1 hk1 hG hP hl hk h1;go_enter Tryz.func48,Tryz.ntmps48;go_wp2_with (go_at_call 72;refine hA.mono ?_;clear hA;rintro e w1 ⟨rfl,h1⟩)
  go_ret;exact ⟨rfl,h1⟩
end
section
open Go Go.RowKit
def LsA (W:World) (R:Option (List UInt8)) (e:Ending) (W':World):Prop:=Below W.heap.size W W'∧match R with
 | none=>∃ a n c,e=.returned (.tuple #[.slice a n c,.bool false])
 | some l=>∃ a c,e=.returned (.tuple #[.slice a l.length c,.bool true])∧W'.ownsRow W.heap.size 5 1 (.slice a l.length c) l.length (Lib.byteCells l)
theorem LE (s:ByteArray) (W:World) (hs:s.size≤4000000):Calls Tryz.prog 96 #[.string s] W (LsA W (BM s.data.toList false [])):=by
 obtain ⟨R,hR⟩:∃ R,BM s.data.toList false []=R:=⟨_,rfl⟩;rw [hR];have HR:=Ac8 hR;obtain ⟨i0,hi,hz0,hz1,hz2⟩:=Ov;clear hR;go_enter Tryz.func96,Tryz.ntmps96;go_wp2_with fail
 go_loopw [4,5,10] (fun l e i wr=>∃ (j:Nat) (esc:Bool) (acc:List UInt8) (a:Option Addr) (c:Nat),j≤s.size∧l=.slice a acc.length c∧e=.bool esc∧i=.int .i64 j∧wr.ownsRow W.heap.size 5 1 (.slice a acc.length c) acc.length (Lib.byteCells acc)∧Below W.heap.size W wr∧BM (s.data.toList.drop j) esc acc=R∧acc.length≤j) (fun _ _ i _=>s.size - (intOf i).toNat)
 case atStart=>exact ⟨0,false,[],none,0,by omega,rfl,rfl,rfl,World.ownsRow_nil _ _ _ _,Adk _ _,HR.out,by simp⟩
 case round=>
  obtain ⟨j,esc,acc,a,c,hj,rfl,rfl,rfl,hrow,hbw,hc,hal⟩:=hrel;have HRw:=Ac8 hrow;have HB:=Ac8 hbw;have hBs:W.heap.size≤wr.heap.size:=hbw.size;have hm1:acc.length+1≤maxLen:=by unfold maxLen;omega
  have hm2:(acc.length+1) * 1≤140737488355328:=by omega
  clear hrow hbw;by_cases hlt:j < s.size
  ·have hji:(j:Int) < (s.size:Int):=by omega
   have hy0:(0:Int)≤(j:Int):=by omega
   rw [Bh s j hlt] at hc;obtain ⟨b,hb⟩:∃ b,s[j]=b:=⟨_,rfl⟩;have hsx:s[j]'hlt=b:=hb;rw [hb] at hc;clear hb;have Wj:IntKind.i64.wrap ((j:Int)+1)=(j:Int)+1:=Adm _ (by omega);cases esc with
   | false=>
    by_cases h92:b=92
    ·have q92:((b.toNat:Int) == 92)=true:=by rw [h92];rfl
     have HC:=Ac8 (show BM (s.data.toList.drop (j+1)) true acc=R by rw [←hc,h92];simp [BM]);clear h92 hc;go_wp2_with fail
     go_roundw
     case rel=>exact ⟨j+1,true,acc,a,c,by omega,rfl,rfl,by go_num,HRw.out,HB.out,HC.out,by omega⟩
     case measure=>simp [intOf];omega
    ·have q92:((b.toNat:Int) == 92)=false:=An (c:=92) h92
     have HC:=Ac8 (show BM (s.data.toList.drop (j+1)) false (acc++[b])=R by rw [←hc];simp [BM,h92]);clear h92 hc;have hbl:=(Adk wr.heap.size wr).alloc (Adf _) (.cells #[.int .u8 (b.toNat:Int)] 5);have hbs2:W.heap.size≤(wr.alloc (.cells #[.int .u8 (b.toNat:Int)] 5)).heap.size:=Adg hBs hbl.size;have HBL:=Ac8 hbl;clear hbl;go_wp2_with (at_builtin;refine wpList_append_own_at _ rfl _ _ 165 rfl W.heap.size 5 i0 (.int .u8 0) 1 1 Tryz.underlying165 hi hz0 hz1 hz2 rfl (by decide) (.slice a acc.length c) acc.length (Lib.byteCells acc) rfl (Ag HRw.out HBL.out) ⟨wr.heap.size,0,none⟩ 1 1 [.int .u8 (b.toNat:Int)] rfl rfl (Jh _ _ _) (by intro u hu;simp at hu;subst hu;rfl) hm1 hm2 hbs2 ?_;intro v6 w6 hown6 hgr6 _ hat6;obtain ⟨a6,c6,rfl⟩:=A7 hown6;have HO:=Ac8 hown6;have HB6:=Ac8 ((HB.out.trans (HBL.out.mono hBs)).grown hgr6 hbs2 (fun k hk=>AN HRw.out k hk));clear hown6 hgr6 hat6);go_roundw;(case rel=>exact ⟨j+1,false,acc++[b],a6,c6,by omega,by simp,rfl,by go_num,(by have h9:=HO.out;rw [CZ,Adh];exact h9),HB6.out,HC.out,by simp;omega⟩);(case measure=>simp [intOf];omega)
   | true=>
    by_cases h110:b=110
    ·have q110:((b.toNat:Int) == 110)=true:=by rw [h110];rfl
     have HC:=Ac8 (show BM (s.data.toList.drop (j+1)) false (acc++[10])=R by rw [←hc,h110];simp [BM]);clear h110 hc;have hbl:=(Adk wr.heap.size wr).alloc (Adf _) (.cells #[.int .u8 10] 5);have hbs2:W.heap.size≤(wr.alloc (.cells #[.int .u8 10] 5)).heap.size:=Adg hBs hbl.size;have HBL:=Ac8 hbl;clear hbl;go_wp2_with (at_builtin;refine wpList_append_own_at _ rfl _ _ 165 rfl W.heap.size 5 i0 (.int .u8 0) 1 1 Tryz.underlying165 hi hz0 hz1 hz2 rfl (by decide) (.slice a acc.length c) acc.length (Lib.byteCells acc) rfl (Ag HRw.out HBL.out) ⟨wr.heap.size,0,none⟩ 1 1 [.int .u8 10] rfl rfl (Jh _ _ _) (by intro u hu;simp at hu;subst hu;rfl) hm1 hm2 hbs2 ?_;intro v6 w6 hown6 hgr6 _ hat6;obtain ⟨a6,c6,rfl⟩:=A7 hown6;have HO:=Ac8 hown6;have HB6:=Ac8 ((HB.out.trans (HBL.out.mono hBs)).grown hgr6 hbs2 (fun k hk=>AN HRw.out k hk));clear hown6 hgr6 hat6);go_roundw;(case rel=>exact ⟨j+1,false,acc++[10],a6,c6,by omega,by simp,rfl,by go_num,(by have h9:=HO.out;rw [CZ,Adh];exact h9),HB6.out,HC.out,by simp;omega⟩);(case measure=>simp [intOf];omega)
    ·have q110:((b.toNat:Int) == 110)=false:=An (c:=110) h110
     by_cases h92:b=92
     ·have q92:((b.toNat:Int) != 92)=false:=by rw [h92];rfl
      have HC:=Ac8 (show BM (s.data.toList.drop (j+1)) false (acc++[b])=R by rw [←hc,h92];simp [BM]);clear h110 h92 hc;have hbl:=(Adk wr.heap.size wr).alloc (Adf _) (.cells #[.int .u8 (b.toNat:Int)] 5);have hbs2:W.heap.size≤(wr.alloc (.cells #[.int .u8 (b.toNat:Int)] 5)).heap.size:=Adg hBs hbl.size;have HBL:=Ac8 hbl;clear hbl;go_wp2_with (at_builtin;refine wpList_append_own_at _ rfl _ _ 165 rfl W.heap.size 5 i0 (.int .u8 0) 1 1 Tryz.underlying165 hi hz0 hz1 hz2 rfl (by decide) (.slice a acc.length c) acc.length (Lib.byteCells acc) rfl (Ag HRw.out HBL.out) ⟨wr.heap.size,0,none⟩ 1 1 [.int .u8 (b.toNat:Int)] rfl rfl (Jh _ _ _) (by intro u hu;simp at hu;subst hu;rfl) hm1 hm2 hbs2 ?_;intro v6 w6 hown6 hgr6 _ hat6;obtain ⟨a6,c6,rfl⟩:=A7 hown6;have HO:=Ac8 hown6;have HB6:=Ac8 ((HB.out.trans (HBL.out.mono hBs)).grown hgr6 hbs2 (fun k hk=>AN HRw.out k hk));clear hown6 hgr6 hat6);go_roundw;(case rel=>exact ⟨j+1,false,acc++[b],a6,c6,by omega,by simp,rfl,by go_num,(by have h9:=HO.out;rw [CZ,Adh];exact h9),HB6.out,HC.out,by simp;omega⟩);(case measure=>simp [intOf];omega)
     ·have q92:((b.toNat:Int) != 92)=true:=by have e:=An (c:=92) h92;rw [bne,show ((b.toNat:Int) == 92)=false from e];rfl
      have HC:=Ac8 (show R=none by rw [←hc];simp [BM,h110,h92]);clear h110 h92 hc;go_wp2_with fail
      go_ret2
      rw [HC.out];exact ⟨HB.out,none,0,0,rfl⟩
  ·obtain rfl:j=s.size:=by omega
   rw [Bl s s.size (Adf _)] at hc;cases esc with
   | true=>
    have HC:=Ac8 (show R=none by rw [←hc];rfl);clear hc;go_wp2_with fail
    go_ret2
    rw [HC.out];exact ⟨HB.out,_,_,_,rfl⟩
   | false=>
    have HC:=Ac8 (show R=some acc by rw [←hc];rfl);clear hc;go_wp2_with fail
    go_ret2
    rw [HC.out];exact ⟨HB.out,a,c,rfl,HRw.out⟩
end
section
open Go Go.RowKit
def tabC (T:List UInt8):Array Value:=(Lib.byteCells T).toArray
def stdC (seen:List UInt8):Array Value:=((List.range 256).map fun k=>Value.bool (decide (UInt8.ofNat k∈seen))).toArray
theorem R5 (T:List UInt8) (j:Nat) (b:UInt8):(tabC T).setIfInBounds j (.int .u8 (b.toNat:Int))=tabC (T.set j b):=by
 unfold tabC Lib.byteCells;rw [Ac9,List.map_set]
theorem MR (T:List UInt8) (j:Nat) (h:j < T.length):(tabC T)[j]?=some (.int .u8 (T[j].toNat:Int)):=by
 unfold tabC Lib.byteCells;rw [List.getElem?_toArray,List.getElem?_map,List.getElem?_eq_getElem h];rfl
theorem YZ (seen:List UInt8) (b:UInt8):(stdC seen)[b.toNat]?=some (.bool (decide (b∈seen))):=by
 unfold stdC;rw [List.getElem?_toArray,List.getElem?_map,List.getElem?_range b.toNat_lt];simp
theorem Za (seen:List UInt8) (b:UInt8):(stdC seen).setIfInBounds b.toNat (.bool true)=stdC (b :: seen):=by
 unfold stdC;rw [Ac9]
 congr 1
 refine List.ext_getElem (by simp) fun k h1 h2=>?_
 have hk:k < 256:=by simpa using h2
 rw [List.getElem_set,List.getElem_map,List.getElem_map,List.getElem_range];by_cases h:b.toNat=k
 ·rw [if_pos h]
  have:UInt8.ofNat k=b:=by rw [←h];simp
  simp [this]
 ·rw [if_neg h]
  have:¬ UInt8.ofNat k=b:=fun e=>h (by rw [←e,UInt8.toNat_ofNat'];omega)
  simp [this]
theorem Abq {T:List UInt8} (hl:T.length=256) (h:∀ k,k < 256→T[k]?=some (UInt8.ofNat k)):T=J8:=by
 refine List.ext_getElem? fun k=>?_
 by_cases hk:k < 256
 ·rw [h k hk]
  unfold J8;rw [List.getElem?_map,List.getElem?_range hk];rfl
 ·rw [List.getElem?_eq_none (by omega),List.getElem?_eq_none (by unfold J8;simp;omega)]
theorem Zb {T:List UInt8} {i:Nat} (hi:i < 256) (hl:T.length=256) (h:∀ k,k < i→T[k]?=some (UInt8.ofNat k)):∀ k,k < i+1→(T.set i (UInt8.ofNat i))[k]?=some (UInt8.ofNat k):=by
 intro k hk;rw [List.getElem?_set];by_cases e:i=k
 ·rw [if_pos e,if_pos (by omega),e]
 ·rw [if_neg e];exact h k (by omega)
theorem Q7 {k:UInt8} {ks vs seen T:List UInt8}:GS (k :: ks) vs seen T=if k∈seen then none else GS ks vs.tail (k :: seen) (T.set k.toNat (vs.headD 0)):=by
 rw [GS]
def tbZ (R:Option (List UInt8)):List UInt8 × Nat:=match R with | none=>([],15) | some T=>(T,0)
theorem WI (T:List UInt8):strOfNums (T.map fun b=>(b.toNat:Int))=txt T:=by
 unfold strOfNums txt
 congr 1
 rw [List.map_map]
 congr 1
 conv=>rhs;rw [←List.map_id T]
 exact List.map_congr_left fun b _=>by simp
theorem O2 {l:List UInt8} {j:Nat} (h:j < l.length):l.drop j=l[j] :: l.drop (j+1):=List.drop_eq_getElem_cons h
theorem Z7 {w:World} {B n c:Nat} {T:TypeId} {a:Option Addr} {l:List UInt8} (h:w.ownsRow B T 1 (.slice a n c) n (Lib.byteCells l)) (h0:0 < l.length):∃ q,a=some ⟨q,0,none⟩∧l.length≤maxLen∧q < w.heap.size∧∀ j (h:j < l.length),w.cell? ⟨q,j,none⟩=some (.int .u8 (l[j].toNat:Int)):=by
 have hn:n=l.length:=by have:=h.1;rw [Lib.byteCells_length] at this;omega
 rcases h.2 with ⟨h1,h2⟩ | ⟨g,cap,cur,h1,hB,hg,hc1,hc2,_,ht⟩
 ·omega
 ·injection h1 with h1 h2 h3
  refine ⟨g,h1,by omega,(Array.getElem?_eq_some_iff.1 hg).1,fun j hj=>?_⟩;have hh:(Lib.byteCells l)[j]?=some (.int .u8 (l[j].toNat:Int)):=by
   unfold Lib.byteCells;rw [List.getElem?_map,List.getElem?_eq_getElem hj];rfl
  rw [←ht,List.getElem?_take] at hh;split at hh
  ·simp only [World.cell?,hg]
   rw [Array.getElem?_toList] at hh;simpa using hh
  ·cases hh
theorem WJ:Tryz.zeroCells181=tabC (List.replicate 256 0):=by kernel_rfl
theorem WK:Tryz.zeroCells127=stdC []:=by kernel_rfl
structure TbS (W w3:World) (g:Nat) (T:List UInt8) (wr:World):Prop where
 q:Blk wr g (tabC T) 181
 l:T.length=256
 b:Below W.heap.size W wr
 o:∀ b,b≠g→wr.heap[b]?=w3.heap[b]?
 s:wr.heap.size=w3.heap.size
theorem TbS.set {W w3:World} {g:Nat} {T:List UInt8} {wr:World} (h:TbS W w3 g T wr) (hg:W.heap.size≤g) (j:Nat) (v:UInt8):TbS W w3 g (T.set j v) (wr.setCell ⟨g,j,none⟩ (.int .u8 (v.toNat:Int))):=by
 have h9:=h.q.set j (.int .u8 (v.toNat:Int));rw [R5] at h9;exact ⟨h9,by rw [List.length_set];exact h.l,h.b.setCell (p:=⟨g,j,none⟩) hg _,fun b hb=>(Adl _ _ _ _ (fun e=>hb e)).trans (h.o b hb),by simp [World.setCell,h.s]⟩
theorem TbS.at {W w3:World} {g:Nat} {T:List UInt8} {wr:World} (h:TbS W w3 g T wr) {j:Nat} (hj:j < 256):∃ v,wr.cell? ⟨g,j,none⟩=some (.int .u8 v):=
 ⟨_,(h.q.cell j).trans (MR T j (by rw [h.l];exact hj))⟩
structure StS (W w4:World) (g h:Nat) (T seen:List UInt8) (wr:World):Prop where
 q:Blk wr g (tabC T) 181
 r:Blk wr h (stdC seen) 127
 l:T.length=256
 b:Below W.heap.size W wr
 o:∀ b,b≠g→b≠h→wr.heap[b]?=w4.heap[b]?
theorem StS.set {W w4:World} {g h:Nat} {T seen:List UInt8} {wr:World} (k:StS W w4 g h T seen wr) (hg:W.heap.size≤g) (hh:W.heap.size≤h) (hn:g≠h) (x v:UInt8):StS W w4 g h (T.set x.toNat v) (x :: seen) ((wr.setCell ⟨h,x.toNat,none⟩ (.bool true)).setCell ⟨g,x.toNat,none⟩ (.int .u8 (v.toNat:Int))):=by
 have h8:=k.r.set x.toNat (.bool true)
 rw [Za] at h8;have q8:Blk (wr.setCell ⟨h,x.toNat,none⟩ (.bool true)) g (tabC T) 181:=Eg k.q (Adl _ _ _ _ (fun e=>hn e));have h9:=q8.set x.toNat (.int .u8 (v.toNat:Int))
 rw [R5] at h9;exact ⟨h9,Eg h8 (Adl _ _ _ _ (fun e=>hn e.symm)),by rw [List.length_set];exact k.l,(k.b.setCell (p:=⟨h,x.toNat,none⟩) hh _).setCell (p:=⟨g,x.toNat,none⟩) hg _,fun b h1 h2=>(Adl _ _ _ _ (fun e=>h1 e)).trans ((Adl _ _ _ _ (fun e=>h2 e)).trans (k.o b h1 h2))⟩
theorem WL (a b:ByteArray) (W:World) (ha:a.size≤4000) (hb:b.size≤4000) :
  Calls Tryz.prog 77 #[.string a,.string b] W fun e W'=>e=.returned (.tuple #[.string (txt (Lb a.data.toList b.data.toList).1),.int .i64 ((Lb a.data.toList b.data.toList).2:Int)])∧Below W.heap.size W W':=by
 have hA:=LE a W (by omega);have hB:=fun W1=>LE b W1 (by omega)
 unfold Lb;generalize BM a.data.toList false []=A at hA ⊢;generalize BM b.data.toList false []=Bv at hB ⊢;obtain ⟨Z,hZ⟩:∃ Z,XR A Bv=Z:=⟨_,rfl⟩;rw [hZ];have HZ:=Ac8 hZ;clear hZ ha hb;have hF:∀ {W R e W'},LsA W R e W'→∃ x n c,e=.returned (.tuple #[.slice x n c,.bool R.isSome])∧Below W.heap.size W W'∧∀ l,R=some l→n=l.length∧W'.ownsRow W.heap.size 5 1 (.slice x l.length c) l.length (Lib.byteCells l):=by
  rintro W R e W' ⟨hb,h⟩;cases R with
  | none=>obtain ⟨x,n,c,rfl⟩:=h;exact ⟨x,n,c,rfl,hb,fun _ h=>by cases h⟩
  | some l=>obtain ⟨x,c,rfl,hr⟩:=h;exact ⟨x,l.length,c,rfl,hb,fun l' e=>by injection e with e;subst e;exact ⟨rfl,hr⟩⟩
 replace hA:=hA.mono fun _ _ h=>hF h
 replace hB:=fun W1=>(hB W1).mono fun _ _ h=>hF h
 clear hF;obtain ⟨oa,hoa⟩:∃ o,A.isSome=o:=⟨_,rfl⟩;obtain ⟨ob,hob⟩:∃ o,Bv.isSome=o:=⟨_,rfl⟩;simp only [hoa] at hA;simp only [hob] at hB;have HO:=Ac8 (And.intro hoa hob);clear hoa hob;go_enter Tryz.func77,Tryz.ntmps77;go_upto_region 2 with (go_at_call 96;refine hA.mono ?_;clear hA;rintro e w1 ⟨x1,n1,c1,rfl,b1,hr1⟩;have HR1:=Ac8 hr1;have hB2:=hB w1;clear hB hr1)
 go_upto_region 3 with (go_at_call 96;refine hB2.mono ?_;clear hB2;rintro e w2 ⟨x2,n2,c2,rfl,b2,hr2⟩;have HR2:=Ac8 hr2;clear hr2)
 have B2:=Ac8 (b1.trans (b2.mono b1.size));have C2:=Ac8 b2;have C1:=Ac8 b1;clear b1 b2;cases oa with
 | false=>
  obtain rfl:([],18)=Z:=by
   rw [←HZ.out];cases A with
   | none=>rfl
   | some l=>cases HO.out.1
  go_wp2_with fail
  go_ret2
  exact ⟨rfl,B2.out⟩
 | true=>
 cases ob with
 | false=>
  obtain rfl:([],18)=Z:=by
   rw [←HZ.out];cases Bv with
   | none=>cases A <;> rfl
   | some l=>cases HO.out.2
  go_wp2_with fail
  go_ret2
  exact ⟨rfl,B2.out⟩
 | true=>
 cases A with
 | none=>cases HO.out.1
 | some ks=>
 cases Bv with
 | none=>cases HO.out.2
 | some vs=>
 obtain ⟨e1,r1⟩:=HR1.out ks rfl;obtain ⟨e2,r2⟩:=HR2.out vs rfl;subst e1 e2;clear HR1 HR2 HO;by_cases hlen:ks.length=vs.length
 ·have hle:((ks.length:Int) != (vs.length:Int))=false:=by simp [hlen]
  obtain ⟨R,hR⟩:∃ R,GS ks vs [] J8=R:=⟨_,rfl⟩;have HZ2:=Ac8 (show tbZ R=Z by
   rw [←HZ.out,←hR];unfold XR tbZ;simp only;rw [if_pos hlen];cases GS ks vs [] J8 <;> rfl)
  have HR:=Ac8 hR;have HL:=Ac8 hlen;have K1:=Ac8 (Ag r1 C2.out);have K2:=Ac8 r2;clear HZ hR hlen r1 r2;go_upto_region 6 with fail;obtain ⟨w3,hW3⟩:∃ w3,w2.alloc (.cells Tryz.zeroCells181 181)=w3:=⟨_,rfl⟩;have hq3:=Ae hW3;have hb3:=Ac hW3;rw [hW3];rw [WJ] at hq3;have hTb3:TbS W w3 w2.heap.size (List.replicate 256 0) w3:=⟨hq3,by simp,B2.out.trans (hb3.mono B2.out.size),fun _ _=>rfl,rfl⟩
  have KL:=Ac8 (And.intro (fun q hq=>AA K1.out q hq) (fun q hq=>AA K2.out q hq));replace K1:=Ac8 (Ag K1.out hb3);replace K2:=Ac8 (Ag K2.out hb3);have Hg:=Ac8 B2.out.size;obtain ⟨g,hg⟩:∃ g,w2.heap.size=g:=⟨_,rfl⟩;rw [hg] at hTb3 KL Hg ⊢;have H3:=Ac8 hTb3;clear hq3 hb3 hTb3 hW3 hg;go_wp2_with fail
  go_loopw [38] (fun i wr=>∃ (j:Nat) (T:List UInt8),j≤256∧i=.int .i64 j∧TbS W w3 g T wr∧∀ k,k < j→T[k]?=some (UInt8.ofNat k)) (fun i _=>256 - (intOf i).toNat)
  case atStart=>exact ⟨0,_,by omega,rfl,H3.out,fun k hk=>by omega⟩
  case round=>
   obtain ⟨j,T,hj,rfl,ht,hT⟩:=hrel;have HT:=Ac8 ht;have HTA:=Ac8 hT;clear ht hT;by_cases hlt:j < 256
   ·have hji:(j:Int) < 256:=by omega
    have hy0:(0:Int)≤(j:Int):=by omega
    have Wj:IntKind.i64.wrap ((j:Int)+1)=(j:Int)+1:=Adm _ (by omega);have Wc:IntKind.u8.wrap (j:Int)=(j:Int):=by
     simp [IntKind.wrap,IntKind.bits,IntKind.signed];omega
    obtain ⟨v,c0⟩:=HT.out.at hlt;have f0:=HT.out.q.frozen j;have H4:=Ac8 (show TbS W w3 g (T.set j (UInt8.ofNat j)) (wr.setCell ⟨g,j,none⟩ (.int .u8 (j:Int))) by
     have h9:=HT.out.set Hg.out j (UInt8.ofNat j);rw [show ((UInt8.ofNat j).toNat:Int)=(j:Int) by rw [UInt8.toNat_ofNat'];omega] at h9;exact h9)
    have H5:=Ac8 (Zb hlt HT.out.l HTA.out);go_wp2_with fail
    go_roundw
    case rel=>exact ⟨j+1,_,by omega,by go_num,H4.out,H5.out⟩
    case measure=>simp [intOf];omega
   ·obtain rfl:j=256:=by omega
    obtain rfl:=Abq HT.out.l HTA.out;clear hlt HTA;have hji:¬ ((256:Nat):Int) < 256:=by omega
    go_upto_region 12 with fail;obtain ⟨w4,hW4⟩:∃ w4,wr.alloc (.cells Tryz.zeroCells127 127)=w4:=⟨_,rfl⟩;have hq4:=Ae hW4;have hb4:=Ac hW4;rw [hW4];rw [WK] at hq4;have hgl:=HT.out.q.lt;have hS4:StS W w4 g wr.heap.size J8 [] w4:=⟨HT.out.q.below hb4 hgl,hq4,HT.out.l,HT.out.b.trans (hb4.mono HT.out.b.size),fun _ _ _=>rfl⟩
    have hgw:g≤w3.heap.size:=by have h:=H3.out.q.lt;omega
    have KA:=Ac8 (Ag (Aa K1.out (fun q hq=>HT.out.o q (by have:=KL.out.1 q hq;omega))) hb4);have KB:=Ac8 (Ag (Aa K2.out (fun q hq=>HT.out.o q (by have:=KL.out.2 q hq;omega))) hb4);have Hh:=Ac8 HT.out.b.size;obtain ⟨h,hh⟩:∃ h,wr.heap.size=h:=⟨_,rfl⟩;rw [hh] at hS4 hgl Hh ⊢;have Hgh:=Ac8 hgl;have H4:=Ac8 hS4;clear hq4 hb4 hS4 hW4 hh hgl hgw HT H3 K1 K2;go_wp2_with fail
    go_loopw [48] (fun i ws=>∃ (j:Nat) (T seen:List UInt8),j≤ks.length∧i=.int .i64 j∧StS W w4 g h T seen ws∧GS (ks.drop j) (vs.drop j) seen T=R) (fun i _=>ks.length - (intOf i).toNat)
    case atStart=>exact ⟨0,_,_,by omega,rfl,H4.out,HR.out⟩
    case round=>
     obtain ⟨j,T,seen,hj,rfl,ht,hT⟩:=hrel;have HT:=Ac8 ht;clear ht;by_cases hlt:j < ks.length
     ·have hji:(j:Int) < (ks.length:Int):=by omega
      have hy0:(0:Int)≤(j:Int):=by omega
      have hlv:j < vs.length:=by rw [←HL.out];exact hlt
      have hjv:(j:Int) < (vs.length:Int):=by omega
      obtain ⟨qk,rfl,hmx,_,hqc⟩:=Z7 KA.out (by omega);have Wj:IntKind.i64.wrap ((j:Int)+1)=(j:Int)+1:=Adm _ (by unfold maxLen at hmx;omega);obtain ⟨qv,rfl,_,_,hqd⟩:=Z7 KB.out (by omega);have l1:=KL.out.1 qk rfl;have l2:=KL.out.2 qv rfl;have l3:=Hgh.out;have ck:wr.cell? ⟨qk,j,none⟩=some (.int .u8 (ks[j].toNat:Int)):=(Adn (w:=w4) (a:=⟨qk,j,none⟩) (HT.out.o qk (by omega) (by omega))).trans (hqc j hlt);have cv:wr.cell? ⟨qv,j,none⟩=some (.int .u8 (vs[j].toNat:Int)):=(Adn (w:=w4) (a:=⟨qv,j,none⟩) (HT.out.o qv (by omega) (by omega))).trans (hqd j hlv);have n1:qv≠h:=by omega
      have n2:g≠h:=by omega
      rw [O2 hlt,O2 hlv,Q7] at hT;simp only [List.tail_cons,List.headD_cons] at hT;obtain ⟨b,hb⟩:∃ b,ks[j]=b:=⟨_,rfl⟩;obtain ⟨v,hv⟩:∃ v,vs[j]=v:=⟨_,rfl⟩;rw [hb] at ck hT;rw [hv] at cv hT;have hlb:=b.toNat_lt;have b0:(0:Int)≤(b.toNat:Int):=by omega
      have b1:(b.toNat:Int) < 256:=by omega
      have cs:=(HT.out.r.cell b.toNat).trans (YZ seen b);have fs:=HT.out.r.frozen b.toNat
      obtain ⟨tv,ct⟩:∃ tv,wr.cell? ⟨g,b.toNat,none⟩=some (.int .u8 tv):=⟨_,(HT.out.q.cell b.toNat).trans (MR T b.toNat (by rw [HT.out.l];exact hlb))⟩;have ft:=HT.out.q.frozen b.toNat
      clear hb hv hqc hqd l1 l2 l3 hlb;by_cases hs:b∈seen
      ·rw [decide_eq_true hs] at cs
       rw [if_pos hs] at hT;obtain rfl:([],15)=Z:=by rw [←HZ2.out,←hT];rfl
       clear hs hT ct ft cv n1 n2;go_wp2_with fail
       go_ret2
       exact ⟨rfl,HT.out.b⟩
      ·rw [decide_eq_false hs] at cs
       rw [if_neg hs] at hT;have H5:=Ac8 (HT.out.set Hg.out Hh.out n2 b v);have HR5:=Ac8 hT;clear hs hT;go_wp2_with fail
       go_roundw
       case rel=>exact ⟨j+1,_,_,by omega,by go_num,H5.out,HR5.out⟩
       case measure=>simp [intOf];omega
     ·obtain rfl:j=ks.length:=by omega
      rw [List.drop_eq_nil_of_le (Adf _),GS] at hT;obtain rfl:(T,0)=Z:=by rw [←HZ2.out,←hT];rfl
      have hcv:(convert 165 9 (.slice (some ⟨g,0,none⟩) 256 256)).run Tryz.prog wr=.ok (.string (txt T)) wr:=by
       have h9:=run_convert_bytes_arg (P:=Tryz.prog) wr 165 5 Tryz.underlying165 Tryz.underlying5 g 0 256 256 (T.map fun b=>(b.toNat:Int)) (by rw [List.length_map];exact HT.out.l) (fun i hi=>by
        have hi2:i < T.length:=by rw [HT.out.l];exact hi
        rw [Nat.zero_add,HT.out.q.cell i,MR T i hi2];simp [List.getD,List.getElem?_map,List.getElem?_eq_getElem hi2]) 9 Tryz.underlying9
       rw [WI] at h9;exact h9
      have hlt:¬ ((ks.length:Nat):Int) < (ks.length:Int):=by omega
      clear hT hle;go_wp2_with fail
      go_ret2
      exact ⟨rfl,HT.out.b⟩
 ·obtain rfl:([],18)=Z:=by
   rw [←HZ.out];unfold XR;simp only;rw [if_neg hlen]
  have hle:((ks.length:Int) != (vs.length:Int))=true:=by simp;omega
  clear r1 r2 hlen;go_wp2_with fail
  go_ret2
  exact ⟨rfl,B2.out⟩
end
section
open Go Go.RowKit
theorem Acl (s:ByteArray) (k:Nat) (d:UInt8) (rx:Bool) (W:World) (hs:s.size≤4000000) (hk:k≤s.size) (hP:GP W):Calls Tryz.prog 76 #[.string s,.int .i64 (k:Int),.int .u8 (d.toNat:Int),.bool rx] W fun e w'=>e=.returned (.tuple #[.string (txt (Aj s.data.toList (k:Int) d rx).1),.int .i64 ((Aj s.data.toList (k:Int) d rx).2.1:Int),.int .i64 ((Aj s.data.toList (k:Int) d rx).2.2:Int)])∧Below W.heap.size W w':=by
 have h:=FK s k d rx W hs hk hP;unfold Aj;rw [Dq _ _ _ _ (by rw [←Ad];exact hk),←Ad];exact h
theorem O3 {d:UInt8} {rx:Bool} {s:ByteArray} {k:Nat} (hk:k≤s.size):(Aj s.data.toList (k:Int) d rx).1.length≤s.size:=by
 unfold Aj;rw [Dq _ _ _ _ (by rw [←Ad];exact hk),←Ad];have h:=MM d rx s.data.toList (s.size+1) k [] (by rw [←Ad];exact hk);rw [←Ad] at h;simp only [List.length_nil] at h;omega
theorem CmSt.tableS {w:World} {p:Nat} {s:ByteArray} {ext:Bool} {st:CS} {ta tb ts:Value} {pa:Option Addr} {pc:Nat} {ma:Option Addr} {mc:Nat} {W:World} (h:CmSt w p s ext st ta tb ts pa pc ma mc W) (t:List UInt8) (k:Nat):CmSt w p s ext (st.table t k) ta tb ts pa pc ma mc ((W.setCell ⟨p,22,none⟩ (.string (txt t))).setCell ⟨p,2,none⟩ (.int .i64 (k:Int))):=
 (h.put 22 (.string (txt t)) { st with c:={ st.c with table:=t } } rfl rfl rfl rfl fun _ _=>rfl).go k
theorem WM (w:World) (p:Nat) (s:ByteArray) (ext:Bool) (st:CS) (W:World) (h:Dg w p s ext st W) (hs:s.size≤4000) (hk:st.k≤s.size) (hl:st.ms.length≤100000) (hP:GP w) :
  Calls Tryz.prog 49 #[.pointer (some ⟨p,0,none⟩)] W fun e W'=>e=.returned (.int .i64 ((Cq s.data.toList st).1:Int))∧Dg w p s ext (Cq s.data.toList st).2 W':=by
 have hs4:s.size≤4000000:=by omega
 have hA:=Oq w p s ext st W h hs4 hk;have hk1:=EZ (L:=s.data.toList) (st:=st) (by rw [←Ad];exact hk);have hm1:=GT s.data.toList st;rw [←Ad] at hk1;obtain ⟨Z,hZ⟩:∃ Z,Cq s.data.toList st=Z:=⟨_,rfl⟩;rw [hZ];unfold Cq at hZ;obtain ⟨⟨d,e1,s1⟩,hR1⟩:∃ R,A6 s.data.toList st=R:=⟨_,rfl⟩;rw [hR1] at hA hk1 hm1 hZ;simp only at hA hk1 hm1 hZ;unfold CO.then at hZ
 simp only at hZ;clear hR1 h;by_cases h1:e1=0
 ·subst h1
  rw [if_pos rfl] at hZ;obtain ⟨k1,hk1e⟩:∃ k1,s1.k=k1:=⟨_,rfl⟩;rw [hk1e] at hk1 hZ;have HK1:=Ac8 hk1e;have hN1:=fun W1 (h1:GP W1)=>Acl s k1 d false W1 hs4 hk1 h1
  have hl1:=O3 (d:=d) (rx:=false) (s:=s) hk1;have hq1:=Dr (d:=d) (rx:=false) (L:=s.data.toList) (k:=k1) (by rw [←Ad];exact hk1);rw [←Ad] at hq1;obtain ⟨⟨t1,q1,e2⟩,hR2⟩:∃ R,Aj s.data.toList (k1:Int) d false=R:=⟨_,rfl⟩;rw [hR2] at hN1 hl1 hq1 hZ;simp only at hN1 hl1 hq1;unfold F8 at hZ;simp only at hZ;clear hR2 hk1e;have HP:=Ac8 hP;obtain ⟨T1,hT1⟩:∃ T,txt t1=T:=⟨_,rfl⟩;have hT1l:T1.data.toList=t1:=by rw [←hT1,DR]
  have hT1s:T1.size≤4000:=by rw [←hT1,CJ];omega
  rw [hT1] at hN1;by_cases h2:e2=0
  ·subst h2
   rw [if_pos rfl] at hZ;have hN2:=fun W1 (h1:GP W1)=>Acl s q1 d false W1 hs4 hq1 h1
   have hl2:=O3 (d:=d) (rx:=false) (s:=s) hq1;have hq2:=Dr (d:=d) (rx:=false) (L:=s.data.toList) (k:=q1) (by rw [←Ad];exact hq1);rw [←Ad] at hq2;obtain ⟨⟨t2,q2,e3⟩,hR3⟩:∃ R,Aj s.data.toList (q1:Int) d false=R:=⟨_,rfl⟩;rw [hR3] at hN2 hl2 hq2 hZ;simp only at hN2 hl2 hq2;unfold F7 at hZ;simp only at hZ;clear hR3;obtain ⟨T2,hT2⟩:∃ T,txt t2=T:=⟨_,rfl⟩;have hT2l:T2.data.toList=t2:=by rw [←hT2,DR]
   have hT2s:T2.size≤4000:=by rw [←hT2,CJ];omega
   rw [hT2] at hN2;by_cases h3:e3=0
   ·subst h3
    rw [if_pos rfl] at hZ;have hQ:=fun W1=>WL T1 T2 W1 hT1s hT2s
    rw [hT1l,hT2l] at hQ;obtain ⟨⟨tb0,e4⟩,hR4⟩:∃ R,Lb t1 t2=R:=⟨_,rfl⟩;rw [hR4] at hQ hZ;simp only at hQ hZ;clear hR4 hT1 hT2 hT1l hT2l hl1 hl2;by_cases h4:e4=0
    ·subst h4
     rw [if_pos rfl] at hZ;have hE:=fun W1 (h1:Dg w p s ext (s1.table tb0 q2) W1)=>Km w p s ext (s1.table tb0 q2) W1 h1 hs4 hq2 (by show s1.ms.length≤_;rw [hm1];exact hl)
     rw [hZ] at hE;clear hZ hm1 hk1 hP hl hk hq1 hq2 hT1s hT2s;go_enter Tryz.func49,Tryz.ntmps49;go_upto_region 4 with (go_at_call 72;refine hA.mono ?_;clear hA;rintro e w1 ⟨rfl,h1⟩;obtain ⟨ta,tb,ts,pa,pc,ma,mc,h1⟩:=h1;have H1:=Ac8 h1;have k0:w1.cell? ⟨p,0,none⟩=some (.string s):=(h1.q.cell 0).trans rfl;have k2:w1.cell? ⟨p,2,none⟩=some (.int .i64 (k1:Int)):=(h1.q.cell 2).trans (by rw [←HK1.out];rfl);clear h1)
     go_region_held3 (fun w'=>w'.cell? ⟨p,0,none⟩=some (.string s)∧w'.cell? ⟨p,2,none⟩=some (.int .i64 (k1:Int))) (first | exact ⟨k0,k2⟩ | (refine ⟨?_,?_⟩ <;> assumption)) (first | (go_at_call 76;refine (hN1 _ (by first | exact HP.out.up H1.out.b0 | exact HP.out.up H1.out.b0.drew)).mono ?_;clear hN1;rintro e w2 ⟨rfl,b1⟩;have H2:=Ac8 (by first | exact H1.out.step b1 | exact H1.out.drew.step b1:CmSt w p s ext s1 ta tb ts pa pc ma mc w2);have m0:(w2).cell? ⟨p,0,none⟩=some (.string s):=(H2.out.q.cell 0).trans rfl;have m2:(w2).cell? ⟨p,2,none⟩=some (.int .i64 (k1:Int)):=(H2.out.q.cell 2).trans (by rw [←HK1.out];rfl);clear b1))
     clear k0 k2;have k0:=m0;have k2:=m2;clear m0 m2;go_upto_region 16 with (first | (go_at_call 76;refine (hN2 _ (HP.out.up H2.out.b0)).mono ?_;clear hN2;rintro e w3 ⟨rfl,b1⟩;have H3:=Ac8 (by first | exact H2.out.step b1 | exact H2.out.drew.step b1:CmSt w p s ext s1 ta tb ts pa pc ma mc w3);have m0:(w3).cell? ⟨p,0,none⟩=some (.string s):=(H3.out.q.cell 0).trans rfl;have m2:(w3).cell? ⟨p,2,none⟩=some (.int .i64 (k1:Int)):=(H3.out.q.cell 2).trans (by rw [←HK1.out];rfl);clear b1) | (go_at_call 77;refine (hQ _).mono ?_;clear hQ;rintro e w4 ⟨rfl,b4⟩;have H4:=Ac8 (H3.out.step b4);clear b4))
     clear k0 k2;have c2:w4.cell? ⟨p,2,none⟩=some (.int .i64 (s1.k:Int)):=(H4.out.q.cell 2).trans rfl;have c22:w4.cell? ⟨p,22,none⟩=some (.string (txt s1.c.table)):=(H4.out.q.cell 22).trans rfl;have f2:=H4.out.q.frozen 2;have f22:=H4.out.q.frozen 22;have H5:=Ac8 (H4.out.tableS tb0 q2);go_wp2_with (go_at_call 50;refine (hE _ H5.out.R).mono ?_;clear hE;rintro e w6 ⟨rfl,h6⟩)
     go_ret;exact ⟨rfl,h6⟩
    ·rw [if_neg h4] at hZ
     subst hZ;have ce:((e4:Int) != 0)=true:=by simpa using h4
     clear hm1 hk1 hP hl hk hq1 hq2 hT1s hT2s h4;go_enter Tryz.func49,Tryz.ntmps49;go_upto_region 4 with (go_at_call 72;refine hA.mono ?_;clear hA;rintro e w1 ⟨rfl,h1⟩;obtain ⟨ta,tb,ts,pa,pc,ma,mc,h1⟩:=h1;have H1:=Ac8 h1;have k0:w1.cell? ⟨p,0,none⟩=some (.string s):=(h1.q.cell 0).trans rfl;have k2:w1.cell? ⟨p,2,none⟩=some (.int .i64 (k1:Int)):=(h1.q.cell 2).trans (by rw [←HK1.out];rfl);clear h1)
     go_region_held3 (fun w'=>w'.cell? ⟨p,0,none⟩=some (.string s)∧w'.cell? ⟨p,2,none⟩=some (.int .i64 (k1:Int))) (first | exact ⟨k0,k2⟩ | (refine ⟨?_,?_⟩ <;> assumption)) (first | (go_at_call 76;refine (hN1 _ (by first | exact HP.out.up H1.out.b0 | exact HP.out.up H1.out.b0.drew)).mono ?_;clear hN1;rintro e w2 ⟨rfl,b1⟩;have H2:=Ac8 (by first | exact H1.out.step b1 | exact H1.out.drew.step b1:CmSt w p s ext s1 ta tb ts pa pc ma mc w2);have m0:(w2).cell? ⟨p,0,none⟩=some (.string s):=(H2.out.q.cell 0).trans rfl;have m2:(w2).cell? ⟨p,2,none⟩=some (.int .i64 (k1:Int)):=(H2.out.q.cell 2).trans (by rw [←HK1.out];rfl);clear b1))
     clear k0 k2;have k0:=m0;have k2:=m2;clear m0 m2;go_upto_region 14 with (first | (go_at_call 76;refine (hN2 _ (HP.out.up H2.out.b0)).mono ?_;clear hN2;rintro e w3 ⟨rfl,b1⟩;have H3:=Ac8 (by first | exact H2.out.step b1 | exact H2.out.drew.step b1:CmSt w p s ext s1 ta tb ts pa pc ma mc w3);have m0:(w3).cell? ⟨p,0,none⟩=some (.string s):=(H3.out.q.cell 0).trans rfl;have m2:(w3).cell? ⟨p,2,none⟩=some (.int .i64 (k1:Int)):=(H3.out.q.cell 2).trans (by rw [←HK1.out];rfl);clear b1) | (go_at_call 77;refine (hQ _).mono ?_;clear hQ;rintro e w4 ⟨rfl,b4⟩;have H4:=Ac8 (H3.out.step b4);clear b4))
     clear k0 k2;have c2:w4.cell? ⟨p,2,none⟩=some (.int .i64 (s1.k:Int)):=(H4.out.q.cell 2).trans rfl;have f2:=H4.out.q.frozen 2;have H5:=Ac8 (H4.out.go q1);go_wp2_with fail
     go_ret;exact ⟨rfl,H5.out.R⟩
   ·rw [if_neg h3] at hZ
    subst hZ;have ce:((e3:Int) != 0)=true:=by simpa using h3
    clear hm1 hk1 hP hl hk hq1 hq2 hT1s hT2s h3 hT1 hT2 hT1l hT2l hl1 hl2;go_enter Tryz.func49,Tryz.ntmps49;go_upto_region 4 with (go_at_call 72;refine hA.mono ?_;clear hA;rintro e w1 ⟨rfl,h1⟩;obtain ⟨ta,tb,ts,pa,pc,ma,mc,h1⟩:=h1;have H1:=Ac8 h1;have k0:w1.cell? ⟨p,0,none⟩=some (.string s):=(h1.q.cell 0).trans rfl;have k2:w1.cell? ⟨p,2,none⟩=some (.int .i64 (k1:Int)):=(h1.q.cell 2).trans (by rw [←HK1.out];rfl);clear h1)
    go_region_held3 (fun w'=>w'.cell? ⟨p,0,none⟩=some (.string s)∧w'.cell? ⟨p,2,none⟩=some (.int .i64 (k1:Int))) (first | exact ⟨k0,k2⟩ | (refine ⟨?_,?_⟩ <;> assumption)) (first | (go_at_call 76;refine (hN1 _ (by first | exact HP.out.up H1.out.b0 | exact HP.out.up H1.out.b0.drew)).mono ?_;clear hN1;rintro e w2 ⟨rfl,b1⟩;have H2:=Ac8 (by first | exact H1.out.step b1 | exact H1.out.drew.step b1:CmSt w p s ext s1 ta tb ts pa pc ma mc w2);have m0:(w2).cell? ⟨p,0,none⟩=some (.string s):=(H2.out.q.cell 0).trans rfl;have m2:(w2).cell? ⟨p,2,none⟩=some (.int .i64 (k1:Int)):=(H2.out.q.cell 2).trans (by rw [←HK1.out];rfl);clear b1))
    clear k0 k2;have k0:=m0;have k2:=m2;clear m0 m2;go_upto_region 10 with (go_at_call 76;refine (hN2 _ (HP.out.up H2.out.b0)).mono ?_;clear hN2;rintro e w3 ⟨rfl,b1⟩;have H3:=Ac8 (by first | exact H2.out.step b1 | exact H2.out.drew.step b1:CmSt w p s ext s1 ta tb ts pa pc ma mc w3);have m0:(w3).cell? ⟨p,0,none⟩=some (.string s):=(H3.out.q.cell 0).trans rfl;have m2:(w3).cell? ⟨p,2,none⟩=some (.int .i64 (k1:Int)):=(H3.out.q.cell 2).trans (by rw [←HK1.out];rfl);clear b1)
    clear k0 k2;have c2:w3.cell? ⟨p,2,none⟩=some (.int .i64 (s1.k:Int)):=(H3.out.q.cell 2).trans rfl;clear m0 m2;have f2:=H3.out.q.frozen 2;have H5:=Ac8 (H3.out.go q2);go_wp2_with fail
    go_ret;exact ⟨rfl,H5.out.R⟩
  ·rw [if_neg h2] at hZ
   subst hZ;have ce:((e2:Int) != 0)=true:=by simpa using h2
   clear hm1 hk1 hP hl hk hq1 hT1s h2 hT1 hT1l hl1;go_enter Tryz.func49,Tryz.ntmps49;go_upto_region 4 with (go_at_call 72;refine hA.mono ?_;clear hA;rintro e w1 ⟨rfl,h1⟩;obtain ⟨ta,tb,ts,pa,pc,ma,mc,h1⟩:=h1;have H1:=Ac8 h1;have k0:w1.cell? ⟨p,0,none⟩=some (.string s):=(h1.q.cell 0).trans rfl;have k2:w1.cell? ⟨p,2,none⟩=some (.int .i64 (k1:Int)):=(h1.q.cell 2).trans (by rw [←HK1.out];rfl);clear h1)
   go_region_held3 (fun w'=>w'.cell? ⟨p,0,none⟩=some (.string s)∧w'.cell? ⟨p,2,none⟩=some (.int .i64 (k1:Int))) (first | exact ⟨k0,k2⟩ | (refine ⟨?_,?_⟩ <;> assumption)) (first | (go_at_call 76;refine (hN1 _ (by first | exact HP.out.up H1.out.b0 | exact HP.out.up H1.out.b0.drew)).mono ?_;clear hN1;rintro e w2 ⟨rfl,b1⟩;have H2:=Ac8 (by first | exact H1.out.step b1 | exact H1.out.drew.step b1:CmSt w p s ext s1 ta tb ts pa pc ma mc w2);have m0:(w2).cell? ⟨p,0,none⟩=some (.string s):=(H2.out.q.cell 0).trans rfl;have m2:(w2).cell? ⟨p,2,none⟩=some (.int .i64 (k1:Int)):=(H2.out.q.cell 2).trans (by rw [←HK1.out];rfl);clear b1))
   clear k0 k2;have c2:w2.cell? ⟨p,2,none⟩=some (.int .i64 (s1.k:Int)):=(H2.out.q.cell 2).trans rfl;clear m0 m2;have f2:=H2.out.q.frozen 2;have H5:=Ac8 (H2.out.go q1);go_wp2_with fail
   go_ret;exact ⟨rfl,H5.out.R⟩
 ·rw [if_neg h1] at hZ
  subst hZ;have ce:((e1:Int) != 0)=true:=by simpa using h1
  clear hm1 hk1 hP hl hk h1;go_enter Tryz.func49,Tryz.ntmps49;go_wp2_with (go_at_call 72;refine hA.mono ?_;clear hA;rintro e w1 ⟨rfl,h1⟩)
  go_ret;exact ⟨rfl,h1⟩
end
section
open Go.RowKit
theorem LF (s:ByteArray) (k:Nat) (w:World) (hs:s.size≤4000000) (hk:k≤s.size) :
  Calls Tryz.prog 71 #[.string s,.int .i64 k] w fun e w'=>e=pcA (Bw (s.data.toList.drop k) k [])∧Below w.heap.size w w':=by
 have hP:=E9 s k w hk;obtain ⟨R,hR⟩:∃ R,Bw (s.data.toList.drop k) k []=R:=⟨_,rfl⟩;rw [hR];have HR:=Ac8 hR;clear hR;go_enter Tryz.func71,Tryz.ntmps71;go_wp2_with (go_at_call 38;refine hP.mono ?_;rintro e w' ⟨rfl,rfl⟩)
 clear hP;go_loopw [1] (fun i wr=>∃ (p:Nat) (acc:List UInt8),p≤s.size∧i=.int .i64 p∧Lib.IsBuilderF 167 5 w'.heap.size w'.heap.size (Lib.byteCells acc) wr∧Below w'.heap.size w' wr∧w'.heap.size≤wr.heap.size∧acc.length≤p∧Bw (s.data.toList.drop p) p acc=R) (fun i _=>s.size - (intOf i).toNat)
 case atStart=>exact ⟨k,[],hk,rfl,Lib.IsBuilderF.of (Lib.fresh_isBuilder 167 5 w'),(Adk _ w').alloc (Adf _) _,by simp,by simp,HR.out⟩
 case round=>
  obtain ⟨p,acc,hp,rfl,hI,hbw,hsz,hal,hacc⟩:=hrel;have HA:=Ac8 hacc;clear hacc;have hlc:(Lib.byteCells acc).length+1≤140737488355328:=by rw [Lib.byteCells_length];omega
  have fin:∀ W1:World,Lib.BuilderAtF 167 5 w'.heap.size w'.heap.size (.pointer (some ⟨w'.heap.size,0,none⟩)) (Lib.byteCells acc++[.int .u8 10]) W1→Lib.IsBuilderF 167 5 w'.heap.size w'.heap.size (Lib.byteCells (acc++[10])) W1:=fun W1 h=>by
   rw [Lib.byteCells_append];exact Or.inr h
  by_cases hlt:p < s.size
  ·have hlti:(p:Int) < (s.size:Int):=by omega
   have hd:=Bh s p hlt;have Hd:=Ac8 hd;clear hd;have hx256:=s[p].toNat_lt;by_cases h10:s[p]=10
   ·have q10:((s[p].toNat:Int) != 10)=false:=by rw [h10];rfl
    have Hx:=Ac8 h10;clear h10 hx256;have hmn:IntKind.i64.wrap ((p:Int)+1)=(p:Int)+1:=Adm _ (by omega);have hle:(p:Int)+1≤(s.size:Int):=by omega
    go_wp2_with (go_at_call 87;refine (El w'.heap.size w'.heap.size _ _ _ hI hlc hsz).mono ?_)
    rintro e W1 ⟨rfl,h1,b1,_⟩;go_wp2_with (go_at_call 88;refine (Cz w'.heap.size w'.heap.size (acc++[10]) _ (fin W1 h1) (by have:=b1.size;omega)).mono ?_)
    rintro e W2 ⟨rfl,_,b2,_⟩
    go_wp2
    go_ret3
    refine ⟨?_,(hbw.trans b1).trans b2⟩;rw [←HA.out,Hd.out,Hx.out,DS];exact CK rfl (by show min ((p:Int)+1) (s.size:Int)=((p+1:Nat):Int);omega) rfl
   ·have q10:((s[p].toNat:Int) != 10)=true:=bne_iff_ne.2 fun h=>h10 (UInt8.toNat_inj.1 (by show s[p].toNat=10;omega))
    have H10:=Ac8 h10;clear h10;by_cases h92:s[p]=92
    ·have q92:((s[p].toNat:Int) == 92)=true:=by rw [h92];rfl
     have Hx:=Ac8 h92;clear h92 hx256;have hmn:IntKind.i64.wrap ((p:Int)+1)=(p:Int)+1:=Adm _ (by omega);by_cases hend:p+1=s.size
     ·have qe:((p:Int)+1 == (s.size:Int))=true:=beq_iff_eq.2 (by omega)
      have Hde:=Ac8 (Bl s (p+1) (by omega));have He:=Ac8 hend;clear hend
      go_wp2
      go_ret3
      refine ⟨?_,hbw⟩;rw [←HA.out,Hd.out,Hx.out,Hde.out,Dh];rfl
     ·have qe:((p:Int)+1 == (s.size:Int))=false:=beq_eq_false_iff_ne.2 (by omega)
      have hlt2:p+1 < s.size:=by omega
      have hlt2i:(p:Int)+1 < (s.size:Int):=by omega
      have Hde:=Ac8 (Bh s (p+1) hlt2);have hmn2:IntKind.i64.wrap ((p:Int)+1+1)=(p:Int)+1+1:=Adm _ (by omega);go_wp2_with (go_at_call 87;refine (El w'.heap.size w'.heap.size _ _ _ hI hlc hsz).mono ?_)
      rintro e W1 ⟨rfl,h1,b1,_⟩
      go_wp2
      go_roundw
      case rel=>
       refine ⟨p+2,acc++[s[p+1]],by omega,by go_num,?_,hbw.trans b1,Adg hsz b1.size,by simp;omega,?_⟩
       ·rw [Lib.byteCells_append];exact Or.inr h1
       ·rw [←HA.out,Hd.out,Hx.out,Hde.out,DT]
      case measure=>simp [intOf];omega
    ·have q92:((s[p].toNat:Int) == 92)=false:=beq_eq_false_iff_ne.2 fun h=>h92 (UInt8.toNat_inj.1 (by show s[p].toNat=92;omega))
     have H92:=Ac8 h92;clear h92 hx256;have hmn:IntKind.i64.wrap ((p:Int)+1)=(p:Int)+1:=Adm _ (by omega);go_wp2_with (go_at_call 87;refine (El w'.heap.size w'.heap.size _ _ _ hI hlc hsz).mono ?_)
     rintro e W1 ⟨rfl,h1,b1,_⟩
     go_wp2
     go_roundw
     case rel=>
      refine ⟨p+1,acc++[s[p]],by omega,by go_num,?_,hbw.trans b1,Adg hsz b1.size,by simp;omega,?_⟩
      ·rw [Lib.byteCells_append];exact Or.inr h1
      ·rw [←HA.out,Hd.out,C6 _ _ _ _ H10.out H92.out]
     case measure=>simp [intOf];omega
  ·have hlti:¬ (p:Int) < (s.size:Int):=by omega
   have hpe:p=s.size:=by omega
   have Hd:=Ac8 (Bl s p (by omega));have hmn:IntKind.i64.wrap ((p:Int)+1)=(p:Int)+1:=Adm _ (by omega);have hle:¬ (p:Int)+1≤(s.size:Int):=by omega
   have He:=Ac8 hpe;clear hpe;go_wp2_with (go_at_call 87;refine (El w'.heap.size w'.heap.size _ _ _ hI hlc hsz).mono ?_;rintro e W1 ⟨rfl,h1,b1,_⟩)
   go_wp2_with (go_at_call 88;refine (Cz w'.heap.size w'.heap.size (acc++[10]) _ (fin W1 h1) (by have:=b1.size;omega)).mono ?_;rintro e W2 ⟨rfl,_,b2,_⟩)
   go_wp2
   go_ret3
   refine ⟨?_,(hbw.trans b1).trans b2⟩;rw [←HA.out,Hd.out,Bw];exact CK rfl (by show min ((p:Int)+1) (s.size:Int)=(p:Int);omega) rfl
end
end Go.Proofs.YteilldmmihiijaaGreatDoor
