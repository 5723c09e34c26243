/- Texts. -/
import Derived.Test.YteilldmmihiijaaGreatDoorQt09
import Derived.Test.YteilldmmihiijaaGreatDoorQt06
import Derived.Defers
import Derived.Recover
import Derived.Tactics2
import Derived.Test.YteilldmmihiijaaGreatDoorRows
import Derived.Test.YteilldmmihiijaaGreatDoorQt01
import Derived.Test.YteilldmmihiijaaGreatDoorQt02
import Derived.WalkKit
import Derived.WalkSpells
import Derived.WalkLawsBesides
import Derived.BigCall
import Derived.BigQuiet
import Derived.Deep.QuietTactic
import Derived.Lib.Hide
import Derived.Test.YteilldmmihiijaaGreatDoorQt05
set_option linter.unusedSimpArgs false
set_option linter.unusedVariables false
set_option maxHeartbeats 8000000
set_option maxRecDepth 1000000
namespace Go.Proofs.YteilldmmihiijaaGreatDoor
open Go.Lib renaming hid→Ac8
open List renaming setIfInBounds_toArray→Ac9,set_cons_zero→Zz0,set_cons_succ→Ade,length_append→Adh,mem_append→Adp
open Nat renaming le_refl→Adf,le_trans→Adg,le_of_lt→Adj
open Go.RowKit.Below renaming refl→Adk,heap_setCell→Adl
open Go.IntWalk renaming i64_in→Adm
open Go.World renaming cell?_of_block→Adn
section
open Go Go.RowKit
def chTail (s:List UInt8) (sub:Option (ReSt→ReRes (ReSt × Nd))) (m:Nat) (st:ReSt) (l:List Nd):ReRes (ReSt × Nd):=
 if BI s st.pos 124 then Aq false s sub false m ((st.mark 124).to (st.pos+2)) l else .ok (st,Cg l)
theorem Lq (s:List UInt8) (sub:Option (ReSt→ReRes (ReSt × Nd))) (n:Nat) (st:ReSt) (l:List Nd):Aq false s sub false (n+1) st l=match branchM false s sub false st.pos (s.length+1) st [] true with
  | .error e=>.error e
  | .ok q=>chTail s sub n q.1 (l++[q.2]):=by
 rw [Aq];cases branchM false s sub false st.pos (s.length+1) st [] true with
 | error e=>rfl
 | ok q=>rfl
theorem NdRO.single {B lo p:Nat} {mv cv:Value} {w:World} {d:Nd} {u:Value} {s:ByteArray} {st:ReSt} {es:List Bool} {dep:Nat} (hR:Rd B p w s st es dep mv cv) (hlo:lo≤w.heap.size) (hu:Cr lo p mv cv w d u) (hu1:u.oneCell'=true) :
  NdRO lo p mv cv (w.alloc (.cells #[u] 38)) [d] (.slice (some ⟨w.heap.size,0,none⟩) 1 1) [u]:=by
 have hpl:=hR.blk.lt;have hA:=(Adk w.heap.size w).alloc (Adf _) (.cells #[u] 38);refine ⟨rfl,World.ownsRow_lit w #[u] 1 hlo (by decide) rfl,fun i h1 h2=>?_,fun x hx=>by simp at hx;subst hx;exact hu1,fun b hb=>?_⟩
 ·obtain rfl:i=0:=by simp at h1;exact h1
  exact hu.keep hA.size (fun b hb hlt=>⟨⟨hb.1,hb.2,fun hv=>by simp [Value.ownBlock] at hv;omega⟩,fun o=>hA.cell (p:=⟨b,o,none⟩) hlt⟩)
 ·simp [Value.ownBlock] at hb
  subst hb;exact ⟨by omega,fun hm=>by have:=AA hR.mo _ hm;omega,fun hm=>by have:=AA hR.co _ hm;omega⟩
structure ChLoop (B p:Nat) (s:ByteArray) (dep:Nat) (mv cv:Value) (w:World) (sub:Option (ReSt→ReRes (ReSt × Nd))) (R:ReRes (ReSt × Nd)) (v:Value) (wr:World) (st':ReSt) (mv' cv':Value) (us:List Value) (l:List Nd) (m:Nat) (es':List Bool):Prop where
 r:R=chTail s.data.toList sub m st' l
 m:s.size≤m+st'.pos
 rd:Rd B p wr s st' es' dep mv' cv'
 st:RStep p w mv cv wr mv' cv'
 row:NdRO w.heap.size p mv' cv' wr l v us
 few:l.length≤st'.pos+1
 all:l.all inAlt=true
theorem Rt {B p:Nat} {s:ByteArray} {dep:Nat} {mv cv:Value} {w:World} {sub:Option (ReSt→ReRes (ReSt × Nd))} {R:ReRes (ReSt × Nd)} {v:Value} {wr:World} {st':ReSt} {mv' cv':Value} {us:List Value} {l:List Nd} {m':Nat} {es':List Bool}
  (hL:ChLoop B p s dep mv cv w sub R v wr st' mv' cv' us l (m'+1) es') {wk:World} {mvk:Value} (hSk:RStep p wr mv' cv' wk mvk cv')
  {w2 w3:World} {mv2 cv2 v2 v3:Value} {q:ReSt × Nd} {es2:List Bool} (hS2:RStep p wk mvk cv' w2 mv2 cv2) (hR2:Rd B p w2 s q.1 es2 dep mv2 cv2) (hrow2:NdRO w.heap.size p mv2 cv2 w2 l v us) (hN2:Cr wk.heap.size p mv2 cv2 w2 q.2 v2) (hv2:v2.oneCell'=true)
  (hown:w3.ownsRow w.heap.size 38 1 v3 (l.length+1) (us++[v2])) (hgrow:(w2.alloc (.cells #[v2] 38)).grownBy w3 v.ownBlock) (hat:v3.ownBlock=v.ownBlock∨v3.ownBlock=some (w2.alloc (.cells #[v2] 38)).heap.size)
  (hF:R=chTail s.data.toList sub m' q.1 (l++[q.2])) (hM:st'.pos+2≤q.1.pos∧inAlt q.2=true) :
  ChLoop B p s dep mv cv w sub R v3 w3 q.1 mv2 cv2 (us++[v2]) (l++[q.2]) m' es2:=by
 have hS9:=hL.st.trans hSk;have hsz2:w.heap.size≤w2.heap.size:=Adg hS9.size hS2.size;have hA:=(Adk w2.heap.size w2).alloc (Adf _) (.cells #[v2] 38);have hRA:=hR2.below hA;have hrowA:=hrow2.step (RStep.of_below hA);have hlt:=fun b hb=>(hL.row.row.lt b hb).2
 have hm:=hL.m;have hfw:=hL.few;have hM1:=hM.1;refine ⟨hF,by omega,hRA.grown hgrow hrowA.off,(hS9.trans hS2).after (FH hsz2 hrow2.row hgrow),?_,by rw [Adh];simp;omega,BK hL.all hM.2⟩;refine hrowA.push hRA ?_ hv2 hown hgrow hat
 refine hN2.keep hA.size (fun b hb hlt2=>⟨⟨Adg hS9.size hb.1,hb.2,fun hv=>?_⟩,fun o=>hA.cell (p:=⟨b,o,none⟩) hlt2⟩);have h1:=hlt b hv;have h2:=hSk.size;have h3:=hb.1;omega
theorem Lr {B p:Nat} {s:ByteArray} {st:ReSt} {es:List Bool} {dep:Nat} {mv cv:Value} (w:World) (h:Rd B p w s st es dep mv cv)
  (sub:Option (ReSt→ReRes (ReSt × Nd))) (hmv:Dx s.data.toList sub) (hok:GO sub) (hG:Gl w) (hB:glN≤B) (hgr:∀ st es,Eu B p s st es dep sub) :
  Calls Tryz.prog 115 #[.pointer (some ⟨p,0,none⟩)] w fun e w'=>BF (Aq false s.data.toList sub false (s.data.toList.length+1) st []) B p s dep mv cv w e w':=by
 have hsm:=h.small;have hsl:s.data.toList.length=s.size:=by simp
 obtain ⟨i0,hi,hz0,hz1,hz2⟩:=DL;obtain ⟨R,hR0⟩:∃ R,R=Aq false s.data.toList sub false (s.data.toList.length+1) st []:=⟨_,rfl⟩;rw [←hR0];have hR1:=hR0.trans (Lq _ _ _ _ _);have HSL:=Ac8 hsl;have HGl:=Ac8 hG;have H:=Ac8 h;have hbr:=JT w h sub hmv hok hG hB hgr;have HBA:=Ac8 (fun (st:ReSt) (es:List Bool) (mv cv:Value) (w:World) (h:Rd B p w s st es dep mv cv) (hG:Gl w)=>JT w h sub hmv hok hG hB hgr);have HBT:=Ac8 (fun (st st':ReSt) (d:Nd) h=>(GQ false s.data.toList sub hok false st.pos (s.data.toList.length+1) st [] true st' d st rfl rfl h).2);have HBM:=Ac8 (fun (st st':ReSt) (d:Nd) hl h=>FU false s.data.toList sub hmv false st.pos (s.data.toList.length+1) st [] true st' d hl h);clear hR0 hsl hG h hgr hok hmv;go_enter Tryz.func115,Tryz.ntmps115;go_wp2_with fail
 refine hbr.mono ?_;intro e w1 hA;obtain ⟨mv1,cv1,hS1,hr⟩:=hA;have HS1:=Ac8 hS1;clear hS1 hbr;cases hP:branchM false s.data.toList sub false st.pos (s.data.toList.length+1) st [] true with
 | error q=>
  rw [hP] at hr hR1;obtain rfl:e=_:=hr;have HF:=Ac8 hR1;clear hR1 hP;go_wp2_with fail
  exact ⟨rfl,Az HF.out HS1.out rfl⟩
 | ok q=>
  rw [hP] at hr hR1;obtain ⟨es1,v1,rfl,hRd1,hN1⟩:=hr;have HF:=Ac8 hR1;have HRd1:=Ac8 hRd1;have HN1:=Ac8 hN1;have HA1:=Ac8 (HBT.out _ _ _ hP);obtain ⟨nn,hnn⟩:=hN1;clear hR1 hP hRd1;rcases Av hnn with ⟨T,x,rfl⟩ | rfl
  all_goals
   clear hnn;go_wp2_with fail
   go_loopw [3] (fun v wr=>∃ (st':ReSt) (mv' cv':Value) (us:List Value) (l:List Nd) (m:Nat) (es':List Bool),ChLoop B p s dep mv cv w sub R v wr st' mv' cv' us l m es') (fun _ wr=>s.size - (intOf ((wr.cell? ⟨p,1,none⟩).getD undef)).toNat)
   case atStart=>
    have hA:=(Adk w1.heap.size w1).alloc (Adf _);refine ⟨q.1,mv1,cv1,_,[q.2],_,es1,HF.out,?_,HRd1.out.below (hA _),HS1.out.trans (RStep.of_below (hA _)),NdRO.single HRd1.out HS1.out.size HN1.out rfl,?_,?_⟩
    ·rw [HSL.out];omega
    ·show 1≤q.1.pos+1
     omega
    ·simp [HA1.out]
   case round=>
    obtain ⟨st',mv',cv',us,l,m,es',hL⟩:=hrel;have hR:=hL.rd;obtain ⟨c0,c1,c2,c3,c4,z1,z2,z3,z4⟩:=hR.cells;have HL:=Ac8 hL;clear hL;cases h124:BI s.data.toList st'.pos 124 with
    | false=>
     have hsk:=JL ⟨#[92,124]⟩ wr hR ((BJ _ _ 124 (by decide)).trans h124);have HE:=Ac8 h124;clear h124 hR;go_wp2_with fail
     refine hsk.mono ?_;rintro e w4 ⟨rfl,n,rfl⟩;have hbn:=below_drewN (Adk wr.heap.size wr) n;have hSn:=RStep.of_below (p:=p) (mv:=mv') (cv:=cv') hbn;have hRn:=HL.out.rd.below hbn;have hrow:=HL.out.row.step hSn;obtain ⟨a,cap,hv,hrw⟩:=hrow.parts;subst hv;have hjf:(AG l).length≤4000000:=by
      rw [Ij _ HL.out.all];have:=HL.out.few;have:=hRn.pos;omega
     have hj:=SH l a cap (wr.drewN n) hrw hjf;have HRn:=Ac8 hRn;have HS9:=Ac8 (HL.out.st.trans hSn);clear hbn hSn hRn hrow hrw hjf hsk c0 c1 c2 c3 c4 z1 z2 z3 z4;go_wp2_with fail
     refine hj.mono ?_;rintro e w5 ⟨v5,rfl,hn5,b5⟩;have HN5:=Ac8 hn5;have HB5:=Ac8 b5;clear hn5 b5 hj;go_wp2_with fail
     go_ret;have hlo:w.heap.size≤(wr.drewN n).heap.size:=HS9.out.size;have hB5:Below w.heap.size (wr.drewN n) w5:=HB5.out.mono hlo;exact AK (HL.out.r.trans (by unfold chTail;rw [HE.out];rfl)) (HS9.out.after hB5) (HRn.out.below HB5.out) (FG HRn.out hlo HB5.out HN5.out)
    | true=>
     have hsk:=Ip 124 wr hR ((BJ _ _ 124 (by decide)).trans h124);have hes:=EU h124;rw [HSL.out] at hes;have hm0:0 < m:=by have:=HL.out.m;omega
     obtain ⟨m',rfl⟩:∃ m',m=m'+1:=⟨m - 1,by omega⟩;have hstep:R=Aq false s.data.toList sub false (m'+1) ((st'.mark 124).to (st'.pos+2)) l:=HL.out.r.trans (by unfold chTail;rw [h124];rfl);have hstep2:=hstep.trans (Lq _ _ _ _ _);have hps2:=show st'.pos+2≤s.data.toList.length by rw [HSL.out];omega
     clear hm0 h124 hR hes hstep;go_wp2_with fail
     refine hsk.mono ?_;rintro e w4 ⟨rfl,mv4,hR4,hS4⟩;have HS4:=Ac8 hS4;have hbr2:=HBA.out _ _ _ _ _ hR4 (HGl.out.step (HL.out.st.trans hS4) H.out hB);have HRow4:=Ac8 (HL.out.row.step hS4);clear hS4 hR4 hsk c0 c1 c2 c3 c4 z1 z2 z3 z4;generalize hst4:(st'.mark 124).to (st'.pos+2)=st4 at *;have hp4:st4.pos=st'.pos+2:=by rw [←hst4];rfl
     clear hst4;have HP4:=Ac8 hp4;clear hp4;go_wp2_with fail
     refine hbr2.mono ?_;intro e w2 hA2;obtain ⟨mv2,cv2,hS2,hr2⟩:=hA2;have HS2:=Ac8 hS2;clear hS2 hbr2;cases hP2:branchM false s.data.toList sub false st4.pos (s.data.toList.length+1) st4 [] true with
     | error q2=>
      rw [hP2] at hr2 hstep2;obtain rfl:e=_:=hr2;have HF2:=Ac8 hstep2;clear hstep2 hP2;go_wp2_with fail
      exact ⟨rfl,Az HF2.out ((HL.out.st.trans HS4.out).trans HS2.out) rfl⟩
     | ok q2=>
      rw [hP2] at hr2 hstep2;obtain ⟨es2,v2,rfl,hR2,hN2⟩:=hr2;have hmm:=HBM.out _ _ _ (by rw [HP4.out];exact hps2) hP2;have HF2:=Ac8 hstep2;have HMM:=Ac8 (show st'.pos+2≤q2.1.pos∧inAlt q2.2=true from ⟨by have:=hmm.1;rw [HP4.out] at this;exact this,HBT.out _ _ _ hP2⟩);have HR2:=Ac8 hR2;have hrow2:=HRow4.out.step HS2.out;have HRow2:=Ac8 hrow2;have hfw:=HL.out.few;have hq2:=hR2.pos;have hm3:=HMM.out.1;have hm1:l.length+1≤maxLen:=by unfold maxLen;omega
      have hm2:(l.length+1) * 16≤140737488355328:=by omega
      have hown2:=hrow2.row;have hsz2:w.heap.size≤w2.heap.size:=Adg (HL.out.st.trans HS4.out).size HS2.out.size;have HN2:=Ac8 hN2;obtain ⟨nn,hnn⟩:=hN2;clear hstep2 hP2 hmm hR2 hrow2 hq2 hfw hm3 hps2;rcases Av hnn with ⟨T,x,rfl⟩ | rfl
      all_goals
       clear hnn;go_wp2_with (at_builtin;refine Af _ rfl _ _ 84 rfl w.heap.size 38 i0 .nilIface 1 16 Tryz.underlying84 hi hz0 hz1 hz2 rfl (by decide) _ _ _ rfl (hown2.alloc _) (some ⟨w2.heap.size,0,none⟩) 1 1 [_] rfl rfl (fun _=>⟨_,rfl,As (by simp) _ _⟩) (by intro y hy;simp at hy;subst hy;rfl) hm1 hm2 (by simp;omega) ?_;intro v3 w3 hown hgrow hat)
       have HO:=Ac8 hown;have HGr:=Ac8 hgrow;have HAt:=Ac8 hat
       clear hown hgrow hat;go_roundw
       case rel=>
        exact ⟨q2.1,mv2,cv2,_,_,m',es2,Rt HL.out HS4.out HS2.out HR2.out HRow2.out HN2.out rfl HO.out HGr.out HAt.out HF2.out HMM.out⟩
       case measure=>
        have h1:=(Rt HL.out HS4.out HS2.out HR2.out HRow2.out HN2.out rfl HO.out HGr.out HAt.out HF2.out HMM.out).rd.cells.c1;have h2:=HL.out.rd.cells.c1;rw [h1,h2];have h3:=HMM.out.1;have h4:=HR2.out.pos;simp only [Option.getD_some,intOf];omega
end
section
open Go Go.RowKit
theorem SI:∃ i,Tryz.prog.info? 4=some i∧i.zero=some (.bool false)∧i.size=1∧i.bytes=1:=by
 have h:(Tryz.prog.info? 4).map (fun i=>(i.zero,i.size,i.bytes))=some (some (.bool false),1,1):=by kernel_rfl
 obtain ⟨i,hi,he⟩:=Option.map_eq_some_iff.1 h;injection he with h1 h2;injection h2 with h2 h3;exact ⟨i,hi,h1,h2,h3⟩
theorem Cr.low {lo lo' p:Nat} {mv cv:Value} {w:World} {d:Nd} {u:Value} (h:Cr lo p mv cv w d u) (hl:lo'≤lo):Cr lo' p mv cv w d u:=
 h.keep (Adf _) (fun _ hb _=>⟨⟨Adg hl hb.1,hb.2⟩,fun _=>rfl⟩)
theorem Rd.deep {B p:Nat} {w:World} {s:ByteArray} {st:ReSt} {es:List Bool} {dep:Nat} {mv cv:Value} (h:Rd B p w s st es dep mv cv) (k:Nat) :
  Rd B p (w.setCell ⟨p,4,none⟩ (.int .i64 (k:Int))) s st es k mv cv∧RStep p w mv cv (w.setCell ⟨p,4,none⟩ (.int .i64 (k:Int))) mv cv:=by
 have hset:∀ b,b≠p→(w.setCell ⟨p,4,none⟩ (.int .i64 (k:Int))).heap[b]?=w.heap[b]?:=fun b hb=>Adl _ _ _ _ (fun e=>hb e)
 have hsz:(w.setCell ⟨p,4,none⟩ (.int .i64 (k:Int))).heap.size=w.heap.size:=by simp [World.setCell]
 refine ⟨{ h with blk:=(h.blk.set 4 (.int .i64 (k:Int))),mo:=?_,co:=?_ },?_⟩
 ·exact h.mo.kept ⟨rfl,rfl,rfl,by rw [hsz];exact Adf _,fun b _ hb=>hset b (fun e=>hb (by rw [e]))⟩ (Or.inr h.mp)
 ·exact h.co.kept ⟨rfl,rfl,rfl,by rw [hsz];exact Adf _,fun b _ hb=>hset b (fun e=>hb (by rw [e]))⟩ (Or.inr h.cp)
 ·exact ⟨rfl,rfl,rfl,by rw [hsz];exact Adf _,fun b _ hp h1 h2=>⟨hset b hp,h1,h2⟩⟩
theorem Rd.opens {B p:Nat} {W w6:World} {s:ByteArray} {st:ReSt} {es:List Bool} {dep:Nat} {mv cv v6:Value} (h:Rd B p W s st es dep mv cv)
  (hown:w6.ownsRow B 4 1 v6 (es.length+1) (es.map Value.bool++[.bool false])) (hg:W.grownBy w6 cv.ownBlock) (hat:v6.ownBlock=cv.ownBlock∨v6.ownBlock=some W.heap.size) (hfew:es.length+1≤st.pos) :
  Rd B p (w6.setCell ⟨p,3,none⟩ v6) s { st with opened:=st.opened+1 } (es++[false]) dep mv v6∧RStep p W mv cv (w6.setCell ⟨p,3,none⟩ v6) mv v6:=by
 have hpl:=h.blk.lt;have hml:=fun b hb=>AA h.mo b hb
 have hset:∀ b,b≠p→(w6.setCell ⟨p,3,none⟩ v6).heap[b]?=w6.heap[b]?:=fun b hb=>Adl _ _ _ _ (fun e=>hb e)
 have hsz:(w6.setCell ⟨p,3,none⟩ v6).heap.size=w6.heap.size:=by simp [World.setCell]
 have hv6p:v6.ownBlock≠some p:=by
  rcases hat with e | e
  ·rw [e];exact h.cp
  ·rw [e];intro he;injection he with he;omega
 have hb6:Blk w6 p #[.string s,.int .i64 (st.pos:Int),mv,cv,.int .i64 (dep:Int)] 202:=by
  have h1:=h.blk;unfold Blk at h1 ⊢;rw [hg.block p hpl (fun e=>h.cp e.symm)];exact h1
 have hmo6:=h.mo.kept hg (by
  rcases hc:mv.ownBlock with _ | b
  ·exact .inl rfl
  ·refine .inr (fun e=>?_)
   exact h.mc b hc e.symm)
 refine ⟨{ blk:=hb6.set 3 v6,mo:=?_,co:=?_,rr:=?_,bp:=h.bp,mp:=h.mp,cp:=hv6p,mc:=?_,pos:=h.pos,small:=h.small,few:=⟨h.few.1,by simp;exact hfew⟩ },?_⟩
 ·exact hmo6.kept ⟨rfl,rfl,rfl,by rw [hsz];exact Adf _,fun b _ hb=>hset b (fun e=>hb (by rw [e]))⟩ (Or.inr h.mp)
 ·rw [Adh,List.map_append]
  exact hown.kept ⟨rfl,rfl,rfl,by rw [hsz];exact Adf _,fun b _ hb=>hset b (fun e=>hb (by rw [e]))⟩ (Or.inr hv6p)
 ·exact LI h.rr
 ·intro b hb
  rcases hat with e | e
  ·rw [e];exact h.mc b hb
  ·rw [e];intro he
   injection he with he;have:=hml b hb;omega
 ·refine ⟨hg.os,hg.tape,hg.output,by rw [hsz];exact hg.size,fun b hb hp h1 h2=>⟨?_,h1,?_⟩⟩
  ·rw [hset b hp]
   exact hg.block b hb (fun e=>h2 e.symm)
  ·rcases hat with e | e
   ·rw [e];exact h2
   ·rw [e];intro he;injection he with he;omega
theorem Rd.closes {B p g cap:Nat} {w:World} {s:ByteArray} {st:ReSt} {es:List Bool} {dep:Nat} {mv:Value} (h:Rd B p w s st es dep mv (.slice (some ⟨g,0,none⟩) es.length cap)) (j:Nat) (hj:j < es.length) :
  Rd B p (w.setCell ⟨g,j,none⟩ (.bool true)) s { st with closed:=st.closed++[((j+1:Nat):Int)] } (es.set j true) dep mv (.slice (some ⟨g,0,none⟩) es.length cap)∧RStep p w mv (.slice (some ⟨g,0,none⟩) es.length cap) (w.setCell ⟨g,j,none⟩ (.bool true)) mv (.slice (some ⟨g,0,none⟩) es.length cap):=by
 have hst:=World.ownsRow.stored h.co j (.bool true);have hgp:g≠p:=fun e=>h.cp (by rw [e];rfl)
 have hset:∀ b,b≠g→(w.setCell ⟨g,j,none⟩ (.bool true)).heap[b]?=w.heap[b]?:=fun b hb=>Adl _ _ _ _ (fun e=>hb e)
 have hsz:(w.setCell ⟨g,j,none⟩ (.bool true)).heap.size=w.heap.size:=by simp [World.setCell]
 refine ⟨{ h with blk:=h.blk.set_other _ hgp _,mo:=?_,co:=?_,rr:=?_,few:=⟨h.few.1,by rw [List.length_set];exact h.few.2⟩ },?_⟩
 ·exact h.mo.kept hst.2 (by
   rcases hc:mv.ownBlock with _ | b
   ·exact .inl rfl
   ·refine .inr (fun e=>?_)
    exact h.mc b hc (by rw [e];rfl))
 ·rw [List.length_set,List.map_set]
  exact hst.1
 ·have:=Nb h.rr (n:=((j+1:Nat):Int)) (by omega) (by omega)
  rw [show (((j+1:Nat):Int) - 1).toNat=j by omega] at this;exact this
 ·exact ⟨rfl,rfl,rfl,by rw [hsz];exact Adf _,fun b _ _ h1 h2=>⟨hset b (fun e=>h2 (by rw [e];rfl)),h1,h2⟩⟩
theorem PK {B p:Nat} {s:ByteArray} {st:ReSt} {es:List Bool} {mv cv:Value} (w:World) (h:Rd B p w s (st.to (st.pos+2)) es 12 mv cv) :
  Calls Tryz.prog 169 #[.pointer (some ⟨p,0,none⟩),.int .i64 (st.pos:Int)] w fun e w'=>BF (.error (4,st.pos)) B p s 12 mv cv w e w':=by
 obtain ⟨c0,c1,c2,c3,c4,z1,z2,z3,z4⟩:=h.cells;clear h;go_enter Tryz.func169,Tryz.ntmps169;go_wp2_with fail
 exact ⟨rfl,Az rfl (RStep.refl _ _ _ _) rfl⟩
def JU (s:List UInt8) (st:ReSt) (F:ReRes (ReSt × Nd)):ReRes (ReSt × Nd):=match F with
 | .error e=>.error e
 | .ok q=>if BI s q.1.pos 41 then .ok ({ q.1 with pos:=q.1.pos+2,closed:=q.1.closed++[(st.opened:Int)+1] },.group ((st.opened:Int)+1) q.2) else .error (8,st.pos)
theorem YH (s:List UInt8) (f:ReSt→ReRes (ReSt × Nd)) (st:ReSt):Fz false s (some f) st=JU s st (f { st with pos:=st.pos+2,opened:=st.opened+1 }):=by
 unfold Fz JU;simp only [AX,A0,Bool.false_eq_true,if_false];cases f { st with pos:=st.pos+2,opened:=st.opened+1 } with
 | error e=>rfl
 | ok q=>rfl
theorem VA {B p:Nat} {s:ByteArray} {st:ReSt} {es:List Bool} {dep:Nat} {mv cv:Value} (w:World) (h:Rd B p w s (st.to (st.pos+2)) es dep mv cv) (hd:dep < 12) (hfe:es.length≤st.pos) (hG:Gl w) (hB:glN≤B)
  (F:ReRes (ReSt × Nd)) (hF:∀ st' d es',F=.ok (st',d)→RR es' (st'.opened:Int) st'.closed→es.length+1≤es'.length)
  (hrx:∀ (w2:World) (mv cv:Value),Gl w2→Rd B p w2 s { st with pos:=st.pos+2,opened:=st.opened+1 } (es++[false]) (dep+1) mv cv→Calls Tryz.prog 115 #[.pointer (some ⟨p,0,none⟩)] w2 fun e w'=>BF F B p s (dep+1) mv cv w2 e w') :
  Calls Tryz.prog 169 #[.pointer (some ⟨p,0,none⟩),.int .i64 (st.pos:Int)] w fun e w'=>BF (JU s.data.toList st F) B p s dep mv cv w e w':=by
 have hsm:=h.small;have hpp:=h.pos;have hop:(st.opened:Int)=(es.length:Int):=h.rr.1;obtain ⟨i0,hi,hz0,hz1,hz2⟩:=SI;obtain ⟨R,hR0⟩:∃ R,R=JU s.data.toList st F:=⟨_,rfl⟩;rw [←hR0];have HR0:=Ac8 hR0;have HGl:=Ac8 hG;have H:=Ac8 h;have HFE:=Ac8 hF;have HRX:=Ac8 hrx;have hdp:=h.deep (dep+1);have HD:=Ac8 hdp;have hpl:=h.blk.lt;have hbp:=h.bp;obtain ⟨c0,c1,c2,c3,c4,z1,z2,z3,z4⟩:=h.cells;have e0:((dep:Int) == 12)=false:=by rw [beq_eq_false_iff_ne];omega
 have Wd:IntKind.i64.wrap ((dep:Int)+1)=((dep+1:Nat):Int):=by rw [Adm _ (by omega)];omega
 have hpp2:st.pos+2≤s.size:=hpp;have hm1:es.length+1≤maxLen:=by unfold maxLen;omega
 have hm2:(es.length+1) * 1≤140737488355328:=by omega
 have hcp:=h.cp;have HO:=Ac8 hop;clear hR0 hG h hF hrx hdp hpp hop;go_enter Tryz.func169,Tryz.ntmps169;go_upto_region 4 with fail;have hd1:Rd B p (w.setCell ⟨p,4,none⟩ (.int .i64 ((dep:Int)+1))) s (st.to (st.pos+2)) es (dep+1) mv cv∧RStep p w mv cv (w.setCell ⟨p,4,none⟩ (.int .i64 ((dep:Int)+1))) mv cv:=HD.out;generalize w.setCell ⟨p,4,none⟩ (.int .i64 ((dep:Int)+1))=w1 at *;obtain ⟨hR1,hS1⟩:=hd1;have HR1:=Ac8 hR1;have HS1:=Ac8 hS1;clear c0 c1 c2 c3 c4 z1 z2 z3 z4 HD hS1 hpl;obtain ⟨c0,c1,c2,c3,c4,z1,z2,z3,z4⟩:=hR1.cells;have hpl:=hR1.blk.lt;have hA:=(Adk w1.heap.size w1).alloc (Adf _) (.cells #[.bool false] 4);have HA:=Ac8 hA;clear hA hR1;go_wp2_with (at_builtin;refine Af _ rfl _ _ 200 rfl B 4 i0 (.bool false) 1 1 Tryz.underlying200 hi hz0 hz1 hz2 rfl (by decide) cv es.length (es.map Value.bool) rfl (Ag HR1.out.co HA.out) (some ⟨w1.heap.size,0,none⟩) 1 1 [.bool false] rfl rfl (fun _=>⟨_,rfl,As rfl _ _⟩) (by intro y hy;simp at hy;subst hy;rfl) hm1 hm2 (by simp;omega) ?_;intro v6 w6 hown6 hgrow6 hat6;have HM:=Ac8 ((HR1.out.below HA.out).opens hown6 hgrow6 hat6 (by show es.length+1≤st.pos+2;omega));have hfz:w6.frozen? ⟨p,3,none⟩=false:=(hgrow6.frozen_far ⟨p,3,none⟩ (by simp;omega) (fun e=>hcp e.symm)).trans ((HR1.out.below HA.out).blk.frozen 3);have hce:w6.cell? ⟨p,3,none⟩=some cv:=(hgrow6.cell_far ⟨p,3,none⟩ (by simp;omega) (fun e=>hcp e.symm)).trans (((HR1.out.below HA.out).blk.cell 3).trans rfl);obtain ⟨g,gcap,hv6,_,_⟩:=World.ownsRow.form hown6 (Nat.succ_pos _);subst hv6;clear hown6 hgrow6 hat6)
 obtain ⟨hRA,hSA⟩:=HM.out;have HSB:=Ac8 ((HS1.out.trans (RStep.of_below (p:=p) (mv:=mv) (cv:=cv) HA.out)).trans hSA);refine (HRX.out _ _ _ (HGl.out.step HSB.out H.out hB) hRA).mono ?_;intro e w7 hX;obtain ⟨mv7,cv7,hS7,hr⟩:=hX;have HS7:=Ac8 (HSB.out.trans hS7);have HLo:=Ac8 (HSB.out.size);clear c0 c1 c2 c3 c4 z1 z2 z3 z4 hRA hSA hS7 hcp HM hce hfz hm1 hm2;cases F with
 | error q=>
  obtain rfl:e=_:=hr;go_wp2_with fail
  exact ⟨rfl,Az HR0.out HS7.out rfl⟩
 | ok q=>
  obtain ⟨es7,v7,rfl,hR7,hN7⟩:=hr;have HR7:=Ac8 hR7;have HN7:=Ac8 hN7;have hlen7:=HFE.out _ _ _ rfl hR7.rr;have hR2:=HR0.out;unfold JU at hR2;simp only at hR2;clear hN7;cases h41:BI s.data.toList q.1.pos 41 with
  | false=>
   rw [h41] at hR2;have HF:=Ac8 (hR2.trans (if_neg (by simp)));have hsk:=Hj ⟨#[92,41]⟩ w7 hR7 ((BJ _ _ 41 (by decide)).trans h41);clear hR2 hR7 h41;go_wp2_with fail
   refine hsk.mono ?_;rintro e w8 ⟨rfl,n,rfl⟩;clear hsk;go_wp2_with fail
   exact ⟨rfl,Az HF.out (HS7.out.trans (RStep.of_below (below_drewN (Adk _ _) n))) rfl⟩
  | true=>
   rw [h41] at hR2;have HF:=Ac8 (hR2.trans (if_pos rfl));have hsk:=FC ⟨#[92,41]⟩ w7 hR7 ((BJ _ _ 41 (by decide)).trans h41) (by simp);rw [show (ByteArray.mk #[92,41]).size=2 from rfl] at hsk;clear hR2 hR7 h41;go_wp2_with fail
   refine hsk.mono ?_;rintro e w8 ⟨rfl,hR8,hS8⟩;have HS8:=Ac8 (HS7.out.trans hS8);have HN8:=Ac8 (HN7.out.step hS8);clear hsk hS8;obtain ⟨a,cap,hcv,hl1,hl2,hx⟩:=FY hR8.co (by simp);unfold maxLen at hl2;subst hcv;obtain ⟨g8,rfl,_,hg8,hc8⟩:=hx (by omega);have hcl:=hR8.closes es.length (by omega);have hdp:=hcl.1.deep dep;have HC:=Ac8 hcl;have HDp:=Ac8 hdp;have hcell:=hc8 es.length (by simp;omega);rw [List.getElem_map,Nat.zero_add] at hcell;have hfzg:=World.ownsRow.frozenAt hR8.co es.length;have hgp:g8≠p:=fun e=>hR8.cp (by rw [e];rfl)
   have hgp2:p≠g8:=fun e=>hgp e.symm
   obtain ⟨c0,c1,c2,c3,c4,z1,z2,z3,z4⟩:=hR8.cells;have hpl8:=hR8.blk.lt;have hes7:=hR8.few.2;have hs8:=hR8.pos;have hlt7:(es.length:Int) < (es7.length:Int):=by omega
   have Wn:IntKind.i64.wrap ((es.length:Int)+1 - 1)=(es.length:Int):=by rw [Adm _ (by omega)];omega
   have Wm:IntKind.i64.wrap ((dep:Int)+1 - 1)=(dep:Int):=by rw [Adm _ (by omega)];omega
   have HN9:=Ac8 ((HN8.out.step hcl.2).step hdp.2);have HS9:=Ac8 ((HS8.out.trans hcl.2).trans hdp.2);obtain ⟨nn,hnn⟩:=HN8.out;clear hx hc8 hR8 hcl hdp;rcases Av hnn with ⟨T,x,rfl⟩ | rfl
   all_goals
    clear hnn;go_wp2_with fail
    go_ret;have hfin:R=.ok ({ q.1 with pos:=q.1.pos+2,closed:=q.1.closed++[((es.length+1:Nat):Int)] },.group ((es.length:Int)+1) q.2):=HF.out.trans (by rw [HO.out];rfl);exact AK hfin HS9.out HDp.out.1 (NK (HN9.out.low HLo.out) _)
def Fj (s:List UInt8) (dep:Nat):Option (ReSt→ReRes (ReSt × Nd)):=if dep < 12 then some (Cs false s (11 - dep)) else none
theorem NS (s:List UInt8) (dep:Nat):Dx s (Fj s dep):=fun f hf=>by
 unfold Fj at hf;split at hf
 ·injection hf with hf;subst hf;exact Ut false s _
 ·cases hf
theorem NT (s:List UInt8) (dep:Nat):GO (Fj s dep):=fun f hf=>by
 unfold Fj at hf;split at hf
 ·injection hf with hf;subst hf;exact Ik false s _
 ·cases hf
theorem Abb (s:List UInt8) (dep:Nat) (h:dep < 12) (st:ReSt):Cs false s (11 - dep) st=Aq false s (Fj s (dep+1)) false (s.length+1) st []:=by
 unfold Fj;by_cases h1:dep+1 < 12
 ·rw [if_pos h1,show 11 - dep=(11 - (dep+1))+1 by omega]
  rfl
 ·rw [if_neg h1,show 11 - dep=0 by omega]
  rfl
theorem SJ (B p:Nat) (s:ByteArray) (hB:glN≤B):∀ (n dep:Nat),dep+n=12→∀ st es,Eu B p s st es dep (Fj s.data.toList dep):=by
 intro n;induction n with
 | zero=>
  intro dep hd st es w2 mv cv hG hfe hR;obtain rfl:dep=12:=by omega
  have:Fz false s.data.toList (Fj s.data.toList 12) st=.error (4,st.pos):=rfl;rw [this];exact PK w2 hR
 | succ n ih=>
  intro dep hd st es w2 mv cv hG hfe hR;have hd12:dep < 12:=by omega
  have hs:Fj s.data.toList dep=some (Cs false s.data.toList (11 - dep)):=by unfold Fj;rw [if_pos hd12]
  rw [hs,YH];refine VA w2 hR hd12 hfe hG hB _ (fun st' d es' hF hrr=>?_) (fun w3 mv3 cv3 hG3 hR3=>?_)
  ·have ht:=Ik false s.data.toList _ _ _ _ hF
   have he:=FP d (es++[false]) _ _ (LI hR.rr);unfold CD at ht;have hcast:(((st.opened+1:Nat)):Int)=((st.to (st.pos+2)).opened:Int)+1:=by show ((st.opened+1:Nat):Int)=(st.opened:Int)+1;omega
   rw [show ((({ st with pos:=st.pos+2,opened:=st.opened+1 }:ReSt).opened:Nat):Int)=((st.to (st.pos+2)).opened:Int)+1 from hcast] at ht;rw [show Br d (((st.to (st.pos+2)).opened:Int)+1) (st.to (st.pos+2)).closed=some ((st'.opened:Int),st'.closed) from ht] at he;obtain ⟨es2,_,hrr2,hle⟩:=he;have h1:=hrr.1;have h2:=hrr2.1;simp at hle h2;omega
  ·rw [Abb _ _ hd12]
   exact Lr w3 hR3 _ (NS _ _) (NT _ _) hG3 hB (fun st es=>ih (dep+1) (by omega) st es)
end
section
open Go Go.RowKit
theorem NU (a b c d:Addr) (w:World) :
  CallsD Tryz.prog 114 #[.pointer (some a),.pointer (some b),.pointer (some c),.pointer (some d)] .returning w fun e u' w'=>e=.returned (.tuple #[])∧u'=.returning∧w'=w:=by
 have hnil:∀ w:World,(binOp BinOp.eql 20 .nilIface .nilIface).run Tryz.prog w=.ok (.bool true) w:=fun _=>by kernel_rfl
 refine callsD_of_wpS Tryz.func114 rfl fun c₀ cs hu=>?_
 apply wpS_seq;apply wpS_region;simp [wpOpsS,go_sem,recoverD,hu,Tryz.ntmps114,Exit.thenS]
 iterate 2 (apply wpS_seq)
 apply wpS_region;simp [wpOpsS,go_sem,hnil,Exit.thenS];refine wpS_cond (t:=true) (by simp [Act.eval,Array.replicate]) ?_;simp only [if_true];refine wpS_of_wp (wp_ret ?_);cases c₀
 simp_all [bodyPostS,results,Tryz.results114,Exit.thenS]
structure Caught (n0 n1 n2 n3:Nat) (k e:Nat) (w w':World):Prop where
 b0:Blk w' n0 #[.nilIface] 38
 b1:Blk w' n1 #[.slice none 0 0] 26
 b2:Blk w' n2 #[.int .i64 (k:Int)] 3
 b3:Blk w' n3 #[.int .i64 (e:Int)] 27
 low:∀ B,B≤n0→B≤n1→B≤n2→B≤n3→B≤w.heap.size→Below B w w'
theorem MA {n0 n1 n2 n3:Nat} {x0 x1 x2 x3:Value} (k er:Nat) (older:List PanicEntry) (w:World) (h0:Blk w n0 #[x0] 38) (h1:Blk w n1 #[x1] 26) (h2:Blk w n2 #[x2] 3) (h3:Blk w n3 #[x3] 27)
  (d01:n0≠n1) (d02:n0≠n2) (d03:n0≠n3) (d12:n1≠n2) (d13:n1≠n3) (d23:n2≠n3) :
  CallsD Tryz.prog 114 #[.pointer (some ⟨n0,0,none⟩),.pointer (some ⟨n1,0,none⟩),.pointer (some ⟨n2,0,none⟩),.pointer (some ⟨n3,0,none⟩)] (.panicking ({ v:=.iface 198 (.agg #[.int .i64 (k:Int),.int .i64 (er:Int)]),recovered:=false } :: older)) w fun e u' w'=>
   e=.returned (.tuple #[])∧u'=.panicking ({ v:=.iface 198 (.agg #[.int .i64 (k:Int),.int .i64 (er:Int)]),recovered:=true } :: older)∧Caught n0 n1 n2 n3 k er w w':=by
 have hnn:∀ w:World,(binOp BinOp.eql 20 (.iface 198 (.agg #[.int .i64 (k:Int),.int .i64 (er:Int)])) .nilIface).run Tryz.prog w=.ok (.bool false) w:=fun _=>by kernel_rfl
 have hta:∀ w:World,(Instr.typeAssert (.iface 198 (.agg #[.int .i64 (k:Int),.int .i64 (er:Int)])) 20 198 true).run Tryz.prog w=.ok (.tuple #[.agg #[.int .i64 (k:Int),.int .i64 (er:Int)],.bool true]) w:=fun _=>by kernel_rfl
 refine callsD_of_wpS Tryz.func114 rfl fun c₀ cs hu=>?_
 apply wpS_seq;apply wpS_region;simp [wpOpsS,go_sem,recoverD,hu,Tryz.ntmps114,Exit.thenS];refine wpS_of_wp (Code.wp_mono (Q:=fun e a w'=>(e=.normal∨e=.ret)∧a.defers=[]∧Caught n0 n1 n2 n3 k er w w') ?_ ?_)
 ·rintro e a w' ⟨he,hd,hc⟩
  rcases he with rfl | rfl
  ·exact ⟨hd,_,rfl,.tuple #[],by simp [results,Tryz.results114,go_sem],rfl,rfl,hc⟩
  ·exact ⟨hd,_,rfl,.tuple #[],by simp [results,Tryz.results114,go_sem],rfl,rfl,hc⟩
 ·clear hu
  have c0:w.cell? ⟨n0,0,none⟩=some x0:=(h0.cell 0).trans rfl;have c1:w.cell? ⟨n1,0,none⟩=some x1:=(h1.cell 0).trans rfl;have c2:w.cell? ⟨n2,0,none⟩=some x2:=(h2.cell 0).trans rfl;have c3:w.cell? ⟨n3,0,none⟩=some x3:=(h3.cell 0).trans rfl;have z0:=h0.frozen 0;have z1:=h1.frozen 0;have z2:=h2.frozen 0;have z3:=h3.frozen 0;have l0:=h0.lt;have l1:=h1.lt;have l2:=h2.lt;have l3:=h3.lt;have HB0:=Ac8 h0;have HB1:=Ac8 h1;have HB2:=Ac8 h2;have HB3:=Ac8 h3;clear h0 h1 h2 h3;simp only [Array.replicate_succ,Array.replicate_zero,List.push_toArray,List.append_toArray,List.nil_append,List.cons_append,Ac9,Ade,Zz0];go_wp2_with fail
  have d10:=d01.symm;have d20:=d02.symm;have d30:=d03.symm;have d21:=d12.symm;have d31:=d13.symm;have d32:=d23.symm
  go_region
  all_goals go_wp2_with fail
  all_goals
   refine ⟨?_,?_,?_,?_,fun B g0 g1 g2 g3 hw=>?_⟩
   ·exact (((((HB0.out.set 0 _).set_other ⟨n1,0,none⟩ d10 _).set_other ⟨n2,0,none⟩ d20 _).set_other ⟨n3,0,none⟩ d30 _).alloc _).drew
   ·exact (((((HB1.out.set_other ⟨n0,0,none⟩ d01 _).set 0 _).set_other ⟨n2,0,none⟩ d21 _).set_other ⟨n3,0,none⟩ d31 _).alloc _).drew
   ·exact (((((HB2.out.set_other ⟨n0,0,none⟩ d02 _).set_other ⟨n1,0,none⟩ d12 _).set 0 _).set_other ⟨n3,0,none⟩ d32 _).alloc _).drew
   ·exact (((((HB3.out.set_other ⟨n0,0,none⟩ d03 _).set_other ⟨n1,0,none⟩ d13 _).set_other ⟨n2,0,none⟩ d23 _).set 0 _).alloc _).drew
   ·exact ((((((Adk B w).setCell (p:=⟨n0,0,none⟩) g0 _).setCell (p:=⟨n1,0,none⟩) g1 _).setCell (p:=⟨n2,0,none⟩) g2 _).setCell (p:=⟨n3,0,none⟩) g3 _).alloc (by simp [World.setCell];exact hw) _).drew
end
section
open Go Go.RowKit
theorem NV (s:List UInt8) (sub:Option (ReSt→ReRes (ReSt × Nd))) (begin:Nat):∀ (n:Nat) (st:ReSt) (parts:List Nd) (front:Bool) (st':ReSt) (d:Nd),branchM false s sub false begin n st parts front=.ok (st',d)→AB s st'.pos=true:=by
 intro n;induction n with
 | zero=>intro _ _ _ _ _ h;cases h
 | succ n ih=>
  intro st parts front st' d h;rw [branchM] at h;split at h
  ·rename_i he
   injection h with h;injection h with h1 _;subst h1;unfold AB;simpa [A0] using he
  split at h
  ·exact ih _ _ _ _ _ h
  split at h
  ·exact ih _ _ _ _ _ h
  split at h
  ·cases h
  split at h
  ·cases h
  ·split at h
   ·cases h
   ·exact ih _ _ _ _ _ h
theorem NW (s:List UInt8) (sub:Option (ReSt→ReRes (ReSt × Nd))):∀ (n:Nat) (st:ReSt) (l:List Nd) (st':ReSt) (d:Nd),Aq false s sub false n st l=.ok (st',d)→s.length≤st'.pos∨BI s st'.pos 41=true:=by
 intro n;induction n with
 | zero=>intro _ _ _ _ h;cases h
 | succ n ih=>
  intro st l st' d h;rw [Aq] at h;split at h
  ·cases h
  ·rename_i st1 d1 hb
   have h1:=NV s sub _ _ _ _ _ _ _ hb;split at h
   ·exact ih _ _ _ _ h
   ·rename_i h124
    injection h with h;injection h with h2 _;subst h2;unfold AB at h1;simp only [A0,Bool.false_eq_true,if_false] at h124;simp only [Bool.or_eq_true,decide_eq_true_eq] at h1;rcases h1 with (h1 | h1) | h1
    ·exact .inl h1
    ·exact (h124 h1).elim
    ·exact .inr h1
structure Four (w0 w:World) (x0 x1 x2 x3:Value):Prop where
 b:Below w0.heap.size w0 w
 h0:Blk w w0.heap.size #[x0] 38
 h1:Blk w (w0.heap.size+1) #[x1] 26
 h2:Blk w (w0.heap.size+2) #[x2] 3
 h3:Blk w (w0.heap.size+3) #[x3] 27
theorem NX (w:World):Four w ((((w.alloc (.cells #[.nilIface] 38)).alloc (.cells #[.slice none 0 0] 26)).alloc (.cells #[.int .i64 0] 3)).alloc (.cells #[.int .i64 0] 27)) .nilIface (.slice none 0 0) (.int .i64 0) (.int .i64 0):=
 ⟨((((Adk _ _).alloc (Adf _) _).alloc (by simp) _).alloc (by simp;omega) _).alloc (by simp;omega) _,
  (((Blk.new w _ _ _ rfl).alloc _).alloc _).alloc _,((Blk.new _ _ _ _ (by simp)).alloc _).alloc _,(Blk.new _ _ _ _ (by simp)).alloc _,Blk.new _ _ _ _ (by simp)⟩
theorem Four.below {w0 w w':World} {x0 x1 x2 x3:Value} (h:Four w0 w x0 x1 x2 x3) (hb:Below w.heap.size w w'):Four w0 w' x0 x1 x2 x3:=
 ⟨h.b.trans (hb.mono h.b.size),h.h0.below hb h.h0.lt,h.h1.below hb h.h1.lt,h.h2.below hb h.h2.lt,h.h3.below hb h.h3.lt⟩
theorem FI {w0 w:World} {x0 x1 x2 x3:Value} (h:Four w0 w x0 x1 x2 x3) (k er:Nat) :
  CallsD Tryz.prog 114 #[.pointer (some ⟨w0.heap.size,0,none⟩),.pointer (some ⟨w0.heap.size+1,0,none⟩),.pointer (some ⟨w0.heap.size+2,0,none⟩),.pointer (some ⟨w0.heap.size+3,0,none⟩)] (.panicking ({ v:=.iface 198 (.agg #[.int .i64 (k:Int),.int .i64 (er:Int)]),recovered:=false } :: [])) w fun e u' w'=>
   e=.returned (.tuple #[])∧u'=.panicking ({ v:=.iface 198 (.agg #[.int .i64 (k:Int),.int .i64 (er:Int)]),recovered:=true } :: [])∧Four w0 w' .nilIface (.slice none 0 0) (.int .i64 (k:Int)) (.int .i64 (er:Int)):=
 (MA k er [] w h.h0 h.h1 h.h2 h.h3 (by omega) (by omega) (by omega) (by omega) (by omega) (by omega)).mono fun _ _ _ ⟨h1,h2,h3⟩=>
  ⟨h1,h2,h.b.trans (h3.low _ (Adf _) (by omega) (by omega) (by omega) h.b.size),h3.b0,h3.b1,h3.b2,h3.b3⟩
theorem NY (s:ByteArray) (w:World) (hs:250 < s.size):Calls Tryz.prog 99 #[.string s] w fun e w'=>P4 (.error (3,250)) w e w':=by
 have hmf:∀ (fn:Fn) (first cap:Array Value) (w:World),(Instr.makeFunc fn first cap).run Tryz.prog w=.ok (.func fn first cap) w:=fun _ _ _ _=>rfl
 have e1:decide ((250:Int) < (s.size:Int))=true:=by simp;omega
 have h4:=NX w;clear hs
 go_enter_defers Tryz.func99,Tryz.ntmps99
 go_wp2_with fail
 refine leaves_cons (f:=114) (args:=#[.pointer (some ⟨w.heap.size,0,none⟩),.pointer (some ⟨w.heap.size+1,0,none⟩),.pointer (some ⟨w.heap.size+2,0,none⟩),.pointer (some ⟨w.heap.size+3,0,none⟩)]) (by simp) (by simp [go_sem]) ?_;refine (FI h4 250 3).mono ?_;rintro e u' w'' ⟨rfl,rfl,h5⟩;have k0:=(h5.h0.cell 0).trans rfl;have k1:=(h5.h1.cell 0).trans rfl;have k2:=(h5.h2.cell 0).trans rfl;have k3:=(h5.h3.cell 0).trans rfl;simp [Leaves,settle,results,Tryz.results99,go_sem,k0,k1,k2,k3];exact ⟨h5.b,rfl⟩
theorem Four.step {w0 w w':World} {x0 x1 x2 x3:Value} {p:Nat} {mv' cv':Value} (h:Four w0 w x0 x1 x2 x3) (hp:w0.heap.size+4≤p) (hS:RStep p w (.slice none 0 0) (.slice none 0 0) w' mv' cv') (hB:Below w0.heap.size w w'):Four w0 w' x0 x1 x2 x3:=by
 have hk:∀ b x T,Blk w b #[x] T→b < p→Blk w' b #[x] T:=fun b x T hb hlt=>by
  unfold Blk at hb ⊢;rw [(hS.block b (Array.getElem?_eq_some_iff.1 hb).1 (by omega) (by simp [Value.ownBlock]) (by simp [Value.ownBlock])).1];exact hb
 exact ⟨h.b.trans hB,hk _ _ _ h.h0 (by omega),hk _ _ _ h.h1 (by omega),hk _ _ _ h.h2 (by omega),hk _ _ _ h.h3 (by omega)⟩
theorem Four.store {w0 w:World} {x0 x1 x2 x3:Value} (h:Four w0 w x0 x1 x2 x3) (y0 y1 y2 y3:Value) :
  Four w0 ((((w.setCell ⟨w0.heap.size,0,none⟩ y0).setCell ⟨w0.heap.size+1,0,none⟩ y1).setCell ⟨w0.heap.size+2,0,none⟩ y2).setCell ⟨w0.heap.size+3,0,none⟩ y3) y0 y1 y2 y3:=
 ⟨(((h.b.setCell (p:=⟨w0.heap.size,0,none⟩) (Adf _) _).setCell (p:=⟨w0.heap.size+1,0,none⟩) (by simp) _).setCell (p:=⟨w0.heap.size+2,0,none⟩) (by simp) _).setCell (p:=⟨w0.heap.size+3,0,none⟩) (by simp) _,
  (((h.h0.set 0 _).set_other ⟨w0.heap.size+1,0,none⟩ (by simp) _).set_other ⟨w0.heap.size+2,0,none⟩ (by simp) _).set_other ⟨w0.heap.size+3,0,none⟩ (by simp) _,
  (((h.h1.set_other ⟨w0.heap.size,0,none⟩ (by simp) _).set 0 _).set_other ⟨w0.heap.size+2,0,none⟩ (by simp) _).set_other ⟨w0.heap.size+3,0,none⟩ (by simp) _,
  (((h.h2.set_other ⟨w0.heap.size,0,none⟩ (by simp) _).set_other ⟨w0.heap.size+1,0,none⟩ (by simp) _).set 0 _).set_other ⟨w0.heap.size+3,0,none⟩ (by simp) _,
  (((h.h3.set_other ⟨w0.heap.size,0,none⟩ (by simp) _).set_other ⟨w0.heap.size+1,0,none⟩ (by simp) _).set_other ⟨w0.heap.size+2,0,none⟩ (by simp) _).set 0 _⟩
theorem Jd {w:World} {B:Nat} {e:TypeId} {size n:Nat} {v:Value} {us:List Value} (h:w.ownsRow B e size v n us) (b:Nat) (hv:v.ownBlock≠some b) (x:Value):(w.setCell ⟨b,0,none⟩ x).ownsRow B e size v n us:=
 h.kept ⟨rfl,rfl,rfl,by simp [World.setCell],fun k _ hk=>Adl _ _ _ _ (fun e=>hk (by rw [e]))⟩ (Or.inr hv)
theorem Je {F:Nat→Prop} {w:World} {d:Nd} {v:Value} (h:NdX F w d v) (b:Nat) (hb:¬ F b) (x:Value):NdX F (w.setCell ⟨b,0,none⟩ x) d v:=
 h.keep (by simp [World.setCell]) (fun k hk _=>⟨hk,fun o=>Adn (w:=w) (a:=⟨k,o,none⟩) (Adl _ _ _ _ (fun e=>hb (by have e2:k=b:=e;rw [←e2];exact hk)))⟩)
theorem SK {w:World} {B:Nat} {e:TypeId} {size n:Nat} {v:Value} {us:List Value} (h:w.ownsRow B e size v n us):∃ a m c,v=.slice a m c:=by
 rcases h.2 with ⟨rfl,_⟩ | ⟨g,cap,cur,rfl,_⟩
 ·exact ⟨_,_,_,rfl⟩
 ·exact ⟨_,_,_,rfl⟩
theorem Abc (w0 W:World) (s:ByteArray) (hs:s.size≤250) (h0:w0.heap.size≤W.heap.size):Rd w0.heap.size W.heap.size (W.alloc (.cells #[.string s,.int .i64 0,.slice none 0 0,.slice none 0 0,.int .i64 0] 202)) s DZ [] 0 (.slice none 0 0) (.slice none 0 0):=
 { blk:=Blk.new W _ _ _ rfl,mo:=World.ownsRow_nil _ _ _ _,co:=World.ownsRow_nil _ _ _ _,rr:=ZG,bp:=h0,mp:=by simp [Value.ownBlock],cp:=by simp [Value.ownBlock],mc:=by intro b hb;simp [Value.ownBlock] at hb,pos:=Nat.zero_le _,small:=hs,few:=⟨Adf _,Adf _⟩ }
theorem PL {w w1 W5:World} {x0 x1 x2 x3 v mv cv:Value} {d:Nd} {n:Nat} {us:List Value} (h:Four w w1 x0 x1 x2 x3) (hsz:w.heap.size+5≤W5.heap.size) (hN:Cr W5.heap.size (w.heap.size+4) mv cv w1 d v) (hm:w1.ownsRow w.heap.size 33 2 mv n us)
  (hno:∀ b,b < W5.heap.size→b≠w.heap.size+4→mv.ownBlock≠some b) :
  Four w ((((w1.setCell ⟨w.heap.size,0,none⟩ v).setCell ⟨w.heap.size+1,0,none⟩ mv).setCell ⟨w.heap.size+2,0,none⟩ (.int .i64 0)).setCell ⟨w.heap.size+3,0,none⟩ (.int .i64 0)) v mv (.int .i64 0) (.int .i64 0)∧
  NdX (fun b=>w.heap.size≤b) ((((w1.setCell ⟨w.heap.size,0,none⟩ v).setCell ⟨w.heap.size+1,0,none⟩ mv).setCell ⟨w.heap.size+2,0,none⟩ (.int .i64 0)).setCell ⟨w.heap.size+3,0,none⟩ (.int .i64 0)) d v∧
  ((((w1.setCell ⟨w.heap.size,0,none⟩ v).setCell ⟨w.heap.size+1,0,none⟩ mv).setCell ⟨w.heap.size+2,0,none⟩ (.int .i64 0)).setCell ⟨w.heap.size+3,0,none⟩ (.int .i64 0)).ownsRow w.heap.size 33 2 mv n us:=by
 have hN':NdX (fun b=>w.heap.size+5≤b) w1 d v:=hN.keep (Adf _) (fun b hb _=>⟨Adg hsz hb.1,fun _=>rfl⟩);refine ⟨h.store _ _ _ _,?_,?_⟩
 ·exact ((((Je hN' _ (by omega) _ |> fun h=>Je h _ (by omega) _) |> fun h=>Je h _ (by omega) _) |> fun h=>Je h _ (by omega) _)).keep (Adf _) (fun b hb _=>⟨by omega,fun _=>rfl⟩)
 ·exact Jd (Jd (Jd (Jd hm _ (hno _ (by omega) (by omega)) _) _ (hno _ (by omega) (by omega)) _) _ (hno _ (by omega) (by omega)) _) _ (hno _ (by omega) (by omega)) _
theorem MB (s:ByteArray) (w:World) (hs:s.size≤250) (hG:Gl w):Calls Tryz.prog 99 #[.string s] w fun e w'=>P4 (AY false s.data.toList) w e w':=by
 have hmf:∀ (fn:Fn) (first cap:Array Value) (w:World),(Instr.makeFunc fn first cap).run Tryz.prog w=.ok (.func fn first cap) w:=fun _ _ _ _=>rfl
 have hsl:s.data.toList.length=s.size:=by simp
 have e1:decide ((250:Int) < (s.size:Int))=false:=by simp;omega
 have h4:=NX w;generalize hW4:((((w.alloc (.cells #[.nilIface] 38)).alloc (.cells #[.slice none 0 0] 26)).alloc (.cells #[.int .i64 0] 3)).alloc (.cells #[.int .i64 0] 27))=W4 at h4;have hn4:W4.heap.size=w.heap.size+4:=by rw [←hW4];simp
 have hR:=Abc w W4 s hs (by omega);rw [hn4] at hR;have hA:=(Adk W4.heap.size W4).alloc (Adf _) (.cells #[.string s,.int .i64 0,.slice none 0 0,.slice none 0 0,.int .i64 0] 202);have h5:=h4.below hA;have hG5:=hG.up h5.b;have hps:=Gy false s.data.toList (by rw [hsl];exact hs);have hrx:=Lr _ hR (Fj s.data.toList 0) (NS _ _) (NT _ _) hG5 hG.lt (fun st es=>SJ w.heap.size (w.heap.size+4) s hG.lt 12 0 rfl st es);rw [show Fj s.data.toList 0=some (Cs false s.data.toList 11) from rfl] at hrx;obtain ⟨R,hR0⟩:∃ R,R=AY false s.data.toList:=⟨_,rfl⟩;rw [←hR0];have hR1:=hR0.trans hps;have HR5:=Ac8 hR;have H5:=Ac8 h5;have HW4:=Ac8 hW4;have HN4:=Ac8 hn4;have hce:=NW s.data.toList (some (Cs false s.data.toList 11)) (s.data.toList.length+1) DZ [];have HCE:=Ac8 hce;have HSL:=Ac8 hsl;clear hR hA h4 h5 hG5 hps hR0 hG hn4 hce hsl hs;subst hW4
 go_enter_defers Tryz.func99,Tryz.ntmps99
 go_wp2_with fail
 generalize hW5:((((w.alloc (.cells #[.nilIface] 38)).alloc (.cells #[.slice none 0 0] 26)).alloc (.cells #[.int .i64 0] 3)).alloc (.cells #[.int .i64 0] 27)).alloc (.cells #[.string s,.int .i64 0,.slice none 0 0,.slice none 0 0,.int .i64 0] 202)=W5 at *;have hsz5:w.heap.size+5≤W5.heap.size:=by rw [←hW5];simp
 have HSZ:=Ac8 hsz5;clear hW5 hsz5;refine Calls.mono hrx ?_;intro e w1 hA;obtain ⟨mv1,cv1,hS1,hr⟩:=hA;have hF1:=H5.out.step (Adf _) hS1 (hS1.low HR5.out);have HS1:=Ac8 hS1;have HF1:=Ac8 hF1;clear hS1 hF1 hrx;cases hC:Aq false s.data.toList (some (Cs false s.data.toList 11)) false (s.data.toList.length+1) DZ [] with
 | error q=>
  rw [hC] at hr hR1;obtain rfl:e=_:=hr;have HF:=Ac8 hR1;clear hC hR1;go_wp2_with fail
  refine leaves_cons (f:=114) (args:=#[.pointer (some ⟨w.heap.size,0,none⟩),.pointer (some ⟨w.heap.size+1,0,none⟩),.pointer (some ⟨w.heap.size+2,0,none⟩),.pointer (some ⟨w.heap.size+3,0,none⟩)]) (by simp) (by simp [go_sem]) ?_;refine (FI HF1.out q.2 q.1).mono ?_;rintro e u' w'' ⟨rfl,rfl,h5⟩;have k0:=(h5.h0.cell 0).trans rfl;have k1:=(h5.h1.cell 0).trans rfl;have k2:=(h5.h2.cell 0).trans rfl;have k3:=(h5.h3.cell 0).trans rfl;simp [Leaves,settle,results,Tryz.results99,go_sem,k0,k1,k2,k3];exact ⟨h5.b,by rw [HF.out];rfl⟩
 | ok q=>
  rw [hC] at hr hR1;obtain ⟨es1,v1,rfl,hRd1,hN1⟩:=hr;have hce:=HCE.out _ _ hC;have HRd1:=Ac8 hRd1;have HN1:=Ac8 hN1;obtain ⟨c0,c1,c2,c3,c4,z1,z2,z3,z4⟩:=hRd1.cells;have hp1:=hRd1.pos;have hsm:=hRd1.small;rw [HSL.out] at hce;clear hC hRd1 hN1;cases h41:BI s.data.toList q.1.pos 41 with
  | true=>
   have hlt:=(EU h41).1;rw [HSL.out] at hlt;have HF:=Ac8 (hR1.trans (show Fi false s.data.toList (.ok q)=.error (8,q.1.pos) by unfold Fi;simp only [A0,Bool.false_eq_true,if_false];rw [h41];rfl));have e2:decide ((q.1.pos:Int) < (s.size:Int))=true:=by simp;omega
   have e3:decide (q.1.pos < s.size)=true:=by simp;omega
   clear hR1 h41 hlt hce;go_wp2_with fail
   refine leaves_cons (f:=114) (args:=#[.pointer (some ⟨w.heap.size,0,none⟩),.pointer (some ⟨w.heap.size+1,0,none⟩),.pointer (some ⟨w.heap.size+2,0,none⟩),.pointer (some ⟨w.heap.size+3,0,none⟩)]) (by simp) (by simp [go_sem]) ?_;refine (FI HF1.out q.1.pos 8).mono ?_;rintro e u' w'' ⟨rfl,rfl,h5⟩;have k0:=(h5.h0.cell 0).trans rfl;have k1:=(h5.h1.cell 0).trans rfl;have k2:=(h5.h2.cell 0).trans rfl;have k3:=(h5.h3.cell 0).trans rfl;simp [Leaves,settle,results,Tryz.results99,go_sem,k0,k1,k2,k3];exact ⟨h5.b,by rw [HF.out];rfl⟩
  | false=>
   have hge:s.size≤q.1.pos:=hce.resolve_right (by rw [h41];simp);have HF:=Ac8 (hR1.trans (show Fi false s.data.toList (.ok q)=.ok q by unfold Fi;simp only [A0,Bool.false_eq_true,if_false];rw [h41];rfl));have e2:decide ((q.1.pos:Int) < (s.size:Int))=false:=by simp;omega
   have e3:decide (q.1.pos < s.size)=false:=by simp;omega
   clear hR1 h41 hce hge;have q0:=(HF1.out.h0.cell 0).trans rfl;have q1:=(HF1.out.h1.cell 0).trans rfl;have q2:=(HF1.out.h2.cell 0).trans rfl;have q3:=(HF1.out.h3.cell 0).trans rfl;have y0:=HF1.out.h0.frozen 0;have y1:=HF1.out.h1.frozen 0;have y2:=HF1.out.h2.frozen 0;have y3:=HF1.out.h3.frozen 0;have hno:=fun b hb hbp=>((HS1.out.block b hb hbp (by simp [Value.ownBlock]) (by simp [Value.ownBlock])).2.1)
   have HNO:=Ac8 hno;clear hno;obtain ⟨ma,mn,mc,hmv⟩:=SK HRd1.out.mo;subst hmv;obtain ⟨nn,hnn⟩:=HN1.out;rcases Av hnn with ⟨T,x,rfl⟩ | rfl
   all_goals
    clear hnn;go_wp2_with fail
    go_region
    all_goals go_wp2_with fail
    all_goals
     refine leaves_cons (f:=114) (args:=#[.pointer (some ⟨w.heap.size,0,none⟩),.pointer (some ⟨w.heap.size+1,0,none⟩),.pointer (some ⟨w.heap.size+2,0,none⟩),.pointer (some ⟨w.heap.size+3,0,none⟩)]) (by simp) (by simp [go_sem]) ?_;refine (NU _ _ _ _ _).mono ?_;rintro e u' w'' ⟨rfl,rfl,rfl⟩;have hF9:=PL HF1.out HSZ.out HN1.out HRd1.out.mo HNO.out;have k0:=(hF9.1.h0.cell 0).trans rfl;have k1:=(hF9.1.h1.cell 0).trans rfl;have k2:=(hF9.1.h2.cell 0).trans rfl;have k3:=(hF9.1.h3.cell 0).trans rfl;have HF9:=Ac8 hF9;clear hF9 c0 c1 c2 c3 c4 z1 z2 z3 z4 q0 q1 q2 q3 y0 y1 y2 y3;generalize (((World.setCell _ _ _).setCell _ _).setCell _ _).setCell _ _=w9 at HF9 k0 k1 k2 k3 ⊢;simp [Leaves,settle,results,Tryz.results99,go_sem,k0,k1,k2,k3];refine ⟨HF9.out.1.b.drew,?_⟩;rw [HF.out];exact ⟨_,_,rfl,HF9.out.2.1.drew,HF9.out.2.2⟩
theorem PM (s:ByteArray) (w:World) (hG:Gl w):Calls Tryz.prog 99 #[.string s] w fun e w'=>P4 (AY false s.data.toList) w e w':=by
 by_cases hs:s.size≤250
 ·exact MB s w hs hG
 ·have hl:AY false s.data.toList=.error (3,250):=by
   unfold AY;rw [if_pos (by simp;omega)]
  rw [hl];exact NY s w (by omega)
end
section
open Go.RowKit
theorem YI {a b:ByteArray} (h:a=b):Ending.returned (.string a)=.returned (.string b):=by rw [h]
theorem JV (s:ByteArray) (k:Nat) (h:k < s.size):s.data.toList.take (k+1)=s.data.toList.take k++[s[k]]:=by
 rw [List.take_succ_eq_append_getElem (by simpa using h)];rfl
theorem VB (s:ByteArray) (w:World) (hs:s.size≤35184372088832) :
  Calls Tryz.prog 129 #[.string s] w fun e w'=>e=.returned (.string (txt (Ao s.data.toList)))∧Below w.heap.size w w':=by
 go_enter Tryz.func129,Tryz.ntmps129
 go_wp2
 go_loopw [7] (fun i wr=>∃ k:Nat,k≤s.size∧i=.int .i64 k∧Lib.IsBuilderF 167 5 w.heap.size w.heap.size (Lib.byteCells (Ao (s.data.toList.take k))) wr∧Below w.heap.size w wr∧w.heap.size≤wr.heap.size) (fun i _=>s.size - (intOf i).toNat)
 case atStart=>
  refine ⟨0,by omega,rfl,Lib.IsBuilderF.of (Lib.fresh_isBuilder 167 5 w),(Adk _ w).alloc (Adf _) _,by simp⟩
 case round=>
  obtain ⟨k,hk,rfl,hI,hbw,hsz⟩:=hrel;have hlen:=KQ (s.data.toList.take k);have hl2:(s.data.toList.take k).length≤k:=List.length_take_le _ _;have hlc:(Lib.byteCells (Ao (s.data.toList.take k))).length≤2 * k:=by rw [Lib.byteCells_length];omega
  by_cases hlt:k < s.size
  ·have hb:=s[k].toNat_lt
   have Hn:=Ac8 (show Ao (s.data.toList.take (k+1))=Ao (s.data.toList.take k)++Db s[k] by rw [JV s k hlt,Jt]);go_wp2_with (go_at_call 144;refine (MX w.heap.size w.heap.size _ _ (by omega) (by omega) _ hI (by omega) hsz).mono ?_)
   rintro e W1 ⟨rfl,h1,b1,_⟩
   go_wp2
   go_roundw
   case rel=>
    refine ⟨k+1,by omega,by go_num,?_,hbw.trans b1,Adg hsz b1.size⟩;rw [Hn.out,Lib.byteCells_append,←RK,Lib.byteCells_encodeRune];exact Or.inr h1
   case measure=>simp [intOf];omega
  ·have Hk:=Ac8 (show s.data.toList.take k=s.data.toList from List.take_of_length_le (by rw [←Ad];omega))
   go_wp2_with (go_at_call 88;refine (Cz w.heap.size w.heap.size _ _ hI hsz).mono ?_)
   rintro e W1 ⟨rfl,_,b1,_⟩
   go_wp2
   go_ret;exact ⟨YI (by rw [Hk.out];rfl),hbw.trans b1⟩
end
section
structure Lv where
 op:Nat
 num:Nat
 brs:List Nd
 pcs:List Nd
structure ES where
 pos:Nat
 groups:Nat
 closed:List Int
 marks:List (Nat × Nat)
 inner:Lv
 outer:List Lv
def ES.st (e:ES):ReSt:=⟨e.pos,e.groups,e.closed,e.marks⟩
def ES.at (e:ES) (st:ReSt) (l:List Nd):ES:={ e with pos:=st.pos,groups:=st.opened,closed:=st.closed,marks:=st.marks,inner:={ e.inner with pcs:=l } }
def ES.lv (e:ES) (st:ReSt) (b l:List Nd):ES:={ e with pos:=st.pos,groups:=st.opened,closed:=st.closed,marks:=st.marks,inner:={ e.inner with brs:=b,pcs:=l } }
def Ay (l:List Nd):Bool:=match l.getLast? with
 | none=>true
 | some .start=>true
 | some .fin=>true
 | some _=>false
def Lv.whole (v:Lv):Nd:=Cg (v.brs++[Bs v.pcs])
def ES.add (e:ES) (k:Nat) (d:Nd):ES:=e.at (e.st.to k) (e.inner.pcs++[d])
def BU (s:List UInt8) (k:Nat):Bool:=chAt s k 42 || chAt s k 43 || chAt s k 63 || chAt s k 123
def Am (s:List UInt8) (e:ES):Except (Nat × Nat) ES:=
 if chAt s e.pos 124 then .ok (e.lv (e.st.to (e.pos+1)) (e.inner.brs++[Bs e.inner.pcs]) [])
 else if chAt s e.pos 40 then (if e.outer.length=12 then .error (4,e.pos) else .ok { e with pos:=e.pos+1,groups:=e.groups+1,outer:=e.outer++[e.inner],inner:=⟨e.pos,e.groups+1,[],[]⟩ })
 else if chAt s e.pos 41 then (match e.outer.getLast? with
  | none=>.error (8,e.pos)
  | some v=>.ok { e with pos:=e.pos+1,closed:=e.closed++[(e.inner.num:Int)],outer:=e.outer.dropLast,inner:={ v with pcs:=v.pcs++[.group (e.inner.num:Int) e.inner.whole] } })
 else if chAt s e.pos 94 then .ok (e.add (e.pos+1) .start)
 else if chAt s e.pos 36 then .ok (e.add (e.pos+1) .fin)
 else if BU s e.pos then (if Ay e.inner.pcs then .error (10,e.pos) else match repAt true s e.pos with
  | .some mn mx _ j=>.ok (e.at (e.st.to j) (e.inner.pcs.dropLast++[.rep (e.inner.pcs.getLastD .empty) mn mx]))
  | _=>.error (7,e.pos))
 else match Bb true s none e.st with
  | .error q=>.error q
  | .ok (st,d)=>.ok (e.at st (e.inner.pcs++[d]))
def NZ (s:List UInt8):Nat→ES→Except (Nat × Nat) ES
 | 0,_=>.error (0,0)
 | n+1,e=>if s.length≤e.pos then (if e.outer.isEmpty then .ok e else .error (8,e.inner.op)) else match Am s e with
  | .error q=>.error q
  | .ok e'=>NZ s n e'
theorem MC (s:List UInt8) (st st':ReSt) (d:Nd) (hl:st.pos < s.length) (h:Bb true s none st=.ok (st',d)):st.pos < st'.pos∧st'.pos≤s.length:=
 DD true s none (fun f hf=>by cases hf) st st' d hl h
theorem Aci {s:List UInt8} {k b:Nat} (h:chAt s k b=true):k+1≤s.length:=(BE h).1
theorem H8 (s:List UInt8) (e e':ES) (hl:e.pos < s.length) (h:Am s e=.ok e'):e.pos < e'.pos∧e'.pos≤s.length:=by
 unfold Am at h;split at h
 ·injection h with h;subst h;exact ⟨Nat.lt_succ_self _,hl⟩
 ·split at h
  ·split at h
   ·cases h
   ·injection h with h;subst h;exact ⟨Nat.lt_succ_self _,hl⟩
  ·split at h
   ·split at h
    ·cases h
    ·injection h with h;subst h;exact ⟨Nat.lt_succ_self _,hl⟩
   ·split at h
    ·injection h with h;subst h;exact ⟨Nat.lt_succ_self _,hl⟩
    ·split at h
     ·injection h with h;subst h;exact ⟨Nat.lt_succ_self _,hl⟩
     ·split at h
      ·split at h
       ·cases h
       ·split at h
        ·rename_i hr
         injection h with h;subst h;exact F2 _ _ _ _ _ _ _ hr
        ·cases h
      ·split at h
       ·cases h
       ·rename_i st d ha
        injection h with h;subst h;exact MC s e.st st d hl ha
theorem SL (s:List UInt8):∀ (n m:Nat) (e:ES),e.pos≤s.length→s.length < n+e.pos→s.length < m+e.pos→NZ s n e=NZ s m e:=by
 intro n;induction n with
 | zero=>intro m e h0 h1;omega
 | succ n ih=>
  intro m e h0 h1 h2;obtain ⟨m,rfl⟩:∃ k,m=k+1:=⟨m - 1,by omega⟩;rw [NZ,NZ];split
  ·rfl
  ·rename_i hl
   cases he:Am s e with
   | error q=>rfl
   | ok e'=>
    have hm:=H8 s e e' (by omega) he;exact ih m e' hm.2 (by omega) (by omega)
def D4 (s:List UInt8) (e:ES):Except (Nat × Nat) ES:=NZ s (s.length+1) e
theorem B9 (s:List UInt8) (e:ES) (hl:e.pos < s.length):D4 s e=(match Am s e with
  | .error q=>.error q
  | .ok e'=>D4 s e'):=by
 unfold D4;rw [NZ,if_neg (by omega)];cases he:Am s e with
 | error q=>rfl
 | ok e'=>
  have hm:=H8 s e e' hl he;exact SL s _ _ e' hm.2 (by omega) (by omega)
theorem JW (s:List UInt8) (e:ES) (hl:s.length≤e.pos):D4 s e=(if e.outer.isEmpty then .ok e else .error (8,e.inner.op)):=by
 unfold D4;rw [NZ,if_pos hl]
theorem Ej (l:List Nd) (d:Nd):Ay (l++[d])=(match d with | .start=>true | .fin=>true | _=>false):=by
 unfold Ay;rw [List.getLast?_concat];cases d <;> rfl
theorem Ls {l:List Nd} {d:Nd} (h:GF d=true):Ay (l++[d])=false:=by
 rw [Ej];cases d <;> first | rfl | cases h
theorem YJ {s:List UInt8} {k:Nat} (h:repAt true s k=.none):BU s k=false:=by
 unfold repAt at h;unfold BU;simp only [A0,if_true] at h;split at h
 ·cases h
 ·rename_i h1
  split at h
  ·cases h
  ·rename_i h2
   split at h
   ·cases h
   ·rename_i h3
    split at h
    ·split at h <;> cases h
    ·rename_i h4
     simp [h1,h2,h3,h4]
theorem JX {s:List UInt8} {k:Nat} (h:repAt true s k≠.none):BU s k=true:=by
 cases hs:BU s k with
 | true=>rfl
 | false=>
  unfold BU at hs;simp only [Bool.or_eq_false_iff] at hs;obtain ⟨⟨⟨h1,h2⟩,h3⟩,h4⟩:=hs;unfold repAt at h;simp only [A0,if_true] at h;rw [h1,h2,h3,h4] at h;simp at h
theorem Fd {s:List UInt8} {k:Nat} (h:BU s k=true):k < s.length∧chAt s k 124=false∧chAt s k 40=false∧chAt s k 41=false∧chAt s k 94=false∧chAt s k 36=false:=by
 unfold BU at h;simp only [Bool.or_eq_true] at h;rcases h with ((h | h) | h) | h
 all_goals
  have hb:=(BE h).2;exact ⟨(BE h).1,B7 (by omega),B7 (by omega),B7 (by omega),B7 (by omega),B7 (by omega)⟩
theorem YK (s:List UInt8):∀ (n:Nat) (st:ReSt) (d:Nd) (e:ES) (l:List Nd),st.pos≤s.length→s.length < n+st.pos→GF d=true→
  match DC true s n st d with
  | .error q=>D4 s (e.at st (l++[d]))=.error q
  | .ok (st',d')=>D4 s (e.at st (l++[d]))=D4 s (e.at st' (l++[d']))∧GF d'=true:=by
 intro n;induction n with
 | zero=>intro st d e l h1 h2;omega
 | succ n ih=>
  intro st d e l h1 h2 hr;rw [DC];have hstep:∀ (hne:repAt true s st.pos≠.none),Am s (e.at st (l++[d]))=(match repAt true s st.pos with
    | .some mn mx _ j=>.ok (e.at (st.to j) (l++[.rep d mn mx]))
    | _=>.error (7,st.pos)):=by
   intro hne;have hs:=JX hne;obtain ⟨_,k1,k2,k3,k4,k5⟩:=Fd hs;unfold Am;rw [show (e.at st (l++[d])).pos=st.pos from rfl,k1,k2,k3,k4,k5,hs];simp only [Bool.false_eq_true,if_false,if_true];rw [show (e.at st (l++[d])).inner.pcs=l++[d] from rfl,Ls hr];simp only [Bool.false_eq_true,if_false];rw [List.dropLast_concat,show (l++[d]).getLastD .empty=d by simp];rfl
  cases hra:repAt true s st.pos with
  | none=>exact ⟨rfl,hr⟩
  | bad=>
   have hne:repAt true s st.pos≠.none:=by rw [hra];intro h;cases h
   have hs:=hstep hne;rw [hra] at hs;have hl:=(Fd (JX hne)).1;simp only;rw [B9 s _ hl,hs]
  | some mn mx c j=>
   have hne:repAt true s st.pos≠.none:=by rw [hra];intro h;cases h
   have hs:=hstep hne;rw [hra] at hs;have hl:=(Fd (JX hne)).1;obtain ⟨m1,m2⟩:=F2 _ _ _ _ _ _ _ hra;have hc:c=0:=by
    unfold repAt at hra;simp only [A0,if_true] at hra;split at hra
    ·injection hra with _ _ h _;exact h.symm
    ·split at hra
     ·injection hra with _ _ h _;exact h.symm
     ·split at hra
      ·injection hra with _ _ h _;exact h.symm
      ·split at hra
       ·split at hra
        ·cases hra
        ·injection hra with _ _ h _;exact h.symm
       ·cases hra
   have:=ih (st.to j) (.rep d mn mx) e l m2 (by show _ < n+j;omega) rfl;simp only;rw [if_pos hc];rw [B9 s _ (show (e.at st (l++[d])).pos < _ from hl),hs];exact this
def CF (s:List UInt8):Nat→Option (ReSt→ReRes (ReSt × Nd))
 | 0=>none
 | k+1=>some (Cs true s k)
theorem Abd (s:List UInt8) (k:Nat) (st:ReSt):Cs true s k st=Aq true s (CF s k) false (s.length+1) st []:=by cases k <;> rfl
theorem JY (s:List UInt8) (k:Nat):Dx s (CF s k)∧GO (CF s k):=by
 cases k with
 | zero=>exact ⟨fun f hf=>(by cases hf),fun f hf=>(by cases hf)⟩
 | succ k=>exact CX true s k
def VC (s:List UInt8) (k:Nat):Prop:=∀ (n:Nat) (e:ES),e.pos≤s.length→s.length < n+e.pos→e.outer.length+k=12→e.inner.pcs=[]→
 match Aq true s (CF s k) false n e.st e.inner.brs with
 | .error q=>D4 s e=.error q
 | .ok (st',d)=>∃ b p,Cg (b++[Bs p])=d∧D4 s e=D4 s (e.lv st' b p)∧(s.length≤st'.pos∨chAt s st'.pos 41=true)∧st'.pos≤s.length
theorem VD (s:List UInt8) (k:Nat) (hC:∀ j,k=j+1→VC s j) (e:ES) (hl:e.pos < s.length) (hk:e.outer.length+k=12) (h124:chAt s e.pos 124=false) (h41:chAt s e.pos 41=false) (h94:chAt s e.pos 94=false) (h36:chAt s e.pos 36=false) (hs:BU s e.pos=false) :
  match Bb true s (CF s k) e.st with
  | .error q=>D4 s e=.error q
  | .ok (st',d)=>D4 s e=D4 s (e.at st' (e.inner.pcs++[d])):=by
 by_cases h40:chAt s e.pos 40=true
 ·have ha:Bb true s (CF s k) e.st=Fz true s (CF s k) e.st:=by
   unfold Bb;rw [show A0 true s e.st.pos 40=true from h40];rfl
  rw [ha,B9 s e hl];unfold Fz;have hst:Am s e=(if e.outer.length=12 then .error (4,e.pos) else .ok { e with pos:=e.pos+1,groups:=e.groups+1,outer:=e.outer++[e.inner],inner:=⟨e.pos,e.groups+1,[],[]⟩ }):=by
   unfold Am;rw [h124,h40];rfl
  rw [hst];cases k with
  | zero=>rw [if_pos (by omega)];rfl
  | succ j=>
   rw [if_neg (by omega)];simp only [CF];have hR:=hC j rfl (s.length+1) { e with pos:=e.pos+1,groups:=e.groups+1,outer:=e.outer++[e.inner],inner:=⟨e.pos,e.groups+1,[],[]⟩ } hl (by show _ < _+(e.pos+1);omega) (by show (e.outer++[e.inner]).length+j=12;rw [Adh,List.length_singleton];omega) rfl;have hreg:Cs true s j { e.st with pos:=e.st.pos+AX true,opened:=e.st.opened+1 }=Aq true s (CF s j) false (s.length+1) (⟨e.pos+1,e.groups+1,e.closed,e.marks⟩:ReSt) []:=Abd s j _;rw [hreg];have hR':(match Aq true s (CF s j) false (s.length+1) (⟨e.pos+1,e.groups+1,e.closed,e.marks⟩:ReSt) [] with
    | .error q=>D4 s { e with pos:=e.pos+1,groups:=e.groups+1,outer:=e.outer++[e.inner],inner:=⟨e.pos,e.groups+1,[],[]⟩ }=.error q
    | .ok (st',d)=>∃ b p,Cg (b++[Bs p])=d∧D4 s { e with pos:=e.pos+1,groups:=e.groups+1,outer:=e.outer++[e.inner],inner:=⟨e.pos,e.groups+1,[],[]⟩ }=D4 s (({ e with pos:=e.pos+1,groups:=e.groups+1,outer:=e.outer++[e.inner],inner:=⟨e.pos,e.groups+1,[],[]⟩ }:ES).lv st' b p)∧(s.length≤st'.pos∨chAt s st'.pos 41=true)∧st'.pos≤s.length):=hR
   clear hR hreg;cases hc:Aq true s (CF s j) false (s.length+1) (⟨e.pos+1,e.groups+1,e.closed,e.marks⟩:ReSt) [] with
   | error q=>rw [hc] at hR';exact hR'
   | ok q=>
    obtain ⟨st',d⟩:=q;rw [hc] at hR';obtain ⟨b,p,hd,he,hend,hle⟩:=hR';simp only;rw [he];cases h41':A0 true s st'.pos 41 with
    | true=>
     have c41:chAt s st'.pos 41=true:=h41';have hlt:st'.pos < s.length:=(BE c41).1;rw [if_pos rfl,B9 s _ (show st'.pos < s.length from hlt)];have hs2:Am s (({ e with pos:=e.pos+1,groups:=e.groups+1,outer:=e.outer++[e.inner],inner:=⟨e.pos,e.groups+1,[],[]⟩ }:ES).lv st' b p)=.ok (e.at { st' with pos:=st'.pos+AX true,closed:=st'.closed++[(e.st.opened:Int)+1] } (e.inner.pcs++[.group ((e.st.opened:Int)+1) d])):=by
      unfold Am;rw [show (({ e with pos:=e.pos+1,groups:=e.groups+1,outer:=e.outer++[e.inner],inner:=⟨e.pos,e.groups+1,[],[]⟩ }:ES).lv st' b p).pos=st'.pos from rfl,B7 (show byt s st'.pos≠124 by rw [(BE c41).2];decide),B7 (show byt s st'.pos≠40 by rw [(BE c41).2];decide),c41];simp only [Bool.false_eq_true,if_false,if_true];rw [show (({ e with pos:=e.pos+1,groups:=e.groups+1,outer:=e.outer++[e.inner],inner:=⟨e.pos,e.groups+1,[],[]⟩ }:ES).lv st' b p).outer=e.outer++[e.inner] from rfl,List.getLast?_concat,List.dropLast_concat];simp only;rw [←hd];rfl
     rw [hs2]
    | false=>
     rw [if_neg (by decide)];have hlen:s.length≤st'.pos:=by
      rcases hend with h | h
      ·exact h
      ·rw [show chAt s st'.pos 41=false from h41'] at h;cases h
     simp only;rw [JW s _ (show s.length≤st'.pos from hlen)];have:(e.outer++[e.inner]).isEmpty=false:=by cases e.outer <;> rfl
     show (if (e.outer++[e.inner]).isEmpty=true then _ else _)=_;rw [this];rfl
 ·have h40':chAt s e.pos 40=false:=by simpa using h40
  have ha:Bb true s (CF s k) e.st=Bb true s none e.st:=by
   unfold Bb;rw [show A0 true s e.st.pos 40=false from h40'];rfl
  rw [ha,B9 s e hl];have hst:Am s e=(match Bb true s none e.st with
    | .error q=>.error q
    | .ok (st,d)=>.ok (e.at st (e.inner.pcs++[d]))):=by
   unfold Am;rw [h124,h40',h41,h94,h36,hs];rfl
  rw [hst];cases Bb true s none e.st with
  | error q=>rfl
  | ok q=>rfl
theorem PN (s:List UInt8) (k:Nat) (hC:∀ j,k=j+1→VC s j) (begin:Nat):∀ (n:Nat) (e:ES),e.pos≤s.length→s.length < n+e.pos→e.outer.length+k=12→(Ay e.inner.pcs=true∨repAt true s e.pos=.none)→
  match branchM true s (CF s k) false begin n e.st e.inner.pcs (Ay e.inner.pcs) with
  | .error q=>D4 s e=.error q
  | .ok (st',d)=>∃ p,Bs p=d∧D4 s e=D4 s (e.at st' p):=by
 intro n;induction n with
 | zero=>intro e h1 h2;omega
 | succ n ih=>
  intro e h1 h2 hk hf;have hpos:e.st.pos=e.pos:=rfl;rw [branchM,hpos];by_cases hend:(decide (s.length≤e.pos) || A0 true s e.pos 124 || (A0 true s e.pos 41 && !false))=true
  ·rw [if_pos hend]
   exact ⟨e.inner.pcs,rfl,rfl⟩
  ·rw [if_neg hend]
   simp only [Bool.or_eq_true,decide_eq_true_eq,Bool.not_false,Bool.and_true,not_or,Bool.not_eq_true] at hend;obtain ⟨⟨hlt,h124⟩,h41⟩:=hend;have hl:e.pos < s.length:=by omega
   have c124:chAt s e.pos 124=false:=h124;have c41:chAt s e.pos 41=false:=h41;by_cases h94:chAt s e.pos 94=true
   ·rw [if_pos (by rw [h94];rfl)]
    have hst:Am s e=.ok (e.add (e.pos+1) .start):=by
     unfold Am;rw [c124,B7 (show byt s e.pos≠40 by rw [(BE h94).2];decide),c41,h94];rfl
    have hi:=ih (e.add (e.pos+1) .start) hl (by show _ < n+(e.pos+1);omega) hk (.inl (Ej _ _));rw [B9 s e hl,hst];rw [show (e.add (e.pos+1) .start).inner.pcs=e.inner.pcs++[.start] from rfl,Ej] at hi;exact hi
   ·have c94:chAt s e.pos 94=false:=by simpa using h94
    rw [if_neg (by rw [c94];simp)];by_cases h36:chAt s e.pos 36=true
    ·rw [if_pos (by rw [h36];rfl)]
     have hst:Am s e=.ok (e.add (e.pos+1) .fin):=by
      unfold Am;rw [c124,B7 (show byt s e.pos≠40 by rw [(BE h36).2];decide),c41,c94,h36];rfl
     have hi:=ih (e.add (e.pos+1) .fin) hl (by show _ < n+(e.pos+1);omega) hk (.inl (Ej _ _));rw [B9 s e hl,hst];rw [show (e.add (e.pos+1) .fin).inner.pcs=e.inner.pcs++[.fin] from rfl,Ej] at hi;exact hi
    ·have c36:chAt s e.pos 36=false:=by simpa using h36
     rw [if_neg (by rw [c36];simp)];have hsg:(A0 true s e.pos 123 || A0 true s e.pos 43 || A0 true s e.pos 63 || (true && chAt s e.pos 42))=BU s e.pos:=by
      unfold BU;simp only [A0,if_true,Bool.true_and];cases chAt s e.pos 123 <;> cases chAt s e.pos 43 <;> cases chAt s e.pos 63 <;> cases chAt s e.pos 42 <;> rfl
     rw [hsg];by_cases hfr:(Ay e.inner.pcs && BU s e.pos)=true
     ·rw [if_pos hfr]
      rw [Bool.and_eq_true] at hfr;have hst:Am s e=.error (10,e.pos):=by
       obtain ⟨_,k1,k2,k3,k4,k5⟩:=Fd hfr.2;unfold Am;rw [k1,k2,k3,k4,k5,hfr.2,hfr.1];rfl
      rw [B9 s e hl,hst]
     ·rw [if_neg hfr]
      have hns:BU s e.pos=false:=by
       rcases hf with hf | hf
       ·rw [hf,Bool.true_and] at hfr
        simpa using hfr
       ·exact YJ hf
      have hat:=VD s k hC e hl hk c124 c41 c94 c36 hns;cases ha:Bb true s (CF s k) e.st with
      | error q=>rw [ha] at hat;exact hat
      | ok q=>
       obtain ⟨st1,d1⟩:=q;rw [ha] at hat
       simp only at hat ⊢;have m1:=DD true s (CF s k) (JY s k).1 e.st st1 d1 hl ha;obtain ⟨_,hir,_⟩:=EV true s (CF s k) (JY s k).2 _ _ _ ha;have hrr:=YK s (s.length+1) st1 d1 e e.inner.pcs m1.2 (by omega) hir;cases hr:DC true s (s.length+1) st1 d1 with
       | error q=>rw [hr] at hrr;rw [hat];exact hrr
       | ok q=>
        obtain ⟨st2,d2⟩:=q;rw [hr] at hrr;obtain ⟨hrr,hir2⟩:=hrr;have m2:=FT true s _ _ _ _ _ m1.2 hr;have hfz:Ay (e.inner.pcs++[d2])=false:=Ls hir2;have hi:=ih (e.at st2 (e.inner.pcs++[d2])) m2.2 (by show _ < n+st2.pos;have:e.st.pos=e.pos:=rfl;omega) hk (.inr (Nh true s _ _ _ _ _ hr));rw [show (e.at st2 (e.inner.pcs++[d2])).inner.pcs=e.inner.pcs++[d2] from rfl,hfz] at hi;rw [hat,hrr];exact hi
theorem JZ (s:List UInt8) (k:Nat) (hC:∀ j,k=j+1→VC s j):VC s k:=by
 intro n;induction n with
 | zero=>intro e h1 h2;omega
 | succ n ih=>
  intro e h1 h2 hk hp;rw [Aq];have hb:=PN s k hC e.st.pos (s.length+1) e h1 (by omega) hk (.inl (by rw [hp];rfl));rw [hp] at hb;cases hbr:branchM true s (CF s k) false e.st.pos (s.length+1) e.st [] true with
  | error q=>rw [show Ay []=true from rfl,hbr] at hb;exact hb
  | ok q=>
   obtain ⟨st1,d1⟩:=q;rw [show Ay []=true from rfl,hbr] at hb;obtain ⟨p,hd,he⟩:=hb;have m1:=FU true s (CF s k) (JY s k).1 false e.st.pos _ _ _ _ _ _ h1 hbr;simp only;cases h124:A0 true s st1.pos 124 with
   | true=>
    have c124:chAt s st1.pos 124=true:=h124;have hst:Am s (e.at st1 p)=.ok (e.lv (st1.to (st1.pos+1)) (e.inner.brs++[d1]) []):=by
     unfold Am;rw [show (e.at st1 p).pos=st1.pos from rfl,c124];show Except.ok _=Except.ok _;rw [←hd];rfl
    have hi:=ih (e.lv (st1.to (st1.pos+1)) (e.inner.brs++[d1]) []) (Aci c124) (by show _ < n+(st1.pos+1);have:e.st.pos=e.pos:=rfl;omega) hk rfl;rw [if_pos rfl,he,B9 s _ (show st1.pos < _ from (BE c124).1),hst];exact hi
   | false=>
    rw [if_neg (by decide)];refine ⟨e.inner.brs,p,by rw [hd],he,?_,m1.2⟩;rcases N0 true s (CF s k) e.st.pos _ _ _ _ _ _ hbr with h | h | h
    ·exact .inl h
    ·rw [h124] at h;cases h
    ·exact .inr h
theorem YL (s:List UInt8):∀ k,VC s k:=by
 intro k;induction k with
 | zero=>exact JZ s 0 (fun j hj=>by omega)
 | succ k ih=>exact JZ s (k+1) (fun j hj=>by obtain rfl:k=j:=Nat.succ.inj hj;exact ih)
def Fk:ES:=⟨0,0,[],[],⟨0,0,[],[]⟩,[]⟩
theorem SM (s:List UInt8) (hl:s.length≤250) :
  match AY true s with
  | .error q=>D4 s Fk=.error q
  | .ok (st,d)=>∃ e,D4 s Fk=.ok e∧e.inner.whole=d∧e.marks=st.marks:=by
 rw [Gy true s hl];have hR:=YL s 12 (s.length+1) Fk (Nat.zero_le _) (by show _ < _+0;omega) rfl rfl;have hc:Aq true s (CF s 12) false (s.length+1) Fk.st Fk.inner.brs=Aq true s (some (Cs true s 11)) false (s.length+1) DZ []:=rfl;rw [hc] at hR;cases h:Aq true s (some (Cs true s 11)) false (s.length+1) DZ [] with
 | error q=>rw [h] at hR;exact hR
 | ok q=>
  obtain ⟨st,d⟩:=q;rw [h] at hR;obtain ⟨b,p,hd,he,hend,hle⟩:=hR;unfold Fi;simp only;cases h41:A0 true s st.pos 41 with
  | true=>
   have c41:chAt s st.pos 41=true:=h41;rw [if_pos rfl];simp only;rw [he,B9 s _ (show st.pos < _ from (BE c41).1)];have hst:Am s (Fk.lv st b p)=.error (8,st.pos):=by
    unfold Am;rw [show (Fk.lv st b p).pos=st.pos from rfl,B7 (show byt s st.pos≠124 by rw [(BE c41).2];decide),B7 (show byt s st.pos≠40 by rw [(BE c41).2];decide),c41];rfl
   rw [hst]
  | false=>
   rw [if_neg (by decide)];simp only;have hlen:s.length≤st.pos:=by
    rcases hend with h | h
    ·exact h
    ·rw [show chAt s st.pos 41=false from h41] at h;cases h
   refine ⟨Fk.lv st b p,?_,hd,rfl⟩;rw [he,JW s _ (show s.length≤st.pos from hlen)];rfl
end
section
def LvOk (k:Nat) (v:Lv):Prop:=v.pcs.all inCat=true∧v.brs.all inAlt=true∧v.pcs.length≤k∧v.brs.length≤k∧v.num≤k
theorem LvOk.up {k j:Nat} {v:Lv} (h:LvOk k v) (hj:k≤j):LvOk j v:=⟨h.1,h.2.1,Adg h.2.2.1 hj,Adg h.2.2.2.1 hj,Adg h.2.2.2.2 hj⟩
structure EOk (s:List UInt8) (e:ES):Prop where
 pos:e.pos≤s.length
 inner:LvOk e.pos e.inner
 outer:∀ v∈e.outer,LvOk e.pos v
 marks:e.marks.length≤e.pos
 groups:e.groups≤e.pos
 deep:e.outer.length≤12
 closed:e.closed.length≤e.pos
theorem YM (s:List UInt8):EOk s Fk:=⟨Nat.zero_le _,⟨rfl,rfl,Adf _,Adf _,Adf _⟩,fun _ h=>(by cases h),Adf _,Adf _,Nat.zero_le _,Adf _⟩
theorem Ka (l:List Nd) (h:l.all inCat=true):inAlt (Bs l)=true:=by
 unfold Bs;rw [ED l h];rcases l with _ | ⟨x,_ | ⟨y,ys⟩⟩
 ·rfl
 ·rw [List.all_cons,Bool.and_eq_true] at h
  exact Re h.1
 ·rfl
theorem LvOk.add {k j:Nat} {v:Lv} {d:Nd} (h:LvOk k v) (hd:inCat d=true) (hj:k < j):LvOk j { v with pcs:=v.pcs++[d] }:=
 ⟨BK h.1 hd,h.2.1,by show (v.pcs++[d]).length≤j;rw [Adh];have:=h.2.2.1;simp;omega,by show v.brs.length≤j;have:=h.2.2.2.1;omega,by show v.num≤j;have:=h.2.2.2.2;omega⟩
theorem LvOk.end {k j:Nat} {v:Lv} (h:LvOk k v) (hj:k < j):LvOk j { v with brs:=v.brs++[Bs v.pcs],pcs:=[] }:=
 ⟨rfl,BK h.2.1 (Ka _ h.1),Nat.zero_le _,by show (v.brs++[Bs v.pcs]).length≤j;rw [Adh];have:=h.2.2.2.1;simp;omega,by show v.num≤j;have:=h.2.2.2.2;omega⟩
theorem LvOk.rep {k j:Nat} {v:Lv} {mn mx:Int} (h:LvOk k v) (hj:k < j):LvOk j { v with pcs:=v.pcs.dropLast++[.rep (v.pcs.getLastD .empty) mn mx] }:=by
 refine ⟨BK ?_ rfl,h.2.1,?_,?_,?_⟩
 ·have:=h.1
  rw [List.all_eq_true] at this ⊢;exact fun x hx=>this x (List.dropLast_subset _ hx)
 ·show (v.pcs.dropLast++[_]).length≤j
  rw [Adh,List.length_dropLast];have:=h.2.2.1;simp;omega
 ·show v.brs.length≤j
  have:=h.2.2.2.1;omega
 ·show v.num≤j
  have:=h.2.2.2.2;omega
theorem Is (s:List UInt8) (st st':ReSt) (d:Nd) (h:Bb true s none st=.ok (st',d)):st'.opened=st.opened:=by
 unfold Bb at h;split at h
 ·unfold Fz at h;cases h
 ·split at h
  ·cases h
  ·split at h
   ·split at h
    ·injection h with h;injection h with h1 _;subst h1;rfl
    ·cases h
   ·split at h
    ·injection h with h;injection h with h1 _;subst h1;rfl
    ·split at h
     ·split at h
      ·unfold Dk at h
       split at h
       ·split at h
        ·injection h with h;injection h with h1 _;subst h1;rfl
        ·cases h
       ·split at h
        ·cases h
        ·rename_i x m _
         injection h with h;injection h with h1 _;subst h1;cases m <;> rfl
      ·cases h
     ·injection h with h;injection h with h1 _;subst h1;rfl
theorem It (s:List UInt8) (st st':ReSt) (d:Nd) (h:Bb true s none st=.ok (st',d)):st'.closed=st.closed:=by
 unfold Bb at h;split at h
 ·unfold Fz at h;cases h
 ·split at h
  ·cases h
  ·split at h
   ·split at h
    ·injection h with h;injection h with h1 _;subst h1;rfl
    ·cases h
   ·split at h
    ·injection h with h;injection h with h1 _;subst h1;rfl
    ·split at h
     ·split at h
      ·unfold Dk at h
       split at h
       ·split at h
        ·injection h with h;injection h with h1 _;subst h1;rfl
        ·cases h
       ·split at h
        ·cases h
        ·rename_i x m _
         injection h with h;injection h with h1 _;subst h1;cases m <;> rfl
      ·cases h
     ·injection h with h;injection h with h1 _;subst h1;rfl
theorem AR (s:List UInt8) (e e':ES) (h:EOk s e) (hl:e.pos < s.length) (hs:Am s e=.ok e'):EOk s e':=by
 obtain ⟨hm,hp⟩:=H8 s e e' hl hs;unfold Am at hs;split at hs
 ·injection hs with hs;subst hs
  exact ⟨hp,h.inner.end hm,fun v hv=>(h.outer v hv).up (Adj hm),Adg h.marks (Adj hm),Adg h.groups (Adj hm),h.deep,Adg h.closed (Adj hm)⟩
 ·split at hs
  ·split at hs
   ·cases hs
   ·rename_i h12
    injection hs with hs;subst hs;refine ⟨hp,⟨rfl,rfl,Nat.zero_le _,Nat.zero_le _,Nat.succ_le_succ h.groups⟩,fun v hv=>?_,Adg h.marks (Adj hm),Nat.succ_le_succ h.groups,?_,Adg h.closed (Adj hm)⟩
    ·rcases Adp.1 hv with hv | hv
     ·exact (h.outer v hv).up (Adj hm)
     ·rw [List.mem_singleton] at hv;subst hv;exact h.inner.up (Adj hm)
    ·show (e.outer++[e.inner]).length≤12
     rw [Adh,List.length_singleton];have:=h.deep;omega
  ·split at hs
   ·split at hs
    ·cases hs
    ·rename_i v hv
     injection hs with hs;subst hs;have hmem:v∈e.outer:=List.mem_of_getLast? hv;refine ⟨hp,(h.outer v hmem).add rfl hm,fun u hu=>(h.outer u (List.dropLast_subset _ hu)).up (Adj hm),Adg h.marks (Adj hm),Adg h.groups (Adj hm),?_,?_⟩
     ·show e.outer.dropLast.length≤12
      rw [List.length_dropLast];have:=h.deep;omega
     ·show (e.closed++[(e.inner.num:Int)]).length≤e.pos+1
      rw [Adh,List.length_singleton];have:=h.closed;omega
   ·split at hs
    ·injection hs with hs;subst hs
     exact ⟨hp,h.inner.add rfl hm,fun v hv=>(h.outer v hv).up (Adj hm),Adg h.marks (Adj hm),Adg h.groups (Adj hm),h.deep,Adg h.closed (Adj hm)⟩
    ·split at hs
     ·injection hs with hs;subst hs
      exact ⟨hp,h.inner.add rfl hm,fun v hv=>(h.outer v hv).up (Adj hm),Adg h.marks (Adj hm),Adg h.groups (Adj hm),h.deep,Adg h.closed (Adj hm)⟩
     ·split at hs
      ·split at hs
       ·cases hs
       ·split at hs
        ·injection hs with hs;subst hs
         exact ⟨hp,h.inner.rep hm,fun v hv=>(h.outer v hv).up (Adj hm),Adg h.marks (Adj hm),Adg h.groups (Adj hm),h.deep,Adg h.closed (Adj hm)⟩
        ·cases hs
      ·split at hs
       ·cases hs
       ·rename_i st d ha
        injection hs with hs;subst hs;have hmk:=N5 true s none (fun f hf=>(by cases hf)) (fun f hf=>(by cases hf)) e.st st d hl ha;obtain ⟨_,_,hic⟩:=EV true s none (fun f hf=>by cases hf) _ _ _ ha;have hop:st.opened=e.groups:=Is s e.st st d ha;refine ⟨hp,h.inner.add hic hm,fun v hv=>(h.outer v hv).up (Adj hm),?_,?_,h.deep,?_⟩
        ·show st.marks.length≤st.pos
         unfold OC at hmk;have h1:=h.marks;have h2:e.st.pos=e.pos:=rfl;have h3:e.st.marks=e.marks:=rfl;rw [h2,h3] at hmk;omega
        ·show st.opened≤st.pos
         rw [hop];have:=h.groups;have hm':e.pos < st.pos:=hm;omega
        ·show st.closed.length≤st.pos
         rw [It s e.st st d ha];have:=h.closed;have hm':e.pos < st.pos:=hm;show e.closed.length≤st.pos;omega
end
end Go.Proofs.YteilldmmihiijaaGreatDoor
