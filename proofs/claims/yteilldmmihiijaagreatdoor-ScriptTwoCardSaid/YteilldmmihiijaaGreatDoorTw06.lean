/- Texts. -/
import Derived.Test.YteilldmmihiijaaGreatDoorTw05
import Derived.Defers
import Derived.Recover
import Derived.Tactics2
import Derived.Deep.CutBlock
import Derived.Laws.Cover4
set_option linter.unusedSimpArgs false
set_option linter.unusedVariables false
set_option maxHeartbeats 8000000
set_option maxRecDepth 1000000
namespace Go.Proofs.YteilldmmihiijaaGreatDoor
open Go.Lib renaming hid→Ad5
open List renaming setIfInBounds_toArray→Ad6,getElem_cons_zero→Ad7,set_cons_zero→Aea,set_cons_succ→Aeb,length_append→Aee,mem_append→Aem
open Nat renaming le_refl→Aec,le_trans→Aed,lt_of_lt_of_le→Aef,le_of_lt→Aeg
open Go.RowKit.Below renaming refl→Aeh,heap_setCell→Aei
open Go.IntWalk renaming i64_in→Aej
open Go.World renaming cell?_of_block→Aek
section
open Go Go.RowKit
def chTail (s:List UInt8) (sub:Option (ReSt→ReRes (ReSt × Nd))) (m:Nat) (st:ReSt) (l:List Nd):ReRes (ReSt × Nd):=
 if BM s st.pos 124 then As false s sub false m ((st.mark 124).to (st.pos+2)) l else .ok (st,Cl l)
theorem L5 (s:List UInt8) (sub:Option (ReSt→ReRes (ReSt × Nd))) (n:Nat) (st:ReSt) (l:List Nd):As false s sub false (n+1) st l=match branchM false s sub false st.pos (s.length+1) st [] true with
  | .error e=>.error e
  | .ok q=>chTail s sub n q.1 (l++[q.2]):=by
 rw [As];cases branchM false s sub false st.pos (s.length+1) st [] true with
 | error e=>rfl
 | ok q=>rfl
theorem NdRO.single {B lo p:Nat} {mv cv:Value} {w:World} {d:Nd} {u:Value} {s:ByteArray} {st:ReSt} {es:List Bool} {dep:Nat} (hR:Rd B p w s st es dep mv cv) (hlo:lo≤w.heap.size) (hu:Cz lo p mv cv w d u) (hu1:u.oneCell'=true) :
  NdRO lo p mv cv (w.alloc (.cells #[u] 38)) [d] (.slice (some ⟨w.heap.size,0,none⟩) 1 1) [u]:=by
 have hpl:=hR.blk.lt;have hA:=(Aeh w.heap.size w).alloc (Aec _) (.cells #[u] 38);refine ⟨rfl,World.ownsRow_lit w #[u] 1 hlo (by decide) rfl,fun i h1 h2=>?_,fun x hx=>by simp at hx;subst hx;exact hu1,fun b hb=>?_⟩
 ·obtain rfl:i=0:=by simp at h1;exact h1
  exact hu.keep hA.size (fun b hb hlt=>⟨⟨hb.1,hb.2,fun hv=>by simp [Value.ownBlock] at hv;omega⟩,fun o=>hA.cell (p:=⟨b,o,none⟩) hlt⟩)
 ·simp [Value.ownBlock] at hb;subst hb;exact ⟨by omega,fun hm=>by have:=AB hR.mo _ hm;omega,fun hm=>by have:=AB hR.co _ hm;omega⟩
structure ChLoop (B p:Nat) (s:ByteArray) (dep:Nat) (mv cv:Value) (w:World) (sub:Option (ReSt→ReRes (ReSt × Nd))) (R:ReRes (ReSt × Nd)) (v:Value) (wr:World) (st':ReSt) (mv' cv':Value) (us:List Value) (l:List Nd) (m:Nat) (es':List Bool):Prop where
 r:R=chTail s.data.toList sub m st' l
 m:s.size≤m+st'.pos
 rd:Rd B p wr s st' es' dep mv' cv'
 st:RStep p w mv cv wr mv' cv'
 row:NdRO w.heap.size p mv' cv' wr l v us
 few:l.length≤st'.pos+1
 all:l.all inAlt=true
theorem RY {B p:Nat} {s:ByteArray} {dep:Nat} {mv cv:Value} {w:World} {sub:Option (ReSt→ReRes (ReSt × Nd))} {R:ReRes (ReSt × Nd)} {v:Value} {wr:World} {st':ReSt} {mv' cv':Value} {us:List Value} {l:List Nd} {m':Nat} {es':List Bool}
  (hL:ChLoop B p s dep mv cv w sub R v wr st' mv' cv' us l (m'+1) es') {wk:World} {mvk:Value} (hSk:RStep p wr mv' cv' wk mvk cv')
  {w2 w3:World} {mv2 cv2 v2 v3:Value} {q:ReSt × Nd} {es2:List Bool} (hS2:RStep p wk mvk cv' w2 mv2 cv2) (hR2:Rd B p w2 s q.1 es2 dep mv2 cv2) (hrow2:NdRO w.heap.size p mv2 cv2 w2 l v us) (hN2:Cz wk.heap.size p mv2 cv2 w2 q.2 v2) (hv2:v2.oneCell'=true)
  (hown:w3.ownsRow w.heap.size 38 1 v3 (l.length+1) (us++[v2])) (hgrow:(w2.alloc (.cells #[v2] 38)).grownBy w3 v.ownBlock) (hat:v3.ownBlock=v.ownBlock∨v3.ownBlock=some (w2.alloc (.cells #[v2] 38)).heap.size)
  (hF:R=chTail s.data.toList sub m' q.1 (l++[q.2])) (hM:st'.pos+2≤q.1.pos∧inAlt q.2=true) :
  ChLoop B p s dep mv cv w sub R v3 w3 q.1 mv2 cv2 (us++[v2]) (l++[q.2]) m' es2:=by
 have hS9:=hL.st.trans hSk;have hsz2:w.heap.size≤w2.heap.size:=Aed hS9.size hS2.size;have hA:=(Aeh w2.heap.size w2).alloc (Aec _) (.cells #[v2] 38);have hRA:=hR2.below hA;have hrowA:=hrow2.step (RStep.of_below hA);have hlt:=fun b hb=>(hL.row.row.lt b hb).2
 have hm:=hL.m;have hfw:=hL.few;have hM1:=hM.1;refine ⟨hF,by omega,hRA.grown hgrow hrowA.off,(hS9.trans hS2).after (FQ hsz2 hrow2.row hgrow),?_,by rw [Aee];simp;omega,BO hL.all hM.2⟩;refine hrowA.push hRA ?_ hv2 hown hgrow hat
 refine hN2.keep hA.size (fun b hb hlt2=>⟨⟨Aed hS9.size hb.1,hb.2,fun hv=>?_⟩,fun o=>hA.cell (p:=⟨b,o,none⟩) hlt2⟩);have h1:=hlt b hv;have h2:=hSk.size;have h3:=hb.1;omega
theorem L6 {B p:Nat} {s:ByteArray} {st:ReSt} {es:List Bool} {dep:Nat} {mv cv:Value} (w:World) (h:Rd B p w s st es dep mv cv)
  (sub:Option (ReSt→ReRes (ReSt × Nd))) (hmv:D7 s.data.toList sub) (hok:GX sub) (hG:Gl w) (hB:glN≤B) (hgr:∀ st es,E6 B p s st es dep sub) :
  Calls Tryz.prog 115 #[.pointer (some ⟨p,0,none⟩)] w fun e w'=>BJ (As false s.data.toList sub false (s.data.toList.length+1) st []) B p s dep mv cv w e w':=by
 have hsm:=h.small;have hsl:s.data.toList.length=s.size:=by simp
 obtain ⟨i0,hi,hz0,hz1,hz2⟩:=DR;obtain ⟨R,hR0⟩:∃ R,R=As false s.data.toList sub false (s.data.toList.length+1) st []:=⟨_,rfl⟩;rw [←hR0];have hR1:=hR0.trans (L5 _ _ _ _ _);have HSL:=Ad5 hsl;have HGl:=Ad5 hG;have H:=Ad5 h;have hbr:=Kd w h sub hmv hok hG hB hgr;have HBA:=Ad5 (fun (st:ReSt) (es:List Bool) (mv cv:Value) (w:World) (h:Rd B p w s st es dep mv cv) (hG:Gl w)=>Kd w h sub hmv hok hG hB hgr);have HBT:=Ad5 (fun (st st':ReSt) (d:Nd) h=>(GY false s.data.toList sub hok false st.pos (s.data.toList.length+1) st [] true st' d st rfl rfl h).2);have HBM:=Ad5 (fun (st st':ReSt) (d:Nd) hl h=>Ge false s.data.toList sub hmv false st.pos (s.data.toList.length+1) st [] true st' d hl h);clear hR0 hsl hG h hgr hok hmv;go_enter Tryz.func115,Tryz.ntmps115;go_wp2_with fail
 refine hbr.mono ?_;intro e w1 hA;obtain ⟨mv1,cv1,hS1,hr⟩:=hA;have HS1:=Ad5 hS1;clear hS1 hbr;cases hP:branchM false s.data.toList sub false st.pos (s.data.toList.length+1) st [] true with
 | error q=>
  rw [hP] at hr hR1;obtain rfl:e=_:=hr;have HF:=Ad5 hR1;clear hR1 hP;go_wp2_with fail
  exact ⟨rfl,A1 HF.out HS1.out rfl⟩
 | ok q=>
  rw [hP] at hr hR1;obtain ⟨es1,v1,rfl,hRd1,hN1⟩:=hr;have HF:=Ad5 hR1;have HRd1:=Ad5 hRd1;have HN1:=Ad5 hN1;have HA1:=Ad5 (HBT.out _ _ _ hP);obtain ⟨nn,hnn⟩:=hN1;clear hR1 hP hRd1;rcases Ax hnn with ⟨T,x,rfl⟩ | rfl
  all_goals
   clear hnn;go_wp2_with fail
   go_loopw [3] (fun v wr=>∃ (st':ReSt) (mv' cv':Value) (us:List Value) (l:List Nd) (m:Nat) (es':List Bool),ChLoop B p s dep mv cv w sub R v wr st' mv' cv' us l m es') (fun _ wr=>s.size - (intOf ((wr.cell? ⟨p,1,none⟩).getD undef)).toNat)
   case atStart=>
    have hA:=(Aeh w1.heap.size w1).alloc (Aec _);refine ⟨q.1,mv1,cv1,_,[q.2],_,es1,HF.out,?_,HRd1.out.below (hA _),HS1.out.trans (RStep.of_below (hA _)),NdRO.single HRd1.out HS1.out.size HN1.out rfl,?_,?_⟩
    ·rw [HSL.out];omega
    ·show 1≤q.1.pos+1;omega
    ·simp [HA1.out]
   case round=>
    obtain ⟨st',mv',cv',us,l,m,es',hL⟩:=hrel;have hR:=hL.rd;obtain ⟨c0,c1,c2,c3,c4,z1,z2,z3,z4⟩:=hR.cells;have HL:=Ad5 hL;clear hL;cases h124:BM s.data.toList st'.pos 124 with
    | false=>
     have hsk:=JV ⟨#[92,124]⟩ wr hR ((BN _ _ 124 (by decide)).trans h124);have HE:=Ad5 h124;clear h124 hR;go_wp2_with fail
     refine hsk.mono ?_;rintro e w4 ⟨rfl,n,rfl⟩;have hbn:=below_drewN (Aeh wr.heap.size wr) n;have hSn:=RStep.of_below (p:=p) (mv:=mv') (cv:=cv') hbn;have hRn:=HL.out.rd.below hbn;have hrow:=HL.out.row.step hSn;obtain ⟨a,cap,hv,hrw⟩:=hrow.parts;subst hv;have hjf:(AJ l).length≤4000000:=by
      rw [Ip _ HL.out.all];have:=HL.out.few;have:=hRn.pos;omega
     have hj:=Tx l a cap (wr.drewN n) hrw hjf;have HRn:=Ad5 hRn;have HS9:=Ad5 (HL.out.st.trans hSn);clear hbn hSn hRn hrow hrw hjf hsk c0 c1 c2 c3 c4 z1 z2 z3 z4;go_wp2_with fail
     refine hj.mono ?_;rintro e w5 ⟨v5,rfl,hn5,b5⟩;have HN5:=Ad5 hn5;have HB5:=Ad5 b5;clear hn5 b5 hj;go_wp2_with fail
     go_ret;have hlo:w.heap.size≤(wr.drewN n).heap.size:=HS9.out.size;have hB5:Below w.heap.size (wr.drewN n) w5:=HB5.out.mono hlo;exact AM (HL.out.r.trans (by unfold chTail;rw [HE.out];rfl)) (HS9.out.after hB5) (HRn.out.below HB5.out) (FP HRn.out hlo HB5.out HN5.out)
    | true=>
     have hsk:=Iv 124 wr hR ((BN _ _ 124 (by decide)).trans h124);have hes:=Fd h124;rw [HSL.out] at hes;have hm0:0 < m:=by have:=HL.out.m;omega
     obtain ⟨m',rfl⟩:∃ m',m=m'+1:=⟨m - 1,by omega⟩;have hstep:R=As false s.data.toList sub false (m'+1) ((st'.mark 124).to (st'.pos+2)) l:=HL.out.r.trans (by unfold chTail;rw [h124];rfl);have hstep2:=hstep.trans (L5 _ _ _ _ _);have hps2:=show st'.pos+2≤s.data.toList.length by rw [HSL.out];omega
     clear hm0 h124 hR hes hstep;go_wp2_with fail
     refine hsk.mono ?_;rintro e w4 ⟨rfl,mv4,hR4,hS4⟩;have HS4:=Ad5 hS4;have hbr2:=HBA.out _ _ _ _ _ hR4 (HGl.out.step (HL.out.st.trans hS4) H.out hB);have HRow4:=Ad5 (HL.out.row.step hS4);clear hS4 hR4 hsk c0 c1 c2 c3 c4 z1 z2 z3 z4;generalize hst4:(st'.mark 124).to (st'.pos+2)=st4 at *;have hp4:st4.pos=st'.pos+2:=by rw [←hst4];rfl
     clear hst4;have HP4:=Ad5 hp4;clear hp4;go_wp2_with fail
     refine hbr2.mono ?_;intro e w2 hA2;obtain ⟨mv2,cv2,hS2,hr2⟩:=hA2;have HS2:=Ad5 hS2;clear hS2 hbr2;cases hP2:branchM false s.data.toList sub false st4.pos (s.data.toList.length+1) st4 [] true with
     | error q2=>
      rw [hP2] at hr2 hstep2;obtain rfl:e=_:=hr2;have HF2:=Ad5 hstep2;clear hstep2 hP2;go_wp2_with fail
      exact ⟨rfl,A1 HF2.out ((HL.out.st.trans HS4.out).trans HS2.out) rfl⟩
     | ok q2=>
      rw [hP2] at hr2 hstep2;obtain ⟨es2,v2,rfl,hR2,hN2⟩:=hr2;have hmm:=HBM.out _ _ _ (by rw [HP4.out];exact hps2) hP2;have HF2:=Ad5 hstep2;have HMM:=Ad5 (show st'.pos+2≤q2.1.pos∧inAlt q2.2=true from ⟨by have:=hmm.1;rw [HP4.out] at this;exact this,HBT.out _ _ _ hP2⟩);have HR2:=Ad5 hR2;have hrow2:=HRow4.out.step HS2.out;have HRow2:=Ad5 hrow2;have hfw:=HL.out.few;have hq2:=hR2.pos;have hm3:=HMM.out.1;have hm1:l.length+1≤maxLen:=by unfold maxLen;omega
      have hm2:(l.length+1) * 16≤140737488355328:=by omega
      have hown2:=hrow2.row;have hsz2:w.heap.size≤w2.heap.size:=Aed (HL.out.st.trans HS4.out).size HS2.out.size;have HN2:=Ad5 hN2;obtain ⟨nn,hnn⟩:=hN2;clear hstep2 hP2 hmm hR2 hrow2 hq2 hfw hm3 hps2;rcases Ax hnn with ⟨T,x,rfl⟩ | rfl
      all_goals
       clear hnn;go_wp2_with (at_builtin;refine Af _ rfl _ _ 84 rfl w.heap.size 38 i0 .nilIface 1 16 Tryz.underlying84 hi hz0 hz1 hz2 rfl (by decide) _ _ _ rfl (hown2.alloc _) (some ⟨w2.heap.size,0,none⟩) 1 1 [_] rfl rfl (fun _=>⟨_,rfl,Au (by simp) _ _⟩) (by intro y hy;simp at hy;subst hy;rfl) hm1 hm2 (by simp;omega) ?_;intro v3 w3 hown hgrow hat)
       have HO:=Ad5 hown;have HGr:=Ad5 hgrow;have HAt:=Ad5 hat
       clear hown hgrow hat;go_roundw
       case rel=>
        exact ⟨q2.1,mv2,cv2,_,_,m',es2,RY HL.out HS4.out HS2.out HR2.out HRow2.out HN2.out rfl HO.out HGr.out HAt.out HF2.out HMM.out⟩
       case measure=>
        have h1:=(RY HL.out HS4.out HS2.out HR2.out HRow2.out HN2.out rfl HO.out HGr.out HAt.out HF2.out HMM.out).rd.cells.c1;have h2:=HL.out.rd.cells.c1;rw [h1,h2];have h3:=HMM.out.1;have h4:=HR2.out.pos;simp only [Option.getD_some,intOf];omega
theorem Ty:∃ i,Tryz.prog.info? 4=some i∧i.zero=some (.bool false)∧i.size=1∧i.bytes=1:=by
 have h:(Tryz.prog.info? 4).map (fun i=>(i.zero,i.size,i.bytes))=some (some (.bool false),1,1):=by kernel_rfl
 obtain ⟨i,hi,he⟩:=Option.map_eq_some_iff.1 h;injection he with h1 h2;injection h2 with h2 h3;exact ⟨i,hi,h1,h2,h3⟩
theorem Cz.low {lo lo' p:Nat} {mv cv:Value} {w:World} {d:Nd} {u:Value} (h:Cz lo p mv cv w d u) (hl:lo'≤lo):Cz lo' p mv cv w d u:=
 h.keep (Aec _) (fun _ hb _=>⟨⟨Aed hl hb.1,hb.2⟩,fun _=>rfl⟩)
theorem Rd.deep {B p:Nat} {w:World} {s:ByteArray} {st:ReSt} {es:List Bool} {dep:Nat} {mv cv:Value} (h:Rd B p w s st es dep mv cv) (k:Nat) :
  Rd B p (w.setCell ⟨p,4,none⟩ (.int .i64 (k:Int))) s st es k mv cv∧RStep p w mv cv (w.setCell ⟨p,4,none⟩ (.int .i64 (k:Int))) mv cv:=by
 have hset:∀ b,b≠p→(w.setCell ⟨p,4,none⟩ (.int .i64 (k:Int))).heap[b]?=w.heap[b]?:=fun b hb=>Aei _ _ _ _ (fun e=>hb e)
 have hsz:(w.setCell ⟨p,4,none⟩ (.int .i64 (k:Int))).heap.size=w.heap.size:=by simp [World.setCell]
 refine ⟨{ h with blk:=(h.blk.set 4 (.int .i64 (k:Int))),mo:=?_,co:=?_ },?_⟩
 ·exact h.mo.kept ⟨rfl,rfl,rfl,by rw [hsz];exact Aec _,fun b _ hb=>hset b (fun e=>hb (by rw [e]))⟩ (Or.inr h.mp)
 ·exact h.co.kept ⟨rfl,rfl,rfl,by rw [hsz];exact Aec _,fun b _ hb=>hset b (fun e=>hb (by rw [e]))⟩ (Or.inr h.cp)
 ·exact ⟨rfl,rfl,rfl,by rw [hsz];exact Aec _,fun b _ hp h1 h2=>⟨hset b hp,h1,h2⟩⟩
theorem Rd.opens {B p:Nat} {W w6:World} {s:ByteArray} {st:ReSt} {es:List Bool} {dep:Nat} {mv cv v6:Value} (h:Rd B p W s st es dep mv cv)
  (hown:w6.ownsRow B 4 1 v6 (es.length+1) (es.map Value.bool++[.bool false])) (hg:W.grownBy w6 cv.ownBlock) (hat:v6.ownBlock=cv.ownBlock∨v6.ownBlock=some W.heap.size) (hfew:es.length+1≤st.pos) :
  Rd B p (w6.setCell ⟨p,3,none⟩ v6) s { st with opened:=st.opened+1 } (es++[false]) dep mv v6∧RStep p W mv cv (w6.setCell ⟨p,3,none⟩ v6) mv v6:=by
 have hpl:=h.blk.lt;have hml:=fun b hb=>AB h.mo b hb
 have hset:∀ b,b≠p→(w6.setCell ⟨p,3,none⟩ v6).heap[b]?=w6.heap[b]?:=fun b hb=>Aei _ _ _ _ (fun e=>hb e)
 have hsz:(w6.setCell ⟨p,3,none⟩ v6).heap.size=w6.heap.size:=by simp [World.setCell]
 have hv6p:v6.ownBlock≠some p:=by
  rcases hat with e | e
  ·rw [e];exact h.cp
  ·rw [e];intro he;injection he with he;omega
 have hb6:Blk w6 p #[.string s,.int .i64 (st.pos:Int),mv,cv,.int .i64 (dep:Int)] 202:=by
  have h1:=h.blk;unfold Blk at h1 ⊢;rw [hg.block p hpl (fun e=>h.cp e.symm)];exact h1
 have hmo6:=h.mo.kept hg (by
  rcases hc:mv.ownBlock with _ | b
  ·exact .inl rfl
  ·refine .inr (fun e=>?_);exact h.mc b hc e.symm)
 refine ⟨{ blk:=hb6.set 3 v6,mo:=?_,co:=?_,rr:=?_,bp:=h.bp,mp:=h.mp,cp:=hv6p,mc:=?_,pos:=h.pos,small:=h.small,few:=⟨h.few.1,by simp;exact hfew⟩ },?_⟩
 ·exact hmo6.kept ⟨rfl,rfl,rfl,by rw [hsz];exact Aec _,fun b _ hb=>hset b (fun e=>hb (by rw [e]))⟩ (Or.inr h.mp)
 ·rw [Aee,List.map_append];exact hown.kept ⟨rfl,rfl,rfl,by rw [hsz];exact Aec _,fun b _ hb=>hset b (fun e=>hb (by rw [e]))⟩ (Or.inr hv6p)
 ·exact LY h.rr
 ·intro b hb;rcases hat with e | e
  ·rw [e];exact h.mc b hb
  ·rw [e];intro he;injection he with he;have:=hml b hb;omega
 ·refine ⟨hg.os,hg.tape,hg.output,by rw [hsz];exact hg.size,fun b hb hp h1 h2=>⟨?_,h1,?_⟩⟩
  ·rw [hset b hp];exact hg.block b hb (fun e=>h2 e.symm)
  ·rcases hat with e | e
   ·rw [e];exact h2
   ·rw [e];intro he;injection he with he;omega
theorem Rd.closes {B p g cap:Nat} {w:World} {s:ByteArray} {st:ReSt} {es:List Bool} {dep:Nat} {mv:Value} (h:Rd B p w s st es dep mv (.slice (some ⟨g,0,none⟩) es.length cap)) (j:Nat) (hj:j < es.length) :
  Rd B p (w.setCell ⟨g,j,none⟩ (.bool true)) s { st with closed:=st.closed++[((j+1:Nat):Int)] } (es.set j true) dep mv (.slice (some ⟨g,0,none⟩) es.length cap)∧RStep p w mv (.slice (some ⟨g,0,none⟩) es.length cap) (w.setCell ⟨g,j,none⟩ (.bool true)) mv (.slice (some ⟨g,0,none⟩) es.length cap):=by
 have hst:=World.ownsRow.stored h.co j (.bool true);have hgp:g≠p:=fun e=>h.cp (by rw [e];rfl)
 have hset:∀ b,b≠g→(w.setCell ⟨g,j,none⟩ (.bool true)).heap[b]?=w.heap[b]?:=fun b hb=>Aei _ _ _ _ (fun e=>hb e)
 have hsz:(w.setCell ⟨g,j,none⟩ (.bool true)).heap.size=w.heap.size:=by simp [World.setCell]
 refine ⟨{ h with blk:=h.blk.set_other _ hgp _,mo:=?_,co:=?_,rr:=?_,few:=⟨h.few.1,by rw [List.length_set];exact h.few.2⟩ },?_⟩
 ·exact h.mo.kept hst.2 (by
   rcases hc:mv.ownBlock with _ | b
   ·exact .inl rfl
   ·refine .inr (fun e=>?_);exact h.mc b hc (by rw [e];rfl))
 ·rw [List.length_set,List.map_set];exact hst.1
 ·have:=Nt h.rr (n:=((j+1:Nat):Int)) (by omega) (by omega);rw [show (((j+1:Nat):Int) - 1).toNat=j by omega] at this;exact this
 ·exact ⟨rfl,rfl,rfl,by rw [hsz];exact Aec _,fun b _ _ h1 h2=>⟨hset b (fun e=>h2 (by rw [e];rfl)),h1,h2⟩⟩
theorem Qm {B p:Nat} {s:ByteArray} {st:ReSt} {es:List Bool} {mv cv:Value} (w:World) (h:Rd B p w s (st.to (st.pos+2)) es 12 mv cv) :
  Calls Tryz.prog 169 #[.pointer (some ⟨p,0,none⟩),.int .i64 (st.pos:Int)] w fun e w'=>BJ (.error (4,st.pos)) B p s 12 mv cv w e w':=by
 obtain ⟨c0,c1,c2,c3,c4,z1,z2,z3,z4⟩:=h.cells;clear h;go_enter Tryz.func169,Tryz.ntmps169;go_wp2_with fail
 exact ⟨rfl,A1 rfl (RStep.refl _ _ _ _) rfl⟩
def Ke (s:List UInt8) (st:ReSt) (F:ReRes (ReSt × Nd)):ReRes (ReSt × Nd):=match F with
 | .error e=>.error e
 | .ok q=>if BM s q.1.pos 41 then .ok ({ q.1 with pos:=q.1.pos+2,closed:=q.1.closed++[(st.opened:Int)+1] },.group ((st.opened:Int)+1) q.2) else .error (8,st.pos)
theorem Zo (s:List UInt8) (f:ReSt→ReRes (ReSt × Nd)) (st:ReSt):F9 false s (some f) st=Ke s st (f { st with pos:=st.pos+2,opened:=st.opened+1 }):=by
 unfold F9 Ke;simp only [AY,A2,Bool.false_eq_true,if_false];cases f { st with pos:=st.pos+2,opened:=st.opened+1 } with
 | error e=>rfl
 | ok q=>rfl
theorem Wv {B p:Nat} {s:ByteArray} {st:ReSt} {es:List Bool} {dep:Nat} {mv cv:Value} (w:World) (h:Rd B p w s (st.to (st.pos+2)) es dep mv cv) (hd:dep < 12) (hfe:es.length≤st.pos) (hG:Gl w) (hB:glN≤B)
  (F:ReRes (ReSt × Nd)) (hF:∀ st' d es',F=.ok (st',d)→RR es' (st'.opened:Int) st'.closed→es.length+1≤es'.length)
  (hrx:∀ (w2:World) (mv cv:Value),Gl w2→Rd B p w2 s { st with pos:=st.pos+2,opened:=st.opened+1 } (es++[false]) (dep+1) mv cv→Calls Tryz.prog 115 #[.pointer (some ⟨p,0,none⟩)] w2 fun e w'=>BJ F B p s (dep+1) mv cv w2 e w') :
  Calls Tryz.prog 169 #[.pointer (some ⟨p,0,none⟩),.int .i64 (st.pos:Int)] w fun e w'=>BJ (Ke s.data.toList st F) B p s dep mv cv w e w':=by
 have hsm:=h.small;have hpp:=h.pos;have hop:(st.opened:Int)=(es.length:Int):=h.rr.1;obtain ⟨i0,hi,hz0,hz1,hz2⟩:=Ty;obtain ⟨R,hR0⟩:∃ R,R=Ke s.data.toList st F:=⟨_,rfl⟩;rw [←hR0];have HR0:=Ad5 hR0;have HGl:=Ad5 hG;have H:=Ad5 h;have HFE:=Ad5 hF;have HRX:=Ad5 hrx;have hdp:=h.deep (dep+1);have HD:=Ad5 hdp;have hpl:=h.blk.lt;have hbp:=h.bp;obtain ⟨c0,c1,c2,c3,c4,z1,z2,z3,z4⟩:=h.cells;have e0:((dep:Int) == 12)=false:=by rw [beq_eq_false_iff_ne];omega
 have Wd:IntKind.i64.wrap ((dep:Int)+1)=((dep+1:Nat):Int):=by rw [Aej _ (by omega)];omega
 have hpp2:st.pos+2≤s.size:=hpp;have hm1:es.length+1≤maxLen:=by unfold maxLen;omega
 have hm2:(es.length+1) * 1≤140737488355328:=by omega
 have hcp:=h.cp;have HO:=Ad5 hop;clear hR0 hG h hF hrx hdp hpp hop;go_enter Tryz.func169,Tryz.ntmps169;go_upto_region 4 with fail;have hd1:Rd B p (w.setCell ⟨p,4,none⟩ (.int .i64 ((dep:Int)+1))) s (st.to (st.pos+2)) es (dep+1) mv cv∧RStep p w mv cv (w.setCell ⟨p,4,none⟩ (.int .i64 ((dep:Int)+1))) mv cv:=HD.out;generalize w.setCell ⟨p,4,none⟩ (.int .i64 ((dep:Int)+1))=w1 at *;obtain ⟨hR1,hS1⟩:=hd1;have HR1:=Ad5 hR1;have HS1:=Ad5 hS1;clear c0 c1 c2 c3 c4 z1 z2 z3 z4 HD hS1 hpl;obtain ⟨c0,c1,c2,c3,c4,z1,z2,z3,z4⟩:=hR1.cells;have hpl:=hR1.blk.lt;have hA:=(Aeh w1.heap.size w1).alloc (Aec _) (.cells #[.bool false] 4);have HA:=Ad5 hA;clear hA hR1;go_wp2_with (at_builtin;refine Af _ rfl _ _ 200 rfl B 4 i0 (.bool false) 1 1 Tryz.underlying200 hi hz0 hz1 hz2 rfl (by decide) cv es.length (es.map Value.bool) rfl (Ag HR1.out.co HA.out) (some ⟨w1.heap.size,0,none⟩) 1 1 [.bool false] rfl rfl (fun _=>⟨_,rfl,Au rfl _ _⟩) (by intro y hy;simp at hy;subst hy;rfl) hm1 hm2 (by simp;omega) ?_;intro v6 w6 hown6 hgrow6 hat6;have HM:=Ad5 ((HR1.out.below HA.out).opens hown6 hgrow6 hat6 (by show es.length+1≤st.pos+2;omega));have hfz:w6.frozen? ⟨p,3,none⟩=false:=(hgrow6.frozen_far ⟨p,3,none⟩ (by simp;omega) (fun e=>hcp e.symm)).trans ((HR1.out.below HA.out).blk.frozen 3);have hce:w6.cell? ⟨p,3,none⟩=some cv:=(hgrow6.cell_far ⟨p,3,none⟩ (by simp;omega) (fun e=>hcp e.symm)).trans (((HR1.out.below HA.out).blk.cell 3).trans rfl);obtain ⟨g,gcap,hv6,_,_⟩:=World.ownsRow.form hown6 (Nat.succ_pos _);subst hv6;clear hown6 hgrow6 hat6)
 obtain ⟨hRA,hSA⟩:=HM.out;have HSB:=Ad5 ((HS1.out.trans (RStep.of_below (p:=p) (mv:=mv) (cv:=cv) HA.out)).trans hSA);refine (HRX.out _ _ _ (HGl.out.step HSB.out H.out hB) hRA).mono ?_;intro e w7 hX;obtain ⟨mv7,cv7,hS7,hr⟩:=hX;have HS7:=Ad5 (HSB.out.trans hS7);have HLo:=Ad5 (HSB.out.size);clear c0 c1 c2 c3 c4 z1 z2 z3 z4 hRA hSA hS7 hcp HM hce hfz hm1 hm2;cases F with
 | error q=>
  obtain rfl:e=_:=hr;go_wp2_with fail
  exact ⟨rfl,A1 HR0.out HS7.out rfl⟩
 | ok q=>
  obtain ⟨es7,v7,rfl,hR7,hN7⟩:=hr;have HR7:=Ad5 hR7;have HN7:=Ad5 hN7;have hlen7:=HFE.out _ _ _ rfl hR7.rr;have hR2:=HR0.out;unfold Ke at hR2;simp only at hR2;clear hN7;cases h41:BM s.data.toList q.1.pos 41 with
  | false=>
   rw [h41] at hR2;have HF:=Ad5 (hR2.trans (if_neg (by simp)));have hsk:=Ib ⟨#[92,41]⟩ w7 hR7 ((BN _ _ 41 (by decide)).trans h41);clear hR2 hR7 h41;go_wp2_with fail
   refine hsk.mono ?_;rintro e w8 ⟨rfl,n,rfl⟩;clear hsk;go_wp2_with fail
   exact ⟨rfl,A1 HF.out (HS7.out.trans (RStep.of_below (below_drewN (Aeh _ _) n))) rfl⟩
  | true=>
   rw [h41] at hR2;have HF:=Ad5 (hR2.trans (if_pos rfl));have hsk:=FL ⟨#[92,41]⟩ w7 hR7 ((BN _ _ 41 (by decide)).trans h41) (by simp);rw [show (ByteArray.mk #[92,41]).size=2 from rfl] at hsk;clear hR2 hR7 h41;go_wp2_with fail
   refine hsk.mono ?_;rintro e w8 ⟨rfl,hR8,hS8⟩;have HS8:=Ad5 (HS7.out.trans hS8);have HN8:=Ad5 (HN7.out.step hS8);clear hsk hS8;obtain ⟨a,cap,hcv,hl1,hl2,hx⟩:=Gh hR8.co (by simp);unfold maxLen at hl2;subst hcv;obtain ⟨g8,rfl,_,hg8,hc8⟩:=hx (by omega);have hcl:=hR8.closes es.length (by omega);have hdp:=hcl.1.deep dep;have HC:=Ad5 hcl;have HDp:=Ad5 hdp;have hcell:=hc8 es.length (by simp;omega);rw [List.getElem_map,Nat.zero_add] at hcell;have hfzg:=World.ownsRow.frozenAt hR8.co es.length;have hgp:g8≠p:=fun e=>hR8.cp (by rw [e];rfl)
   have hgp2:p≠g8:=fun e=>hgp e.symm
   obtain ⟨c0,c1,c2,c3,c4,z1,z2,z3,z4⟩:=hR8.cells;have hpl8:=hR8.blk.lt;have hes7:=hR8.few.2;have hs8:=hR8.pos;have hlt7:(es.length:Int) < (es7.length:Int):=by omega
   have Wn:IntKind.i64.wrap ((es.length:Int)+1 - 1)=(es.length:Int):=by rw [Aej _ (by omega)];omega
   have Wm:IntKind.i64.wrap ((dep:Int)+1 - 1)=(dep:Int):=by rw [Aej _ (by omega)];omega
   have HN9:=Ad5 ((HN8.out.step hcl.2).step hdp.2);have HS9:=Ad5 ((HS8.out.trans hcl.2).trans hdp.2);obtain ⟨nn,hnn⟩:=HN8.out;clear hx hc8 hR8 hcl hdp;rcases Ax hnn with ⟨T,x,rfl⟩ | rfl
   all_goals
    clear hnn;go_wp2_with fail
    go_ret;have hfin:R=.ok ({ q.1 with pos:=q.1.pos+2,closed:=q.1.closed++[((es.length+1:Nat):Int)] },.group ((es.length:Int)+1) q.2):=HF.out.trans (by rw [HO.out];rfl);exact AM hfin HS9.out HDp.out.1 (Oc (HN9.out.low HLo.out) _)
def Fv (s:List UInt8) (dep:Nat):Option (ReSt→ReRes (ReSt × Nd)):=if dep < 12 then some (C0 false s (11 - dep)) else none
theorem Oj (s:List UInt8) (dep:Nat):D7 s (Fv s dep):=fun f hf=>by
 unfold Fv at hf;split at hf
 ·injection hf with hf;subst hf;exact UT false s _
 ·cases hf
theorem Ol (s:List UInt8) (dep:Nat):GX (Fv s dep):=fun f hf=>by
 unfold Fv at hf;split at hf
 ·injection hf with hf;subst hf;exact Iq false s _
 ·cases hf
theorem Aca (s:List UInt8) (dep:Nat) (h:dep < 12) (st:ReSt):C0 false s (11 - dep) st=As false s (Fv s (dep+1)) false (s.length+1) st []:=by
 unfold Fv;by_cases h1:dep+1 < 12
 ·rw [if_pos h1,show 11 - dep=(11 - (dep+1))+1 by omega];rfl
 ·rw [if_neg h1,show 11 - dep=0 by omega];rfl
theorem Tz (B p:Nat) (s:ByteArray) (hB:glN≤B):∀ (n dep:Nat),dep+n=12→∀ st es,E6 B p s st es dep (Fv s.data.toList dep):=by
 intro n;induction n with
 | zero=>
  intro dep hd st es w2 mv cv hG hfe hR;obtain rfl:dep=12:=by omega
  have:F9 false s.data.toList (Fv s.data.toList 12) st=.error (4,st.pos):=rfl;rw [this];exact Qm w2 hR
 | succ n ih=>
  intro dep hd st es w2 mv cv hG hfe hR;have hd12:dep < 12:=by omega
  have hs:Fv s.data.toList dep=some (C0 false s.data.toList (11 - dep)):=by unfold Fv;rw [if_pos hd12]
  rw [hs,Zo];refine Wv w2 hR hd12 hfe hG hB _ (fun st' d es' hF hrr=>?_) (fun w3 mv3 cv3 hG3 hR3=>?_)
  ·have ht:=Iq false s.data.toList _ _ _ _ hF;have he:=FZ d (es++[false]) _ _ (LY hR.rr);unfold CK at ht;have hcast:(((st.opened+1:Nat)):Int)=((st.to (st.pos+2)).opened:Int)+1:=by show ((st.opened+1:Nat):Int)=(st.opened:Int)+1;omega
   rw [show ((({ st with pos:=st.pos+2,opened:=st.opened+1 }:ReSt).opened:Nat):Int)=((st.to (st.pos+2)).opened:Int)+1 from hcast] at ht;rw [show Bt d (((st.to (st.pos+2)).opened:Int)+1) (st.to (st.pos+2)).closed=some ((st'.opened:Int),st'.closed) from ht] at he;obtain ⟨es2,_,hrr2,hle⟩:=he;have h1:=hrr.1;have h2:=hrr2.1;simp at hle h2;omega
  ·rw [Aca _ _ hd12];exact L6 w3 hR3 _ (Oj _ _) (Ol _ _) hG3 hB (fun st es=>ih (dep+1) (by omega) st es)
theorem Om (a b c d:Addr) (w:World) :
  CallsD Tryz.prog 114 #[.pointer (some a),.pointer (some b),.pointer (some c),.pointer (some d)] .returning w fun e u' w'=>e=.returned (.tuple #[])∧u'=.returning∧w'=w:=by
 have hnil:∀ w:World,(binOp BinOp.eql 20 .nilIface .nilIface).run Tryz.prog w=.ok (.bool true) w:=fun _=>by kernel_rfl
 refine callsD_of_wpS Tryz.func114 rfl fun c₀ cs hu=>?_
 apply wpS_seq;apply wpS_region;simp [wpOpsS,go_sem,recoverD,hu,Tryz.ntmps114,Exit.thenS]
 iterate 2 (apply wpS_seq)
 apply wpS_region;simp [wpOpsS,go_sem,hnil,Exit.thenS];refine wpS_cond (t:=true) (by simp [Act.eval,Array.replicate]) ?_;simp only [if_true];refine wpS_of_wp (wp_ret ?_);cases c₀
 simp_all [bodyPostS,results,Tryz.results114,Exit.thenS]
structure Caught (n0 n1 n2 n3:Nat) (k e:Nat) (w w':World):Prop where
 b0:Blk w' n0 #[.nilIface] 38
 b1:Blk w' n1 #[.slice none 0 0] 26
 b2:Blk w' n2 #[.int .i64 (k:Int)] 3
 b3:Blk w' n3 #[.int .i64 (e:Int)] 27
 low:∀ B,B≤n0→B≤n1→B≤n2→B≤n3→B≤w.heap.size→Below B w w'
theorem MS {n0 n1 n2 n3:Nat} {x0 x1 x2 x3:Value} (k er:Nat) (older:List PanicEntry) (w:World) (h0:Blk w n0 #[x0] 38) (h1:Blk w n1 #[x1] 26) (h2:Blk w n2 #[x2] 3) (h3:Blk w n3 #[x3] 27)
  (d01:n0≠n1) (d02:n0≠n2) (d03:n0≠n3) (d12:n1≠n2) (d13:n1≠n3) (d23:n2≠n3) :
  CallsD Tryz.prog 114 #[.pointer (some ⟨n0,0,none⟩),.pointer (some ⟨n1,0,none⟩),.pointer (some ⟨n2,0,none⟩),.pointer (some ⟨n3,0,none⟩)] (.panicking ({ v:=.iface 198 (.agg #[.int .i64 (k:Int),.int .i64 (er:Int)]),recovered:=false } :: older)) w fun e u' w'=>
   e=.returned (.tuple #[])∧u'=.panicking ({ v:=.iface 198 (.agg #[.int .i64 (k:Int),.int .i64 (er:Int)]),recovered:=true } :: older)∧Caught n0 n1 n2 n3 k er w w':=by
 have hnn:∀ w:World,(binOp BinOp.eql 20 (.iface 198 (.agg #[.int .i64 (k:Int),.int .i64 (er:Int)])) .nilIface).run Tryz.prog w=.ok (.bool false) w:=fun _=>by kernel_rfl
 have hta:∀ w:World,(Instr.typeAssert (.iface 198 (.agg #[.int .i64 (k:Int),.int .i64 (er:Int)])) 20 198 true).run Tryz.prog w=.ok (.tuple #[.agg #[.int .i64 (k:Int),.int .i64 (er:Int)],.bool true]) w:=fun _=>by kernel_rfl
 refine callsD_of_wpS Tryz.func114 rfl fun c₀ cs hu=>?_
 apply wpS_seq;apply wpS_region;simp [wpOpsS,go_sem,recoverD,hu,Tryz.ntmps114,Exit.thenS];refine wpS_of_wp (Code.wp_mono (Q:=fun e a w'=>(e=.normal∨e=.ret)∧a.defers=[]∧Caught n0 n1 n2 n3 k er w w') ?_ ?_)
 ·rintro e a w' ⟨he,hd,hc⟩;rcases he with rfl | rfl
  ·exact ⟨hd,_,rfl,.tuple #[],by simp [results,Tryz.results114,go_sem],rfl,rfl,hc⟩
  ·exact ⟨hd,_,rfl,.tuple #[],by simp [results,Tryz.results114,go_sem],rfl,rfl,hc⟩
 ·clear hu;have c0:w.cell? ⟨n0,0,none⟩=some x0:=(h0.cell 0).trans rfl;have c1:w.cell? ⟨n1,0,none⟩=some x1:=(h1.cell 0).trans rfl;have c2:w.cell? ⟨n2,0,none⟩=some x2:=(h2.cell 0).trans rfl;have c3:w.cell? ⟨n3,0,none⟩=some x3:=(h3.cell 0).trans rfl;have z0:=h0.frozen 0;have z1:=h1.frozen 0;have z2:=h2.frozen 0;have z3:=h3.frozen 0;have l0:=h0.lt;have l1:=h1.lt;have l2:=h2.lt;have l3:=h3.lt;have HB0:=Ad5 h0;have HB1:=Ad5 h1;have HB2:=Ad5 h2;have HB3:=Ad5 h3;clear h0 h1 h2 h3;simp only [Array.replicate_succ,Array.replicate_zero,List.push_toArray,List.append_toArray,List.nil_append,List.cons_append,Ad6,Aeb,Aea];go_wp2_with fail
  have d10:=d01.symm;have d20:=d02.symm;have d30:=d03.symm;have d21:=d12.symm;have d31:=d13.symm;have d32:=d23.symm
  go_region
  all_goals go_wp2_with fail
  all_goals
   refine ⟨?_,?_,?_,?_,fun B g0 g1 g2 g3 hw=>?_⟩
   ·exact (((((HB0.out.set 0 _).set_other ⟨n1,0,none⟩ d10 _).set_other ⟨n2,0,none⟩ d20 _).set_other ⟨n3,0,none⟩ d30 _).alloc _).drew
   ·exact (((((HB1.out.set_other ⟨n0,0,none⟩ d01 _).set 0 _).set_other ⟨n2,0,none⟩ d21 _).set_other ⟨n3,0,none⟩ d31 _).alloc _).drew
   ·exact (((((HB2.out.set_other ⟨n0,0,none⟩ d02 _).set_other ⟨n1,0,none⟩ d12 _).set 0 _).set_other ⟨n3,0,none⟩ d32 _).alloc _).drew
   ·exact (((((HB3.out.set_other ⟨n0,0,none⟩ d03 _).set_other ⟨n1,0,none⟩ d13 _).set_other ⟨n2,0,none⟩ d23 _).set 0 _).alloc _).drew
   ·exact ((((((Aeh B w).setCell (p:=⟨n0,0,none⟩) g0 _).setCell (p:=⟨n1,0,none⟩) g1 _).setCell (p:=⟨n2,0,none⟩) g2 _).setCell (p:=⟨n3,0,none⟩) g3 _).alloc (by simp [World.setCell];exact hw) _).drew
theorem On (s:List UInt8) (sub:Option (ReSt→ReRes (ReSt × Nd))) (begin:Nat):∀ (n:Nat) (st:ReSt) (parts:List Nd) (front:Bool) (st':ReSt) (d:Nd),branchM false s sub false begin n st parts front=.ok (st',d)→AC s st'.pos=true:=by
 intro n;induction n with
 | zero=>intro _ _ _ _ _ h;cases h
 | succ n ih=>
  intro st parts front st' d h;rw [branchM] at h;split at h
  ·rename_i he;injection h with h;injection h with h1 _;subst h1;unfold AC;simpa [A2] using he
  split at h
  ·exact ih _ _ _ _ _ h
  split at h
  ·exact ih _ _ _ _ _ h
  split at h
  ·cases h
  split at h
  ·cases h
  ·split at h
   ·cases h
   ·exact ih _ _ _ _ _ h
theorem Oo (s:List UInt8) (sub:Option (ReSt→ReRes (ReSt × Nd))):∀ (n:Nat) (st:ReSt) (l:List Nd) (st':ReSt) (d:Nd),As false s sub false n st l=.ok (st',d)→s.length≤st'.pos∨BM s st'.pos 41=true:=by
 intro n;induction n with
 | zero=>intro _ _ _ _ h;cases h
 | succ n ih=>
  intro st l st' d h;rw [As] at h;split at h
  ·cases h
  ·rename_i st1 d1 hb;have h1:=On s sub _ _ _ _ _ _ _ hb;split at h
   ·exact ih _ _ _ _ h
   ·rename_i h124;injection h with h;injection h with h2 _;subst h2;unfold AC at h1;simp only [A2,Bool.false_eq_true,if_false] at h124;simp only [Bool.or_eq_true,decide_eq_true_eq] at h1;rcases h1 with (h1 | h1) | h1
    ·exact .inl h1
    ·exact (h124 h1).elim
    ·exact .inr h1
structure Four (w0 w:World) (x0 x1 x2 x3:Value):Prop where
 b:Below w0.heap.size w0 w
 h0:Blk w w0.heap.size #[x0] 38
 h1:Blk w (w0.heap.size+1) #[x1] 26
 h2:Blk w (w0.heap.size+2) #[x2] 3
 h3:Blk w (w0.heap.size+3) #[x3] 27
theorem Oq (w:World):Four w ((((w.alloc (.cells #[.nilIface] 38)).alloc (.cells #[.slice none 0 0] 26)).alloc (.cells #[.int .i64 0] 3)).alloc (.cells #[.int .i64 0] 27)) .nilIface (.slice none 0 0) (.int .i64 0) (.int .i64 0):=
 ⟨((((Aeh _ _).alloc (Aec _) _).alloc (by simp) _).alloc (by simp;omega) _).alloc (by simp;omega) _,
  (((Blk.new w _ _ _ rfl).alloc _).alloc _).alloc _,((Blk.new _ _ _ _ (by simp)).alloc _).alloc _,(Blk.new _ _ _ _ (by simp)).alloc _,Blk.new _ _ _ _ (by simp)⟩
theorem Four.below {w0 w w':World} {x0 x1 x2 x3:Value} (h:Four w0 w x0 x1 x2 x3) (hb:Below w.heap.size w w'):Four w0 w' x0 x1 x2 x3:=
 ⟨h.b.trans (hb.mono h.b.size),h.h0.below hb h.h0.lt,h.h1.below hb h.h1.lt,h.h2.below hb h.h2.lt,h.h3.below hb h.h3.lt⟩
theorem FR {w0 w:World} {x0 x1 x2 x3:Value} (h:Four w0 w x0 x1 x2 x3) (k er:Nat) :
  CallsD Tryz.prog 114 #[.pointer (some ⟨w0.heap.size,0,none⟩),.pointer (some ⟨w0.heap.size+1,0,none⟩),.pointer (some ⟨w0.heap.size+2,0,none⟩),.pointer (some ⟨w0.heap.size+3,0,none⟩)] (.panicking ({ v:=.iface 198 (.agg #[.int .i64 (k:Int),.int .i64 (er:Int)]),recovered:=false } :: [])) w fun e u' w'=>
   e=.returned (.tuple #[])∧u'=.panicking ({ v:=.iface 198 (.agg #[.int .i64 (k:Int),.int .i64 (er:Int)]),recovered:=true } :: [])∧Four w0 w' .nilIface (.slice none 0 0) (.int .i64 (k:Int)) (.int .i64 (er:Int)):=
 (MS k er [] w h.h0 h.h1 h.h2 h.h3 (by omega) (by omega) (by omega) (by omega) (by omega) (by omega)).mono fun _ _ _ ⟨h1,h2,h3⟩=>
  ⟨h1,h2,h.b.trans (h3.low _ (Aec _) (by omega) (by omega) (by omega) h.b.size),h3.b0,h3.b1,h3.b2,h3.b3⟩
theorem Ot (s:ByteArray) (w:World) (hs:250 < s.size):Calls Tryz.prog 99 #[.string s] w fun e w'=>PW (.error (3,250)) w e w':=by
 have hmf:∀ (fn:Fn) (first cap:Array Value) (w:World),(Instr.makeFunc fn first cap).run Tryz.prog w=.ok (.func fn first cap) w:=fun _ _ _ _=>rfl
 have e1:decide ((250:Int) < (s.size:Int))=true:=by simp;omega
 have h4:=Oq w;clear hs
 go_enter_defers Tryz.func99,Tryz.ntmps99
 go_wp2_with fail
 refine leaves_cons (f:=114) (args:=#[.pointer (some ⟨w.heap.size,0,none⟩),.pointer (some ⟨w.heap.size+1,0,none⟩),.pointer (some ⟨w.heap.size+2,0,none⟩),.pointer (some ⟨w.heap.size+3,0,none⟩)]) (by simp) (by simp [go_sem]) ?_;refine (FR h4 250 3).mono ?_;rintro e u' w'' ⟨rfl,rfl,h5⟩;have k0:=(h5.h0.cell 0).trans rfl;have k1:=(h5.h1.cell 0).trans rfl;have k2:=(h5.h2.cell 0).trans rfl;have k3:=(h5.h3.cell 0).trans rfl;simp [Leaves,settle,results,Tryz.results99,go_sem,k0,k1,k2,k3];exact ⟨h5.b,rfl⟩
theorem Four.step {w0 w w':World} {x0 x1 x2 x3:Value} {p:Nat} {mv' cv':Value} (h:Four w0 w x0 x1 x2 x3) (hp:w0.heap.size+4≤p) (hS:RStep p w (.slice none 0 0) (.slice none 0 0) w' mv' cv') (hB:Below w0.heap.size w w'):Four w0 w' x0 x1 x2 x3:=by
 have hk:∀ b x T,Blk w b #[x] T→b < p→Blk w' b #[x] T:=fun b x T hb hlt=>by
  unfold Blk at hb ⊢;rw [(hS.block b (Array.getElem?_eq_some_iff.1 hb).1 (by omega) (by simp [Value.ownBlock]) (by simp [Value.ownBlock])).1];exact hb
 exact ⟨h.b.trans hB,hk _ _ _ h.h0 (by omega),hk _ _ _ h.h1 (by omega),hk _ _ _ h.h2 (by omega),hk _ _ _ h.h3 (by omega)⟩
theorem Four.store {w0 w:World} {x0 x1 x2 x3:Value} (h:Four w0 w x0 x1 x2 x3) (y0 y1 y2 y3:Value) :
  Four w0 ((((w.setCell ⟨w0.heap.size,0,none⟩ y0).setCell ⟨w0.heap.size+1,0,none⟩ y1).setCell ⟨w0.heap.size+2,0,none⟩ y2).setCell ⟨w0.heap.size+3,0,none⟩ y3) y0 y1 y2 y3:=
 ⟨(((h.b.setCell (p:=⟨w0.heap.size,0,none⟩) (Aec _) _).setCell (p:=⟨w0.heap.size+1,0,none⟩) (by simp) _).setCell (p:=⟨w0.heap.size+2,0,none⟩) (by simp) _).setCell (p:=⟨w0.heap.size+3,0,none⟩) (by simp) _,
  (((h.h0.set 0 _).set_other ⟨w0.heap.size+1,0,none⟩ (by simp) _).set_other ⟨w0.heap.size+2,0,none⟩ (by simp) _).set_other ⟨w0.heap.size+3,0,none⟩ (by simp) _,
  (((h.h1.set_other ⟨w0.heap.size,0,none⟩ (by simp) _).set 0 _).set_other ⟨w0.heap.size+2,0,none⟩ (by simp) _).set_other ⟨w0.heap.size+3,0,none⟩ (by simp) _,
  (((h.h2.set_other ⟨w0.heap.size,0,none⟩ (by simp) _).set_other ⟨w0.heap.size+1,0,none⟩ (by simp) _).set 0 _).set_other ⟨w0.heap.size+3,0,none⟩ (by simp) _,
  (((h.h3.set_other ⟨w0.heap.size,0,none⟩ (by simp) _).set_other ⟨w0.heap.size+1,0,none⟩ (by simp) _).set_other ⟨w0.heap.size+2,0,none⟩ (by simp) _).set 0 _⟩
theorem Jk {w:World} {B:Nat} {e:TypeId} {size n:Nat} {v:Value} {us:List Value} (h:w.ownsRow B e size v n us) (b:Nat) (hv:v.ownBlock≠some b) (x:Value):(w.setCell ⟨b,0,none⟩ x).ownsRow B e size v n us:=
 h.kept ⟨rfl,rfl,rfl,by simp [World.setCell],fun k _ hk=>Aei _ _ _ _ (fun e=>hk (by rw [e]))⟩ (Or.inr hv)
theorem Jl {F:Nat→Prop} {w:World} {d:Nd} {v:Value} (h:NdX F w d v) (b:Nat) (hb:¬ F b) (x:Value):NdX F (w.setCell ⟨b,0,none⟩ x) d v:=
 h.keep (by simp [World.setCell]) (fun k hk _=>⟨hk,fun o=>Aek (w:=w) (a:=⟨k,o,none⟩) (Aei _ _ _ _ (fun e=>hb (by have e2:k=b:=e;rw [←e2];exact hk)))⟩)
theorem T0 {w:World} {B:Nat} {e:TypeId} {size n:Nat} {v:Value} {us:List Value} (h:w.ownsRow B e size v n us):∃ a m c,v=.slice a m c:=by
 rcases h.2 with ⟨rfl,_⟩ | ⟨g,cap,cur,rfl,_⟩
 ·exact ⟨_,_,_,rfl⟩
 ·exact ⟨_,_,_,rfl⟩
theorem Acb (w0 W:World) (s:ByteArray) (hs:s.size≤250) (h0:w0.heap.size≤W.heap.size):Rd w0.heap.size W.heap.size (W.alloc (.cells #[.string s,.int .i64 0,.slice none 0 0,.slice none 0 0,.int .i64 0] 202)) s Ej [] 0 (.slice none 0 0) (.slice none 0 0):=
 { blk:=Blk.new W _ _ _ rfl,mo:=World.ownsRow_nil _ _ _ _,co:=World.ownsRow_nil _ _ _ _,rr:=Aaq,bp:=h0,mp:=by simp [Value.ownBlock],cp:=by simp [Value.ownBlock],mc:=by intro b hb;simp [Value.ownBlock] at hb,pos:=Nat.zero_le _,small:=hs,few:=⟨Aec _,Aec _⟩ }
theorem Qn {w w1 W5:World} {x0 x1 x2 x3 v mv cv:Value} {d:Nd} {n:Nat} {us:List Value} (h:Four w w1 x0 x1 x2 x3) (hsz:w.heap.size+5≤W5.heap.size) (hN:Cz W5.heap.size (w.heap.size+4) mv cv w1 d v) (hm:w1.ownsRow w.heap.size 33 2 mv n us)
  (hno:∀ b,b < W5.heap.size→b≠w.heap.size+4→mv.ownBlock≠some b) :
  Four w ((((w1.setCell ⟨w.heap.size,0,none⟩ v).setCell ⟨w.heap.size+1,0,none⟩ mv).setCell ⟨w.heap.size+2,0,none⟩ (.int .i64 0)).setCell ⟨w.heap.size+3,0,none⟩ (.int .i64 0)) v mv (.int .i64 0) (.int .i64 0)∧
  NdX (fun b=>w.heap.size≤b) ((((w1.setCell ⟨w.heap.size,0,none⟩ v).setCell ⟨w.heap.size+1,0,none⟩ mv).setCell ⟨w.heap.size+2,0,none⟩ (.int .i64 0)).setCell ⟨w.heap.size+3,0,none⟩ (.int .i64 0)) d v∧
  ((((w1.setCell ⟨w.heap.size,0,none⟩ v).setCell ⟨w.heap.size+1,0,none⟩ mv).setCell ⟨w.heap.size+2,0,none⟩ (.int .i64 0)).setCell ⟨w.heap.size+3,0,none⟩ (.int .i64 0)).ownsRow w.heap.size 33 2 mv n us:=by
 have hN':NdX (fun b=>w.heap.size+5≤b) w1 d v:=hN.keep (Aec _) (fun b hb _=>⟨Aed hsz hb.1,fun _=>rfl⟩);refine ⟨h.store _ _ _ _,?_,?_⟩
 ·exact ((((Jl hN' _ (by omega) _ |> fun h=>Jl h _ (by omega) _) |> fun h=>Jl h _ (by omega) _) |> fun h=>Jl h _ (by omega) _)).keep (Aec _) (fun b hb _=>⟨by omega,fun _=>rfl⟩)
 ·exact Jk (Jk (Jk (Jk hm _ (hno _ (by omega) (by omega)) _) _ (hno _ (by omega) (by omega)) _) _ (hno _ (by omega) (by omega)) _) _ (hno _ (by omega) (by omega)) _
theorem MT (s:ByteArray) (w:World) (hs:s.size≤250) (hG:Gl w):Calls Tryz.prog 99 #[.string s] w fun e w'=>PW (AZ false s.data.toList) w e w':=by
 have hmf:∀ (fn:Fn) (first cap:Array Value) (w:World),(Instr.makeFunc fn first cap).run Tryz.prog w=.ok (.func fn first cap) w:=fun _ _ _ _=>rfl
 have hsl:s.data.toList.length=s.size:=by simp
 have e1:decide ((250:Int) < (s.size:Int))=false:=by simp;omega
 have h4:=Oq w;generalize hW4:((((w.alloc (.cells #[.nilIface] 38)).alloc (.cells #[.slice none 0 0] 26)).alloc (.cells #[.int .i64 0] 3)).alloc (.cells #[.int .i64 0] 27))=W4 at h4;have hn4:W4.heap.size=w.heap.size+4:=by rw [←hW4];simp
 have hR:=Acb w W4 s hs (by omega);rw [hn4] at hR;have hA:=(Aeh W4.heap.size W4).alloc (Aec _) (.cells #[.string s,.int .i64 0,.slice none 0 0,.slice none 0 0,.int .i64 0] 202);have h5:=h4.below hA;have hG5:=hG.up h5.b;have hps:=G7 false s.data.toList (by rw [hsl];exact hs);have hrx:=L6 _ hR (Fv s.data.toList 0) (Oj _ _) (Ol _ _) hG5 hG.lt (fun st es=>Tz w.heap.size (w.heap.size+4) s hG.lt 12 0 rfl st es);rw [show Fv s.data.toList 0=some (C0 false s.data.toList 11) from rfl] at hrx;obtain ⟨R,hR0⟩:∃ R,R=AZ false s.data.toList:=⟨_,rfl⟩;rw [←hR0];have hR1:=hR0.trans hps;have HR5:=Ad5 hR;have H5:=Ad5 h5;have HW4:=Ad5 hW4;have HN4:=Ad5 hn4;have hce:=Oo s.data.toList (some (C0 false s.data.toList 11)) (s.data.toList.length+1) Ej [];have HCE:=Ad5 hce;have HSL:=Ad5 hsl;clear hR hA h4 h5 hG5 hps hR0 hG hn4 hce hsl hs;subst hW4
 go_enter_defers Tryz.func99,Tryz.ntmps99
 go_wp2_with fail
 generalize hW5:((((w.alloc (.cells #[.nilIface] 38)).alloc (.cells #[.slice none 0 0] 26)).alloc (.cells #[.int .i64 0] 3)).alloc (.cells #[.int .i64 0] 27)).alloc (.cells #[.string s,.int .i64 0,.slice none 0 0,.slice none 0 0,.int .i64 0] 202)=W5 at *;have hsz5:w.heap.size+5≤W5.heap.size:=by rw [←hW5];simp
 have HSZ:=Ad5 hsz5;clear hW5 hsz5;refine Calls.mono hrx ?_;intro e w1 hA;obtain ⟨mv1,cv1,hS1,hr⟩:=hA;have hF1:=H5.out.step (Aec _) hS1 (hS1.low HR5.out);have HS1:=Ad5 hS1;have HF1:=Ad5 hF1;clear hS1 hF1 hrx;cases hC:As false s.data.toList (some (C0 false s.data.toList 11)) false (s.data.toList.length+1) Ej [] with
 | error q=>
  rw [hC] at hr hR1;obtain rfl:e=_:=hr;have HF:=Ad5 hR1;clear hC hR1;go_wp2_with fail
  refine leaves_cons (f:=114) (args:=#[.pointer (some ⟨w.heap.size,0,none⟩),.pointer (some ⟨w.heap.size+1,0,none⟩),.pointer (some ⟨w.heap.size+2,0,none⟩),.pointer (some ⟨w.heap.size+3,0,none⟩)]) (by simp) (by simp [go_sem]) ?_;refine (FR HF1.out q.2 q.1).mono ?_;rintro e u' w'' ⟨rfl,rfl,h5⟩;have k0:=(h5.h0.cell 0).trans rfl;have k1:=(h5.h1.cell 0).trans rfl;have k2:=(h5.h2.cell 0).trans rfl;have k3:=(h5.h3.cell 0).trans rfl;simp [Leaves,settle,results,Tryz.results99,go_sem,k0,k1,k2,k3];exact ⟨h5.b,by rw [HF.out];rfl⟩
 | ok q=>
  rw [hC] at hr hR1;obtain ⟨es1,v1,rfl,hRd1,hN1⟩:=hr;have hce:=HCE.out _ _ hC;have HRd1:=Ad5 hRd1;have HN1:=Ad5 hN1;obtain ⟨c0,c1,c2,c3,c4,z1,z2,z3,z4⟩:=hRd1.cells;have hp1:=hRd1.pos;have hsm:=hRd1.small;rw [HSL.out] at hce;clear hC hRd1 hN1;cases h41:BM s.data.toList q.1.pos 41 with
  | true=>
   have hlt:=(Fd h41).1;rw [HSL.out] at hlt;have HF:=Ad5 (hR1.trans (show Fu false s.data.toList (.ok q)=.error (8,q.1.pos) by unfold Fu;simp only [A2,Bool.false_eq_true,if_false];rw [h41];rfl));have e2:decide ((q.1.pos:Int) < (s.size:Int))=true:=by simp;omega
   have e3:decide (q.1.pos < s.size)=true:=by simp;omega
   clear hR1 h41 hlt hce;go_wp2_with fail
   refine leaves_cons (f:=114) (args:=#[.pointer (some ⟨w.heap.size,0,none⟩),.pointer (some ⟨w.heap.size+1,0,none⟩),.pointer (some ⟨w.heap.size+2,0,none⟩),.pointer (some ⟨w.heap.size+3,0,none⟩)]) (by simp) (by simp [go_sem]) ?_;refine (FR HF1.out q.1.pos 8).mono ?_;rintro e u' w'' ⟨rfl,rfl,h5⟩;have k0:=(h5.h0.cell 0).trans rfl;have k1:=(h5.h1.cell 0).trans rfl;have k2:=(h5.h2.cell 0).trans rfl;have k3:=(h5.h3.cell 0).trans rfl;simp [Leaves,settle,results,Tryz.results99,go_sem,k0,k1,k2,k3];exact ⟨h5.b,by rw [HF.out];rfl⟩
  | false=>
   have hge:s.size≤q.1.pos:=hce.resolve_right (by rw [h41];simp);have HF:=Ad5 (hR1.trans (show Fu false s.data.toList (.ok q)=.ok q by unfold Fu;simp only [A2,Bool.false_eq_true,if_false];rw [h41];rfl));have e2:decide ((q.1.pos:Int) < (s.size:Int))=false:=by simp;omega
   have e3:decide (q.1.pos < s.size)=false:=by simp;omega
   clear hR1 h41 hce hge;have q0:=(HF1.out.h0.cell 0).trans rfl;have q1:=(HF1.out.h1.cell 0).trans rfl;have q2:=(HF1.out.h2.cell 0).trans rfl;have q3:=(HF1.out.h3.cell 0).trans rfl;have y0:=HF1.out.h0.frozen 0;have y1:=HF1.out.h1.frozen 0;have y2:=HF1.out.h2.frozen 0;have y3:=HF1.out.h3.frozen 0;have hno:=fun b hb hbp=>((HS1.out.block b hb hbp (by simp [Value.ownBlock]) (by simp [Value.ownBlock])).2.1)
   have HNO:=Ad5 hno;clear hno;obtain ⟨ma,mn,mc,hmv⟩:=T0 HRd1.out.mo;subst hmv;obtain ⟨nn,hnn⟩:=HN1.out;rcases Ax hnn with ⟨T,x,rfl⟩ | rfl
   all_goals
    clear hnn;go_wp2_with fail
    go_region
    all_goals go_wp2_with fail
    all_goals
     refine leaves_cons (f:=114) (args:=#[.pointer (some ⟨w.heap.size,0,none⟩),.pointer (some ⟨w.heap.size+1,0,none⟩),.pointer (some ⟨w.heap.size+2,0,none⟩),.pointer (some ⟨w.heap.size+3,0,none⟩)]) (by simp) (by simp [go_sem]) ?_;refine (Om _ _ _ _ _).mono ?_;rintro e u' w'' ⟨rfl,rfl,rfl⟩;have hF9:=Qn HF1.out HSZ.out HN1.out HRd1.out.mo HNO.out;have k0:=(hF9.1.h0.cell 0).trans rfl;have k1:=(hF9.1.h1.cell 0).trans rfl;have k2:=(hF9.1.h2.cell 0).trans rfl;have k3:=(hF9.1.h3.cell 0).trans rfl;have HF9:=Ad5 hF9;clear hF9 c0 c1 c2 c3 c4 z1 z2 z3 z4 q0 q1 q2 q3 y0 y1 y2 y3;generalize (((World.setCell _ _ _).setCell _ _).setCell _ _).setCell _ _=w9 at HF9 k0 k1 k2 k3 ⊢;simp [Leaves,settle,results,Tryz.results99,go_sem,k0,k1,k2,k3];refine ⟨HF9.out.1.b.drew,?_⟩;rw [HF.out];exact ⟨_,_,rfl,HF9.out.2.1.drew,HF9.out.2.2⟩
theorem Qo (s:ByteArray) (w:World) (hG:Gl w):Calls Tryz.prog 99 #[.string s] w fun e w'=>PW (AZ false s.data.toList) w e w':=by
 by_cases hs:s.size≤250
 ·exact MT s w hs hG
 ·have hl:AZ false s.data.toList=.error (3,250):=by
   unfold AZ;rw [if_pos (by simp;omega)]
  rw [hl];exact Ot s w (by omega)
end
section
open Go.RowKit
theorem Zp {a b:ByteArray} (h:a=b):Ending.returned (.string a)=.returned (.string b):=by rw [h]
theorem Kf (s:ByteArray) (k:Nat) (h:k < s.size):s.data.toList.take (k+1)=s.data.toList.take k++[s[k]]:=by
 rw [List.take_succ_eq_append_getElem (by simpa using h)];rfl
theorem Ww (s:ByteArray) (w:World) (hs:s.size≤35184372088832) :
  Calls Tryz.prog 129 #[.string s] w fun e w'=>e=.returned (.string (txt (Ao s.data.toList)))∧Below w.heap.size w w':=by
 go_enter Tryz.func129,Tryz.ntmps129
 go_wp2
 go_loopw [7] (fun i wr=>∃ k:Nat,k≤s.size∧i=.int .i64 k∧Lib.IsBuilderF 167 5 w.heap.size w.heap.size (Lib.byteCells (Ao (s.data.toList.take k))) wr∧Below w.heap.size w wr∧w.heap.size≤wr.heap.size) (fun i _=>s.size - (intOf i).toNat)
 case atStart=>
  refine ⟨0,by omega,rfl,Lib.IsBuilderF.of (Lib.fresh_isBuilder 167 5 w),(Aeh _ w).alloc (Aec _) _,by simp⟩
 case round=>
  obtain ⟨k,hk,rfl,hI,hbw,hsz⟩:=hrel;have hlen:=Lb (s.data.toList.take k);have hl2:(s.data.toList.take k).length≤k:=List.length_take_le _ _;have hlc:(Lib.byteCells (Ao (s.data.toList.take k))).length≤2 * k:=by rw [Lib.byteCells_length];omega
  by_cases hlt:k < s.size
  ·have hb:=s[k].toNat_lt;have Hn:=Ad5 (show Ao (s.data.toList.take (k+1))=Ao (s.data.toList.take k)++Di s[k] by rw [Kf s k hlt,J1]);go_wp2_with (go_at_call 144;refine (Np w.heap.size w.heap.size _ _ (by omega) (by omega) _ hI (by omega) hsz).mono ?_)
   rintro e W1 ⟨rfl,h1,b1,_⟩
   go_wp2
   go_roundw
   case rel=>
    refine ⟨k+1,by omega,by go_num,?_,hbw.trans b1,Aed hsz b1.size⟩;rw [Hn.out,Lib.byteCells_append,←S0,Lib.byteCells_encodeRune];exact Or.inr h1
   case measure=>simp [intOf];omega
  ·have Hk:=Ad5 (show s.data.toList.take k=s.data.toList from List.take_of_length_le (by rw [←Ad];omega));go_wp2_with (go_at_call 88;refine (CA w.heap.size w.heap.size _ _ hI hsz).mono ?_)
   rintro e W1 ⟨rfl,_,b1,_⟩
   go_wp2
   go_ret;exact ⟨Zp (by rw [Hk.out];rfl),hbw.trans b1⟩
end
section
structure Lv where
 op:Nat
 num:Nat
 brs:List Nd
 pcs:List Nd
structure ES where
 pos:Nat
 groups:Nat
 closed:List Int
 marks:List (Nat × Nat)
 inner:Lv
 outer:List Lv
def ES.st (e:ES):ReSt:=⟨e.pos,e.groups,e.closed,e.marks⟩
def ES.at (e:ES) (st:ReSt) (l:List Nd):ES:={ e with pos:=st.pos,groups:=st.opened,closed:=st.closed,marks:=st.marks,inner:={ e.inner with pcs:=l } }
def ES.lv (e:ES) (st:ReSt) (b l:List Nd):ES:={ e with pos:=st.pos,groups:=st.opened,closed:=st.closed,marks:=st.marks,inner:={ e.inner with brs:=b,pcs:=l } }
def A0 (l:List Nd):Bool:=match l.getLast? with
 | none=>true
 | some .start=>true
 | some .fin=>true
 | some _=>false
def Lv.whole (v:Lv):Nd:=Cl (v.brs++[Bu v.pcs])
def ES.add (e:ES) (k:Nat) (d:Nd):ES:=e.at (e.st.to k) (e.inner.pcs++[d])
def Ca (s:List UInt8) (k:Nat):Bool:=chAt s k 42 || chAt s k 43 || chAt s k 63 || chAt s k 123
def Am (s:List UInt8) (e:ES):Except (Nat × Nat) ES:=
 if chAt s e.pos 124 then .ok (e.lv (e.st.to (e.pos+1)) (e.inner.brs++[Bu e.inner.pcs]) [])
 else if chAt s e.pos 40 then (if e.outer.length=12 then .error (4,e.pos) else .ok { e with pos:=e.pos+1,groups:=e.groups+1,outer:=e.outer++[e.inner],inner:=⟨e.pos,e.groups+1,[],[]⟩ })
 else if chAt s e.pos 41 then (match e.outer.getLast? with
  | none=>.error (8,e.pos)
  | some v=>.ok { e with pos:=e.pos+1,closed:=e.closed++[(e.inner.num:Int)],outer:=e.outer.dropLast,inner:={ v with pcs:=v.pcs++[.group (e.inner.num:Int) e.inner.whole] } })
 else if chAt s e.pos 94 then .ok (e.add (e.pos+1) .start)
 else if chAt s e.pos 36 then .ok (e.add (e.pos+1) .fin)
 else if Ca s e.pos then (if A0 e.inner.pcs then .error (10,e.pos) else match repAt true s e.pos with
  | .some mn mx _ j=>.ok (e.at (e.st.to j) (e.inner.pcs.dropLast++[.rep (e.inner.pcs.getLastD .empty) mn mx]))
  | _=>.error (7,e.pos))
 else match Bc true s none e.st with
  | .error q=>.error q
  | .ok (st,d)=>.ok (e.at st (e.inner.pcs++[d]))
def Ou (s:List UInt8):Nat→ES→Except (Nat × Nat) ES
 | 0,_=>.error (0,0)
 | n+1,e=>if s.length≤e.pos then (if e.outer.isEmpty then .ok e else .error (8,e.inner.op)) else match Am s e with
  | .error q=>.error q
  | .ok e'=>Ou s n e'
theorem MU (s:List UInt8) (st st':ReSt) (d:Nd) (hl:st.pos < s.length) (h:Bc true s none st=.ok (st',d)):st.pos < st'.pos∧st'.pos≤s.length:=
 DJ true s none (fun f hf=>by cases hf) st st' d hl h
theorem Adh {s:List UInt8} {k b:Nat} (h:chAt s k b=true):k+1≤s.length:=(BI h).1
theorem If (s:List UInt8) (e e':ES) (hl:e.pos < s.length) (h:Am s e=.ok e'):e.pos < e'.pos∧e'.pos≤s.length:=by
 unfold Am at h;split at h
 ·injection h with h;subst h;exact ⟨Nat.lt_succ_self _,hl⟩
 ·split at h
  ·split at h
   ·cases h
   ·injection h with h;subst h;exact ⟨Nat.lt_succ_self _,hl⟩
  ·split at h
   ·split at h
    ·cases h
    ·injection h with h;subst h;exact ⟨Nat.lt_succ_self _,hl⟩
   ·split at h
    ·injection h with h;subst h;exact ⟨Nat.lt_succ_self _,hl⟩
    ·split at h
     ·injection h with h;subst h;exact ⟨Nat.lt_succ_self _,hl⟩
     ·split at h
      ·split at h
       ·cases h
       ·split at h
        ·rename_i hr;injection h with h;subst h;exact FC _ _ _ _ _ _ _ hr
        ·cases h
      ·split at h
       ·cases h
       ·rename_i st d ha;injection h with h;subst h;exact MU s e.st st d hl ha
theorem T3 (s:List UInt8):∀ (n m:Nat) (e:ES),e.pos≤s.length→s.length < n+e.pos→s.length < m+e.pos→Ou s n e=Ou s m e:=by
 intro n;induction n with
 | zero=>intro m e h0 h1;omega
 | succ n ih=>
  intro m e h0 h1 h2;obtain ⟨m,rfl⟩:∃ k,m=k+1:=⟨m - 1,by omega⟩;rw [Ou,Ou];split
  ·rfl
  ·rename_i hl;cases he:Am s e with
   | error q=>rfl
   | ok e'=>
    have hm:=If s e e' (by omega) he;exact ih m e' hm.2 (by omega) (by omega)
def DC (s:List UInt8) (e:ES):Except (Nat × Nat) ES:=Ou s (s.length+1) e
theorem BF (s:List UInt8) (e:ES) (hl:e.pos < s.length):DC s e=(match Am s e with
  | .error q=>.error q
  | .ok e'=>DC s e'):=by
 unfold DC;rw [Ou,if_neg (by omega)];cases he:Am s e with
 | error q=>rfl
 | ok e'=>
  have hm:=If s e e' hl he;exact T3 s _ _ e' hm.2 (by omega) (by omega)
theorem Kg (s:List UInt8) (e:ES) (hl:s.length≤e.pos):DC s e=(if e.outer.isEmpty then .ok e else .error (8,e.inner.op)):=by
 unfold DC;rw [Ou,if_pos hl]
theorem Eu (l:List Nd) (d:Nd):A0 (l++[d])=(match d with | .start=>true | .fin=>true | _=>false):=by
 unfold A0;rw [List.getLast?_concat];cases d <;> rfl
theorem L7 {l:List Nd} {d:Nd} (h:GN d=true):A0 (l++[d])=false:=by
 rw [Eu];cases d <;> first | rfl | cases h
theorem Zq {s:List UInt8} {k:Nat} (h:repAt true s k=.none):Ca s k=false:=by
 unfold repAt at h;unfold Ca;simp only [A2,if_true] at h;split at h
 ·cases h
 ·rename_i h1;split at h
  ·cases h
  ·rename_i h2;split at h
   ·cases h
   ·rename_i h3;split at h
    ·split at h <;> cases h
    ·rename_i h4;simp [h1,h2,h3,h4]
theorem Kh {s:List UInt8} {k:Nat} (h:repAt true s k≠.none):Ca s k=true:=by
 cases hs:Ca s k with
 | true=>rfl
 | false=>
  unfold Ca at hs;simp only [Bool.or_eq_false_iff] at hs;obtain ⟨⟨⟨h1,h2⟩,h3⟩,h4⟩:=hs;unfold repAt at h;simp only [A2,if_true] at h;rw [h1,h2,h3,h4] at h;simp at h
theorem Fo {s:List UInt8} {k:Nat} (h:Ca s k=true):k < s.length∧chAt s k 124=false∧chAt s k 40=false∧chAt s k 41=false∧chAt s k 94=false∧chAt s k 36=false:=by
 unfold Ca at h;simp only [Bool.or_eq_true] at h;rcases h with ((h | h) | h) | h
 all_goals
  have hb:=(BI h).2;exact ⟨(BI h).1,BD (by omega),BD (by omega),BD (by omega),BD (by omega),BD (by omega)⟩
theorem Zr (s:List UInt8):∀ (n:Nat) (st:ReSt) (d:Nd) (e:ES) (l:List Nd),st.pos≤s.length→s.length < n+st.pos→GN d=true→
  match DI true s n st d with
  | .error q=>DC s (e.at st (l++[d]))=.error q
  | .ok (st',d')=>DC s (e.at st (l++[d]))=DC s (e.at st' (l++[d']))∧GN d'=true:=by
 intro n;induction n with
 | zero=>intro st d e l h1 h2;omega
 | succ n ih=>
  intro st d e l h1 h2 hr;rw [DI];have hstep:∀ (hne:repAt true s st.pos≠.none),Am s (e.at st (l++[d]))=(match repAt true s st.pos with
    | .some mn mx _ j=>.ok (e.at (st.to j) (l++[.rep d mn mx]))
    | _=>.error (7,st.pos)):=by
   intro hne;have hs:=Kh hne;obtain ⟨_,k1,k2,k3,k4,k5⟩:=Fo hs;unfold Am;rw [show (e.at st (l++[d])).pos=st.pos from rfl,k1,k2,k3,k4,k5,hs];simp only [Bool.false_eq_true,if_false,if_true];rw [show (e.at st (l++[d])).inner.pcs=l++[d] from rfl,L7 hr];simp only [Bool.false_eq_true,if_false];rw [List.dropLast_concat,show (l++[d]).getLastD .empty=d by simp];rfl
  cases hra:repAt true s st.pos with
  | none=>exact ⟨rfl,hr⟩
  | bad=>
   have hne:repAt true s st.pos≠.none:=by rw [hra];intro h;cases h
   have hs:=hstep hne;rw [hra] at hs;have hl:=(Fo (Kh hne)).1;simp only;rw [BF s _ hl,hs]
  | some mn mx c j=>
   have hne:repAt true s st.pos≠.none:=by rw [hra];intro h;cases h
   have hs:=hstep hne;rw [hra] at hs;have hl:=(Fo (Kh hne)).1;obtain ⟨m1,m2⟩:=FC _ _ _ _ _ _ _ hra;have hc:c=0:=by
    unfold repAt at hra;simp only [A2,if_true] at hra;split at hra
    ·injection hra with _ _ h _;exact h.symm
    ·split at hra
     ·injection hra with _ _ h _;exact h.symm
     ·split at hra
      ·injection hra with _ _ h _;exact h.symm
      ·split at hra
       ·split at hra
        ·cases hra
        ·injection hra with _ _ h _;exact h.symm
       ·cases hra
   have:=ih (st.to j) (.rep d mn mx) e l m2 (by show _ < n+j;omega) rfl;simp only;rw [if_pos hc];rw [BF s _ (show (e.at st (l++[d])).pos < _ from hl),hs];exact this
def CM (s:List UInt8):Nat→Option (ReSt→ReRes (ReSt × Nd))
 | 0=>none
 | k+1=>some (C0 true s k)
theorem Acc (s:List UInt8) (k:Nat) (st:ReSt):C0 true s k st=As true s (CM s k) false (s.length+1) st []:=by cases k <;> rfl
theorem Ki (s:List UInt8) (k:Nat):D7 s (CM s k)∧GX (CM s k):=by
 cases k with
 | zero=>exact ⟨fun f hf=>(by cases hf),fun f hf=>(by cases hf)⟩
 | succ k=>exact Dd true s k
def Wy (s:List UInt8) (k:Nat):Prop:=∀ (n:Nat) (e:ES),e.pos≤s.length→s.length < n+e.pos→e.outer.length+k=12→e.inner.pcs=[]→
 match As true s (CM s k) false n e.st e.inner.brs with
 | .error q=>DC s e=.error q
 | .ok (st',d)=>∃ b p,Cl (b++[Bu p])=d∧DC s e=DC s (e.lv st' b p)∧(s.length≤st'.pos∨chAt s st'.pos 41=true)∧st'.pos≤s.length
theorem Wz (s:List UInt8) (k:Nat) (hC:∀ j,k=j+1→Wy s j) (e:ES) (hl:e.pos < s.length) (hk:e.outer.length+k=12) (h124:chAt s e.pos 124=false) (h41:chAt s e.pos 41=false) (h94:chAt s e.pos 94=false) (h36:chAt s e.pos 36=false) (hs:Ca s e.pos=false) :
  match Bc true s (CM s k) e.st with
  | .error q=>DC s e=.error q
  | .ok (st',d)=>DC s e=DC s (e.at st' (e.inner.pcs++[d])):=by
 by_cases h40:chAt s e.pos 40=true
 ·have ha:Bc true s (CM s k) e.st=F9 true s (CM s k) e.st:=by
   unfold Bc;rw [show A2 true s e.st.pos 40=true from h40];rfl
  rw [ha,BF s e hl];unfold F9;have hst:Am s e=(if e.outer.length=12 then .error (4,e.pos) else .ok { e with pos:=e.pos+1,groups:=e.groups+1,outer:=e.outer++[e.inner],inner:=⟨e.pos,e.groups+1,[],[]⟩ }):=by
   unfold Am;rw [h124,h40];rfl
  rw [hst];cases k with
  | zero=>rw [if_pos (by omega)];rfl
  | succ j=>
   rw [if_neg (by omega)];simp only [CM];have hR:=hC j rfl (s.length+1) { e with pos:=e.pos+1,groups:=e.groups+1,outer:=e.outer++[e.inner],inner:=⟨e.pos,e.groups+1,[],[]⟩ } hl (by show _ < _+(e.pos+1);omega) (by show (e.outer++[e.inner]).length+j=12;rw [Aee,List.length_singleton];omega) rfl;have hreg:C0 true s j { e.st with pos:=e.st.pos+AY true,opened:=e.st.opened+1 }=As true s (CM s j) false (s.length+1) (⟨e.pos+1,e.groups+1,e.closed,e.marks⟩:ReSt) []:=Acc s j _;rw [hreg];have hR':(match As true s (CM s j) false (s.length+1) (⟨e.pos+1,e.groups+1,e.closed,e.marks⟩:ReSt) [] with
    | .error q=>DC s { e with pos:=e.pos+1,groups:=e.groups+1,outer:=e.outer++[e.inner],inner:=⟨e.pos,e.groups+1,[],[]⟩ }=.error q
    | .ok (st',d)=>∃ b p,Cl (b++[Bu p])=d∧DC s { e with pos:=e.pos+1,groups:=e.groups+1,outer:=e.outer++[e.inner],inner:=⟨e.pos,e.groups+1,[],[]⟩ }=DC s (({ e with pos:=e.pos+1,groups:=e.groups+1,outer:=e.outer++[e.inner],inner:=⟨e.pos,e.groups+1,[],[]⟩ }:ES).lv st' b p)∧(s.length≤st'.pos∨chAt s st'.pos 41=true)∧st'.pos≤s.length):=hR
   clear hR hreg;cases hc:As true s (CM s j) false (s.length+1) (⟨e.pos+1,e.groups+1,e.closed,e.marks⟩:ReSt) [] with
   | error q=>rw [hc] at hR';exact hR'
   | ok q=>
    obtain ⟨st',d⟩:=q;rw [hc] at hR';obtain ⟨b,p,hd,he,hend,hle⟩:=hR';simp only;rw [he];cases h41':A2 true s st'.pos 41 with
    | true=>
     have c41:chAt s st'.pos 41=true:=h41';have hlt:st'.pos < s.length:=(BI c41).1;rw [if_pos rfl,BF s _ (show st'.pos < s.length from hlt)];have hs2:Am s (({ e with pos:=e.pos+1,groups:=e.groups+1,outer:=e.outer++[e.inner],inner:=⟨e.pos,e.groups+1,[],[]⟩ }:ES).lv st' b p)=.ok (e.at { st' with pos:=st'.pos+AY true,closed:=st'.closed++[(e.st.opened:Int)+1] } (e.inner.pcs++[.group ((e.st.opened:Int)+1) d])):=by
      unfold Am;rw [show (({ e with pos:=e.pos+1,groups:=e.groups+1,outer:=e.outer++[e.inner],inner:=⟨e.pos,e.groups+1,[],[]⟩ }:ES).lv st' b p).pos=st'.pos from rfl,BD (show byt s st'.pos≠124 by rw [(BI c41).2];decide),BD (show byt s st'.pos≠40 by rw [(BI c41).2];decide),c41];simp only [Bool.false_eq_true,if_false,if_true];rw [show (({ e with pos:=e.pos+1,groups:=e.groups+1,outer:=e.outer++[e.inner],inner:=⟨e.pos,e.groups+1,[],[]⟩ }:ES).lv st' b p).outer=e.outer++[e.inner] from rfl,List.getLast?_concat,List.dropLast_concat];simp only;rw [←hd];rfl
     rw [hs2]
    | false=>
     rw [if_neg (by decide)];have hlen:s.length≤st'.pos:=by
      rcases hend with h | h
      ·exact h
      ·rw [show chAt s st'.pos 41=false from h41'] at h;cases h
     simp only;rw [Kg s _ (show s.length≤st'.pos from hlen)];have:(e.outer++[e.inner]).isEmpty=false:=by cases e.outer <;> rfl
     show (if (e.outer++[e.inner]).isEmpty=true then _ else _)=_;rw [this];rfl
 ·have h40':chAt s e.pos 40=false:=by simpa using h40
  have ha:Bc true s (CM s k) e.st=Bc true s none e.st:=by
   unfold Bc;rw [show A2 true s e.st.pos 40=false from h40'];rfl
  rw [ha,BF s e hl];have hst:Am s e=(match Bc true s none e.st with
    | .error q=>.error q
    | .ok (st,d)=>.ok (e.at st (e.inner.pcs++[d]))):=by
   unfold Am;rw [h124,h40',h41,h94,h36,hs];rfl
  rw [hst];cases Bc true s none e.st with
  | error q=>rfl
  | ok q=>rfl
theorem Qp (s:List UInt8) (k:Nat) (hC:∀ j,k=j+1→Wy s j) (begin:Nat):∀ (n:Nat) (e:ES),e.pos≤s.length→s.length < n+e.pos→e.outer.length+k=12→(A0 e.inner.pcs=true∨repAt true s e.pos=.none)→
  match branchM true s (CM s k) false begin n e.st e.inner.pcs (A0 e.inner.pcs) with
  | .error q=>DC s e=.error q
  | .ok (st',d)=>∃ p,Bu p=d∧DC s e=DC s (e.at st' p):=by
 intro n;induction n with
 | zero=>intro e h1 h2;omega
 | succ n ih=>
  intro e h1 h2 hk hf;have hpos:e.st.pos=e.pos:=rfl;rw [branchM,hpos];by_cases hend:(decide (s.length≤e.pos) || A2 true s e.pos 124 || (A2 true s e.pos 41 && !false))=true
  ·rw [if_pos hend];exact ⟨e.inner.pcs,rfl,rfl⟩
  ·rw [if_neg hend];simp only [Bool.or_eq_true,decide_eq_true_eq,Bool.not_false,Bool.and_true,not_or,Bool.not_eq_true] at hend;obtain ⟨⟨hlt,h124⟩,h41⟩:=hend;have hl:e.pos < s.length:=by omega
   have c124:chAt s e.pos 124=false:=h124;have c41:chAt s e.pos 41=false:=h41;by_cases h94:chAt s e.pos 94=true
   ·rw [if_pos (by rw [h94];rfl)];have hst:Am s e=.ok (e.add (e.pos+1) .start):=by
     unfold Am;rw [c124,BD (show byt s e.pos≠40 by rw [(BI h94).2];decide),c41,h94];rfl
    have hi:=ih (e.add (e.pos+1) .start) hl (by show _ < n+(e.pos+1);omega) hk (.inl (Eu _ _));rw [BF s e hl,hst];rw [show (e.add (e.pos+1) .start).inner.pcs=e.inner.pcs++[.start] from rfl,Eu] at hi;exact hi
   ·have c94:chAt s e.pos 94=false:=by simpa using h94
    rw [if_neg (by rw [c94];simp)];by_cases h36:chAt s e.pos 36=true
    ·rw [if_pos (by rw [h36];rfl)];have hst:Am s e=.ok (e.add (e.pos+1) .fin):=by
      unfold Am;rw [c124,BD (show byt s e.pos≠40 by rw [(BI h36).2];decide),c41,c94,h36];rfl
     have hi:=ih (e.add (e.pos+1) .fin) hl (by show _ < n+(e.pos+1);omega) hk (.inl (Eu _ _));rw [BF s e hl,hst];rw [show (e.add (e.pos+1) .fin).inner.pcs=e.inner.pcs++[.fin] from rfl,Eu] at hi;exact hi
    ·have c36:chAt s e.pos 36=false:=by simpa using h36
     rw [if_neg (by rw [c36];simp)];have hsg:(A2 true s e.pos 123 || A2 true s e.pos 43 || A2 true s e.pos 63 || (true && chAt s e.pos 42))=Ca s e.pos:=by
      unfold Ca;simp only [A2,if_true,Bool.true_and];cases chAt s e.pos 123 <;> cases chAt s e.pos 43 <;> cases chAt s e.pos 63 <;> cases chAt s e.pos 42 <;> rfl
     rw [hsg];by_cases hfr:(A0 e.inner.pcs && Ca s e.pos)=true
     ·rw [if_pos hfr];rw [Bool.and_eq_true] at hfr;have hst:Am s e=.error (10,e.pos):=by
       obtain ⟨_,k1,k2,k3,k4,k5⟩:=Fo hfr.2;unfold Am;rw [k1,k2,k3,k4,k5,hfr.2,hfr.1];rfl
      rw [BF s e hl,hst]
     ·rw [if_neg hfr];have hns:Ca s e.pos=false:=by
       rcases hf with hf | hf
       ·rw [hf,Bool.true_and] at hfr;simpa using hfr
       ·exact Zq hf
      have hat:=Wz s k hC e hl hk c124 c41 c94 c36 hns;cases ha:Bc true s (CM s k) e.st with
      | error q=>rw [ha] at hat;exact hat
      | ok q=>
       obtain ⟨st1,d1⟩:=q;rw [ha] at hat
       simp only at hat ⊢;have m1:=DJ true s (CM s k) (Ki s k).1 e.st st1 d1 hl ha;obtain ⟨_,hir,_⟩:=Fe true s (CM s k) (Ki s k).2 _ _ _ ha;have hrr:=Zr s (s.length+1) st1 d1 e e.inner.pcs m1.2 (by omega) hir;cases hr:DI true s (s.length+1) st1 d1 with
       | error q=>rw [hr] at hrr;rw [hat];exact hrr
       | ok q=>
        obtain ⟨st2,d2⟩:=q;rw [hr] at hrr;obtain ⟨hrr,hir2⟩:=hrr;have m2:=Gd true s _ _ _ _ _ m1.2 hr;have hfz:A0 (e.inner.pcs++[d2])=false:=L7 hir2;have hi:=ih (e.at st2 (e.inner.pcs++[d2])) m2.2 (by show _ < n+st2.pos;have:e.st.pos=e.pos:=rfl;omega) hk (.inr (Nx true s _ _ _ _ _ hr));rw [show (e.at st2 (e.inner.pcs++[d2])).inner.pcs=e.inner.pcs++[d2] from rfl,hfz] at hi;rw [hat,hrr];exact hi
theorem Kj (s:List UInt8) (k:Nat) (hC:∀ j,k=j+1→Wy s j):Wy s k:=by
 intro n;induction n with
 | zero=>intro e h1 h2;omega
 | succ n ih=>
  intro e h1 h2 hk hp;rw [As];have hb:=Qp s k hC e.st.pos (s.length+1) e h1 (by omega) hk (.inl (by rw [hp];rfl));rw [hp] at hb;cases hbr:branchM true s (CM s k) false e.st.pos (s.length+1) e.st [] true with
  | error q=>rw [show A0 []=true from rfl,hbr] at hb;exact hb
  | ok q=>
   obtain ⟨st1,d1⟩:=q;rw [show A0 []=true from rfl,hbr] at hb;obtain ⟨p,hd,he⟩:=hb;have m1:=Ge true s (CM s k) (Ki s k).1 false e.st.pos _ _ _ _ _ _ h1 hbr;simp only;cases h124:A2 true s st1.pos 124 with
   | true=>
    have c124:chAt s st1.pos 124=true:=h124;have hst:Am s (e.at st1 p)=.ok (e.lv (st1.to (st1.pos+1)) (e.inner.brs++[d1]) []):=by
     unfold Am;rw [show (e.at st1 p).pos=st1.pos from rfl,c124];show Except.ok _=Except.ok _;rw [←hd];rfl
    have hi:=ih (e.lv (st1.to (st1.pos+1)) (e.inner.brs++[d1]) []) (Adh c124) (by show _ < n+(st1.pos+1);have:e.st.pos=e.pos:=rfl;omega) hk rfl;rw [if_pos rfl,he,BF s _ (show st1.pos < _ from (BI c124).1),hst];exact hi
   | false=>
    rw [if_neg (by decide)];refine ⟨e.inner.brs,p,by rw [hd],he,?_,m1.2⟩;rcases NH true s (CM s k) e.st.pos _ _ _ _ _ _ hbr with h | h | h
    ·exact .inl h
    ·rw [h124] at h;cases h
    ·exact .inr h
theorem Zs (s:List UInt8):∀ k,Wy s k:=by
 intro k;induction k with
 | zero=>exact Kj s 0 (fun j hj=>by omega)
 | succ k ih=>exact Kj s (k+1) (fun j hj=>by obtain rfl:k=j:=Nat.succ.inj hj;exact ih)
def Fw:ES:=⟨0,0,[],[],⟨0,0,[],[]⟩,[]⟩
theorem T4 (s:List UInt8) (hl:s.length≤250) :
  match AZ true s with
  | .error q=>DC s Fw=.error q
  | .ok (st,d)=>∃ e,DC s Fw=.ok e∧e.inner.whole=d∧e.marks=st.marks:=by
 rw [G7 true s hl];have hR:=Zs s 12 (s.length+1) Fw (Nat.zero_le _) (by show _ < _+0;omega) rfl rfl;have hc:As true s (CM s 12) false (s.length+1) Fw.st Fw.inner.brs=As true s (some (C0 true s 11)) false (s.length+1) Ej []:=rfl;rw [hc] at hR;cases h:As true s (some (C0 true s 11)) false (s.length+1) Ej [] with
 | error q=>rw [h] at hR;exact hR
 | ok q=>
  obtain ⟨st,d⟩:=q;rw [h] at hR;obtain ⟨b,p,hd,he,hend,hle⟩:=hR;unfold Fu;simp only;cases h41:A2 true s st.pos 41 with
  | true=>
   have c41:chAt s st.pos 41=true:=h41;rw [if_pos rfl];simp only;rw [he,BF s _ (show st.pos < _ from (BI c41).1)];have hst:Am s (Fw.lv st b p)=.error (8,st.pos):=by
    unfold Am;rw [show (Fw.lv st b p).pos=st.pos from rfl,BD (show byt s st.pos≠124 by rw [(BI c41).2];decide),BD (show byt s st.pos≠40 by rw [(BI c41).2];decide),c41];rfl
   rw [hst]
  | false=>
   rw [if_neg (by decide)];simp only;have hlen:s.length≤st.pos:=by
    rcases hend with h | h
    ·exact h
    ·rw [show chAt s st.pos 41=false from h41] at h;cases h
   refine ⟨Fw.lv st b p,?_,hd,rfl⟩;rw [he,Kg s _ (show s.length≤st.pos from hlen)];rfl
end
section
def LvOk (k:Nat) (v:Lv):Prop:=v.pcs.all inCat=true∧v.brs.all inAlt=true∧v.pcs.length≤k∧v.brs.length≤k∧v.num≤k
theorem LvOk.up {k j:Nat} {v:Lv} (h:LvOk k v) (hj:k≤j):LvOk j v:=⟨h.1,h.2.1,Aed h.2.2.1 hj,Aed h.2.2.2.1 hj,Aed h.2.2.2.2 hj⟩
structure EOk (s:List UInt8) (e:ES):Prop where
 pos:e.pos≤s.length
 inner:LvOk e.pos e.inner
 outer:∀ v∈e.outer,LvOk e.pos v
 marks:e.marks.length≤e.pos
 groups:e.groups≤e.pos
 deep:e.outer.length≤12
 closed:e.closed.length≤e.pos
theorem Zt (s:List UInt8):EOk s Fw:=⟨Nat.zero_le _,⟨rfl,rfl,Aec _,Aec _,Aec _⟩,fun _ h=>(by cases h),Aec _,Aec _,Nat.zero_le _,Aec _⟩
theorem Kk (l:List Nd) (h:l.all inCat=true):inAlt (Bu l)=true:=by
 unfold Bu;rw [EO l h];rcases l with _ | ⟨x,_ | ⟨y,ys⟩⟩
 ·rfl
 ·rw [List.all_cons,Bool.and_eq_true] at h;exact R9 h.1
 ·rfl
theorem LvOk.add {k j:Nat} {v:Lv} {d:Nd} (h:LvOk k v) (hd:inCat d=true) (hj:k < j):LvOk j { v with pcs:=v.pcs++[d] }:=
 ⟨BO h.1 hd,h.2.1,by show (v.pcs++[d]).length≤j;rw [Aee];have:=h.2.2.1;simp;omega,by show v.brs.length≤j;have:=h.2.2.2.1;omega,by show v.num≤j;have:=h.2.2.2.2;omega⟩
theorem LvOk.end {k j:Nat} {v:Lv} (h:LvOk k v) (hj:k < j):LvOk j { v with brs:=v.brs++[Bu v.pcs],pcs:=[] }:=
 ⟨rfl,BO h.2.1 (Kk _ h.1),Nat.zero_le _,by show (v.brs++[Bu v.pcs]).length≤j;rw [Aee];have:=h.2.2.2.1;simp;omega,by show v.num≤j;have:=h.2.2.2.2;omega⟩
theorem LvOk.rep {k j:Nat} {v:Lv} {mn mx:Int} (h:LvOk k v) (hj:k < j):LvOk j { v with pcs:=v.pcs.dropLast++[.rep (v.pcs.getLastD .empty) mn mx] }:=by
 refine ⟨BO ?_ rfl,h.2.1,?_,?_,?_⟩
 ·have:=h.1;rw [List.all_eq_true] at this ⊢;exact fun x hx=>this x (List.dropLast_subset _ hx)
 ·show (v.pcs.dropLast++[_]).length≤j;rw [Aee,List.length_dropLast];have:=h.2.2.1;simp;omega
 ·show v.brs.length≤j;have:=h.2.2.2.1;omega
 ·show v.num≤j;have:=h.2.2.2.2;omega
theorem Iz (s:List UInt8) (st st':ReSt) (d:Nd) (h:Bc true s none st=.ok (st',d)):st'.opened=st.opened:=by
 unfold Bc at h;split at h
 ·unfold F9 at h;cases h
 ·split at h
  ·cases h
  ·split at h
   ·split at h
    ·injection h with h;injection h with h1 _;subst h1;rfl
    ·cases h
   ·split at h
    ·injection h with h;injection h with h1 _;subst h1;rfl
    ·split at h
     ·split at h
      ·unfold Ds at h;split at h
       ·split at h
        ·injection h with h;injection h with h1 _;subst h1;rfl
        ·cases h
       ·split at h
        ·cases h
        ·rename_i x m _;injection h with h;injection h with h1 _;subst h1;cases m <;> rfl
      ·cases h
     ·injection h with h;injection h with h1 _;subst h1;rfl
theorem I0 (s:List UInt8) (st st':ReSt) (d:Nd) (h:Bc true s none st=.ok (st',d)):st'.closed=st.closed:=by
 unfold Bc at h;split at h
 ·unfold F9 at h;cases h
 ·split at h
  ·cases h
  ·split at h
   ·split at h
    ·injection h with h;injection h with h1 _;subst h1;rfl
    ·cases h
   ·split at h
    ·injection h with h;injection h with h1 _;subst h1;rfl
    ·split at h
     ·split at h
      ·unfold Ds at h;split at h
       ·split at h
        ·injection h with h;injection h with h1 _;subst h1;rfl
        ·cases h
       ·split at h
        ·cases h
        ·rename_i x m _;injection h with h;injection h with h1 _;subst h1;cases m <;> rfl
      ·cases h
     ·injection h with h;injection h with h1 _;subst h1;rfl
theorem AR (s:List UInt8) (e e':ES) (h:EOk s e) (hl:e.pos < s.length) (hs:Am s e=.ok e'):EOk s e':=by
 obtain ⟨hm,hp⟩:=If s e e' hl hs;unfold Am at hs;split at hs
 ·injection hs with hs;subst hs;exact ⟨hp,h.inner.end hm,fun v hv=>(h.outer v hv).up (Aeg hm),Aed h.marks (Aeg hm),Aed h.groups (Aeg hm),h.deep,Aed h.closed (Aeg hm)⟩
 ·split at hs
  ·split at hs
   ·cases hs
   ·rename_i h12;injection hs with hs;subst hs;refine ⟨hp,⟨rfl,rfl,Nat.zero_le _,Nat.zero_le _,Nat.succ_le_succ h.groups⟩,fun v hv=>?_,Aed h.marks (Aeg hm),Nat.succ_le_succ h.groups,?_,Aed h.closed (Aeg hm)⟩
    ·rcases Aem.1 hv with hv | hv
     ·exact (h.outer v hv).up (Aeg hm)
     ·rw [List.mem_singleton] at hv;subst hv;exact h.inner.up (Aeg hm)
    ·show (e.outer++[e.inner]).length≤12;rw [Aee,List.length_singleton];have:=h.deep;omega
  ·split at hs
   ·split at hs
    ·cases hs
    ·rename_i v hv;injection hs with hs;subst hs;have hmem:v∈e.outer:=List.mem_of_getLast? hv;refine ⟨hp,(h.outer v hmem).add rfl hm,fun u hu=>(h.outer u (List.dropLast_subset _ hu)).up (Aeg hm),Aed h.marks (Aeg hm),Aed h.groups (Aeg hm),?_,?_⟩
     ·show e.outer.dropLast.length≤12;rw [List.length_dropLast];have:=h.deep;omega
     ·show (e.closed++[(e.inner.num:Int)]).length≤e.pos+1;rw [Aee,List.length_singleton];have:=h.closed;omega
   ·split at hs
    ·injection hs with hs;subst hs;exact ⟨hp,h.inner.add rfl hm,fun v hv=>(h.outer v hv).up (Aeg hm),Aed h.marks (Aeg hm),Aed h.groups (Aeg hm),h.deep,Aed h.closed (Aeg hm)⟩
    ·split at hs
     ·injection hs with hs;subst hs;exact ⟨hp,h.inner.add rfl hm,fun v hv=>(h.outer v hv).up (Aeg hm),Aed h.marks (Aeg hm),Aed h.groups (Aeg hm),h.deep,Aed h.closed (Aeg hm)⟩
     ·split at hs
      ·split at hs
       ·cases hs
       ·split at hs
        ·injection hs with hs;subst hs;exact ⟨hp,h.inner.rep hm,fun v hv=>(h.outer v hv).up (Aeg hm),Aed h.marks (Aeg hm),Aed h.groups (Aeg hm),h.deep,Aed h.closed (Aeg hm)⟩
        ·cases hs
      ·split at hs
       ·cases hs
       ·rename_i st d ha;injection hs with hs;subst hs;have hmk:=NM true s none (fun f hf=>(by cases hf)) (fun f hf=>(by cases hf)) e.st st d hl ha;obtain ⟨_,_,hic⟩:=Fe true s none (fun f hf=>by cases hf) _ _ _ ha;have hop:st.opened=e.groups:=Iz s e.st st d ha;refine ⟨hp,h.inner.add hic hm,fun v hv=>(h.outer v hv).up (Aeg hm),?_,?_,h.deep,?_⟩
        ·show st.marks.length≤st.pos;unfold OW at hmk;have h1:=h.marks;have h2:e.st.pos=e.pos:=rfl;have h3:e.st.marks=e.marks:=rfl;rw [h2,h3] at hmk;omega
        ·show st.opened≤st.pos;rw [hop];have:=h.groups;have hm':e.pos < st.pos:=hm;omega
        ·show st.closed.length≤st.pos;rw [I0 s e.st st d ha];have:=h.closed;have hm':e.pos < st.pos:=hm;show e.closed.length≤st.pos;omega
end
section
open Go Go.RowKit
theorem T7:∃ i,Tryz.prog.info? 21=some i∧i.zero=some (.int .i32 0)∧i.size=1∧i.bytes=4:=by
 have h:(Tryz.prog.info? 21).map (fun i=>(i.zero,i.size,i.bytes))=some (some (.int .i32 0),1,4):=by kernel_rfl
 obtain ⟨i,hi,he⟩:=Option.map_eq_some_iff.1 h;injection he with h1 h2;injection h2 with h2 h3;exact ⟨i,hi,h1,h2,h3⟩
def Gw (l:List UInt8):List Value:=l.map fun b=>.int .i32 (b.toNat:Int)
theorem L8 (l:List UInt8):(Gw l).length=l.length:=by simp [Gw]
theorem W7 (l:List UInt8) (k:Nat) (h:k < l.length):txt (Ao l)=txt (Ao (l.take k)++(Di l[k]++Ao (l.drop (k+1)))):=by
 conv=>lhs;rw [←List.take_append_drop k l,←List.getElem_cons_drop (by omega:k < l.length)]
 congr 1
 unfold Ao;rw [List.flatMap_append,List.flatMap_cons]
theorem TA (l:List UInt8) (k:Nat) (h:k < l.length):Ao (l.take (k+1))=Ao (l.take k)++Di l[k]:=by
 rw [List.take_succ_eq_append_getElem h,J1]
theorem TB (l:List UInt8) (k:Nat):(Ao (l.take k)).length≤(Ao l).length:=by
 have h:=congrArg (fun x=>(Ao x).length) (List.take_append_drop k l);simp only [Ao,List.flatMap_append,Aee] at h;unfold Ao;omega
theorem TC (s:ByteArray) (w:World) (hs:s.size≤250) :
  Calls Tryz.prog 116 #[.string s] w fun e w'=>∃ v,e=.returned v∧w'.ownsRow w.heap.size 21 1 v s.size (Gw s.data.toList)∧Below w.heap.size w w':=by
 obtain ⟨i0,hi,hz0,hz1,hz2⟩:=T7;have hL:s.data.toList.length=s.size:=by simp
 obtain ⟨L,hLe⟩:∃ L,L=s.data.toList:=⟨_,rfl⟩;rw [←hLe] at hL ⊢;have hwd:=Ww s w (by omega);rw [←hLe] at hwd;have HL:=Ad5 hL;have HS:=Ad5 hs;clear hL hs hLe;go_enter Tryz.func116,Tryz.ntmps116;go_wp2_with fail
 refine hwd.mono ?_;rintro e w1 ⟨rfl,hW⟩;have hW1:=hW.size;have hB0:Below w.heap.size w (w1.alloc (.stringIter (txt (Ao L)) 0)):=hW.alloc hW1 _;have hI0:(w1.alloc (.stringIter (txt (Ao L)) 0)).heap[w1.heap.size]?=some (.stringIter (txt (Ao L)) 0):=World.iter_heap w1 (txt (Ao L)) 0;have HT:=Ad5 (show (txt (Ao L)).size=(Ao L).length by rw [←CR]);clear hwd;go_wp2_with fail
 go_loopw [3] (fun sv wr=>∃ (k:Nat) (v:Value),k≤L.length∧v=sv∧wr.ownsRow w.heap.size 21 1 v k (Gw (L.take k))∧v.ownBlock≠some w1.heap.size∧wr.heap[w1.heap.size]?=some (.stringIter (txt (Ao L)) (Ao (L.take k)).length)∧Below w.heap.size w wr) (fun _ wr=>(Ao L).length - wr.iterPos w1.heap.size)
 case atStart=>exact ⟨0,_,Nat.zero_le _,rfl,World.ownsRow_nil _ _ _ _,by simp [Value.ownBlock],hI0,hB0⟩
 case round=>
  obtain ⟨k,v,hk,hv,hown,hne,hit,hbw⟩:=hrel;subst hv;have hsz:w1.heap.size < wr.heap.size:=(Array.getElem?_eq_some_iff.1 hit).1;have hl250:L.length≤250:=by rw [HL.out];exact HS.out
  by_cases hlt:k < L.length
  ·have hw1:=La L[k];have hwt:=TA L k hlt;have hwm:=TB L (k+1);have hpos:(Ao (L.take k)).length < (txt (Ao L)).size:=by
    rw [HT.out];rw [hwt,Aee] at hwm;omega
   have hdec:Utf8.decode (txt (Ao L)) (Ao (L.take k)).length=(L[k].toNat,(Di L[k]).length):=by
    rw [W7 L k hlt];exact Nv (L.take k) L[k] (L.drop (k+1))
   have hnx:∀ ty,(Instr.next (.pointer (some ⟨w1.heap.size,0,none⟩)) true ty).run Tryz.prog wr=_:=fun ty=>Lib.run_next_any_at wr w1.heap.size (txt (Ao L)) (Ao (L.take k)).length ty hit hpos
   rw [hdec] at hnx;simp only at hnx;have hne2:(Ao (L.take k)).length+(Di L[k]).length=(Ao (L.take (k+1))).length:=by rw [hwt,Aee]
   rw [hne2] at hnx;have hit2:=Lib.iterAt_heap wr w1.heap.size (txt (Ao L)) _ (Ao (L.take (k+1))).length hit;have hbw2:=Lib.below_iterAt hbw (k:=w1.heap.size) hW1 (txt (Ao L)) (Ao (L.take (k+1))).length;have hsz2:w.heap.size≤(wr.iterAt w1.heap.size (txt (Ao L)) (Ao (L.take (k+1))).length).heap.size:=by rw [Lib.iterAt_size];omega
   have hown2:(wr.iterAt w1.heap.size (txt (Ao L)) (Ao (L.take (k+1))).length).ownsRow w.heap.size 21 1 v k (Gw (L.take k)):=Aa hown (fun g hg=>Lib.iterAt_other _ _ _ _ _ (fun e=>hne (by rw [hg,e])));have Hsn:=Ad5 (show Gw (L.take (k+1))=Gw (L.take k)++[.int .i32 (L[k].toNat:Int)] by unfold Gw;rw [List.take_succ_eq_append_getElem hlt,List.map_append];rfl);have Hm:=Ad5 (show (Ao L).length - (Ao (L.take (k+1))).length < (Ao L).length - (Ao (L.take k)).length by rw [hwt,Aee] at hwm ⊢;omega);have hpre:(wr.iterAt w1.heap.size (txt (Ao L)) (Ao (L.take (k+1))).length).heap.size=wr.heap.size:=Lib.iterAt_size _ _ _ _;have Hit:=Ad5 hit;clear hit hown hbw hwt hwm hw1 hdec hne2 hpos;generalize (L[k].toNat:Int)=z at *;generalize wr.iterAt w1.heap.size (txt (Ao L)) (Ao (L.take (k+1))).length=wq at *;have hnw:∀ j u,[Value.int .i32 z][j]?=some u→(wq.alloc (.cells #[.int .i32 z] 21)).cell? ((⟨wq.heap.size,0,none⟩:Addr).add j)=some u:=by
    intro j u hu
    match j,hu with
    | 0,hu=>simp at hu;subst hu;simp [Addr.add]
   have hbA:=hbw2.alloc hsz2 (.cells #[.int .i32 z] 21);have hitA:(wq.alloc (.cells #[.int .i32 z] 21)).heap[w1.heap.size]?=some (.stringIter (txt (Ao L)) (Ao (L.take (k+1))).length):=(((Aeh wq.heap.size wq).alloc (Aec _) _).block w1.heap.size (by omega)).trans hit2;have hownA:=hown2.alloc (.cells #[.int .i32 z] 21);have Hlow:=Ad5 (Bk hown2);have Hpre:=Ad5 hpre;have hsz3:w1.heap.size < wq.heap.size:=by omega
   clear hpre;go_wp2_with (at_builtin;refine Af _ rfl _ _ 204 rfl w.heap.size 21 i0 (.int .i32 0) 1 4 Tryz.underlying204 hi hz0 hz1 hz2 rfl (by decide) _ _ _ rfl hownA (some ⟨wq.heap.size,0,none⟩) 1 1 [.int .i32 z] rfl rfl (fun _=>⟨_,rfl,hnw⟩) (by intro y hy;simp at hy;subst hy;rfl) (by unfold maxLen;omega) (by omega) (by simp;omega) ?_;intro v3 w3 hown3 hgrow hat)
   have hb3:=hbA.grown hgrow hbA.size Hlow.out;have hit3:w3.heap[w1.heap.size]?=some (.stringIter (txt (Ao L)) (Ao (L.take (k+1))).length):=(hgrow.block w1.heap.size (by simp;omega) (fun e=>hne e.symm)).trans hitA;have hne3:v3.ownBlock≠some w1.heap.size:=by
    rcases hat with h | h
    ·rw [h];exact hne
    ·rw [h];intro e;injection e with e;simp at e;omega
   go_wp2_with fail
   go_roundw
   case rel=>exact ⟨k+1,v3,by omega,rfl,by rw [Hsn.out];exact hown3,hne3,hit3,hb3⟩
   case measure=>
    simp only [World.iterPos,hit3,Hit.out];exact Hm.out
  ·obtain rfl:k=L.length:=by omega
   rw [List.take_length] at hown hit;have hnp:¬ (Ao L).length < (txt (Ao L)).size:=by rw [HT.out];omega
   have hnx:∀ ty,(Instr.next (.pointer (some ⟨w1.heap.size,0,none⟩)) true ty).run Tryz.prog wr=_:=fun ty=>Lib.run_next_end_at wr w1.heap.size (txt (Ao L)) _ ty hit hnp
   have HO:=Ad5 hown;have HN:=Ad5 HL.out;clear hown;go_wp2_with fail
   go_ret;exact ⟨v,rfl,by rw [←HN.out];exact HO.out,hbw⟩
def ownB (v:Value):List Nat:=match v.ownBlock with | some b=>[b] | none=>[]
theorem AS {v:Value} {b:Nat}:b∈ownB v ↔ v.ownBlock=some b:=by
 unfold ownB;cases h:v.ownBlock with
 | none=>simp
 | some g=>simp [eq_comm]
def NR (lo:Nat) (own:List Nat) (w:World) (l:List Nd) (v:Value):Prop:=
 ∃ us:List Value,us.length=l.length∧w.ownsRow lo 38 1 v l.length us∧(∀ i (h:i < l.length) (h2:i < us.length),NdX (fun b=>lo≤b∧b ∉ own) w l[i] us[i])∧∀ u∈us,u.oneCell'=true
theorem NR.nil (lo:Nat) (own:List Nat) (w:World):NR lo own w [] (.slice none 0 0):=⟨[],rfl,World.ownsRow_nil _ _ _ _,fun i h=>absurd h (by simp),fun u h=>absurd h (by simp)⟩
theorem NR.keep {lo:Nat} {own own':List Nat} {w w':World} {l:List Nd} {v:Value} (h:NR lo own w l v) (hs:w.heap.size≤w'.heap.size) (hv:∀ g,v.ownBlock=some g→w'.heap[g]?=w.heap[g]?)
  (hk:∀ b,b < w.heap.size→b ∉ own→w'.heap[b]?=w.heap[b]?∧b ∉ own'):NR lo own' w' l v:=by
 obtain ⟨us,h1,h2,h3,h4⟩:=h;exact ⟨us,h1,Aa h2 hv,fun i hi hi2=>(h3 i hi hi2).keep hs (fun b hb hlt=>⟨⟨hb.1,(hk b hlt hb.2).2⟩,fun o=>Aek (w:=w) (a:=⟨b,o,none⟩) (hk b hlt hb.2).1⟩),h4⟩
theorem NR.lt {lo:Nat} {own:List Nat} {w:World} {l:List Nd} {v:Value} (h:NR lo own w l v):∀ g,v.ownBlock=some g→lo≤g∧g < w.heap.size:=by
 obtain ⟨us,h1,h2,h3,h4⟩:=h;exact h2.lt
structure Touch (p:Nat) (v:Value) (w w':World):Prop where
 os:w'.os=w.os
 tape:w'.tape=w.tape
 output:w'.output=w.output
 size:w.heap.size≤w'.heap.size
 block:∀ b,b < w.heap.size→b≠p→v.ownBlock≠some b→w'.heap[b]?=w.heap[b]?
theorem Touch.refl (p:Nat) (v:Value) (w:World):Touch p v w w:=⟨rfl,rfl,rfl,Aec _,fun _ _ _ _=>rfl⟩
theorem DS {w w':World} {b:Nat} {cs:Array Value} {T:TypeId} {r:Option Nat} (h:Blk w b cs T) (hg:w.grownBy w' r) (hr:r≠some b):Blk w' b cs T:=by
 have hlt:=h.lt;unfold Blk at h ⊢;rw [hg.block b hlt (fun e=>hr e.symm)];exact h
theorem Ba {w:World} {B:Nat} {e:TypeId} {size n:Nat} {v:Value} {us:List Value} (h:w.ownsRow B e size v n us):∃ a c,v=.slice a n c:=by
 rcases h.2 with ⟨rfl,h0⟩ | ⟨g,cap,cur,rfl,_⟩
 ·exact ⟨none,0,by rw [h0]⟩
 ·exact ⟨_,_,rfl⟩
abbrev EC (c0 c1 c2 c3 c4 c5 bv pv c8 c9 c10:Value):Array Value:=#[c0,c1,c2,c3,c4,c5,bv,pv,c8,c9,c10]
theorem Ov (lo p:Nat) (own:List Nat) (c0 c1 c2 c3 c4 c5 bv pv c8 c9 c10:Value) (l:List Nd) (d:Nd) (u:Value) (w:World) (hlo:lo≤p) (hb:Blk w p (EC c0 c1 c2 c3 c4 c5 bv pv c8 c9 c10) 211) (hr:NR lo own w l pv) (hp:pv.ownBlock≠some p) (hpo:p∈own) (hin:∀ g,pv.ownBlock=some g→g∈own) (hu:NdX (fun b=>lo≤b∧b ∉ own) w d u) (hu1:u.oneCell'=true) (hl:l.length≤1000) :
  Calls Tryz.prog 133 #[.pointer (some ⟨p,4,none⟩),u] w fun e w'=>∃ pv',e=.returned (.tuple #[])∧NR lo (ownB pv'++own) w' (l++[d]) pv'∧Blk w' p (EC c0 c1 c2 c3 c4 c5 bv pv' c8 c9 c10) 211∧Touch p pv w w'∧(pv'.ownBlock=pv.ownBlock∨∃ g,w.heap.size≤g∧pv'.ownBlock=some g):=by
 obtain ⟨i0,hi,hz0,hz1,hz2⟩:=DR;obtain ⟨us,h1,h2,h3,h4⟩:=hr;have hplt:=hb.lt;have k7:w.cell? ⟨p,7,none⟩=some pv:=(hb.cell 7).trans rfl;have hlow:=fun g hg=>(h2.lt g hg)
 have hA:=(Aeh w.heap.size w).alloc (Aec _) (.cells #[u] 38);have h2A:=h2.alloc (.cells #[u] 38);have hsh:(∃ T q,u=.iface T q)∨u=.nilIface:=hu.elim fun _ h=>Ax h
 have hnw:∀ j x,[u][j]?=some x→(w.alloc (.cells #[u] 38)).cell? ((⟨w.heap.size,0,none⟩:Addr).add j)=some x:=by
  intro j x hx
  match j,hx with
  | 0,hx=>simp at hx;subst hx;simp [Addr.add]
 have Hb:=Ad5 hb;have H3:=Ad5 h3;have H4:=Ad5 h4;have Hu:=Ad5 hu;have Hin:=Ad5 hin;have Hlow:=Ad5 hlow;have H1:=Ad5 h1;clear hb h3 h4 hu hin hlow h1;have hm1:l.length+1≤maxLen:=by unfold maxLen;omega
 have hm2:(l.length+1) * 16≤140737488355328:=by omega
 have hlw:lo≤w.heap.size:=Aed hlo (Aeg hplt);rcases hsh with ⟨T1,q1,rfl⟩ | rfl
 all_goals
  go_enter Tryz.func133,Tryz.ntmps133;go_wp2_with (at_builtin;refine Af _ rfl _ _ 84 rfl lo 38 i0 .nilIface 1 16 Tryz.underlying84 hi hz0 hz1 hz2 rfl (by decide) pv l.length us rfl h2A (some ⟨w.heap.size,0,none⟩) 1 1 [_] rfl rfl (fun _=>⟨_,rfl,hnw⟩) (by intro y hy;simp at hy;subst hy;exact hu1) hm1 hm2 (by simp;omega) ?_;intro v6 w6 hown6 hgrow6 hat6;obtain ⟨a6,c6,rfl⟩:=Ba hown6;have hB6:Blk w6 p (EC c0 c1 c2 c3 c4 c5 bv pv c8 c9 c10) 211:=DS (Hb.out.alloc _) hgrow6 hp;have z7:=hB6.frozen 7;have k76:w6.cell? ⟨p,7,none⟩=some pv:=(hB6.cell 7).trans rfl)
  have hB7:=hB6.set 7 (.slice a6 (l.length+1) c6);have hown7:(w6.setCell ⟨p,7,none⟩ (.slice a6 (l.length+1) c6)).ownsRow lo 38 1 (.slice a6 (l.length+1) c6) (l.length+1) (us++[_]):=Aa hown6 (fun g hg=>Aei _ _ _ _ (fun e=>by
   rcases hat6 with h | h
   ·exact hp (by rw [←h,hg,e])
   ·rw [h] at hg;injection hg with hg;simp at hg;simp only at e;omega))
  have hT:Touch p pv w (w6.setCell ⟨p,7,none⟩ (.slice a6 (l.length+1) c6)):=⟨hgrow6.os,hgrow6.tape,hgrow6.output,Aed hA.size (Aed hgrow6.size (by simp [World.setCell])),fun b hb h1 h2=>by
   rw [Aei _ _ _ _ (fun e=>h1 e),hgrow6.block b (Aef hb hA.size) (fun e=>h2 e.symm),hA.block b hb]⟩
  have hnew:(Value.slice a6 (l.length+1) c6).ownBlock=pv.ownBlock∨∃ g,w.heap.size≤g∧(Value.slice a6 (l.length+1) c6).ownBlock=some g:=by
   rcases hat6 with h | h
   ·exact .inl h
   ·exact .inr ⟨_,by simp,h⟩
  have hk:∀ b,b < w.heap.size→b ∉ own→(w6.setCell ⟨p,7,none⟩ (.slice a6 (l.length+1) c6)).heap[b]?=w.heap[b]?∧b ∉ ownB (.slice a6 (l.length+1) c6)++own:=fun b hb hbo=>by
   have hbp:b≠p:=fun e=>hbo (e▸hpo)
   have hbv:pv.ownBlock≠some b:=fun e=>hbo (Hin.out b e)
   refine ⟨hT.block b hb hbp hbv,?_⟩;rw [Aem,not_or];refine ⟨fun h=>?_,hbo⟩;rw [AS] at h;rcases hnew with h2 | ⟨g,hg,h2⟩
   ·exact hbv (h2.symm.trans h)
   ·rw [h2] at h;injection h with h;omega
  go_wp2_with fail
  go_end0;refine ⟨.slice a6 (l.length+1) c6,rfl,⟨us++[_],?_,by rw [Aee];exact hown7,?_,?_⟩,hB7,hT,hnew⟩
  ·rw [Aee,Aee,H1.out];rfl
  ·intro i h1 h2;by_cases hlt:i < l.length
   ·rw [List.getElem_append_left hlt,List.getElem_append_left (by rw [H1.out];exact hlt)];exact (H3.out i hlt (by rw [H1.out];exact hlt)).keep hT.size (fun b hb hl=>⟨⟨hb.1,(hk b hl hb.2).2⟩,fun o=>Aek (w:=w) (a:=⟨b,o,none⟩) (hk b hl hb.2).1⟩)
   ·have hi:i=l.length:=by rw [Aee] at h1;simp at h1;omega
    subst hi;rw [List.getElem_append_right (Aec _),List.getElem_append_right (by have:=H1.out;omega)];simp only [H1.out,Nat.sub_self,Ad7];exact Hu.out.keep hT.size (fun b hb hl=>⟨⟨hb.1,(hk b hl hb.2).2⟩,fun o=>Aek (w:=w) (a:=⟨b,o,none⟩) (hk b hl hb.2).1⟩)
  ·intro x hx;rcases Aem.1 hx with h | h
   ·exact H4.out x h
   ·simp at h;subst h;exact hu1
theorem Qq {B:Nat} {w w':World} (h:Below B w w') (n:Nat):Below B w (w'.drewN n):=⟨h.os,h.tape,h.output,h.size,h.block⟩
theorem NR.last {lo:Nat} {own:List Nat} {w:World} {l:List Nd} {v:Value} (h:NR lo own w l v) (h0:0 < l.length):∃ g c u,v=.slice (some ⟨g,0,none⟩) l.length c∧l.length≤c∧g < w.heap.size∧w.cell? ⟨g,l.length - 1,none⟩=some u∧NdX (fun b=>lo≤b∧b ∉ own) w (l.getLastD .empty) u:=by
 obtain ⟨us,h1,h2,h3,h4⟩:=h;obtain ⟨a,cap,rfl,hc,_,hx⟩:=Gh h2 h1;obtain ⟨g,rfl,_,hg,hcell⟩:=hx h0;refine ⟨g,cap,us[l.length - 1]'(by omega),rfl,hc,hg,?_,?_⟩
 ·have:=hcell (l.length - 1) (by omega)
  rwa [Nat.zero_add] at this
 ·have:=h3 (l.length - 1) (by omega) (by omega);rw [List.getLastD_eq_getLast?,List.getLast?_eq_getElem?,List.getElem?_eq_getElem (by omega),Option.getD_some];exact this
theorem RZ {α:Type} (l:List α) (h:0 < l.length):∃ i x,l=i++[x]:=⟨l.dropLast,l.getLast (by intro e;rw [e] at h;simp at h),(List.dropLast_concat_getLast _).symm⟩
theorem NR.put {lo g c:Nat} {own:List Nat} {w:World} {l:List Nd} {d:Nd} {x:Value} (h:NR lo own w l (.slice (some ⟨g,0,none⟩) l.length c)) (h0:0 < l.length) (hg:g∈own) (hx:NdX (fun b=>lo≤b∧b ∉ own) w d x) (hx1:x.oneCell'=true) :
  NR lo own (w.setCell ⟨g,l.length - 1,none⟩ x) (l.dropLast++[d]) (.slice (some ⟨g,0,none⟩) l.length c):=by
 obtain ⟨us,h1,h2,h3,h4⟩:=h;obtain ⟨li,dl,rfl⟩:=RZ l h0;obtain ⟨ui,y,rfl⟩:=RZ us (by omega);have hlen:ui.length=li.length:=by simpa using h1
 have hk:∀ b,b ∉ own→(w.setCell ⟨g,(li++[dl]).length - 1,none⟩ x).heap[b]?=w.heap[b]?:=fun b hb=>Aei _ _ _ _ (fun e=>hb (by rw [e];exact hg))
 have hsz:w.heap.size≤(w.setCell ⟨g,(li++[dl]).length - 1,none⟩ x).heap.size:=by simp [World.setCell]
 have hkeep:∀ d' u,NdX (fun b=>lo≤b∧b ∉ own) w d' u→NdX (fun b=>lo≤b∧b ∉ own) (w.setCell ⟨g,(li++[dl]).length - 1,none⟩ x) d' u:=fun d' u hu=>hu.keep hsz (fun b hb _=>⟨hb,fun o=>Aek (w:=w) (a:=⟨b,o,none⟩) (hk b hb.2)⟩)
 refine ⟨ui++[x],by simp [hlen],?_,?_,?_⟩
 ·rw [List.dropLast_concat];obtain ⟨h2a,h2⟩:=h2;refine ⟨by simp [hlen],?_⟩;rcases h2 with ⟨h,_⟩ | ⟨g',cap,cur,he,hlo,hh,hn,hcap,hcs,htk⟩
  ·cases h
  ·injection he with he _ hc;injection he with he;injection he with he _ _;subst he;subst hc;refine .inr ⟨g,c,cur.setIfInBounds ((li++[dl]).length - 1) x,by simp,hlo,?_,by simpa using hn,hcap,by simpa using hcs,?_⟩
   ·have hb:Blk w g cur 38:=hh;exact hb.set _ x
   ·rw [Array.toList_setIfInBounds];have e1:(li++[d]).length * 1=(li++[dl]).length * 1:=by simp
    rw [e1,List.take_set,htk];have e2:(li++[dl]).length - 1=ui.length:=by simp [hlen]
    rw [e2,List.set_append_right _ _ (Aec _),Nat.sub_self];rfl
 ·intro i hi1 hi2;simp only [List.dropLast_concat] at hi1 ⊢;by_cases hlt:i < li.length
  ·rw [List.getElem_append_left hlt,List.getElem_append_left (by omega)];have:=h3 i (by simp;omega) (by simp;omega);rw [List.getElem_append_left hlt,List.getElem_append_left (by omega)] at this;exact hkeep _ _ this
  ·have hi:i=li.length:=by simp at hi1;omega
   subst hi;rw [List.getElem_append_right (Aec _),List.getElem_append_right (by omega)];simp only [hlen,Nat.sub_self,Ad7];exact hkeep _ _ hx
 ·intro z hz;rcases Aem.1 hz with h | h
  ·exact h4 z (List.mem_append_left _ h)
  ·simp at h;subst h;exact hx1
theorem Ow (l:List Nd) (h:0 < l.length):A0 l=(match l.getLastD .empty with | .start=>true | .fin=>true | _=>false):=by
 unfold A0;rw [List.getLastD_eq_getLast?,List.getLast?_eq_getElem?,List.getElem?_eq_getElem (by omega),Option.getD_some];cases l[l.length - 1] <;> rfl
theorem Dw (lo p:Nat) (own:List Nat) (c0 c1 c2 c3 c4 c5 bv pv c8 c9 c10:Value) (l:List Nd) (w:World) (hb:Blk w p (EC c0 c1 c2 c3 c4 c5 bv pv c8 c9 c10) 211) (hr:NR lo own w l pv) (hl:l.length≤1000) :
  Calls Tryz.prog 145 #[.pointer (some ⟨p,4,none⟩)] w fun e w'=>e=.returned (.bool (A0 l))∧Below w.heap.size w w':=by
 have k7:w.cell? ⟨p,7,none⟩=some pv:=(hb.cell 7).trans rfl;by_cases h0:l.length=0
 ·have hl0:l=[]:=List.length_eq_zero_iff.1 h0;subst hl0;obtain ⟨us,h1,h2,_,_⟩:=hr;obtain ⟨a,c,rfl⟩:=Ba h2;clear hb h2;go_enter Tryz.func145,Tryz.ntmps145;go_wp2_with fail
  go_ret;exact ⟨rfl,Aeh _ _⟩
 ·have e0:((l.length:Int) == 0)=false:=by rw [beq_eq_false_iff_ne];omega
  have e1:(l.length == 0)=false:=by rw [beq_eq_false_iff_ne];omega
  obtain ⟨g,c,u,rfl,hc,hg,hcell,hn⟩:=hr.last (by omega);have hf:=Ow l (by omega);have Ws:IntKind.i64.wrap ((l.length:Int) - 1)=((l.length - 1:Nat):Int):=by rw [Aej _ (by omega)];omega
  have hlt1:((l.length - 1:Nat):Int) < (l.length:Int):=by omega
  have hlt2:l.length - 1 < l.length:=by omega
  have hge:(0:Int)≤((l.length - 1:Nat):Int):=by omega
  have e2:l.isEmpty=false:=by cases l with | nil=>simp at h0 | cons _ _=>rfl
  generalize l.getLastD .empty=x at *;generalize A0 l=R at *;clear hr h0 hb;rcases Ch hn with ⟨rfl,rfl | rfl⟩ | ⟨s,rfl,rfl⟩ | ⟨l',a,cap,rfl,rfl,_⟩ | ⟨l',a,cap,rfl,rfl,_⟩ | ⟨d',mn,mx,v,rfl,rfl,hv⟩ | ⟨num,d',v,rfl,rfl,hv⟩ | ⟨num,rfl,rfl⟩ | ⟨rfl,rfl⟩ | ⟨rfl,rfl⟩
  all_goals
   simp only at hf;subst hf;clear hn
  all_goals
   go_enter Tryz.func145,Tryz.ntmps145;go_wp2_with fail
   go_quiet (fail)
   go_wp2_with fail
   go_ret;exact ⟨rfl,by first | (with_reducible exact Aeh _ _) | (with_reducible exact (Aeh _ _).drew) | (with_reducible exact Qq (Aeh _ _) _)⟩
theorem NR.drewn {lo:Nat} {own:List Nat} {w:World} {l:List Nd} {v:Value} (h:NR lo own w l v):NR lo own w.drew l v:=h.keep (Aec _) (fun _ _=>rfl) (fun _ _ hb=>⟨rfl,hb⟩)
theorem Zu {F:Nat→Prop} {w:World} {d:Nd} {u:Value} {mn mx:Int} (h:NdX F w d u):NdX F w (.rep d mn mx) (.iface 101 (.agg #[u,.int .i64 mn,.int .i64 mx])):=by
 obtain ⟨n,h⟩:=h;exact ⟨n+1,u,rfl,h⟩
theorem Ox (lo p:Nat) (own:List Nat) (c0 c1 c2 c3 c4 c5 bv pv c8 c9 c10:Value) (l:List Nd) (mn mx:Int) (w:World) (hb:Blk w p (EC c0 c1 c2 c3 c4 c5 bv pv c8 c9 c10) 211) (hr:NR lo own w l pv) (hp:pv.ownBlock≠some p) (_hpo:p∈own) (hin:∀ g,pv.ownBlock=some g→g∈own) (h0:0 < l.length) (hl:l.length≤1000) :
  Calls Tryz.prog 146 #[.pointer (some ⟨p,4,none⟩),.int .i64 mn,.int .i64 mx] w fun e w'=>e=.returned (.tuple #[])∧NR lo own w' (l.dropLast++[.rep (l.getLastD .empty) mn mx]) pv∧Blk w' p (EC c0 c1 c2 c3 c4 c5 bv pv c8 c9 c10) 211∧Touch p pv w w':=by
 have k7:w.cell? ⟨p,7,none⟩=some pv:=(hb.cell 7).trans rfl;obtain ⟨g,c,u,rfl,hc,hg,hcell,hn⟩:=hr.last h0;have Ws:IntKind.i64.wrap ((l.length:Int) - 1)=((l.length - 1:Nat):Int):=by rw [Aej _ (by omega)];omega
 have hlt1:((l.length - 1:Nat):Int) < (l.length:Int):=by omega
 have hlt2:l.length - 1 < l.length:=by omega
 have hge:(0:Int)≤((l.length - 1:Nat):Int):=by omega
 have hsh:(∃ T q,u=.iface T q)∨u=.nilIface:=hn.elim fun _ h=>Ax h
 have Hr:=Ad5 hr;have Hb:=Ad5 hb;have Hn:=Ad5 hn;have hfz:w.frozen? ⟨g,l.length - 1,none⟩=false:=by
  obtain ⟨us,h1,h2,_,_⟩:=hr;rcases h2.2 with ⟨h,_⟩ | ⟨g',cap,cur,he,hg',hh,_⟩
  ·cases h
  ·injection he with he _ _;injection he with he;injection he with he _ _;subst he;simp [World.frozen?,hh]
 clear hr hb hn;rcases hsh with ⟨T1,q1,rfl⟩ | rfl
 all_goals
  go_enter Tryz.func146,Tryz.ntmps146;go_wp2_with fail
  go_region
  go_wp2_with fail
  go_end0;have hx:=Zu (mn:=mn) (mx:=mx) Hn.out;have hput:=Hr.out.put h0 (hin g rfl) hx rfl;refine ⟨rfl,hput.drewn,((Hb.out.set_other ⟨g,l.length - 1,none⟩ (fun e=>hp (congrArg some e)) _)).drew,⟨rfl,rfl,rfl,by simp [World.setCell,World.drew],fun b hb h1 h2=>?_⟩⟩;exact Aei _ _ _ _ (fun e=>h2 (congrArg some e.symm))
theorem NR.rg {lo:Nat} {own:List Nat} {w:World} {l:List Nd} {v:Value} (h:NR lo own w l v):∃ a cap,v=.slice a l.length cap∧Oh (fun _=>True) (fun b=>lo≤b∧b ∉ own) w l a cap:=by
 obtain ⟨us,h1,h2,h3,h4⟩:=h;obtain ⟨a,cap,rfl,hc,hm,hx⟩:=Gh h2 h1;refine ⟨a,cap,rfl,hc,hm,fun h0=>?_⟩;obtain ⟨g,rfl,_,hg,hcell⟩:=hx h0;exact ⟨g,0,rfl,trivial,hg,fun i hi=>⟨us[i]'(by omega),hcell i (by omega),h3 i hi (by omega)⟩⟩
theorem Oh.below {G F:Nat→Prop} {w w':World} {l:List Nd} {a:Option Addr} {cap:Nat} (h:Oh G F w l a cap) (hb:Below w.heap.size w w'):Oh G F w' l a cap:=
 ⟨h.1,h.2.1,fun h0=>by
  obtain ⟨b,o,e,hG,hl,hx⟩:=h.2.2 h0;exact ⟨b,o,e,hG,Aef hl hb.size,fun i hi=>by obtain ⟨u,hu,hn⟩:=hx i hi;exact ⟨u,(hb.cell (p:=⟨b,o+i,none⟩) hl).trans hu,hn.below hb⟩⟩⟩
theorem NR.push {lo p j:Nat} {own:List Nat} {w w2 w6:World} {l:List Nd} {d:Nd} {v u:Value} {a6:Option Addr} {c6:Nat} {us:List Value} {T:TypeId}
  (h1:us.length=l.length) (h3:∀ i (h:i < l.length) (h2:i < us.length),NdX (fun b=>lo≤b∧b ∉ own) w l[i] us[i]) (h4:∀ x∈us,x.oneCell'=true) (hlt:∀ g,v.ownBlock=some g→lo≤g∧g < w.heap.size) (hp:v.ownBlock≠some p) (hpo:p∈own) (hplt:p < w.heap.size) (hin:∀ g,v.ownBlock=some g→g∈own) (hlo:lo≤p) (hol:∀ b∈own,b < w.heap.size)
  (hb2:Below w.heap.size w w2) (hu:NdX (fun k=>(k < w.heap.size∧(lo≤k∧k ∉ own))∨w.heap.size≤k) w2 d u) (hu1:u.oneCell'=true)
  (hown:w6.ownsRow lo 38 1 (.slice a6 (l.length+1) c6) (l.length+1) (us++[u])) (hgrow:(w2.alloc (.cells #[u] T)).grownBy w6 v.ownBlock) (hat:(Value.slice a6 (l.length+1) c6).ownBlock=v.ownBlock∨(Value.slice a6 (l.length+1) c6).ownBlock=some (w2.alloc (.cells #[u] T)).heap.size) (y:Value) :
  NR lo (ownB (.slice a6 (l.length+1) c6)++own) (w6.setCell ⟨p,j,none⟩ y) (l++[d]) (.slice a6 (l.length+1) c6)∧Touch p v w (w6.setCell ⟨p,j,none⟩ y)∧((Value.slice a6 (l.length+1) c6).ownBlock=v.ownBlock∨∃ g,w.heap.size≤g∧(Value.slice a6 (l.length+1) c6).ownBlock=some g):=by
 have hA:=hb2.alloc hb2.size (.cells #[u] T);have hs2:=hb2.size;have hs6:=hgrow.size;have hsA:(w2.alloc (.cells #[u] T)).heap.size=w2.heap.size+1:=by simp
 have hs7:(w6.setCell ⟨p,j,none⟩ y).heap.size=w6.heap.size:=by simp [World.setCell]
 have hT:Touch p v w (w6.setCell ⟨p,j,none⟩ y):=⟨hgrow.os.trans hA.os,hgrow.tape.trans hA.tape,hgrow.output.trans hA.output,by rw [hs7];omega,fun b hb e1 e2=>by
  rw [Aei _ _ _ _ (fun e=>e1 e),hgrow.block b (by omega) (fun e=>e2 e.symm),hA.block b hb]⟩
 have hnew:(Value.slice a6 (l.length+1) c6).ownBlock=v.ownBlock∨∃ g,w.heap.size≤g∧(Value.slice a6 (l.length+1) c6).ownBlock=some g:=by
  rcases hat with h | h
  ·exact .inl h
  ·exact .inr ⟨_,by rw [hsA];omega,h⟩
 have hoff:∀ b,b < w.heap.size→b ∉ own→b ∉ ownB (.slice a6 (l.length+1) c6)++own:=fun b hb hbo=>by
  rw [Aem,not_or];refine ⟨fun h=>?_,hbo⟩;rw [AS] at h;rcases hnew with h2 | ⟨g,hg,h2⟩
  ·exact hbo (hin b (h2.symm.trans h))
  ·rw [h2] at h;injection h with h;omega
 have hk:∀ b,b < w.heap.size→b ∉ own→(w6.setCell ⟨p,j,none⟩ y).heap[b]?=w.heap[b]?∧b ∉ ownB (.slice a6 (l.length+1) c6)++own:=fun b hb hbo=>
  ⟨hT.block b hb (fun e=>hbo (e▸hpo)) (fun e=>hbo (hin b e)),hoff b hb hbo⟩
 have hown7:(w6.setCell ⟨p,j,none⟩ y).ownsRow lo 38 1 (.slice a6 (l.length+1) c6) (l.length+1) (us++[u]):=Aa hown (fun g hg=>Aei _ _ _ _ (fun e=>by
  rcases hat with h | h
  ·exact hp (by rw [←h,hg,e])
  ·rw [h] at hg;injection hg with hg;simp only at e;omega))
 refine ⟨⟨us++[u],by rw [Aee,Aee,h1];rfl,by rw [Aee];exact hown7,?_,?_⟩,hT,hnew⟩
 ·intro i hi1 hi2;by_cases hlt2:i < l.length
  ·rw [List.getElem_append_left hlt2,List.getElem_append_left (by omega)];exact (h3 i hlt2 (by omega)).keep hT.size (fun b hb hl=>⟨⟨hb.1,(hk b hl hb.2).2⟩,fun o=>Aek (w:=w) (a:=⟨b,o,none⟩) (hk b hl hb.2).1⟩)
  ·have hi:i=l.length:=by rw [Aee] at hi1;simp at hi1;omega
   subst hi;rw [List.getElem_append_right (Aec _),List.getElem_append_right (by omega)];simp only [h1,Nat.sub_self,Ad7];refine hu.keep (by rw [hs7];omega) (fun b hb hl=>?_);have hsame:(w6.setCell ⟨p,j,none⟩ y).heap[b]?=w2.heap[b]?:=by
    have hbp:b≠p:=fun e=>by
     rcases hb with h | h
     ·exact h.2.2 (e▸hpo)
     ·omega
    have hbv:some b≠v.ownBlock:=fun e=>by
     rcases hb with h | h
     ·exact h.2.2 (hin b e.symm)
     ·have:=(hlt b e.symm).2;omega
    rw [Aei _ _ _ _ (fun e=>hbp e),hgrow.block b (by omega) hbv];exact ((Aeh w2.heap.size w2).alloc (Aec _) _).block b hl
   refine ⟨?_,fun o=>Aek (w:=w2) (a:=⟨b,o,none⟩) hsame⟩;rcases hb with h | h
   ·exact ⟨h.2.1,hoff b h.1 h.2.2⟩
   ·refine ⟨by omega,?_⟩;rw [Aem,not_or];refine ⟨fun e=>?_,fun e=>?_⟩
    ·rw [AS] at e;rcases hat with h2 | h2
     ·rw [h2] at e;have:=(hlt b e).2;omega
     ·rw [h2] at e;injection e with e;rw [hsA] at e;omega
    ·have:=hol b e;omega
 ·intro x hx;rcases Aem.1 hx with h | h
  ·exact h4 x h
  ·simp at h;subst h;exact hu1
theorem WA (w:World) (u:Value) (T:TypeId) (g:Nat) (hg:g=w.heap.size):∀ j x,[u][j]?=some x→(w.alloc (.cells #[u] T)).cell? ((⟨g,0,none⟩:Addr).add j)=some x:=by
 subst hg;intro j x hx
 match j,hx with
 | 0,hx=>simp at hx;subst hx;simp [Addr.add]
theorem NR.cell {lo p j:Nat} {own:List Nat} {w:World} {l:List Nd} {v:Value} (h:NR lo own w l v) (hv:v.ownBlock≠some p) (hpo:p∈own) (y:Value):NR lo own (w.setCell ⟨p,j,none⟩ y) l v:=
 h.keep (by simp [World.setCell]) (fun g hg=>Aei _ _ _ _ (fun e=>hv (by rw [hg,e]))) (fun b _ hbo=>⟨Aei _ _ _ _ (fun e=>hbo (e▸hpo)),hbo⟩)
theorem Touch.cell {p j:Nat} {v:Value} {w w':World} (h:Touch p v w w') (y:Value):Touch p v w (w'.setCell ⟨p,j,none⟩ y):=
 ⟨h.os,h.tape,h.output,by simp [World.setCell];exact h.size,fun b hb e1 e2=>(Aei _ _ _ _ (fun e=>e1 e)).trans (h.block b hb e1 e2)⟩
theorem Touch.drewn {p:Nat} {v:Value} {w w':World} (h:Touch p v w w'):Touch p v w w'.drew:=⟨h.os,h.tape,h.output,h.size,h.block⟩
theorem Oy (lo p:Nat) (own:List Nat) (c0 c1 c2 c3 c4 c5 bv pv c8 c9 c10:Value) (bs ps:List Nd) (w:World) (hlo:lo≤p) (hb:Blk w p (EC c0 c1 c2 c3 c4 c5 bv pv c8 c9 c10) 211) (hbr:NR lo own w bs bv) (hpr:NR lo own w ps pv) (hp:bv.ownBlock≠some p) (hpo:p∈own) (hol:∀ b∈own,b < w.heap.size) (hin:∀ g,bv.ownBlock=some g→g∈own) (hl:bs.length≤1000) (hj:(AI ps).length≤4000000) :
  Calls Tryz.prog 130 #[.pointer (some ⟨p,4,none⟩)] w fun e w'=>∃ bv',e=.returned (.tuple #[])∧NR lo (ownB bv'++own) w' (bs++[Bu ps]) bv'∧Blk w' p (EC c0 c1 c2 c3 c4 c5 bv' (.slice none 0 0) c8 c9 c10) 211∧Touch p bv w w'∧(bv'.ownBlock=bv.ownBlock∨∃ g,w.heap.size≤g∧bv'.ownBlock=some g):=by
 obtain ⟨i0,hi,hz0,hz1,hz2⟩:=DR;obtain ⟨pa,pc,rfl,hrg⟩:=hpr.rg;obtain ⟨us,h1,h2,h3,h4⟩:=hbr;obtain ⟨ba,bc,rfl⟩:=Ba h2;have hplt:=hb.lt;have k6:w.cell? ⟨p,6,none⟩=some (.slice ba bs.length bc):=(hb.cell 6).trans rfl;have k7:w.cell? ⟨p,7,none⟩=some (.slice pa ps.length pc):=(hb.cell 7).trans rfl;have hJ:=fun (w':World) (hb':Below w.heap.size w w')=>RW (G:=fun _=>True) ps pa pc w' (hrg.below hb') hj
 have hm1:bs.length+1≤maxLen:=by unfold maxLen;omega
 have hm2:(bs.length+1) * 16≤140737488355328:=by omega
 have hlw:lo≤w.heap.size:=Aed hlo (Aeg hplt);have HJ:=Ad5 hJ;have H2:=Ad5 h2;have Hb:=Ad5 hb;clear hJ hrg hpr hb h2;go_enter Tryz.func130,Tryz.ntmps130;go_upto_region 0 with fail
 go_region_law (first
  | (refine Bs rfl _ _ _ rfl 143 _ rfl (by rfl) (enters_of Tryz.func143 (by kernel_rfl) rfl) (HJ.out _ (by first | exact Aeh _ _ | exact Below.drew (Aeh _ _))) ?_;rintro e w2 ⟨u,rfl,hu,hb2'⟩;refine ⟨_,rfl,?_⟩;have hb2:Below w.heap.size w w2:=(by first | exact hb2' | exact (Below.drew (Aeh _ _)).trans hb2');clear hb2';have hB2:=Hb.out.below hb2 hplt;have q6:w2.cell? ⟨p,6,none⟩=some (.slice ba bs.length bc):=(hB2.cell 6).trans rfl;have q6A:(w2.alloc (.cells #[u] 38)).cell? ⟨p,6,none⟩=some (.slice ba bs.length bc):=((hB2.alloc _).cell 6).trans rfl;have hsh:=hu.elim fun _ h=>Ax h;have hcl:u.cells=#[u]:=(by rcases hsh with ⟨T,q,rfl⟩ | rfl <;> rfl);unfold Value.cells at hcl;have hu1:u.oneCell'=true:=(by rcases hsh with ⟨T,q,rfl⟩ | rfl <;> rfl);have HU:=Ad5 hu;clear hu hsh)
  | (refine Av rfl _ _ 84 rfl lo 38 i0 .nilIface 1 16 Tryz.underlying84 hi hz0 hz1 hz2 rfl (by decide) (.slice ba bs.length bc) bs.length us rfl (Ag H2.out (by repeat (first | (with_reducible exact hb2) | refine Below.drew ?_ | refine Below.alloc ?_ hb2.size _))) (some ⟨w2.heap.size,0,none⟩) 1 1 [u] rfl rfl (fun _=>⟨_,rfl,WA w2 u _ _ rfl⟩) (by intro y hy;simp at hy;subst hy;exact hu1) hm1 hm2 (by have:=hb2.size;simp;omega) ?_;intro v6 w6 hown6 hgrow6 hat6;obtain ⟨a6,c6,rfl⟩:=Ba hown6;have hB6:Blk w6 p (EC c0 c1 c2 c3 c4 c5 (.slice ba bs.length bc) (.slice pa ps.length pc) c8 c9 c10) 211:=DS (hB2.alloc _) hgrow6 hp;have f6:=hB6.frozen 6;have f7:=hB6.frozen 7;have g6:w6.cell? ⟨p,6,none⟩=some (.slice ba bs.length bc):=(hB6.cell 6).trans rfl;have g7:w6.cell? ⟨p,7,none⟩=some (.slice pa ps.length pc):=(hB6.cell 7).trans rfl;have HP:=Ad5 (fun y=>NR.push (j:=6) h1 h3 h4 (fun g hg=>H2.out.lt g hg) hp hpo hplt hin hlo hol hb2 HU.out hu1 hown6 hgrow6 hat6 y);have HB6:=Ad5 hB6;clear hown6 hgrow6 hat6 hB6))
 all_goals go_wp2_with fail
 all_goals go_end0
 all_goals
  obtain ⟨hN,hT,hF⟩:=HP.out (.slice a6 (bs.length+1) c6);have hvp:(Value.slice a6 (bs.length+1) c6).ownBlock≠some p:=by
   rcases hF with h | ⟨g,hg,h⟩
   ·rw [h];exact hp
   ·rw [h];intro e;injection e with e;omega
  exact ⟨.slice a6 (bs.length+1) c6,rfl,hN.cell hvp (List.mem_append_right _ hpo) _,(HB6.out.set 6 _).set 7 _,hT.cell _,hF⟩
theorem GG (lo p:Nat) (own:List Nat) (c0 c1 c2 c3 c4 c5 bv pv c8 c9 c10:Value) (bs ps:List Nd) (w:World) (hlo:lo≤p) (hb:Blk w p (EC c0 c1 c2 c3 c4 c5 bv pv c8 c9 c10) 211) (hbr:NR lo own w bs bv) (hpr:NR lo own w ps pv) (hp:bv.ownBlock≠some p) (hpo:p∈own) (hol:∀ b∈own,b < w.heap.size) (hin:∀ g,bv.ownBlock=some g→g∈own) (hl:bs.length≤1000) (hj:(AI ps).length≤4000000) (hc:(AJ (bs++[Bu ps])).length≤4000000) :
  Calls Tryz.prog 118 #[.pointer (some ⟨p,4,none⟩)] w fun e w'=>∃ v bv',e=.returned v∧NdX (fun b=>lo≤b∧b ∉ ownB bv'++own) w' (Cl (bs++[Bu ps])) v∧Blk w' p (EC c0 c1 c2 c3 c4 c5 bv' (.slice none 0 0) c8 c9 c10) 211∧Touch p bv w w'∧(bv'.ownBlock=bv.ownBlock∨∃ g,w.heap.size≤g∧g < w'.heap.size∧bv'.ownBlock=some g):=by
 have hE:=Oy lo p own c0 c1 c2 c3 c4 c5 bv pv c8 c9 c10 bs ps w hlo hb hbr hpr hp hpo hol hin hl hj;have hplt:=hb.lt;go_enter Tryz.func118,Tryz.ntmps118;go_wp2_with fail
 refine hE.mono ?_;rintro e w2 ⟨bv',rfl,hN,hB,hT,hF⟩;have hlt2:=hN.lt;obtain ⟨ba,bc,rfl,hrg⟩:=hN.rg;have k6:w2.cell? ⟨p,6,none⟩=some (.slice ba (bs++[Bu ps]).length bc):=(hB.cell 6).trans rfl;have hC:=L3 (G:=fun _=>True) (bs++[Bu ps]) ba bc w2 hrg hc;have HL:=Ad5 hlt2;have HF:=Ad5 hF;have HT:=Ad5 hT;have HB:=Ad5 hB;have HO:=Ad5 hol;clear hE hN hrg hlt2 hF hT hB hol hbr hpr hc hj hb;generalize (bs++[Bu ps]).length=n at *;go_wp2_with fail
 refine hC.mono ?_;rintro e w3 ⟨v,rfl,hv,b3⟩;have hsz:=HT.out.size;have hv2:NdX (fun b=>lo≤b∧b ∉ ownB (.slice ba n bc)++own) w3 (Cl (bs++[Bu ps])) v:=hv.keep (Aec _) (fun b hb hlt=>⟨by
  rcases hb with h | h
  ·exact h.2
  ·refine ⟨by omega,?_⟩;rw [Aem,not_or];refine ⟨fun e=>?_,fun e=>?_⟩
   ·rw [AS] at e;have:=(HL.out b e).2;omega
   ·have:=HO.out b e;omega,fun _=>rfl⟩)
 have hB3:=HB.out.below b3 HB.out.lt;have hT3:Touch p bv w w3:=⟨b3.os.trans HT.out.os,b3.tape.trans HT.out.tape,b3.output.trans HT.out.output,Aed HT.out.size b3.size,fun b hb e1 e2=>(b3.block b (by omega)).trans (HT.out.block b hb e1 e2)⟩
 have hF3:(Value.slice ba n bc).ownBlock=bv.ownBlock∨∃ g,w.heap.size≤g∧g < w3.heap.size∧(Value.slice ba n bc).ownBlock=some g:=HF.out.imp id (fun ⟨g,hg,e⟩=>⟨g,hg,Aef (HL.out g e).2 b3.size,e⟩);have HF3:=Ad5 hF3;clear hC hv b3 hF3;go_wp2_with fail
 go_ret;exact ⟨v,.slice ba n bc,rfl,hv2,hB3,hT3,HF3.out⟩
theorem Kl {p j:Nat} {v:Value} {w W w6:World} (hW:Below w.heap.size w W) (hg:W.grownBy w6 v.ownBlock) (y:Value):Touch p v w (w6.setCell ⟨p,j,none⟩ y):=
 ⟨hg.os.trans hW.os,hg.tape.trans hW.tape,hg.output.trans hW.output,Aed hW.size (Aed hg.size (by simp [World.setCell])),fun b hb e1 e2=>by
  rw [Aei _ _ _ _ (fun e=>e1 e),hg.block b (Aef hb hW.size) (fun e=>e2 e.symm),hW.block b hb]⟩
theorem Qr (c:Nat) (h:c < 128):runesBytes [(92:Int),(c:Int)]=⟨#[92,UInt8.ofNat c]⟩:=by
 have hd:∀ n:Fin 128,runesBytes [(92:Int),(n.val:Int)]=⟨#[92,UInt8.ofNat n.val]⟩:=by decide +kernel
 exact hd ⟨c,h⟩
theorem I1 (lo p g n cs k m c:Nat) (c0 c4 c5 c6' c7 c8 c9 c10 mv:Value) (ms:List (Nat × Nat)) (w:World) (hlo:lo≤p) (hb:Blk w p (EC c0 (.slice (some ⟨g,0,none⟩) n cs) (.int .i64 (m:Int)) mv c4 c5 c6' c7 c8 c9 c10) 211) (hm:w.ownsRow lo 33 2 mv ms.length (marksC ms)) (hp:mv.ownBlock≠some p) (hkm:m=k+2) (hk:m≤n) (hcs:n≤cs)
  (h0:w.cell? ⟨g,k,none⟩=some (.int .i32 92)) (h1:w.cell? ⟨g,k+1,none⟩=some (.int .i32 (c:Int))) (hc:c < 128) (hl:ms.length≤1000) :
  Calls Tryz.prog 151 #[.pointer (some ⟨p,0,none⟩),.int .i64 (k:Int)] w fun e w'=>∃ mv',e=.returned (.tuple #[])∧w'.ownsRow lo 33 2 mv' (ms++[(k,c)]).length (marksC (ms++[(k,c)]))∧Blk w' p (EC c0 (.slice (some ⟨g,0,none⟩) n cs) (.int .i64 (m:Int)) mv' c4 c5 c6' c7 c8 c9 c10) 211∧Touch p mv w w'∧(mv'.ownBlock=mv.ownBlock∨∃ q,w.heap.size≤q∧mv'.ownBlock=some q):=by
 obtain ⟨i0,hi,hz0,hz1,hz2⟩:=Cx;have hplt:=hb.lt;have k1:w.cell? ⟨p,1,none⟩=some (.slice (some ⟨g,0,none⟩) n cs):=(hb.cell 1).trans rfl;have k2:w.cell? ⟨p,2,none⟩=some (.int .i64 (m:Int)):=(hb.cell 2).trans rfl;have k3:w.cell? ⟨p,3,none⟩=some mv:=(hb.cell 3).trans rfl;obtain ⟨ma,mc,rfl⟩:=Ba hm;have hm1:ms.length+1≤maxLen:=by unfold maxLen;omega
 have hm2:(ms.length+1) * 24≤140737488355328:=by omega
 have hsl1:(k:Int)≤(m:Int):=by omega
 have hsl2:(m:Int)≤(cs:Int):=by omega
 have hsl3:k≤m:=by omega
 have hsl4:m≤cs:=by omega
 have hsl5:m - k=2:=by omega
 have hsl6:¬ cs=k:=by omega
 have Hkm:=Ad5 hkm;clear hkm;have hcv:∀ w':World,(w'.cell? ⟨g,k,none⟩=some (.int .i32 92))→(w'.cell? ⟨g,k+1,none⟩=some (.int .i32 (c:Int)))→(convert 204 9 (.slice (some ⟨g,k,none⟩) 2 (cs - k))).run Tryz.prog w'=.ok (.string ⟨#[92,UInt8.ofNat c]⟩) w':=fun w' e0 e1=>by
  have:=run_convert_runes (P:=Tryz.prog) w' 204 9 21 ⟨g,k,none⟩ 2 (cs - k) [92,(c:Int)] (by simp) Tryz.underlying204 Tryz.underlying21 Tryz.underlying9 (fun j hj=>by
   match j,hj with
   | 0,_=>simpa [Addr.add] using e0
   | 1,_=>simpa [Addr.add] using e1)
  rw [this];rw [show ([92,(c:Int)]:List Int).take 2=[92,(c:Int)] from rfl,Qr c hc]
 have hcv1:=hcv w.drew h0 h1;have hv1:∀ u∈Es (k,c),u.oneCell'=true:=by intro u hu;simp [Es] at hu;rcases hu with rfl | rfl <;> rfl
 have hnews:∀ W:World,W.heap.size=w.heap.size→∀ j u,(Es (k,c))[j]?=some u→(W.alloc (.cells #[.int .i64 (k:Int),.string ⟨#[92,UInt8.ofNat c]⟩] 33)).cell? ((⟨w.heap.size,0,none⟩:Addr).add j)=some u:=fun W hW j u hu=>by
  have hb2:=Blk.new W #[.int .i64 (k:Int),.string ⟨#[92,UInt8.ofNat c]⟩] 33 w.heap.size hW.symm;rw [Go.WideShapes.add_plain,Nat.zero_add,hb2.cell j,←Array.getElem?_toList];exact hu
 have Hb:=Ad5 hb;have Hm:=Ad5 hm;have H0:=Ad5 h0;have H1:=Ad5 h1;have HCV:=Ad5 hcv;clear hb hm h0 h1 hcv;go_enter Tryz.func151,Tryz.ntmps151;go_upto_region 0 with fail
 go_region_law (first
  | (refine Av rfl _ _ 26 rfl lo 33 i0 (.agg #[.int .i64 0,.string ⟨#[]⟩]) 2 24 Tryz.underlying26 hi hz0 hz1 hz2 rfl (by decide) (.slice ma ms.length mc) ms.length (marksC ms) rfl (Ag Hm.out (by repeat (first | (with_reducible exact Aeh _ _) | refine Below.drew ?_ | refine Below.alloc ?_ (Aec _) _))) (some ⟨w.heap.size,0,none⟩) 1 1 (Es (k,c)) rfl rfl (fun _=>⟨_,rfl,hnews _ rfl⟩) hv1 hm1 hm2 (by simp;omega) ?_;intro v6 w6 hown6 hgrow6 hat6;obtain ⟨a6,c6,rfl⟩:=Ba hown6;have hB6:Blk w6 p (EC c0 (.slice (some ⟨g,0,none⟩) n cs) (.int .i64 (m:Int)) (.slice ma ms.length mc) c4 c5 c6' c7 c8 c9 c10) 211:=DS ((Hb.out.alloc _).drew) hgrow6 hp;have f3:=hB6.frozen 3;have g3:w6.cell? ⟨p,3,none⟩=some (.slice ma ms.length mc):=(hB6.cell 3).trans rfl;have HT:=Ad5 (fun y=>Kl (p:=p) (j:=3) (((Aeh w.heap.size w).alloc (Aec _) _).drew) hgrow6 y);have HA:=Ad5 hat6;have HO:=Ad5 hown6;have HB6:=Ad5 hB6;clear hown6 hgrow6 hat6 hB6))
 all_goals go_wp2_with fail
 all_goals go_end0
 all_goals
  have hF:(Value.slice a6 (ms.length+1) c6).ownBlock=(Value.slice ma ms.length mc).ownBlock∨∃ q,w.heap.size≤q∧(Value.slice a6 (ms.length+1) c6).ownBlock=some q:=by
   rcases HA.out with h | h
   ·exact .inl h
   ·exact .inr ⟨_,by simp,h⟩
  have hvp:(Value.slice a6 (ms.length+1) c6).ownBlock≠some p:=by
   rcases hF with h | ⟨q,hq,h⟩
   ·rw [h];exact hp
   ·rw [h];intro e;injection e with e;omega
  refine ⟨.slice a6 (ms.length+1) c6,rfl,?_,HB6.out.set 3 _,HT.out _,hF⟩;rw [IK,Aee];exact Aa HO.out (fun q hq=>Aei _ _ _ _ (fun e=>hvp (by rw [hq,e])))
end
end Go.Proofs.YteilldmmihiijaaGreatDoor
