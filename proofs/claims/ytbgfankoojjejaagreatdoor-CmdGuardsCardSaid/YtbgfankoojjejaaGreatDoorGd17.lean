/- The proof's texts RdMP: what the claim reaches of them. -/
import Derived.Test.YtbgfankoojjejaaGreatDoorGd16
import Derived.Test.YtbgfankoojjejaaGreatDoorGd06
import Derived.Defers
import Derived.Recover
import Derived.Tactics2
set_option linter.unusedSimpArgs false
set_option linter.unusedVariables false
set_option maxHeartbeats 8000000
set_option maxRecDepth 1000000
namespace Go.Proofs.YtbgfankoojjejaaGreatDoor
open Go Go.RowKit
def chTail (s:List UInt8) (sub:Option (ReSt→ReRes (ReSt × Nd))) (m:Nat) (st:ReSt) (l:List Nd):ReRes (ReSt × Nd):=
 if esAt s st.pos 124 then choiceM false s sub false m ((st.mark 124).to (st.pos+2)) l else .ok (st,nchoose l)
theorem choice_eq (s:List UInt8) (sub:Option (ReSt→ReRes (ReSt × Nd))) (n:Nat) (st:ReSt) (l:List Nd):choiceM false s sub false (n+1) st l=match branchM false s sub false st.pos (s.length+1) st [] true with
  | .error e=>.error e
  | .ok q=>chTail s sub n q.1 (l++[q.2]):=by
 rw [choiceM]
 cases branchM false s sub false st.pos (s.length+1) st [] true with
 | error e=>rfl
 | ok q=>rfl
theorem NdRO.single {B lo p:Nat} {mv cv:Value} {w:World} {d:Nd} {u:Value} {s:ByteArray} {st:ReSt} {es:List Bool} {dep:Nat} (hR:Rd B p w s st es dep mv cv) (hlo:lo≤w.heap.size) (hu:NdOff lo p mv cv w d u) (hu1:u.oneCell'=true) :
  NdRO lo p mv cv (w.alloc (.cells #[u] 26)) [d] (.slice (some ⟨w.heap.size,0,none⟩) 1 1) [u]:=by
 have hpl:=hR.blk.lt
 have hA:=(Below.refl w.heap.size w).alloc (Nat.le_refl _) (.cells #[u] 26)
 refine ⟨rfl,World.ownsRow_lit w #[u] 1 hlo (by decide) rfl,fun i h1 h2=>?_,fun x hx=>by simp at hx;subst hx;exact hu1,fun b hb=>?_⟩
 ·obtain rfl:i=0:=by simp at h1;exact h1
  exact hu.keep hA.size (fun b hb hlt=>⟨⟨hb.1,hb.2,fun hv=>by simp [Value.ownBlock] at hv;omega⟩,fun o=>hA.cell (p:=⟨b,o,none⟩) hlt⟩)
 ·simp [Value.ownBlock] at hb
  subst hb
  exact ⟨by omega,fun hm=>by have:=own_lt' hR.mo _ hm;omega,fun hm=>by have:=own_lt' hR.co _ hm;omega⟩
structure ChLoop (B p:Nat) (s:ByteArray) (dep:Nat) (mv cv:Value) (w:World) (sub:Option (ReSt→ReRes (ReSt × Nd))) (R:ReRes (ReSt × Nd)) (v:Value) (wr:World) (st':ReSt) (mv' cv':Value) (us:List Value) (l:List Nd) (m:Nat) (es':List Bool):Prop where
 r:R=chTail s.data.toList sub m st' l
 m:s.size≤m+st'.pos
 rd:Rd B p wr s st' es' dep mv' cv'
 st:RStep p w mv cv wr mv' cv'
 row:NdRO w.heap.size p mv' cv' wr l v us
 few:l.length≤st'.pos+1
 all:l.all inAlt=true
theorem ch_next {B p:Nat} {s:ByteArray} {dep:Nat} {mv cv:Value} {w:World} {sub:Option (ReSt→ReRes (ReSt × Nd))} {R:ReRes (ReSt × Nd)} {v:Value} {wr:World} {st':ReSt} {mv' cv':Value} {us:List Value} {l:List Nd} {m':Nat} {es':List Bool}
  (hL:ChLoop B p s dep mv cv w sub R v wr st' mv' cv' us l (m'+1) es') {wk:World} {mvk:Value} (hSk:RStep p wr mv' cv' wk mvk cv')
  {w2 w3:World} {mv2 cv2 v2 v3:Value} {q:ReSt × Nd} {es2:List Bool} (hS2:RStep p wk mvk cv' w2 mv2 cv2) (hR2:Rd B p w2 s q.1 es2 dep mv2 cv2) (hrow2:NdRO w.heap.size p mv2 cv2 w2 l v us) (hN2:NdOff wk.heap.size p mv2 cv2 w2 q.2 v2) (hv2:v2.oneCell'=true)
  (hown:w3.ownsRow w.heap.size 26 1 v3 (l.length+1) (us++[v2])) (hgrow:(w2.alloc (.cells #[v2] 26)).grownBy w3 v.ownBlock) (hat:v3.ownBlock=v.ownBlock∨v3.ownBlock=some (w2.alloc (.cells #[v2] 26)).heap.size)
  (hF:R=chTail s.data.toList sub m' q.1 (l++[q.2])) (hM:st'.pos+2≤q.1.pos∧inAlt q.2=true) :
  ChLoop B p s dep mv cv w sub R v3 w3 q.1 mv2 cv2 (us++[v2]) (l++[q.2]) m' es2:=by
 have hS9:=hL.st.trans hSk
 have hsz2:w.heap.size≤w2.heap.size:=Nat.le_trans hS9.size hS2.size
 have hA:=(Below.refl w2.heap.size w2).alloc (Nat.le_refl _) (.cells #[v2] 26)
 have hRA:=hR2.below hA
 have hrowA:=hrow2.step (RStep.of_below hA)
 have hlt:=fun b hb=>(hL.row.row.lt b hb).2
 have hm:=hL.m
 have hfw:=hL.few
 have hM1:=hM.1
 refine ⟨hF,by omega,hRA.grown hgrow hrowA.off,(hS9.trans hS2).after (grown_below hsz2 hrow2.row hgrow),?_,by rw [List.length_append];simp;omega,all_snoc hL.all hM.2⟩
 refine hrowA.push hRA ?_ hv2 hown hgrow hat
 refine hN2.keep hA.size (fun b hb hlt2=>⟨⟨Nat.le_trans hS9.size hb.1,hb.2,fun hv=>?_⟩,fun o=>hA.cell (p:=⟨b,o,none⟩) hlt2⟩)
 have h1:=hlt b hv
 have h2:=hSk.size
 have h3:=hb.1
 omega
theorem regex_any {B p:Nat} {s:ByteArray} {st:ReSt} {es:List Bool} {dep:Nat} {mv cv:Value} (w:World) (h:Rd B p w s st es dep mv cv)
  (sub:Option (ReSt→ReRes (ReSt × Nd))) (hmv:SubMv s.data.toList sub) (hok:SubOk sub) (hG:Gl w) (hB:glN≤B) (hgr:∀ st es,GroupOk B p s st es dep sub) :
  Calls Tryz.prog 87 #[.pointer (some ⟨p,0,none⟩)] w fun e w'=>NdAns (choiceM false s.data.toList sub false (s.data.toList.length+1) st []) B p s dep mv cv w e w':=by
 have hsm:=h.small
 have hsl:s.data.toList.length=s.size:=by simp
 obtain ⟨i0,hi,hz0,hz1,hz2⟩:=node_info
 obtain ⟨R,hR0⟩:∃ R,R=choiceM false s.data.toList sub false (s.data.toList.length+1) st []:=⟨_,rfl⟩
 rw [←hR0]
 have hR1:=hR0.trans (choice_eq _ _ _ _ _)
 have HSL:=Lib.hid hsl
 have HGl:=Lib.hid hG
 have H:=Lib.hid h
 have hbr:=branch_any w h sub hmv hok hG hB hgr
 have HBA:=Lib.hid (fun (st:ReSt) (es:List Bool) (mv cv:Value) (w:World) (h:Rd B p w s st es dep mv cv) (hG:Gl w)=>branch_any w h sub hmv hok hG hB hgr)
 have HBT:=Lib.hid (fun (st st':ReSt) (d:Nd) h=>(branch_takes false s.data.toList sub hok false st.pos (s.data.toList.length+1) st [] true st' d st rfl rfl h).2)
 have HBM:=Lib.hid (fun (st st':ReSt) (d:Nd) hl h=>branch_mv false s.data.toList sub hmv false st.pos (s.data.toList.length+1) st [] true st' d hl h)
 clear hR0 hsl hG h hgr hok hmv
 go_enter Tryz.func87,Tryz.ntmps87
 go_wp2_with fail
 refine hbr.mono ?_
 intro e w1 hA
 obtain ⟨mv1,cv1,hS1,hr⟩:=hA
 have HS1:=Lib.hid hS1
 clear hS1 hbr
 cases hP:branchM false s.data.toList sub false st.pos (s.data.toList.length+1) st [] true with
 | error q=>
  rw [hP] at hr hR1
  obtain rfl:e=_:=hr
  have HF:=Lib.hid hR1
  clear hR1 hP
  go_wp2_with fail
  exact ⟨rfl,ndans_err HF.out HS1.out rfl⟩
 | ok q=>
  rw [hP] at hr hR1
  obtain ⟨es1,v1,rfl,hRd1,hN1⟩:=hr
  have HF:=Lib.hid hR1
  have HRd1:=Lib.hid hRd1
  have HN1:=Lib.hid hN1
  have HA1:=Lib.hid (HBT.out _ _ _ hP)
  obtain ⟨nn,hnn⟩:=hN1
  clear hR1 hP hRd1
  rcases nd_shape hnn with ⟨T,x,rfl⟩ | rfl
  all_goals
   clear hnn
   go_wp2_with fail
   go_loopw [3] (fun v wr=>∃ (st':ReSt) (mv' cv':Value) (us:List Value) (l:List Nd) (m:Nat) (es':List Bool),ChLoop B p s dep mv cv w sub R v wr st' mv' cv' us l m es') (fun _ wr=>s.size - (intOf ((wr.cell? ⟨p,1,none⟩).getD undef)).toNat)
   case atStart=>
    have hA:=(Below.refl w1.heap.size w1).alloc (Nat.le_refl _)
    refine ⟨q.1,mv1,cv1,_,[q.2],_,es1,HF.out,?_,HRd1.out.below (hA _),HS1.out.trans (RStep.of_below (hA _)),NdRO.single HRd1.out HS1.out.size HN1.out rfl,?_,?_⟩
    ·rw [HSL.out];omega
    ·show 1≤q.1.pos+1
     omega
    ·simp [HA1.out]
   case round=>
    obtain ⟨st',mv',cv',us,l,m,es',hL⟩:=hrel
    have hR:=hL.rd
    obtain ⟨c0,c1,c2,c3,c4,z1,z2,z3,z4⟩:=hR.cells
    have HL:=Lib.hid hL
    clear hL
    cases h124:esAt s.data.toList st'.pos 124 with
    | false=>
     have hsk:=skipm_no ⟨#[92,124]⟩ wr hR ((word_two _ _ 124 (by decide)).trans h124)
     have HE:=Lib.hid h124
     clear h124 hR
     go_wp2_with fail
     refine hsk.mono ?_
     rintro e w4 ⟨rfl,n,rfl⟩
     have hbn:=below_drewN (Below.refl wr.heap.size wr) n
     have hSn:=RStep.of_below (p:=p) (mv:=mv') (cv:=cv') hbn
     have hRn:=HL.out.rd.below hbn
     have hrow:=HL.out.row.step hSn
     obtain ⟨a,cap,hv,hrw⟩:=hrow.parts
     subst hv
     have hjf:(cflat l).length≤4000000:=by
      rw [cflat_all _ HL.out.all]
      have:=HL.out.few
      have:=hRn.pos
      omega
     have hj:=pchoose_f l a cap (wr.drewN n) hrw hjf
     have HRn:=Lib.hid hRn
     have HS9:=Lib.hid (HL.out.st.trans hSn)
     clear hbn hSn hRn hrow hrw hjf hsk c0 c1 c2 c3 c4 z1 z2 z3 z4
     go_wp2_with fail
     refine hj.mono ?_
     rintro e w5 ⟨v5,rfl,hn5,b5⟩
     have HN5:=Lib.hid hn5
     have HB5:=Lib.hid b5
     clear hn5 b5 hj
     go_wp2_with fail
     go_ret
     have hlo:w.heap.size≤(wr.drewN n).heap.size:=HS9.out.size
     have hB5:Below w.heap.size (wr.drewN n) w5:=HB5.out.mono hlo
     exact ndans_ok (HL.out.r.trans (by unfold chTail;rw [HE.out];rfl)) (HS9.out.after hB5) (HRn.out.below HB5.out) (ndoff_made' HRn.out hlo HB5.out HN5.out)
    | true=>
     have hsk:=skipm_yes 124 wr hR ((word_two _ _ 124 (by decide)).trans h124)
     have hes:=es_byt h124
     rw [HSL.out] at hes
     have hm0:0 < m:=by have:=HL.out.m;omega
     obtain ⟨m',rfl⟩:∃ m',m=m'+1:=⟨m - 1,by omega⟩
     have hstep:R=choiceM false s.data.toList sub false (m'+1) ((st'.mark 124).to (st'.pos+2)) l:=HL.out.r.trans (by unfold chTail;rw [h124];rfl)
     have hstep2:=hstep.trans (choice_eq _ _ _ _ _)
     have hps2:=show st'.pos+2≤s.data.toList.length by rw [HSL.out];omega
     clear hm0 h124 hR hes hstep
     go_wp2_with fail
     refine hsk.mono ?_
     rintro e w4 ⟨rfl,mv4,hR4,hS4⟩
     have HS4:=Lib.hid hS4
     have hbr2:=HBA.out _ _ _ _ _ hR4 (HGl.out.step (HL.out.st.trans hS4) H.out hB)
     have HRow4:=Lib.hid (HL.out.row.step hS4)
     clear hS4 hR4 hsk c0 c1 c2 c3 c4 z1 z2 z3 z4
     generalize hst4:(st'.mark 124).to (st'.pos+2)=st4 at *
     have hp4:st4.pos=st'.pos+2:=by rw [←hst4];rfl
     clear hst4
     have HP4:=Lib.hid hp4
     clear hp4
     go_wp2_with fail
     refine hbr2.mono ?_
     intro e w2 hA2
     obtain ⟨mv2,cv2,hS2,hr2⟩:=hA2
     have HS2:=Lib.hid hS2
     clear hS2 hbr2
     cases hP2:branchM false s.data.toList sub false st4.pos (s.data.toList.length+1) st4 [] true with
     | error q2=>
      rw [hP2] at hr2 hstep2
      obtain rfl:e=_:=hr2
      have HF2:=Lib.hid hstep2
      clear hstep2 hP2
      go_wp2_with fail
      exact ⟨rfl,ndans_err HF2.out ((HL.out.st.trans HS4.out).trans HS2.out) rfl⟩
     | ok q2=>
      rw [hP2] at hr2 hstep2
      obtain ⟨es2,v2,rfl,hR2,hN2⟩:=hr2
      have hmm:=HBM.out _ _ _ (by rw [HP4.out];exact hps2) hP2
      have HF2:=Lib.hid hstep2
      have HMM:=Lib.hid (show st'.pos+2≤q2.1.pos∧inAlt q2.2=true from ⟨by have:=hmm.1;rw [HP4.out] at this;exact this,HBT.out _ _ _ hP2⟩)
      have HR2:=Lib.hid hR2
      have hrow2:=HRow4.out.step HS2.out
      have HRow2:=Lib.hid hrow2
      have hfw:=HL.out.few
      have hq2:=hR2.pos
      have hm3:=HMM.out.1
      have hm1:l.length+1≤maxLen:=by unfold maxLen;omega
      have hm2:(l.length+1) * 16≤140737488355328:=by omega
      have hown2:=hrow2.row
      have hsz2:w.heap.size≤w2.heap.size:=Nat.le_trans (HL.out.st.trans HS4.out).size HS2.out.size
      have HN2:=Lib.hid hN2
      obtain ⟨nn,hnn⟩:=hN2
      clear hstep2 hP2 hmm hR2 hrow2 hq2 hfw hm3 hps2
      rcases nd_shape hnn with ⟨T,x,rfl⟩ | rfl
      all_goals
       clear hnn
       go_wp2_with (at_builtin;refine wpList_append_any _ rfl _ _ 88 rfl w.heap.size 26 i0 .nilIface 1 16 Tryz.underlying88 hi hz0 hz1 hz2 rfl (by decide) _ _ _ rfl (hown2.alloc _) (some ⟨w2.heap.size,0,none⟩) 1 1 [_] rfl rfl (fun _=>⟨_,rfl,cell_one_at (by simp) _ _⟩) (by intro y hy;simp at hy;subst hy;rfl) hm1 hm2 (by simp;omega) ?_;intro v3 w3 hown hgrow hat)
       have HO:=Lib.hid hown
       have HGr:=Lib.hid hgrow
       have HAt:=Lib.hid hat
       clear hown hgrow hat
       go_roundw
       case rel=>
        exact ⟨q2.1,mv2,cv2,_,_,m',es2,ch_next HL.out HS4.out HS2.out HR2.out HRow2.out HN2.out rfl HO.out HGr.out HAt.out HF2.out HMM.out⟩
       case measure=>
        have h1:=(ch_next HL.out HS4.out HS2.out HR2.out HRow2.out HN2.out rfl HO.out HGr.out HAt.out HF2.out HMM.out).rd.cells.c1
        have h2:=HL.out.rd.cells.c1
        rw [h1,h2]
        have h3:=HMM.out.1
        have h4:=HR2.out.pos
        simp only [Option.getD_some,intOf]
        omega
end Go.Proofs.YtbgfankoojjejaaGreatDoor
namespace Go.Proofs.YtbgfankoojjejaaGreatDoor
open Go Go.RowKit
theorem bool_info:∃ i,Tryz.prog.info? 4=some i∧i.zero=some (.bool false)∧i.size=1∧i.bytes=1:=by
 have h:(Tryz.prog.info? 4).map (fun i=>(i.zero,i.size,i.bytes))=some (some (.bool false),1,1):=by kernel_rfl
 obtain ⟨i,hi,he⟩:=Option.map_eq_some_iff.1 h
 injection he with h1 h2
 injection h2 with h2 h3
 exact ⟨i,hi,h1,h2,h3⟩
theorem NdOff.low {lo lo' p:Nat} {mv cv:Value} {w:World} {d:Nd} {u:Value} (h:NdOff lo p mv cv w d u) (hl:lo'≤lo):NdOff lo' p mv cv w d u:=
 h.keep (Nat.le_refl _) (fun _ hb _=>⟨⟨Nat.le_trans hl hb.1,hb.2⟩,fun _=>rfl⟩)
theorem Rd.deep {B p:Nat} {w:World} {s:ByteArray} {st:ReSt} {es:List Bool} {dep:Nat} {mv cv:Value} (h:Rd B p w s st es dep mv cv) (k:Nat) :
  Rd B p (w.setCell ⟨p,4,none⟩ (.int .i64 (k:Int))) s st es k mv cv∧RStep p w mv cv (w.setCell ⟨p,4,none⟩ (.int .i64 (k:Int))) mv cv:=by
 have hset:∀ b,b≠p→(w.setCell ⟨p,4,none⟩ (.int .i64 (k:Int))).heap[b]?=w.heap[b]?:=fun b hb=>Below.heap_setCell _ _ _ _ (fun e=>hb e)
 have hsz:(w.setCell ⟨p,4,none⟩ (.int .i64 (k:Int))).heap.size=w.heap.size:=by simp [World.setCell]
 refine ⟨{ h with blk:=(h.blk.set 4 (.int .i64 (k:Int))),mo:=?_,co:=?_ },?_⟩
 ·exact h.mo.kept ⟨rfl,rfl,rfl,by rw [hsz];exact Nat.le_refl _,fun b _ hb=>hset b (fun e=>hb (by rw [e]))⟩ (Or.inr h.mp)
 ·exact h.co.kept ⟨rfl,rfl,rfl,by rw [hsz];exact Nat.le_refl _,fun b _ hb=>hset b (fun e=>hb (by rw [e]))⟩ (Or.inr h.cp)
 ·exact ⟨rfl,rfl,rfl,by rw [hsz];exact Nat.le_refl _,fun b _ hp h1 h2=>⟨hset b hp,h1,h2⟩⟩
theorem Rd.opens {B p:Nat} {W w6:World} {s:ByteArray} {st:ReSt} {es:List Bool} {dep:Nat} {mv cv v6:Value} (h:Rd B p W s st es dep mv cv)
  (hown:w6.ownsRow B 4 1 v6 (es.length+1) (es.map Value.bool++[.bool false])) (hg:W.grownBy w6 cv.ownBlock) (hat:v6.ownBlock=cv.ownBlock∨v6.ownBlock=some W.heap.size) (hfew:es.length+1≤st.pos) :
  Rd B p (w6.setCell ⟨p,3,none⟩ v6) s { st with opened:=st.opened+1 } (es++[false]) dep mv v6∧RStep p W mv cv (w6.setCell ⟨p,3,none⟩ v6) mv v6:=by
 have hpl:=h.blk.lt
 have hml:=fun b hb=>own_lt' h.mo b hb
 have hset:∀ b,b≠p→(w6.setCell ⟨p,3,none⟩ v6).heap[b]?=w6.heap[b]?:=fun b hb=>Below.heap_setCell _ _ _ _ (fun e=>hb e)
 have hsz:(w6.setCell ⟨p,3,none⟩ v6).heap.size=w6.heap.size:=by simp [World.setCell]
 have hv6p:v6.ownBlock≠some p:=by
  rcases hat with e | e
  ·rw [e];exact h.cp
  ·rw [e];intro he;injection he with he;omega
 have hb6:Blk w6 p #[.string s,.int .i64 (st.pos:Int),mv,cv,.int .i64 (dep:Int)] 171:=by
  have h1:=h.blk
  unfold Blk at h1 ⊢
  rw [hg.block p hpl (fun e=>h.cp e.symm)]
  exact h1
 have hmo6:=h.mo.kept hg (by
  rcases hc:mv.ownBlock with _ | b
  ·exact .inl rfl
  ·refine .inr (fun e=>?_)
   exact h.mc b hc e.symm)
 refine ⟨{ blk:=hb6.set 3 v6,mo:=?_,co:=?_,rr:=?_,bp:=h.bp,mp:=h.mp,cp:=hv6p,mc:=?_,pos:=h.pos,small:=h.small,few:=⟨h.few.1,by simp;exact hfew⟩ },?_⟩
 ·exact hmo6.kept ⟨rfl,rfl,rfl,by rw [hsz];exact Nat.le_refl _,fun b _ hb=>hset b (fun e=>hb (by rw [e]))⟩ (Or.inr h.mp)
 ·rw [List.length_append,List.map_append]
  exact hown.kept ⟨rfl,rfl,rfl,by rw [hsz];exact Nat.le_refl _,fun b _ hb=>hset b (fun e=>hb (by rw [e]))⟩ (Or.inr hv6p)
 ·exact rr_open h.rr
 ·intro b hb
  rcases hat with e | e
  ·rw [e];exact h.mc b hb
  ·rw [e];intro he
   injection he with he
   have:=hml b hb
   omega
 ·refine ⟨hg.os,hg.tape,hg.output,by rw [hsz];exact hg.size,fun b hb hp h1 h2=>⟨?_,h1,?_⟩⟩
  ·rw [hset b hp]
   exact hg.block b hb (fun e=>h2 e.symm)
  ·rcases hat with e | e
   ·rw [e];exact h2
   ·rw [e];intro he;injection he with he;omega
theorem Rd.closes {B p g cap:Nat} {w:World} {s:ByteArray} {st:ReSt} {es:List Bool} {dep:Nat} {mv:Value} (h:Rd B p w s st es dep mv (.slice (some ⟨g,0,none⟩) es.length cap)) (j:Nat) (hj:j < es.length) :
  Rd B p (w.setCell ⟨g,j,none⟩ (.bool true)) s { st with closed:=st.closed++[((j+1:Nat):Int)] } (es.set j true) dep mv (.slice (some ⟨g,0,none⟩) es.length cap)∧RStep p w mv (.slice (some ⟨g,0,none⟩) es.length cap) (w.setCell ⟨g,j,none⟩ (.bool true)) mv (.slice (some ⟨g,0,none⟩) es.length cap):=by
 have hst:=World.ownsRow.stored h.co j (.bool true)
 have hgp:g≠p:=fun e=>h.cp (by rw [e];rfl)
 have hset:∀ b,b≠g→(w.setCell ⟨g,j,none⟩ (.bool true)).heap[b]?=w.heap[b]?:=fun b hb=>Below.heap_setCell _ _ _ _ (fun e=>hb e)
 have hsz:(w.setCell ⟨g,j,none⟩ (.bool true)).heap.size=w.heap.size:=by simp [World.setCell]
 refine ⟨{ h with blk:=h.blk.set_other _ hgp _,mo:=?_,co:=?_,rr:=?_,few:=⟨h.few.1,by rw [List.length_set];exact h.few.2⟩ },?_⟩
 ·exact h.mo.kept hst.2 (by
   rcases hc:mv.ownBlock with _ | b
   ·exact .inl rfl
   ·refine .inr (fun e=>?_)
    exact h.mc b hc (by rw [e];rfl))
 ·rw [List.length_set,List.map_set]
  exact hst.1
 ·have:=rr_close h.rr (n:=((j+1:Nat):Int)) (by omega) (by omega)
  rw [show (((j+1:Nat):Int) - 1).toNat=j by omega] at this
  exact this
 ·exact ⟨rfl,rfl,rfl,by rw [hsz];exact Nat.le_refl _,fun b _ _ h1 h2=>⟨hset b (fun e=>h2 (by rw [e];rfl)),h1,h2⟩⟩
theorem group_deep {B p:Nat} {s:ByteArray} {st:ReSt} {es:List Bool} {mv cv:Value} (w:World) (h:Rd B p w s (st.to (st.pos+2)) es 12 mv cv) :
  Calls Tryz.prog 151 #[.pointer (some ⟨p,0,none⟩),.int .i64 (st.pos:Int)] w fun e w'=>NdAns (.error (4,st.pos)) B p s 12 mv cv w e w':=by
 obtain ⟨c0,c1,c2,c3,c4,z1,z2,z3,z4⟩:=h.cells
 clear h
 go_enter Tryz.func151,Tryz.ntmps151
 go_wp2_with fail
 exact ⟨rfl,ndans_err rfl (RStep.refl _ _ _ _) rfl⟩
def grpEnd (s:List UInt8) (st:ReSt) (F:ReRes (ReSt × Nd)):ReRes (ReSt × Nd):=match F with
 | .error e=>.error e
 | .ok q=>if esAt s q.1.pos 41 then .ok ({ q.1 with pos:=q.1.pos+2,closed:=q.1.closed++[(st.opened:Int)+1] },.group ((st.opened:Int)+1) q.2) else .error (8,st.pos)
theorem grp_end (s:List UInt8) (f:ReSt→ReRes (ReSt × Nd)) (st:ReSt):grpM false s (some f) st=grpEnd s st (f { st with pos:=st.pos+2,opened:=st.opened+1 }):=by
 unfold grpM grpEnd
 simp only [opLen,opAt,Bool.false_eq_true,if_false]
 cases f { st with pos:=st.pos+2,opened:=st.opened+1 } with
 | error e=>rfl
 | ok q=>rfl
theorem group_in {B p:Nat} {s:ByteArray} {st:ReSt} {es:List Bool} {dep:Nat} {mv cv:Value} (w:World) (h:Rd B p w s (st.to (st.pos+2)) es dep mv cv) (hd:dep < 12) (hfe:es.length≤st.pos) (hG:Gl w) (hB:glN≤B)
  (F:ReRes (ReSt × Nd)) (hF:∀ st' d es',F=.ok (st',d)→RR es' (st'.opened:Int) st'.closed→es.length+1≤es'.length)
  (hrx:∀ (w2:World) (mv cv:Value),Gl w2→Rd B p w2 s { st with pos:=st.pos+2,opened:=st.opened+1 } (es++[false]) (dep+1) mv cv→Calls Tryz.prog 87 #[.pointer (some ⟨p,0,none⟩)] w2 fun e w'=>NdAns F B p s (dep+1) mv cv w2 e w') :
  Calls Tryz.prog 151 #[.pointer (some ⟨p,0,none⟩),.int .i64 (st.pos:Int)] w fun e w'=>NdAns (grpEnd s.data.toList st F) B p s dep mv cv w e w':=by
 have hsm:=h.small
 have hpp:=h.pos
 have hop:(st.opened:Int)=(es.length:Int):=h.rr.1
 obtain ⟨i0,hi,hz0,hz1,hz2⟩:=bool_info
 obtain ⟨R,hR0⟩:∃ R,R=grpEnd s.data.toList st F:=⟨_,rfl⟩
 rw [←hR0]
 have HR0:=Lib.hid hR0
 have HGl:=Lib.hid hG
 have H:=Lib.hid h
 have HFE:=Lib.hid hF
 have HRX:=Lib.hid hrx
 have hdp:=h.deep (dep+1)
 have HD:=Lib.hid hdp
 have hpl:=h.blk.lt
 have hbp:=h.bp
 obtain ⟨c0,c1,c2,c3,c4,z1,z2,z3,z4⟩:=h.cells
 have e0:((dep:Int) == 12)=false:=by rw [beq_eq_false_iff_ne];omega
 have Wd:IntKind.i64.wrap ((dep:Int)+1)=((dep+1:Nat):Int):=by rw [IntWalk.i64_in _ (by omega)];omega
 have hpp2:st.pos+2≤s.size:=hpp
 have hm1:es.length+1≤maxLen:=by unfold maxLen;omega
 have hm2:(es.length+1) * 1≤140737488355328:=by omega
 have hcp:=h.cp
 have HO:=Lib.hid hop
 clear hR0 hG h hF hrx hdp hpp hop
 go_enter Tryz.func151,Tryz.ntmps151
 go_upto_region 4 with fail
 have hd1:Rd B p (w.setCell ⟨p,4,none⟩ (.int .i64 ((dep:Int)+1))) s (st.to (st.pos+2)) es (dep+1) mv cv∧RStep p w mv cv (w.setCell ⟨p,4,none⟩ (.int .i64 ((dep:Int)+1))) mv cv:=HD.out
 generalize w.setCell ⟨p,4,none⟩ (.int .i64 ((dep:Int)+1))=w1 at *
 obtain ⟨hR1,hS1⟩:=hd1
 have HR1:=Lib.hid hR1
 have HS1:=Lib.hid hS1
 clear c0 c1 c2 c3 c4 z1 z2 z3 z4 HD hS1 hpl
 obtain ⟨c0,c1,c2,c3,c4,z1,z2,z3,z4⟩:=hR1.cells
 have hpl:=hR1.blk.lt
 have hA:=(Below.refl w1.heap.size w1).alloc (Nat.le_refl _) (.cells #[.bool false] 4)
 have HA:=Lib.hid hA
 clear hA hR1
 go_wp2_with (at_builtin;refine wpList_append_any _ rfl _ _ 169 rfl B 4 i0 (.bool false) 1 1 Tryz.underlying169 hi hz0 hz1 hz2 rfl (by decide) cv es.length (es.map Value.bool) rfl (nd_own_below HR1.out.co HA.out) (some ⟨w1.heap.size,0,none⟩) 1 1 [.bool false] rfl rfl (fun _=>⟨_,rfl,cell_one_at rfl _ _⟩) (by intro y hy;simp at hy;subst hy;rfl) hm1 hm2 (by simp;omega) ?_;intro v6 w6 hown6 hgrow6 hat6;have HM:=Lib.hid ((HR1.out.below HA.out).opens hown6 hgrow6 hat6 (by show es.length+1≤st.pos+2;omega));have hfz:w6.frozen? ⟨p,3,none⟩=false:=(hgrow6.frozen_far ⟨p,3,none⟩ (by simp;omega) (fun e=>hcp e.symm)).trans ((HR1.out.below HA.out).blk.frozen 3);have hce:w6.cell? ⟨p,3,none⟩=some cv:=(hgrow6.cell_far ⟨p,3,none⟩ (by simp;omega) (fun e=>hcp e.symm)).trans (((HR1.out.below HA.out).blk.cell 3).trans rfl);obtain ⟨g,gcap,hv6,_,_⟩:=World.ownsRow.form hown6 (Nat.succ_pos _);subst hv6;clear hown6 hgrow6 hat6)
 obtain ⟨hRA,hSA⟩:=HM.out
 have HSB:=Lib.hid ((HS1.out.trans (RStep.of_below (p:=p) (mv:=mv) (cv:=cv) HA.out)).trans hSA)
 refine (HRX.out _ _ _ (HGl.out.step HSB.out H.out hB) hRA).mono ?_
 intro e w7 hX
 obtain ⟨mv7,cv7,hS7,hr⟩:=hX
 have HS7:=Lib.hid (HSB.out.trans hS7)
 have HLo:=Lib.hid (HSB.out.size)
 clear c0 c1 c2 c3 c4 z1 z2 z3 z4 hRA hSA hS7 hcp HM hce hfz hm1 hm2
 cases F with
 | error q=>
  obtain rfl:e=_:=hr
  go_wp2_with fail
  exact ⟨rfl,ndans_err HR0.out HS7.out rfl⟩
 | ok q=>
  obtain ⟨es7,v7,rfl,hR7,hN7⟩:=hr
  have HR7:=Lib.hid hR7
  have HN7:=Lib.hid hN7
  have hlen7:=HFE.out _ _ _ rfl hR7.rr
  have hR2:=HR0.out
  unfold grpEnd at hR2
  simp only at hR2
  clear hN7
  cases h41:esAt s.data.toList q.1.pos 41 with
  | false=>
   rw [h41] at hR2
   have HF:=Lib.hid (hR2.trans (if_neg (by simp)))
   have hsk:=skip_no ⟨#[92,41]⟩ w7 hR7 ((word_two _ _ 41 (by decide)).trans h41)
   clear hR2 hR7 h41
   go_wp2_with fail
   refine hsk.mono ?_
   rintro e w8 ⟨rfl,n,rfl⟩
   clear hsk
   go_wp2_with fail
   exact ⟨rfl,ndans_err HF.out (HS7.out.trans (RStep.of_below (below_drewN (Below.refl _ _) n))) rfl⟩
  | true=>
   rw [h41] at hR2
   have HF:=Lib.hid (hR2.trans (if_pos rfl))
   have hsk:=skip_yes ⟨#[92,41]⟩ w7 hR7 ((word_two _ _ 41 (by decide)).trans h41) (by simp)
   rw [show (ByteArray.mk #[92,41]).size=2 from rfl] at hsk
   clear hR2 hR7 h41
   go_wp2_with fail
   refine hsk.mono ?_
   rintro e w8 ⟨rfl,hR8,hS8⟩
   have HS8:=Lib.hid (HS7.out.trans hS8)
   have HN8:=Lib.hid (HN7.out.step hS8)
   clear hsk hS8
   obtain ⟨a,cap,hcv,hl1,hl2,hx⟩:=own_row hR8.co (by simp)
   unfold maxLen at hl2
   subst hcv
   obtain ⟨g8,rfl,_,hg8,hc8⟩:=hx (by omega)
   have hcl:=hR8.closes es.length (by omega)
   have hdp:=hcl.1.deep dep
   have HC:=Lib.hid hcl
   have HDp:=Lib.hid hdp
   have hcell:=hc8 es.length (by simp;omega)
   rw [List.getElem_map,Nat.zero_add] at hcell
   have hfzg:=World.ownsRow.frozenAt hR8.co es.length
   have hgp:g8≠p:=fun e=>hR8.cp (by rw [e];rfl)
   have hgp2:p≠g8:=fun e=>hgp e.symm
   obtain ⟨c0,c1,c2,c3,c4,z1,z2,z3,z4⟩:=hR8.cells
   have hpl8:=hR8.blk.lt
   have hes7:=hR8.few.2
   have hs8:=hR8.pos
   have hlt7:(es.length:Int) < (es7.length:Int):=by omega
   have Wn:IntKind.i64.wrap ((es.length:Int)+1 - 1)=(es.length:Int):=by rw [IntWalk.i64_in _ (by omega)];omega
   have Wm:IntKind.i64.wrap ((dep:Int)+1 - 1)=(dep:Int):=by rw [IntWalk.i64_in _ (by omega)];omega
   have HN9:=Lib.hid ((HN8.out.step hcl.2).step hdp.2)
   have HS9:=Lib.hid ((HS8.out.trans hcl.2).trans hdp.2)
   obtain ⟨nn,hnn⟩:=HN8.out
   clear hx hc8 hR8 hcl hdp
   rcases nd_shape hnn with ⟨T,x,rfl⟩ | rfl
   all_goals
    clear hnn
    go_wp2_with fail
    go_ret
    have hfin:R=.ok ({ q.1 with pos:=q.1.pos+2,closed:=q.1.closed++[((es.length+1:Nat):Int)] },.group ((es.length:Int)+1) q.2):=HF.out.trans (by rw [HO.out];rfl)
    exact ndans_ok hfin HS9.out HDp.out.1 (ndoff_group (HN9.out.low HLo.out) _)
def subOf (s:List UInt8) (dep:Nat):Option (ReSt→ReRes (ReSt × Nd)):=if dep < 12 then some (regM false s (11 - dep)) else none
theorem subOf_mv (s:List UInt8) (dep:Nat):SubMv s (subOf s dep):=fun f hf=>by
 unfold subOf at hf
 split at hf
 ·injection hf with hf;subst hf;exact reg_mv false s _
 ·cases hf
theorem subOf_ok (s:List UInt8) (dep:Nat):SubOk (subOf s dep):=fun f hf=>by
 unfold subOf at hf
 split at hf
 ·injection hf with hf;subst hf;exact reg_takes false s _
 ·cases hf
theorem reg_eq (s:List UInt8) (dep:Nat) (h:dep < 12) (st:ReSt):regM false s (11 - dep) st=choiceM false s (subOf s (dep+1)) false (s.length+1) st []:=by
 unfold subOf
 by_cases h1:dep+1 < 12
 ·rw [if_pos h1,show 11 - dep=(11 - (dep+1))+1 by omega]
  rfl
 ·rw [if_neg h1,show 11 - dep=0 by omega]
  rfl
theorem group_any (B p:Nat) (s:ByteArray) (hB:glN≤B):∀ (n dep:Nat),dep+n=12→∀ st es,GroupOk B p s st es dep (subOf s.data.toList dep):=by
 intro n
 induction n with
 | zero=>
  intro dep hd st es w2 mv cv hG hfe hR
  obtain rfl:dep=12:=by omega
  have:grpM false s.data.toList (subOf s.data.toList 12) st=.error (4,st.pos):=rfl
  rw [this]
  exact group_deep w2 hR
 | succ n ih=>
  intro dep hd st es w2 mv cv hG hfe hR
  have hd12:dep < 12:=by omega
  have hs:subOf s.data.toList dep=some (regM false s.data.toList (11 - dep)):=by unfold subOf;rw [if_pos hd12]
  rw [hs,grp_end]
  refine group_in w2 hR hd12 hfe hG hB _ (fun st' d es' hF hrr=>?_) (fun w3 mv3 cv3 hG3 hR3=>?_)
  ·have ht:=reg_takes false s.data.toList _ _ _ _ hF
   have he:=evs_right d (es++[false]) _ _ (rr_open hR.rr)
   unfold Takes at ht
   have hcast:(((st.opened+1:Nat)):Int)=((st.to (st.pos+2)).opened:Int)+1:=by show ((st.opened+1:Nat):Int)=(st.opened:Int)+1;omega
   rw [show ((({ st with pos:=st.pos+2,opened:=st.opened+1 }:ReSt).opened:Nat):Int)=((st.to (st.pos+2)).opened:Int)+1 from hcast] at ht
   rw [show nright d (((st.to (st.pos+2)).opened:Int)+1) (st.to (st.pos+2)).closed=some ((st'.opened:Int),st'.closed) from ht] at he
   obtain ⟨es2,_,hrr2,hle⟩:=he
   have h1:=hrr.1
   have h2:=hrr2.1
   simp at hle h2
   omega
  ·rw [reg_eq _ _ hd12]
   exact regex_any w3 hR3 _ (subOf_mv _ _) (subOf_ok _ _) hG3 hB (fun st es=>ih (dep+1) (by omega) st es)
end Go.Proofs.YtbgfankoojjejaaGreatDoor
namespace Go.Proofs.YtbgfankoojjejaaGreatDoor
open Go Go.RowKit
theorem bcatch_idle (a b c d:Addr) (w:World) :
  CallsD Tryz.prog 86 #[.pointer (some a),.pointer (some b),.pointer (some c),.pointer (some d)] .returning w fun e u' w'=>e=.returned (.tuple #[])∧u'=.returning∧w'=w:=by
 have hnil:∀ w:World,(binOp BinOp.eql 20 .nilIface .nilIface).run Tryz.prog w=.ok (.bool true) w:=fun _=>by kernel_rfl
 refine callsD_of_wpS Tryz.func86 rfl fun c₀ cs hu=>?_
 apply wpS_seq
 apply wpS_region
 simp [wpOpsS,go_sem,recoverD,hu,Tryz.ntmps86,Exit.thenS]
 apply wpS_seq
 apply wpS_seq
 apply wpS_region
 simp [wpOpsS,go_sem,hnil,Exit.thenS]
 refine wpS_cond (t:=true) (by simp [Act.eval,Array.replicate]) ?_
 simp only [if_true]
 refine wpS_of_wp (wp_ret ?_)
 cases c₀
 simp_all [bodyPostS,results,Tryz.results86,Exit.thenS]
structure Caught (n0 n1 n2 n3:Nat) (k e:Nat) (w w':World):Prop where
 b0:Blk w' n0 #[.nilIface] 26
 b1:Blk w' n1 #[.slice none 0 0] 36
 b2:Blk w' n2 #[.int .i64 (k:Int)] 3
 b3:Blk w' n3 #[.int .i64 (e:Int)] 37
 low:∀ B,B≤n0→B≤n1→B≤n2→B≤n3→B≤w.heap.size→Below B w w'
theorem bcatch_fault {n0 n1 n2 n3:Nat} {x0 x1 x2 x3:Value} (k er:Nat) (older:List PanicEntry) (w:World) (h0:Blk w n0 #[x0] 26) (h1:Blk w n1 #[x1] 36) (h2:Blk w n2 #[x2] 3) (h3:Blk w n3 #[x3] 37)
  (d01:n0≠n1) (d02:n0≠n2) (d03:n0≠n3) (d12:n1≠n2) (d13:n1≠n3) (d23:n2≠n3) :
  CallsD Tryz.prog 86 #[.pointer (some ⟨n0,0,none⟩),.pointer (some ⟨n1,0,none⟩),.pointer (some ⟨n2,0,none⟩),.pointer (some ⟨n3,0,none⟩)] (.panicking ({ v:=.iface 167 (.agg #[.int .i64 (k:Int),.int .i64 (er:Int)]),recovered:=false } :: older)) w fun e u' w'=>
   e=.returned (.tuple #[])∧u'=.panicking ({ v:=.iface 167 (.agg #[.int .i64 (k:Int),.int .i64 (er:Int)]),recovered:=true } :: older)∧Caught n0 n1 n2 n3 k er w w':=by
 have hnn:∀ w:World,(binOp BinOp.eql 20 (.iface 167 (.agg #[.int .i64 (k:Int),.int .i64 (er:Int)])) .nilIface).run Tryz.prog w=.ok (.bool false) w:=fun _=>by kernel_rfl
 have hta:∀ w:World,(Instr.typeAssert (.iface 167 (.agg #[.int .i64 (k:Int),.int .i64 (er:Int)])) 20 167 true).run Tryz.prog w=.ok (.tuple #[.agg #[.int .i64 (k:Int),.int .i64 (er:Int)],.bool true]) w:=fun _=>by kernel_rfl
 refine callsD_of_wpS Tryz.func86 rfl fun c₀ cs hu=>?_
 apply wpS_seq
 apply wpS_region
 simp [wpOpsS,go_sem,recoverD,hu,Tryz.ntmps86,Exit.thenS]
 refine wpS_of_wp (Code.wp_mono (Q:=fun e a w'=>(e=.normal∨e=.ret)∧a.defers=[]∧Caught n0 n1 n2 n3 k er w w') ?_ ?_)
 ·rintro e a w' ⟨he,hd,hc⟩
  rcases he with rfl | rfl
  ·exact ⟨hd,_,rfl,.tuple #[],by simp [results,Tryz.results86,go_sem],rfl,rfl,hc⟩
  ·exact ⟨hd,_,rfl,.tuple #[],by simp [results,Tryz.results86,go_sem],rfl,rfl,hc⟩
 ·clear hu
  have c0:w.cell? ⟨n0,0,none⟩=some x0:=(h0.cell 0).trans rfl
  have c1:w.cell? ⟨n1,0,none⟩=some x1:=(h1.cell 0).trans rfl
  have c2:w.cell? ⟨n2,0,none⟩=some x2:=(h2.cell 0).trans rfl
  have c3:w.cell? ⟨n3,0,none⟩=some x3:=(h3.cell 0).trans rfl
  have z0:=h0.frozen 0
  have z1:=h1.frozen 0
  have z2:=h2.frozen 0
  have z3:=h3.frozen 0
  have l0:=h0.lt
  have l1:=h1.lt
  have l2:=h2.lt
  have l3:=h3.lt
  have HB0:=Lib.hid h0
  have HB1:=Lib.hid h1
  have HB2:=Lib.hid h2
  have HB3:=Lib.hid h3
  clear h0 h1 h2 h3
  simp only [Array.replicate_succ,Array.replicate_zero,List.push_toArray,List.append_toArray,List.nil_append,List.cons_append,List.setIfInBounds_toArray,List.set_cons_succ,List.set_cons_zero]
  go_wp2_with fail
  have d10:=d01.symm
  have d20:=d02.symm
  have d30:=d03.symm
  have d21:=d12.symm
  have d31:=d13.symm
  have d32:=d23.symm
  go_region
  all_goals go_wp2_with fail
  all_goals
   refine ⟨?_,?_,?_,?_,fun B g0 g1 g2 g3 hw=>?_⟩
   ·exact (((((HB0.out.set 0 _).set_other ⟨n1,0,none⟩ d10 _).set_other ⟨n2,0,none⟩ d20 _).set_other ⟨n3,0,none⟩ d30 _).alloc _).drew
   ·exact (((((HB1.out.set_other ⟨n0,0,none⟩ d01 _).set 0 _).set_other ⟨n2,0,none⟩ d21 _).set_other ⟨n3,0,none⟩ d31 _).alloc _).drew
   ·exact (((((HB2.out.set_other ⟨n0,0,none⟩ d02 _).set_other ⟨n1,0,none⟩ d12 _).set 0 _).set_other ⟨n3,0,none⟩ d32 _).alloc _).drew
   ·exact (((((HB3.out.set_other ⟨n0,0,none⟩ d03 _).set_other ⟨n1,0,none⟩ d13 _).set_other ⟨n2,0,none⟩ d23 _).set 0 _).alloc _).drew
   ·exact ((((((Below.refl B w).setCell (p:=⟨n0,0,none⟩) g0 _).setCell (p:=⟨n1,0,none⟩) g1 _).setCell (p:=⟨n2,0,none⟩) g2 _).setCell (p:=⟨n3,0,none⟩) g3 _).alloc (by simp [World.setCell];exact hw) _).drew
end Go.Proofs.YtbgfankoojjejaaGreatDoor
namespace Go.Proofs.YtbgfankoojjejaaGreatDoor
open Go Go.RowKit
theorem branch_ends (s:List UInt8) (sub:Option (ReSt→ReRes (ReSt × Nd))) (begin:Nat):∀ (n:Nat) (st:ReSt) (parts:List Nd) (front:Bool) (st':ReSt) (d:Nd),branchM false s sub false begin n st parts front=.ok (st',d)→endsAt s st'.pos=true:=by
 intro n
 induction n with
 | zero=>intro _ _ _ _ _ h;cases h
 | succ n ih=>
  intro st parts front st' d h
  rw [branchM] at h
  split at h
  ·rename_i he
   injection h with h;injection h with h1 _;subst h1
   unfold endsAt
   simpa [opAt] using he
  split at h
  ·exact ih _ _ _ _ _ h
  split at h
  ·exact ih _ _ _ _ _ h
  split at h
  ·cases h
  split at h
  ·cases h
  ·split at h
   ·cases h
   ·exact ih _ _ _ _ _ h
theorem choice_ends (s:List UInt8) (sub:Option (ReSt→ReRes (ReSt × Nd))):∀ (n:Nat) (st:ReSt) (l:List Nd) (st':ReSt) (d:Nd),choiceM false s sub false n st l=.ok (st',d)→s.length≤st'.pos∨esAt s st'.pos 41=true:=by
 intro n
 induction n with
 | zero=>intro _ _ _ _ h;cases h
 | succ n ih=>
  intro st l st' d h
  rw [choiceM] at h
  split at h
  ·cases h
  ·rename_i st1 d1 hb
   have h1:=branch_ends s sub _ _ _ _ _ _ _ hb
   split at h
   ·exact ih _ _ _ _ h
   ·rename_i h124
    injection h with h;injection h with h2 _;subst h2
    unfold endsAt at h1
    simp only [opAt,Bool.false_eq_true,if_false] at h124
    simp only [Bool.or_eq_true,decide_eq_true_eq] at h1
    rcases h1 with (h1 | h1) | h1
    ·exact .inl h1
    ·exact (h124 h1).elim
    ·exact .inr h1
structure Four (w0 w:World) (x0 x1 x2 x3:Value):Prop where
 b:Below w0.heap.size w0 w
 h0:Blk w w0.heap.size #[x0] 26
 h1:Blk w (w0.heap.size+1) #[x1] 36
 h2:Blk w (w0.heap.size+2) #[x2] 3
 h3:Blk w (w0.heap.size+3) #[x3] 37
theorem four_new (w:World):Four w ((((w.alloc (.cells #[.nilIface] 26)).alloc (.cells #[.slice none 0 0] 36)).alloc (.cells #[.int .i64 0] 3)).alloc (.cells #[.int .i64 0] 37)) .nilIface (.slice none 0 0) (.int .i64 0) (.int .i64 0):=
 ⟨((((Below.refl _ _).alloc (Nat.le_refl _) _).alloc (by simp) _).alloc (by simp;omega) _).alloc (by simp;omega) _,
  (((Blk.new w _ _ _ rfl).alloc _).alloc _).alloc _,((Blk.new _ _ _ _ (by simp)).alloc _).alloc _,(Blk.new _ _ _ _ (by simp)).alloc _,Blk.new _ _ _ _ (by simp)⟩
theorem Four.below {w0 w w':World} {x0 x1 x2 x3:Value} (h:Four w0 w x0 x1 x2 x3) (hb:Below w.heap.size w w'):Four w0 w' x0 x1 x2 x3:=
 ⟨h.b.trans (hb.mono h.b.size),h.h0.below hb h.h0.lt,h.h1.below hb h.h1.lt,h.h2.below hb h.h2.lt,h.h3.below hb h.h3.lt⟩
theorem four_caught {w0 w:World} {x0 x1 x2 x3:Value} (h:Four w0 w x0 x1 x2 x3) (k er:Nat) :
  CallsD Tryz.prog 86 #[.pointer (some ⟨w0.heap.size,0,none⟩),.pointer (some ⟨w0.heap.size+1,0,none⟩),.pointer (some ⟨w0.heap.size+2,0,none⟩),.pointer (some ⟨w0.heap.size+3,0,none⟩)] (.panicking ({ v:=.iface 167 (.agg #[.int .i64 (k:Int),.int .i64 (er:Int)]),recovered:=false } :: [])) w fun e u' w'=>
   e=.returned (.tuple #[])∧u'=.panicking ({ v:=.iface 167 (.agg #[.int .i64 (k:Int),.int .i64 (er:Int)]),recovered:=true } :: [])∧Four w0 w' .nilIface (.slice none 0 0) (.int .i64 (k:Int)) (.int .i64 (er:Int)):=
 (bcatch_fault k er [] w h.h0 h.h1 h.h2 h.h3 (by omega) (by omega) (by omega) (by omega) (by omega) (by omega)).mono fun _ _ _ ⟨h1,h2,h3⟩=>
  ⟨h1,h2,h.b.trans (h3.low _ (Nat.le_refl _) (by omega) (by omega) (by omega) h.b.size),h3.b0,h3.b1,h3.b2,h3.b3⟩
theorem bparse_long (s:ByteArray) (w:World) (hs:250 < s.size):Calls Tryz.prog 67 #[.string s] w fun e w'=>PAns (.error (3,250)) w e w':=by
 have hmf:∀ (fn:Fn) (first cap:Array Value) (w:World),(Instr.makeFunc fn first cap).run Tryz.prog w=.ok (.func fn first cap) w:=fun _ _ _ _=>rfl
 have e1:decide ((250:Int) < (s.size:Int))=true:=by simp;omega
 have h4:=four_new w
 clear hs
 go_enter_defers Tryz.func67,Tryz.ntmps67
 go_wp2_with fail
 refine leaves_cons (f:=86) (args:=#[.pointer (some ⟨w.heap.size,0,none⟩),.pointer (some ⟨w.heap.size+1,0,none⟩),.pointer (some ⟨w.heap.size+2,0,none⟩),.pointer (some ⟨w.heap.size+3,0,none⟩)]) (by simp) (by simp [go_sem]) ?_
 refine (four_caught h4 250 3).mono ?_
 rintro e u' w'' ⟨rfl,rfl,h5⟩
 have k0:=(h5.h0.cell 0).trans rfl
 have k1:=(h5.h1.cell 0).trans rfl
 have k2:=(h5.h2.cell 0).trans rfl
 have k3:=(h5.h3.cell 0).trans rfl
 simp [Leaves,settle,results,Tryz.results67,go_sem,k0,k1,k2,k3]
 exact ⟨h5.b,rfl⟩
theorem Four.step {w0 w w':World} {x0 x1 x2 x3:Value} {p:Nat} {mv' cv':Value} (h:Four w0 w x0 x1 x2 x3) (hp:w0.heap.size+4≤p) (hS:RStep p w (.slice none 0 0) (.slice none 0 0) w' mv' cv') (hB:Below w0.heap.size w w'):Four w0 w' x0 x1 x2 x3:=by
 have hk:∀ b x T,Blk w b #[x] T→b < p→Blk w' b #[x] T:=fun b x T hb hlt=>by
  unfold Blk at hb ⊢
  rw [(hS.block b (Array.getElem?_eq_some_iff.1 hb).1 (by omega) (by simp [Value.ownBlock]) (by simp [Value.ownBlock])).1]
  exact hb
 exact ⟨h.b.trans hB,hk _ _ _ h.h0 (by omega),hk _ _ _ h.h1 (by omega),hk _ _ _ h.h2 (by omega),hk _ _ _ h.h3 (by omega)⟩
theorem Four.store {w0 w:World} {x0 x1 x2 x3:Value} (h:Four w0 w x0 x1 x2 x3) (y0 y1 y2 y3:Value) :
  Four w0 ((((w.setCell ⟨w0.heap.size,0,none⟩ y0).setCell ⟨w0.heap.size+1,0,none⟩ y1).setCell ⟨w0.heap.size+2,0,none⟩ y2).setCell ⟨w0.heap.size+3,0,none⟩ y3) y0 y1 y2 y3:=
 ⟨(((h.b.setCell (p:=⟨w0.heap.size,0,none⟩) (Nat.le_refl _) _).setCell (p:=⟨w0.heap.size+1,0,none⟩) (by simp) _).setCell (p:=⟨w0.heap.size+2,0,none⟩) (by simp) _).setCell (p:=⟨w0.heap.size+3,0,none⟩) (by simp) _,
  (((h.h0.set 0 _).set_other ⟨w0.heap.size+1,0,none⟩ (by simp) _).set_other ⟨w0.heap.size+2,0,none⟩ (by simp) _).set_other ⟨w0.heap.size+3,0,none⟩ (by simp) _,
  (((h.h1.set_other ⟨w0.heap.size,0,none⟩ (by simp) _).set 0 _).set_other ⟨w0.heap.size+2,0,none⟩ (by simp) _).set_other ⟨w0.heap.size+3,0,none⟩ (by simp) _,
  (((h.h2.set_other ⟨w0.heap.size,0,none⟩ (by simp) _).set_other ⟨w0.heap.size+1,0,none⟩ (by simp) _).set 0 _).set_other ⟨w0.heap.size+3,0,none⟩ (by simp) _,
  (((h.h3.set_other ⟨w0.heap.size,0,none⟩ (by simp) _).set_other ⟨w0.heap.size+1,0,none⟩ (by simp) _).set_other ⟨w0.heap.size+2,0,none⟩ (by simp) _).set 0 _⟩
theorem own_set {w:World} {B:Nat} {e:TypeId} {size n:Nat} {v:Value} {us:List Value} (h:w.ownsRow B e size v n us) (b:Nat) (hv:v.ownBlock≠some b) (x:Value):(w.setCell ⟨b,0,none⟩ x).ownsRow B e size v n us:=
 h.kept ⟨rfl,rfl,rfl,by simp [World.setCell],fun k _ hk=>Below.heap_setCell _ _ _ _ (fun e=>hk (by rw [e]))⟩ (Or.inr hv)
theorem ndx_set {F:Nat→Prop} {w:World} {d:Nd} {v:Value} (h:NdX F w d v) (b:Nat) (hb:¬ F b) (x:Value):NdX F (w.setCell ⟨b,0,none⟩ x) d v:=
 h.keep (by simp [World.setCell]) (fun k hk _=>⟨hk,fun o=>World.cell?_of_block (w:=w) (a:=⟨k,o,none⟩) (Below.heap_setCell _ _ _ _ (fun e=>hb (by have e2:k=b:=e;rw [←e2];exact hk)))⟩)
theorem own_slice {w:World} {B:Nat} {e:TypeId} {size n:Nat} {v:Value} {us:List Value} (h:w.ownsRow B e size v n us):∃ a m c,v=.slice a m c:=by
 rcases h.2 with ⟨rfl,_⟩ | ⟨g,cap,cur,rfl,_⟩
 ·exact ⟨_,_,_,rfl⟩
 ·exact ⟨_,_,_,rfl⟩
theorem rd_new (w0 W:World) (s:ByteArray) (hs:s.size≤250) (h0:w0.heap.size≤W.heap.size):Rd w0.heap.size W.heap.size (W.alloc (.cells #[.string s,.int .i64 0,.slice none 0 0,.slice none 0 0,.int .i64 0] 171)) s reZero [] 0 (.slice none 0 0) (.slice none 0 0):=
 { blk:=Blk.new W _ _ _ rfl,mo:=World.ownsRow_nil _ _ _ _,co:=World.ownsRow_nil _ _ _ _,rr:=rr_nil,bp:=h0,mp:=by simp [Value.ownBlock],cp:=by simp [Value.ownBlock],mc:=by intro b hb;simp [Value.ownBlock] at hb,pos:=Nat.zero_le _,small:=hs,few:=⟨Nat.le_refl _,Nat.le_refl _⟩ }
theorem parse_last {w w1 W5:World} {x0 x1 x2 x3 v mv cv:Value} {d:Nd} {n:Nat} {us:List Value} (h:Four w w1 x0 x1 x2 x3) (hsz:w.heap.size+5≤W5.heap.size) (hN:NdOff W5.heap.size (w.heap.size+4) mv cv w1 d v) (hm:w1.ownsRow w.heap.size 77 2 mv n us)
  (hno:∀ b,b < W5.heap.size→b≠w.heap.size+4→mv.ownBlock≠some b) :
  Four w ((((w1.setCell ⟨w.heap.size,0,none⟩ v).setCell ⟨w.heap.size+1,0,none⟩ mv).setCell ⟨w.heap.size+2,0,none⟩ (.int .i64 0)).setCell ⟨w.heap.size+3,0,none⟩ (.int .i64 0)) v mv (.int .i64 0) (.int .i64 0)∧
  NdX (fun b=>w.heap.size≤b) ((((w1.setCell ⟨w.heap.size,0,none⟩ v).setCell ⟨w.heap.size+1,0,none⟩ mv).setCell ⟨w.heap.size+2,0,none⟩ (.int .i64 0)).setCell ⟨w.heap.size+3,0,none⟩ (.int .i64 0)) d v∧
  ((((w1.setCell ⟨w.heap.size,0,none⟩ v).setCell ⟨w.heap.size+1,0,none⟩ mv).setCell ⟨w.heap.size+2,0,none⟩ (.int .i64 0)).setCell ⟨w.heap.size+3,0,none⟩ (.int .i64 0)).ownsRow w.heap.size 77 2 mv n us:=by
 have hN':NdX (fun b=>w.heap.size+5≤b) w1 d v:=hN.keep (Nat.le_refl _) (fun b hb _=>⟨Nat.le_trans hsz hb.1,fun _=>rfl⟩)
 refine ⟨h.store _ _ _ _,?_,?_⟩
 ·exact ((((ndx_set hN' _ (by omega) _ |> fun h=>ndx_set h _ (by omega) _) |> fun h=>ndx_set h _ (by omega) _) |> fun h=>ndx_set h _ (by omega) _)).keep (Nat.le_refl _) (fun b hb _=>⟨by omega,fun _=>rfl⟩)
 ·exact own_set (own_set (own_set (own_set hm _ (hno _ (by omega) (by omega)) _) _ (hno _ (by omega) (by omega)) _) _ (hno _ (by omega) (by omega)) _) _ (hno _ (by omega) (by omega)) _
theorem bparse_short (s:ByteArray) (w:World) (hs:s.size≤250) (hG:Gl w):Calls Tryz.prog 67 #[.string s] w fun e w'=>PAns (parseM false s.data.toList) w e w':=by
 have hmf:∀ (fn:Fn) (first cap:Array Value) (w:World),(Instr.makeFunc fn first cap).run Tryz.prog w=.ok (.func fn first cap) w:=fun _ _ _ _=>rfl
 have hsl:s.data.toList.length=s.size:=by simp
 have e1:decide ((250:Int) < (s.size:Int))=false:=by simp;omega
 have h4:=four_new w
 generalize hW4:((((w.alloc (.cells #[.nilIface] 26)).alloc (.cells #[.slice none 0 0] 36)).alloc (.cells #[.int .i64 0] 3)).alloc (.cells #[.int .i64 0] 37))=W4 at h4
 have hn4:W4.heap.size=w.heap.size+4:=by rw [←hW4];simp
 have hR:=rd_new w W4 s hs (by omega)
 rw [hn4] at hR
 have hA:=(Below.refl W4.heap.size W4).alloc (Nat.le_refl _) (.cells #[.string s,.int .i64 0,.slice none 0 0,.slice none 0 0,.int .i64 0] 171)
 have h5:=h4.below hA
 have hG5:=hG.up h5.b
 have hps:=parse_shut false s.data.toList (by rw [hsl];exact hs)
 have hrx:=regex_any _ hR (subOf s.data.toList 0) (subOf_mv _ _) (subOf_ok _ _) hG5 hG.lt (fun st es=>group_any w.heap.size (w.heap.size+4) s hG.lt 12 0 rfl st es)
 rw [show subOf s.data.toList 0=some (regM false s.data.toList 11) from rfl] at hrx
 obtain ⟨R,hR0⟩:∃ R,R=parseM false s.data.toList:=⟨_,rfl⟩
 rw [←hR0]
 have hR1:=hR0.trans hps
 have HR5:=Lib.hid hR
 have H5:=Lib.hid h5
 have HW4:=Lib.hid hW4
 have HN4:=Lib.hid hn4
 have hce:=choice_ends s.data.toList (some (regM false s.data.toList 11)) (s.data.toList.length+1) reZero []
 have HCE:=Lib.hid hce
 have HSL:=Lib.hid hsl
 clear hR hA h4 h5 hG5 hps hR0 hG hn4 hce hsl hs
 subst hW4
 go_enter_defers Tryz.func67,Tryz.ntmps67
 go_wp2_with fail
 generalize hW5:((((w.alloc (.cells #[.nilIface] 26)).alloc (.cells #[.slice none 0 0] 36)).alloc (.cells #[.int .i64 0] 3)).alloc (.cells #[.int .i64 0] 37)).alloc (.cells #[.string s,.int .i64 0,.slice none 0 0,.slice none 0 0,.int .i64 0] 171)=W5 at *
 have hsz5:w.heap.size+5≤W5.heap.size:=by rw [←hW5];simp
 have HSZ:=Lib.hid hsz5
 clear hW5 hsz5
 refine Calls.mono hrx ?_
 intro e w1 hA
 obtain ⟨mv1,cv1,hS1,hr⟩:=hA
 have hF1:=H5.out.step (Nat.le_refl _) hS1 (hS1.low HR5.out)
 have HS1:=Lib.hid hS1
 have HF1:=Lib.hid hF1
 clear hS1 hF1 hrx
 cases hC:choiceM false s.data.toList (some (regM false s.data.toList 11)) false (s.data.toList.length+1) reZero [] with
 | error q=>
  rw [hC] at hr hR1
  obtain rfl:e=_:=hr
  have HF:=Lib.hid hR1
  clear hC hR1
  go_wp2_with fail
  refine leaves_cons (f:=86) (args:=#[.pointer (some ⟨w.heap.size,0,none⟩),.pointer (some ⟨w.heap.size+1,0,none⟩),.pointer (some ⟨w.heap.size+2,0,none⟩),.pointer (some ⟨w.heap.size+3,0,none⟩)]) (by simp) (by simp [go_sem]) ?_
  refine (four_caught HF1.out q.2 q.1).mono ?_
  rintro e u' w'' ⟨rfl,rfl,h5⟩
  have k0:=(h5.h0.cell 0).trans rfl
  have k1:=(h5.h1.cell 0).trans rfl
  have k2:=(h5.h2.cell 0).trans rfl
  have k3:=(h5.h3.cell 0).trans rfl
  simp [Leaves,settle,results,Tryz.results67,go_sem,k0,k1,k2,k3]
  exact ⟨h5.b,by rw [HF.out];rfl⟩
 | ok q=>
  rw [hC] at hr hR1
  obtain ⟨es1,v1,rfl,hRd1,hN1⟩:=hr
  have hce:=HCE.out _ _ hC
  have HRd1:=Lib.hid hRd1
  have HN1:=Lib.hid hN1
  obtain ⟨c0,c1,c2,c3,c4,z1,z2,z3,z4⟩:=hRd1.cells
  have hp1:=hRd1.pos
  have hsm:=hRd1.small
  rw [HSL.out] at hce
  clear hC hRd1 hN1
  cases h41:esAt s.data.toList q.1.pos 41 with
  | true=>
   have hlt:=(es_byt h41).1
   rw [HSL.out] at hlt
   have HF:=Lib.hid (hR1.trans (show shutR false s.data.toList (.ok q)=.error (8,q.1.pos) by unfold shutR;simp only [opAt,Bool.false_eq_true,if_false];rw [h41];rfl))
   have e2:decide ((q.1.pos:Int) < (s.size:Int))=true:=by simp;omega
   have e3:decide (q.1.pos < s.size)=true:=by simp;omega
   clear hR1 h41 hlt hce
   go_wp2_with fail
   refine leaves_cons (f:=86) (args:=#[.pointer (some ⟨w.heap.size,0,none⟩),.pointer (some ⟨w.heap.size+1,0,none⟩),.pointer (some ⟨w.heap.size+2,0,none⟩),.pointer (some ⟨w.heap.size+3,0,none⟩)]) (by simp) (by simp [go_sem]) ?_
   refine (four_caught HF1.out q.1.pos 8).mono ?_
   rintro e u' w'' ⟨rfl,rfl,h5⟩
   have k0:=(h5.h0.cell 0).trans rfl
   have k1:=(h5.h1.cell 0).trans rfl
   have k2:=(h5.h2.cell 0).trans rfl
   have k3:=(h5.h3.cell 0).trans rfl
   simp [Leaves,settle,results,Tryz.results67,go_sem,k0,k1,k2,k3]
   exact ⟨h5.b,by rw [HF.out];rfl⟩
  | false=>
   have hge:s.size≤q.1.pos:=hce.resolve_right (by rw [h41];simp)
   have HF:=Lib.hid (hR1.trans (show shutR false s.data.toList (.ok q)=.ok q by unfold shutR;simp only [opAt,Bool.false_eq_true,if_false];rw [h41];rfl))
   have e2:decide ((q.1.pos:Int) < (s.size:Int))=false:=by simp;omega
   have e3:decide (q.1.pos < s.size)=false:=by simp;omega
   clear hR1 h41 hce hge
   have q0:=(HF1.out.h0.cell 0).trans rfl
   have q1:=(HF1.out.h1.cell 0).trans rfl
   have q2:=(HF1.out.h2.cell 0).trans rfl
   have q3:=(HF1.out.h3.cell 0).trans rfl
   have y0:=HF1.out.h0.frozen 0
   have y1:=HF1.out.h1.frozen 0
   have y2:=HF1.out.h2.frozen 0
   have y3:=HF1.out.h3.frozen 0
   have hno:=fun b hb hbp=>((HS1.out.block b hb hbp (by simp [Value.ownBlock]) (by simp [Value.ownBlock])).2.1)
   have HNO:=Lib.hid hno
   clear hno
   obtain ⟨ma,mn,mc,hmv⟩:=own_slice HRd1.out.mo
   subst hmv
   obtain ⟨nn,hnn⟩:=HN1.out
   rcases nd_shape hnn with ⟨T,x,rfl⟩ | rfl
   all_goals
    clear hnn
    go_wp2_with fail
    go_region
    all_goals go_wp2_with fail
    all_goals
     refine leaves_cons (f:=86) (args:=#[.pointer (some ⟨w.heap.size,0,none⟩),.pointer (some ⟨w.heap.size+1,0,none⟩),.pointer (some ⟨w.heap.size+2,0,none⟩),.pointer (some ⟨w.heap.size+3,0,none⟩)]) (by simp) (by simp [go_sem]) ?_
     refine (bcatch_idle _ _ _ _ _).mono ?_
     rintro e u' w'' ⟨rfl,rfl,rfl⟩
     have hF9:=parse_last HF1.out HSZ.out HN1.out HRd1.out.mo HNO.out
     have k0:=(hF9.1.h0.cell 0).trans rfl
     have k1:=(hF9.1.h1.cell 0).trans rfl
     have k2:=(hF9.1.h2.cell 0).trans rfl
     have k3:=(hF9.1.h3.cell 0).trans rfl
     have HF9:=Lib.hid hF9
     clear hF9 c0 c1 c2 c3 c4 z1 z2 z3 z4 q0 q1 q2 q3 y0 y1 y2 y3
     generalize (((World.setCell _ _ _).setCell _ _).setCell _ _).setCell _ _=w9 at HF9 k0 k1 k2 k3 ⊢
     simp [Leaves,settle,results,Tryz.results67,go_sem,k0,k1,k2,k3]
     refine ⟨HF9.out.1.b.drew,?_⟩
     rw [HF.out]
     exact ⟨_,_,rfl,HF9.out.2.1.drew,HF9.out.2.2⟩
theorem bparse_any (s:ByteArray) (w:World) (hG:Gl w):Calls Tryz.prog 67 #[.string s] w fun e w'=>PAns (parseM false s.data.toList) w e w':=by
 by_cases hs:s.size≤250
 ·exact bparse_short s w hs hG
 ·have hl:parseM false s.data.toList=.error (3,250):=by
   unfold parseM
   rw [if_pos (by simp;omega)]
  rw [hl]
  exact bparse_long s w (by omega)
end Go.Proofs.YtbgfankoojjejaaGreatDoor
