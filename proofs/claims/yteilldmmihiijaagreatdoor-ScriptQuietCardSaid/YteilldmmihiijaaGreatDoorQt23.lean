/- Texts. -/
import Derived.Test.YteilldmmihiijaaGreatDoorQt22
import Derived.Test.YteilldmmihiijaaGreatDoorQt05
import Derived.Test.YteilldmmihiijaaGreatDoorQt15
import Derived.Test.YteilldmmihiijaaGreatDoorQt03
import Derived.Test.YteilldmmihiijaaGreatDoorCards
import Derived.Test.YteilldmmihiijaaGreatDoorTie
import Derived.ShutString
import Derived.OpenShut
import Derived.Deep.DeepHandedRow
import Derived.Lib.LaidTab
import Derived.Stop.LaidErr
import Derived.Shelf.Vars
set_option linter.unusedSimpArgs false
set_option linter.unusedVariables false
set_option maxHeartbeats 8000000
set_option maxRecDepth 1000000
namespace Go.Proofs.YteilldmmihiijaaGreatDoor
open Go.Lib renaming hid→Ac8
open List renaming setIfInBounds_toArray→Ac9,getElem_cons_zero→Ada,getElem_cons_succ→Adb,getElem_toArray→Adc,set_cons_zero→Zz0,set_cons_succ→Ade
open Nat renaming le_refl→Adf,lt_of_lt_of_le→Adi
open Go.RowKit.Below renaming refl→Adk,heap_setCell→Adl
open Go.IntWalk renaming i64_in→Adm
section
open Go Go.RowKit
def r0V:RV:=⟨⟨0,[],[],[]⟩,[],[],none,0,none,0,none,0⟩
theorem ScS.init {W w2 w3:World} {z:Array Value} (s:ByteArray) (ext:Bool) (h2:W.alloc (.map #[] 0)=w2) (h3:w2.alloc (.cells z 53)=w3):ScS W w2.heap.size W.heap.size false s ext r0V (w3.setRow w2.heap.size (scC false (.slice none 0 0) s ext 0 (.slice none 0 0) (.slice none 0 0) (.map (some W.heap.size)))):=by
 have b2:=Ac h2;have b3:=Ac h3;have e2:w2.heap.size=W.heap.size+1:=by rw [←h2];exact World.size_alloc _ _
 have e3:w3.heap.size=w2.heap.size+1:=by rw [←h3];exact World.size_alloc _ _
 have q3:=Ae h3;refine ⟨⟨below_setRow (b2.trans (b3.mono b2.size)) b2.size _,b2.size,Adf _,by simp;omega,?_,rfl,World.ownsRow_nil _ _ _ _,World.ownsRow_nil _ _ _ _,World.ownsRow_nil _ _ _ _,?_,fun v hv=>by cases hv⟩,setRow_heap w3 _ _ _ _ _ q3⟩
 ·simp [Apart,RV.own,r0V,Value.ownBlock]
  omega
 ·have h0:LabAt w2 W.heap.size []:=by
   rw [←h2];exact ⟨0,.map [],Adf _,World.ownsMap_made _ _ _ _,fun x=>by simp [DataW.atKey]⟩
  exact h0.same ((setRow_other w3 _ _ _ (by omega)).trans (b3.block _ (by omega)))
theorem ZB {ext:Bool} {L:List UInt8} {q:Nat × Nat} (h:MW ext L=.error q):q.1≠0:=by
 unfold MW at h;have hrun:∀ (n:Nat) (st:SS) (q:Nat × Nat),D9 ext L n st=.error q→q.1≠0:=fun n=>by
  induction n with
  | zero=>intro st q h;cases h
  | succ n ih=>
   intro st q h;unfold D9 at h;split at h
   ·split at h
    ·rename_i hc
     injection h with h;rw [←h];exact OA hc
    ·exact ih _ _ h
   ·cases h
 cases hR:D9 ext L 102 ⟨0,[],[],[]⟩ with
 | error x=>rw [hR] at h;injection h with h;rw [←h];exact hrun _ _ _ hR
 | ok st=>
  rw [hR] at h;unfold GU at h;simp only at h;split at h
  ·cases h
  ·rename_i hn;injection h with h;rw [←h];exact hn
theorem Kx {tmps:Array Value} {W:World} {r:Nat} {cs:Array Value} {v7 v8 v9:Value} (h6:tmps.getD 4 undef=.pointer (some ⟨r,0,none⟩)) (h7:tmps.getD 5 undef=v7) (h8:tmps.getD 6 undef=v8) (h9:tmps.getD 7 undef=v9) (hl:(loadVar 25 ⟨r,0,none⟩).run Tryz.prog W=.ok (.agg cs) W) :
  (results Tryz.f7 tmps).run Tryz.prog W=.ok (.tuple #[.agg cs,v7,v8,v9]) W:=by
 have ha:(asAddr (.pointer (some ⟨r,0,none⟩))).run Tryz.prog W=.ok ⟨r,0,none⟩ W:=rfl;simp only [Array.getD_eq_getD_getElem?] at h6 h7 h8 h9;unfold results;rw [Tryz.results7];simp [Sem.run_bind,h6,h7,h8,h9,hl,ha]
def Xq (w:World) (ext:Bool) (L:List UInt8) (e:Ending) (w':World):Prop:=Below w.heap.size w w'∧match MW ext L with
 | .error x=>e=.returned (.tuple #[.agg #[.bool false,.slice none 0 0],.slice none 0 0,.int .i64 (x.2:Int),.int .i64 (x.1:Int)])
 | .ok st=>∃ vs ca cc ma mc,e=.returned (.tuple #[.agg #[.bool (C4 L),.slice ca vs.length cc],.slice ma st.ms.length mc,.int .i64 0,.int .i64 0])∧vs.map (·.c)=st.cs∧Kw w' ca vs∧(∀ v∈vs,v.ok (fun b=>b < w'.heap.size) w')∧(∀ c∈st.cs,CFine c)∧st.cs.length≤100∧st.ms.length≤90000∧
  w'.ownsRow w.heap.size 33 2 (.slice ma st.ms.length mc) st.ms.length (wmC st.ms)
theorem Ew (s:ByteArray) (ext:Bool) (w:World) (hs:s.size≤4000) (hG:Gl w) (hP:GP w) :
  Calls Tryz.prog 7 #[.string s,.bool ext] w (Xq w ext s.data.toList):=by
 obtain ⟨W,hW⟩:∃ W,w.alloc (.cells #[.bool false,.slice none 0 0] 25)=W:=⟨_,rfl⟩;have HA:=Ac8 (Ac hW);have HR0:=Ac8 (Ae hW);have HG:=Ac8 (hG.up HA.out);have HP:=Ac8 (hP.up HA.out);have hsz:¬ (4000:Int) < (s.size:Int):=by omega
 clear hG hP;go_enter Tryz.func7,Tryz.ntmps7;have hmm:=@run_makeMap Tryz.prog;go_upto_region 3 with fail;refine wp_region_list ?_
 iterate 2 (refine wpList_plain rfl (fun K hK=>?_);go_simp;refine hK _ _ ?_;clear hK K;(try simp only [Adc,Adb,Ada,Act.put,Ac9,Zz0,Ade]))
 refine wpList_plain rfl (fun K hK=>?_);go_simp;generalize hM:World.alloc _ _=w2;refine hK _ _ ?_;clear hK K
 (try simp only [Adc,Adb,Ada,Act.put,Ac9,Zz0,Ade])
 refine wpList_build rfl 53 _ rfl (by kernel_rfl) ?_;generalize hB:Option.getD _ #[]=B;have hB2:B=scC false (.slice none 0 0) s ext 0 (.slice none 0 0) (.slice none 0 0) (.map (some (World.heap W).size)):=by rw [←hB];kernel_rfl
 subst hB2;clear hB
 (try simp only [Adc,Adb,Ada,Act.put,Ac9,Zz0,Ade])
 refine wpList_plain rfl (fun K hK=>?_);go_simp;generalize hA:World.alloc _ _=w3;refine hK _ _ ?_;clear hK K
 (try simp only [Adc,Adb,Ada,Act.put,Ac9,Zz0,Ade])
 refine wpList_store_row rfl 53 _ _ rfl (World.heap w2).size (scC false (.slice none 0 0) s ext 0 (.slice none 0 0) (.slice none 0 0) (.map (some (World.heap W).size))) rfl rfl 53 _ (Ae hA) (by kernel_rfl) rfl (by kernel_rfl) ?_
 (try simp only [Adc,Adb,Ada,Act.put,Ac9,Zz0,Ade])
 refine wpList_nil ?_;have H4:=Ac8 (ScS.init s ext hM hA);generalize w3.setRow _ _=w4 at H4 ⊢;obtain ⟨p,hp⟩:∃ p,(World.heap w2).size=p:=⟨_,rfl⟩;rw [hp] at H4 ⊢;have hread:=QC W p (World.heap W).size false s ext r0V w4 H4.out hs rfl rfl HG.out HP.out;obtain ⟨R,hRR⟩:∃ R,MW ext s.data.toList=R:=⟨_,rfl⟩;obtain ⟨q,hq⟩:∃ q,C4 s.data.toList=q:=⟨_,rfl⟩;rw [hRR,hq] at hread;have HR:=Ac8 hRR;have HQ:=Ac8 hq;have HW:=Ac8 (show w.heap.size < W.heap.size from HR0.out.lt);clear hW hM hA hp hRR hq hmm;obtain ⟨g,hg⟩:∃ g,(World.heap w).size=g:=⟨_,rfl⟩;have HG0:=Ac8 hg;rw [hg] at HR0 HW ⊢;clear hg;have hx:∀ w5,Below W.heap.size W w5→Blk w5 g #[.bool false,.slice none 0 0] 25:=fun w5 b5=>HR0.out.below b5 HW.out
 cases R with
 | error x=>
  have ce:((x.1:Int) != 0)=true:=by simpa using ZB HR.out
  go_upto_region 6 with (go_at_call 10;refine hread.mono ?_;clear hread;rintro e w5 ⟨b5,rfl⟩)
  have q5:=hx w5 b5;have k0:w5.cell? ⟨g,0,none⟩=some (.bool false):=(q5.cell 0).trans rfl;have k1:w5.cell? ⟨g,1,none⟩=some (.slice none 0 0):=(q5.cell 1).trans rfl;have f0:=q5.frozen 0;have f1:=q5.frozen 1;go_wp2_with fail
  have q6:=(q5.set 0 (.bool false)).set 1 (.slice none 0 0);have hl:=run_loadVar_row (P:=Tryz.prog) _ g 25 25 #[.bool false,.slice none 0 0] _ _ q6 Tryz.underlying25 rfl (by kernel_rfl);refine bodyPost_ret (Kx rfl rfl rfl rfl hl) rfl ?_;unfold Xq;rw [HR.out];exact ⟨((HA.out.trans (b5.mono HA.out.size)).setCell (p:=⟨g,0,none⟩) (Nat.le_of_eq HG0.out) _).setCell (p:=⟨g,1,none⟩) (Nat.le_of_eq HG0.out) _,rfl⟩
 | ok st=>
  have hmix:Tryz.prog.follows .mixedOrders=true:=by kernel_rfl
  go_upto_region 7 with (go_at_call 10;refine hread.mono ?_;clear hread;rintro e w5 ⟨b5,rfl,r,e5,i5,h5⟩)
  have q5:=hx w5 b5;have hpg:g≠p:=by have:=h5.h.pB;have:=HW.out;omega
  have H5:=Ac8 h5;have hq5:=h5.b;refine wp_region_held_drew (S:=fun W':World=>Blk W' p (scC q r.cv s ext r.st.k r.mv r.ov (.map (some (World.heap W).size))) 53) hmix h5.b (fun hHeld=>?_);refine AD 0 ?_ rfl (by assumption) (Or.inl ⟨by rfl,?_⟩) ?_;rotate_left;(focus (intro W' hSw;skip;(try go_simp);try with_reducible rfl));(try simp only [Adc,Adb,Ada,Act.put,Ac9,Zz0,Ade]);refine AD 1 (.agg #[.bool q,r.cv]) rfl hHeld (Or.inl ⟨by rfl,fun W' hSw=>Gn 25 _ rfl p 0 2 rfl hSw Tryz.underlying25 (by kernel_rfl)⟩) ?_
  (try simp only [Adc,Adb,Ada,Act.put,Ac9,Zz0,Ade])
  refine AD 2 ?_ rfl (by assumption) (Or.inl ⟨by rfl,?_⟩) ?_;rotate_left;(focus (intro W' hSw;skip;(try go_simp);try with_reducible rfl));(try simp only [Adc,Adb,Ada,Act.put,Ac9,Zz0,Ade]);refine AD 3 ?_ rfl (by assumption) (Or.inl ⟨by rfl,?_⟩) ?_;rotate_left;(focus (intro W' hSw;(have c5:W'.cell? ⟨p,5,none⟩=some r.mv:=(hSw.cell 5).trans rfl);clear hSw;(try go_simp);try with_reducible rfl));(try simp only [Adc,Adb,Ada,Act.put,Ac9,Zz0,Ade]);have q6:Blk w5.drew g #[.bool false,.slice none 0 0] 25:=q5.drew;have b6:Below W.heap.size W w5.drew:=b5.drew;have H6:=Ac8 (H5.out.drew);generalize w5.drew=v5 at hHeld q6 b6 H6 ⊢;clear hq5 h5 q5 b5;have k0:v5.cell? ⟨g,0,none⟩=some (.bool false):=(q6.cell 0).trans rfl;have k1:v5.cell? ⟨g,1,none⟩=some (.slice none 0 0):=(q6.cell 1).trans rfl;have f0:=q6.frozen 0;have f1:=q6.frozen 1;refine wpAnyH_ready (rs:=[4]) (by decide +kernel) (by simp) (AllReadyH.cons rfl (fun K hK=>?_) AllReadyH.nil);go_simp;refine hK.out _ _ (Blk.set_other (Blk.set_other hHeld ⟨g,0,none⟩ hpg _) ⟨g,1,none⟩ hpg _) (fun hHeld=>?_);clear hK K
  (try simp only [Adc,Adb,Ada,Act.put,Ac9,Zz0,Ade])
  refine AD 5 ?_ rfl (by assumption) (Or.inl ⟨by rfl,?_⟩) ?_;rotate_left;(focus (intro W' hSw;skip;(try go_simp);try with_reducible rfl));(try simp only [Adc,Adb,Ada,Act.put,Ac9,Zz0,Ade]);refine AD 6 ?_ rfl (by assumption) (Or.inl ⟨by rfl,?_⟩) ?_;rotate_left;(focus (intro W' hSw;skip;(try go_simp);try with_reducible rfl));(try simp only [Adc,Adb,Ada,Act.put,Ac9,Zz0,Ade]);refine AD 7 ?_ rfl (by assumption) (Or.inl ⟨by rfl,?_⟩) ?_;rotate_left;(focus (intro W' hSw;skip;(try go_simp);try with_reducible rfl));(try simp only [Adc,Adb,Ada,Act.put,Ac9,Zz0,Ade]);refine wpAnyH_done (by kernel_rfl) ?_ _
  (try go_wp2_with fail)
  have q7:=(q6.set 0 (.bool q)).set 1 r.cv;have hl:=run_loadVar_row (P:=Tryz.prog) _ g 25 25 #[.bool q,r.cv] _ _ q7 Tryz.underlying25 rfl (by kernel_rfl);refine bodyPost_ret (Kx rfl rfl rfl rfl hl) rfl ?_;unfold Xq;rw [HR.out,HQ.out];have hgw:=HW.out;have oo:∀ b,W.heap.size≤b→((v5.setCell ⟨g,0,none⟩ (.bool q)).setCell ⟨g,1,none⟩ r.cv).heap[b]?=v5.heap[b]?:=fun b hb=>by
   rw [Adl _ _ _ _ (show b≠g by omega),Adl _ _ _ _ (show b≠g by omega)]
  have hwW:=HA.out.size;refine ⟨((HA.out.trans (b6.mono HA.out.size)).setCell (p:=⟨g,0,none⟩) (Nat.le_of_eq HG0.out) _).setCell (p:=⟨g,1,none⟩) (Nat.le_of_eq HG0.out) _,r.vs,r.ca,r.cc,r.ma,r.mc,by rw [←e5];rfl,by rw [H6.out.h.cs,e5],O6 (Aa H6.out.h.cr fun b hb=>oo b (AN H6.out.h.cr b hb)),fun v hv=>(H6.out.h.ok v hv).keep (by simp [World.setCell]) (fun b hb hl=>⟨by simpa [World.setCell] using hl,oo b hb.1⟩),?_,?_,?_,?_⟩
  ·rw [←e5];exact i5.fi
  ·rw [←e5];exact i5.cs
  ·rw [←e5];have:=i5.ms;have:=i5.cs;omega
  ·rw [←e5];exact BN hwW (Aa H6.out.h.mr fun b hb=>oo b (AN H6.out.h.mr b hb))
end
section
open Go Go.RowKit
theorem QD (q:Bool) (va vb:List CV) (ca cb:Option Addr) (oa ob:Nat) (w:World) (hlen:va.length=vb.length) (hn:va.length≤1000) (hc:∀ i (h:i < va.length) (h2:i < vb.length),RC va[i].c vb[i].c) (hf:∀ v∈va,CFine v.c) (ka:∀ v∈va,v.ok (fun b=>b < w.heap.size) w) (kb:∀ v∈vb,v.ok (fun b=>b < w.heap.size) w) (ra:Kw w ca va) (rb:Kw w cb vb) :
  Calls Tryz.prog 8 #[.agg #[.bool q,.slice ca va.length oa],.agg #[.bool q,.slice cb vb.length ob]] w fun e w'=>e=.returned (.bool true)∧Below w.heap.size w w':=by
 have hE:=fun w1 (b1:Below w.heap.size w w1)=>Xf va vb ca cb oa ob w1 hlen hn hc hf (fun v hv=>IM b1 (ka v hv)) (fun v hv=>IM b1 (kb v hv)) (ra.below b1) (rb.below b1)
 clear hlen hn hc hf ka kb ra rb;go_enter Tryz.func8,Tryz.ntmps8;go_upto_region 1 with fail;generalize hW1:w.alloc _=W1;generalize hW2:W1.alloc _=W2;have hX:=(Ae hW1).below (Ac hW2) (Ae hW1).lt;have hY:=Ae hW2;have B2:=Ac8 ((Ac hW1).trans ((Ac hW2).mono (Ac hW1).size));have hp:W1.heap.size=w.heap.size+1:=by rw [←hW1];exact World.size_alloc _ _
 rw [hp] at hY;clear hp;generalize w.heap.size+1=p at hY ⊢;obtain ⟨g,hg⟩:∃ g,w.heap.size=g:=⟨_,rfl⟩;have HG:=Ac8 hg;rw [hg] at hX ⊢;have x0:W2.cell? ⟨g,0,none⟩=some (.bool q):=(hX.cell 0).trans rfl;have x1:W2.cell? ⟨g,1,none⟩=some (.slice ca va.length oa):=(hX.cell 1).trans rfl;have y0:W2.cell? ⟨p,0,none⟩=some (.bool q):=(hY.cell 0).trans rfl;have y1:W2.cell? ⟨p,1,none⟩=some (.slice cb vb.length ob):=(hY.cell 1).trans rfl;have qq:(q == q)=true:=by simp
 clear hW1 hW2 hX hY hg;go_wp2_with (go_at_call 11;refine (hE _ B2.out).mono ?_;clear hE;rintro e w3 ⟨rfl,b3⟩)
 go_ret;rw [←HG.out];exact ⟨rfl,B2.out.trans (b3.mono B2.out.size)⟩
end
section
open Go Go.RowKit
def Gp (x:List UInt8) (c:Cmd):Bool:=c.name == 58 && c.arg == x
def QE (cs:List Cmd) (x:List UInt8):Int:=match cs.findIdx? (Gp x) with
 | some i=>(i:Int)
 | none=>-1
theorem Zr (a b:List UInt8):((txt a).toList == (txt b).toList)=(a == b):=by
 rw [ByteArray.toList_eq,ByteArray.toList_eq];rfl
theorem QF (c:Cmd) (ta tb ts pv:Value) (x:List UInt8) (g:Nat) (w:World) (hg:w.cell? ⟨g,0,none⟩=some (.string (txt x))):Calls Tryz.prog 14 #[.agg (E1 c ta tb ts pv),.pointer (some ⟨g,0,none⟩)] w fun e w'=>e=.returned (.bool (Gp x c))∧Below w.heap.size w w':=by
 unfold E1;have hgl:=World.block_lt_of_cell? w ⟨g,0,none⟩ hg;by_cases h1:c.name=58
 ·have q1:((c.name.toNat:Int) == 58)=true:=by rw [h1];rfl
  have he:=Zr c.arg x;rw [show Gp x c=(c.arg == x) by unfold Gp;rw [h1];rfl];generalize (c.arg == x)=B at he ⊢;clear h1;go_enter Tryz.func14,Tryz.ntmps14;go_upto_region 1 with fail;generalize hW1:w.alloc _=W1;have hb:=Ac hW1;have g1:W1.cell? ⟨g,0,none⟩=some (.string (txt x)):=(hb.cell (p:=⟨g,0,none⟩) hgl).trans hg;have B1:=Ac8 hb;obtain ⟨x0,x10,x11⟩:=GB (c:=c) (ta:=ta) (tb:=tb) (ts:=ts) (pv:=pv) (Ae hW1);clear hW1 hb;go_wp2_with fail
  go_ret;exact ⟨rfl,B1.out⟩
 ·have q1:((c.name.toNat:Int) == 58)=false:=GA (b:=58) h1
  rw [show Gp x c=false by unfold Gp;simp [h1]];clear h1;go_enter Tryz.func14,Tryz.ntmps14;go_upto_region 1 with fail;generalize hW1:w.alloc _=W1;have B1:=Ac8 (Ac hW1);obtain ⟨x0,x10,x11⟩:=GB (c:=c) (ta:=ta) (tb:=tb) (ts:=ts) (pv:=pv) (Ae hW1);clear hW1;go_wp2_with fail
  go_ret;exact ⟨rfl,B1.out⟩
theorem TS (vs:List CV) (ca:Option Addr) (oa:Nat) (x:List UInt8) (g:Nat) (w:World) (hn:vs.length≤1000) (hg:w.cell? ⟨g,0,none⟩=some (.string (txt x))) (ra:Kw w ca vs) :
  Calls Tryz.prog 13 #[.slice ca vs.length oa,.func (.func 14) #[] #[.pointer (some ⟨g,0,none⟩)]] w fun e w'=>e=.returned (.int .i64 (QE (vs.map (·.c)) x))∧Below w.heap.size w w':=by
 obtain ⟨n,hv⟩:∃ n,vs.length=n:=⟨_,rfl⟩;have hgl:=World.block_lt_of_cell? w ⟨g,0,none⟩ hg;have hS:=fun (i:Nat) (h:i < vs.length) W (hB:Below w.heap.size w W)=>QF vs[i].c vs[i].ta vs[i].tb vs[i].ts (.slice vs[i].pa vs[i].c.sub.parts.length vs[i].pc) x g W ((hB.cell (p:=⟨g,0,none⟩) hgl).trans hg)
 obtain ⟨A,hA⟩:∃ A,QE (vs.map (·.c)) x=A:=⟨_,rfl⟩;rw [hA];have HS:=Ac8 hS;have RA:=Ac8 ra;have HV:=Ac8 hv;have HA:=Ac8 hA;rw [hv] at hn ⊢;clear hS ra hv hA hg hgl;go_enter Tryz.func13,Tryz.ntmps13;go_upto_region 2 with fail;go_loopw [8] (fun i wr=>∃ j:Nat,j≤n∧i=.int .i64 j∧Below w.heap.size w wr∧(vs.map (·.c)).findIdx? (Gp x)=(((vs.map (·.c)).drop j).findIdx? (Gp x)).map (·+j)) (fun i _=>n - (intOf i).toNat)
 case atStart=>exact ⟨0,by omega,rfl,Adk _ _,by simp⟩
 case round=>
  obtain ⟨j,hj,rfl,hb,hfind⟩:=hrel;have HB:=Ac8 hb;have HF:=Ac8 hfind;clear hb hfind;by_cases hlt:j < n
  ·have hji:(j:Int) < (n:Int):=by omega
   have hy0:(0:Int)≤(j:Int):=by omega
   have Wj:IntKind.i64.wrap ((j:Int)+1)=(j:Int)+1:=Adm _ (by omega);have j1:j < vs.length:=by rw [HV.out];exact hlt
   obtain ⟨g1,rfl,_,hc1⟩:=(RA.out.below HB.out) (by omega);have r1:=hc1 j j1;have hS:=HS.out j j1 wr HB.out;have HD:=Ac8 (show (vs.map (·.c)).drop j=vs[j].c :: (vs.map (·.c)).drop (j+1) by rw [List.drop_eq_getElem_cons (show j < (vs.map (·.c)).length by rw [List.length_map];exact j1),List.getElem_map]);clear hc1;generalize vs[j]=y at r1 hS HD;obtain ⟨L,hL⟩:∃ L,Gp x y.c=L:=⟨_,rfl⟩;rw [hL] at hS;have HLL:=Ac8 hL;clear hL;go_upto_region 4 with fail;refine wp_region_list ?_
   iterate 4 (refine wpList_plain rfl (fun K hK=>?_);go_simp;refine hK _ _ ?_;clear hK K;(try simp only [Adc,Adb,Ada,Act.put,Ac9,Zz0,Ade]))
   refine wpList_load_mid rfl 47 _ rfl g1 (j * 20) (by simp [Act.eval]) y.cells.toList _ r1 Tryz.underlying47 rfl (by kernel_rfl) ?_;rw [Array.toArray_toList]
   (try simp only [Adc,Adb,Ada,Act.put,Ac9,Zz0,Ade])
   refine wpList_plain rfl (fun K hK=>?_);go_simp
   go_at_call 14
   refine hS.mono ?_;clear hS;rintro e w3 ⟨rfl,b3⟩;refine hK _ _ ?_;clear hK K
   (try simp only [Adc,Adb,Ada,Act.put,Ac9,Zz0,Ade])
   refine wpList_nil ?_;have B3:=Ac8 (HB.out.trans (b3.mono HB.out.size));clear b3;cases L with
   | true=>
    have HZ:=Ac8 (show A=(j:Int) by rw [←HA.out];unfold QE;rw [HF.out,HD.out,List.findIdx?_cons,if_pos HLL.out];simp);go_wp2_with fail
    go_ret;rw [HZ.out];exact ⟨rfl,B3.out⟩
   | false=>
    go_wp2_with fail
    go_roundw
    case rel=>exact ⟨j+1,by omega,by go_num,B3.out,by
     rw [HF.out,HD.out,List.findIdx?_cons,if_neg (by rw [HLL.out];decide),Option.map_map]
     congr 1
     funext i
     show i+1+j=i+(j+1);omega⟩
    case measure=>simp [intOf];omega
  ·obtain rfl:j=n:=by omega
   have HZ:=Ac8 (show A=-1 by
    rw [←HA.out];unfold QE;rw [HF.out,List.drop_of_length_le (by rw [List.length_map];exact Nat.le_of_eq HV.out)];rfl)
   go_wp2_with fail
   go_ret;rw [HZ.out];exact ⟨rfl,HB.out⟩
theorem OB (q:Bool) (vs:List CV) (ca:Option Addr) (oa:Nat) (x:List UInt8) (w:World) (hn:vs.length≤1000) (ra:Kw w ca vs) :
  Calls Tryz.prog 9 #[.agg #[.bool q,.slice ca vs.length oa],.string (txt x)] w fun e w'=>e=.returned (.int .i64 (QE (vs.map (·.c)) x))∧Below w.heap.size w w':=by
 have hI:=fun w1 g (b1:Below w.heap.size w w1) (hg:w1.cell? ⟨g,0,none⟩=some (.string (txt x)))=>TS vs ca oa x g w1 hn hg (ra.below b1)
 clear hn ra;go_enter Tryz.func9,Tryz.ntmps9;go_upto_region 1 with fail;generalize hW1:w.alloc _=W1;generalize hW2:W1.alloc _=W2;have hX:=(Ae hW1).below (Ac hW2) (Ae hW1).lt;have hY:=Ae hW2;have B2:=Ac8 ((Ac hW1).trans ((Ac hW2).mono (Ac hW1).size));have hp:W1.heap.size=w.heap.size+1:=by rw [←hW1];exact World.size_alloc _ _
 rw [hp] at hY;clear hp;generalize w.heap.size+1=p at hY ⊢;obtain ⟨g,hg⟩:∃ g,w.heap.size=g:=⟨_,rfl⟩;have HG:=Ac8 hg;rw [hg] at hX ⊢;have x1:W2.cell? ⟨g,1,none⟩=some (.slice ca vs.length oa):=(hX.cell 1).trans rfl;have y0:W2.cell? ⟨p,0,none⟩=some (.string (txt x)):=(hY.cell 0).trans rfl;have hI2:=hI W2 p B2.out y0;clear hW1 hW2 hX hY hg hI;go_wp2_with (go_at_call 13;refine hI2.mono ?_;clear hI2;rintro e w3 ⟨rfl,b3⟩)
 go_ret;rw [←HG.out];exact ⟨rfl,B2.out.trans (b3.mono B2.out.size)⟩
end
section
open Go Go.RowKit
theorem I5 {w1 wy:World} {cs:Array Value} (hA:w1.alloc (.cells #[.bool false,.slice none 0 0] 25)=wy):Below w1.heap.size w1 (wy.setRow w1.heap.size cs)∧Blk (wy.setRow w1.heap.size cs) w1.heap.size cs 25:=
 ⟨below_setRow (Ac hA) (Adf _) _,setRow_heap wy _ _ _ _ _ (Ae hA)⟩
theorem Zs:MW false Rm=.error (16,6):=by
 have h:=Aap;cases hR:MW false Rm with
 | error q=>rw [hR] at h;rw [show q=(16,6) from h]
 | ok st=>rw [hR] at h;cases h
theorem Zt:∃ st,MW false Lg=.ok st∧st.cs.length=5∧QE st.cs [120]=4:=by
 have h:=Aaq;have h2:=Aar;cases hR:MW false Lg with
 | error q=>rw [hR] at h;cases h
 | ok st=>
  rw [hR] at h h2;simp only [Rn,Vb] at h h2;refine ⟨st,rfl,by have:=congrArg List.length h;simpa using this,?_⟩;generalize st.cs=cs at h h2 ⊢;rcases cs with _ | ⟨c0,_ | ⟨c1,_ | ⟨c2,_ | ⟨c3,_ | ⟨c4,_ | ⟨c5,l⟩⟩⟩⟩⟩⟩
  all_goals simp only [List.map_cons,List.map_nil,List.cons.injEq,and_true,reduceCtorEq,and_false] at h h2
  obtain ⟨n0,n1,n2,n3,n4⟩:=h;obtain ⟨a0,a1,a2,a3,a4⟩:=h2;unfold QE Gp;simp [List.findIdx?_cons,n0,n1,n2,n3,n4,a4]
theorem IN (w:World) (hG:Gl w) (hP:GP w):Calls Tryz.prog 6 #[] w fun e w'=>e=.returned (.bool true)∧Below w.heap.size w w':=by
 have hA:=Ew ⟨#[35,110,10,47,97,47,123,112,59,98,32,120,125]⟩ false w (by decide) hG hP;have hB:=fun w1 (b1:Below w.heap.size w w1)=>Ew ⟨#[35,110,10,47,97,47,123,112,59,98,32,120,10,125,10,58,120]⟩ false w1 (by decide) (hG.up b1) (hP.up b1)
 rw [show (⟨#[35,110,10,47,97,47,123,112,59,98,32,120,125]⟩:ByteArray).data.toList=Rm from rfl] at hA;rw [show (⟨#[35,110,10,47,97,47,123,112,59,98,32,120,10,125,10,58,120]⟩:ByteArray).data.toList=Lg from rfl] at hB;obtain ⟨st,he,h5,hL⟩:=Zt;unfold Xq at hA hB;rw [Zs] at hA;rw [he,Aas] at hB;simp only at hA hB;have H5:=Ac8 h5;have HL:=Ac8 hL;clear he h5 hL hG hP;go_enter Tryz.func6,Tryz.ntmps6;go_upto_region 1 with fail;refine wp_region_list ?_;refine wpList_plain rfl (fun K hK=>?_);go_simp;go_at_call 7;refine hA.mono ?_;clear hA;rintro e w1 ⟨b1,rfl⟩;refine hK _ _ ?_;clear hK K;(try simp only [Adc,Adb,Ada,Act.put,Ac9,Zz0,Ade])
 iterate 5 (refine wpList_plain rfl (fun K hK=>?_);go_simp;refine hK _ _ ?_;clear hK K;(try simp only [Adc,Adb,Ada,Act.put,Ac9,Zz0,Ade]))
 refine wpList_plain rfl (fun K hK=>?_);go_simp;generalize hA:(w1).alloc _=wy;refine hK _ _ ?_;clear hK K;(try simp only [Adc,Adb,Ada,Act.put,Ac9,Zz0,Ade]);refine wpList_store_row rfl 25 _ _ rfl (World.heap w1).size (#[.bool false,.slice none 0 0]) rfl rfl 25 #[.bool false,.slice none 0 0] (Ae hA) (by kernel_rfl) rfl ((by kernel_rfl)) ?_;(try simp only [Adc,Adb,Ada,Act.put,Ac9,Zz0,Ade]);have hbx:=I5 (cs:=#[.bool false,.slice none 0 0]) hA;generalize wy.setRow (World.heap w1).size _=w2 at hbx ⊢;clear hA
 iterate 3 (refine wpList_plain rfl (fun K hK=>?_);go_simp;refine hK _ _ ?_;clear hK K;(try simp only [Adc,Adb,Ada,Act.put,Ac9,Zz0,Ade]))
 refine wpList_nil ?_;obtain ⟨b2,_⟩:=hbx;have B2:=Ac8 (b1.trans (b2.mono b1.size));have hB2:=hB w2 B2.out;clear b1 b2 hB;go_upto_region 2 with fail;refine wp_region_list ?_;refine wpList_plain rfl (fun K hK=>?_);go_simp;go_at_call 7;refine hB2.mono ?_;clear hB2;rintro e w3 ⟨b3,vs,ca,cc,ma,mc,rfl,hcs,hra,hok,_⟩;refine hK _ _ ?_;clear hK K;(try simp only [Adc,Adb,Ada,Act.put,Ac9,Zz0,Ade])
 iterate 5 (refine wpList_plain rfl (fun K hK=>?_);go_simp;refine hK _ _ ?_;clear hK K;(try simp only [Adc,Adb,Ada,Act.put,Ac9,Zz0,Ade]))
 refine wpList_plain rfl (fun K hK=>?_);go_simp;generalize hA:(w3).alloc _=wy;refine hK _ _ ?_;clear hK K;(try simp only [Adc,Adb,Ada,Act.put,Ac9,Zz0,Ade]);refine wpList_store_row rfl 25 _ _ rfl (World.heap w3).size (#[.bool true,.slice ca vs.length cc]) rfl rfl 25 #[.bool false,.slice none 0 0] (Ae hA) (by kernel_rfl) rfl ((by kernel_rfl)) ?_;(try simp only [Adc,Adb,Ada,Act.put,Ac9,Zz0,Ade]);have hbx:=I5 (cs:=#[.bool true,.slice ca vs.length cc]) hA;generalize wy.setRow (World.heap w3).size _=w4 at hbx ⊢;clear hA
 iterate 3 (refine wpList_plain rfl (fun K hK=>?_);go_simp;refine hK _ _ ?_;clear hK K;(try simp only [Adc,Adb,Ada,Act.put,Ac9,Zz0,Ade]))
 refine wpList_nil ?_;obtain ⟨b4,q4⟩:=hbx;have hv5:vs.length=5:=by have:=H5.out;rw [←hcs,List.length_map] at this;exact this
 have B4:=Ac8 ((B2.out.trans (b3.mono B2.out.size)).trans (b4.mono (B2.out.trans (b3.mono B2.out.size)).size));have hlab:=OB true vs ca cc [120] w4 (by omega) (hra.below b4);rw [hcs,HL.out,show txt [120]=⟨#[120]⟩ from rfl] at hlab;obtain ⟨g,hg⟩:∃ g,w3.heap.size=g:=⟨_,rfl⟩;rw [hg] at q4 ⊢;rw [hv5] at q4 hlab ⊢;have k0:w4.cell? ⟨g,0,none⟩=some (.bool true):=(q4.cell 0).trans rfl;have k1:w4.cell? ⟨g,1,none⟩=some (.slice ca 5 cc):=(q4.cell 1).trans rfl;clear hra hok hcs hv5 q4 hg b3 b4;go_wp2_with (go_at_call 9;refine hlab.mono ?_;clear hlab;rintro e w5 ⟨rfl,b5⟩)
 go_ret;exact ⟨rfl,B4.out.trans (b5.mono B4.out.size)⟩
end
section
open Go Go.RowKit
theorem Xr {va vb:List CV} {cs ds:List Cmd} {a:Nat} (ha:va.map (·.c)=cs) (hb:vb.map (·.c)=ds) (h:ds=cs.map (shC a)):va.length=vb.length∧∀ i (h:i < va.length) (h2:i < vb.length),RC va[i].c vb[i].c:=by
 subst ha hb;refine ⟨by have:=congrArg List.length h;simpa using this.symm,fun i h1 h2=>⟨a+va[i].c.pl,?_⟩⟩;have h9:(vb.map (·.c))[i]?=((va.map (·.c)).map (shC a))[i]?:=by rw [h]
 rw [List.getElem?_map,List.getElem?_map,List.getElem?_map,List.getElem?_eq_getElem h1,List.getElem?_eq_getElem h2] at h9;simp only [Option.map_some,Option.some.injEq] at h9;rw [h9];rfl
theorem Zu {va:List CV} {cs:List Cmd} (ha:va.map (·.c)=cs) (h:∀ c∈cs,CFine c):∀ v∈va,CFine v.c:=fun v hv=>h _ (by rw [←ha];exact List.mem_map_of_mem hv)
theorem Acz (s:ByteArray):(s.extract 0 2).toList=s.data.toList.take 2:=by
 rw [ByteArray.toList_eq];simp
theorem TT (s:ByteArray) (ext:Bool) (w:World) (hG:Gl w) (hP:GP w) :
  Calls Tryz.prog 4 #[.string s,.bool ext] w fun e w'=>e=.returned (.bool true)∧Below w.heap.size w w':=by
 have hA:=IN w hG hP;have hA2:=fun w1 (b1:Below w.heap.size w w1)=>IN w1 (hG.up b1) (hP.up b1)
 have h2e:=Acz s;by_cases hs:(300:Int) < (s.size:Int)
 ·clear hG hP h2e
  go_enter Tryz.func4,Tryz.ntmps4;go_wp2_with (first
   | (go_at_call 6;refine hA.mono ?_;clear hA;rintro e w1 ⟨rfl,b1⟩;have hA3:=hA2 w1 b1;clear hA2)
   | (go_at_call 6;refine hA3.mono ?_;clear hA3;rintro e w2 ⟨rfl,b2⟩))
  go_ret;exact ⟨rfl,b1.trans (b2.mono b1.size)⟩
 by_cases hq:(1:Int) < (s.size:Int)∧s.data.toList.take 2=[35,110]
 ·obtain ⟨hs1,hq⟩:=hq
  have hs2:(2:Int)≤(s.size:Int):=by omega
  have hs3:2≤s.size:=by omega
  have heq:((s.extract 0 2).toList == [35,110])=true:=by rw [h2e,hq];rfl
  clear hG hP h2e hq;go_enter Tryz.func4,Tryz.ntmps4;go_wp2_with (first
   | (go_at_call 6;refine hA.mono ?_;clear hA;rintro e w1 ⟨rfl,b1⟩;have hA3:=hA2 w1 b1;clear hA2)
   | (go_at_call 6;refine hA3.mono ?_;clear hA3;rintro e w2 ⟨rfl,b2⟩))
  go_ret;exact ⟨rfl,b1.trans (b2.mono b1.size)⟩
 have hsz:s.size≤300:=by omega
 have hno:s.data.toList.take 2≠[35,110]:=fun e=>hq ⟨by have h9:=congrArg List.length e;rw [List.length_take,←Ad] at h9;simp at h9;omega,e⟩
 have hqn:=UG s.data.toList hno;have hqy:=Sk s.data.toList;have hSh:=UF ext s.data.toList (fun _ _ _ h=>EL h);have hPa:=fun w1 (b1:Below w.heap.size w w1)=>Ew s ext w1 (by omega) (hG.up b1) (hP.up b1)
 obtain ⟨S,hSS⟩:∃ S,(⟨#[35,110,10]⟩:ByteArray)++s=S:=⟨_,rfl⟩;have hSl:S.data.toList=[35,110,10]++s.data.toList:=by rw [←hSS];simp only [ByteArray.data_append,Array.toList_append]
 have hSz:S.size≤4000:=by rw [←hSS,ByteArray.size_append,show (ByteArray.mk #[35,110,10]).size=3 from rfl];omega
 have hPb:=fun w1 (b1:Below w.heap.size w w1)=>Ew S ext w1 hSz (hG.up b1) (hP.up b1)
 unfold Xq at hPa hPb;rw [hSl,hqy] at hPb;rw [hqn] at hPa;have her:∀ x,MW ext s.data.toList=.error x→x.1≠0:=fun x h=>ZB h
 generalize MW ext s.data.toList=Ra at hPa hSh her;generalize MW ext ([35,110,10]++s.data.toList)=Rb at hPb hSh;have HSS:=Ac8 hSS;have h22:(1:Int) < (s.size:Int)→((s.extract 0 2).toList == [35,110])=false:=fun _=>by rw [h2e];simpa using hno
 have HPB:=Ac8 hPb;clear hG hP hA2 h2e hq hno hqn hqy hSl hSz hSS hPb;go_enter Tryz.func4,Tryz.ntmps4;go_upto_region 1 with fail;go_cut [30] (fun s30 wx=>s30=.bool false∧Below w.heap.size w wx)
 case first=>
  by_cases hs1:(1:Int) < (s.size:Int)
  ·have heq:=h22 hs1
   have hs2:(2:Int)≤(s.size:Int):=by omega
   have hs3:2≤s.size:=by omega
   go_wp2_with (go_at_call 6;refine hA.mono ?_;clear hA;rintro e w1 ⟨rfl,b1⟩)
   go_meet;exact ⟨by rw [decide_eq_false (by omega)],b1⟩
  ·go_wp2_with (go_at_call 6;refine hA.mono ?_;clear hA;rintro e w1 ⟨rfl,b1⟩)
   go_meet;exact ⟨by rw [decide_eq_false (by omega)],b1⟩
 case rest=>
  obtain ⟨rfl,b1⟩:=hcut;have hPa1:=hPa wc b1;have B1:=Ac8 b1;clear hPa h22 hA b1;cases Ra with
  | error x=>
   cases Rb with
   | ok st'=>exact hSh.elim
   | error y=>
    have exy:y.1=x.1:=hSh;obtain ⟨y1,y2⟩:=y;simp only at exy;subst exy;go_upto_region 3 with fail;refine wp_region_list ?_
    iterate 2 (refine wpList_plain rfl (fun K hK=>?_);go_simp;refine hK _ _ ?_;clear hK K;(try simp only [Adc,Adb,Ada,Act.put,Ac9,Zz0,Ade]))
    refine wpList_plain rfl (fun K hK=>?_);go_simp;go_at_call 7;refine hPa1.mono ?_;clear hPa1;rintro e w2 ⟨b2,rfl⟩;refine hK _ _ ?_;clear hK K;(try simp only [Adc,Adb,Ada,Act.put,Ac9,Zz0,Ade])
    iterate 5 (refine wpList_plain rfl (fun K hK=>?_);go_simp;refine hK _ _ ?_;clear hK K;(try simp only [Adc,Adb,Ada,Act.put,Ac9,Zz0,Ade]))
    refine wpList_plain rfl (fun K hK=>?_);go_simp;generalize hA:(w2).alloc _=wy;refine hK _ _ ?_;clear hK K;(try simp only [Adc,Adb,Ada,Act.put,Ac9,Zz0,Ade]);refine wpList_store_row rfl 25 _ _ rfl (World.heap w2).size (#[.bool false,.slice none 0 0]) rfl rfl 25 #[.bool false,.slice none 0 0] (Ae hA) (by kernel_rfl) rfl ((by kernel_rfl)) ?_;(try simp only [Adc,Adb,Ada,Act.put,Ac9,Zz0,Ade]);have hbx:=I5 (cs:=#[.bool false,.slice none 0 0]) hA;generalize wy.setRow (World.heap w2).size _=w3 at hbx ⊢;clear hA
    iterate 3 (refine wpList_plain rfl (fun K hK=>?_);go_simp;refine hK _ _ ?_;clear hK K;(try simp only [Adc,Adb,Ada,Act.put,Ac9,Zz0,Ade]))
    refine wpList_nil ?_;obtain ⟨b3,q3⟩:=hbx;have B3:=Ac8 ((B1.out.trans (b2.mono B1.out.size)).trans (b3.mono (B1.out.trans (b2.mono B1.out.size)).size));have hPb1:=HPB.out w3 B3.out;go_upto_region 4 with fail;refine wp_region_list ?_;refine wpList_plain rfl (fun K hK=>?_);go_simp;refine hK _ _ ?_;clear hK K;(try simp only [Adc,Adb,Ada,Act.put,Ac9,Zz0,Ade]);refine wpList_plain rfl (fun K hK=>?_);go_simp;rw [if_neg (by first | omega | (simp only [ByteArray.size_append];omega) | (simp;omega))];go_simp;refine hK _ _ ?_;clear hK K;(try simp only [Adc,Adb,Ada,Act.put,Ac9,Zz0,Ade]);rw [HSS.out];refine wpList_plain rfl (fun K hK=>?_);go_simp;refine hK _ _ ?_;clear hK K;(try simp only [Adc,Adb,Ada,Act.put,Ac9,Zz0,Ade]);refine wpList_plain rfl (fun K hK=>?_);go_simp;go_at_call 7;refine hPb1.mono ?_;clear hPb1;rintro e w4 ⟨b4,rfl⟩;refine hK _ _ ?_;clear hK K;(try simp only [Adc,Adb,Ada,Act.put,Ac9,Zz0,Ade])
    iterate 5 (refine wpList_plain rfl (fun K hK=>?_);go_simp;refine hK _ _ ?_;clear hK K;(try simp only [Adc,Adb,Ada,Act.put,Ac9,Zz0,Ade]))
    refine wpList_plain rfl (fun K hK=>?_);go_simp;generalize hA:(w4).alloc _=wy;refine hK _ _ ?_;clear hK K;(try simp only [Adc,Adb,Ada,Act.put,Ac9,Zz0,Ade]);refine wpList_store_row rfl 25 _ _ rfl (World.heap w4).size (#[.bool false,.slice none 0 0]) rfl rfl 25 #[.bool false,.slice none 0 0] (Ae hA) (by kernel_rfl) rfl ((by kernel_rfl)) ?_;(try simp only [Adc,Adb,Ada,Act.put,Ac9,Zz0,Ade]);have hbx:=I5 (cs:=#[.bool false,.slice none 0 0]) hA;generalize wy.setRow (World.heap w4).size _=w5 at hbx ⊢;clear hA
    iterate 3 (refine wpList_plain rfl (fun K hK=>?_);go_simp;refine hK _ _ ?_;clear hK K;(try simp only [Adc,Adb,Ada,Act.put,Ac9,Zz0,Ade]))
    refine wpList_nil ?_;obtain ⟨b5,q5⟩:=hbx;have B5:=Ac8 ((B3.out.trans (b4.mono B3.out.size)).trans (b5.mono (B3.out.trans (b4.mono B3.out.size)).size));have c1:((x.1:Int) != (x.1:Int))=false:=by simp
    have c2:((x.1:Int) != 0)=true:=by simpa using her x rfl
    clear b2 b3 b4 b5 q3 q5;go_wp2_with fail
    go_ret;exact ⟨rfl,B5.out⟩
  | ok st=>
   cases Rb with
   | error y=>exact hSh.elim
   | ok st'=>
    go_upto_region 3 with fail;refine wp_region_list ?_
    iterate 2 (refine wpList_plain rfl (fun K hK=>?_);go_simp;refine hK _ _ ?_;clear hK K;(try simp only [Adc,Adb,Ada,Act.put,Ac9,Zz0,Ade]))
    refine wpList_plain rfl (fun K hK=>?_);go_simp;go_at_call 7;refine hPa1.mono ?_;clear hPa1;rintro e w2 ⟨b2,va,ca,oa,ma,na,rfl,hca,hra,hka,hfa,hna,_⟩;refine hK _ _ ?_;clear hK K;(try simp only [Adc,Adb,Ada,Act.put,Ac9,Zz0,Ade])
    iterate 5 (refine wpList_plain rfl (fun K hK=>?_);go_simp;refine hK _ _ ?_;clear hK K;(try simp only [Adc,Adb,Ada,Act.put,Ac9,Zz0,Ade]))
    refine wpList_plain rfl (fun K hK=>?_);go_simp;generalize hA:(w2).alloc _=wy;refine hK _ _ ?_;clear hK K;(try simp only [Adc,Adb,Ada,Act.put,Ac9,Zz0,Ade]);refine wpList_store_row rfl 25 _ _ rfl (World.heap w2).size (#[.bool false,.slice ca va.length oa]) rfl rfl 25 #[.bool false,.slice none 0 0] (Ae hA) (by kernel_rfl) rfl ((by kernel_rfl)) ?_;(try simp only [Adc,Adb,Ada,Act.put,Ac9,Zz0,Ade]);have hbx:=I5 (cs:=#[.bool false,.slice ca va.length oa]) hA;generalize wy.setRow (World.heap w2).size _=w3 at hbx ⊢;clear hA
    iterate 3 (refine wpList_plain rfl (fun K hK=>?_);go_simp;refine hK _ _ ?_;clear hK K;(try simp only [Adc,Adb,Ada,Act.put,Ac9,Zz0,Ade]))
    refine wpList_nil ?_;obtain ⟨b3,q3⟩:=hbx;have B3:=Ac8 ((B1.out.trans (b2.mono B1.out.size)).trans (b3.mono (B1.out.trans (b2.mono B1.out.size)).size));have hPb1:=HPB.out w3 B3.out;obtain ⟨ga,hga⟩:∃ ga,w2.heap.size=ga:=⟨_,rfl⟩;rw [hga] at q3 ⊢;go_upto_region 4 with fail;refine wp_region_list ?_;refine wpList_plain rfl (fun K hK=>?_);go_simp;refine hK _ _ ?_;clear hK K;(try simp only [Adc,Adb,Ada,Act.put,Ac9,Zz0,Ade]);refine wpList_plain rfl (fun K hK=>?_);go_simp;rw [if_neg (by first | omega | (simp only [ByteArray.size_append];omega) | (simp;omega))];go_simp;refine hK _ _ ?_;clear hK K;(try simp only [Adc,Adb,Ada,Act.put,Ac9,Zz0,Ade]);rw [HSS.out];refine wpList_plain rfl (fun K hK=>?_);go_simp;refine hK _ _ ?_;clear hK K;(try simp only [Adc,Adb,Ada,Act.put,Ac9,Zz0,Ade]);refine wpList_plain rfl (fun K hK=>?_);go_simp;go_at_call 7;refine hPb1.mono ?_;clear hPb1;rintro e w4 ⟨b4,vb,cb,ob,mb,nb,rfl,hcb,hrb,hkb,_⟩;refine hK _ _ ?_;clear hK K;(try simp only [Adc,Adb,Ada,Act.put,Ac9,Zz0,Ade])
    iterate 5 (refine wpList_plain rfl (fun K hK=>?_);go_simp;refine hK _ _ ?_;clear hK K;(try simp only [Adc,Adb,Ada,Act.put,Ac9,Zz0,Ade]))
    refine wpList_plain rfl (fun K hK=>?_);go_simp;generalize hA:(w4).alloc _=wy;refine hK _ _ ?_;clear hK K;(try simp only [Adc,Adb,Ada,Act.put,Ac9,Zz0,Ade]);refine wpList_store_row rfl 25 _ _ rfl (World.heap w4).size (#[.bool true,.slice cb vb.length ob]) rfl rfl 25 #[.bool false,.slice none 0 0] (Ae hA) (by kernel_rfl) rfl ((by kernel_rfl)) ?_;(try simp only [Adc,Adb,Ada,Act.put,Ac9,Zz0,Ade]);have hbx:=I5 (cs:=#[.bool true,.slice cb vb.length ob]) hA;generalize wy.setRow (World.heap w4).size _=w5 at hbx ⊢;clear hA
    iterate 3 (refine wpList_plain rfl (fun K hK=>?_);go_simp;refine hK _ _ ?_;clear hK K;(try simp only [Adc,Adb,Ada,Act.put,Ac9,Zz0,Ade]))
    refine wpList_nil ?_;obtain ⟨b5,q5⟩:=hbx;have B5:=Ac8 ((B3.out.trans (b4.mono B3.out.size)).trans (b5.mono (B3.out.trans (b4.mono B3.out.size)).size));obtain ⟨gb,hgb⟩:∃ gb,w4.heap.size=gb:=⟨_,rfl⟩;rw [hgb] at q5 ⊢;have hlt:=q3.lt;have d0:w5.cell? ⟨gb,0,none⟩=some (.bool true):=(q5.cell 0).trans rfl;have f0:=q5.frozen 0;obtain ⟨hlen,hlike⟩:=Xr hca hcb hSh.cs;have hle:va.length≤1000:=by rw [←List.length_map (f:=(·.c)),hca];omega
    have b46:Below w4.heap.size w4 (w5.setCell ⟨gb,0,none⟩ (.bool false)):=b5.setCell (p:=⟨gb,0,none⟩) (Nat.le_of_eq hgb) _;have hS:=QD false va vb ca cb oa ob _ hlen hle hlike (Zu hca hfa) (fun v hv=>IM b46 (IM b4 (IM b3 (hka v hv)))) (fun v hv=>IM b46 (hkb v hv)) (((hra.below b3).below b4).below b46) (hrb.below b46);have q3':=(q3.below b4 hlt).below b46 (Adi hlt b4.size);have q5':=q5.set 0 (.bool false);have B6:=Ac8 (B5.out.setCell (p:=⟨gb,0,none⟩) (by show w.heap.size≤gb;have:=(B3.out.trans (b4.mono B3.out.size)).size;omega) (.bool false));clear hlen hle hlike hca hfa hka hkb hra hrb hcb b46 b2 b3 b4 b5 hlt hna q3 q5 her hSh hga hgb;go_upto_region 11 with fail;generalize w5.setCell ⟨gb,0,none⟩ (.bool false)=w6 at hS q3' q5' B6 ⊢;have a0:w6.cell? ⟨ga,0,none⟩=some (.bool false):=(q3'.cell 0).trans rfl;have a1:w6.cell? ⟨ga,1,none⟩=some (.slice ca va.length oa):=(q3'.cell 1).trans rfl;have d0:w6.cell? ⟨gb,0,none⟩=some (.bool false):=(q5'.cell 0).trans rfl;have d1:w6.cell? ⟨gb,1,none⟩=some (.slice cb vb.length ob):=(q5'.cell 1).trans rfl;clear q3' q5';go_wp2_with (go_at_call 8;refine hS.mono ?_;clear hS;rintro e w7 ⟨rfl,b7⟩)
    go_ret;exact ⟨rfl,B6.out.trans (b7.mono B6.out.size)⟩
end
section
open Go.ChangeShapes Go.WideShapes Go.ChangeAt Go.RowKit
theorem Abx : Tryz.prog.globalNamed "math/bits.deBruijn64tab" = some 5 := by kernel_rfl
theorem Xs:(Tryz.prog.globals[5]?).map (·.type)=some 274:=by kernel_rfl
theorem Xt:Tryz.prog.cellsOf 274=64:=by kernel_rfl
theorem MT:Tryz.prog.cellsOf 5=1:=by kernel_rfl
theorem Xu : Tryz.prog.globalNamed "placket/bracket.openers" = some 4 := by kernel_rfl
theorem Xv:(Tryz.prog.globals[4]?).map (·.type)=some 266:=by kernel_rfl
theorem Xw:Tryz.prog.cellsOf 266=3:=by kernel_rfl
theorem Zv : Tryz.prog.globalNamed "placket/piece.ahead" = some 3 := by kernel_rfl
theorem Xx:(Tryz.prog.globals[3]?).map (·.type)=some 222:=by kernel_rfl
theorem Xy:Tryz.prog.cellsOf 222=2:=by kernel_rfl
theorem Ds {W:World} (b:Nat) (v:Value) (hv:W.cell? ⟨b,0,none⟩=some v):b < W.heap.size:=by
 cases hh:W.heap[b]? with
 | none=>simp [World.cell?,hh] at hv
 | some o=>exact (Array.getElem?_eq_some_iff.1 hh).1
theorem Aby {W : World} (h : laidMetH Tryz.prog [("math/bits.deBruijn64tab", Rows.laid_math_bits_deBruijn64tab), ("unicode/utf8.acceptRanges", Rows.laid_unicode_utf8_acceptRanges), ("placket/bracket.openers", Rows.laid_placket_bracket_openers), ("placket/piece.ahead", Rows.laid_placket_piece_ahead), ("unicode/utf8.first", Rows.laid_unicode_utf8_first)] W) (hsh : W.ShapedOpen Tryz.prog) : Gl W ∧ GP W := by
 have h0 : laidMet Tryz.prog [("math/bits.deBruijn64tab", Rows.laid_math_bits_deBruijn64tab), ("unicode/utf8.acceptRanges", Rows.laid_unicode_utf8_acceptRanges), ("placket/bracket.openers", Rows.laid_placket_bracket_openers), ("placket/piece.ahead", Rows.laid_placket_piece_ahead), ("unicode/utf8.first", Rows.laid_unicode_utf8_first)] W := h
 have h2:=laidMet.tail (laidMet.tail h0);have hT : Lib.TabIs Tryz.prog W "math/bits.deBruijn64tab" .u8 (Lib.deBruijn64tab.map Int.ofNat) :=
  Lib.tabIs_of_head Abx Xs Tryz.underlying274 Tryz.underlying5 MT Xt h0
 have hO : Lib.TabIs Tryz.prog W "placket/bracket.openers" .u8 [58, 61, 46] :=
  Lib.tabIs_of_head Xu Xv Tryz.underlying266 Tryz.underlying5 MT Xw h2
 have hH : Lib.TabIs Tryz.prog W "placket/piece.ahead" .u8 [94, 93] :=
  Lib.tabIs_of_head Zv Xx Tryz.underlying222 Tryz.underlying5 MT Xy (laidMet.tail h2)
 obtain ⟨m,hm⟩:∃ m,W.cell? ⟨0,0,none⟩=some (.int .i64 m):=
  cell_of_shapedOpen_int (t:=3) (zero:=#[.int .i64 0]) hsh (of_decide_eq_true (by kernel_rfl)) (by kernel_rfl) rfl (by kernel_rfl) (by kernel_rfl) Tryz.underlying3
 refine ⟨⟨fun j hj=>?_,hO.cell Xu 0 (by decide),hO.cell Xu 1 (by decide),hO.cell Xu 2 (by decide),⟨m,hm⟩,?_⟩,hH.cell Zv 0 (by decide),hH.cell Zv 1 (by decide),Ds _ _ (hH.cell Zv 0 (by decide))⟩
 ·rw [hT.cell Abx j (by rw [List.length_map];exact hj)]
  simp only [List.getD,List.getElem?_map];rw [List.getElem?_eq_getElem hj];rfl
 ·exact Nat.max_lt.2 ⟨Nat.max_lt.2 ⟨Ds _ _ (hT.cell Abx 0 (by decide)),Ds _ _ (hO.cell Xu 0 (by decide))⟩,Ds _ _ hm⟩
def FN (cs:Array Value):Obj→Obj
 | .cells _ t frozen=>.cells cs t frozen
 | o=>o
noncomputable def I6 (os:Os):World:=
 { World.holding Tryz.prog os ⟨#[],#[],[]⟩ with heap:=(((((World.holding Tryz.prog os ⟨#[],#[],[]⟩).heap.modify 5 (FN (Lib.deBruijn64tab.map fun n=>Value.int .u8 (Int.ofNat n)).toArray)).modify 4 (FN #[.int .u8 58,.int .u8 61,.int .u8 46])).modify 3 (FN #[.int .u8 94,.int .u8 93])).modify 2 (FN (([128,191,160,191,128,159,144,191,128,143,0,0,0,0,0,0,0,0,0,0,0,0,0,0,0,0,0,0,0,0,0,0]:List Nat).map fun n=>Value.int .u8 (Int.ofNat n)).toArray)).modify 1 (FN (Go.Pinned.utf8FirstZ.map fun n=>Value.int .u8 (Int.ofNat n)).toArray) }
end
end Go.Proofs.YteilldmmihiijaaGreatDoor
