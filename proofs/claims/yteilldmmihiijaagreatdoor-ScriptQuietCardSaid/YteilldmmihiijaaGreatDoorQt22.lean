/- Texts. -/
import Derived.Test.YteilldmmihiijaaGreatDoorQt21
import Derived.Deep.RegionHeld
import Derived.Laws.Rows
import Derived.Laws.Tables
import Derived.Deep.MidRow
import Derived.BigFrame
set_option linter.unusedSimpArgs false
set_option linter.unusedVariables false
set_option maxHeartbeats 8000000
set_option maxRecDepth 1000000
namespace Go.Proofs.YteilldmmihiijaaGreatDoor
open Go.Lib renaming hid→Ac8
open List renaming setIfInBounds_toArray→Ac9,getElem_cons_zero→Ada,getElem_cons_succ→Adb,getElem_toArray→Adc,set_cons_zero→Zz0,set_cons_succ→Ade,length_append→Adh,mem_cons→Ado,mem_append→Adp
open Nat renaming le_trans→Adg
open Go.RowKit.Below renaming refl→Adk
open Go.IntWalk renaming i64_in→Adm
section
open Go Go.RowKit
structure PaH (w:World) (g:Nat) (q:Cmd × List Wm × Nat) (v:CV) (ma:Option Addr) (mc:Nat) (wx:World):Prop where
 b:Below w.heap.size w wx
 x:Blk wx g v.cells 47
 gb:w.heap.size≤g
 c:v.c=q.1
 ok:v.ok (fun b=>w.heap.size≤b∧b≠g) wx
 r:wx.ownsRow w.heap.size 33 2 (.slice ma q.2.1.length mc) q.2.1.length (wmC q.2.1)
 rg:(Value.slice ma q.2.1.length mc).ownBlock≠some g
structure BoxH (w:World) (g:Nat) (w0 w1:World) (cells:Array Value) (wf:World):Prop where
 b0:Below w.heap.size w w0
 b:Below w.heap.size w wf
 gb:w.heap.size≤g
 gg:w1.heap.size≤g∨g < w0.heap.size
 x:Blk wf g cells 47
 z:w1.heap.size≤wf.heap.size
 s:∀ b,b < w1.heap.size→b≠g→wf.heap[b]?=w1.heap[b]?
theorem LG {w w':World} {R:BG Cmd} {e:Ending} (h:TK w R e w'):∃ cells sl P E,e=.returned (.tuple #[.agg cells,sl,.int .i64 P,.int .i64 E])∧cells.all (·.oneCell')=true∧cells.size=20:=by
 obtain ⟨_,h⟩:=h;cases R with
 | error q=>exact ⟨_,_,_,_,h,by kernel_rfl,rfl⟩
 | ok q=>
  obtain ⟨ta,tb,ts,pa,pc,ma,mc,h,ha,hb,hs,_⟩:=h;exact ⟨_,_,_,_,h,MS _ _ _ _ _ (AL ha.shape) (AL hb.shape) (AL hs.shape) rfl,rfl⟩
theorem BoxH.pa {w w0 w1 wf:World} {g:Nat} {q:Cmd × List Wm × Nat} {v:CV} {ma:Option Addr} {mc:Nat} (h:BoxH w g w0 w1 v.cells wf) (hc:v.c=q.1) (hk:v.ok (fun b=>w0.heap.size≤b) w1) (hr:w1.ownsRow w0.heap.size 33 2 (.slice ma q.2.1.length mc) q.2.1.length (wmC q.2.1)):PaH w g q v ma mc wf:=by
 have hne:∀ b,w0.heap.size≤b→b < w1.heap.size→b≠g:=fun b h1 h2 e=>by rcases h.gg with h | h <;> omega
 refine ⟨h.b,h.x,h.gb,hc,hk.keep h.z (fun b hb hl=>⟨⟨Adg h.b0.size hb,hne b hb hl⟩,h.s b hl (hne b hb hl)⟩),BN h.b0.size (Aa hr fun b e=>?_),fun e=>?_⟩
 ·have h1:=AN hr b e
  have h2:=AA hr b e;exact h.s b h2 (hne b h1 h2)
 ·exact hne g (AN hr g e) (AA hr g e) rfl
theorem CV.ok_of {w w':World} {c:Cmd} {ta tb ts:Value} {pa:Option Addr} {pc:Nat} (ha:TrO (fun b=>w.heap.size≤b) w' c.g.a.tree ta) (hb:TrO (fun b=>w.heap.size≤b) w' c.g.b.tree tb) (hs:TrO (fun b=>w.heap.size≤b) w' c.sub.tree ts) (hp:w'.ownsRow w.heap.size 74 2 (.slice pa c.sub.parts.length pc) c.sub.parts.length (cpC c.sub.parts)):CV.ok (fun b=>w.heap.size≤b) w' ⟨c,ta,tb,ts,pa,pc⟩:=⟨ha,hb,hs,fun h0=>by
 obtain ⟨q,e,h1,h2,h3⟩:=Ze hp h0;exact ⟨Zf hp h0,q,e,h1,h2,h3⟩⟩
theorem O7 (cs:List Cmd) (c:Cmd):scLabels (cs++[c])=if c.name=58 then scLabels cs++[c.arg] else scLabels cs:=by
 unfold scLabels;rw [List.filter_append];by_cases h:c.name=58
 ·rw [if_pos h];simp [h]
 ·rw [if_neg h];simp [h]
theorem Xg {w:World} {g:Nat} {cs:Array Value} {T:TypeId} (h:Blk w g cs T):∀ j u,cs.toList[j]?=some u→w.cell? ((⟨g,0,none⟩:Addr).add j)=some u:=fun j u hj=>by
 have:=h.cell j;rw [←Array.getElem?_toList,hj] at this;by_cases h0:j=0
 ·subst h0;simpa [Addr.add] using this
 ·simpa [Addr.add,h0] using this
theorem Xh:∃ i,Tryz.prog.info? 47=some i∧i.zero=some (.agg D7)∧i.size=20∧i.bytes=240:=by
 have h:(Tryz.prog.info? 47).map (fun i=>(i.zero,i.size,i.bytes))=some (some (.agg D7),20,240):=by kernel_rfl
 obtain ⟨i,hi,he⟩:=Option.map_eq_some_iff.1 h;injection he with h1 h2;injection h2 with h2 h3;exact ⟨i,hi,h1,h2,h3⟩
theorem TO {cs:Array Value} (h:cs.all (·.oneCell')=true):∀ u∈cs.toList,u.oneCell'=true:=fun u hu=>by
 rw [Array.all_eq_true_iff_forall_mem] at h;exact h u (by simpa using hu)
theorem O8 (v:CV) (w:World):(Instr.buildSlice 23 1 #[(0,.agg v.cells)]).run Tryz.prog w=.ok (.slice (some ⟨w.heap.size,0,none⟩) 1 1) (w.alloc (.cells v.cells 47)):=by
 unfold CV.cells E1
 kernel_rfl
theorem TP {ops:Array Oper} {o:Oper} {a:Act} {w:World} {K:Act→World→Prop} {Q:Exit→Act→World→Prop} {E:Prop} (v:CV) (hgd:o.guard=none) (x:Operand) (ho:o.op=.buildSlice 23 1 #[(0,x)]) (hx:a.eval x=.agg v.cells) (h:K (a.put o.dst (.slice (some ⟨w.heap.size,0,none⟩) 1 1)) (w.alloc (.cells v.cells 47))):if Region.wanted o (yielded ops a.tmps)=true then Oper.wp Tryz.prog o a w K Q else E:=by
 rw [if_pos (by simp [Region.wanted,hgd])];have hr:=O8 v w;unfold Oper.wp execOp;simp only [ho,List.map_toArray,List.map_cons,List.map_nil,hx];simp [hr,Result.andThen];exact h
theorem RD {a b c d a' b' c' d':Value} (h:Ending.returned (.tuple #[a,b,c,d])=.returned (.tuple #[a',b',c',d'])):a=a'∧b=b'∧c=c'∧d=d':=by
 iterate 2 (injection h with h)
 simpa using h
structure ScI (r:RV) (n:Nat):Prop where
 ls:r.ls=scLabels r.st.cs
 cs:r.st.cs.length≤100
 ms:r.st.ms.length≤900 * r.st.cs.length
 op:r.st.op.length≤12
 k:r.st.k≤n
 fi:∀ c∈r.st.cs,CFine c
theorem ScI.next {r r':RV} {n:Nat} (h:ScI r n) {c:Cmd} {ms:List Wm} {k:Nat} (hf:(AQ r.st c).1=0) (h1:¬ r.st.cs.length=100) (hm:ms.length≤900) (hk:k≤n) (hF:CFine c) (e1:r'.st=⟨k,r.st.cs++[c],r.st.ms++ms,(AQ r.st c).2⟩) (e2:r'.ls=if c.name=58 then r.ls++[c.arg] else r.ls):ScI r' n:=by
 have h2:=h.cs;have h3:=h.ms;have h4:=h.op;refine ⟨by rw [e1,e2,O7,h.ls],by rw [e1];simp;omega,by rw [e1];simp;omega,?_,by rw [e1];exact hk,?_⟩
 ·rw [e1]
  simp only;unfold AQ at hf ⊢;split
  ·rename_i ha
   rw [if_pos ha] at hf;split
   ·exact h4
   ·rename_i hb;simp;omega
  ·split
   ·split
    ·exact h4
    ·simp;omega
   ·split
    ·split <;> exact h4
    ·exact h4
 ·rw [e1]
  intro d hd;rcases Adp.1 hd with hd | hd
  ·exact h.fi d hd
  ·rw [List.mem_singleton.1 hd];exact hF
def Xi (W:World) (p mp:Nat) (q:Bool) (s:ByteArray) (ext:Bool) (R:Except (Nat × Nat) SS) (e:Ending) (w':World):Prop:=
 Below W.heap.size W w'∧match R with
 | .error x=>e=.returned (.tuple #[.int .i64 (x.2:Int),.int .i64 (x.1:Int)])
 | .ok st=>e=.returned (.tuple #[.int .i64 0,.int .i64 0])∧∃ r',r'.st=st∧ScI r' s.size∧ScS W p mp q s ext r' w'
theorem TQ (W:World) (p mp:Nat) (q:Bool) (s:ByteArray) (ext:Bool) (r:RV) (w:World) (h:ScS W p mp q s ext r w) (hs:s.size≤4000) (hI:ScI r s.size) (hG:Gl W) (hP:GP W) :
  Calls Tryz.prog 17 #[.pointer (some ⟨p,0,none⟩)] w (Xi W p mp q s ext (Ee ext s.data.toList r.st)):=by
 have hvl:r.vs.length=r.st.cs.length:=by rw [←h.h.cs,List.length_map]
 have k1:w.cell? ⟨p,1,none⟩=some (.slice r.ca r.vs.length r.cc):=(h.b.cell 1).trans rfl;have HH:=Ac8 h;have HI:=Ac8 hI;have hC:=fun w1 (b1:Below w.heap.size w w1)=>Q8 ext s r.st.k w1 hs hI.k ((hG.up h.h.b0).up b1) ((hP.up h.h.b0).up b1)
 have k2:=h.t;have k3:w.cell? ⟨p,3,none⟩=some (.bool ext):=(h.b.cell 3).trans rfl;have k4:=h.k;unfold Ee;by_cases h100:r.st.cs.length=100
 ·rw [if_pos h100]
  have q1:((r.vs.length:Int) == 100)=true:=by rw [hvl,h100];rfl
  clear hC h100 hvl hG hP hI;go_enter Tryz.func17,Tryz.ntmps17;go_upto_region 2 with fail;go_wp2_with fail
  go_ret2
  exact ⟨h.h.b0,rfl⟩
 rw [if_neg h100];have q1:((r.vs.length:Int) == 100)=false:=by rw [hvl];simp;omega
 clear h hG hP hI;have hms:=fun x h=>Acp (ext:=ext) (q:=x) s HI.out.k h
 obtain ⟨R,hR⟩:∃ R,MV ext s.data.toList r.st.k=R:=⟨_,rfl⟩;rw [hR] at hC hms ⊢;have HR:=Ac8 hR;clear hR;have hmix:Tryz.prog.follows .mixedOrders=true:=by kernel_rfl
 have hplt:=HH.out.b.lt;have hS0:∀ W':World,Below w.heap.size w W'→(fun W':World=>W'.cell? ⟨p,2,none⟩=some (.string s)∧W'.cell? ⟨p,3,none⟩=some (.bool ext)∧W'.cell? ⟨p,4,none⟩=some (.int .i64 (r.st.k:Int))) W':=fun W' hW=>⟨(hW.cell (p:=⟨p,2,none⟩) hplt).trans k2,(hW.cell (p:=⟨p,3,none⟩) hplt).trans k3,(hW.cell (p:=⟨p,4,none⟩) hplt).trans k4⟩
 clear k2 k3 k4 hplt;go_enter Tryz.func17,Tryz.ntmps17;go_upto_region 3 with fail;go_cut [4,5,6,7] (fun s4 s5 s6 s7 wx=>∃ g cells sl P E w0 w1,s4=.pointer (some ⟨g,0,none⟩)∧s5=sl∧s6=.int .i64 P∧s7=.int .i64 E∧TK w0 R (.returned (.tuple #[.agg cells,sl,.int .i64 P,.int .i64 E])) w1∧BoxH w g w0 w1 cells wx)
 case first=>
  refine wp_region_held_drew (S:=fun W':World=>W'.cell? ⟨p,2,none⟩=some (.string s)∧W'.cell? ⟨p,3,none⟩=some (.bool ext)∧W'.cell? ⟨p,4,none⟩=some (.int .i64 (r.st.k:Int))) hmix (hS0 _ (Below.drew (Adk _ _))) (fun hHeld=>?_);refine AD 0 ?_ rfl (by assumption) (Or.inl ⟨by rfl,?_⟩) ?_;rotate_left;(focus (intro W' hSw;obtain ⟨c2,c3,c4⟩:=hSw;(try go_simp);try with_reducible rfl));(try simp only [Adc,Adb,Ada,Act.put,Ac9,Zz0,Ade]);refine AD 1 ?_ rfl (by assumption) (Or.inl ⟨by rfl,?_⟩) ?_;rotate_left;(focus (intro W' hSw;obtain ⟨c2,c3,c4⟩:=hSw;(try go_simp);try with_reducible rfl));(try simp only [Adc,Adb,Ada,Act.put,Ac9,Zz0,Ade]);refine AD 2 ?_ rfl (by assumption) (Or.inl ⟨by rfl,?_⟩) ?_;rotate_left;(focus (intro W' hSw;obtain ⟨c2,c3,c4⟩:=hSw;(try go_simp);try with_reducible rfl));(try simp only [Adc,Adb,Ada,Act.put,Ac9,Zz0,Ade]);refine AD 3 ?_ rfl (by assumption) (Or.inl ⟨by rfl,?_⟩) ?_;rotate_left;(focus (intro W' hSw;obtain ⟨c2,c3,c4⟩:=hSw;(try go_simp);try with_reducible rfl));(try simp only [Adc,Adb,Ada,Act.put,Ac9,Zz0,Ade]);refine AD 4 ?_ rfl (by assumption) (Or.inl ⟨by rfl,?_⟩) ?_;rotate_left;(focus (intro W' hSw;obtain ⟨c2,c3,c4⟩:=hSw;(try go_simp);try with_reducible rfl));(try simp only [Adc,Adb,Ada,Act.put,Ac9,Zz0,Ade]);refine AD 5 ?_ rfl (by assumption) (Or.inl ⟨by rfl,?_⟩) ?_;rotate_left;(focus (intro W' hSw;obtain ⟨c2,c3,c4⟩:=hSw;(try go_simp);try with_reducible rfl));(try simp only [Adc,Adb,Ada,Act.put,Ac9,Zz0,Ade]);refine AD 6 ?_ rfl (by assumption) (Or.inl ⟨by rfl,?_⟩) ?_;rotate_left;(focus (intro W' hSw;obtain ⟨c2,c3,c4⟩:=hSw;(try go_simp);try with_reducible rfl));(try simp only [Adc,Adb,Ada,Act.put,Ac9,Zz0,Ade]);refine AD 7 ?_ rfl (by assumption) (Or.inl ⟨by rfl,?_⟩) ?_;rotate_left;(focus (intro W' hSw;obtain ⟨c2,c3,c4⟩:=hSw;(try go_simp);try with_reducible rfl));(try simp only [Adc,Adb,Ada,Act.put,Ac9,Zz0,Ade]);refine AD 8 ?_ rfl (by assumption) (Or.inl ⟨by rfl,?_⟩) ?_;rotate_left;(focus (intro W' hSw;obtain ⟨c2,c3,c4⟩:=hSw;(try go_simp);try with_reducible rfl));(try simp only [Adc,Adb,Ada,Act.put,Ac9,Zz0,Ade]);refine AD 9 ?_ rfl (by assumption) (Or.inl ⟨by rfl,?_⟩) ?_;rotate_left;(focus (intro W' hSw;obtain ⟨c2,c3,c4⟩:=hSw;(try go_simp);try with_reducible rfl));(try simp only [Adc,Adb,Ada,Act.put,Ac9,Zz0,Ade]);refine AD 10 ?_ rfl (by assumption) (Or.inl ⟨by rfl,?_⟩) ?_;rotate_left;(focus (intro W' hSw;obtain ⟨c2,c3,c4⟩:=hSw;(try go_simp);try with_reducible rfl));(try simp only [Adc,Adb,Ada,Act.put,Ac9,Zz0,Ade]);refine AD 11 ?_ rfl (by assumption) (Or.inl ⟨by rfl,?_⟩) ?_;rotate_left;(focus (intro W' hSw;obtain ⟨c2,c3,c4⟩:=hSw;(try go_simp);try with_reducible rfl));(try simp only [Adc,Adb,Ada,Act.put,Ac9,Zz0,Ade]);generalize hv0:w.drew=v0 at hHeld ⊢;have hb0:Below w.heap.size w v0:=by rw [←hv0];exact (Adk _ _).drew
  clear hv0;refine wpAnyH_ready (rs:=[12,18]) (by kernel_rfl) (by simp) ?_;refine AllReadyH.cons rfl (fun K hK=>?_) ?_
  ·skip
   go_simp;go_wp2_with (go_at_call 24;refine (hC v0 hb0).mono ?_;rintro e v1 hA;obtain ⟨cells,sl,P,E,rfl,hone,hsz⟩:=LG hA)
   have b1:=hA.1;have B1:Below w.heap.size w v1:=hb0.trans (b1.mono hb0.size);refine hK.out _ _ (hS0 _ B1) (fun hHeld=>?_);clear hK K
   (try simp only [Adc,Adb,Ada,Act.put,Ac9,Zz0,Ade])
   refine AD 13 ?_ rfl (by assumption) (Or.inl ⟨by rfl,?_⟩) ?_;rotate_left;(focus (intro W' hSw;skip;(try go_simp);try with_reducible rfl));(try simp only [Adc,Adb,Ada,Act.put,Ac9,Zz0,Ade]);refine AD 14 ?_ rfl (by assumption) (Or.inl ⟨by rfl,?_⟩) ?_;rotate_left;(focus (intro W' hSw;skip;(try go_simp);try with_reducible rfl));(try simp only [Adc,Adb,Ada,Act.put,Ac9,Zz0,Ade]);refine AD 15 ?_ rfl (by assumption) (Or.inl ⟨by rfl,?_⟩) ?_;rotate_left;(focus (intro W' hSw;skip;(try go_simp);try with_reducible rfl));(try simp only [Adc,Adb,Ada,Act.put,Ac9,Zz0,Ade]);refine AD 16 ?_ rfl (by assumption) (Or.inl ⟨by rfl,?_⟩) ?_;rotate_left;(focus (intro W' hSw;skip;(try go_simp);try with_reducible rfl));(try simp only [Adc,Adb,Ada,Act.put,Ac9,Zz0,Ade]);refine AD 17 ?_ rfl (by assumption) (Or.inl ⟨by rfl,?_⟩) ?_;rotate_left;(focus (intro W' hSw;skip;(try go_simp);try with_reducible rfl));(try simp only [Adc,Adb,Ada,Act.put,Ac9,Zz0,Ade]);refine wpAnyH_ready (rs:=[18]) (by kernel_rfl) (by simp) ?_;refine AllReadyH.cons rfl (fun K hK=>?_) AllReadyH.nil;go_simp;generalize hB:v1.alloc _=v2;have ba:=Ac hB;have qa:=Ae hB;have B2:Below w.heap.size w v2:=B1.trans (ba.mono B1.size);refine hK.out _ _ (hS0 _ B2) (fun hHeld=>?_);clear hK K hB
   (try simp only [Adc,Adb,Ada,Act.put,Ac9,Zz0,Ade])
   obtain ⟨g,hg⟩:∃ g,v1.heap.size=g:=⟨_,rfl⟩;rw [hg] at qa ⊢;have hgb:w.heap.size≤g:=by have:=B1.size;omega
   have hgp:p≠g:=by have:=B1.size;have:=HH.out.b.lt;omega
   refine wpAnyH_ready (rs:=[19]) (by kernel_rfl) (by simp) ?_;refine AllReadyH.cons rfl (fun K hK=>?_) AllReadyH.nil;rw [if_pos (by rfl)];refine wp_store_row 47 _ _ rfl g cells rfl rfl 47 D7 qa (by rw [hsz];kernel_rfl) (by rw [hsz];rfl) hone ?_;have B3:Below w.heap.size w (v2.setRow g cells):=below_setRow B2 hgb _;refine hK.out _ _ (hS0 _ B3) (fun hHeld=>?_);clear hK K
   (try simp only [Adc,Adb,Ada,Act.put,Ac9,Zz0,Ade])
   refine AD 20 ?_ rfl (by assumption) (Or.inl ⟨by rfl,?_⟩) ?_;rotate_left;(focus (intro W' hSw;skip;(try go_simp);try with_reducible rfl));(try simp only [Adc,Adb,Ada,Act.put,Ac9,Zz0,Ade]);refine AD 21 ?_ rfl (by assumption) (Or.inl ⟨by rfl,?_⟩) ?_;rotate_left;(focus (intro W' hSw;skip;(try go_simp);try with_reducible rfl));(try simp only [Adc,Adb,Ada,Act.put,Ac9,Zz0,Ade]);refine AD 22 ?_ rfl (by assumption) (Or.inl ⟨by rfl,?_⟩) ?_;rotate_left;(focus (intro W' hSw;skip;(try go_simp);try with_reducible rfl));(try simp only [Adc,Adb,Ada,Act.put,Ac9,Zz0,Ade]);refine wpAnyH_done (by kernel_rfl) ?_ _
   (try go_wp2_with fail)
   go_meet;exact ⟨g,cells,sl,P,E,v0,v1,rfl,rfl,rfl,rfl,hA,hb0,B3,hgb,.inl (Nat.le_of_eq hg),setRow_heap v2 g _ _ _ _ qa,by simp;exact ba.size,fun b hl hb=>(setRow_other v2 g b _ hb).trans (ba.block b hl)⟩
  refine AllReadyH.cons rfl (fun K hK=>?_) AllReadyH.nil
  ·skip
   go_simp;generalize hB:v0.alloc _=v1;have ba:=Ac hB;have qa:=Ae hB;have B1:Below w.heap.size w v1:=hb0.trans (ba.mono hb0.size);refine hK.out _ _ (hS0 _ B1) (fun hHeld=>?_);clear hK K hB
   (try simp only [Adc,Adb,Ada,Act.put,Ac9,Zz0,Ade])
   obtain ⟨g,hg⟩:∃ g,v0.heap.size=g:=⟨_,rfl⟩;rw [hg] at qa ⊢;have hgb:w.heap.size≤g:=by have:=hb0.size;omega
   refine wpAnyH_ready (rs:=[12]) (by kernel_rfl) (by simp) ?_;refine AllReadyH.cons rfl (fun K hK=>?_) AllReadyH.nil;go_simp;go_wp2_with (go_at_call 24;refine (hC v1 B1).mono ?_;rintro e v2 hA;obtain ⟨cells,sl,P,E,rfl,hone,hsz⟩:=LG hA)
   have b2:=hA.1;have B2:Below w.heap.size w v2:=B1.trans (b2.mono B1.size);have qb:=qa.below b2 qa.lt;refine hK.out _ _ (hS0 _ B2) (fun hHeld=>?_);clear hK K
   (try simp only [Adc,Adb,Ada,Act.put,Ac9,Zz0,Ade])
   refine AD 13 ?_ rfl (by assumption) (Or.inl ⟨by rfl,?_⟩) ?_;rotate_left;(focus (intro W' hSw;skip;(try go_simp);try with_reducible rfl));(try simp only [Adc,Adb,Ada,Act.put,Ac9,Zz0,Ade]);refine AD 14 ?_ rfl (by assumption) (Or.inl ⟨by rfl,?_⟩) ?_;rotate_left;(focus (intro W' hSw;skip;(try go_simp);try with_reducible rfl));(try simp only [Adc,Adb,Ada,Act.put,Ac9,Zz0,Ade]);refine AD 15 ?_ rfl (by assumption) (Or.inl ⟨by rfl,?_⟩) ?_;rotate_left;(focus (intro W' hSw;skip;(try go_simp);try with_reducible rfl));(try simp only [Adc,Adb,Ada,Act.put,Ac9,Zz0,Ade]);refine AD 16 ?_ rfl (by assumption) (Or.inl ⟨by rfl,?_⟩) ?_;rotate_left;(focus (intro W' hSw;skip;(try go_simp);try with_reducible rfl));(try simp only [Adc,Adb,Ada,Act.put,Ac9,Zz0,Ade]);refine AD 17 ?_ rfl (by assumption) (Or.inl ⟨by rfl,?_⟩) ?_;rotate_left;(focus (intro W' hSw;skip;(try go_simp);try with_reducible rfl));(try simp only [Adc,Adb,Ada,Act.put,Ac9,Zz0,Ade]);refine wpAnyH_ready (rs:=[19]) (by kernel_rfl) (by simp) ?_;refine AllReadyH.cons rfl (fun K hK=>?_) AllReadyH.nil;rw [if_pos (by rfl)];refine wp_store_row 47 _ _ rfl g cells rfl rfl 47 D7 qb (by rw [hsz];kernel_rfl) (by rw [hsz];rfl) hone ?_;have B3:Below w.heap.size w (v2.setRow g cells):=below_setRow B2 hgb _;refine hK.out _ _ (hS0 _ B3) (fun hHeld=>?_);clear hK K
   (try simp only [Adc,Adb,Ada,Act.put,Ac9,Zz0,Ade])
   refine AD 20 ?_ rfl (by assumption) (Or.inl ⟨by rfl,?_⟩) ?_;rotate_left;(focus (intro W' hSw;skip;(try go_simp);try with_reducible rfl));(try simp only [Adc,Adb,Ada,Act.put,Ac9,Zz0,Ade]);refine AD 21 ?_ rfl (by assumption) (Or.inl ⟨by rfl,?_⟩) ?_;rotate_left;(focus (intro W' hSw;skip;(try go_simp);try with_reducible rfl));(try simp only [Adc,Adb,Ada,Act.put,Ac9,Zz0,Ade]);refine AD 22 ?_ rfl (by assumption) (Or.inl ⟨by rfl,?_⟩) ?_;rotate_left;(focus (intro W' hSw;skip;(try go_simp);try with_reducible rfl));(try simp only [Adc,Adb,Ada,Act.put,Ac9,Zz0,Ade]);refine wpAnyH_done (by kernel_rfl) ?_ _
   (try go_wp2_with fail)
   go_meet;exact ⟨g,cells,sl,P,E,v1,v2,rfl,rfl,rfl,rfl,hA,B1,B3,hgb,.inr qa.lt,setRow_heap v2 g _ _ _ _ qb,by simp,fun b hl hb=>setRow_other v2 g b _ hb⟩
 case rest=>
  obtain ⟨g,cells,sl,P,E,w0,w1,rfl,rfl,rfl,rfl,hA,hX⟩:=hcut;clear hC hS0 q1;cases R with
  | error x=>
   obtain ⟨b1,he⟩:=hA;obtain ⟨_,_,e3,e4⟩:=RD he;injection e3 with _ e3;injection e4 with _ e4;subst e3 e4;have ce:((x.1:Int) != 0)=true:=by simpa using Xc HR.out
   have HB:=Ac8 (HH.out.h.b0.trans (hX.b.mono HH.out.h.b0.size));clear hX b1 he hms;go_upto_region 5 with fail;go_wp2_with fail
   go_ret2
   exact ⟨HB.out,rfl⟩
  | ok x=>
   obtain ⟨b1,ta,tb,ts,pa,pc,ma,mc,he,hta,htb,hts,hpr,hmr⟩:=hA;obtain ⟨e1,e2,e3,e4⟩:=RD he;injection e1 with e1;injection e3 with _ e3;injection e4 with _ e4;subst e1 e2 e3 e4;obtain ⟨v,hv⟩:∃ v:CV,v=⟨x.1,ta,tb,ts,pa,pc⟩:=⟨_,rfl⟩;have hvc:v.c=x.1:=by rw [hv]
   rw [show E1 x.1 ta tb ts (.slice pa x.1.sub.parts.length pc)=v.cells by rw [hv];rfl] at hX;have hP:=hX.pa hvc (by rw [hv];exact CV.ok_of hta htb hts hpr) hmr;obtain ⟨hm1,hm2,hm3⟩:=hms x rfl;have hone:=CV.one hP.ok;have HF:=Ac8 (show CFine x.1 from ⟨Zn (k:=r.st.k) (ms:=x.2.1) (p:=x.2.2) HR.out,hm3.1,hm3.2,hm2⟩);have hfit:=TM W p mp q s ext r wc v.c v.ta v.tb v.ts (.slice v.pa v.c.sub.parts.length v.pc) (HH.out.step hP.b) HI.out.op HI.out.ls HI.out.cs (fun h=>by rw [hvc];exact hm2 (.inl (by rw [←hvc];exact h)));have HP:=Ac8 hP;have HM:=Ac8 hm1;have HV:=Ac8 hvc;clear hta htb hts hpr hmr b1 he hX hP hv hm1 hm2 hm3 hms hvc;go_upto_region 6 with fail;refine wp_region_list ?_;refine wpList_plain rfl (fun K hK=>?_);go_simp;refine hK _ _ ?_;clear hK K;(try simp only [Adc,Adb,Ada,Act.put,Ac9,Zz0,Ade]);refine wpList_load_row rfl 47 _ rfl g rfl 47 v.cells _ _ HP.out.x Tryz.underlying47 rfl (by kernel_rfl) ?_
   (try simp only [Adc,Adb,Ada,Act.put,Ac9,Zz0,Ade])
   refine wpList_plain rfl (fun K hK=>?_);go_simp
   go_at_call 25
   refine hfit.mono ?_;clear hfit;rintro e w3 ⟨rfl,hb3,⟨hz3,hbad⟩,hgood⟩;refine hK _ _ ?_;clear hK K
   (try simp only [Adc,Adb,Ada,Act.put,Ac9,Zz0,Ade])
   refine wpList_plain rfl (fun K hK=>?_);go_simp;refine hK _ _ ?_;clear hK K;(try simp only [Adc,Adb,Ada,Act.put,Ac9,Zz0,Ade]);refine wpList_nil ?_;have HB:=Ac8 (HH.out.h.b0.trans (HP.out.b.mono HH.out.h.b0.size));have HB3:=Ac8 hb3;by_cases h0:(AQ r.st v.c).1=0
   ·rw [h0]
    obtain ⟨oa,oc,h3,hk3⟩:=hgood h0;have hlt:∀ b,w.heap.size≤b→some b ∉ r.own p mp:=fun b hb hm=>by have:=(HH.out.h.lt hm).2;omega
    have hbw:=HH.out.h.b0.size;have hks:∀ b,w.heap.size≤b→b < wc.heap.size→w3.heap[b]?=wc.heap[b]?∧some b ∉ (r.fit v.c oa oc).own p mp:=fun b hb hl=>hk3 b (by omega) hl (hlt b hb)
    have q3:Blk w3 g v.cells 47:=Eg HP.out.x (hks g HP.out.gb HP.out.x.lt).1;have hv3:v.ok ((r.fit v.c oa oc).fr W.heap.size p mp) w3:=HP.out.ok.keep hz3 fun b hb hl=>⟨⟨by have:=hb.1;omega,(hks b hb.1 hl).2⟩,(hks b hb.1 hl).1⟩
    have hm3:=Aa HP.out.r fun b hb=>(hks b (AN HP.out.r b hb) (AA HP.out.r b hb)).1
    have hmo:∀ b,(Value.slice ma x.2.1.length mc).ownBlock=some b→some b ∉ (r.fit v.c oa oc).own p mp:=fun b hb=>(hks b (AN HP.out.r b hb) (AA HP.out.r b hb)).2
    have HE:=Ac8 (show FX r.st (.ok x)=.ok ⟨x.2.2,r.st.cs++[x.1],r.st.ms++x.2.1,(AQ r.st x.1).2⟩ by show IC r.st x (AQ r.st x.1)=_;unfold IC;rw [if_pos (by rw [←HV.out];exact h0)]);have HI2:=fun r' e1 e2=>HI.out.next (r':=r') (c:=x.1) (k:=x.2.2) (ms:=x.2.1) (by rw [←HV.out];exact h0) h100 HM.out.2 HM.out.1 HF.out e1 e2
    have hgo:some g ∉ (r.fit v.c oa oc).own p mp:=(hks g HP.out.gb HP.out.x.lt).2;have hvl2:(r.fit v.c oa oc).vs.length≤100:=by show r.vs.length≤100;rw [hvl];exact HI.out.cs
    have hml2:(r.fit v.c oa oc).st.ms.length≤90000:=by show r.st.ms.length≤_;have:=HI.out.ms;have:=HI.out.cs;omega
    have hst2:(r.fit v.c oa oc).st={ r.st with op:=(AQ r.st x.1).2 }:=by rw [←HV.out];rfl
    have hls2:(r.fit v.c oa oc).ls=if x.1.name=58 then r.ls++[x.1.arg] else r.ls:=by rw [←HV.out];rfl
    generalize r.fit v.c oa oc=r2 at *;obtain ⟨i0,hi,hz0,hz1,hz2⟩:=Xh;obtain ⟨i1,ji,jz0,jz1,jz2⟩:=Co;have hbs:=O8 v;have c1:w3.cell? ⟨p,1,none⟩=some (.slice r2.ca r2.vs.length r2.cc):=(h3.b.cell 1).trans rfl;have c5:w3.cell? ⟨p,5,none⟩=some (.slice r2.ma r2.st.ms.length r2.mc):=(h3.b.cell 5).trans rfl;have hplt:=h3.b.lt;have hgl:=q3.lt;have hlo:W.heap.size≤w3.heap.size:=h3.h.b0.size;have hmn:=HM.out.2;have hm1:r2.vs.length+1≤maxLen:=by unfold maxLen;omega
    have hm2:(r2.vs.length+1) * 240≤140737488355328:=by omega
    have hm4:r2.st.ms.length+x.2.1.length≤maxLen:=by unfold maxLen;omega
    have hm5:(r2.st.ms.length+x.2.1.length) * 24≤140737488355328:=by omega
    have H3:=Ac8 h3;have HV3:=Ac8 hv3;have HM3:=Ac8 hm3;have HMO:=Ac8 hmo;have HGO:=Ac8 hgo;have HONE:=Ac8 hone;have HST:=Ac8 hst2;have HLS:=Ac8 hls2;clear h0 hgood hbad hk3 hlt hks hbw h3 hv3 hm3 hmo hone hst2 hls2 hvl2 hml2 hmn hvl k1 hgo;go_upto_region 9 with fail;refine wp_region_held_drew (S:=fun W':World=>Blk W' g v.cells 47) hmix q3 (fun hHeld=>?_);refine AD 0 ?_ rfl (by assumption) (Or.inl ⟨by rfl,?_⟩) ?_;rotate_left;(focus (intro W' hSw;skip;(try go_simp);try with_reducible rfl));(try simp only [Adc,Adb,Ada,Act.put,Ac9,Zz0,Ade]);refine AD 1 ?_ rfl (by assumption) (Or.inl ⟨by rfl,?_⟩) ?_;rotate_left;(focus (intro W' hSw;skip;(try go_simp);try with_reducible rfl));(try simp only [Adc,Adb,Ada,Act.put,Ac9,Zz0,Ade]);refine AD 2 ?_ rfl (by assumption) (Or.inl ⟨by rfl,?_⟩) ?_;rotate_left;(focus (intro W' hSw;skip;(try go_simp);try with_reducible rfl));(try simp only [Adc,Adb,Ada,Act.put,Ac9,Zz0,Ade]);refine AD 3 ?_ rfl (by assumption) (Or.inl ⟨by rfl,?_⟩) ?_;rotate_left;(focus (intro W' hSw;skip;(try go_simp);try with_reducible rfl));(try simp only [Adc,Adb,Ada,Act.put,Ac9,Zz0,Ade]);refine AD 4 ?_ rfl (by assumption) (Or.inl ⟨by rfl,?_⟩) ?_;rotate_left;(focus (intro W' hSw;skip;(try go_simp);try with_reducible rfl));(try simp only [Adc,Adb,Ada,Act.put,Ac9,Zz0,Ade]);refine AD 5 ?_ rfl (by assumption) (Or.inl ⟨by rfl,?_⟩) ?_;rotate_left;(focus (intro W' hSw;skip;(try go_simp);try with_reducible rfl));(try simp only [Adc,Adb,Ada,Act.put,Ac9,Zz0,Ade]);refine AD 6 ?_ rfl (by assumption) (Or.inl ⟨by rfl,?_⟩) ?_;rotate_left;(focus (intro W' hSw;skip;(try go_simp);try with_reducible rfl));(try simp only [Adc,Adb,Ada,Act.put,Ac9,Zz0,Ade]);refine AD 8 (.agg v.cells) rfl hHeld (Or.inl ⟨by rfl,fun W' hSw=>Gm 47 _ rfl g rfl hSw Tryz.underlying47 (by kernel_rfl)⟩) ?_
    (try simp only [Adc,Adb,Ada,Act.put,Ac9,Zz0,Ade])
    refine AD 11 ?_ rfl (by assumption) (Or.inl ⟨by rfl,?_⟩) ?_;rotate_left;(focus (intro W' hSw;skip;(try go_simp);try with_reducible rfl));(try simp only [Adc,Adb,Ada,Act.put,Ac9,Zz0,Ade]);refine AD 12 ?_ rfl (by assumption) (Or.inl ⟨by rfl,?_⟩) ?_;rotate_left;(focus (intro W' hSw;skip;(try go_simp);try with_reducible rfl));(try simp only [Adc,Adb,Ada,Act.put,Ac9,Zz0,Ade]);refine AD 13 ?_ rfl (by assumption) (Or.inl ⟨by rfl,?_⟩) ?_;rotate_left;(focus (intro W' hSw;skip;(try go_simp);try with_reducible rfl));(try simp only [Adc,Adb,Ada,Act.put,Ac9,Zz0,Ade]);refine AD 15 ?_ rfl (by assumption) (Or.inl ⟨by rfl,?_⟩) ?_;rotate_left;(focus (intro W' hSw;skip;(try go_simp);try with_reducible rfl));(try simp only [Adc,Adb,Ada,Act.put,Ac9,Zz0,Ade]);refine AD 17 ?_ rfl (by assumption) (Or.inl ⟨by rfl,?_⟩) ?_;rotate_left;(focus (intro W' hSw;skip;(try go_simp);try with_reducible rfl));(try simp only [Adc,Adb,Ada,Act.put,Ac9,Zz0,Ade]);have hb0:Below w3.heap.size w3 w3.drew:=(Adk _ _).drew;have c1:w3.drew.cell? ⟨p,1,none⟩=some (.slice r2.ca r2.vs.length r2.cc):=c1;have c5:w3.drew.cell? ⟨p,5,none⟩=some (.slice r2.ma r2.st.ms.length r2.mc):=c5;have hp0:p < w3.drew.heap.size:=hplt;generalize w3.drew=v0 at hHeld hb0 c1 c5 hp0 ⊢
    iterate 5 (all_goals ((first | refine wpAnyH_ready (rs:=[7,9,14]) (by decide +kernel) (by simp) (AllReadyH.cons rfl (fun K hK=>?_) (AllReadyH.cons rfl (fun K hK=>?_) (AllReadyH.cons rfl (fun K hK=>?_) AllReadyH.nil))) | refine wpAnyH_ready (rs:=[9,14]) (by decide +kernel) (by simp) (AllReadyH.cons rfl (fun K hK=>?_) (AllReadyH.cons rfl (fun K hK=>?_) AllReadyH.nil)) | refine wpAnyH_ready (rs:=[7,14]) (by decide +kernel) (by simp) (AllReadyH.cons rfl (fun K hK=>?_) (AllReadyH.cons rfl (fun K hK=>?_) AllReadyH.nil)) | refine wpAnyH_ready (rs:=[7,9]) (by decide +kernel) (by simp) (AllReadyH.cons rfl (fun K hK=>?_) (AllReadyH.cons rfl (fun K hK=>?_) AllReadyH.nil)) | refine wpAnyH_ready (rs:=[10,14]) (by decide +kernel) (by simp) (AllReadyH.cons rfl (fun K hK=>?_) (AllReadyH.cons rfl (fun K hK=>?_) AllReadyH.nil)) | refine wpAnyH_ready (rs:=[9]) (by decide +kernel) (by simp) (AllReadyH.cons rfl (fun K hK=>?_) AllReadyH.nil) | refine wpAnyH_ready (rs:=[7]) (by decide +kernel) (by simp) (AllReadyH.cons rfl (fun K hK=>?_) AllReadyH.nil) | refine wpAnyH_ready (rs:=[10]) (by decide +kernel) (by simp) (AllReadyH.cons rfl (fun K hK=>?_) AllReadyH.nil) | refine wpAnyH_ready (rs:=[14]) (by decide +kernel) (by simp) (AllReadyH.cons rfl (fun K hK=>?_) AllReadyH.nil) | refine wpAnyH_ready (rs:=[16]) (by decide +kernel) (by simp) (AllReadyH.cons rfl (fun K hK=>?_) AllReadyH.nil)) <;> first | (refine A1 rfl _ _ 23 rfl W.heap.size 47 i0 (.agg D7) 20 240 Tryz.underlying23 hi hz0 hz1 hz2 rfl (by decide) (.slice r2.ca r2.vs.length r2.cc) r2.vs.length (r2.vs.flatMap fun v=>v.cells.toList) rfl (H3.out.h.step HB1.out).cr (some ⟨v0.heap.size,0,none⟩) 1 1 v.cells.toList rfl rfl (fun _=>⟨_,rfl,Xg HX.out⟩) (TO HONE.out) hm1 hm2 (Adg hlo HB1.out.size) ?_;intro v6 w6 hown6 hgrow6 hat6;obtain ⟨a6,c6,rfl⟩:=A7 hown6;have HR6:=Ac8 ((H3.out.h.step HB1.out).cmd hgrow6 hown6 hat6 (HV3.out.keep HB1.out.size fun b hb hl=>⟨hb,HB1.out.block b hl⟩));have HQ6:=Ac8 (AE (H3.out.b.below HB1.out H3.out.b.lt) hgrow6 (fun e=>(Zh H3.out.h.ap).2.1.1 e));have HM6:=Ac8 (BP (Ag HM3.out HB1.out) hgrow6 (fun b hb e=>HMO.out b hb (by rw [←e];simp [RV.own])));have c5:w6.cell? ⟨p,5,none⟩=some (.slice r2.ma r2.st.ms.length r2.mc):=(HQ6.out.cell 5).trans rfl;have hS6:Blk w6 g v.cells 47:=AE hHeld hgrow6 (fun e=>HGO.out (by rw [←e];simp [RV.own]));refine hK.out _ _ hS6 (fun hHeld=>?_);clear hK K hown6 hgrow6 hat6;(try simp only [Adc,Adb,Ada,Act.put,Ac9,Zz0,Ade])) | (refine A1 rfl _ _ 26 rfl W.heap.size 33 i1 (.agg #[.int .i64 0,.string ⟨#[]⟩]) 2 24 Tryz.underlying26 ji jz0 jz1 jz2 rfl (by decide) (.slice r2.ma r2.st.ms.length r2.mc) r2.st.ms.length (wmC r2.st.ms) rfl HR6.out.mr ma x.2.1.length mc (wmC x.2.1) rfl (M1 _) (Qf HM6.out) (M2 _) hm4 hm5 HR6.out.b0.size ?_;intro v7 w7 hown7 hgrow7 hat7;obtain ⟨a7,c7,rfl⟩:=A7 hown7;have HR7:=Ac8 (HR6.out.mark (n:=x.2.1.length) rfl hgrow7 hown7 hat7);have hQ7:=AE HQ6.out hgrow7 (fun e=>(Zh HR6.out.ap).2.1.2.1 e);have HQ7:=Ac8 hQ7;have f1:=hQ7.frozen 1;have f4:=hQ7.frozen 4;have f5:=hQ7.frozen 5;have g1:w7.cell? ⟨p,1,none⟩=some (.slice r2.ca r2.vs.length r2.cc):=(hQ7.cell 1).trans rfl;have g5:w7.cell? ⟨p,5,none⟩=some (.slice r2.ma r2.st.ms.length r2.mc):=(hQ7.cell 5).trans rfl;have g4:w7.cell? ⟨p,4,none⟩=some (.int .i64 (r2.st.k:Int)):=(hQ7.cell 4).trans rfl;have hS7:Blk w7 g v.cells 47:=AE hHeld hgrow7 (fun e=>HGO.out (by simp only [RV.own,Ado];exact .inr (.inr (.inr (.inl e.symm)))));refine hK.out _ _ hS7 (fun hHeld=>?_);clear hK K hown7 hgrow7 hat7 hQ7;(try simp only [Adc,Adb,Ada,Act.put,Ac9,Zz0,Ade])) | (refine TP v rfl _ rfl rfl ?_;generalize hB:World.alloc v0 _=v1;have ba:=Ac hB;have HX:=Ac8 (Ae hB);have c1:=(ba.cell (p:=⟨p,1,none⟩) hp0).trans c1;have c5:=(ba.cell (p:=⟨p,5,none⟩) hp0).trans c5;have HB1:=Ac8 (hb0.trans (ba.mono hb0.size));refine hK.out _ _ (Blk.below hHeld ba hHeld.lt) (fun hHeld=>?_);clear hK K hB ba;(try simp only [Adc,Adb,Ada,Act.put,Ac9,Zz0,Ade])) | (go_simp;refine hK.out _ _ (by assumption) (fun hHeld=>?_);clear hK K;(try simp only [Adc,Adb,Ada,Act.put,Ac9,Zz0,Ade]))))
    all_goals
     have hpg:p≠g:=fun e=>HGO.out (by rw [←e];simp [RV.own])
     refine AD 18 ?_ rfl (by assumption) (Or.inl ⟨by rfl,?_⟩) ?_;rotate_left;(focus (intro W' hSw;skip;(try go_simp);try with_reducible rfl));(try simp only [Adc,Adb,Ada,Act.put,Ac9,Zz0,Ade]);refine AD 19 ?_ rfl (by assumption) (Or.inl ⟨by rfl,?_⟩) ?_;rotate_left;(focus (intro W' hSw;skip;(try go_simp);try with_reducible rfl));(try simp only [Adc,Adb,Ada,Act.put,Ac9,Zz0,Ade]);refine AD 20 ?_ rfl (by assumption) (Or.inl ⟨by rfl,?_⟩) ?_;rotate_left;(focus (intro W' hSw;skip;(try go_simp);try with_reducible rfl));(try simp only [Adc,Adb,Ada,Act.put,Ac9,Zz0,Ade]);refine wpAnyH_ready (rs:=[21]) (by kernel_rfl) (by simp) (AllReadyH.cons rfl (fun K hK=>?_) AllReadyH.nil);go_simp;refine hK.out _ _ (Blk.set_other hHeld ⟨p,1,none⟩ hpg _) (fun hHeld=>?_);clear hK K
     (try simp only [Adc,Adb,Ada,Act.put,Ac9,Zz0,Ade])
     refine AD 22 ?_ rfl (by assumption) (Or.inl ⟨by rfl,?_⟩) ?_;rotate_left;(focus (intro W' hSw;skip;(try go_simp);try with_reducible rfl));(try simp only [Adc,Adb,Ada,Act.put,Ac9,Zz0,Ade]);refine AD 23 ?_ rfl (by assumption) (Or.inl ⟨by rfl,?_⟩) ?_;rotate_left;(focus (intro W' hSw;skip;(try go_simp);try with_reducible rfl));(try simp only [Adc,Adb,Ada,Act.put,Ac9,Zz0,Ade]);refine wpAnyH_ready (rs:=[24]) (by kernel_rfl) (by simp) (AllReadyH.cons rfl (fun K hK=>?_) AllReadyH.nil);go_simp;refine hK.out _ _ (Blk.set_other hHeld ⟨p,5,none⟩ hpg _) (fun hHeld=>?_);clear hK K
     (try simp only [Adc,Adb,Ada,Act.put,Ac9,Zz0,Ade])
     refine AD 25 ?_ rfl (by assumption) (Or.inl ⟨by rfl,?_⟩) ?_;rotate_left;(focus (intro W' hSw;skip;(try go_simp);try with_reducible rfl));(try simp only [Adc,Adb,Ada,Act.put,Ac9,Zz0,Ade]);refine AD 26 ?_ rfl (by assumption) (Or.inl ⟨by rfl,?_⟩) ?_;rotate_left;(focus (intro W' hSw;skip;(try go_simp);try with_reducible rfl));(try simp only [Adc,Adb,Ada,Act.put,Ac9,Zz0,Ade]);refine wpAnyH_ready (rs:=[27]) (by kernel_rfl) (by simp) (AllReadyH.cons rfl (fun K hK=>?_) AllReadyH.nil);go_simp;refine hK.out _ _ (Blk.set_other hHeld ⟨p,4,none⟩ hpg _) (fun hHeld=>?_);clear hK K
     (try simp only [Adc,Adb,Ada,Act.put,Ac9,Zz0,Ade])
     refine wpAnyH_done (by kernel_rfl) ?_ _
     (try go_wp2_with fail)
     go_ret2
     rw [HE.out];have est:(⟨x.2.2,r2.st.cs++[v.c],r2.st.ms++x.2.1,r2.st.op⟩:SS)=⟨x.2.2,r.st.cs++[x.1],r.st.ms++x.2.1,(AQ r.st x.1).2⟩:=by rw [HST.out,HV.out]
     have hfin:ScS W p mp q s ext ⟨⟨x.2.2,r2.st.cs++[v.c],r2.st.ms++x.2.1,r2.st.op⟩,r2.ls,r2.vs++[v],a6,c6,a7,c7,r2.oa,r2.oc⟩ (((w7.setCell ⟨p,1,none⟩ (.slice a6 (r2.vs.length+1) c6)).setCell ⟨p,5,none⟩ (.slice a7 (r2.st.ms.length+x.2.1.length) c7)).setCell ⟨p,4,none⟩ (.int .i64 (x.2.2:Int))):=by
      refine ⟨(((HR7.out.setp 1 _).setp 5 _).setp 4 _).go x.2.2,?_⟩;have h9:=((HQ7.out.set 1 (.slice a6 (r2.vs.length+1) c6)).set 5 (.slice a7 (r2.st.ms.length+x.2.1.length) c7)).set 4 (.int .i64 (x.2.2:Int));show Blk _ p (scC q (.slice a6 (r2.vs++[v]).length c6) s ext x.2.2 (.slice a7 (r2.st.ms++x.2.1).length c7) r2.ov (.map (some mp))) _;rw [Adh,Adh];exact h9
     exact ⟨hfin.h.b0,rfl,⟨⟨x.2.2,r2.st.cs++[v.c],r2.st.ms++x.2.1,r2.st.op⟩,r2.ls,r2.vs++[v],a6,c6,a7,c7,r2.oa,r2.oc⟩,est,HI2 _ est HLS.out,hfin⟩
   ·have ce:(((AQ r.st v.c).1:Int) != 0)=true:=by simpa using h0
    have q3:=HP.out.x.below (hbad h0) HP.out.x.lt;have k0:w3.cell? ⟨g,0,none⟩=some (.int .i64 (v.c.pl:Int)):=(q3.cell 0).trans rfl;have HE:=Ac8 (show FX r.st (.ok x)=.error ((AQ r.st v.c).1,v.c.pl) by show IC r.st x (AQ r.st x.1)=_;rw [HV.out];unfold IC;rw [if_neg (by rw [←HV.out];exact h0)]);generalize (AQ r.st v.c).1=E at *;clear h0 hgood hbad;go_upto_region 8 with fail;go_wp2_with fail
    go_ret2
    rw [HE.out];exact ⟨HB3.out,rfl⟩
end
section
open Go Go.RowKit
def EM (c:Cmd):Bool:=c.name == 98 || c.name == 116 || c.name == 84
theorem O9 (c:Cmd) (ta tb ts pv:Value) (w:World):Calls Tryz.prog 26 #[.agg (E1 c ta tb ts pv)] w fun e w'=>e=.returned (.bool (EM c))∧Below w.heap.size w w':=by
 unfold E1;by_cases h1:c.name=98
 ·have q1:((c.name.toNat:Int) == 98)=true:=by rw [h1];rfl
  rw [show EM c=true by unfold EM;rw [h1];rfl];clear h1;go_enter Tryz.func26,Tryz.ntmps26;go_upto_region 1 with fail;generalize hW1:w.alloc _=W1;have B1:=Ac8 (Ac hW1);obtain ⟨x0,x10,x11⟩:=GB (c:=c) (ta:=ta) (tb:=tb) (ts:=ts) (pv:=pv) (Ae hW1);clear hW1;go_wp2_with fail
  go_ret;exact ⟨rfl,B1.out⟩
 have q1:((c.name.toNat:Int) == 98)=false:=GA (b:=98) h1;by_cases h2:c.name=116
 ·have q2:((c.name.toNat:Int) == 116)=true:=by rw [h2];rfl
  rw [show EM c=true by unfold EM;rw [h2];rfl];clear h1 h2;go_enter Tryz.func26,Tryz.ntmps26;go_upto_region 1 with fail;generalize hW1:w.alloc _=W1;have B1:=Ac8 (Ac hW1);obtain ⟨x0,x10,x11⟩:=GB (c:=c) (ta:=ta) (tb:=tb) (ts:=ts) (pv:=pv) (Ae hW1);clear hW1;go_wp2_with fail
  go_ret;exact ⟨rfl,B1.out⟩
 have q2:((c.name.toNat:Int) == 116)=false:=GA (b:=116) h2;by_cases h3:c.name=84
 ·have q3:((c.name.toNat:Int) == 84)=true:=by rw [h3];rfl
  rw [show EM c=true by unfold EM;rw [h3];rfl];clear h1 h2 h3;go_enter Tryz.func26,Tryz.ntmps26;go_upto_region 1 with fail;generalize hW1:w.alloc _=W1;have B1:=Ac8 (Ac hW1);obtain ⟨x0,x10,x11⟩:=GB (c:=c) (ta:=ta) (tb:=tb) (ts:=ts) (pv:=pv) (Ae hW1);clear hW1;go_wp2_with fail
  go_ret;exact ⟨rfl,B1.out⟩
 ·have q3:((c.name.toNat:Int) == 84)=false:=GA (b:=84) h3
  rw [show EM c=false by unfold EM;simp [h1,h2,h3]];clear h1 h2 h3;go_enter Tryz.func26,Tryz.ntmps26;go_upto_region 1 with fail;generalize hW1:w.alloc _=W1;have B1:=Ac8 (Ac hW1);obtain ⟨x0,x10,x11⟩:=GB (c:=c) (ta:=ta) (tb:=tb) (ts:=ts) (pv:=pv) (Ae hW1);clear hW1;go_wp2_with fail
  go_ret;exact ⟨rfl,B1.out⟩
theorem Zp {w:World} {B:Nat} {T:TypeId} {a:Option Addr} {c:Nat} {l:List Nat} {x:Nat} (h:w.ownsRow B T 1 (.slice a l.length c) l.length (opC l)) (hx:l.getLast?=some x):∃ g,a=some ⟨g,0,none⟩∧l.length≤maxLen∧w.cell? ⟨g,l.length - 1,none⟩=some (.int .i64 (x:Int)):=by
 have h0:0 < l.length:=by cases l with | nil=>cases hx | cons=>simp
 rcases h.2 with ⟨_,e⟩ | ⟨g,cap,cur,h1,_,hg,hc1,hc2,_,ht⟩
 ·omega
 ·injection h1 with h1 _ _
  refine ⟨g,h1,by omega,?_⟩;have h9:(opC l)[l.length - 1]?=some (.int .i64 (x:Int)):=by
   unfold opC;rw [List.getElem?_map,←List.getLast?_eq_getElem?,hx];rfl
  rw [←ht,List.getElem?_take] at h9;split at h9
  ·simp only [World.cell?,hg]
   rw [Array.getElem?_toList] at h9;simpa using h9
  ·cases h9
def RE (o:Option Cmd):Nat × Nat:=match o with | some c=>(14,c.pl) | none=>(0,0)
theorem Xj {st:SS} {x:Nat} (h:st.op.getLast?=some x):Dy st=(16,x):=by unfold Dy;rw [h]
theorem Xk {st:SS} (h:st.op.getLast?=none):Dy st=RE (st.cs.find? (CW (scLabels st.cs))):=by unfold Dy;rw [h];rfl
theorem Xl {W:World} {b:Nat} {ls:List (List UInt8)} (h:LabAt W b ls) (x:List UInt8) (hx:x.length≤40):(Instr.lookup 50 (.map (some b)) (.string (txt x)) false).run Tryz.prog W=.ok (.int .i64 (if x∈ls then 1 else 0)) W:=by
 obtain ⟨n,D,hn,hown,hat⟩:=h;obtain ⟨cc,hrun,hcc,_⟩:=hown.lookup_int (Go.Maps.string_keyed Tryz.underlying9) Tryz.underlying50 Tryz.underlying3 (Kv _) (R7 x hx);rw [hat x] at hcc;injection hcc with hcc;injection hcc with _ hcc;rw [hcc];exact hrun
theorem Abw (a:UInt8) (l:List UInt8):¬ (txt (a :: l)).toList=[]:=fun e=>by
 rw [ByteArray.toList_eq] at e;cases e
theorem Jl (ls:List (List UInt8)) (c:Cmd):CW ls c=(EM c && !c.arg.isEmpty && !ls.contains c.arg):=rfl
theorem TR (W:World) (p mp:Nat) (q:Bool) (s:ByteArray) (ext:Bool) (r:RV) (w:World) (h:ScS W p mp q s ext r w) (hI:ScI r s.size) :
  Calls Tryz.prog 18 #[.pointer (some ⟨p,0,none⟩)] w fun e w'=>e=.returned (.tuple #[.int .i64 ((Dy r.st).2:Int),.int .i64 ((Dy r.st).1:Int)])∧Below w.heap.size w w':=by
 have k6:w.cell? ⟨p,6,none⟩=some (.slice r.oa r.st.op.length r.oc):=(h.b.cell 6).trans rfl;have HI:=Ac8 hI;cases hl:r.st.op.getLast? with
 | some x=>
  have h0:0 < r.st.op.length:=by cases h1:r.st.op with | nil=>rw [h1] at hl;cases hl | cons=>simp
  have ho:=h.h.or;obtain ⟨n,hn⟩:∃ n,r.st.op.length=n:=⟨_,rfl⟩;obtain ⟨g,hg,hm,k⟩:=Zp ho hl;rw [hg] at k6;rw [hn] at k6 h0 k hm;have hop:=HI.out.op;rw [hn] at hop;have Wn:IntKind.i64.wrap ((n:Int) - 1)=((n - 1:Nat):Int):=by rw [Adm _ (by omega)];omega
  obtain ⟨m,hm2⟩:∃ m,n - 1=m:=⟨_,rfl⟩;rw [hm2] at k Wn;have hmn:(m:Int) < (n:Int):=by omega
  have hy0:(0:Int)≤(m:Int):=by omega
  have hn0:(0:Int) < (n:Int):=by omega
  rw [Xj hl];clear h ho hl hm hop hn hm2;go_enter Tryz.func18,Tryz.ntmps18;go_upto_region 2 with fail
  go_region_law (fail)
  all_goals
   (try go_wp2_with fail)
   go_ret2
   exact ⟨rfl,(Adk _ _).drew⟩
 | none=>
  have h0:r.st.op.length=0:=by cases h1:r.st.op with | nil=>rfl | cons a l=>rw [h1] at hl;simp at hl
  rw [h0] at k6;have hcs:=h.h.cs;have hvl:r.vs.length=r.st.cs.length:=by rw [←hcs,List.length_map]
  obtain ⟨n,hn⟩:∃ n,r.vs.length=n:=⟨_,rfl⟩;have hn1:n≤100:=by rw [←hn,hvl];exact HI.out.cs
  have k1:w.cell? ⟨p,1,none⟩=some (.slice r.ca n r.cc):=by rw [←hn];exact (h.b.cell 1).trans rfl
  have hrow:=O6 h.h.cr;obtain ⟨ca,hca⟩:∃ ca,r.ca=ca:=⟨_,rfl⟩;rw [hca] at k1 hrow;have hone:=fun v hv=>CV.one (h.h.ok v hv)
  have H0:=Ac8 h;have RA:=Ac8 hrow;have HO:=Ac8 hone;have HN:=Ac8 hn;have HC:=Ac8 hcs;rw [Xk hl];obtain ⟨A,hA⟩:∃ A,RE (r.st.cs.find? (CW (scLabels r.st.cs)))=A:=⟨_,rfl⟩;rw [hA];have HA:=Ac8 hA;clear h hrow hone hn hcs hvl hl h0 hA hca;go_enter Tryz.func18,Tryz.ntmps18;go_upto_region 4 with fail;go_loopw [30] (fun i wr=>∃ j:Nat,j≤n∧i=.int .i64 j∧Below w.heap.size w wr∧r.st.cs.find? (CW (scLabels r.st.cs))=(r.st.cs.drop j).find? (CW (scLabels r.st.cs))) (fun i _=>n - (intOf i).toNat)
  case atStart=>exact ⟨0,by omega,rfl,Adk _ _,by simp⟩
  case round=>
   obtain ⟨j,hj,rfl,hb,hfind⟩:=hrel;have HB:=Ac8 hb;have HF:=Ac8 hfind;clear hb hfind;by_cases hlt:j < n
   ·have hji:(j:Int) < (n:Int):=by omega
    have hy0:(0:Int)≤(j:Int):=by omega
    have Wj:IntKind.i64.wrap ((j:Int)+1)=(j:Int)+1:=Adm _ (by omega);have j1:j < r.vs.length:=by rw [HN.out];exact hlt
    obtain ⟨g1,rfl,_,hc1⟩:=(RA.out.below HB.out) (by omega);have r1:=hc1 j j1;have o1:=HO.out _ (List.getElem_mem j1);have hjc:j < r.st.cs.length:=by rw [←HC.out,List.length_map];exact j1
    have hcj:r.vs[j].c=r.st.cs[j]:=by have:=HC.out;simp only [←this,List.getElem_map]
    have HD:=Ac8 (show r.st.cs.drop j=r.vs[j].c :: r.st.cs.drop (j+1) by rw [hcj];exact List.drop_eq_getElem_cons hjc);have HM:=Ac8 (show r.vs[j].c∈r.st.cs by rw [hcj];exact List.getElem_mem hjc);clear hc1 hcj hjc;generalize r.vs[j]=x at r1 o1 HD HM;have HLab:EM x.c=true→x.c.arg.length≤40:=fun e=>(HI.out.fi x.c HM.out).2.2.2 (by unfold EM at e;simp at e;rcases e with (e | e) | e;exact .inr (.inl e);exact .inr (.inr (.inl e));exact .inr (.inr (.inr e)))
    have HLa:=Ac8 HLab;clear HLab;go_upto_region 5 with fail;refine wp_region_list ?_;refine wpList_plain rfl (fun K hK=>?_);go_simp;refine hK _ _ ?_;clear hK K;(try simp only [Adc,Adb,Ada,Act.put,Ac9,Zz0,Ade]);refine wpList_load_mid rfl 47 _ rfl g1 (j * 20) (by simp [Act.eval]) x.cells.toList _ r1 Tryz.underlying47 rfl (by kernel_rfl) ?_;rw [Array.toArray_toList]
    (try simp only [Adc,Adb,Ada,Act.put,Ac9,Zz0,Ade])
    refine wpList_plain rfl (fun K hK=>?_);go_simp;generalize hA:(wr).alloc _=wy;refine hK _ _ ?_;clear hK K;(try simp only [Adc,Adb,Ada,Act.put,Ac9,Zz0,Ade]);refine wpList_store_row rfl 47 _ _ rfl (World.heap wr).size (x.cells) rfl rfl 47 D7 (Ae hA) (by kernel_rfl) rfl (o1) ?_;(try simp only [Adc,Adb,Ada,Act.put,Ac9,Zz0,Ade]);have hbx:=WQ (cs:=x.cells) hA;generalize wy.setRow (World.heap wr).size _=w1 at hbx ⊢;clear hA;refine wpList_nil ?_;obtain ⟨b1,q1⟩:=hbx;have HB1:=Ac8 (HB.out.trans (b1.mono HB.out.size));obtain ⟨g,hg⟩:∃ g,wr.heap.size=g:=⟨_,rfl⟩;rw [hg] at q1 ⊢;have hplt:=H0.out.b.lt;have hmlt:=(H0.out.h.lt (b:=mp) (by simp [RV.own])).2;have hS0:∀ W',Below w1.heap.size w1 W'→(fun W':World=>Blk W' g x.cells 47∧W'.cell? ⟨p,7,none⟩=some (.map (some mp))∧LabAt W' mp (scLabels r.st.cs)) W':=fun W' hW=>by
     have hw:=HB1.out.trans (hW.mono HB1.out.size);exact ⟨q1.below hW q1.lt,(hw.cell (p:=⟨p,7,none⟩) hplt).trans ((H0.out.b.cell 7).trans rfl),by rw [←HI.out.ls];exact H0.out.h.la.same (hw.block mp hmlt)⟩
    have HJ:=O9 x.c x.ta x.tb x.ts (.slice x.pa x.c.sub.parts.length x.pc);obtain ⟨J,hJ⟩:∃ J,EM x.c=J:=⟨_,rfl⟩;rw [hJ] at HJ HLa;have HJJ:=Ac8 hJ;have hxc:x.cells=E1 x.c x.ta x.tb x.ts (.slice x.pa x.c.sub.parts.length x.pc):=rfl;have HX:=Ac8 hxc;have hmix:Tryz.prog.follows .mixedOrders=true:=by kernel_rfl
    clear b1 q1 hg r1 o1 hplt hmlt hJ hxc;go_upto_region 6 with fail;refine wp_region_held_drew (S:=fun W':World=>Blk W' g x.cells 47∧W'.cell? ⟨p,7,none⟩=some (.map (some mp))∧LabAt W' mp (scLabels r.st.cs)) hmix (hS0 _ (Adk _ _).drew) (fun hHeld=>?_);refine AD 0 (.agg x.cells) rfl hHeld (Or.inl ⟨by rfl,fun W' hSw=>Gm 47 _ rfl g rfl hSw.1 Tryz.underlying47 (by kernel_rfl)⟩) ?_
    (try simp only [Adc,Adb,Ada,Act.put,Ac9,Zz0,Ade])
    generalize hv0:w1.drew=v0 at hHeld ⊢;have hb0:Below w1.heap.size w1 v0:=by rw [←hv0];exact (Adk _ _).drew
    clear hv0;refine wpAnyH_ready (rs:=[1]) (by decide +kernel) (by simp) (AllReadyH.cons rfl (fun K hK=>?_) AllReadyH.nil);rw [HX.out];go_simp;go_wp2_with (go_at_call 26;refine (HJ v0).mono ?_;rintro e v1 ⟨rfl,b1⟩)
    rw [←HX.out];have hb1:Below w1.heap.size w1 v1:=hb0.trans (b1.mono hb0.size);refine hK.out _ _ (hS0 _ hb1) (fun hHeld=>?_);clear hK K HJ
    (try simp only [Adc,Adb,Ada,Act.put,Ac9,Zz0,Ade])
    refine AD 2 ?_ rfl (by assumption) (Or.inl ⟨by rfl,?_⟩) ?_;rotate_left;(focus (intro W' hSw;skip;(try go_simp);try with_reducible rfl));(try simp only [Adc,Adb,Ada,Act.put,Ac9,Zz0,Ade]);have HBF:=Ac8 (HB1.out.trans (hb1.mono HB1.out.size));clear hb0 hb1 b1 hS0;cases J with
    | false=>
     refine AD 3 undef rfl (by assumption) (Or.inr ⟨by rfl,rfl⟩) ?_;(try simp only [Adc,Adb,Ada,Act.put,Ac9,Zz0,Ade]);refine AD 4 undef rfl (by assumption) (Or.inr ⟨by rfl,rfl⟩) ?_;(try simp only [Adc,Adb,Ada,Act.put,Ac9,Zz0,Ade]);refine AD 5 undef rfl (by assumption) (Or.inr ⟨by rfl,rfl⟩) ?_;(try simp only [Adc,Adb,Ada,Act.put,Ac9,Zz0,Ade]);refine AD 6 ?_ rfl (by assumption) (Or.inl ⟨by rfl,?_⟩) ?_;rotate_left;(focus (intro W' hSw;skip;(try go_simp);try with_reducible rfl));(try simp only [Adc,Adb,Ada,Act.put,Ac9,Zz0,Ade]);refine AD 7 ?_ rfl (by assumption) (Or.inl ⟨by rfl,?_⟩) ?_;rotate_left;(focus (intro W' hSw;skip;(try go_simp);try with_reducible rfl));(try simp only [Adc,Adb,Ada,Act.put,Ac9,Zz0,Ade]);refine AD 8 undef rfl (by assumption) (Or.inr ⟨by rfl,rfl⟩) ?_;(try simp only [Adc,Adb,Ada,Act.put,Ac9,Zz0,Ade]);refine AD 9 undef rfl (by assumption) (Or.inr ⟨by rfl,rfl⟩) ?_;(try simp only [Adc,Adb,Ada,Act.put,Ac9,Zz0,Ade]);refine AD 10 undef rfl (by assumption) (Or.inr ⟨by rfl,rfl⟩) ?_;(try simp only [Adc,Adb,Ada,Act.put,Ac9,Zz0,Ade]);refine AD 11 undef rfl (by assumption) (Or.inr ⟨by rfl,rfl⟩) ?_;(try simp only [Adc,Adb,Ada,Act.put,Ac9,Zz0,Ade]);refine AD 12 undef rfl (by assumption) (Or.inr ⟨by rfl,rfl⟩) ?_;(try simp only [Adc,Adb,Ada,Act.put,Ac9,Zz0,Ade]);refine AD 13 undef rfl (by assumption) (Or.inr ⟨by rfl,rfl⟩) ?_;(try simp only [Adc,Adb,Ada,Act.put,Ac9,Zz0,Ade]);refine AD 14 undef rfl (by assumption) (Or.inr ⟨by rfl,rfl⟩) ?_;(try simp only [Adc,Adb,Ada,Act.put,Ac9,Zz0,Ade]);refine AD 15 undef rfl (by assumption) (Or.inr ⟨by rfl,rfl⟩) ?_;(try simp only [Adc,Adb,Ada,Act.put,Ac9,Zz0,Ade]);refine AD 16 ?_ rfl (by assumption) (Or.inl ⟨by rfl,?_⟩) ?_;rotate_left;(focus (intro W' hSw;skip;(try go_simp);try with_reducible rfl));(try simp only [Adc,Adb,Ada,Act.put,Ac9,Zz0,Ade]);refine wpAnyH_done (by kernel_rfl) ?_ _;have HNJ:=Ac8 (show CW (scLabels r.st.cs) x.c=false by rw [Jl,HJJ.out];rfl)
     (try go_wp2_with fail)
     go_roundw
     case rel=>exact ⟨j+1,by omega,by go_num,HBF.out,by rw [HF.out,HD.out,List.find?_cons_of_neg (by rw [HNJ.out];decide)]⟩
     case measure=>simp [intOf];omega
    | true=>
     have hal:=HLa.out rfl;cases ha:x.c.arg with
     | nil=>
      have HAR:=Ac8 ha;clear hal ha;refine AD 3 ?_ rfl (by assumption) (Or.inl ⟨by rfl,?_⟩) ?_;rotate_left;(focus (intro W' hSw;skip;(try go_simp);try with_reducible rfl));(try simp only [Adc,Adb,Ada,Act.put,Ac9,Zz0,Ade]);refine AD 4 ?_ rfl (by assumption) (Or.inl ⟨by rfl,?_⟩) ?_;rotate_left;(focus (intro W' hSw;obtain ⟨hq,h7,hl⟩:=hSw;have h11:W'.cell? ⟨g,11,none⟩=some (.string ⟨#[]⟩):=(hq.cell 11).trans (show some (Value.string (txt x.c.arg))=_ by rw [HAR.out];rfl);(try go_simp);try with_reducible rfl));(try simp only [Adc,Adb,Ada,Act.put,Ac9,Zz0,Ade]);refine AD 5 (.bool false) rfl (by assumption) (Or.inl ⟨by rfl,fun W' hSw=>by go_simp⟩) ?_
      (try simp only [Adc,Adb,Ada,Act.put,Ac9,Zz0,Ade])
      refine AD 6 ?_ rfl (by assumption) (Or.inl ⟨by rfl,?_⟩) ?_;rotate_left;(focus (intro W' hSw;skip;(try go_simp);try with_reducible rfl));(try simp only [Adc,Adb,Ada,Act.put,Ac9,Zz0,Ade]);refine AD 7 ?_ rfl (by assumption) (Or.inl ⟨by rfl,?_⟩) ?_;rotate_left;(focus (intro W' hSw;skip;(try go_simp);try with_reducible rfl));(try simp only [Adc,Adb,Ada,Act.put,Ac9,Zz0,Ade]);refine AD 8 undef rfl (by assumption) (Or.inr ⟨by rfl,rfl⟩) ?_;(try simp only [Adc,Adb,Ada,Act.put,Ac9,Zz0,Ade]);refine AD 9 undef rfl (by assumption) (Or.inr ⟨by rfl,rfl⟩) ?_;(try simp only [Adc,Adb,Ada,Act.put,Ac9,Zz0,Ade]);refine AD 10 undef rfl (by assumption) (Or.inr ⟨by rfl,rfl⟩) ?_;(try simp only [Adc,Adb,Ada,Act.put,Ac9,Zz0,Ade]);refine AD 11 undef rfl (by assumption) (Or.inr ⟨by rfl,rfl⟩) ?_;(try simp only [Adc,Adb,Ada,Act.put,Ac9,Zz0,Ade]);refine AD 12 undef rfl (by assumption) (Or.inr ⟨by rfl,rfl⟩) ?_;(try simp only [Adc,Adb,Ada,Act.put,Ac9,Zz0,Ade]);refine AD 13 undef rfl (by assumption) (Or.inr ⟨by rfl,rfl⟩) ?_;(try simp only [Adc,Adb,Ada,Act.put,Ac9,Zz0,Ade]);refine AD 14 undef rfl (by assumption) (Or.inr ⟨by rfl,rfl⟩) ?_;(try simp only [Adc,Adb,Ada,Act.put,Ac9,Zz0,Ade]);refine AD 15 undef rfl (by assumption) (Or.inr ⟨by rfl,rfl⟩) ?_;(try simp only [Adc,Adb,Ada,Act.put,Ac9,Zz0,Ade]);refine AD 16 ?_ rfl (by assumption) (Or.inl ⟨by rfl,?_⟩) ?_;rotate_left;(focus (intro W' hSw;skip;(try go_simp);try with_reducible rfl));(try simp only [Adc,Adb,Ada,Act.put,Ac9,Zz0,Ade]);refine wpAnyH_done (by kernel_rfl) ?_ _;have HNJ:=Ac8 (show CW (scLabels r.st.cs) x.c=false by rw [Jl,HAR.out];simp)
      (try go_wp2_with fail)
      go_roundw
      case rel=>exact ⟨j+1,by omega,by go_num,HBF.out,by rw [HF.out,HD.out,List.find?_cons_of_neg (by rw [HNJ.out];decide)]⟩
      case measure=>simp [intOf];omega
     | cons a l=>
      have hne:=Abw a l;rw [←ha] at hne;have HAR:=Ac8 ha;obtain ⟨T,hT⟩:∃ T,txt x.c.arg=T:=⟨_,rfl⟩;have hlk:=fun W' (h:LabAt W' mp (scLabels r.st.cs))=>Xl h x.c.arg hal
      rw [hT] at hne hlk;have HT:=Ac8 hT;clear hal ha hT;obtain ⟨cc,hcc⟩:∃ cc:Int,(if x.c.arg∈scLabels r.st.cs then 1 else 0)=cc:=⟨_,rfl⟩;rw [hcc] at hlk;have HCC:=Ac8 hcc;clear hcc;refine AD 3 ?_ rfl (by assumption) (Or.inl ⟨by rfl,?_⟩) ?_;rotate_left;(focus (intro W' hSw;skip;(try go_simp);try with_reducible rfl));(try simp only [Adc,Adb,Ada,Act.put,Ac9,Zz0,Ade]);refine AD 4 ?_ rfl (by assumption) (Or.inl ⟨by rfl,?_⟩) ?_;rotate_left;(focus (intro W' hSw;obtain ⟨hq,h7,hl⟩:=hSw;have h11:W'.cell? ⟨g,11,none⟩=some (.string T):=(hq.cell 11).trans (show some (Value.string (txt x.c.arg))=_ by rw [HT.out]);(try go_simp);try with_reducible rfl));(try simp only [Adc,Adb,Ada,Act.put,Ac9,Zz0,Ade]);refine AD 5 (.bool true) rfl (by assumption) (Or.inl ⟨by rfl,fun W' hSw=>by go_simp⟩) ?_
      (try simp only [Adc,Adb,Ada,Act.put,Ac9,Zz0,Ade])
      refine AD 6 ?_ rfl (by assumption) (Or.inl ⟨by rfl,?_⟩) ?_;rotate_left;(focus (intro W' hSw;skip;(try go_simp);try with_reducible rfl));(try simp only [Adc,Adb,Ada,Act.put,Ac9,Zz0,Ade]);refine AD 7 ?_ rfl (by assumption) (Or.inl ⟨by rfl,?_⟩) ?_;rotate_left;(focus (intro W' hSw;skip;(try go_simp);try with_reducible rfl));(try simp only [Adc,Adb,Ada,Act.put,Ac9,Zz0,Ade]);refine AD 8 ?_ rfl (by assumption) (Or.inl ⟨by rfl,?_⟩) ?_;rotate_left;(focus (intro W' hSw;skip;(try go_simp);try with_reducible rfl));(try simp only [Adc,Adb,Ada,Act.put,Ac9,Zz0,Ade]);refine AD 9 ?_ rfl (by assumption) (Or.inl ⟨by rfl,?_⟩) ?_;rotate_left;(focus (intro W' hSw;skip;(try go_simp);try with_reducible rfl));(try simp only [Adc,Adb,Ada,Act.put,Ac9,Zz0,Ade]);refine AD 10 ?_ rfl (by assumption) (Or.inl ⟨by rfl,?_⟩) ?_;rotate_left;(focus (intro W' hSw;skip;(try go_simp);try with_reducible rfl));(try simp only [Adc,Adb,Ada,Act.put,Ac9,Zz0,Ade]);refine AD 11 ?_ rfl (by assumption) (Or.inl ⟨by rfl,?_⟩) ?_;rotate_left;(focus (intro W' hSw;obtain ⟨hq,h7,hl⟩:=hSw;(try go_simp);try with_reducible rfl));(try simp only [Adc,Adb,Ada,Act.put,Ac9,Zz0,Ade]);refine AD 12 ?_ rfl (by assumption) (Or.inl ⟨by rfl,?_⟩) ?_;rotate_left;(focus (intro W' hSw;skip;(try go_simp);try with_reducible rfl));(try simp only [Adc,Adb,Ada,Act.put,Ac9,Zz0,Ade]);refine AD 13 ?_ rfl (by assumption) (Or.inl ⟨by rfl,?_⟩) ?_;rotate_left;(focus (intro W' hSw;obtain ⟨hq,h7,hl⟩:=hSw;have h11:W'.cell? ⟨g,11,none⟩=some (.string T):=(hq.cell 11).trans (show some (Value.string (txt x.c.arg))=_ by rw [HT.out]);(try go_simp);try with_reducible rfl));(try simp only [Adc,Adb,Ada,Act.put,Ac9,Zz0,Ade]);refine AD 14 ?_ rfl (by assumption) (Or.inl ⟨by rfl,?_⟩) ?_;rotate_left;(focus (intro W' hSw;obtain ⟨hq,h7,hl⟩:=hSw;have hrun:=hlk W' hl;(try go_simp);try with_reducible rfl));(try simp only [Adc,Adb,Ada,Act.put,Ac9,Zz0,Ade]);by_cases hin:x.c.arg∈scLabels r.st.cs
      ·have ecc:cc=1:=by rw [←HCC.out,if_pos hin]
       subst ecc;refine AD 15 ?_ rfl (by assumption) (Or.inl ⟨by rfl,?_⟩) ?_;rotate_left;(focus (intro W' hSw;skip;(try go_simp);try with_reducible rfl));(try simp only [Adc,Adb,Ada,Act.put,Ac9,Zz0,Ade]);refine AD 16 ?_ rfl (by assumption) (Or.inl ⟨by rfl,?_⟩) ?_;rotate_left;(focus (intro W' hSw;skip;(try go_simp);try with_reducible rfl));(try simp only [Adc,Adb,Ada,Act.put,Ac9,Zz0,Ade]);refine wpAnyH_done (by kernel_rfl) ?_ _;have HNJ:=Ac8 (show CW (scLabels r.st.cs) x.c=false by rw [Jl];simp [hin])
       (try go_wp2_with fail)
       go_roundw
       case rel=>exact ⟨j+1,by omega,by go_num,HBF.out,by rw [HF.out,HD.out,List.find?_cons_of_neg (by rw [HNJ.out];decide)]⟩
       case measure=>simp [intOf];omega
      ·have ecc:cc=0:=by rw [←HCC.out,if_neg hin]
       subst ecc;refine AD 15 ?_ rfl (by assumption) (Or.inl ⟨by rfl,?_⟩) ?_;rotate_left;(focus (intro W' hSw;skip;(try go_simp);try with_reducible rfl));(try simp only [Adc,Adb,Ada,Act.put,Ac9,Zz0,Ade]);refine AD 16 ?_ rfl (by assumption) (Or.inl ⟨by rfl,?_⟩) ?_;rotate_left;(focus (intro W' hSw;skip;(try go_simp);try with_reducible rfl));(try simp only [Adc,Adb,Ada,Act.put,Ac9,Zz0,Ade]);refine wpAnyH_done (by kernel_rfl) ?_ _;have HYJ:=Ac8 (show CW (scLabels r.st.cs) x.c=true by rw [Jl,HJJ.out,HAR.out];rw [HAR.out] at hin;simp [hin]);have k0:=(hHeld.1.cell 0).trans (show _=some (Value.int .i64 (x.c.pl:Int)) from rfl);have HZ:=Ac8 (show A=(14,x.c.pl) by rw [←HA.out,HF.out,HD.out,List.find?_cons_of_pos HYJ.out];rfl)
       (try go_wp2_with fail)
       go_ret2
       rw [HZ.out];exact ⟨rfl,HBF.out⟩
   ·obtain rfl:j=n:=by omega
    have HZ:=Ac8 (show A=(0,0) by
     have h9:=HA.out;rw [HF.out,List.drop_of_length_le (by rw [←HC.out,List.length_map];exact Nat.le_of_eq HN.out)] at h9;exact h9.symm)
    go_wp2_with fail
    go_ret2
    rw [HZ.out];exact ⟨rfl,HB.out⟩
end
section
open Go Go.RowKit
theorem Xm {ext:Bool} {L:List UInt8} {n:Nat} {st:SS} (h:AJ L st.k < L.length):D9 ext L (n+1) st=(match Ee ext L (st.go (AJ L st.k)) with | .error q=>.error q | .ok st'=>D9 ext L n st'):=by
 rw [D9,if_pos h];cases Ee ext L (st.go (AJ L st.k)) <;> rfl
theorem Xn {ext:Bool} {L:List UInt8} {n:Nat} {st:SS} (h:¬ AJ L st.k < L.length):D9 ext L (n+1) st=.ok (st.go (AJ L st.k)):=by
 rw [D9,if_neg h]
theorem Zq {ext:Bool} {L:List UInt8} {st st':SS} (h:Ee ext L st=.ok st'):st'.cs.length=st.cs.length+1:=by
 unfold Ee FX IC at h
 repeat' split at h
 all_goals first | (injection h with h;subst h;simp;done) | cases h
theorem OA {ext:Bool} {L:List UInt8} {st:SS} {q:Nat × Nat} (h:Ee ext L st=.error q):q.1≠0:=by
 unfold Ee at h;split at h
 ·injection h with h;rw [←h];show (3:Nat)≠0;decide
 ·unfold FX at h
  split at h
  ·rename_i hc
   injection h with h;rw [←h];exact Xc hc
  ·unfold IC at h
   split at h
   ·cases h
   ·rename_i hn
    injection h with h;subst h;exact hn
theorem Xo {st:SS} (h:(Dy st).1=0):Dy st=(0,0):=by
 unfold Dy at h ⊢;cases hl:st.op.getLast? with
 | some x=>rw [hl] at h;cases h
 | none=>
  rw [hl] at h;simp only at h ⊢;cases hf:st.cs.find? (CW (scLabels st.cs)) with
  | some c=>rw [hf] at h;cases h
  | none=>rfl
theorem Xp {L:List UInt8} {k:Nat} (hk:k≤L.length):AJ L k≤L.length:=by
 have:∀ n k,k≤L.length→C3 L n k≤L.length:=fun n=>by
  induction n with
  | zero=>exact fun k h=>h
  | succ n ih=>
   intro k h;rw [Nz];split
   ·exact ih _ (Mc (UU h))
   ·exact h
 exact this _ _ (Mc hk)
theorem ScI.go {r:RV} {n k:Nat} (h:ScI r n) (hk:k≤n):ScI (r.go k) n:=⟨h.ls,h.cs,h.ms,h.op,hk,h.fi⟩
theorem ScS.quiet {W w:World} {p mp:Nat} {q:Bool} {s:ByteArray} {ext:Bool} {r:RV} (h:ScS W p mp q s ext r w) (b:Bool):ScS W p mp b s ext r (w.setCell ⟨p,0,none⟩ (.bool b)):=⟨h.h.setp 0 _,h.b.set 0 _⟩
theorem QC (W:World) (p mp:Nat) (q:Bool) (s:ByteArray) (ext:Bool) (r:RV) (w:World) (h:ScS W p mp q s ext r w) (hs:s.size≤4000) (hr:r.st=⟨0,[],[],[]⟩) (hl:r.ls=[]) (hG:Gl W) (hP:GP W) :
  Calls Tryz.prog 10 #[.pointer (some ⟨p,0,none⟩)] w (Xi W p mp (C4 s.data.toList) s ext (MW ext s.data.toList)):=by
 have hI:ScI r s.size:=⟨by rw [hl,hr];rfl,by rw [hr];simp,by rw [hr];simp,by rw [hr];simp,by rw [hr];exact Nat.zero_le _,by rw [hr];simp⟩
 have hE:=fun r' wr (H:ScS W p mp (C4 s.data.toList) s ext r' wr) (I:ScI r' s.size)=>TR W p mp _ s ext r' wr H I
 have hC:=fun r' wr (H:ScS W p mp (C4 s.data.toList) s ext r' wr) (I:ScI r' s.size)=>TQ W p mp _ s ext r' wr H hs I hG hP
 have hK:=fun r' wr (H:ScS W p mp (C4 s.data.toList) s ext r' wr) (I:ScI r' s.size)=>QA W p mp _ s ext r' wr H hs I.k hG
 have hln:=Lh s 0 p w hs (Nat.zero_le _) (h.gl hG) h.b.lt h.t (by have:=h.k;rw [hr] at this;exact this);have hk0:r.st.k=0:=by rw [hr]
 unfold MW;obtain ⟨R,hR⟩:∃ R,D9 ext s.data.toList 102 ⟨0,[],[],[]⟩=R:=⟨_,rfl⟩;rw [hR];rw [←hr] at hR;obtain ⟨T,hT⟩:∃ T,txt ((s.data.toList.drop 0).take (D2 s.data.toList 0))=T:=⟨_,rfl⟩;have hTl:T.toList=s.data.toList.take (D2 s.data.toList 0):=by rw [←hT,ByteArray.toList_eq];rfl
 rw [hT] at hln;obtain ⟨q2,hq2⟩:∃ q2,C4 s.data.toList=q2:=⟨_,rfl⟩;rw [hq2] at hE hC hK ⊢;have hqq:((T.toList == [35,110])=true∧q2=true)∨((T.toList == [35,110])=false∧q2=false):=by
  unfold C4 at hq2;rw [←hTl] at hq2;rw [hq2];cases q2
  ·exact .inr ⟨rfl,rfl⟩
  ·exact .inl ⟨rfl,rfl⟩
 have HH:=Ac8 h;have HI:=Ac8 hI;have HR:=Ac8 hR;clear h hI hR hT hTl hq2 hr hl hG hP hk0;go_enter Tryz.func10,Tryz.ntmps10;go_upto_region 1 with fail;go_cut [] (fun wx=>ScS W p mp q2 s ext r wx)
 case first=>
  rcases hqq with ⟨hq,rfl⟩ | ⟨hq,rfl⟩
  all_goals
   go_wp2_with (go_at_call 15;refine hln.mono ?_;clear hln;rintro e w1 ⟨rfl,b1⟩;have H1:=Ac8 (HH.out.step b1);have g0:w1.cell? ⟨p,0,none⟩=some (.bool q):=(H1.out.b.cell 0).trans rfl;have f0:=H1.out.b.frozen 0)
   go_meet;exact H1.out.quiet _
 case rest=>
  have hsk:=hK r wc hcut HI.out;clear hln hqq HH hcut;go_wp2_with (go_at_call 16;refine hsk.mono ?_;clear hsk;rintro e w2 ⟨rfl,h2⟩)
  have H2:=Ac8 h2;clear h2;go_loopg [] 102 (fun gk wr=>∃ r',ScS W p mp q2 s ext (r'.go (AJ s.data.toList r'.st.k)) wr∧ScI r' s.size∧D9 ext s.data.toList gk r'.st=R∧102≤gk+r'.st.cs.length)
  case atStart=>exact ⟨r,H2.out,HI.out,HR.out,by omega⟩
  case round=>
   obtain ⟨r',hc,hi,hf,hgk⟩:=hrel;clear H2 HR HI;have hcs:=hi.cs;obtain ⟨m,rfl⟩:∃ m,gk=m+1:=⟨gk - 1,by omega⟩;have hkl:AJ s.data.toList r'.st.k≤s.size:=by
    have:=Xp (L:=s.data.toList) (k:=r'.st.k) (by simpa using hi.k);simpa using this
   have hrm:=fun h=>Xm (ext:=ext) (L:=s.data.toList) (n:=m) (st:=r'.st) h
   have hrd:=fun h=>Xn (ext:=ext) (L:=s.data.toList) (n:=m) (st:=r'.st) h
   rw [←Ad] at hrm hrd;have hi2:=hi.go hkl;have hst:(r'.go (AJ s.data.toList r'.st.k)).st=r'.st.go (AJ s.data.toList r'.st.k):=rfl;generalize AJ s.data.toList r'.st.k=K at *;have k2:=hc.t;have k4:wr.cell? ⟨p,4,none⟩=some (.int .i64 (K:Int)):=hc.k;have hC2:=hC _ _ hc.drew hi2;have hE2:=hE _ _ hc.drew hi2;rw [hst] at hC2 hE2;have HC:=Ac8 hc;have HB:=Ac8 hc.h.b0;have HI2:=Ac8 hi2;have HST:=Ac8 hst;clear hc hi hi2 hst;by_cases hlt:K < s.size
   ·have hli:(K:Int) < (s.size:Int):=by omega
    rw [hrm hlt] at hf;clear hrm hrd hE hE2 hlt hC;obtain ⟨A,hA⟩:∃ A,Ee ext s.data.toList (r'.st.go K)=A:=⟨_,rfl⟩;rw [hA] at hC2 hf;cases A with
    | error x=>
     obtain rfl:Except.error x=R:=hf;have ce:((x.1:Int) != 0)=true:=by simpa using OA hA
     clear hA hK;go_upto_region 3 with fail
     go_region_law (fail)
     all_goals
      go_wp2_with (go_at_call 17;refine hC2.mono ?_;clear hC2;rintro e w3 ⟨b3,rfl⟩)
      go_ret2
      exact ⟨b3,rfl⟩
    | ok st2=>
     replace hf:D9 ext s.data.toList m st2=R:=hf;have HF:=Ac8 hf;have HL:=Ac8 (Zq hA);clear hA hf;go_upto_region 3 with fail
     go_region_law (fail)
     all_goals
      go_wp2_with (first
       | (go_at_call 17;refine hC2.mono ?_;clear hC2;rintro e w3 ⟨b3,rfl,r2,e2,i2,h2⟩;have H2:=Ac8 h2;have I2:=Ac8 i2;have E2:=Ac8 e2;clear e2 i2 h2)
       | (go_at_call 16;refine (hK r2 _ H2.out I2.out).mono ?_;rintro e w4 ⟨rfl,h4⟩))
      go_roundg m
      case rel=>exact ⟨r2,h4,I2.out,by rw [E2.out];exact HF.out,by rw [E2.out,HL.out];show 102≤m+(r'.st.cs.length+1);omega⟩
      case measure=>omega
   ·have hli:¬ (K:Int) < (s.size:Int):=by omega
    rw [hrd hlt] at hf;clear hrm hrd hC hC2 hlt hE hK;have HF:=Ac8 hf;clear hf;go_upto_region 3 with fail
    go_region_law (fail)
    all_goals
     go_wp2_with (go_at_call 18;refine hE2.mono ?_;clear hE2;rintro e w3 ⟨rfl,b3⟩)
     go_ret2
     have HB3:=HB.out.drew.trans (b3.mono HB.out.drew.size);rw [←HF.out];by_cases hz:(Dy (r'.st.go K)).1=0
     ·rw [show GU (.ok (r'.st.go K))=.ok (r'.st.go K) by unfold GU;simp only;rw [if_pos hz]]
      have he:=Xo hz;rw [he];exact ⟨HB3,rfl,_,HST.out,HI2.out,HC.out.drew.step b3⟩
     ·rw [show GU (.ok (r'.st.go K))=.error (Dy (r'.st.go K)) by unfold GU;simp only;rw [if_neg hz]]
      exact ⟨HB3,rfl⟩
end
end Go.Proofs.YteilldmmihiijaaGreatDoor
