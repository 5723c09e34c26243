/- Texts. -/
import Derived.Test.YteilldmmihiijaaGreatDoorQt12
import Derived.StillTailTactics
import Derived.BigRegion
import Derived.Test.YteilldmmihiijaaGreatDoorQt06
set_option linter.unusedSimpArgs false
set_option linter.unusedVariables false
set_option maxHeartbeats 8000000
set_option maxRecDepth 1000000
namespace Go.Proofs.YteilldmmihiijaaGreatDoor
open Go.Lib renaming hid→Ac8
open Nat renaming le_refl→Adf,le_trans→Adg,lt_of_lt_of_le→Adi,le_of_lt→Adj
open List renaming length_append→Adh,mem_cons→Ado,mem_append→Adp
open Go.RowKit.Below renaming refl→Adk,heap_setCell→Adl
open Go.IntWalk renaming i64_in→Adm
open Go.World renaming cell?_of_block→Adn
section
open Go Go.RowKit
def C5 (e:ES) (k:Nat):Except (Nat × Nat) ES:=match e.outer.getLast? with
 | none=>.error (8,k)
 | some v=>.ok { e with closed:=e.closed++[(e.inner.num:Int)],outer:=e.outer.dropLast,inner:={ v with pcs:=v.pcs++[.group (e.inner.num:Int) e.inner.whole] } }
theorem Oe (lo p mp:Nat) (w:World) (s:ByteArray) (e:ES) (h:CG lo p mp w s e) (k:Nat) (ho:e.outer=[]) :
  Calls Tryz.prog 132 #[.pointer (some ⟨p,0,none⟩),.int .i64 (k:Int)] w fun x w'=>AU lo p mp s w x w' (C5 e k):=by
 obtain ⟨own,sv,mv,bv,pv,ov,rows,h⟩:=h;have HO:=Ac8 (show C5 e k=.error (8,k) by unfold C5;rw [ho];rfl);obtain ⟨oa,oc,rfl⟩:=AZ h.on;have k8:w.cell? ⟨p,8,none⟩=some (.slice oa e.outer.length oc):=(h.blk.cell 8).trans rfl;rw [ho] at k8;clear h ho;go_enter Tryz.func132,Tryz.ntmps132;go_wp2_with fail
 go_ret2
 exact A8 HO.out (Adk _ _)
theorem VI {w:World} {B:Nat} {L:List Lv} {R:List (Value × Value)} {oa:Option Addr} {oc:Nat} {v:Lv} {rb rp:Value} (h:w.ownsRow B 208 4 (.slice oa (L.length+1) oc) (L.length+1) (levC (L++[v]) (R++[(rb,rp)]))) (hRL:R.length=L.length) :
  ∃ g,oa=some ⟨g,0,none⟩∧L.length+1≤oc∧w.cell? ⟨g,L.length * 4,none⟩=some (.int .i64 (v.op:Int))∧w.cell? ⟨g,L.length * 4+1,none⟩=some (.int .i64 (v.num:Int))∧w.cell? ⟨g,L.length * 4+2,none⟩=some rb∧w.cell? ⟨g,L.length * 4+3,none⟩=some rp:=by
 have hlv:(levC L R).length=L.length * 4:=by
  unfold levC;rw [List.length_flatMap];have:((L.zip R).map fun a=>[Value.int .i64 (a.1.op:Int),.int .i64 (a.1.num:Int),a.2.1,a.2.2].length)=List.replicate (L.zip R).length 4:=by
   rw [List.eq_replicate_iff];refine ⟨by simp,fun b hb=>?_⟩;obtain ⟨x,_,rfl⟩:=List.mem_map.1 hb;rfl
  rw [this];simp [hRL]
 have hz:levC (L++[v]) (R++[(rb,rp)])=levC L R++[.int .i64 (v.op:Int),.int .i64 (v.num:Int),rb,rp]:=by
  unfold levC;rw [List.zip_append (by omega),List.flatMap_append];simp
 rw [hz] at h;rcases h.2 with ⟨_,h1⟩ | ⟨g,cap,cur,hv,hb,hh,hn,hmx,hs,ht⟩
 ·omega
 ·injection hv with h1 h2 h3
  subst h1 h3;have hc:∀ j u,j < 4→[Value.int .i64 (v.op:Int),.int .i64 (v.num:Int),rb,rp][j]?=some u→w.cell? ⟨g,L.length * 4+j,none⟩=some u:=fun j u hj hu=>by
   have h3:w.cell? ⟨g,L.length * 4+j,none⟩=cur[L.length * 4+j]?:=by simp [World.cell?,hh]
   have h5:(cur.toList.take ((L.length+1) * 4))[L.length * 4+j]?=cur.toList[L.length * 4+j]?:=List.getElem?_take_of_lt (by omega);rw [h3,←Array.getElem?_toList,←h5,ht,List.getElem?_append_right (by omega),hlv];rw [show L.length * 4+j - L.length * 4=j by omega];exact hu
  exact ⟨g,rfl,hn,hc 0 _ (by omega) rfl,hc 1 _ (by omega) rfl,hc 2 _ (by omega) rfl,hc 3 _ (by omega) rfl⟩
structure AtWhole (lo p:Nat) (own:List Nat) (w:World) (C:Value→Array Value) (bv:Value) (num:Int) (d:Nd) (a:Nat) (v bv':Value) (wx:World):Prop where
 x:NdX (fun b=>lo≤b∧b ∉ ownB bv'++own) wx d v
 b:Blk wx p (C bv') 211
 t:Touch p bv w wx
 r:bv'.ownBlock=bv.ownBlock∨∃ g,w.heap.size≤g∧g < wx.heap.size∧bv'.ownBlock=some g
 k:Blk wx a #[.int .i64 num,v] 103
 lo:w.heap.size≤a
theorem Blk.touch {w w':World} {p b:Nat} {v:Value} {cs:Array Value} {T:TypeId} (h:Blk w b cs T) (hT:Touch p v w w') (hp:b≠p) (hv:v.ownBlock≠some b):Blk w' b cs T:=by
 have hlt:=h.lt;unfold Blk at h ⊢;rw [hT.block b hlt hp hv];exact h
theorem ME {w:World} {a:Nat} {x y:Value} {T:TypeId} (h:Blk w a #[x,y] T):w.cell? ⟨a,0,none⟩=some x∧w.cell? ⟨a,1,none⟩=some y∧w.frozen? ⟨a,0,none⟩=false∧w.frozen? ⟨a,1,none⟩=false∧a < w.heap.size:=
 ⟨(h.cell 0).trans rfl,(h.cell 1).trans rfl,h.frozen 0,h.frozen 1,h.lt⟩
theorem KH (w:World) (o:Obj):w.heap.size < (w.alloc o).drew.heap.size:=by show w.heap.size < (w.alloc o).heap.size;simp
theorem Touch.of_below {p:Nat} {v:Value} {w w':World} (h:Below w.heap.size w w'):Touch p v w w':=⟨h.os,h.tape,h.output,h.size,fun b hb _ _=>h.block b hb⟩
theorem Of {lo p:Nat} {own:List Nat} {w W w':World} {C:Value→Array Value} {bv bv' v':Value} {num:Int} {d:Nd} (hW:Below w.heap.size w W) (hx:NdX (fun b=>lo≤b∧b ∉ ownB bv'++own) w' d v') (hb:Blk w' p (C bv') 211) (ht:Touch p bv W w') (hr:bv'.ownBlock=bv.ownBlock∨∃ g,W.heap.size≤g∧g < w'.heap.size∧bv'.ownBlock=some g) :
  AtWhole lo p own w C bv num d w'.heap.size v' bv' (w'.alloc (.cells #[.int .i64 num,v'] 103)):=by
 have hA:=(Adk w'.heap.size w').alloc (Adf _) (.cells #[.int .i64 num,v'] 103);exact ⟨NdX.below hA hx,hb.alloc _,((Touch.of_below hW).trans ⟨ht.os,ht.tape,ht.output,ht.size,ht.block⟩).trans (Touch.of_below hA),hr.imp id (fun ⟨g,h1,h2,h3⟩=>⟨g,Adg hW.size h1,Adi h2 hA.size,h3⟩),Blk.new _ _ _ _ rfl,Adg hW.size ht.size⟩
theorem Og {lo p:Nat} {own:List Nat} {w W w':World} {C:Value→Array Value} {bv bv' v':Value} {num:Int} {d:Nd} (hW:Below w.heap.size w W) (hx:NdX (fun b=>lo≤b∧b ∉ ownB bv'++(w.heap.size :: own)) w' d v') (hb:Blk w' p (C bv') 211) (ht:Touch p bv W w') (hr:bv'.ownBlock=bv.ownBlock∨∃ g,W.heap.size≤g∧g < w'.heap.size∧bv'.ownBlock=some g)
  (hz:Blk w' w.heap.size #[.int .i64 0,.nilIface] 103) (hne:w.heap.size≠p) :
  AtWhole lo p own w C bv num d w.heap.size v' bv' ((w'.setCell ⟨w.heap.size,0,none⟩ (.int .i64 num)).setCell ⟨w.heap.size,1,none⟩ v'):=by
 have hsz:((w'.setCell ⟨w.heap.size,0,none⟩ (.int .i64 num)).setCell ⟨w.heap.size,1,none⟩ v').heap.size=w'.heap.size:=by simp [World.setCell]
 have hfar:∀ b,b≠w.heap.size→((w'.setCell ⟨w.heap.size,0,none⟩ (.int .i64 num)).setCell ⟨w.heap.size,1,none⟩ v').heap[b]?=w'.heap[b]?:=fun b hb=>(Adl _ _ _ _ (fun x=>hb x)).trans (Adl _ _ _ _ (fun x=>hb x))
 refine ⟨hx.keep (Nat.le_of_eq hsz.symm) (fun b hb _=>⟨⟨hb.1,fun x=>hb.2 ((Adp.1 x).elim (fun x=>List.mem_append_left _ x) (fun x=>List.mem_append_right _ (List.mem_cons_of_mem _ x)))⟩,fun o=>Adn (w:=w') (a:=⟨b,o,none⟩) (hfar b (fun x=>hb.2 (by rw [x];simp)))⟩),(hb.set_other ⟨w.heap.size,0,none⟩ hne _).set_other ⟨w.heap.size,1,none⟩ hne _,?_,hr.imp id (fun ⟨g,h1,h2,h3⟩=>⟨g,Adg hW.size h1,by rw [hsz];exact h2,h3⟩),(hz.set 0 _).set 1 _,Adf _⟩;have h1:=(Touch.of_below (p:=p) (v:=bv) hW).trans ht;exact ⟨h1.os,h1.tape,h1.output,by rw [hsz];exact h1.size,fun b hb e1 e2=>(hfar b (by omega)).trans (h1.block b hb e1 e2)⟩
theorem PU (lo p mp:Nat) (w:World) (s:ByteArray) (e:ES) (h:CG lo p mp w s e) (k:Nat) (hs:s.size≤250) (L:List Lv) (v:Lv) (ho:e.outer=L++[v]) (hok1:EOk s.data.toList { e with closed:=e.closed++[(e.inner.num:Int)],outer:=L,inner:=v })
  (hok2:EOk s.data.toList { e with closed:=e.closed++[(e.inner.num:Int)],outer:=L,inner:={ v with pcs:=v.pcs++[.group (e.inner.num:Int) e.inner.whole] } }) (hj:(AF e.inner.pcs).length≤4000000) (hc:(AG (e.inner.brs++[Bs e.inner.pcs])).length≤4000000) :
  Calls Tryz.prog 132 #[.pointer (some ⟨p,0,none⟩),.int .i64 (k:Int)] w fun x w'=>AU lo p mp s w x w' (C5 e k):=by
 obtain ⟨own,sv,mv,bv,pv,ov,rows,h⟩:=h;have HO:=Ac8 (show C5 e k=.ok { e with closed:=e.closed++[(e.inner.num:Int)],outer:=L,inner:={ v with pcs:=v.pcs++[.group (e.inner.num:Int) e.inner.whole] } } by unfold C5;rw [ho,List.getLast?_concat,List.dropLast_concat]);obtain ⟨oa,oc,rfl⟩:=AZ h.on;have hol:=h.ol;rw [ho,Adh,List.length_singleton] at hol;obtain ⟨R,⟨rb,rp⟩,hR⟩:∃ R x,rows=R++[x]:=⟨rows.dropLast,rows.getLast (fun x=>by rw [x] at hol;simp at hol),(List.dropLast_concat_getLast _).symm⟩;subst hR;have hRL:R.length=L.length:=by simpa using hol
 obtain ⟨n,hn⟩:∃ n,n=L.length:=⟨_,rfl⟩;obtain ⟨m,hm⟩:∃ m,m=e.outer.length:=⟨_,rfl⟩;have hmn:m=n+1:=by rw [hm,hn,ho];simp
 have hon:=h.on;rw [←hm] at hon;have hrl:∃ g,oa=some ⟨g,0,none⟩∧n+1≤oc∧w.cell? ⟨g,n * 4,none⟩=some (.int .i64 (v.op:Int))∧w.cell? ⟨g,n * 4+1,none⟩=some (.int .i64 (v.num:Int))∧w.cell? ⟨g,n * 4+2,none⟩=some rb∧w.cell? ⟨g,n * 4+3,none⟩=some rp:=by
  rw [hn];refine VI (B:=lo) (L:=L) (R:=R) ?_ hRL;rw [←ho,←hn,←hmn];exact hon
 obtain ⟨g,rfl,hoc,l0,l1,l2,l3⟩:=hrl;have h:=h;rw [←hm] at h;have hg:=h.inown (.slice (some ⟨g,0,none⟩) m oc) (by simp [allV]) g rfl;have hgl:=h.ownlt g hg.1;have hplt:=h.blk.lt;have k5:w.cell? ⟨p,5,none⟩=some (.int .i64 (e.inner.num:Int)):=(h.blk.cell 5).trans rfl;have k8:w.cell? ⟨p,8,none⟩=some (.slice (some ⟨g,0,none⟩) m oc):=(h.blk.cell 8).trans rfl;have Wl:IntKind.i64.wrap ((m:Int) - 1)=(n:Int):=by rw [Adm _ (by have:=h.ok.deep;omega)];omega
 have e0:decide ((n:Int) < 0)=false:=by first | (simp;done) | (simp;omega)
 have hbl:e.inner.brs.length≤1000:=by have:=h.ok.inner.2.2.2.1;have:=h.ok.pos;simp at this;omega
 have hW:=fun (w':World) (hb:Below w.heap.size w w')=>G7 lo p own _ _ _ _ _ _ bv pv _ _ _ e.inner.brs e.inner.pcs w' h.lop (h.blk.below hb h.blk.lt) (h.below hb).bn (h.below hb).pn (fun hx=>(h.inown bv (by simp [allV]) p hx).2.1 rfl) h.pown (fun b hx=>Adi (h.ownlt b hx) hb.size) (fun q hq=>(h.inown bv (by simp [allV]) q hq).1) hbl hj hc
 have hW2:=fun (w':World) (hb:Below w.heap.size w w') (hlt:w.heap.size < w'.heap.size)=>G7 lo p (w.heap.size :: own) _ _ _ _ _ _ bv pv _ _ _ e.inner.brs e.inner.pcs w' h.lop (h.blk.below hb h.blk.lt)
  (h.bn.keep hb.size (fun g hg=>hb.block g (h.bn.lt g hg).2) (fun b hb1 hb2=>⟨hb.block b hb1,fun x=>(Ado.1 x).elim (fun x=>absurd hb1 (by omega)) (fun x=>hb2 x)⟩)) (h.pn.keep hb.size (fun g hg=>hb.block g (h.pn.lt g hg).2) (fun b hb1 hb2=>⟨hb.block b hb1,fun x=>(Ado.1 x).elim (fun x=>absurd hb1 (by omega)) (fun x=>hb2 x)⟩)) (fun hx=>(h.inown bv (by simp [allV]) p hx).2.1 rfl) (List.mem_cons_of_mem _ h.pown)
  (fun b hx=>(Ado.1 hx).elim (fun x=>by omega) (fun x=>Adi (h.ownlt b x) hb.size)) (fun q hq=>List.mem_cons_of_mem _ (h.inown bv (by simp [allV]) q hq).1) hbl hj hc
 have hlast:NR lo own w v.brs rb∧NR lo own w v.pcs rp:=by
  have:=h.orow L.length (by rw [ho];simp) (by simp;omega);have e1:(R++[(rb,rp)])[L.length]'(by simp;omega)=(rb,rp):=by rw [List.getElem_append_right (by omega)];simp [hRL]
  have e2:e.outer[L.length]'(by rw [ho];simp)=v:=by simp [ho]
  rw [e1,e2] at this;exact this
 obtain ⟨rba,rbc,rfl⟩:=hlast.1.form;obtain ⟨rpa,rpc,rfl⟩:=hlast.2.form;have HW:=Ac8 hW;have HW2:=Ac8 hW2;have HH:=Ac8 h;have Hg:=Ac8 hg;have HOC:=Ac8 hoc;have HMN:=Ac8 hmn;have HN:=Ac8 hn;have HHO:=Ac8 ho;have HL:=Ac8 (And.intro l0 (And.intro l1 (And.intro l2 l3)));clear hW hW2 h hj hc hon hm l0 l1 l2 l3 hmn hn hol ho;have hne1:w.heap.size≠p:=by omega
 have hne2:bv.ownBlock≠some w.heap.size:=fun x=>by have:=HH.out.ownlt _ (HH.out.inown bv (by simp [allV]) _ x).1;omega
 go_enter Tryz.func132,Tryz.ntmps132;go_upto_region 4 with fail;go_cut [7] (fun s7 wx=>∃ a v' bv',s7=.pointer (some ⟨a,0,none⟩)∧AtWhole lo p own w (fun b=>EC (.string s) sv (.int .i64 (e.pos:Int)) mv (.int .i64 (e.inner.op:Int)) (.int .i64 (e.inner.num:Int)) b (.slice none 0 0) (.slice (some ⟨g,0,none⟩) m oc) (.int .i64 (e.groups:Int)) (.map (some mp))) bv (e.inner.num:Int) e.inner.whole a v' bv' wx)
 case first=>
  go_region_with (go_at_call 118;(first | refine (HW2.out _ (by repeat (first | (with_reducible exact Adk _ _) | refine Below.drew ?_ | refine below_drewN ?_ _ | refine Below.alloc ?_ (by first | omega | (simp;omega) | simp) _)) (KH _ _)).mono ?_ | refine (HW.out _ (by repeat (first | (with_reducible exact Adk _ _) | refine Below.drew ?_ | refine below_drewN ?_ _ | refine Below.alloc ?_ (by first | omega | (simp;omega) | simp) _))).mono ?_);rintro x w' ⟨v',bv',rfl,hx1,hB1,hT1,hr1⟩;have hpl1:=hB1.lt;have hp5:w'.cell? ⟨p,5,none⟩=some (.int .i64 (e.inner.num:Int)):=(hB1.cell 5).trans rfl;have hsh:=hx1.elim fun _ h=>Av h;have hcl:v'.cells=#[v']:=(by rcases hsh with ⟨T,q,rfl⟩ | rfl <;> rfl);unfold Value.cells at hcl;have hv1:v'.oneCell'=true:=(by rcases hsh with ⟨T,q,rfl⟩ | rfl <;> rfl);have hst:=fun (W:World) (A:Addr) M=>run_store Tryz.prog W A v' M hv1;(try (have hPz:=Blk.touch ((Blk.new w #[.int .i64 0,.nilIface] 103 w.heap.size rfl).drew) hT1 hne1 hne2;obtain ⟨y0,y1,x0,x1,xl⟩:=ME hPz));have HX1:=Ac8 hx1;have HT1:=Ac8 hT1;have HR1:=Ac8 hr1;clear hx1 hsh hT1 hr1)
  all_goals go_wp2_with fail
  all_goals go_meet
  all_goals first
   | exact ⟨_,_,_,rfl,Of (by repeat (first | (with_reducible exact Adk _ _) | refine Below.drew ?_ | refine below_drewN ?_ _ | refine Below.alloc ?_ (by first | omega | (simp;omega) | simp) _)) HX1.out hB1 HT1.out HR1.out⟩
   | exact ⟨_,_,_,rfl,Og (by repeat (first | (with_reducible exact Adk _ _) | refine Below.drew ?_ | refine below_drewN ?_ _ | refine Below.alloc ?_ (by first | omega | (simp;omega) | simp) _)) HX1.out hB1 HT1.out HR1.out hPz hne1⟩
 case rest=>
  obtain ⟨a,v',bv',rfl,hA⟩:=hcut;obtain ⟨nn,D,hnn,hown,hkk⟩:=HH.out.cl;have hmp:=HH.out.mown;have hmlt:=HH.out.ownlt mp hmp;have hmbv:bv.ownBlock≠some mp:=fun x=>(HH.out.inown bv (by simp [allV]) mp x).2.2 rfl
  have hown2:wc.drew.ownsMap Tryz.prog 3 unitElem mp nn D:=by
   obtain ⟨es,clock,hb,r⟩:=hown;exact ⟨es,clock,(hA.t.block mp hmlt (fun x=>HH.out.pm x.symm) hmbv).trans hb,r⟩
  have hnum:(e.inner.num:Int)≤255:=by have:=HH.out.ok.inner.2.2.2.2;have:=HH.out.ok.pos;simp at this;omega
  have hkey:=PS (e.inner.num:Int) (by omega) hnum;have hnlt:nn < maxLen:=by have:=HH.out.ok.closed;have:=HH.out.ok.pos;simp at this;unfold maxLen;omega
  have hA0:wc.cell? ⟨a,0,none⟩=some (.int .i64 (e.inner.num:Int)):=(ME hA.k).1;have hp10:wc.cell? ⟨p,10,none⟩=some (.map (some mp)):=(hA.b.cell 10).trans rfl;have HNN:=Ac8 hnn;have HKK:=Ac8 hkk;have HIM:=Ac8 (hown.isMap);clear hnn hkk hown k5 k8;go_upto_region 5 with fail
  go_still_tail 7,(by kernel_rfl)
  change wpList _ _ _ _ _ wc.drew
  go_wp2_with (at_mapUpdate;refine wpList_mapUpdate_in _ rfl _ _ _ 206 rfl 3 104 (Go.Maps.int_keyed Tryz.underlying3) Tryz.underlying206 unitElem mp nn D rfl hown2 hnlt _ _ (.int .i64 (e.inner.num:Int)) rfl rfl hkey (.agg []) [] unitElem_mk ?_;intro w3 hown3 hturn)
  have hgrow:=hturn.grown;have hgsz:=hgrow.size;have hB3:Blk w3 p (EC (.string s) sv (.int .i64 (e.pos:Int)) mv (.int .i64 (e.inner.op:Int)) (.int .i64 (e.inner.num:Int)) bv' (.slice none 0 0) (.slice (some ⟨g,0,none⟩) m oc) (.int .i64 (e.groups:Int)) (.map (some mp))) 211:=DM hA.b.drew hgrow (fun x=>HH.out.pm (Option.some.inj x).symm);have hK3:=DM hA.k.drew hgrow (fun x=>by have:=Option.some.inj x;have:=hA.lo;omega);have hgb:bv.ownBlock≠some g:=fun x=>by
   have hap:=HH.out.apart;unfold allV at hap;simp only [List.pairwise_cons] at hap;exact hap.2.1 (.slice (some ⟨g,0,none⟩) m oc) (by simp) g x rfl
  have hg3:w3.heap[g]?=w.heap[g]?:=(hgrow.block g (Adi hgl hA.t.size) (fun x=>Hg.out.2.2 (Option.some.inj x))).trans (hA.t.block g hgl Hg.out.2.1 hgb);have r0:w3.cell? ⟨g,n * 4,none⟩=some (.int .i64 (v.op:Int)):=(Adn (w:=w) (a:=⟨g,n * 4,none⟩) hg3).trans HL.out.1;have r1:w3.cell? ⟨g,n * 4+1,none⟩=some (.int .i64 (v.num:Int)):=(Adn (w:=w) (a:=⟨g,n * 4+1,none⟩) hg3).trans HL.out.2.1;have r2:w3.cell? ⟨g,n * 4+2,none⟩=some (.slice rba v.brs.length rbc):=(Adn (w:=w) (a:=⟨g,n * 4+2,none⟩) hg3).trans HL.out.2.2.1;have r3:w3.cell? ⟨g,n * 4+3,none⟩=some (.slice rpa v.pcs.length rpc):=(Adn (w:=w) (a:=⟨g,n * 4+3,none⟩) hg3).trans HL.out.2.2.2;have c8:w3.cell? ⟨p,8,none⟩=some (.slice (some ⟨g,0,none⟩) m oc):=(hB3.cell 8).trans rfl;have c4:w3.cell? ⟨p,4,none⟩=some (.int .i64 (e.inner.op:Int)):=(hB3.cell 4).trans rfl;have c5:w3.cell? ⟨p,5,none⟩=some (.int .i64 (e.inner.num:Int)):=(hB3.cell 5).trans rfl;have c6:w3.cell? ⟨p,6,none⟩=some bv':=(hB3.cell 6).trans rfl;have c7:w3.cell? ⟨p,7,none⟩=some (.slice none 0 0):=(hB3.cell 7).trans rfl;have f4:=hB3.frozen 4;have f5:=hB3.frozen 5;have f6:=hB3.frozen 6;have f7:=hB3.frozen 7;have f8:=hB3.frozen 8;have hp3:=hB3.lt;have i1:(n:Int) < (m:Int):=by have:=HMN.out;omega
  have i2:(n:Int)≤(oc:Int):=by have:=HOC.out;omega
  have i3:n≤oc:=by have:=HOC.out;omega
  have i4:¬ oc=0:=by have:=HOC.out;omega
  have hgp:g≠p:=Hg.out.2.1;have HB3:=Ac8 hB3;have HK3:=Ac8 hK3;have HA:=Ac8 hA;have HOWN3:=Ac8 hown3;have HG:=Ac8 hgrow;clear hB3 hK3 hA hown3 hgrow hturn hgsz hown2 hnlt hkey hA0 hp10 hg3 hgb;go_upto_region 6 with fail;obtain ⟨W8,hcut⟩:∃ W8,W8=(((((w3.setCell ⟨p,4,none⟩ (.int .i64 (v.op:Int))).setCell ⟨p,5,none⟩ (.int .i64 (v.num:Int))).setCell ⟨p,6,none⟩ (.slice rba v.brs.length rbc)).setCell ⟨p,7,none⟩ (.slice rpa v.pcs.length rpc)).setCell ⟨p,8,none⟩ (.slice (some ⟨g,0,none⟩) n oc)).drew:=⟨_,rfl⟩;have hB8:=(((((HB3.out.set 4 (.int .i64 (v.op:Int))).set 5 (.int .i64 (v.num:Int))).set 6 (.slice rba v.brs.length rbc)).set 7 (.slice rpa v.pcs.length rpc)).set 8 (.slice (some ⟨g,0,none⟩) n oc)).drew;have hfar:∀ b,b≠p→W8.heap[b]?=w3.heap[b]?:=fun b hb=>by
   rw [hcut];refine (Adl _ _ _ _ (fun x=>hb x)).trans ((Adl _ _ _ _ (fun x=>hb x)).trans ((Adl _ _ _ _ (fun x=>hb x)).trans ((Adl _ _ _ _ (fun x=>hb x)).trans (Adl _ _ _ _ (fun x=>hb x)))))
  have hsz8:W8.heap.size=w3.heap.size:=by rw [hcut];simp [World.setCell,World.drew]
  have hos:W8.os=w3.os∧W8.tape=w3.tape∧W8.output=w3.output:=by rw [hcut];exact ⟨rfl,rfl,rfl⟩
  rw [←hcut] at hB8;have hs3:wc.heap.size≤w3.heap.size:=HG.out.size;have hs0:w.heap.size≤wc.heap.size:=HA.out.t.size;have hX8:Em lo p mp (ownB bv'++own) W8 s { e with closed:=e.closed++[(e.inner.num:Int)],outer:=L,inner:=v } sv mv (.slice rba v.brs.length rbc) (.slice rpa v.pcs.length rpc) (.slice (some ⟨g,0,none⟩) L.length oc) R:=by
   refine Em.popped (bv':=bv') HH.out HHO.out rfl (by omega) (fun b h1 h2 h3 h4=>?_) (HA.out.r.imp id (fun ⟨q,q1,q2,q3⟩=>⟨q,q1,by omega,q3⟩)) rfl (by rw [←HN.out];exact hB8) ((MapAt.put HNN.out HIM.out HKK.out HOWN3.out).same (hfar mp (fun x=>HH.out.pm x.symm))) hok1;exact (hfar b h2).trans ((HG.out.block b (show b < wc.heap.size by omega) (fun x=>h3 (Option.some.inj x))).trans (HA.out.t.block b h1 h2 h4))
  have hap:a≠p:=fun x=>by have:=HA.out.lo;have:=HH.out.blk.lt;omega
  have hK8:Blk W8 a #[.int .i64 (e.inner.num:Int),v'] 103:=by
   have:=HK3.out;unfold Blk at this ⊢;rw [hfar a hap];exact this
  obtain ⟨y0,y1,x0,x1,xl⟩:=ME hK8;have hL8:Below lo w W8:=⟨hos.1.trans (HG.out.os.trans HA.out.t.os),hos.2.1.trans (HG.out.tape.trans HA.out.t.tape),hos.2.2.trans (HG.out.output.trans HA.out.t.output),by omega,fun b hb=>by
   have hlp:=HH.out.lop;have hbm:b≠mp:=fun x=>by have:=HH.out.lom;omega
   exact (hfar b (by omega)).trans ((HG.out.block b (show b < wc.heap.size by omega) (fun x=>hbm (Option.some.inj x))).trans (HA.out.t.block b (by omega) (by omega) (fun x=>by have:=(HH.out.bn.lt b x).1;omega)))⟩
  have hU:NdX (fun b=>lo≤b∧b ∉ ownB bv'++own) W8 (.group (e.inner.num:Int) e.inner.whole) (.iface 103 (.agg #[.int .i64 (e.inner.num:Int),v'])):=
   SU (HA.out.x.keep (by omega) (fun b hb hlt=>⟨hb,fun o=>Adn (w:=wc) (a:=⟨b,o,none⟩) ((hfar b (fun x=>hb.2 (List.mem_append_right _ (x▸HH.out.pown)))).trans (HG.out.block b hlt (fun x=>hb.2 (List.mem_append_right _ (Option.some.inj x▸HH.out.mown)))))⟩))
  have hadd:=fun (w':World) (hb:Below W8.heap.size W8 w')=>Ez (hX8.below hb) (.group (e.inner.num:Int) e.inner.whole) (.iface 103 (.agg #[.int .i64 (e.inner.num:Int),v'])) (NdX.below hb hU) rfl hs hok2
  have HAdd:=Ac8 hadd;have HL8:=Ac8 hL8;have HCut:=Ac8 hcut;clear hB8 hfar hsz8 hos hs3 hs0 hX8 hK8 hL8 hU hadd hcut HW HW2
  go_region
  all_goals go_wp2_with fail
  all_goals rw [←HCut.out]
  all_goals clear HCut c8 c4 c5 c6 c7 r0 r1 r2 r3 f4 f5 f6 f7 f8
  all_goals go_upto_region 7 with fail
  all_goals go_region_law (first
    | (refine Bq rfl _ _ _ rfl 133 _ rfl (by rfl) (enters_of Tryz.func133 (by kernel_rfl) rfl) (HAdd.out _ (by first | exact Adk _ _ | exact Below.drew (Adk _ _))) ?_;rintro x w9 ⟨rfl,hx9,hb9⟩;refine ⟨_,rfl,?_⟩;have HX9:=Ac8 hx9;have HB9:Hid (Below lo W8 w9):=Ac8 (by first | exact hb9 | exact (Below.drew (Adk _ _)).trans hb9);clear hx9 hb9))
  all_goals go_wp2_with fail
  all_goals go_ret2
  all_goals exact Aw HO.out (HL8.out.trans HB9.out) HX9.out
end
section
open Go Go.RowKit
theorem EOk.goto {s:List UInt8} {e:ES} (h:EOk s e) {j:Nat} (h1:e.pos≤j) (h2:j≤s.length):EOk s { e with pos:=j }:=
 ⟨h2,h.inner.up h1,fun v hv=>(h.outer v hv).up h1,Adg h.marks h1,Adg h.groups h1,h.deep,Adg h.closed h1⟩
theorem EOk.marked {s:List UInt8} {e:ES} (h:EOk s e) (q:Nat × Nat) (h1:e.marks.length < e.pos):EOk s { e with marks:=e.marks++[q] }:=
 ⟨h.pos,h.inner,h.outer,by show (e.marks++[q]).length≤e.pos;rw [Adh];simp;omega,h.groups,h.deep,h.closed⟩
theorem EOk.pieced {s:List UInt8} {e:ES} (h:EOk s e) {d:Nd} (hd:inCat d=true) (h1:e.inner.pcs.length < e.pos):EOk s (e.at e.st (e.inner.pcs++[d])):=
 ⟨h.pos,⟨BK h.inner.1 hd,h.inner.2.1,by show (e.inner.pcs++[d]).length≤e.pos;rw [Adh];simp;omega,h.inner.2.2.2.1,h.inner.2.2.2.2⟩,h.outer,h.marks,h.groups,h.deep,h.closed⟩
def B8 (s:List UInt8) (e:ES) (k:Nat):Except (Nat × Nat) ES:=if k+1 < s.length then (match Dk true ⟨k,e.groups,e.closed,e.marks⟩ (byt s (k+1)) with
  | .error q=>.error q
  | .ok (st,d)=>.ok (e.at st (e.inner.pcs++[d]))) else .error (11,k)
theorem PV {c:Nat} {t:OSet} (h:C9 c=some (t,true)):c < 128:=by
 unfold C9 at h;split at h
 ·injection h with h;injection h with _ h;cases h
 split at h
 ·omega
 split at h
 ·omega
 split at h
 ·omega
 split at h
 ·omega
 split at h
 ·omega
 split at h
 ·injection h with h;injection h with _ h;cases h
 ·cases h
theorem SY (lo p mp:Nat) (w:World) (s:ByteArray) (e:ES) (k:Nat) (h:CG lo p mp w s e) (hk:e.pos=k+1) (hl:k+1=s.size):Calls Tryz.prog 136 #[.pointer (some ⟨p,0,none⟩),.int .i64 (k:Int)] w fun x w'=>AU lo p mp s w x w' (B8 s.data.toList e k):=by
 obtain ⟨own,sv,mv,bv,pv,ov,rows,h⟩:=h;have HO:=Ac8 (show B8 s.data.toList e k=.error (11,k) by unfold B8;rw [if_neg (by simp;omega)]);obtain ⟨sa,sc,rfl,_,_⟩:=h.sg;have k1:w.cell? ⟨p,1,none⟩=some (.slice sa s.size sc):=(h.blk.cell 1).trans rfl;have k2:w.cell? ⟨p,2,none⟩=some (.int .i64 ((k+1:Nat):Int)):=by rw [←hk];exact (h.blk.cell 2).trans rfl
 have e0:(((k+1:Nat):Int) == (s.size:Int))=true:=by rw [hl];simp
 generalize k+1=k9 at *;clear h hk hl;go_enter Tryz.func136,Tryz.ntmps136;go_wp2_with fail
 go_quiet (fail)
 go_wp2_with fail
 go_ret2
 exact A8 HO.out (below_drewN (Adk _ _) _)
theorem VJ (lo p mp:Nat) (w:World) (s:ByteArray) (e:ES) (k:Nat) (h:CG lo p mp w s e) (hs:s.size≤250) (hk:e.pos=k+1) (hl:k+1 < s.size) (c:Nat) (hc:byt s.data.toList (k+1)=c) (hd:49≤c∧c≤57) (hcc:e.closed.contains ((c:Int) - 48)=false):Calls Tryz.prog 136 #[.pointer (some ⟨p,0,none⟩),.int .i64 (k:Int)] w fun x w'=>AU lo p mp s w x w' (B8 s.data.toList e k):=by
 have HO:=Ac8 (show B8 s.data.toList e k=.error (9,k) by
  unfold B8;rw [if_pos (by simpa using hl),hc];unfold Dk;rw [if_pos hd];simp only [hcc,Bool.false_eq_true,if_false])
 obtain ⟨k10,hk10⟩:∃ j,j=k+2:=⟨_,rfl⟩;obtain ⟨own,sv,mv,bv,pv,ov,rows,h⟩:=h;obtain ⟨sa,sc,rfl,e2,e3⟩:=h.sg;obtain ⟨g,rfl,hg,hgl,hcell⟩:=e3 (by omega);have kc:=hcell (k+1) hl;have k1:w.cell? ⟨p,1,none⟩=some (.slice (some ⟨g,0,none⟩) s.size sc):=(h.blk.cell 1).trans rfl;have k2:w.cell? ⟨p,2,none⟩=some (.int .i64 ((k+1:Nat):Int)):=(by rw [←hk];exact (h.blk.cell 2).trans rfl);have e0:(((k+1:Nat):Int) == (s.size:Int))=false:=(by rw [beq_eq_false_iff_ne];omega);have i1:((k+1:Nat):Int) < (s.size:Int):=(by omega);have W1:IntKind.i64.wrap (((k+1:Nat):Int)+1)=(k10:Int):=(by rw [Adm _ (by omega)];omega);have f2:=h.blk.frozen 2;have hlo:=Adg h.lop (Adj h.blk.lt);have hgo:∀ m,Em lo p mp own ((w.drewN m).setCell ⟨p,2,none⟩ (.int .i64 (k10:Int))) s { e with pos:=k10 } (.slice (some ⟨g,0,none⟩) s.size sc) mv bv pv ov rows∧Below lo w ((w.drewN m).setCell ⟨p,2,none⟩ (.int .i64 (k10:Int))):=fun m=>⟨(h.below (below_drewN (Adk _ _) m)).goto k10 (h.ok.goto (by omega) (by simp;omega)),(below_drewN (Adk lo w) m).setCell (p:=⟨p,2,none⟩) h.lop _⟩;have HGO:=Ac8 hgo;have HKC:=Ac8 (And.intro (hcell k (by omega)) (And.intro kc (And.intro hgl (And.intro hg (And.intro e2 h.pown)))));have HK10:=Ac8 hk10;clear hk10;generalize hk9:k+1=k9 at *;have HK9:=Ac8 hk9;clear hk9;clear hgo e3 hcell hgl hg hk;have hpl:=h.blk.lt;clear h
 rw [hc] at kc;have d1:=hd.1;have d2:=hd.2;have d3:(49:Int)≤(c:Int):=by omega
 have d4:(c:Int)≤57:=by omega
 have W2:IntKind.i32.wrap ((c:Int) - 48)=(c:Int) - 48:=IntWalk.i32_in _ (by omega);have W3:IntKind.i64.wrap ((c:Int) - 48)=(c:Int) - 48:=Adm _ (by omega);have hz:0≤(c:Int) - 48∧(c:Int) - 48≤255:=by omega
 have HZ:=Ac8 hz;have HCC:=Ac8 hcc;clear hcc hz hd;clear hc;go_enter Tryz.func136,Tryz.ntmps136;go_wp2_with fail;go_quiet (fail);go_wp2_with fail;go_quiet (fail);go_wp2_with fail;refine (ST lo p mp own _ s { e with pos:=k10 } _ mv bv pv ov rows (HGO.out _).1 k ((c:Int) - 48) HZ.out HCC.out).mono ?_;rintro x w2 ⟨rfl,b2⟩;have hb2:=(HGO.out _).2.trans (b2.mono (by have:=(HGO.out 0).2.size;simp [World.setCell] at this ⊢;omega));clear b2;go_wp2_with fail
 go_ret2
 exact A8 HO.out hb2
theorem SZ (lo p mp:Nat) (w:World) (s:ByteArray) (e:ES) (k:Nat) (h:CG lo p mp w s e) (hs:s.size≤250) (hk:e.pos=k+1) (hl:k+1 < s.size) (h92:byt s.data.toList k=92) (c:Nat) (hc:byt s.data.toList (k+1)=c) (hd:49≤c∧c≤57) (hcc:e.closed.contains ((c:Int) - 48)=true) (hm:e.marks.length≤k) (hp:e.inner.pcs.length≤k):Calls Tryz.prog 136 #[.pointer (some ⟨p,0,none⟩),.int .i64 (k:Int)] w fun x w'=>AU lo p mp s w x w' (B8 s.data.toList e k):=by
 obtain ⟨k10,hk10⟩:∃ j,j=k+2:=⟨_,rfl⟩;obtain ⟨e1,he1⟩:∃ e1:ES,e1={ e with pos:=k10 }:=⟨_,rfl⟩;have HBC:=Ac8 hc;have HO:=Ac8 (show B8 s.data.toList e k=.ok (({ e1 with marks:=e1.marks++[(k,c)] }:ES).at ({ e1 with marks:=e1.marks++[(k,c)] }:ES).st (e1.inner.pcs++[.back ((c:Int) - 48)])) by
  unfold B8;rw [if_pos (by simpa using hl),hc];unfold Dk;rw [if_pos hd,he1,hk10];simp only [hcc,if_true];rfl)
 obtain ⟨own,sv,mv,bv,pv,ov,rows,h⟩:=h;obtain ⟨sa,sc,rfl,e2,e3⟩:=h.sg;obtain ⟨g,rfl,hg,hgl,hcell⟩:=e3 (by omega);have kc:=hcell (k+1) hl;have k1:w.cell? ⟨p,1,none⟩=some (.slice (some ⟨g,0,none⟩) s.size sc):=(h.blk.cell 1).trans rfl;have k2:w.cell? ⟨p,2,none⟩=some (.int .i64 ((k+1:Nat):Int)):=(by rw [←hk];exact (h.blk.cell 2).trans rfl);have e0:(((k+1:Nat):Int) == (s.size:Int))=false:=(by rw [beq_eq_false_iff_ne];omega);have i1:((k+1:Nat):Int) < (s.size:Int):=(by omega);have W1:IntKind.i64.wrap (((k+1:Nat):Int)+1)=(k10:Int):=(by rw [Adm _ (by omega)];omega);have f2:=h.blk.frozen 2;have hlo:=Adg h.lop (Adj h.blk.lt);have hgo:∀ m,Em lo p mp own ((w.drewN m).setCell ⟨p,2,none⟩ (.int .i64 (k10:Int))) s { e with pos:=k10 } (.slice (some ⟨g,0,none⟩) s.size sc) mv bv pv ov rows∧Below lo w ((w.drewN m).setCell ⟨p,2,none⟩ (.int .i64 (k10:Int))):=fun m=>⟨(h.below (below_drewN (Adk _ _) m)).goto k10 (h.ok.goto (by omega) (by simp;omega)),(below_drewN (Adk lo w) m).setCell (p:=⟨p,2,none⟩) h.lop _⟩;have HGO:=Ac8 hgo;have HKC:=Ac8 (And.intro (hcell k (by omega)) (And.intro kc (And.intro hgl (And.intro hg (And.intro e2 h.pown)))));have HK10:=Ac8 hk10;clear hk10;generalize hk9:k+1=k9 at *;have HK9:=Ac8 hk9;clear hk9;clear hgo e3 hcell hgl hg hk;have hpl:=h.blk.lt;clear h
 rw [hc] at kc;have d1:=hd.1;have d2:=hd.2;have d3:(49:Int)≤(c:Int):=by omega
 have d4:(c:Int)≤57:=by omega
 have W2:IntKind.i32.wrap ((c:Int) - 48)=(c:Int) - 48:=IntWalk.i32_in _ (by omega);have W3:IntKind.i64.wrap ((c:Int) - 48)=(c:Int) - 48:=Adm _ (by omega);have hz:0≤(c:Int) - 48∧(c:Int) - 48≤255:=by omega
 have HZ:=Ac8 hz;have HCC:=Ac8 hcc;clear hcc hz hd;have hp1:e1.pos=k+2:=by rw [he1];exact HK10.out
 have hE1:=fun m=>(HGO.out m).1
 rw [←he1] at hE1;have hok1:EOk s.data.toList { e1 with marks:=e1.marks++[(k,c)] }:=(hE1 0).ok.marked _ (by rw [hp1,he1];show e.marks.length < k+2;omega);have hok2:=hok1.pieced (d:=.back ((c:Int) - 48)) rfl (by show e1.inner.pcs.length < e1.pos;rw [hp1,he1];show e.inner.pcs.length < k+2;omega);have hcc1:e1.closed.contains ((c:Int) - 48)=true:=by rw [he1];exact HCC.out
 have heb:=fun m=>VG lo p mp own _ s e1 _ mv bv pv ov rows (hE1 m) k c ((c:Int) - 48) HZ.out hs hp1 h92 (by rw [HK9.out];exact HBC.out) (by omega) hcc1 hok1 hok2
 have HEB:=Ac8 heb;clear hc h92 hm hp hok1 hok2 hcc1 heb hE1 hp1 he1;go_enter Tryz.func136,Tryz.ntmps136;go_wp2_with fail;go_quiet (fail);go_wp2_with fail;go_quiet (fail);go_wp2_with fail;refine (HEB.out _).mono ?_;rintro x w2 ⟨rfl,hx2,b2⟩;have hb2:=(HGO.out _).2.trans b2;have HX2:=Ac8 hx2;clear b2 hx2;go_wp2_with fail
 go_ret2
 exact Aw HO.out hb2 HX2.out
theorem Ta (lo p mp:Nat) (w:World) (s:ByteArray) (e:ES) (k:Nat) (h:CG lo p mp w s e) (hs:s.size≤250) (hk:e.pos=k+1) (hl:k+1 < s.size) (c:Nat) (hc:byt s.data.toList (k+1)=c) (hd:¬ (49≤c∧c≤57)) (hn:C9 c=none):Calls Tryz.prog 136 #[.pointer (some ⟨p,0,none⟩),.int .i64 (k:Int)] w fun x w'=>AU lo p mp s w x w' (B8 s.data.toList e k):=by
 obtain ⟨k10,hk10⟩:∃ j,j=k+2:=⟨_,rfl⟩;have HO:=Ac8 (show B8 s.data.toList e k=.error (2,k) by
  unfold B8;rw [if_pos (by simpa using hl),hc];unfold Dk;rw [if_neg hd,hn])
 have hc256:c < 256:=by rw [←hc];exact Gw _ _
 obtain ⟨own,sv,mv,bv,pv,ov,rows,h⟩:=h;obtain ⟨sa,sc,rfl,e2,e3⟩:=h.sg;obtain ⟨g,rfl,hg,hgl,hcell⟩:=e3 (by omega);have kc:=hcell (k+1) hl;have k1:w.cell? ⟨p,1,none⟩=some (.slice (some ⟨g,0,none⟩) s.size sc):=(h.blk.cell 1).trans rfl;have k2:w.cell? ⟨p,2,none⟩=some (.int .i64 ((k+1:Nat):Int)):=(by rw [←hk];exact (h.blk.cell 2).trans rfl);have e0:(((k+1:Nat):Int) == (s.size:Int))=false:=(by rw [beq_eq_false_iff_ne];omega);have i1:((k+1:Nat):Int) < (s.size:Int):=(by omega);have W1:IntKind.i64.wrap (((k+1:Nat):Int)+1)=(k10:Int):=(by rw [Adm _ (by omega)];omega);have f2:=h.blk.frozen 2;have hlo:=Adg h.lop (Adj h.blk.lt);have hgo:∀ m,Em lo p mp own ((w.drewN m).setCell ⟨p,2,none⟩ (.int .i64 (k10:Int))) s { e with pos:=k10 } (.slice (some ⟨g,0,none⟩) s.size sc) mv bv pv ov rows∧Below lo w ((w.drewN m).setCell ⟨p,2,none⟩ (.int .i64 (k10:Int))):=fun m=>⟨(h.below (below_drewN (Adk _ _) m)).goto k10 (h.ok.goto (by omega) (by simp;omega)),(below_drewN (Adk lo w) m).setCell (p:=⟨p,2,none⟩) h.lop _⟩;have HGO:=Ac8 hgo;have HKC:=Ac8 (And.intro (hcell k (by omega)) (And.intro kc (And.intro hgl (And.intro hg (And.intro e2 h.pown)))));have HK10:=Ac8 hk10;clear hk10;generalize hk9:k+1=k9 at *;have HK9:=Ac8 hk9;clear hk9;clear hgo e3 hcell hgl hg hk;have hpl:=h.blk.lt;clear h
 rw [hc] at kc;have W2:IntKind.u8.wrap (c:Int)=(c:Int):=IntWalk.u8_in _ (by omega);have hes:=fun w=>Ga c hc256 w
 rw [hn,show P9 none=.tuple #[.agg #[.int .u64 0,.int .u64 0,.int .u64 0,.int .u64 0],.bool false,.bool false] from rfl] at hes;have HES:=Ac8 hes;clear hc hn hes hc256;by_cases hd1:49≤c
 ·have d1:(49:Int)≤(c:Int):=by omega
  have d2:decide ((c:Int)≤57)=false:=by rw [decide_eq_false_iff_not];omega
  have d3:decide (c≤57)=false:=by rw [decide_eq_false_iff_not];omega
  have d4:decide ((49:Int)≤(c:Int))=true:=decide_eq_true d1;clear hd;go_enter Tryz.func136,Tryz.ntmps136;go_wp2_with fail;go_quiet (fail);go_wp2_with fail;go_quiet (fail);go_wp2_with fail;refine (HES.out _).mono ?_;rintro x w2 ⟨rfl,b2⟩;have hsz2:lo≤w2.heap.size:=Adg (Adg hlo (HGO.out _).2.size) b2.size;have hb2:=(HGO.out _).2.trans (b2.mono (Adg hlo (HGO.out _).2.size));clear b2;go_wp2_with fail;go_ret2;exact A8 HO.out (hb2.alloc hsz2 _)
 ·have d1:¬ (49:Int)≤(c:Int):=by omega
  have d2:decide ((49:Int)≤(c:Int))=false:=decide_eq_false d1;have d3:decide (49≤c)=false:=decide_eq_false hd1;clear hd;go_enter Tryz.func136,Tryz.ntmps136;go_wp2_with fail;go_quiet (fail);go_wp2_with fail;go_quiet (fail);go_wp2_with fail;refine (HES.out _).mono ?_;rintro x w2 ⟨rfl,b2⟩;have hsz2:lo≤w2.heap.size:=Adg (Adg hlo (HGO.out _).2.size) b2.size;have hb2:=(HGO.out _).2.trans (b2.mono (Adg hlo (HGO.out _).2.size));clear b2;go_wp2_with fail;go_ret2;exact A8 HO.out (hb2.alloc hsz2 _)
theorem PW (lo p mp:Nat) (w:World) (s:ByteArray) (e:ES) (k:Nat) (h:CG lo p mp w s e) (hs:s.size≤250) (hk:e.pos=k+1) (hl:k+1 < s.size) (c:Nat) (hc:byt s.data.toList (k+1)=c) (hd:¬ (49≤c∧c≤57)) (t:OSet) (hn:C9 c=some (t,false)) (hp:e.inner.pcs.length≤k):Calls Tryz.prog 136 #[.pointer (some ⟨p,0,none⟩),.int .i64 (k:Int)] w fun x w'=>AU lo p mp s w x w' (B8 s.data.toList e k):=by
 obtain ⟨k10,hk10⟩:∃ j,j=k+2:=⟨_,rfl⟩;obtain ⟨e1,he1⟩:∃ e1:ES,e1={ e with pos:=k10 }:=⟨_,rfl⟩;have HO:=Ac8 (show B8 s.data.toList e k=.ok (e1.at e1.st (e1.inner.pcs++[.one t])) by
  unfold B8;rw [if_pos (by simpa using hl),hc];unfold Dk;rw [if_neg hd,hn,he1,hk10];rfl)
 have hc256:c < 256:=by rw [←hc];exact Gw _ _
 obtain ⟨own,sv,mv,bv,pv,ov,rows,h⟩:=h;obtain ⟨sa,sc,rfl,e2,e3⟩:=h.sg;obtain ⟨g,rfl,hg,hgl,hcell⟩:=e3 (by omega);have kc:=hcell (k+1) hl;have k1:w.cell? ⟨p,1,none⟩=some (.slice (some ⟨g,0,none⟩) s.size sc):=(h.blk.cell 1).trans rfl;have k2:w.cell? ⟨p,2,none⟩=some (.int .i64 ((k+1:Nat):Int)):=(by rw [←hk];exact (h.blk.cell 2).trans rfl);have e0:(((k+1:Nat):Int) == (s.size:Int))=false:=(by rw [beq_eq_false_iff_ne];omega);have i1:((k+1:Nat):Int) < (s.size:Int):=(by omega);have W1:IntKind.i64.wrap (((k+1:Nat):Int)+1)=(k10:Int):=(by rw [Adm _ (by omega)];omega);have f2:=h.blk.frozen 2;have hlo:=Adg h.lop (Adj h.blk.lt);have hgo:∀ m,Em lo p mp own ((w.drewN m).setCell ⟨p,2,none⟩ (.int .i64 (k10:Int))) s { e with pos:=k10 } (.slice (some ⟨g,0,none⟩) s.size sc) mv bv pv ov rows∧Below lo w ((w.drewN m).setCell ⟨p,2,none⟩ (.int .i64 (k10:Int))):=fun m=>⟨(h.below (below_drewN (Adk _ _) m)).goto k10 (h.ok.goto (by omega) (by simp;omega)),(below_drewN (Adk lo w) m).setCell (p:=⟨p,2,none⟩) h.lop _⟩;have HGO:=Ac8 hgo;have HKC:=Ac8 (And.intro (hcell k (by omega)) (And.intro kc (And.intro hgl (And.intro hg (And.intro e2 h.pown)))));have HK10:=Ac8 hk10;clear hk10;generalize hk9:k+1=k9 at *;have HK9:=Ac8 hk9;clear hk9;clear hgo e3 hcell hgl hg hk;have hpl:=h.blk.lt;clear h
 rw [hc] at kc;have W2:IntKind.u8.wrap (c:Int)=(c:Int):=IntWalk.u8_in _ (by omega);have hes:=fun w=>Ga c hc256 w
 rw [hn,show P9 (some (t,false))=.tuple #[.agg #[.int .u64 (ow t 0),.int .u64 (ow t 1),.int .u64 (ow t 2),.int .u64 (ow t 3)],.bool false,.bool true] from rfl] at hes;have HES:=Ac8 hes;have hE1:=fun m=>(HGO.out m).1
 rw [←he1] at hE1;have HK2:=Ac8 ((hE1 0).ok.pieced (d:=.one t) rfl (by rw [he1];show e.inner.pcs.length < k10;rw [HK10.out];omega));have HE1:=Ac8 hE1;clear hc hn hes hc256 hE1 he1 hp;by_cases hd1:49≤c
 ·have d1:(49:Int)≤(c:Int):=by omega
  have d2:decide ((c:Int)≤57)=false:=by rw [decide_eq_false_iff_not];omega
  have d3:decide (c≤57)=false:=by rw [decide_eq_false_iff_not];omega
  have d4:decide ((49:Int)≤(c:Int))=true:=decide_eq_true d1;clear hd;go_enter Tryz.func136,Tryz.ntmps136;go_wp2_with fail;go_quiet (fail);go_wp2_with fail;go_quiet (fail);go_wp2_with fail;refine (HES.out _).mono ?_;rintro x w2 ⟨rfl,b2⟩;have hE2:=(HE1.out _).below b2;have hsz2:lo≤w2.heap.size:=Adg (Adg hlo (HGO.out _).2.size) b2.size;have hb2:=(HGO.out _).2.trans (b2.mono (Adg hlo (HGO.out _).2.size));have hA2:=(Adk w2.heap.size w2).alloc (Adf _) (.cells #[.int .u64 (ow t 0),.int .u64 (ow t 1),.int .u64 (ow t 2),.int .u64 (ow t 3)] 109);have hE3:=hE2.below hA2;have hK3:=Blk.new w2 #[.int .u64 (ow t 0),.int .u64 (ow t 1),.int .u64 (ow t 2),.int .u64 (ow t 3)] 109 w2.heap.size rfl;have HB3:=Ac8 (hb2.alloc hsz2 (.cells #[.int .u64 (ow t 0),.int .u64 (ow t 1),.int .u64 (ow t 2),.int .u64 (ow t 3)] 109));obtain ⟨W3,hW3⟩:∃ W3,W3=w2.alloc (.cells #[.int .u64 (ow t 0),.int .u64 (ow t 1),.int .u64 (ow t 2),.int .u64 (ow t 3)] 109):=⟨_,rfl⟩;rw [←hW3] at hE3 hK3 HB3;have HAP:=Ac8 hE2.blk.lt;have HAO:=Ac8 hE2.ownlt;obtain ⟨y0,y1,y2,y3,_,_,_,_,_⟩:=Cy hK3;have hadd:=fun (w':World) (hb:Below W3.heap.size W3 w')=>Ez (hE3.below hb) (.one t) (.iface 111 (.agg #[.int .u64 (ow t 0),.int .u64 (ow t 1),.int .u64 (ow t 2),.int .u64 (ow t 3)])) ⟨1,rfl⟩ rfl hs HK2.out;have HAdd:=Ac8 hadd;have hpl3:=hE3.blk.lt;clear hadd;clear hE2 hA2 hE3 hK3 hb2 b2;go_wp2_with fail;rw [←hW3];clear hW3;go_upto_region 12 with fail;go_region_law (first | (refine Bq rfl _ _ _ rfl 133 _ rfl (by rfl) (enters_of Tryz.func133 (by kernel_rfl) rfl) (HAdd.out _ (by first | exact Adk _ _ | exact Below.drew (Adk _ _))) ?_;rintro x w4 ⟨rfl,hx4,hb4⟩;refine ⟨_,rfl,?_⟩;have HX4:=Ac8 hx4;have HB4:Hid (Below lo W3 w4):=Ac8 (by first | exact hb4 | exact (Below.drew (Adk _ _)).trans hb4);clear hx4 hb4));all_goals go_wp2_with fail;all_goals go_ret2;all_goals exact Aw HO.out (HB3.out.trans HB4.out) HX4.out
 ·have d1:¬ (49:Int)≤(c:Int):=by omega
  have d2:decide ((49:Int)≤(c:Int))=false:=decide_eq_false d1;have d3:decide (49≤c)=false:=decide_eq_false hd1;clear hd;go_enter Tryz.func136,Tryz.ntmps136;go_wp2_with fail;go_quiet (fail);go_wp2_with fail;go_quiet (fail);go_wp2_with fail;refine (HES.out _).mono ?_;rintro x w2 ⟨rfl,b2⟩;have hE2:=(HE1.out _).below b2;have hsz2:lo≤w2.heap.size:=Adg (Adg hlo (HGO.out _).2.size) b2.size;have hb2:=(HGO.out _).2.trans (b2.mono (Adg hlo (HGO.out _).2.size));have hA2:=(Adk w2.heap.size w2).alloc (Adf _) (.cells #[.int .u64 (ow t 0),.int .u64 (ow t 1),.int .u64 (ow t 2),.int .u64 (ow t 3)] 109);have hE3:=hE2.below hA2;have hK3:=Blk.new w2 #[.int .u64 (ow t 0),.int .u64 (ow t 1),.int .u64 (ow t 2),.int .u64 (ow t 3)] 109 w2.heap.size rfl;have HB3:=Ac8 (hb2.alloc hsz2 (.cells #[.int .u64 (ow t 0),.int .u64 (ow t 1),.int .u64 (ow t 2),.int .u64 (ow t 3)] 109));obtain ⟨W3,hW3⟩:∃ W3,W3=w2.alloc (.cells #[.int .u64 (ow t 0),.int .u64 (ow t 1),.int .u64 (ow t 2),.int .u64 (ow t 3)] 109):=⟨_,rfl⟩;rw [←hW3] at hE3 hK3 HB3;have HAP:=Ac8 hE2.blk.lt;have HAO:=Ac8 hE2.ownlt;obtain ⟨y0,y1,y2,y3,_,_,_,_,_⟩:=Cy hK3;have hadd:=fun (w':World) (hb:Below W3.heap.size W3 w')=>Ez (hE3.below hb) (.one t) (.iface 111 (.agg #[.int .u64 (ow t 0),.int .u64 (ow t 1),.int .u64 (ow t 2),.int .u64 (ow t 3)])) ⟨1,rfl⟩ rfl hs HK2.out;have HAdd:=Ac8 hadd;have hpl3:=hE3.blk.lt;clear hadd;clear hE2 hA2 hE3 hK3 hb2 b2;go_wp2_with fail;rw [←hW3];clear hW3;go_upto_region 12 with fail;go_region_law (first | (refine Bq rfl _ _ _ rfl 133 _ rfl (by rfl) (enters_of Tryz.func133 (by kernel_rfl) rfl) (HAdd.out _ (by first | exact Adk _ _ | exact Below.drew (Adk _ _))) ?_;rintro x w4 ⟨rfl,hx4,hb4⟩;refine ⟨_,rfl,?_⟩;have HX4:=Ac8 hx4;have HB4:Hid (Below lo W3 w4):=Ac8 (by first | exact hb4 | exact (Below.drew (Adk _ _)).trans hb4);clear hx4 hb4));all_goals go_wp2_with fail;all_goals go_ret2;all_goals exact Aw HO.out (HB3.out.trans HB4.out) HX4.out
theorem Tb (lo p mp:Nat) (w:World) (s:ByteArray) (e:ES) (k:Nat) (h:CG lo p mp w s e) (hs:s.size≤250) (hk:e.pos=k+1) (hl:k+1 < s.size) (c:Nat) (hc:byt s.data.toList (k+1)=c) (hd:¬ (49≤c∧c≤57)) (t:OSet) (hn:C9 c=some (t,true)) (h92:byt s.data.toList k=92) (hm:e.marks.length≤k) (hp:e.inner.pcs.length≤k):Calls Tryz.prog 136 #[.pointer (some ⟨p,0,none⟩),.int .i64 (k:Int)] w fun x w'=>AU lo p mp s w x w' (B8 s.data.toList e k):=by
 obtain ⟨k10,hk10⟩:∃ j,j=k+2:=⟨_,rfl⟩;obtain ⟨e1,he1⟩:∃ e1:ES,e1={ e with pos:=k10 }:=⟨_,rfl⟩;have HO:=Ac8 (show B8 s.data.toList e k=.ok (({ e1 with marks:=e1.marks++[(k,c)] }:ES).at ({ e1 with marks:=e1.marks++[(k,c)] }:ES).st (e1.inner.pcs++[.one t])) by
  unfold B8;rw [if_pos (by simpa using hl),hc];unfold Dk;rw [if_neg hd,hn,he1,hk10];rfl)
 have HBC:=Ac8 hc;have hc256:c < 256:=by rw [←hc];exact Gw _ _
 obtain ⟨own,sv,mv,bv,pv,ov,rows,h⟩:=h;obtain ⟨sa,sc,rfl,e2,e3⟩:=h.sg;obtain ⟨g,rfl,hg,hgl,hcell⟩:=e3 (by omega);have kc:=hcell (k+1) hl;have k1:w.cell? ⟨p,1,none⟩=some (.slice (some ⟨g,0,none⟩) s.size sc):=(h.blk.cell 1).trans rfl;have k2:w.cell? ⟨p,2,none⟩=some (.int .i64 ((k+1:Nat):Int)):=(by rw [←hk];exact (h.blk.cell 2).trans rfl);have e0:(((k+1:Nat):Int) == (s.size:Int))=false:=(by rw [beq_eq_false_iff_ne];omega);have i1:((k+1:Nat):Int) < (s.size:Int):=(by omega);have W1:IntKind.i64.wrap (((k+1:Nat):Int)+1)=(k10:Int):=(by rw [Adm _ (by omega)];omega);have f2:=h.blk.frozen 2;have hlo:=Adg h.lop (Adj h.blk.lt);have hgo:∀ m,Em lo p mp own ((w.drewN m).setCell ⟨p,2,none⟩ (.int .i64 (k10:Int))) s { e with pos:=k10 } (.slice (some ⟨g,0,none⟩) s.size sc) mv bv pv ov rows∧Below lo w ((w.drewN m).setCell ⟨p,2,none⟩ (.int .i64 (k10:Int))):=fun m=>⟨(h.below (below_drewN (Adk _ _) m)).goto k10 (h.ok.goto (by omega) (by simp;omega)),(below_drewN (Adk lo w) m).setCell (p:=⟨p,2,none⟩) h.lop _⟩;have HGO:=Ac8 hgo;have HKC:=Ac8 (And.intro (hcell k (by omega)) (And.intro kc (And.intro hgl (And.intro hg (And.intro e2 h.pown)))));have HK10:=Ac8 hk10;clear hk10;generalize hk9:k+1=k9 at *;have HK9:=Ac8 hk9;clear hk9;clear hgo e3 hcell hgl hg hk;have hpl:=h.blk.lt;clear h
 rw [hc] at kc;have W2:IntKind.u8.wrap (c:Int)=(c:Int):=IntWalk.u8_in _ (by omega);have hes:=fun w=>Ga c hc256 w
 rw [hn,show P9 (some (t,true))=.tuple #[.agg #[.int .u64 (ow t 0),.int .u64 (ow t 1),.int .u64 (ow t 2),.int .u64 (ow t 3)],.bool true,.bool true] from rfl] at hes;have HES:=Ac8 hes;have hE1:=fun m=>(HGO.out m).1
 rw [←he1] at hE1;have hp1:e1.pos=k+2:=by rw [he1];exact HK10.out
 have hml:e1.marks.length≤1000:=by rw [he1];show e.marks.length≤1000;have:=HK9.out;omega
 have HK1:=Ac8 ((hE1 0).ok.marked (k,c) (by rw [hp1,he1];show e.marks.length < k+2;omega));have HK2:=Ac8 (HK1.out.pieced (d:=.one t) rfl (by show e1.inner.pcs.length < e1.pos;rw [hp1,he1];show e.inner.pcs.length < k+2;omega));have HP1:=Ac8 hp1;have HML:=Ac8 hml;have H92:=Ac8 h92;have H128:=Ac8 (PV hn);have HLS:Hid (k+2≤s.size):=Ac8 (by have:=HK9.out;omega);have HE1:=Ac8 hE1;clear hc hn hes hc256 hE1 he1 hp hp1 hml h92 hm;by_cases hd1:49≤c
 ·have d1:(49:Int)≤(c:Int):=by omega
  have d2:decide ((c:Int)≤57)=false:=by rw [decide_eq_false_iff_not];omega
  have d3:decide (c≤57)=false:=by rw [decide_eq_false_iff_not];omega
  have d4:decide ((49:Int)≤(c:Int))=true:=decide_eq_true d1;clear hd;go_enter Tryz.func136,Tryz.ntmps136;go_wp2_with fail;go_quiet (fail);go_wp2_with fail;go_quiet (fail);go_wp2_with fail;refine (HES.out _).mono ?_;rintro x w2 ⟨rfl,b2⟩;have hE2:=(HE1.out _).below b2;have hsz2:lo≤w2.heap.size:=Adg (Adg hlo (HGO.out _).2.size) b2.size;have hb2:=(HGO.out _).2.trans (b2.mono (Adg hlo (HGO.out _).2.size));have hA2:=(Adk w2.heap.size w2).alloc (Adf _) (.cells #[.int .u64 (ow t 0),.int .u64 (ow t 1),.int .u64 (ow t 2),.int .u64 (ow t 3)] 109);have hE3:=hE2.below hA2;have hK3:=Blk.new w2 #[.int .u64 (ow t 0),.int .u64 (ow t 1),.int .u64 (ow t 2),.int .u64 (ow t 3)] 109 w2.heap.size rfl;have HB3:=Ac8 (hb2.alloc hsz2 (.cells #[.int .u64 (ow t 0),.int .u64 (ow t 1),.int .u64 (ow t 2),.int .u64 (ow t 3)] 109));obtain ⟨W3,hW3⟩:∃ W3,W3=w2.alloc (.cells #[.int .u64 (ow t 0),.int .u64 (ow t 1),.int .u64 (ow t 2),.int .u64 (ow t 3)] 109):=⟨_,rfl⟩;rw [←hW3] at hE3 hK3 HB3;have HAP:=Ac8 hE2.blk.lt;have HAO:=Ac8 hE2.ownlt;obtain ⟨y0,y1,y2,y3,_,_,_,_,_⟩:=Cy hK3;have hcell3:∀ i,i < s.size→W3.cell? ⟨g,i,none⟩=some (.int .i32 (byt s.data.toList i:Int)):=(by obtain ⟨a',c',h1,h2,h3⟩:=hE3.sg;injection h1 with h1 _ _;obtain ⟨g',h4,_,_,h5⟩:=h3 (by have:=HLS.out;omega);rw [h4] at h1;injection h1 with h1;injection h1 with h1 _ _;subst h1;exact h5);have hmk:=Iu lo p g s.size sc k e1.pos c _ _ _ _ _ _ _ _ mv e1.marks _ hE3.lop hE3.blk hE3.mks (fun hx=>(hE3.inown mv (by simp [allV]) p hx).2.1 rfl) HP1.out (by rw [HP1.out];exact HLS.out) e2 (by rw [hcell3 k (by have:=HLS.out;omega),H92.out];rfl) (by rw [hcell3 (k+1) (by have:=HLS.out;omega),HK9.out,HBC.out]) H128.out HML.out;have HMK:=Ac8 hmk;have HE3:=Ac8 hE3;have HK3:=Ac8 hK3;clear hE2 hA2 hE3 hK3 hb2 b2 hcell3 hmk;go_wp2_with fail;rw [←hW3];clear hW3;refine HMK.out.mono ?_;rintro x w5 ⟨mv',rfl,hm5,hB5,hT5,hF5⟩;have hE5:=Em.marked (q:=(k,c)) HE3.out hT5 hF5 rfl hm5 hB5 HK1.out;have HB5:=Ac8 (HB3.out.trans (HE3.out.low HE3.out.mks.lt hT5));have hK5:=Blk.touch HK3.out hT5 (fun x=>by have:=HAP.out;omega) (fun x=>by have:=HAO.out _ (HE3.out.inown mv (by simp [allV]) _ x).1;omega);obtain ⟨y0,y1,y2,y3,_,_,_,_,_⟩:=Cy hK5;have hadd:=fun (w':World) (hb:Below w5.heap.size w5 w')=>Ez (hE5.below hb) (.one t) (.iface 111 (.agg #[.int .u64 (ow t 0),.int .u64 (ow t 1),.int .u64 (ow t 2),.int .u64 (ow t 3)])) ⟨1,rfl⟩ rfl hs HK2.out;have HAdd:=Ac8 hadd;have hpl5:=hE5.blk.lt;clear hadd hm5 hB5 hT5 hF5 hE5 hK5;go_wp2_with fail;go_upto_region 12 with fail;go_region_law (first | (refine Bq rfl _ _ _ rfl 133 _ rfl (by rfl) (enters_of Tryz.func133 (by kernel_rfl) rfl) (HAdd.out _ (by first | exact Adk _ _ | exact Below.drew (Adk _ _))) ?_;rintro x w4 ⟨rfl,hx4,hb4⟩;refine ⟨_,rfl,?_⟩;have HX4:=Ac8 hx4;have HB4:Hid (Below lo w5 w4):=Ac8 (by first | exact hb4 | exact (Below.drew (Adk _ _)).trans hb4);clear hx4 hb4));all_goals go_wp2_with fail;all_goals go_ret2;all_goals exact Aw HO.out (HB5.out.trans HB4.out) HX4.out
 ·have d1:¬ (49:Int)≤(c:Int):=by omega
  have d2:decide ((49:Int)≤(c:Int))=false:=decide_eq_false d1;have d3:decide (49≤c)=false:=decide_eq_false hd1;clear hd;go_enter Tryz.func136,Tryz.ntmps136;go_wp2_with fail;go_quiet (fail);go_wp2_with fail;go_quiet (fail);go_wp2_with fail;refine (HES.out _).mono ?_;rintro x w2 ⟨rfl,b2⟩;have hE2:=(HE1.out _).below b2;have hsz2:lo≤w2.heap.size:=Adg (Adg hlo (HGO.out _).2.size) b2.size;have hb2:=(HGO.out _).2.trans (b2.mono (Adg hlo (HGO.out _).2.size));have hA2:=(Adk w2.heap.size w2).alloc (Adf _) (.cells #[.int .u64 (ow t 0),.int .u64 (ow t 1),.int .u64 (ow t 2),.int .u64 (ow t 3)] 109);have hE3:=hE2.below hA2;have hK3:=Blk.new w2 #[.int .u64 (ow t 0),.int .u64 (ow t 1),.int .u64 (ow t 2),.int .u64 (ow t 3)] 109 w2.heap.size rfl;have HB3:=Ac8 (hb2.alloc hsz2 (.cells #[.int .u64 (ow t 0),.int .u64 (ow t 1),.int .u64 (ow t 2),.int .u64 (ow t 3)] 109));obtain ⟨W3,hW3⟩:∃ W3,W3=w2.alloc (.cells #[.int .u64 (ow t 0),.int .u64 (ow t 1),.int .u64 (ow t 2),.int .u64 (ow t 3)] 109):=⟨_,rfl⟩;rw [←hW3] at hE3 hK3 HB3;have HAP:=Ac8 hE2.blk.lt;have HAO:=Ac8 hE2.ownlt;obtain ⟨y0,y1,y2,y3,_,_,_,_,_⟩:=Cy hK3;have hcell3:∀ i,i < s.size→W3.cell? ⟨g,i,none⟩=some (.int .i32 (byt s.data.toList i:Int)):=(by obtain ⟨a',c',h1,h2,h3⟩:=hE3.sg;injection h1 with h1 _ _;obtain ⟨g',h4,_,_,h5⟩:=h3 (by have:=HLS.out;omega);rw [h4] at h1;injection h1 with h1;injection h1 with h1 _ _;subst h1;exact h5);have hmk:=Iu lo p g s.size sc k e1.pos c _ _ _ _ _ _ _ _ mv e1.marks _ hE3.lop hE3.blk hE3.mks (fun hx=>(hE3.inown mv (by simp [allV]) p hx).2.1 rfl) HP1.out (by rw [HP1.out];exact HLS.out) e2 (by rw [hcell3 k (by have:=HLS.out;omega),H92.out];rfl) (by rw [hcell3 (k+1) (by have:=HLS.out;omega),HK9.out,HBC.out]) H128.out HML.out;have HMK:=Ac8 hmk;have HE3:=Ac8 hE3;have HK3:=Ac8 hK3;clear hE2 hA2 hE3 hK3 hb2 b2 hcell3 hmk;go_wp2_with fail;rw [←hW3];clear hW3;refine HMK.out.mono ?_;rintro x w5 ⟨mv',rfl,hm5,hB5,hT5,hF5⟩;have hE5:=Em.marked (q:=(k,c)) HE3.out hT5 hF5 rfl hm5 hB5 HK1.out;have HB5:=Ac8 (HB3.out.trans (HE3.out.low HE3.out.mks.lt hT5));have hK5:=Blk.touch HK3.out hT5 (fun x=>by have:=HAP.out;omega) (fun x=>by have:=HAO.out _ (HE3.out.inown mv (by simp [allV]) _ x).1;omega);obtain ⟨y0,y1,y2,y3,_,_,_,_,_⟩:=Cy hK5;have hadd:=fun (w':World) (hb:Below w5.heap.size w5 w')=>Ez (hE5.below hb) (.one t) (.iface 111 (.agg #[.int .u64 (ow t 0),.int .u64 (ow t 1),.int .u64 (ow t 2),.int .u64 (ow t 3)])) ⟨1,rfl⟩ rfl hs HK2.out;have HAdd:=Ac8 hadd;have hpl5:=hE5.blk.lt;clear hadd hm5 hB5 hT5 hF5 hE5 hK5;go_wp2_with fail;go_upto_region 12 with fail;go_region_law (first | (refine Bq rfl _ _ _ rfl 133 _ rfl (by rfl) (enters_of Tryz.func133 (by kernel_rfl) rfl) (HAdd.out _ (by first | exact Adk _ _ | exact Below.drew (Adk _ _))) ?_;rintro x w4 ⟨rfl,hx4,hb4⟩;refine ⟨_,rfl,?_⟩;have HX4:=Ac8 hx4;have HB4:Hid (Below lo w5 w4):=Ac8 (by first | exact hb4 | exact (Below.drew (Adk _ _)).trans hb4);clear hx4 hb4));all_goals go_wp2_with fail;all_goals go_ret2;all_goals exact Aw HO.out (HB5.out.trans HB4.out) HX4.out
end
end Go.Proofs.YteilldmmihiijaaGreatDoor
