/- Texts. -/
import Derived.Test.YteilldmmihiijaaGreatDoorTw06
import Derived.Maps.OwnSet
import Derived.Maps.OwnOps
import Derived.Maps.Views
import Derived.StillTailTactics
set_option linter.unusedSimpArgs false
set_option linter.unusedVariables false
set_option maxHeartbeats 8000000
set_option maxRecDepth 1000000
namespace Go.Proofs.YteilldmmihiijaaGreatDoor
open Go.Lib renaming hid→Ad5
open Nat renaming le_refl→Aec,le_trans→Aed,lt_of_lt_of_le→Aef,le_of_lt→Aeg
open List renaming length_append→Aee,mem_cons→Ael,mem_append→Aem
open Go.RowKit.Below renaming refl→Aeh,heap_setCell→Aei
open Go.IntWalk renaming i64_in→Aej
open Go.World renaming cell?_of_block→Aek
section
open Go Go.RowKit
def MapAt (w:World) (b:Nat) (cl:List Int):Prop:=∃ (n:Nat) (D:DataW Unit),n≤cl.length∧w.ownsMap Tryz.prog 3 unitElem b n D∧∀ k:Int,Maps.has D (.int .i64 k)=cl.contains k
theorem MapAt.same {w w':World} {b:Nat} {cl:List Int} (h:MapAt w b cl) (hs:w'.heap[b]?=w.heap[b]?):MapAt w' b cl:=by
 obtain ⟨n,D,hn,⟨es,clock,hb,r⟩,hk⟩:=h;exact ⟨n,D,hn,⟨es,clock,hs.trans hb,r⟩,hk⟩
def levC (L:List Lv) (rows:List (Value × Value)):List Value:=(L.zip rows).flatMap fun q=>[.int .i64 (q.1.op:Int),.int .i64 (q.1.num:Int),q.2.1,q.2.2]
def allV (mv bv pv ov:Value) (rows:List (Value × Value)):List Value:=mv :: bv :: pv :: ov :: rows.flatMap fun r=>[r.1,r.2]
def Off2 (u v:Value):Prop:=∀ b,u.ownBlock=some b→v.ownBlock≠some b
structure Em (lo p mp:Nat) (own:List Nat) (w:World) (s:ByteArray) (e:ES) (sv mv bv pv ov:Value) (rows:List (Value × Value)):Prop where
 blk:Blk w p (EC (.string s) sv (.int .i64 (e.pos:Int)) mv (.int .i64 (e.inner.op:Int)) (.int .i64 (e.inner.num:Int)) bv pv ov (.int .i64 (e.groups:Int)) (.map (some mp))) 211
 lop:lo≤p
 lom:lo≤mp
 sg:∃ a c,sv=.slice a s.size c∧s.size≤c∧(0 < s.size→∃ g,a=some ⟨g,0,none⟩∧g ∉ own∧g < w.heap.size∧∀ i,i < s.size→w.cell? ⟨g,i,none⟩=some (.int .i32 (byt s.data.toList i:Int)))
 mks:w.ownsRow lo 33 2 mv e.marks.length (marksC e.marks)
 bn:NR lo own w e.inner.brs bv
 pn:NR lo own w e.inner.pcs pv
 on:w.ownsRow lo 208 4 ov e.outer.length (levC e.outer rows)
 ol:rows.length=e.outer.length
 orow:∀ i (h:i < e.outer.length) (h2:i < rows.length),NR lo own w e.outer[i].brs rows[i].1∧NR lo own w e.outer[i].pcs rows[i].2
 cl:MapAt w mp e.closed
 apart:(allV mv bv pv ov rows).Pairwise Off2
 inown:∀ v∈allV mv bv pv ov rows,∀ b,v.ownBlock=some b→b∈own∧b≠p∧b≠mp
 pown:p∈own
 mown:mp∈own
 pm:p≠mp
 ownlt:∀ b∈own,b < w.heap.size
 ok:EOk s.data.toList e
theorem Em.pieces {lo p mp:Nat} {own own':List Nat} {w w':World} {s:ByteArray} {e:ES} {sv mv bv pv pv' ov:Value} {rows:List (Value × Value)} {l:List Nd} (h:Em lo p mp own w s e sv mv bv pv ov rows)
  (hT:Touch p pv w w') (hnew:pv'.ownBlock=pv.ownBlock∨∃ g,w.heap.size≤g∧pv'.ownBlock=some g) (ho:own'=ownB pv'++own) (hN:NR lo own' w' l pv')
  (hB:Blk w' p (EC (.string s) sv (.int .i64 (e.pos:Int)) mv (.int .i64 (e.inner.op:Int)) (.int .i64 (e.inner.num:Int)) bv pv' ov (.int .i64 (e.groups:Int)) (.map (some mp))) 211)
  (hok:EOk s.data.toList (e.at e.st l)):Em lo p mp own' w' s (e.at e.st l) sv mv bv pv' ov rows:=by
 have hin:∀ v∈allV mv bv pv ov rows,∀ b,v.ownBlock=some b→b∈own∧b≠p∧b≠mp:=h.inown;have hpin:∀ b,pv.ownBlock=some b→b∈own∧b≠p∧b≠mp:=fun b hb=>hin pv (by simp [allV]) b hb
 have hlt:∀ b∈own,b < w.heap.size:=h.ownlt;have hnlt:∀ b,pv'.ownBlock=some b→b < w'.heap.size:=fun b hb=>(hN.lt b hb).2
 have hsame:∀ b,b < w.heap.size→b≠p→pv.ownBlock≠some b→w'.heap[b]?=w.heap[b]?:=hT.block;have hoff:∀ b,b < w.heap.size→b ∉ own→w'.heap[b]?=w.heap[b]?∧b ∉ own':=fun b hb hbo=>by
  refine ⟨hsame b hb (fun e=>hbo (e▸h.pown)) (fun e=>hbo (hpin b e).1),?_⟩;rw [ho,Aem,not_or];refine ⟨fun e=>?_,hbo⟩;rw [AS] at e;rcases hnew with h2 | ⟨g,hg,h2⟩
  ·exact hbo (hpin b (h2.symm.trans e)).1
  ·rw [h2] at e;injection e with e;omega
 have hap:=h.apart;unfold allV at hap;simp only [List.pairwise_cons] at hap;obtain ⟨a1,a2,a3,a4,a5⟩:=hap;have hrow:∀ v,(v=mv∨v=bv∨v=ov∨v∈rows.flatMap fun r=>[r.1,r.2])→∀ b,v.ownBlock=some b→w'.heap[b]?=w.heap[b]?:=fun v hv b hb=>by
  have hmem:v∈allV mv bv pv ov rows:=by
   unfold allV;rcases hv with rfl | rfl | rfl | hv
   ·simp
   ·simp
   ·simp
   ·simp only [Ael];exact .inr (.inr (.inr (.inr hv)))
  obtain ⟨e1,e2,e3⟩:=hin v hmem b hb;refine hsame b (hlt b e1) e2 (fun hp=>?_);rcases hv with rfl | rfl | rfl | hv
  ·exact a1 pv (by simp) b hb hp
  ·exact a2 pv (by simp) b hb hp
  ·exact a3 _ (by simp) b hp hb
  ·exact a3 v (by simp only [Ael];exact .inr hv) b hp hb
 have hothers:∀ v,(v=mv∨v=bv∨v=ov∨v∈rows.flatMap fun r=>[r.1,r.2])→Off2 v pv'∧Off2 pv' v:=fun v hv=>by
  have hmem:v∈allV mv bv pv ov rows:=by
   unfold allV;rcases hv with rfl | rfl | rfl | hv
   ·simp
   ·simp
   ·simp
   ·simp only [Ael];exact .inr (.inr (.inr (.inr hv)))
  have hvp:∀ b,v.ownBlock=some b→pv.ownBlock≠some b:=fun b hb hp=>by
   rcases hv with rfl | rfl | rfl | hv
   ·exact a1 pv (by simp) b hb hp
   ·exact a2 pv (by simp) b hb hp
   ·exact a3 _ (by simp) b hp hb
   ·exact a3 v (by simp only [Ael];exact .inr hv) b hp hb
  have hvq:∀ b,v.ownBlock=some b→pv'.ownBlock≠some b:=fun b hb hp=>by
   rcases hnew with h2 | ⟨g,hg,h2⟩
   ·exact hvp b hb (h2.symm.trans hp)
   ·rw [h2] at hp;injection hp with hp;have:=hlt b (hin v hmem b hb).1;omega
  exact ⟨hvq,fun b hb hp=>hvq b hp hb⟩
 have hplt:p < w.heap.size:=hlt p h.pown;have hmlt:mp < w.heap.size:=hlt mp h.mown;have hrows:∀ i (h2:i < rows.length),(rows[i].1∈rows.flatMap fun r=>[r.1,r.2])∧(rows[i].2∈rows.flatMap fun r=>[r.1,r.2]):=fun i h2=>
  ⟨List.mem_flatMap.2 ⟨rows[i],List.getElem_mem h2,by simp⟩,List.mem_flatMap.2 ⟨rows[i],List.getElem_mem h2,by simp⟩⟩
 refine ⟨hB,h.lop,h.lom,?_,Aa h.mks (hrow mv (.inl rfl)),h.bn.keep hT.size (hrow bv (.inr (.inl rfl))) hoff,hN,Aa h.on (hrow ov (.inr (.inr (.inl rfl)))),h.ol,?_,h.cl.same (hsame mp hmlt (fun e=>h.pm e.symm) (fun e=>(hpin mp e).2.2 rfl)),?_,?_,?_,?_,h.pm,?_,hok⟩
 ·obtain ⟨a,c,e1,e2,e3⟩:=h.sg;refine ⟨a,c,e1,e2,fun h0=>?_⟩;obtain ⟨g,rfl,hg,hgl,hc⟩:=e3 h0;exact ⟨g,rfl,(hoff g hgl hg).2,Aef hgl hT.size,fun i hi=>(Aek (w:=w) (a:=⟨g,i,none⟩) (hoff g hgl hg).1).trans (hc i hi)⟩
 ·intro i h1 h2;obtain ⟨o1,o2⟩:=h.orow i h1 h2;exact ⟨o1.keep hT.size (hrow _ (.inr (.inr (.inr (hrows i h2).1)))) hoff,o2.keep hT.size (hrow _ (.inr (.inr (.inr (hrows i h2).2)))) hoff⟩
 ·unfold allV;simp only [List.pairwise_cons];refine ⟨fun v hv=>?_,fun v hv=>?_,fun v hv=>?_,a4,a5⟩
  ·simp only [Ael] at hv;rcases hv with rfl | rfl | hv
   ·exact a1 _ (by simp)
   ·exact (hothers mv (.inl rfl)).1
   ·exact a1 v (by simp only [Ael];exact .inr (.inr hv))
  ·simp only [Ael] at hv;rcases hv with rfl | hv
   ·exact (hothers bv (.inr (.inl rfl))).1
   ·exact a2 v (by simp only [Ael];exact .inr hv)
  ·simp only [Ael] at hv;rcases hv with rfl | hv
   ·exact (hothers _ (.inr (.inr (.inl rfl)))).2
   ·exact (hothers v (.inr (.inr (.inr hv)))).2
 ·intro v hv b hb;unfold allV at hv;simp only [Ael] at hv;have hold:v∈allV mv bv pv ov rows→b∈own'∧b≠p∧b≠mp:=fun hm=>by
   obtain ⟨e1,e2,e3⟩:=hin v hm b hb;exact ⟨by rw [ho];exact List.mem_append_right _ e1,e2,e3⟩
  rcases hv with rfl | rfl | rfl | rfl | hv
  ·exact hold (by simp [allV])
  ·exact hold (by simp [allV])
  ·refine ⟨by rw [ho];exact List.mem_append_left _ (AS.2 hb),?_⟩;rcases hnew with h2 | ⟨g,hg,h2⟩
   ·exact (hpin b (h2.symm.trans hb)).2
   ·rw [h2] at hb;injection hb with hb;exact ⟨by omega,by omega⟩
  ·exact hold (by simp [allV])
  ·exact hold (by unfold allV;simp only [Ael];exact .inr (.inr (.inr (.inr hv))))
 ·rw [ho];exact List.mem_append_right _ h.pown
 ·rw [ho];exact List.mem_append_right _ h.mown
 ·intro b hb;rw [ho] at hb;rcases Aem.1 hb with hb | hb
  ·exact hnlt b (AS.1 hb)
  ·exact Aef (hlt b hb) hT.size
theorem Em.marked {lo p mp:Nat} {own own':List Nat} {w w':World} {s:ByteArray} {e:ES} {sv mv bv pv mv' ov:Value} {rows:List (Value × Value)} {q:Nat × Nat} (h:Em lo p mp own w s e sv mv bv pv ov rows)
  (hT:Touch p mv w w') (hnew:mv'.ownBlock=mv.ownBlock∨∃ g,w.heap.size≤g∧mv'.ownBlock=some g) (ho:own'=ownB mv'++own) (hN:w'.ownsRow lo 33 2 mv' (e.marks++[q]).length (marksC (e.marks++[q])))
  (hB:Blk w' p (EC (.string s) sv (.int .i64 (e.pos:Int)) mv' (.int .i64 (e.inner.op:Int)) (.int .i64 (e.inner.num:Int)) bv pv ov (.int .i64 (e.groups:Int)) (.map (some mp))) 211)
  (hok:EOk s.data.toList { e with marks:=e.marks++[q] }):Em lo p mp own' w' s { e with marks:=e.marks++[q] } sv mv' bv pv ov rows:=by
 have hin:∀ v∈allV mv bv pv ov rows,∀ b,v.ownBlock=some b→b∈own∧b≠p∧b≠mp:=h.inown;have hpin:∀ b,mv.ownBlock=some b→b∈own∧b≠p∧b≠mp:=fun b hb=>hin mv (by simp [allV]) b hb
 have hlt:∀ b∈own,b < w.heap.size:=h.ownlt;have hnlt:∀ b,mv'.ownBlock=some b→b < w'.heap.size:=fun b hb=>(hN.lt b hb).2
 have hsame:∀ b,b < w.heap.size→b≠p→mv.ownBlock≠some b→w'.heap[b]?=w.heap[b]?:=hT.block;have hoff:∀ b,b < w.heap.size→b ∉ own→w'.heap[b]?=w.heap[b]?∧b ∉ own':=fun b hb hbo=>by
  refine ⟨hsame b hb (fun e=>hbo (e▸h.pown)) (fun e=>hbo (hpin b e).1),?_⟩;rw [ho,Aem,not_or];refine ⟨fun e=>?_,hbo⟩;rw [AS] at e;rcases hnew with h2 | ⟨g,hg,h2⟩
  ·exact hbo (hpin b (h2.symm.trans e)).1
  ·rw [h2] at e;injection e with e;omega
 have hap:=h.apart;unfold allV at hap;simp only [List.pairwise_cons] at hap;obtain ⟨a1,a2,a3,a4,a5⟩:=hap;have hrow:∀ v,(v=pv∨v=bv∨v=ov∨v∈rows.flatMap fun r=>[r.1,r.2])→∀ b,v.ownBlock=some b→w'.heap[b]?=w.heap[b]?:=fun v hv b hb=>by
  have hmem:v∈allV mv bv pv ov rows:=by
   unfold allV;rcases hv with rfl | rfl | rfl | hv
   ·simp
   ·simp
   ·simp
   ·simp only [Ael];exact .inr (.inr (.inr (.inr hv)))
  obtain ⟨e1,e2,e3⟩:=hin v hmem b hb;refine hsame b (hlt b e1) e2 (fun hp=>?_);rcases hv with rfl | rfl | rfl | hv
  ·exact a1 _ (by simp) b hp hb
  ·exact a1 _ (by simp) b hp hb
  ·exact a1 _ (by simp) b hp hb
  ·exact a1 v (by simp only [Ael];exact .inr (.inr (.inr hv))) b hp hb
 have hothers:∀ v,(v=pv∨v=bv∨v=ov∨v∈rows.flatMap fun r=>[r.1,r.2])→Off2 v mv'∧Off2 mv' v:=fun v hv=>by
  have hmem:v∈allV mv bv pv ov rows:=by
   unfold allV;rcases hv with rfl | rfl | rfl | hv
   ·simp
   ·simp
   ·simp
   ·simp only [Ael];exact .inr (.inr (.inr (.inr hv)))
  have hvp:∀ b,v.ownBlock=some b→mv.ownBlock≠some b:=fun b hb hp=>by
   rcases hv with rfl | rfl | rfl | hv
   ·exact a1 _ (by simp) b hp hb
   ·exact a1 _ (by simp) b hp hb
   ·exact a1 _ (by simp) b hp hb
   ·exact a1 v (by simp only [Ael];exact .inr (.inr (.inr hv))) b hp hb
  have hvq:∀ b,v.ownBlock=some b→mv'.ownBlock≠some b:=fun b hb hp=>by
   rcases hnew with h2 | ⟨g,hg,h2⟩
   ·exact hvp b hb (h2.symm.trans hp)
   ·rw [h2] at hp;injection hp with hp;have:=hlt b (hin v hmem b hb).1;omega
  exact ⟨hvq,fun b hb hp=>hvq b hp hb⟩
 have hplt:p < w.heap.size:=hlt p h.pown;have hmlt:mp < w.heap.size:=hlt mp h.mown;have hrows:∀ i (h2:i < rows.length),(rows[i].1∈rows.flatMap fun r=>[r.1,r.2])∧(rows[i].2∈rows.flatMap fun r=>[r.1,r.2]):=fun i h2=>
  ⟨List.mem_flatMap.2 ⟨rows[i],List.getElem_mem h2,by simp⟩,List.mem_flatMap.2 ⟨rows[i],List.getElem_mem h2,by simp⟩⟩
 refine ⟨hB,h.lop,h.lom,?_,hN,h.bn.keep hT.size (hrow bv (.inr (.inl rfl))) hoff,h.pn.keep hT.size (hrow pv (.inl rfl)) hoff,Aa h.on (hrow ov (.inr (.inr (.inl rfl)))),h.ol,?_,h.cl.same (hsame mp hmlt (fun e=>h.pm e.symm) (fun e=>(hpin mp e).2.2 rfl)),?_,?_,?_,?_,h.pm,?_,hok⟩
 ·obtain ⟨a,c,e1,e2,e3⟩:=h.sg;refine ⟨a,c,e1,e2,fun h0=>?_⟩;obtain ⟨g,rfl,hg,hgl,hc⟩:=e3 h0;exact ⟨g,rfl,(hoff g hgl hg).2,Aef hgl hT.size,fun i hi=>(Aek (w:=w) (a:=⟨g,i,none⟩) (hoff g hgl hg).1).trans (hc i hi)⟩
 ·intro i h1 h2;obtain ⟨o1,o2⟩:=h.orow i h1 h2;exact ⟨o1.keep hT.size (hrow _ (.inr (.inr (.inr (hrows i h2).1)))) hoff,o2.keep hT.size (hrow _ (.inr (.inr (.inr (hrows i h2).2)))) hoff⟩
 ·unfold allV;simp only [List.pairwise_cons];refine ⟨fun v hv=>?_,a2,a3,a4,a5⟩;simp only [Ael] at hv;rcases hv with rfl | rfl | rfl | hv
  ·exact (hothers _ (.inr (.inl rfl))).2
  ·exact (hothers _ (.inl rfl)).2
  ·exact (hothers _ (.inr (.inr (.inl rfl)))).2
  ·exact (hothers v (.inr (.inr (.inr hv)))).2
 ·intro v hv b hb;unfold allV at hv;simp only [Ael] at hv;have hold:v∈allV mv bv pv ov rows→b∈own'∧b≠p∧b≠mp:=fun hm=>by
   obtain ⟨e1,e2,e3⟩:=hin v hm b hb;exact ⟨by rw [ho];exact List.mem_append_right _ e1,e2,e3⟩
  rcases hv with rfl | rfl | rfl | rfl | hv
  ·refine ⟨by rw [ho];exact List.mem_append_left _ (AS.2 hb),?_⟩;rcases hnew with h2 | ⟨g,hg,h2⟩
   ·exact (hpin b (h2.symm.trans hb)).2
   ·rw [h2] at hb;injection hb with hb;exact ⟨by omega,by omega⟩
  ·exact hold (by simp [allV])
  ·exact hold (by simp [allV])
  ·exact hold (by simp [allV])
  ·exact hold (by unfold allV;simp only [Ael];exact .inr (.inr (.inr (.inr hv))))
 ·rw [ho];exact List.mem_append_right _ h.pown
 ·rw [ho];exact List.mem_append_right _ h.mown
 ·intro b hb;rw [ho] at hb;rcases Aem.1 hb with hb | hb
  ·exact hnlt b (AS.1 hb)
  ·exact Aef (hlt b hb) hT.size
theorem Em.branched {lo p mp:Nat} {own own':List Nat} {w w':World} {s:ByteArray} {e:ES} {sv mv bv pv bv' ov:Value} {rows:List (Value × Value)} {l:List Nd} (h:Em lo p mp own w s e sv mv bv pv ov rows)
  (hT:Touch p bv w w') (hnew:bv'.ownBlock=bv.ownBlock∨∃ g,w.heap.size≤g∧bv'.ownBlock=some g) (ho:own'=ownB bv'++own) (hN:NR lo own' w' l bv')
  (hB:Blk w' p (EC (.string s) sv (.int .i64 (e.pos:Int)) mv (.int .i64 (e.inner.op:Int)) (.int .i64 (e.inner.num:Int)) bv' (.slice none 0 0) ov (.int .i64 (e.groups:Int)) (.map (some mp))) 211)
  (hok:EOk s.data.toList (e.lv e.st l [])):Em lo p mp own' w' s (e.lv e.st l []) sv mv bv' (.slice none 0 0) ov rows:=by
 have hin:∀ v∈allV mv bv pv ov rows,∀ b,v.ownBlock=some b→b∈own∧b≠p∧b≠mp:=h.inown;have hpin:∀ b,bv.ownBlock=some b→b∈own∧b≠p∧b≠mp:=fun b hb=>hin bv (by simp [allV]) b hb
 have hlt:∀ b∈own,b < w.heap.size:=h.ownlt;have hnlt:∀ b,bv'.ownBlock=some b→b < w'.heap.size:=fun b hb=>(hN.lt b hb).2
 have hsame:∀ b,b < w.heap.size→b≠p→bv.ownBlock≠some b→w'.heap[b]?=w.heap[b]?:=hT.block;have hoff:∀ b,b < w.heap.size→b ∉ own→w'.heap[b]?=w.heap[b]?∧b ∉ own':=fun b hb hbo=>by
  refine ⟨hsame b hb (fun e=>hbo (e▸h.pown)) (fun e=>hbo (hpin b e).1),?_⟩;rw [ho,Aem,not_or];refine ⟨fun e=>?_,hbo⟩;rw [AS] at e;rcases hnew with h2 | ⟨g,hg,h2⟩
  ·exact hbo (hpin b (h2.symm.trans e)).1
  ·rw [h2] at e;injection e with e;omega
 have hap:=h.apart;unfold allV at hap;simp only [List.pairwise_cons] at hap;obtain ⟨a1,a2,a3,a4,a5⟩:=hap;have hrow:∀ v,(v=pv∨v=mv∨v=ov∨v∈rows.flatMap fun r=>[r.1,r.2])→∀ b,v.ownBlock=some b→w'.heap[b]?=w.heap[b]?:=fun v hv b hb=>by
  have hmem:v∈allV mv bv pv ov rows:=by
   unfold allV;rcases hv with rfl | rfl | rfl | hv
   ·simp
   ·simp
   ·simp
   ·simp only [Ael];exact .inr (.inr (.inr (.inr hv)))
  obtain ⟨e1,e2,e3⟩:=hin v hmem b hb;refine hsame b (hlt b e1) e2 (fun hp=>?_);rcases hv with rfl | rfl | rfl | hv
  ·exact a2 _ (by simp) b hp hb
  ·exact a1 bv (by simp) b hb hp
  ·exact a2 _ (by simp) b hp hb
  ·exact a2 v (by simp only [Ael];exact .inr (.inr hv)) b hp hb
 have hothers:∀ v,(v=pv∨v=mv∨v=ov∨v∈rows.flatMap fun r=>[r.1,r.2])→Off2 v bv'∧Off2 bv' v:=fun v hv=>by
  have hmem:v∈allV mv bv pv ov rows:=by
   unfold allV;rcases hv with rfl | rfl | rfl | hv
   ·simp
   ·simp
   ·simp
   ·simp only [Ael];exact .inr (.inr (.inr (.inr hv)))
  have hvp:∀ b,v.ownBlock=some b→bv.ownBlock≠some b:=fun b hb hp=>by
   rcases hv with rfl | rfl | rfl | hv
   ·exact a2 _ (by simp) b hp hb
   ·exact a1 bv (by simp) b hb hp
   ·exact a2 _ (by simp) b hp hb
   ·exact a2 v (by simp only [Ael];exact .inr (.inr hv)) b hp hb
  have hvq:∀ b,v.ownBlock=some b→bv'.ownBlock≠some b:=fun b hb hp=>by
   rcases hnew with h2 | ⟨g,hg,h2⟩
   ·exact hvp b hb (h2.symm.trans hp)
   ·rw [h2] at hp;injection hp with hp;have:=hlt b (hin v hmem b hb).1;omega
  exact ⟨hvq,fun b hb hp=>hvq b hp hb⟩
 have hplt:p < w.heap.size:=hlt p h.pown;have hmlt:mp < w.heap.size:=hlt mp h.mown;have hrows:∀ i (h2:i < rows.length),(rows[i].1∈rows.flatMap fun r=>[r.1,r.2])∧(rows[i].2∈rows.flatMap fun r=>[r.1,r.2]):=fun i h2=>
  ⟨List.mem_flatMap.2 ⟨rows[i],List.getElem_mem h2,by simp⟩,List.mem_flatMap.2 ⟨rows[i],List.getElem_mem h2,by simp⟩⟩
 refine ⟨hB,h.lop,h.lom,?_,Aa h.mks (hrow mv (.inr (.inl rfl))),hN,NR.nil _ _ _,Aa h.on (hrow ov (.inr (.inr (.inl rfl)))),h.ol,?_,h.cl.same (hsame mp hmlt (fun e=>h.pm e.symm) (fun e=>(hpin mp e).2.2 rfl)),?_,?_,?_,?_,h.pm,?_,hok⟩
 ·obtain ⟨a,c,e1,e2,e3⟩:=h.sg;refine ⟨a,c,e1,e2,fun h0=>?_⟩;obtain ⟨g,rfl,hg,hgl,hc⟩:=e3 h0;exact ⟨g,rfl,(hoff g hgl hg).2,Aef hgl hT.size,fun i hi=>(Aek (w:=w) (a:=⟨g,i,none⟩) (hoff g hgl hg).1).trans (hc i hi)⟩
 ·intro i h1 h2;obtain ⟨o1,o2⟩:=h.orow i h1 h2;exact ⟨o1.keep hT.size (hrow _ (.inr (.inr (.inr (hrows i h2).1)))) hoff,o2.keep hT.size (hrow _ (.inr (.inr (.inr (hrows i h2).2)))) hoff⟩
 ·unfold allV;simp only [List.pairwise_cons];refine ⟨fun v hv=>?_,fun v hv=>?_,fun v hv=>fun b hb=>(by simp [Value.ownBlock] at hb),a4,a5⟩
  ·simp only [Ael] at hv;rcases hv with rfl | rfl | rfl | hv
   ·exact (hothers mv (.inr (.inl rfl))).1
   ·exact fun b hb hp=>(by simp [Value.ownBlock] at hp)
   ·exact a1 _ (by simp)
   ·exact a1 v (by simp only [Ael];exact .inr (.inr (.inr hv)))
  ·simp only [Ael] at hv;rcases hv with rfl | rfl | hv
   ·exact fun b hb hp=>(by simp [Value.ownBlock] at hp)
   ·exact (hothers _ (.inr (.inr (.inl rfl)))).2
   ·exact (hothers v (.inr (.inr (.inr hv)))).2
 ·intro v hv b hb;unfold allV at hv;simp only [Ael] at hv;have hold:v∈allV mv bv pv ov rows→b∈own'∧b≠p∧b≠mp:=fun hm=>by
   obtain ⟨e1,e2,e3⟩:=hin v hm b hb;exact ⟨by rw [ho];exact List.mem_append_right _ e1,e2,e3⟩
  rcases hv with rfl | rfl | rfl | rfl | hv
  ·exact hold (by simp [allV])
  ·refine ⟨by rw [ho];exact List.mem_append_left _ (AS.2 hb),?_⟩;rcases hnew with h2 | ⟨g,hg,h2⟩
   ·exact (hpin b (h2.symm.trans hb)).2
   ·rw [h2] at hb;injection hb with hb;exact ⟨by omega,by omega⟩
  ·simp [Value.ownBlock] at hb
  ·exact hold (by simp [allV])
  ·exact hold (by unfold allV;simp only [Ael];exact .inr (.inr (.inr (.inr hv))))
 ·rw [ho];exact List.mem_append_right _ h.pown
 ·rw [ho];exact List.mem_append_right _ h.mown
 ·intro b hb;rw [ho] at hb;rcases Aem.1 hb with hb | hb
  ·exact hnlt b (AS.1 hb)
  ·exact Aef (hlt b hb) hT.size
theorem Em.opened {lo p mp:Nat} {own own':List Nat} {w w':World} {s:ByteArray} {e:ES} {sv mv bv pv ov ov':Value} {rows:List (Value × Value)} {k g':Nat} (h:Em lo p mp own w s e sv mv bv pv ov rows)
  (hT:Touch p ov w w') (hnew:ov'.ownBlock=ov.ownBlock∨∃ g,w.heap.size≤g∧ov'.ownBlock=some g) (ho:own'=ownB ov'++own) (hN:w'.ownsRow lo 208 4 ov' (e.outer.length+1) (levC e.outer rows++[.int .i64 (e.inner.op:Int),.int .i64 (e.inner.num:Int),bv,pv]))
  (hB:Blk w' p (EC (.string s) sv (.int .i64 (e.pos:Int)) mv (.int .i64 (k:Int)) (.int .i64 (g':Int)) (.slice none 0 0) (.slice none 0 0) ov' (.int .i64 (g':Int)) (.map (some mp))) 211)
  (hok:EOk s.data.toList { e with groups:=g',outer:=e.outer++[e.inner],inner:=⟨k,g',[],[]⟩ }):Em lo p mp own' w' s { e with groups:=g',outer:=e.outer++[e.inner],inner:=⟨k,g',[],[]⟩ } sv mv (.slice none 0 0) (.slice none 0 0) ov' (rows++[(bv,pv)]):=by
 have hin:∀ v∈allV mv bv pv ov rows,∀ b,v.ownBlock=some b→b∈own∧b≠p∧b≠mp:=h.inown;have hpin:∀ b,ov.ownBlock=some b→b∈own∧b≠p∧b≠mp:=fun b hb=>hin ov (by simp [allV]) b hb
 have hlt:∀ b∈own,b < w.heap.size:=h.ownlt;have hnlt:∀ b,ov'.ownBlock=some b→b < w'.heap.size:=fun b hb=>(hN.lt b hb).2
 have hsame:∀ b,b < w.heap.size→b≠p→ov.ownBlock≠some b→w'.heap[b]?=w.heap[b]?:=hT.block;have hoff:∀ b,b < w.heap.size→b ∉ own→w'.heap[b]?=w.heap[b]?∧b ∉ own':=fun b hb hbo=>by
  refine ⟨hsame b hb (fun e=>hbo (e▸h.pown)) (fun e=>hbo (hpin b e).1),?_⟩;rw [ho,Aem,not_or];refine ⟨fun e=>?_,hbo⟩;rw [AS] at e;rcases hnew with h2 | ⟨g,hg,h2⟩
  ·exact hbo (hpin b (h2.symm.trans e)).1
  ·rw [h2] at e;injection e with e;omega
 have hap:=h.apart;unfold allV at hap;simp only [List.pairwise_cons] at hap;obtain ⟨a1,a2,a3,a4,a5⟩:=hap;have hrow:∀ v,(v=pv∨v=bv∨v=mv∨v∈rows.flatMap fun r=>[r.1,r.2])→∀ b,v.ownBlock=some b→w'.heap[b]?=w.heap[b]?:=fun v hv b hb=>by
  have hmem:v∈allV mv bv pv ov rows:=by
   unfold allV;rcases hv with rfl | rfl | rfl | hv
   ·simp
   ·simp
   ·simp
   ·simp only [Ael];exact .inr (.inr (.inr (.inr hv)))
  obtain ⟨e1,e2,e3⟩:=hin v hmem b hb;refine hsame b (hlt b e1) e2 (fun hp=>?_);rcases hv with rfl | rfl | rfl | hv
  ·exact a3 ov (by simp) b hb hp
  ·exact a2 ov (by simp) b hb hp
  ·exact a1 ov (by simp) b hb hp
  ·exact a4 v hv b hp hb
 have hothers:∀ v,(v=pv∨v=bv∨v=mv∨v∈rows.flatMap fun r=>[r.1,r.2])→Off2 v ov'∧Off2 ov' v:=fun v hv=>by
  have hmem:v∈allV mv bv pv ov rows:=by
   unfold allV;rcases hv with rfl | rfl | rfl | hv
   ·simp
   ·simp
   ·simp
   ·simp only [Ael];exact .inr (.inr (.inr (.inr hv)))
  have hvp:∀ b,v.ownBlock=some b→ov.ownBlock≠some b:=fun b hb hp=>by
   rcases hv with rfl | rfl | rfl | hv
   ·exact a3 ov (by simp) b hb hp
   ·exact a2 ov (by simp) b hb hp
   ·exact a1 ov (by simp) b hb hp
   ·exact a4 v hv b hp hb
  have hvq:∀ b,v.ownBlock=some b→ov'.ownBlock≠some b:=fun b hb hp=>by
   rcases hnew with h2 | ⟨g,hg,h2⟩
   ·exact hvp b hb (h2.symm.trans hp)
   ·rw [h2] at hp;injection hp with hp;have:=hlt b (hin v hmem b hb).1;omega
  exact ⟨hvq,fun b hb hp=>hvq b hp hb⟩
 have hplt:p < w.heap.size:=hlt p h.pown;have hmlt:mp < w.heap.size:=hlt mp h.mown;have hrows:∀ i (h2:i < rows.length),(rows[i].1∈rows.flatMap fun r=>[r.1,r.2])∧(rows[i].2∈rows.flatMap fun r=>[r.1,r.2]):=fun i h2=>
  ⟨List.mem_flatMap.2 ⟨rows[i],List.getElem_mem h2,by simp⟩,List.mem_flatMap.2 ⟨rows[i],List.getElem_mem h2,by simp⟩⟩
 have hz:∀ (L:List Lv) (R:List (Value × Value)) (v:Lv) (r:Value × Value),R.length=L.length→levC (L++[v]) (R++[r])=levC L R++[.int .i64 (v.op:Int),.int .i64 (v.num:Int),r.1,r.2]:=fun L R v r hl=>by
  unfold levC;rw [List.zip_append (by omega),List.flatMap_append];simp
 have hnil:∀ v:Value,Off2 (.slice none 0 0) v∧Off2 v (.slice none 0 0):=fun v=>⟨fun b hb=>(by simp [Value.ownBlock] at hb),fun b hb hp=>(by simp [Value.ownBlock] at hp)⟩
 have hfm:(rows++[(bv,pv)]).flatMap (fun r=>[r.1,r.2])=(rows.flatMap fun r=>[r.1,r.2])++[bv,pv]:=by rw [List.flatMap_append];simp
 refine ⟨hB,h.lop,h.lom,?_,Aa h.mks (hrow mv (.inr (.inr (.inl rfl)))),NR.nil _ _ _,NR.nil _ _ _,?_,?_,?_,h.cl.same (hsame mp hmlt (fun e=>h.pm e.symm) (fun e=>(hpin mp e).2.2 rfl)),?_,?_,?_,?_,h.pm,?_,hok⟩
 ·obtain ⟨a,c,e1,e2,e3⟩:=h.sg;refine ⟨a,c,e1,e2,fun h0=>?_⟩;obtain ⟨g,rfl,hg,hgl,hc⟩:=e3 h0;exact ⟨g,rfl,(hoff g hgl hg).2,Aef hgl hT.size,fun i hi=>(Aek (w:=w) (a:=⟨g,i,none⟩) (hoff g hgl hg).1).trans (hc i hi)⟩
 ·show w'.ownsRow lo 208 4 ov' (e.outer++[e.inner]).length (levC (e.outer++[e.inner]) (rows++[(bv,pv)]));rw [hz _ _ _ _ h.ol,Aee];exact hN
 ·show (rows++[(bv,pv)]).length=(e.outer++[e.inner]).length;rw [Aee,Aee,h.ol];rfl
 ·intro i h1 h2;have hol:=h.ol;by_cases hi:i < e.outer.length
  ·obtain ⟨o1,o2⟩:=h.orow i hi (by omega);have e1:(rows++[(bv,pv)])[i]'h2=rows[i]'(by omega):=List.getElem_append_left (by omega);have e2:(e.outer++[e.inner])[i]'h1=e.outer[i]'hi:=List.getElem_append_left hi;rw [e1];show NR lo own' w' ((e.outer++[e.inner])[i]'h1).brs _∧NR lo own' w' ((e.outer++[e.inner])[i]'h1).pcs _;rw [e2];exact ⟨o1.keep hT.size (hrow _ (.inr (.inr (.inr (hrows i (by omega)).1)))) hoff,o2.keep hT.size (hrow _ (.inr (.inr (.inr (hrows i (by omega)).2)))) hoff⟩
  ·have h1':i < (e.outer++[e.inner]).length:=h1;have hie:i=e.outer.length:=by rw [Aee] at h1';simp at h1';omega
   subst hie;have e1:(rows++[(bv,pv)])[e.outer.length]'h2=(bv,pv):=by rw [List.getElem_append_right (by omega)];simp [hol]
   have e2:(e.outer++[e.inner])[e.outer.length]'h1=e.inner:=by rw [List.getElem_append_right (Aec _)];simp
   rw [e1];show NR lo own' w' ((e.outer++[e.inner])[e.outer.length]'h1).brs _∧NR lo own' w' ((e.outer++[e.inner])[e.outer.length]'h1).pcs _;rw [e2];exact ⟨h.bn.keep hT.size (hrow bv (.inr (.inl rfl))) hoff,h.pn.keep hT.size (hrow pv (.inl rfl)) hoff⟩
 ·unfold allV;rw [hfm];simp only [List.pairwise_cons];refine ⟨fun v hv=>?_,fun v _=>(hnil v).1,fun v _=>(hnil v).1,fun v hv=>?_,?_⟩
  ·simp only [Ael,Aem] at hv;rcases hv with rfl | rfl | rfl | hv | rfl | rfl | hv
   ·exact (hnil _).2
   ·exact (hnil _).2
   ·exact (hothers mv (.inr (.inr (.inl rfl)))).1
   ·exact a1 v (by simp only [Ael];exact .inr (.inr (.inr hv)))
   ·exact a1 _ (by simp)
   ·exact a1 _ (by simp)
   ·cases hv
  ·simp only [Ael,Aem] at hv;rcases hv with hv | rfl | rfl | hv
   ·exact (hothers v (.inr (.inr (.inr hv)))).2
   ·exact (hothers _ (.inr (.inl rfl))).2
   ·exact (hothers _ (.inl rfl)).2
   ·cases hv
  ·rw [List.pairwise_append];refine ⟨a5,?_,fun u hu v hv=>?_⟩
   ·simp only [List.pairwise_cons];refine ⟨fun v hv=>?_,fun v hv=>(by cases hv),List.Pairwise.nil⟩;simp only [Ael] at hv;rcases hv with rfl | hv
    ·exact a2 _ (by simp)
    ·cases hv
   ·simp only [Ael] at hv;rcases hv with rfl | rfl | hv
    ·exact fun b hb hp=>a2 u (by simp only [Ael];exact .inr (.inr hu)) b hp hb
    ·exact fun b hb hp=>a3 u (by simp only [Ael];exact .inr hu) b hp hb
    ·cases hv
 ·intro v hv b hb;unfold allV at hv;rw [hfm] at hv;simp only [Ael,Aem] at hv;have hold:v∈allV mv bv pv ov rows→b∈own'∧b≠p∧b≠mp:=fun hm=>by
   obtain ⟨e1,e2,e3⟩:=hin v hm b hb;exact ⟨by rw [ho];exact List.mem_append_right _ e1,e2,e3⟩
  rcases hv with rfl | rfl | rfl | rfl | hv | rfl | rfl | hv
  ·exact hold (by simp [allV])
  ·simp [Value.ownBlock] at hb
  ·simp [Value.ownBlock] at hb
  ·refine ⟨by rw [ho];exact List.mem_append_left _ (AS.2 hb),?_⟩;rcases hnew with h2 | ⟨g,hg,h2⟩
   ·exact (hpin b (h2.symm.trans hb)).2
   ·rw [h2] at hb;injection hb with hb;exact ⟨by omega,by omega⟩
  ·exact hold (by unfold allV;simp only [Ael];exact .inr (.inr (.inr (.inr hv))))
  ·exact hold (by simp [allV])
  ·exact hold (by simp [allV])
  ·cases hv
 ·rw [ho];exact List.mem_append_right _ h.pown
 ·rw [ho];exact List.mem_append_right _ h.mown
 ·intro b hb;rw [ho] at hb;rcases Aem.1 hb with hb | hb
  ·exact hnlt b (AS.1 hb)
  ·exact Aef (hlt b hb) hT.size
theorem Qs:∃ i,Tryz.prog.info? 208=some i∧i.zero=some (.agg #[.int .i64 0,.int .i64 0,.slice none 0 0,.slice none 0 0])∧i.size=4∧i.bytes=64:=by
 have h:(Tryz.prog.info? 208).map (fun i=>(i.zero,i.size,i.bytes))=some (some (.agg #[.int .i64 0,.int .i64 0,.slice none 0 0,.slice none 0 0]),4,64):=by kernel_rfl
 obtain ⟨i,hi,he⟩:=Option.map_eq_some_iff.1 h;injection he with h1 h2;injection h2 with h2 h3;exact ⟨i,hi,h1,h2,h3⟩
theorem Touch.trans {p:Nat} {v:Value} {w w1 w2:World} (h:Touch p v w w1) (k:Touch p v w1 w2):Touch p v w w2:=
 ⟨k.os.trans h.os,k.tape.trans h.tape,k.output.trans h.output,Aed h.size k.size,fun b hb e1 e2=>(k.block b (Aef hb h.size) e1 e2).trans (h.block b hb e1 e2)⟩
theorem NR.form {lo:Nat} {own:List Nat} {w:World} {l:List Nd} {v:Value} (h:NR lo own w l v):∃ a c,v=.slice a l.length c:=by
 obtain ⟨us,_,h2,_,_⟩:=h;exact Ba h2
theorem Qt (lo p mp:Nat) (own:List Nat) (w:World) (s:ByteArray) (e:ES) (sv mv bv pv ov:Value) (rows:List (Value × Value)) (h:Em lo p mp own w s e sv mv bv pv ov rows) (k:Nat) (hd:e.outer.length=12) :
  Calls Tryz.prog 131 #[.pointer (some ⟨p,0,none⟩),.int .i64 (k:Int)] w fun x w'=>x=.returned (.tuple #[.int .i64 (k:Int),.int .i64 4])∧w'=w:=by
 obtain ⟨oa,oc,rfl⟩:=Ba h.on;have k8:w.cell? ⟨p,8,none⟩=some (.slice oa e.outer.length oc):=(h.blk.cell 8).trans rfl;rw [hd] at k8;clear h;go_enter Tryz.func131,Tryz.ntmps131;go_wp2_with fail
 go_ret2
 exact ⟨rfl,rfl⟩
theorem TD (lo p mp:Nat) (own:List Nat) (w:World) (s:ByteArray) (e:ES) (sv mv bv pv ov:Value) (rows:List (Value × Value)) (h:Em lo p mp own w s e sv mv bv pv ov rows) (k:Nat) (hd:e.outer.length < 12) (hg:e.groups≤250)
  (hok:EOk s.data.toList { e with groups:=e.groups+1,outer:=e.outer++[e.inner],inner:=⟨k,e.groups+1,[],[]⟩ }) :
  Calls Tryz.prog 131 #[.pointer (some ⟨p,0,none⟩),.int .i64 (k:Int)] w fun x w'=>x=.returned (.tuple #[.int .i64 0,.int .i64 0])∧∃ own' ov',Em lo p mp own' w' s { e with groups:=e.groups+1,outer:=e.outer++[e.inner],inner:=⟨k,e.groups+1,[],[]⟩ } sv mv (.slice none 0 0) (.slice none 0 0) ov' (rows++[(bv,pv)])∧w.heap.size≤w'.heap.size∧Touch p ov w w':=by
 obtain ⟨i0,hi,hz0,hz1,hz2⟩:=Qs;obtain ⟨oa,oc,rfl⟩:=Ba h.on;obtain ⟨ba,bc,rfl⟩:=h.bn.form;obtain ⟨pa,pc,rfl⟩:=h.pn.form;have hb:=h.blk;have hplt:=hb.lt;have hop:(Value.slice oa e.outer.length oc).ownBlock≠some p:=fun hx=>(h.inown _ (by simp [allV]) p hx).2.1 rfl
 have k4:w.cell? ⟨p,4,none⟩=some (.int .i64 (e.inner.op:Int)):=(hb.cell 4).trans rfl;have k5:w.cell? ⟨p,5,none⟩=some (.int .i64 (e.inner.num:Int)):=(hb.cell 5).trans rfl;have k6:w.cell? ⟨p,6,none⟩=some (.slice ba e.inner.brs.length bc):=(hb.cell 6).trans rfl;have k7:w.cell? ⟨p,7,none⟩=some (.slice pa e.inner.pcs.length pc):=(hb.cell 7).trans rfl;have k8:w.cell? ⟨p,8,none⟩=some (.slice oa e.outer.length oc):=(hb.cell 8).trans rfl;have k9:w.cell? ⟨p,9,none⟩=some (.int .i64 (e.groups:Int)):=(hb.cell 9).trans rfl;have z9:=hb.frozen 9;have Wg:IntKind.i64.wrap ((e.groups:Int)+1)=((e.groups+1:Nat):Int):=by rw [Aej _ (by omega)];omega
 have e0:((e.outer.length:Int) == 12)=false:=by rw [beq_eq_false_iff_ne];omega
 have e1:(e.outer.length == 12)=false:=by rw [beq_eq_false_iff_ne];omega
 have HH:=Ad5 h;have HB:=Ad5 hb;have HOK:=Ad5 hok;clear h hb hok;go_enter Tryz.func131,Tryz.ntmps131;go_wp2_with fail
 obtain ⟨W1,hW1⟩:∃ W1,W1=w.setCell ⟨p,9,none⟩ (.int .i64 ((e.groups:Int)+1)):=⟨_,rfl⟩;rw [←hW1];have hB1:Blk W1 p (EC (.string s) sv (.int .i64 (e.pos:Int)) mv (.int .i64 (e.inner.op:Int)) (.int .i64 (e.inner.num:Int)) (.slice ba e.inner.brs.length bc) (.slice pa e.inner.pcs.length pc) (.slice oa e.outer.length oc) (.int .i64 ((e.groups:Int)+1)) (.map (some mp))) 211:=by rw [hW1];exact HB.out.set 9 _
 have hs1:W1.heap.size=w.heap.size:=by rw [hW1];simp [World.setCell]
 have hT1:Touch p (.slice oa e.outer.length oc) w W1:=by rw [hW1];exact (Touch.refl _ _ _).cell _
 have ho1:W1.ownsRow lo 208 4 (.slice oa e.outer.length oc) e.outer.length (levC e.outer rows):=by
  rw [hW1];exact Aa HH.out.on (fun q hq=>Aei _ _ _ _ (fun x=>hop (by rw [hq,x])))
 have HS1:=Ad5 hs1;have HT1:=Ad5 hT1;have HO1:=Ad5 ho1;have HB1:=Ad5 hB1;have hp1:=hB1.lt;have q4:W1.cell? ⟨p,4,none⟩=some (.int .i64 (e.inner.op:Int)):=(hB1.cell 4).trans rfl;have q5:W1.cell? ⟨p,5,none⟩=some (.int .i64 (e.inner.num:Int)):=(hB1.cell 5).trans rfl;have q6:W1.cell? ⟨p,6,none⟩=some (.slice ba e.inner.brs.length bc):=(hB1.cell 6).trans rfl;have q7:W1.cell? ⟨p,7,none⟩=some (.slice pa e.inner.pcs.length pc):=(hB1.cell 7).trans rfl;have q8:W1.cell? ⟨p,8,none⟩=some (.slice oa e.outer.length oc):=(hB1.cell 8).trans rfl;have hm1:e.outer.length+1≤maxLen:=by unfold maxLen;omega
 have hm2:(e.outer.length+1) * 64≤140737488355328:=by omega
 have hlw:lo≤W1.heap.size:=Aed HH.out.lop (Aeg hp1);have hnews:∀ W:World,W.heap.size=W1.heap.size→∀ j u,[Value.int .i64 (e.inner.op:Int),.int .i64 (e.inner.num:Int),.slice ba e.inner.brs.length bc,.slice pa e.inner.pcs.length pc][j]?=some u→(W.alloc (.cells #[.int .i64 (e.inner.op:Int),.int .i64 (e.inner.num:Int),.slice ba e.inner.brs.length bc,.slice pa e.inner.pcs.length pc] 208)).cell? ((⟨W1.heap.size,0,none⟩:Addr).add j)=some u:=fun W hW j u hu=>by
  have hb2:=Blk.new W #[.int .i64 (e.inner.op:Int),.int .i64 (e.inner.num:Int),.slice ba e.inner.brs.length bc,.slice pa e.inner.pcs.length pc] 208 W1.heap.size hW.symm;rw [Go.WideShapes.add_plain,Nat.zero_add,hb2.cell j,←Array.getElem?_toList];exact hu
 have hv1:∀ u∈[Value.int .i64 (e.inner.op:Int),.int .i64 (e.inner.num:Int),.slice ba e.inner.brs.length bc,.slice pa e.inner.pcs.length pc],u.oneCell'=true:=by
  intro u hu;simp only [Ael] at hu;rcases hu with rfl | rfl | rfl | rfl | hu
  ·rfl
  ·rfl
  ·rfl
  ·rfl
  ·cases hu
 clear hW1 hs1 hT1 ho1 hB1 k4 k5 k6 k7 k8 k9 z9;go_upto_region 4 with fail
 go_region_law (first
  | (refine Av rfl _ _ 209 rfl lo 208 i0 (.agg #[.int .i64 0,.int .i64 0,.slice none 0 0,.slice none 0 0]) 4 64 Tryz.underlying209 hi hz0 hz1 hz2 rfl (by decide) (.slice oa e.outer.length oc) e.outer.length (levC e.outer rows) rfl (Ag HO1.out (by repeat (first | (with_reducible exact Aeh _ _) | refine Below.drew ?_ | refine Below.alloc ?_ (Aec _) _))) (some ⟨W1.heap.size,0,none⟩) 1 1 [.int .i64 (e.inner.op:Int),.int .i64 (e.inner.num:Int),.slice ba e.inner.brs.length bc,.slice pa e.inner.pcs.length pc] rfl rfl (fun _=>⟨_,rfl,hnews _ rfl⟩) hv1 hm1 hm2 (by simp;omega) ?_;intro v6 w6 hown6 hgrow6 hat6;obtain ⟨a6,c6,rfl⟩:=Ba hown6;have hB6:=DS ((HB1.out.alloc _).drew) hgrow6 hop;have f4:=hB6.frozen 4;have f5:=hB6.frozen 5;have f6:=hB6.frozen 6;have f7:=hB6.frozen 7;have f8:=hB6.frozen 8;have g4:w6.cell? ⟨p,4,none⟩=some (.int .i64 (e.inner.op:Int)):=(hB6.cell 4).trans rfl;have g5:w6.cell? ⟨p,5,none⟩=some (.int .i64 (e.inner.num:Int)):=(hB6.cell 5).trans rfl;have g6:w6.cell? ⟨p,6,none⟩=some (.slice ba e.inner.brs.length bc):=(hB6.cell 6).trans rfl;have g7:w6.cell? ⟨p,7,none⟩=some (.slice pa e.inner.pcs.length pc):=(hB6.cell 7).trans rfl;have g8:w6.cell? ⟨p,8,none⟩=some (.slice oa e.outer.length oc):=(hB6.cell 8).trans rfl;have g9:w6.cell? ⟨p,9,none⟩=some (.int .i64 ((e.groups:Int)+1)):=(hB6.cell 9).trans rfl;have HT:=Ad5 (fun y=>Kl (p:=p) (j:=8) (((Aeh W1.heap.size W1).alloc (Aec _) _).drew) hgrow6 y);have HA:=Ad5 hat6;have HO:=Ad5 hown6;have HB6:=Ad5 hB6;clear hown6 hgrow6 hat6 hB6))
 all_goals go_wp2_with fail
 all_goals go_ret2
 all_goals
  have hF:(Value.slice a6 (e.outer.length+1) c6).ownBlock=(Value.slice oa e.outer.length oc).ownBlock∨∃ q,w.heap.size≤q∧(Value.slice a6 (e.outer.length+1) c6).ownBlock=some q:=by
   rcases HA.out with h | h
   ·exact .inl h
   ·exact .inr ⟨_,by have:=HS1.out;simp;omega,h⟩
  have hvp:(Value.slice a6 (e.outer.length+1) c6).ownBlock≠some p:=by
   rcases hF with h | ⟨q,hq,h⟩
   ·rw [h];exact hop
   ·rw [h];intro x;injection x with x;omega
  have hT:=HT1.out.trans (((((HT.out (.slice a6 (e.outer.length+1) c6)).cell (j:=4) (.int .i64 (k:Int))).cell (j:=5) (.int .i64 ((e.groups:Int)+1))).cell (j:=6) (.slice none 0 0)).cell (j:=7) (.slice none 0 0));have hB:=((((HB6.out.set 8 (.slice a6 (e.outer.length+1) c6)).set 4 (.int .i64 (k:Int))).set 5 (.int .i64 ((e.groups:Int)+1))).set 6 (.slice none 0 0)).set 7 (.slice none 0 0);have hfar:∀ (W:World) (j:Nat) (y:Value) (q:Nat),(Value.slice a6 (e.outer.length+1) c6).ownBlock=some q→(W.setCell ⟨p,j,none⟩ y).heap[q]?=W.heap[q]?:=fun W j y q hq=>Aei _ _ _ _ (fun x=>hvp (by rw [hq,x]))
  have hN:=Aa (Aa (Aa (Aa (Aa HO.out (hfar _ 8 (.slice a6 (e.outer.length+1) c6))) (hfar _ 4 (.int .i64 (k:Int)))) (hfar _ 5 (.int .i64 ((e.groups:Int)+1)))) (hfar _ 6 (.slice none 0 0))) (hfar _ 7 (.slice none 0 0));exact ⟨rfl,_,_,Em.opened (k:=k) (g':=e.groups+1) HH.out hT hF rfl hN hB HOK.out,hT.size,hT⟩
theorem Qu (d:Int) (h0:0≤d) (h1:d≤255):keyOf Tryz.prog 3 (.int .i64 d)=some (.int .i64 d):=by
 have hu:=Tryz.underlying3;have hw:(Lit.int .i64 d).wf=true:=by simp [Lit.wf,IntKind.min,IntKind.max,IntKind.bits,IntKind.signed];omega
 simp [keyOf,mapKey,hu,hw]
theorem Em.below {lo p mp:Nat} {own:List Nat} {w w':World} {s:ByteArray} {e:ES} {sv mv bv pv ov:Value} {rows:List (Value × Value)} (h:Em lo p mp own w s e sv mv bv pv ov rows) (hb:Below w.heap.size w w'):Em lo p mp own w' s e sv mv bv pv ov rows:=by
 have hrow:∀ v,v∈allV mv bv pv ov rows→∀ b,v.ownBlock=some b→w'.heap[b]?=w.heap[b]?:=fun v hv b hx=>hb.block b (h.ownlt b (h.inown v hv b hx).1)
 have hoff:∀ b,b < w.heap.size→b ∉ own→w'.heap[b]?=w.heap[b]?∧b ∉ own:=fun b hl ho=>⟨hb.block b hl,ho⟩
 have hrows:∀ i (h2:i < rows.length),(rows[i].1∈rows.flatMap fun r=>[r.1,r.2])∧(rows[i].2∈rows.flatMap fun r=>[r.1,r.2]):=fun i h2=>
  ⟨List.mem_flatMap.2 ⟨rows[i],List.getElem_mem h2,by simp⟩,List.mem_flatMap.2 ⟨rows[i],List.getElem_mem h2,by simp⟩⟩
 have hin:∀ v,v∈(rows.flatMap fun r=>[r.1,r.2])→v∈allV mv bv pv ov rows:=fun v hv=>by unfold allV;simp only [Ael];exact .inr (.inr (.inr (.inr hv)))
 refine ⟨h.blk.below hb h.blk.lt,h.lop,h.lom,?_,Aa h.mks (hrow mv (by simp [allV])),h.bn.keep hb.size (hrow bv (by simp [allV])) hoff,h.pn.keep hb.size (hrow pv (by simp [allV])) hoff,Aa h.on (hrow ov (by simp [allV])),h.ol,fun i h1 h2=>?_,h.cl.same (hb.block mp (h.ownlt mp h.mown)),h.apart,h.inown,h.pown,h.mown,h.pm,fun b hx=>Aef (h.ownlt b hx) hb.size,h.ok⟩
 ·obtain ⟨a,c,e1,e2,e3⟩:=h.sg;refine ⟨a,c,e1,e2,fun h0=>?_⟩;obtain ⟨g,rfl,hg,hgl,hc⟩:=e3 h0;exact ⟨g,rfl,hg,Aef hgl hb.size,fun i hi=>(hb.cell (p:=⟨g,i,none⟩) hgl).trans (hc i hi)⟩
 ·obtain ⟨o1,o2⟩:=h.orow i h1 h2;exact ⟨o1.keep hb.size (hrow _ (hin _ (hrows i h2).1)) hoff,o2.keep hb.size (hrow _ (hin _ (hrows i h2).2)) hoff⟩
theorem Em.low {lo p mp:Nat} {own:List Nat} {w w':World} {s:ByteArray} {e:ES} {sv mv bv pv ov v:Value} {rows:List (Value × Value)} (h:Em lo p mp own w s e sv mv bv pv ov rows) (hv:∀ g,v.ownBlock=some g→lo≤g∧g < w.heap.size) (hT:Touch p v w w'):Below lo w w':=
 ⟨hT.os,hT.tape,hT.output,hT.size,fun k hk=>hT.block k (Nat.lt_trans (Aef hk h.lop) h.blk.lt) (fun x=>by have:=h.lop;omega) (fun x=>by have:=(hv k x).1;omega)⟩
def CN (lo p mp:Nat) (w:World) (s:ByteArray) (e:ES):Prop:=∃ own sv mv bv pv ov rows,Em lo p mp own w s e sv mv bv pv ov rows
theorem Em.goto {lo p mp:Nat} {own:List Nat} {w:World} {s:ByteArray} {e:ES} {sv mv bv pv ov:Value} {rows:List (Value × Value)} (h:Em lo p mp own w s e sv mv bv pv ov rows) (j:Nat) (hok:EOk s.data.toList { e with pos:=j }):Em lo p mp own (w.setCell ⟨p,2,none⟩ (.int .i64 (j:Int))) s { e with pos:=j } sv mv bv pv ov rows:=by
 have hsz:(w.setCell ⟨p,2,none⟩ (.int .i64 (j:Int))).heap.size=w.heap.size:=by simp [World.setCell]
 have hfar:∀ b,b≠p→(w.setCell ⟨p,2,none⟩ (.int .i64 (j:Int))).heap[b]?=w.heap[b]?:=fun b hb=>Aei _ _ _ _ (fun x=>hb x)
 have hrow:∀ v,v∈allV mv bv pv ov rows→∀ b,v.ownBlock=some b→(w.setCell ⟨p,2,none⟩ (.int .i64 (j:Int))).heap[b]?=w.heap[b]?:=fun v hv b hx=>hfar b (h.inown v hv b hx).2.1
 have hoff:∀ b,b < w.heap.size→b ∉ own→(w.setCell ⟨p,2,none⟩ (.int .i64 (j:Int))).heap[b]?=w.heap[b]?∧b ∉ own:=fun b _ ho=>⟨hfar b (fun x=>ho (x▸h.pown)),ho⟩
 have hrows:∀ i (h2:i < rows.length),(rows[i].1∈rows.flatMap fun r=>[r.1,r.2])∧(rows[i].2∈rows.flatMap fun r=>[r.1,r.2]):=fun i h2=>
  ⟨List.mem_flatMap.2 ⟨rows[i],List.getElem_mem h2,by simp⟩,List.mem_flatMap.2 ⟨rows[i],List.getElem_mem h2,by simp⟩⟩
 have hin:∀ v,v∈(rows.flatMap fun r=>[r.1,r.2])→v∈allV mv bv pv ov rows:=fun v hv=>by unfold allV;simp only [Ael];exact .inr (.inr (.inr (.inr hv)))
 have hsl:w.heap.size≤(w.setCell ⟨p,2,none⟩ (.int .i64 (j:Int))).heap.size:=Nat.le_of_eq hsz.symm;refine ⟨h.blk.set 2 _,h.lop,h.lom,?_,Aa h.mks (hrow mv (by simp [allV])),h.bn.keep hsl (hrow bv (by simp [allV])) hoff,h.pn.keep hsl (hrow pv (by simp [allV])) hoff,Aa h.on (hrow ov (by simp [allV])),h.ol,fun i h1 h2=>?_,h.cl.same (hfar mp (fun x=>h.pm x.symm)),h.apart,h.inown,h.pown,h.mown,h.pm,fun b hx=>by rw [hsz];exact h.ownlt b hx,hok⟩
 ·obtain ⟨a,c,e1,e2,e3⟩:=h.sg;refine ⟨a,c,e1,e2,fun h0=>?_⟩;obtain ⟨g,rfl,hg,hgl,hc⟩:=e3 h0;exact ⟨g,rfl,hg,by rw [hsz];exact hgl,fun i hi=>(Aek (w:=w) (a:=⟨g,i,none⟩) (hfar g (fun x=>hg (x▸h.pown)))).trans (hc i hi)⟩
 ·obtain ⟨o1,o2⟩:=h.orow i h1 h2;exact ⟨o1.keep hsl (hrow _ (hin _ (hrows i h2).1)) hoff,o2.keep hsl (hrow _ (hin _ (hrows i h2).2)) hoff⟩
theorem TE (lo p mp:Nat) (own:List Nat) (w:World) (s:ByteArray) (e:ES) (sv mv bv pv ov:Value) (rows:List (Value × Value)) (h:Em lo p mp own w s e sv mv bv pv ov rows) (k:Nat) (d:Int) (hd:0≤d∧d≤255) (hc:e.closed.contains d=false) :
  Calls Tryz.prog 149 #[.pointer (some ⟨p,0,none⟩),.int .i64 (k:Int),.int .i64 d] w fun x w'=>x=.returned (.tuple #[.int .i64 (k:Int),.int .i64 9])∧Below w.heap.size w w':=by
 obtain ⟨n,D,hn,hown,hk⟩:=h.cl;have hkd:=(hk d).trans hc;have k10:w.cell? ⟨p,10,none⟩=some (.map (some mp)):=(h.blk.cell 10).trans rfl;have hkey:=Qu d hd.1 hd.2;have hlb:=Ad5 hkd;clear h hk hc hkd;go_enter Tryz.func149,Tryz.ntmps149;go_wp2_with (at_lookup;refine wpList_lookup_own_ok _ rfl _ _ 206 rfl 3 104 (Go.Maps.int_keyed Tryz.underlying3) Tryz.underlying206 unitElem (z:=.agg #[]) (by rfl) (.agg []) [] unitElem_mk mp n D rfl hown _ _ rfl hkey ?_;intro v ps hv;obtain ⟨rfl,_⟩:=unitElem_inv hv;rw [hlb.out])
 go_ret2
 exact ⟨rfl,(Aeh _ _).alloc (Aec _) _⟩
theorem WB (lo p mp:Nat) (own:List Nat) (w:World) (s:ByteArray) (e:ES) (sv mv bv pv ov:Value) (rows:List (Value × Value)) (h:Em lo p mp own w s e sv mv bv pv ov rows) (k c:Nat) (d:Int) (hd:0≤d∧d≤255) (hs:s.size≤250) (hk:e.pos=k+2) (h92:byt s.data.toList k=92) (hbc:byt s.data.toList (k+1)=c) (hc1:c < 128) (hc:e.closed.contains d=true)
  (hok1:EOk s.data.toList { e with marks:=e.marks++[(k,c)] }) (hok2:EOk s.data.toList (({ e with marks:=e.marks++[(k,c)] }:ES).at ({ e with marks:=e.marks++[(k,c)] }:ES).st (e.inner.pcs++[.back d]))) :
  Calls Tryz.prog 149 #[.pointer (some ⟨p,0,none⟩),.int .i64 (k:Int),.int .i64 d] w fun x w'=>x=.returned (.tuple #[.int .i64 0,.int .i64 0])∧CN lo p mp w' s (({ e with marks:=e.marks++[(k,c)] }:ES).at ({ e with marks:=e.marks++[(k,c)] }:ES).st (e.inner.pcs++[.back d]))∧Below lo w w':=by
 obtain ⟨n,D,hn,hown,hkk⟩:=h.cl;have hkd:=(hkk d).trans hc;have k10:w.cell? ⟨p,10,none⟩=some (.map (some mp)):=(h.blk.cell 10).trans rfl;have hkey:=Qu d hd.1 hd.2;have hlb:=Ad5 hkd;have h1:=h.below ((Aeh w.heap.size w).alloc (Aec _) (.cells #[] 104));have hps:k+2≤s.size:=by have:=h.ok.pos;rw [hk] at this;simpa using this
 obtain ⟨sa,sc,rfl,e2,e3⟩:=h1.sg;obtain ⟨g,rfl,hg,hgl,hcell⟩:=e3 (by omega);have hml:e.marks.length≤1000:=by have:=h.ok.marks;omega
 have hmk:=I1 lo p g s.size sc k e.pos c _ _ _ _ _ _ _ _ mv e.marks _ h1.lop h1.blk h1.mks (fun hx=>(h1.inown mv (by simp [allV]) p hx).2.1 rfl) hk (by omega) e2 (by rw [hcell k (by omega),h92];rfl) (by rw [hcell (k+1) (by omega),hbc]) hc1 hml;have HB0:=Ad5 (((Aeh w.heap.size w).alloc (Aec _) (.cells #[] 104)).mono (Aed h.lop (Aeg h.blk.lt)));have H1:=Ad5 h1;have HK1:=Ad5 hok1;have HK2:=Ad5 hok2;have HPL:=Ad5 (show e.inner.pcs.length≤1000 by have:=h.ok.inner.2.2.1;have:=h.ok.pos;simp at this;omega);clear h hkk hkd hc h1 e3 hcell hok1 hok2 h92 hbc hml;go_enter Tryz.func149,Tryz.ntmps149;go_wp2_with (at_lookup;refine wpList_lookup_own_ok _ rfl _ _ 206 rfl 3 104 (Go.Maps.int_keyed Tryz.underlying3) Tryz.underlying206 unitElem (z:=.agg #[]) (by rfl) (.agg []) [] unitElem_mk mp n D rfl hown _ _ rfl hkey ?_;intro v ps hv;obtain ⟨rfl,_⟩:=unitElem_inv hv;rw [hlb.out])
 refine hmk.mono ?_;rintro x w2 ⟨mv',rfl,hm2,hB2,hT2,hF2⟩;have hE2:=Em.marked (q:=(k,c)) H1.out hT2 hF2 rfl hm2 hB2 HK1.out;have hadd:=Ov lo p (ownB mv'++own) _ _ _ _ _ _ bv pv _ _ _ e.inner.pcs (.back d) (.iface 117 (.agg #[.int .i64 d])) w2 hE2.lop hE2.blk hE2.pn (fun hx=>(hE2.inown pv (by simp [allV]) p hx).2.1 rfl) hE2.pown (fun q hq=>(hE2.inown pv (by simp [allV]) q hq).1) ⟨1,rfl⟩ rfl HPL.out;have HB2:=Ad5 (HB0.out.trans (H1.out.low H1.out.mks.lt hT2));have HE2:=Ad5 hE2;clear hmk hm2 hB2 hT2 hF2 hE2;go_wp2_with fail
 refine hadd.mono ?_;rintro x w3 ⟨pv',rfl,hN3,hB3,hT3,hF3⟩;have hE3:=Em.pieces (l:=e.inner.pcs++[.back d]) HE2.out hT3 hF3 rfl hN3 hB3 HK2.out;have HB3:=Ad5 (HB2.out.trans (HE2.out.low HE2.out.pn.lt hT3));clear hadd hN3 hB3 hT3 hF3;go_wp2_with fail
 go_ret2
 exact ⟨rfl,⟨_,_,_,_,_,_,_,hE3⟩,HB3.out⟩
theorem KS {w:World} {B:Nat} {e:TypeId} {size n k c:Nat} {a:Option Addr} {xs:List Value} (h:w.ownsRow B e size (.slice a n c) n xs) (hk:k≤n) (h0:0 < n):w.ownsRow B e size (.slice a k c) k (xs.take (k * size)):=by
 have hm:k * size≤n * size:=Nat.mul_le_mul_right _ hk;refine ⟨by rw [List.length_take,h.1];omega,?_⟩;rcases h.2 with ⟨_,h1⟩ | ⟨g,cap,cur,hv,hb,hh,hn,hmx,hs,ht⟩
 ·omega
 ·injection hv with h1 h2 h3;subst h1 h3;exact .inr ⟨g,c,cur,rfl,hb,hh,by omega,hmx,hs,by rw [←ht,List.take_take];congr 1;omega⟩
theorem MapAt.put {w':World} {b:Nat} {cl:List Int} {n:Nat} {D:DataW Unit} {d:DataW Unit} {num:Int} (hn:n≤cl.length) (hD:Go.Maps.IsMap D) (hk:∀ k:Int,Maps.has D (.int .i64 k)=cl.contains k) (h:w'.ownsMap Tryz.prog 3 unitElem b (n+1) (D.put (.int .i64 num) d)):MapAt w' b (cl++[num]):=by
 refine ⟨n+1,_,by rw [Aee];simpa using hn,h,fun k=>?_⟩;by_cases hkn:k=num
 ·subst hkn;rw [Maps.has_put_same hD (by simp [WideAt.IsKeyLit])];simp
 ·rw [Maps.has_put_other (by intro h;injection h with _ h;exact hkn h),hk k];simp [List.contains_eq_mem,Aem,hkn]
theorem Em.popped {lo p mp:Nat} {own own':List Nat} {w w':World} {s:ByteArray} {e:ES} {sv mv bv bv' pv rb rp:Value} {oa:Option Addr} {oc n:Nat} {rows R:List (Value × Value)} {L:List Lv} {v:Lv} {cl:List Int}
  (h:Em lo p mp own w s e sv mv bv pv (.slice oa n oc) rows) (hL:e.outer=L++[v]) (hR:rows=R++[(rb,rp)]) (hsz:w.heap.size≤w'.heap.size)
  (hsame:∀ b,b < w.heap.size→b≠p→b≠mp→bv.ownBlock≠some b→w'.heap[b]?=w.heap[b]?)
  (hnew:bv'.ownBlock=bv.ownBlock∨∃ g,w.heap.size≤g∧g < w'.heap.size∧bv'.ownBlock=some g) (ho:own'=ownB bv'++own)
  (hB:Blk w' p (EC (.string s) sv (.int .i64 (e.pos:Int)) mv (.int .i64 (v.op:Int)) (.int .i64 (v.num:Int)) rb rp (.slice oa L.length oc) (.int .i64 (e.groups:Int)) (.map (some mp))) 211)
  (hcl:MapAt w' mp cl) (hok:EOk s.data.toList { e with closed:=cl,outer:=L,inner:=v }):Em lo p mp own' w' s { e with closed:=cl,outer:=L,inner:=v } sv mv rb rp (.slice oa L.length oc) R:=by
 have hin:∀ v∈allV mv bv pv (.slice oa n oc) rows,∀ b,v.ownBlock=some b→b∈own∧b≠p∧b≠mp:=h.inown;have hbin:∀ b,bv.ownBlock=some b→b∈own∧b≠p∧b≠mp:=fun b hb=>hin bv (by simp [allV]) b hb
 have hlt:∀ b∈own,b < w.heap.size:=h.ownlt;have hoff:∀ b,b < w.heap.size→b ∉ own→w'.heap[b]?=w.heap[b]?∧b ∉ own':=fun b hb hbo=>by
  refine ⟨hsame b hb (fun e=>hbo (e▸h.pown)) (fun e=>hbo (e▸h.mown)) (fun e=>hbo (hbin b e).1),?_⟩;rw [ho,Aem,not_or];refine ⟨fun e=>?_,hbo⟩;rw [AS] at e;rcases hnew with h2 | ⟨g,hg,_,h2⟩
  ·exact hbo (hbin b (h2.symm.trans e)).1
  ·rw [h2] at e;injection e with e;omega
 have hap:=h.apart;have hol:=h.ol;rw [hL,hR,Aee,Aee] at hol;have hRL:R.length=L.length:=by simpa using hol
 have hon:=h.on;have hn:n=L.length+1:=by
  have h1:=Ba hon;obtain ⟨_,_,h1⟩:=h1;injection h1 with _ h1 _;rw [h1,hL,Aee];rfl
 subst hR;unfold allV at hap;simp only [List.pairwise_cons] at hap;obtain ⟨a1,a2,a3,a4,a5⟩:=hap;have hfm:(R++[(rb,rp)]).flatMap (fun r=>[r.1,r.2])=(R.flatMap fun r=>[r.1,r.2])++[rb,rp]:=by rw [List.flatMap_append];simp
 rw [hfm] at a1 a2 a3 a4 a5;have hmem:∀ u,(u=mv∨u=.slice oa n oc∨u∈(R.flatMap fun r=>[r.1,r.2])++[rb,rp])→u∈allV mv bv pv (.slice oa n oc) (R++[(rb,rp)]):=fun u hu=>by
  unfold allV;rw [hfm];simp only [Ael];rcases hu with rfl | rfl | hu
  ·exact .inl rfl
  ·exact .inr (.inr (.inr (.inl rfl)))
  ·exact .inr (.inr (.inr (.inr hu)))
 have hrow:∀ u,(u=mv∨u=.slice oa n oc∨u∈(R.flatMap fun r=>[r.1,r.2])++[rb,rp])→∀ b,u.ownBlock=some b→w'.heap[b]?=w.heap[b]?:=fun u hu b hb=>by
  obtain ⟨e1,e2,e3⟩:=hin u (hmem u hu) b hb;refine hsame b (hlt b e1) e2 e3 (fun hp=>?_);rcases hu with rfl | rfl | hu
  ·exact a1 bv (by simp) b hb hp
  ·exact a2 _ (by simp) b hp hb
  ·exact a2 u (by simp only [Ael];exact .inr (.inr hu)) b hp hb
 have hrbm:rb∈(R.flatMap fun r=>[r.1,r.2])++[rb,rp]:=by simp
 have hrpm:rp∈(R.flatMap fun r=>[r.1,r.2])++[rb,rp]:=by simp
 have hrows:∀ i (h2:i < R.length),(R[i].1∈(R.flatMap fun r=>[r.1,r.2])++[rb,rp])∧(R[i].2∈(R.flatMap fun r=>[r.1,r.2])++[rb,rp]):=fun i h2=>
  ⟨List.mem_append_left _ (List.mem_flatMap.2 ⟨R[i],List.getElem_mem h2,by simp⟩),List.mem_append_left _ (List.mem_flatMap.2 ⟨R[i],List.getElem_mem h2,by simp⟩)⟩
 have hlv:∀ (L:List Lv) (R:List (Value × Value)),R.length=L.length→(levC L R).length=L.length * 4:=fun L R hl=>by
  unfold levC;rw [List.length_flatMap];have:((L.zip R).map fun a=>[Value.int .i64 (a.1.op:Int),.int .i64 (a.1.num:Int),a.2.1,a.2.2].length)=List.replicate (L.zip R).length 4:=by
   rw [List.eq_replicate_iff];refine ⟨by simp,fun b hb=>?_⟩;obtain ⟨x,_,rfl⟩:=List.mem_map.1 hb;rfl
  rw [this];simp [hl]
 have hz:levC (L++[v]) (R++[(rb,rp)])=levC L R++[.int .i64 (v.op:Int),.int .i64 (v.num:Int),rb,rp]:=by
  unfold levC;rw [List.zip_append (by omega),List.flatMap_append];simp
 have hlast:NR lo own w v.brs rb∧NR lo own w v.pcs rp:=by
  have:=h.orow L.length (by rw [hL];simp) (by simp;omega);have e1:(R++[(rb,rp)])[L.length]'(by simp;omega)=(rb,rp):=by rw [List.getElem_append_right (by omega)];simp [hRL]
  have e2:e.outer[L.length]'(by rw [hL];simp)=v:=by simp [hL]
  rw [e1,e2] at this;exact this
 refine ⟨hB,h.lop,h.lom,?_,Aa h.mks (hrow mv (.inl rfl)),hlast.1.keep hsz (hrow rb (.inr (.inr hrbm))) hoff,hlast.2.keep hsz (hrow rp (.inr (.inr hrpm))) hoff,?_,hRL,?_,hcl,?_,?_,?_,?_,h.pm,?_,hok⟩
 ·obtain ⟨a,c,e1,e2,e3⟩:=h.sg;refine ⟨a,c,e1,e2,fun h0=>?_⟩;obtain ⟨g,rfl,hg,hgl,hc⟩:=e3 h0;exact ⟨g,rfl,(hoff g hgl hg).2,Aef hgl hsz,fun i hi=>(Aek (w:=w) (a:=⟨g,i,none⟩) (hoff g hgl hg).1).trans (hc i hi)⟩
 ·have h1:=Aa hon (hrow _ (.inr (.inl rfl)));rw [hL] at h1;have hl2:(L++[v]).length=n:=by rw [hn];simp
  rw [hl2] at h1;have h2:=KS (k:=L.length) h1 (by omega) (by omega);rw [hz,List.take_append_of_le_length (by rw [hlv L R hRL];exact Aec _),List.take_of_length_le (by rw [hlv L R hRL];exact Aec _)] at h2;exact h2
 ·intro i h1 h2;have h1':i < L.length:=h1;obtain ⟨o1,o2⟩:=h.orow i (by rw [hL];simp;omega) (by simp;omega);have e1:(R++[(rb,rp)])[i]'(by simp;omega)=R[i]:=List.getElem_append_left h2;have e2:e.outer[i]'(by rw [hL];simp;omega)=L[i]:=by simp [hL,List.getElem_append_left h1']
  rw [e1,e2] at o1 o2;exact ⟨o1.keep hsz (hrow _ (.inr (.inr (hrows i h2).1))) hoff,o2.keep hsz (hrow _ (.inr (.inr (hrows i h2).2))) hoff⟩
 ·have hob:∀ b,(Value.slice oa L.length oc).ownBlock=some b→(Value.slice oa n oc).ownBlock=some b:=fun b hb=>by cases oa <;> exact hb
  rw [List.pairwise_append] at a5;obtain ⟨b1,b2,b3⟩:=a5;simp only [List.pairwise_cons] at b2;unfold allV;simp only [List.pairwise_cons];refine ⟨fun u hu=>?_,fun u hu=>?_,fun u hu=>?_,fun u hu=>?_,b1⟩
  ·simp only [Ael] at hu;rcases hu with rfl | rfl | rfl | hu
   ·exact a1 u (by simp)
   ·exact a1 u (by simp)
   ·exact fun b hb hp=>a1 (.slice oa n oc) (by simp) b hb (hob b hp)
   ·exact a1 u (by simp only [Ael,Aem];exact .inr (.inr (.inr (.inl hu))))
  ·simp only [Ael] at hu;rcases hu with rfl | rfl | hu
   ·exact b2.1 u (by simp)
   ·exact fun b hb hp=>a4 rb (by simp) b (hob b hp) hb
   ·exact fun b hb hp=>b3 u hu rb (by simp) b hp hb
  ·simp only [Ael] at hu;rcases hu with rfl | hu
   ·exact fun b hb hp=>a4 rp (by simp) b (hob b hp) hb
   ·exact fun b hb hp=>b3 u hu rp (by simp) b hp hb
  ·exact fun b hb hp=>a4 u (List.mem_append_left _ hu) b (hob b hb) hp
 ·have hob:∀ b,(Value.slice oa L.length oc).ownBlock=some b→(Value.slice oa n oc).ownBlock=some b:=fun b hb=>by cases oa <;> exact hb
  intro u hu b hb;unfold allV at hu;simp only [Ael] at hu;have hold:∀ u,(u=mv∨u=.slice oa n oc∨u∈(R.flatMap fun r=>[r.1,r.2])++[rb,rp])→u.ownBlock=some b→b∈own'∧b≠p∧b≠mp:=fun u hm hb=>by
   obtain ⟨e1,e2,e3⟩:=hin u (hmem u hm) b hb;exact ⟨by rw [ho];exact List.mem_append_right _ e1,e2,e3⟩
  rcases hu with rfl | rfl | rfl | rfl | hu
  ·exact hold u (.inl rfl) hb
  ·exact hold u (.inr (.inr hrbm)) hb
  ·exact hold u (.inr (.inr hrpm)) hb
  ·exact hold _ (.inr (.inl rfl)) (hob b hb)
  ·exact hold u (.inr (.inr (List.mem_append_left _ hu))) hb
 ·rw [ho];exact List.mem_append_right _ h.pown
 ·rw [ho];exact List.mem_append_right _ h.mown
 ·intro b hb;rw [ho] at hb;rcases Aem.1 hb with hb | hb
  ·rw [AS] at hb;rcases hnew with h2 | ⟨g,_,hg,h2⟩
   ·exact Aef (hlt b (hbin b (h2.symm.trans hb)).1) hsz
   ·rw [h2] at hb;injection hb with hb;omega
  ·exact Aef (hlt b hb) hsz
theorem TF {F:Nat→Prop} {w:World} {d:Nd} {u:Value} {num:Int} (h:NdX F w d u):NdX F w (.group num d) (.iface 103 (.agg #[.int .i64 num,u])):=by
 obtain ⟨n,h⟩:=h;exact ⟨n+1,u,rfl,h⟩
def AU (lo p mp:Nat) (s:ByteArray) (w:World) (x:Ending) (w':World):Except (Nat × Nat) ES→Prop
 | .error q=>Below lo w w'∧x=.returned (.tuple #[.int .i64 (q.2:Int),.int .i64 (q.1:Int)])
 | .ok e'=>Below lo w w'∧x=.returned (.tuple #[.int .i64 0,.int .i64 0])∧CN lo p mp w' s e'
theorem Ay {lo p mp:Nat} {s:ByteArray} {w w':World} {R:Except (Nat × Nat) ES} {e':ES} (hR:R=.ok e') (hb:Below lo w w') (h:CN lo p mp w' s e'):AU lo p mp s w (.returned (.tuple #[.int .i64 0,.int .i64 0])) w' R:=by subst hR;exact ⟨hb,rfl,h⟩
theorem A9 {lo p mp:Nat} {s:ByteArray} {w w':World} {R:Except (Nat × Nat) ES} {n k:Nat} (hR:R=.error (n,k)) (hb:Below lo w w'):AU lo p mp s w (.returned (.tuple #[.int .i64 (k:Int),.int .i64 (n:Int)])) w' R:=by subst hR;exact ⟨hb,rfl⟩
theorem EA {lo p mp:Nat} {own:List Nat} {w:World} {s:ByteArray} {e:ES} {sv mv bv pv ov:Value} {rows:List (Value × Value)} (h:Em lo p mp own w s e sv mv bv pv ov rows) (d:Nd) (u:Value) (hu:NdX (fun b=>lo≤b∧b ∉ own) w d u) (hu1:u.oneCell'=true) (hs:s.size≤250) (hok:EOk s.data.toList (e.at e.st (e.inner.pcs++[d]))) :
  Calls Tryz.prog 133 #[.pointer (some ⟨p,4,none⟩),u] w fun x w'=>x=.returned (.tuple #[])∧CN lo p mp w' s (e.at e.st (e.inner.pcs++[d]))∧Below lo w w':=by
 have hpl:e.inner.pcs.length≤1000:=by have:=h.ok.inner.2.2.1;have:=h.ok.pos;simp at this;omega
 refine (Ov lo p own _ _ _ _ _ _ bv pv _ _ _ e.inner.pcs d u w h.lop h.blk h.pn (fun hx=>(h.inown pv (by simp [allV]) p hx).2.1 rfl) h.pown (fun q hq=>(h.inown pv (by simp [allV]) q hq).1) hu hu1 hpl).mono ?_;rintro x w3 ⟨pv',rfl,hN3,hB3,hT3,hF3⟩;exact ⟨rfl,⟨_,_,_,_,_,_,_,Em.pieces (l:=e.inner.pcs++[d]) h hT3 hF3 rfl hN3 hB3 hok⟩,h.low h.pn.lt hT3⟩
theorem Gm {lo p mp:Nat} {own:List Nat} {w:World} {s:ByteArray} {e:ES} {sv mv bv pv ov:Value} {rows:List (Value × Value)} (h:Em lo p mp own w s e sv mv bv pv ov rows) (mn mx:Int) (h0:0 < e.inner.pcs.length) (hs:s.size≤250) (hok:EOk s.data.toList (e.at e.st (e.inner.pcs.dropLast++[.rep (e.inner.pcs.getLastD .empty) mn mx]))) :
  Calls Tryz.prog 146 #[.pointer (some ⟨p,4,none⟩),.int .i64 mn,.int .i64 mx] w fun x w'=>x=.returned (.tuple #[])∧CN lo p mp w' s (e.at e.st (e.inner.pcs.dropLast++[.rep (e.inner.pcs.getLastD .empty) mn mx]))∧Below lo w w':=by
 have hpl:e.inner.pcs.length≤1000:=by have:=h.ok.inner.2.2.1;have:=h.ok.pos;simp at this;omega
 refine (Ox lo p own _ _ _ _ _ _ bv pv _ _ _ e.inner.pcs mn mx w h.blk h.pn (fun hx=>(h.inown pv (by simp [allV]) p hx).2.1 rfl) h.pown (fun q hq=>(h.inown pv (by simp [allV]) q hq).1) h0 hpl).mono ?_;rintro x w3 ⟨rfl,hN3,hB3,hT3⟩;have hown:∀ b,b∈ownB pv++own ↔ b∈own:=fun b=>by
  rw [Aem,AS];exact ⟨fun x=>x.elim (fun x=>(h.inown pv (by simp [allV]) b x).1) id,.inr⟩
 have hN4:NR lo (ownB pv++own) w3 (e.inner.pcs.dropLast++[.rep (e.inner.pcs.getLastD .empty) mn mx]) pv:=hN3.keep (Aec _) (fun _ _=>rfl) (fun b _ hb=>⟨rfl,fun x=>hb ((hown b).1 x)⟩);exact ⟨rfl,⟨_,_,_,_,_,_,_,Em.pieces h hT3 (.inl rfl) rfl hN4 hB3 hok⟩,h.low h.pn.lt hT3⟩
theorem MV (lo p mp:Nat) (w:World) (s:ByteArray) (e:ES) (h:CN lo p mp w s e) (hG:Gl w) (hs:s.size≤250) (t:OSet) (j er:Nat) (hr:Fz s.data.toList (e.pos:Int)=(t,(j:Int),er))
  (hok1:er=0→EOk s.data.toList { e with pos:=j }) (hok2:er=0→EOk s.data.toList (({ e with pos:=j }:ES).at ({ e with pos:=j }:ES).st (e.inner.pcs++[.one t]))) :
  Calls Tryz.prog 135 #[.pointer (some ⟨p,0,none⟩)] w fun x w'=>AU lo p mp s w x w' (if er=0 then .ok (({ e with pos:=j }:ES).at ({ e with pos:=j }:ES).st (e.inner.pcs++[.one t])) else .error (er,j)):=by
 obtain ⟨R,hR⟩:∃ R:Except (Nat × Nat) ES,R=if er=0 then .ok (({ e with pos:=j }:ES).at ({ e with pos:=j }:ES).st (e.inner.pcs++[.one t])) else .error (er,j):=⟨_,rfl⟩
 rw [←hR];have HR:=Ad5 hR;clear hR;obtain ⟨own,sv,mv,bv,pv,ov,rows,h⟩:=h;have k0:w.cell? ⟨p,0,none⟩=some (.string s):=(h.blk.cell 0).trans rfl;have k2:w.cell? ⟨p,2,none⟩=some (.int .i64 (e.pos:Int)):=(h.blk.cell 2).trans rfl;have hpa:=fun (w:World) (hG:Gl w)=>L2 s (e.pos:Int) w (by omega) hG
 rw [hr,show KM (t,(j:Int),er)=.tuple #[.agg #[.int .u64 (ow t 0),.int .u64 (ow t 1),.int .u64 (ow t 2),.int .u64 (ow t 3)],.int .i64 (j:Int),.int .i64 (er:Int)] from rfl] at hpa;have HH:=Ad5 h;have HK1:=Ad5 hok1;have HK2:=Ad5 hok2;have hplt:=h.blk.lt;have HLo:=Ad5 (Aed h.lop (Aeg hplt));clear h hr hok1 hok2;go_enter Tryz.func135,Tryz.ntmps135;go_upto_region 1 with fail;go_cut [4,5,6] (fun s4 s5 s6 wx=>∃ a:Nat,s4=.pointer (some ⟨a,0,none⟩)∧s5=.int .i64 (j:Int)∧s6=.int .i64 (er:Int)∧AtSet w a t wx)
 case first=>
  go_region_with (go_at_call 148;refine (hpa _ (hG.up (by repeat (first | (with_reducible exact Aeh _ _) | refine Below.drew ?_ | refine below_drewN ?_ _ | refine Below.alloc ?_ (by first | omega | (simp;omega) | simp) _)))).mono ?_;rintro x w' ⟨rfl,hbX⟩;have hbQ:Below w.heap.size w w':=Below.trans (by repeat (first | (with_reducible exact Aeh _ _) | refine Below.drew ?_ | refine below_drewN ?_ _ | refine Below.alloc ?_ (by first | omega | (simp;omega) | simp) _)) (hbX.mono (by simp));(try (have hPz:=((Blk.new w #[.int .u64 0,.int .u64 0,.int .u64 0,.int .u64 0] 109 w.heap.size rfl).drew).below hbX (by simp);obtain ⟨y0,y1,y2,y3,x0,x1,x2,x3,xl⟩:=C9 hPz)))
  all_goals go_wp2_with fail
  all_goals go_meet
  all_goals first
   | exact ⟨_,rfl,rfl,rfl,⟨hbQ.alloc hbQ.size _,Blk.new _ _ _ _ rfl,hbQ.size⟩⟩
   | exact ⟨_,rfl,rfl,rfl,⟨(((hbQ.setCell (p:=⟨w.heap.size,0,none⟩) (Aec _) _).setCell (p:=⟨w.heap.size,1,none⟩) (Aec _) _).setCell (p:=⟨w.heap.size,2,none⟩) (Aec _) _).setCell (p:=⟨w.heap.size,3,none⟩) (Aec _) _,(((hPz.set 0 _).set 1 _).set 2 _).set 3 _,Aec _⟩⟩
 case rest=>
  obtain ⟨a,rfl,rfl,rfl,hA⟩:=hcut;by_cases her:er=0
  ·have HF:=Ad5 (HR.out.trans (if_pos her));subst her;have hE1:=HH.out.below hA.b;have hne:p≠a:=fun x=>by have:=hA.lo;omega
   have hne2:a≠p:=fun x=>hne x.symm
   have f2:=hE1.blk.frozen 2;have g2:wc.cell? ⟨p,2,none⟩=some (.int .i64 (e.pos:Int)):=(hE1.blk.cell 2).trans rfl;have hE3:=hE1.goto j (HK1.out rfl);have hT3:=hA.s.set_other ⟨p,2,none⟩ (fun x=>hne x) (.int .i64 (j:Int));have HL3:=Ad5 ((hA.b.mono HLo.out).trans ((Aeh lo wc).setCell (p:=⟨p,2,none⟩) HH.out.lop (.int .i64 (j:Int))));obtain ⟨W3,hW3⟩:∃ W3,W3=wc.setCell ⟨p,2,none⟩ (.int .i64 (j:Int)):=⟨_,rfl⟩;rw [←hW3] at hE3 hT3 HL3;obtain ⟨y0,y1,y2,y3,_,_,_,_,_⟩:=C9 hT3;have hadd:=fun (w':World) (hb:Below W3.heap.size W3 w')=>EA (hE3.below hb) (.one t) (.iface 111 (.agg #[.int .u64 (ow t 0),.int .u64 (ow t 1),.int .u64 (ow t 2),.int .u64 (ow t 3)])) ⟨1,rfl⟩ rfl hs (HK2.out rfl)
   have HAdd:=Ad5 hadd;have hpl2:=hE1.blk.lt;clear hpa k0 k2 hE1 hT3 hE3 hA hadd;go_wp2_with fail
   rw [←hW3];clear hW3;go_upto_region 5 with fail
   go_region_law (first
    | (refine Bs rfl _ _ _ rfl 133 _ rfl (by rfl) (enters_of Tryz.func133 (by kernel_rfl) rfl) (HAdd.out _ (by first | exact Aeh _ _ | exact Below.drew (Aeh _ _))) ?_;rintro x w4 ⟨rfl,hx4,hb4⟩;refine ⟨_,rfl,?_⟩;have HX4:=Ad5 hx4;have HB4:Hid (Below lo W3 w4):=Ad5 (by first | exact hb4 | exact (Below.drew (Aeh _ _)).trans hb4);clear hx4 hb4))
   all_goals go_wp2_with fail
   all_goals go_ret2
   all_goals exact Ay HF.out (HL3.out.trans HB4.out) HX4.out
  ·have e9:((er:Int) != 0)=true:=by simp;omega
   have hlow:=hA.b.mono HLo.out;have HF:=Ad5 (HR.out.trans (if_neg her));clear hpa k0 k2 hA;go_wp2_with fail
   go_ret2
   exact A9 HF.out hlow
def AD (s:List UInt8) (e:ES) (k:Nat):Except (Nat × Nat) ES:=if A0 e.inner.pcs then .error (10,k) else match repAt true s k with
  | .some mn mx _ j=>.ok (e.at (e.st.to j) (e.inner.pcs.dropLast++[.rep (e.inner.pcs.getLastD .empty) mn mx]))
  | _=>.error (7,k)
theorem EW {l:List Nd} (h:A0 l=false):0 < l.length:=by
 cases l with
 | nil=>cases h
 | cons x xs=>simp
theorem Km {W w1 w2:World} {p:Nat} {s:ByteArray} {k:Nat} (hb:Below w1.heap.size w1 w2) (hp:p < W.heap.size) (h:w1.cell? ⟨p,0,none⟩=some (.string s)∧w1.cell? ⟨p,2,none⟩=some (.int .i64 (k:Int))∧Below W.heap.size W w1):w2.cell? ⟨p,0,none⟩=some (.string s)∧w2.cell? ⟨p,2,none⟩=some (.int .i64 (k:Int))∧Below W.heap.size W w2:=
 ⟨(hb.cell (p:=⟨p,0,none⟩) (Aef hp h.2.2.size)).trans h.1,(hb.cell (p:=⟨p,2,none⟩) (Aef hp h.2.2.size)).trans h.2.1,h.2.2.trans (hb.mono h.2.2.size)⟩
theorem Kn {W w1:World} {p:Nat} {s:ByteArray} {k:Nat} (h:w1.cell? ⟨p,0,none⟩=some (.string s)∧w1.cell? ⟨p,2,none⟩=some (.int .i64 (k:Int))∧Below W.heap.size W w1):w1.drew.cell? ⟨p,0,none⟩=some (.string s)∧w1.drew.cell? ⟨p,2,none⟩=some (.int .i64 (k:Int))∧Below W.heap.size W w1.drew:=
 ⟨h.1,h.2.1,h.2.2.drew⟩
theorem Fp {s:List UInt8} {k c:Nat} (hl:k < s.length) (h:byt s k=c):chAt s k c=true:=by unfold chAt;simp [hl,h]
theorem Fq (lo p mp:Nat) (w:World) (s:ByteArray) (e:ES) (k:Nat) (h:CN lo p mp w s e) (hs:s.size≤250) (hf:A0 e.inner.pcs=true):Calls Tryz.prog 134 #[.pointer (some ⟨p,0,none⟩),.int .i64 (k:Int)] w fun x w'=>AU lo p mp s w x w' (AD s.data.toList e k):=by
 obtain ⟨own,sv,mv,bv,pv,ov,rows,h⟩:=h;have hpl:e.inner.pcs.length≤1000:=by have:=h.ok.inner.2.2.1;have:=h.ok.pos;simp at this;omega
 have hfr:=Dw lo p own _ _ _ _ _ _ bv pv _ _ _ e.inner.pcs w h.blk h.pn hpl;rw [hf] at hfr;have HO:=Ad5 (show AD s.data.toList e k=.error (10,k) by unfold AD;rw [hf];rfl);have hlo:=Aed h.lop (Aeg h.blk.lt);clear h hf hpl;go_enter Tryz.func134,Tryz.ntmps134;go_wp2_with fail
 refine hfr.mono ?_;rintro x w1 ⟨rfl,b1⟩;clear hfr;go_wp2_with fail
 go_ret2
 exact A9 HO.out (b1.mono hlo)
theorem TG (lo p mp:Nat) (w:World) (s:ByteArray) (e:ES) (k:Nat) (h:CN lo p mp w s e) (hs:s.size≤250) (hk:e.pos=k+1) (hf:A0 e.inner.pcs=false) (hb:byt s.data.toList k=42) (hok:EOk s.data.toList (e.at e.st (e.inner.pcs.dropLast++[.rep (e.inner.pcs.getLastD .empty) 0 (-1)]))):Calls Tryz.prog 134 #[.pointer (some ⟨p,0,none⟩),.int .i64 (k:Int)] w fun x w'=>AU lo p mp s w x w' (AD s.data.toList e k):=by
 have hkl:k < s.data.toList.length:=by obtain ⟨own,sv,mv,bv,pv,ov,rows,h⟩:=h;have:=h.ok.pos;omega
 have hrep:repAt true s.data.toList k=.some 0 (-1) 0 (k+1):=by unfold repAt;rw [Fp hkl hb];rfl
 have HO:=Ad5 (show AD s.data.toList e k=.ok (e.at e.st (e.inner.pcs.dropLast++[.rep (e.inner.pcs.getLastD .empty) 0 (-1)])) by unfold AD;rw [hf,hrep];show Except.ok (e.at (e.st.to (k+1)) _)=_;rw [←hk];rfl);clear hrep hkl;obtain ⟨own,sv,mv,bv,pv,ov,rows,h⟩:=h;have hpl:e.inner.pcs.length≤1000:=(by have:=h.ok.inner.2.2.1;have:=h.ok.pos;simp at this;omega);have hks:k < s.size:=(by have:=h.ok.pos;simp at this;omega);have hfr:=Dw lo p own _ _ _ _ _ _ bv pv _ _ _ e.inner.pcs w h.blk h.pn hpl;rw [hf] at hfr;have HP:=Ad5 (EW hf);have HH:=Ad5 h;have HLo:=Ad5 (Aed h.lop (Aeg h.blk.lt));have HK:=Ad5 hk;clear h hf hpl hk;go_enter Tryz.func134,Tryz.ntmps134;go_wp2_with fail
 refine hfr.mono ?_;rintro x w1 ⟨rfl,b1⟩;have h1:=HH.out.below b1;have HB1:=Ad5 (b1.mono HLo.out);have HS1:=Ad5 b1.size;obtain ⟨sa,sc,rfl,e2,e3⟩:=h1.sg;obtain ⟨g,rfl,hg,hgl,hcell⟩:=e3 (by omega);have kc:=hcell k hks;have k1:w1.cell? ⟨p,1,none⟩=some (.slice (some ⟨g,0,none⟩) s.size sc):=(h1.blk.cell 1).trans rfl;have i1:(k:Int) < (s.size:Int):=(by omega);have H1:=Ad5 h1;clear hfr b1 h1 e3 hcell;rw [hb] at kc;have hrp:=Gm H1.out 0 (-1) HP.out hs hok;clear hb hok;go_wp2_with fail
 refine hrp.mono ?_;rintro x w2 ⟨rfl,hx2,b2⟩;have HX2:=Ad5 hx2;clear hrp hx2;go_wp2_with fail
 go_ret2
 exact Ay HO.out (HB1.out.trans b2) HX2.out
theorem TH (lo p mp:Nat) (w:World) (s:ByteArray) (e:ES) (k:Nat) (h:CN lo p mp w s e) (hs:s.size≤250) (hk:e.pos=k+1) (hf:A0 e.inner.pcs=false) (hb:byt s.data.toList k=43) (hok:EOk s.data.toList (e.at e.st (e.inner.pcs.dropLast++[.rep (e.inner.pcs.getLastD .empty) 1 (-1)]))):Calls Tryz.prog 134 #[.pointer (some ⟨p,0,none⟩),.int .i64 (k:Int)] w fun x w'=>AU lo p mp s w x w' (AD s.data.toList e k):=by
 have hkl:k < s.data.toList.length:=by obtain ⟨own,sv,mv,bv,pv,ov,rows,h⟩:=h;have:=h.ok.pos;omega
 have hrep:repAt true s.data.toList k=.some 1 (-1) 0 (k+1):=by unfold repAt;rw [BD (b:=42) (by rw [hb];decide)];simp only [A2,if_true,Bool.false_eq_true,if_false];rw [Fp hkl hb];rfl
 have HO:=Ad5 (show AD s.data.toList e k=.ok (e.at e.st (e.inner.pcs.dropLast++[.rep (e.inner.pcs.getLastD .empty) 1 (-1)])) by unfold AD;rw [hf,hrep];show Except.ok (e.at (e.st.to (k+1)) _)=_;rw [←hk];rfl);clear hrep hkl;obtain ⟨own,sv,mv,bv,pv,ov,rows,h⟩:=h;have hpl:e.inner.pcs.length≤1000:=(by have:=h.ok.inner.2.2.1;have:=h.ok.pos;simp at this;omega);have hks:k < s.size:=(by have:=h.ok.pos;simp at this;omega);have hfr:=Dw lo p own _ _ _ _ _ _ bv pv _ _ _ e.inner.pcs w h.blk h.pn hpl;rw [hf] at hfr;have HP:=Ad5 (EW hf);have HH:=Ad5 h;have HLo:=Ad5 (Aed h.lop (Aeg h.blk.lt));have HK:=Ad5 hk;clear h hf hpl hk;go_enter Tryz.func134,Tryz.ntmps134;go_wp2_with fail
 refine hfr.mono ?_;rintro x w1 ⟨rfl,b1⟩;have h1:=HH.out.below b1;have HB1:=Ad5 (b1.mono HLo.out);have HS1:=Ad5 b1.size;obtain ⟨sa,sc,rfl,e2,e3⟩:=h1.sg;obtain ⟨g,rfl,hg,hgl,hcell⟩:=e3 (by omega);have kc:=hcell k hks;have k1:w1.cell? ⟨p,1,none⟩=some (.slice (some ⟨g,0,none⟩) s.size sc):=(h1.blk.cell 1).trans rfl;have i1:(k:Int) < (s.size:Int):=(by omega);have H1:=Ad5 h1;clear hfr b1 h1 e3 hcell;rw [hb] at kc;have hrp:=Gm H1.out 1 (-1) HP.out hs hok;clear hb hok;go_wp2_with fail
 refine hrp.mono ?_;rintro x w2 ⟨rfl,hx2,b2⟩;have HX2:=Ad5 hx2;clear hrp hx2;go_wp2_with fail
 go_ret2
 exact Ay HO.out (HB1.out.trans b2) HX2.out
theorem WC (lo p mp:Nat) (w:World) (s:ByteArray) (e:ES) (k:Nat) (h:CN lo p mp w s e) (hs:s.size≤250) (hk:e.pos=k+1) (hf:A0 e.inner.pcs=false) (hb:byt s.data.toList k=63) (hok:EOk s.data.toList (e.at e.st (e.inner.pcs.dropLast++[.rep (e.inner.pcs.getLastD .empty) 0 1]))):Calls Tryz.prog 134 #[.pointer (some ⟨p,0,none⟩),.int .i64 (k:Int)] w fun x w'=>AU lo p mp s w x w' (AD s.data.toList e k):=by
 have hkl:k < s.data.toList.length:=by obtain ⟨own,sv,mv,bv,pv,ov,rows,h⟩:=h;have:=h.ok.pos;omega
 have hrep:repAt true s.data.toList k=.some 0 1 0 (k+1):=by unfold repAt;rw [BD (b:=42) (by rw [hb];decide)];simp only [A2,if_true,Bool.false_eq_true,if_false];rw [BD (b:=43) (by rw [hb];decide)];simp only [Bool.false_eq_true,if_false];rw [Fp hkl hb];rfl
 have HO:=Ad5 (show AD s.data.toList e k=.ok (e.at e.st (e.inner.pcs.dropLast++[.rep (e.inner.pcs.getLastD .empty) 0 1])) by unfold AD;rw [hf,hrep];show Except.ok (e.at (e.st.to (k+1)) _)=_;rw [←hk];rfl);clear hrep hkl;obtain ⟨own,sv,mv,bv,pv,ov,rows,h⟩:=h;have hpl:e.inner.pcs.length≤1000:=(by have:=h.ok.inner.2.2.1;have:=h.ok.pos;simp at this;omega);have hks:k < s.size:=(by have:=h.ok.pos;simp at this;omega);have hfr:=Dw lo p own _ _ _ _ _ _ bv pv _ _ _ e.inner.pcs w h.blk h.pn hpl;rw [hf] at hfr;have HP:=Ad5 (EW hf);have HH:=Ad5 h;have HLo:=Ad5 (Aed h.lop (Aeg h.blk.lt));have HK:=Ad5 hk;clear h hf hpl hk;go_enter Tryz.func134,Tryz.ntmps134;go_wp2_with fail
 refine hfr.mono ?_;rintro x w1 ⟨rfl,b1⟩;have h1:=HH.out.below b1;have HB1:=Ad5 (b1.mono HLo.out);have HS1:=Ad5 b1.size;obtain ⟨sa,sc,rfl,e2,e3⟩:=h1.sg;obtain ⟨g,rfl,hg,hgl,hcell⟩:=e3 (by omega);have kc:=hcell k hks;have k1:w1.cell? ⟨p,1,none⟩=some (.slice (some ⟨g,0,none⟩) s.size sc):=(h1.blk.cell 1).trans rfl;have i1:(k:Int) < (s.size:Int):=(by omega);have H1:=Ad5 h1;clear hfr b1 h1 e3 hcell;rw [hb] at kc;have hrp:=Gm H1.out 0 1 HP.out hs hok;clear hb hok;go_wp2_with fail
 refine hrp.mono ?_;rintro x w2 ⟨rfl,hx2,b2⟩;have HX2:=Ad5 hx2;clear hrp hx2;go_wp2_with fail
 go_ret2
 exact Ay HO.out (HB1.out.trans b2) HX2.out
theorem TI {s:List UInt8} {k:Nat} (hl:k < s.length) (hb:byt s k=123):repAt true s k=(match (Lk (CJ true) (s.drop (k+1))).map fun q=>(q.1,q.2.1,k+1+q.2.2) with
  | Option.none=>.bad
  | Option.some (m,n,j)=>.some m n 0 j):=by
 unfold repAt;rw [BD (b:=42) (by rw [hb];decide)];simp only [A2,if_true,Bool.false_eq_true,if_false];rw [BD (b:=43) (by rw [hb];decide),BD (b:=63) (by rw [hb];decide)];simp only [Bool.false_eq_true,if_false];rw [Fp hl hb];simp only [if_true];rw [GW];rfl
theorem Acd (s:ByteArray) (k:Nat):(s.extract k s.size).data.toList=s.data.toList.drop k:=by
 rw [ByteArray.data_extract,Array.toList_extract];simp only [List.extract_eq_take_drop];rw [List.take_of_length_le (by simp)]
theorem Qv (lo p mp:Nat) (w:World) (s:ByteArray) (e:ES) (k:Nat) (h:CN lo p mp w s e) (hs:s.size≤250) (hk:e.pos=k+1) (hf:A0 e.inner.pcs=false) (hb:byt s.data.toList k=123) (hok1:∀ m n j,repAt true s.data.toList k=.some m n 0 j→EOk s.data.toList { e with pos:=j }) (hok:∀ m n j,repAt true s.data.toList k=.some m n 0 j→EOk s.data.toList (e.at (e.st.to j) (e.inner.pcs.dropLast++[.rep (e.inner.pcs.getLastD .empty) m n]))):Calls Tryz.prog 134 #[.pointer (some ⟨p,0,none⟩),.int .i64 (k:Int)] w fun x w'=>AU lo p mp s w x w' (AD s.data.toList e k):=by
 have hkl:k < s.data.toList.length:=by obtain ⟨own,sv,mv,bv,pv,ov,rows,h⟩:=h;have:=h.ok.pos;omega
 have hrep:=TI hkl hb;have HO:AD s.data.toList e k=(match repAt true s.data.toList k with
  | .some mn mx _ j=>.ok (e.at (e.st.to j) (e.inner.pcs.dropLast++[.rep (e.inner.pcs.getLastD .empty) mn mx]))
  | _=>.error (7,k)):=by unfold AD;rw [hf];rfl
 have g5:=fun w=>Ly (s.extract (k+1) s.size) ⟨#[125]⟩ w (by rw [ET];omega) (by simp)
 rw [Acd,show (ByteArray.mk #[125]).data.toList=CJ true from rfl] at g5;have hsl:s.data.toList.length=s.size:=by simp
 have Hcl:=Ad5 (show CJ true≠[] by simp [CJ]);cases hiv:Lk (CJ true) (s.data.toList.drop (k+1)) with
 | none=>
  rw [hiv] at hrep g5;rw [hrep] at HO;replace HO:=Ad5 (show AD s.data.toList e k=.error (7,k) from HO);rw [show JW none=.returned (.tuple #[.int .i64 0,.int .i64 0,.int .i64 0,.bool false]) from rfl] at g5;clear hiv hrep hok hok1 hkl hsl;obtain ⟨own,sv,mv,bv,pv,ov,rows,h⟩:=h;have hpl:e.inner.pcs.length≤1000:=(by have:=h.ok.inner.2.2.1;have:=h.ok.pos;simp at this;omega);have hks:k < s.size:=(by have:=h.ok.pos;simp at this;omega);have hfr:=Dw lo p own _ _ _ _ _ _ bv pv _ _ _ e.inner.pcs w h.blk h.pn hpl;rw [hf] at hfr;have HP:=Ad5 (EW hf);have HH:=Ad5 h;have HLo:=Ad5 (Aed h.lop (Aeg h.blk.lt));have HK:=Ad5 hk;clear h hf hpl hk;have hlen2:((k+1:Nat):Int)≤(s.size:Int):=by omega
  go_enter Tryz.func134,Tryz.ntmps134;go_wp2_with fail
  refine hfr.mono ?_;rintro x w1 ⟨rfl,b1⟩;have h1:=HH.out.below b1;have HB1:=Ad5 (b1.mono HLo.out);have HS1:=Ad5 b1.size;obtain ⟨sa,sc,rfl,e2,e3⟩:=h1.sg;obtain ⟨g,rfl,hg,hgl,hcell⟩:=e3 (by omega);have kc:=hcell k hks;have k1:w1.cell? ⟨p,1,none⟩=some (.slice (some ⟨g,0,none⟩) s.size sc):=(h1.blk.cell 1).trans rfl;have i1:(k:Int) < (s.size:Int):=(by omega);have H1:=Ad5 h1;clear hfr b1 h1 e3 hcell;have q0:w1.cell? ⟨p,0,none⟩=some (.string s):=(H1.out.blk.cell 0).trans rfl;have q2:w1.cell? ⟨p,2,none⟩=some (.int .i64 ((k+1:Nat):Int)):=by rw [←HK.out];exact (H1.out.blk.cell 2).trans rfl
  have hall:=And.intro q0 (And.intro q2 (Aeh w1.heap.size w1));have hp1:=H1.out.blk.lt;rw [hb] at kc;clear hb;go_upto_region 11 with fail;generalize k+1=k2 at *
  go_region_held3 (fun w'=>w'.cell? ⟨p,0,none⟩=some (.string s)∧w'.cell? ⟨p,2,none⟩=some (.int .i64 (k2:Int))∧Below w1.heap.size w1 w')
   (first | (with_reducible exact hall) | (with_reducible exact Km hbX hp1 (by assumption)) | (with_reducible exact Kn (by assumption)))
   (first | (go_at_call 147;refine (g5 _).mono ?_;rintro e w' ⟨rfl,hbX⟩))
  clear hall
  go_split_ands
  rename_i w5 _ _ hX;go_wp2_with fail
  go_ret2
  exact A9 HO.out (HB1.out.trans (hX.mono (Aed HLo.out HS1.out)))
 | some q=>
  rw [hiv] at hrep g5;rw [hrep] at HO;replace HO:=Ad5 (show AD s.data.toList e k=.ok (e.at (e.st.to (k+1+q.2.2)) (e.inner.pcs.dropLast++[.rep (e.inner.pcs.getLastD .empty) q.1 q.2.1])) from HO);rw [show JW (some q)=.returned (.tuple #[.int .i64 q.1,.int .i64 q.2.1,.int .i64 (q.2.2:Int),.bool true]) from rfl] at g5;have HK1:=Ad5 (hok1 q.1 q.2.1 (k+1+q.2.2) hrep);have HK2:=Ad5 (hok q.1 q.2.1 (k+1+q.2.2) hrep);have hql:=VG _ _ _ Hcl.out hiv;rw [List.length_drop] at hql;have Wn:IntKind.i64.wrap (((k+1:Nat):Int)+(q.2.2:Int))=((k+1+q.2.2:Nat):Int):=by rw [Aej _ (by omega)];omega
  clear hiv hrep hok hok1 hkl hsl hql;generalize q.1=qa at *;generalize q.2.1=qb at *;generalize q.2.2=qc at *;obtain ⟨own,sv,mv,bv,pv,ov,rows,h⟩:=h;have hpl:e.inner.pcs.length≤1000:=(by have:=h.ok.inner.2.2.1;have:=h.ok.pos;simp at this;omega);have hks:k < s.size:=(by have:=h.ok.pos;simp at this;omega);have hfr:=Dw lo p own _ _ _ _ _ _ bv pv _ _ _ e.inner.pcs w h.blk h.pn hpl;rw [hf] at hfr;have HP:=Ad5 (EW hf);have HH:=Ad5 h;have HLo:=Ad5 (Aed h.lop (Aeg h.blk.lt));have HK:=Ad5 hk;clear h hf hpl hk;have hlen2:((k+1:Nat):Int)≤(s.size:Int):=by omega
  go_enter Tryz.func134,Tryz.ntmps134;go_wp2_with fail
  refine hfr.mono ?_;rintro x w1 ⟨rfl,b1⟩;have h1:=HH.out.below b1;have HB1:=Ad5 (b1.mono HLo.out);have HS1:=Ad5 b1.size;obtain ⟨sa,sc,rfl,e2,e3⟩:=h1.sg;obtain ⟨g,rfl,hg,hgl,hcell⟩:=e3 (by omega);have kc:=hcell k hks;have k1:w1.cell? ⟨p,1,none⟩=some (.slice (some ⟨g,0,none⟩) s.size sc):=(h1.blk.cell 1).trans rfl;have i1:(k:Int) < (s.size:Int):=(by omega);have H1:=Ad5 h1;clear hfr b1 h1 e3 hcell;have q0:w1.cell? ⟨p,0,none⟩=some (.string s):=(H1.out.blk.cell 0).trans rfl;have q2:w1.cell? ⟨p,2,none⟩=some (.int .i64 ((k+1:Nat):Int)):=by rw [←HK.out];exact (H1.out.blk.cell 2).trans rfl
  have hall:=And.intro q0 (And.intro q2 (Aeh w1.heap.size w1));have hp1:=H1.out.blk.lt;rw [hb] at kc;clear hb;go_upto_region 11 with fail;generalize k+1=k2 at *
  go_region_held3 (fun w'=>w'.cell? ⟨p,0,none⟩=some (.string s)∧w'.cell? ⟨p,2,none⟩=some (.int .i64 (k2:Int))∧Below w1.heap.size w1 w')
   (first | (with_reducible exact hall) | (with_reducible exact Km hbX hp1 (by assumption)) | (with_reducible exact Kn (by assumption)))
   (first | (go_at_call 147;refine (g5 _).mono ?_;rintro e w' ⟨rfl,hbX⟩))
  clear hall
  go_split_ands
  rename_i hX;have h5:=H1.out.below hX;have hz2:=h5.blk.frozen 2;have hE3:=h5.goto (k2+qc) HK1.out;have HB3:=Ad5 ((HB1.out.trans (hX.mono (Aed HLo.out HS1.out))).trans ((Aeh lo _).setCell (p:=⟨p,2,none⟩) HH.out.lop (.int .i64 ((k2+qc:Nat):Int))));have hrp:=Gm hE3 qa qb HP.out hs HK2.out;have hp5:=h5.blk.lt;clear h5 hE3 q0 q2 k1 kc;go_wp2_with fail
  refine hrp.mono ?_;rintro x w6 ⟨rfl,hx6,b6⟩;have HX6:=Ad5 hx6;clear hrp hx6;go_wp2_with fail
  go_ret2
  exact Ay HO.out (HB3.out.trans b6) HX6.out
def CC (e:ES) (k:Nat):Except (Nat × Nat) ES:=match e.outer.getLast? with
 | none=>.error (8,k)
 | some v=>.ok { e with closed:=e.closed++[(e.inner.num:Int)],outer:=e.outer.dropLast,inner:={ v with pcs:=v.pcs++[.group (e.inner.num:Int) e.inner.whole] } }
theorem Oz (lo p mp:Nat) (w:World) (s:ByteArray) (e:ES) (h:CN lo p mp w s e) (k:Nat) (ho:e.outer=[]) :
  Calls Tryz.prog 132 #[.pointer (some ⟨p,0,none⟩),.int .i64 (k:Int)] w fun x w'=>AU lo p mp s w x w' (CC e k):=by
 obtain ⟨own,sv,mv,bv,pv,ov,rows,h⟩:=h;have HO:=Ad5 (show CC e k=.error (8,k) by unfold CC;rw [ho];rfl);obtain ⟨oa,oc,rfl⟩:=Ba h.on;have k8:w.cell? ⟨p,8,none⟩=some (.slice oa e.outer.length oc):=(h.blk.cell 8).trans rfl;rw [ho] at k8;clear h ho;go_enter Tryz.func132,Tryz.ntmps132;go_wp2_with fail
 go_ret2
 exact A9 HO.out (Aeh _ _)
theorem WD {w:World} {B:Nat} {L:List Lv} {R:List (Value × Value)} {oa:Option Addr} {oc:Nat} {v:Lv} {rb rp:Value} (h:w.ownsRow B 208 4 (.slice oa (L.length+1) oc) (L.length+1) (levC (L++[v]) (R++[(rb,rp)]))) (hRL:R.length=L.length) :
  ∃ g,oa=some ⟨g,0,none⟩∧L.length+1≤oc∧w.cell? ⟨g,L.length * 4,none⟩=some (.int .i64 (v.op:Int))∧w.cell? ⟨g,L.length * 4+1,none⟩=some (.int .i64 (v.num:Int))∧w.cell? ⟨g,L.length * 4+2,none⟩=some rb∧w.cell? ⟨g,L.length * 4+3,none⟩=some rp:=by
 have hlv:(levC L R).length=L.length * 4:=by
  unfold levC;rw [List.length_flatMap];have:((L.zip R).map fun a=>[Value.int .i64 (a.1.op:Int),.int .i64 (a.1.num:Int),a.2.1,a.2.2].length)=List.replicate (L.zip R).length 4:=by
   rw [List.eq_replicate_iff];refine ⟨by simp,fun b hb=>?_⟩;obtain ⟨x,_,rfl⟩:=List.mem_map.1 hb;rfl
  rw [this];simp [hRL]
 have hz:levC (L++[v]) (R++[(rb,rp)])=levC L R++[.int .i64 (v.op:Int),.int .i64 (v.num:Int),rb,rp]:=by
  unfold levC;rw [List.zip_append (by omega),List.flatMap_append];simp
 rw [hz] at h;rcases h.2 with ⟨_,h1⟩ | ⟨g,cap,cur,hv,hb,hh,hn,hmx,hs,ht⟩
 ·omega
 ·injection hv with h1 h2 h3;subst h1 h3;have hc:∀ j u,j < 4→[Value.int .i64 (v.op:Int),.int .i64 (v.num:Int),rb,rp][j]?=some u→w.cell? ⟨g,L.length * 4+j,none⟩=some u:=fun j u hj hu=>by
   have h3:w.cell? ⟨g,L.length * 4+j,none⟩=cur[L.length * 4+j]?:=by simp [World.cell?,hh]
   have h5:(cur.toList.take ((L.length+1) * 4))[L.length * 4+j]?=cur.toList[L.length * 4+j]?:=List.getElem?_take_of_lt (by omega);rw [h3,←Array.getElem?_toList,←h5,ht,List.getElem?_append_right (by omega),hlv];rw [show L.length * 4+j - L.length * 4=j by omega];exact hu
  exact ⟨g,rfl,hn,hc 0 _ (by omega) rfl,hc 1 _ (by omega) rfl,hc 2 _ (by omega) rfl,hc 3 _ (by omega) rfl⟩
structure AtWhole (lo p:Nat) (own:List Nat) (w:World) (C:Value→Array Value) (bv:Value) (num:Int) (d:Nd) (a:Nat) (v bv':Value) (wx:World):Prop where
 x:NdX (fun b=>lo≤b∧b ∉ ownB bv'++own) wx d v
 b:Blk wx p (C bv') 211
 t:Touch p bv w wx
 r:bv'.ownBlock=bv.ownBlock∨∃ g,w.heap.size≤g∧g < wx.heap.size∧bv'.ownBlock=some g
 k:Blk wx a #[.int .i64 num,v] 103
 lo:w.heap.size≤a
theorem Blk.touch {w w':World} {p b:Nat} {v:Value} {cs:Array Value} {T:TypeId} (h:Blk w b cs T) (hT:Touch p v w w') (hp:b≠p) (hv:v.ownBlock≠some b):Blk w' b cs T:=by
 have hlt:=h.lt;unfold Blk at h ⊢;rw [hT.block b hlt hp hv];exact h
theorem MW {w:World} {a:Nat} {x y:Value} {T:TypeId} (h:Blk w a #[x,y] T):w.cell? ⟨a,0,none⟩=some x∧w.cell? ⟨a,1,none⟩=some y∧w.frozen? ⟨a,0,none⟩=false∧w.frozen? ⟨a,1,none⟩=false∧a < w.heap.size:=
 ⟨(h.cell 0).trans rfl,(h.cell 1).trans rfl,h.frozen 0,h.frozen 1,h.lt⟩
theorem KT (w:World) (o:Obj):w.heap.size < (w.alloc o).drew.heap.size:=by show w.heap.size < (w.alloc o).heap.size;simp
theorem Touch.of_below {p:Nat} {v:Value} {w w':World} (h:Below w.heap.size w w'):Touch p v w w':=⟨h.os,h.tape,h.output,h.size,fun b hb _ _=>h.block b hb⟩
theorem O0 {lo p:Nat} {own:List Nat} {w W w':World} {C:Value→Array Value} {bv bv' v':Value} {num:Int} {d:Nd} (hW:Below w.heap.size w W) (hx:NdX (fun b=>lo≤b∧b ∉ ownB bv'++own) w' d v') (hb:Blk w' p (C bv') 211) (ht:Touch p bv W w') (hr:bv'.ownBlock=bv.ownBlock∨∃ g,W.heap.size≤g∧g < w'.heap.size∧bv'.ownBlock=some g) :
  AtWhole lo p own w C bv num d w'.heap.size v' bv' (w'.alloc (.cells #[.int .i64 num,v'] 103)):=by
 have hA:=(Aeh w'.heap.size w').alloc (Aec _) (.cells #[.int .i64 num,v'] 103);exact ⟨NdX.below hA hx,hb.alloc _,((Touch.of_below hW).trans ⟨ht.os,ht.tape,ht.output,ht.size,ht.block⟩).trans (Touch.of_below hA),hr.imp id (fun ⟨g,h1,h2,h3⟩=>⟨g,Aed hW.size h1,Aef h2 hA.size,h3⟩),Blk.new _ _ _ _ rfl,Aed hW.size ht.size⟩
theorem O1 {lo p:Nat} {own:List Nat} {w W w':World} {C:Value→Array Value} {bv bv' v':Value} {num:Int} {d:Nd} (hW:Below w.heap.size w W) (hx:NdX (fun b=>lo≤b∧b ∉ ownB bv'++(w.heap.size :: own)) w' d v') (hb:Blk w' p (C bv') 211) (ht:Touch p bv W w') (hr:bv'.ownBlock=bv.ownBlock∨∃ g,W.heap.size≤g∧g < w'.heap.size∧bv'.ownBlock=some g)
  (hz:Blk w' w.heap.size #[.int .i64 0,.nilIface] 103) (hne:w.heap.size≠p) :
  AtWhole lo p own w C bv num d w.heap.size v' bv' ((w'.setCell ⟨w.heap.size,0,none⟩ (.int .i64 num)).setCell ⟨w.heap.size,1,none⟩ v'):=by
 have hsz:((w'.setCell ⟨w.heap.size,0,none⟩ (.int .i64 num)).setCell ⟨w.heap.size,1,none⟩ v').heap.size=w'.heap.size:=by simp [World.setCell]
 have hfar:∀ b,b≠w.heap.size→((w'.setCell ⟨w.heap.size,0,none⟩ (.int .i64 num)).setCell ⟨w.heap.size,1,none⟩ v').heap[b]?=w'.heap[b]?:=fun b hb=>(Aei _ _ _ _ (fun x=>hb x)).trans (Aei _ _ _ _ (fun x=>hb x))
 refine ⟨hx.keep (Nat.le_of_eq hsz.symm) (fun b hb _=>⟨⟨hb.1,fun x=>hb.2 ((Aem.1 x).elim (fun x=>List.mem_append_left _ x) (fun x=>List.mem_append_right _ (List.mem_cons_of_mem _ x)))⟩,fun o=>Aek (w:=w') (a:=⟨b,o,none⟩) (hfar b (fun x=>hb.2 (by rw [x];simp)))⟩),(hb.set_other ⟨w.heap.size,0,none⟩ hne _).set_other ⟨w.heap.size,1,none⟩ hne _,?_,hr.imp id (fun ⟨g,h1,h2,h3⟩=>⟨g,Aed hW.size h1,by rw [hsz];exact h2,h3⟩),(hz.set 0 _).set 1 _,Aec _⟩;have h1:=(Touch.of_below (p:=p) (v:=bv) hW).trans ht;exact ⟨h1.os,h1.tape,h1.output,by rw [hsz];exact h1.size,fun b hb e1 e2=>(hfar b (by omega)).trans (h1.block b hb e1 e2)⟩
theorem Qw (lo p mp:Nat) (w:World) (s:ByteArray) (e:ES) (h:CN lo p mp w s e) (k:Nat) (hs:s.size≤250) (L:List Lv) (v:Lv) (ho:e.outer=L++[v]) (hok1:EOk s.data.toList { e with closed:=e.closed++[(e.inner.num:Int)],outer:=L,inner:=v })
  (hok2:EOk s.data.toList { e with closed:=e.closed++[(e.inner.num:Int)],outer:=L,inner:={ v with pcs:=v.pcs++[.group (e.inner.num:Int) e.inner.whole] } }) (hj:(AI e.inner.pcs).length≤4000000) (hc:(AJ (e.inner.brs++[Bu e.inner.pcs])).length≤4000000) :
  Calls Tryz.prog 132 #[.pointer (some ⟨p,0,none⟩),.int .i64 (k:Int)] w fun x w'=>AU lo p mp s w x w' (CC e k):=by
 obtain ⟨own,sv,mv,bv,pv,ov,rows,h⟩:=h;have HO:=Ad5 (show CC e k=.ok { e with closed:=e.closed++[(e.inner.num:Int)],outer:=L,inner:={ v with pcs:=v.pcs++[.group (e.inner.num:Int) e.inner.whole] } } by unfold CC;rw [ho,List.getLast?_concat,List.dropLast_concat]);obtain ⟨oa,oc,rfl⟩:=Ba h.on;have hol:=h.ol;rw [ho,Aee,List.length_singleton] at hol;obtain ⟨R,⟨rb,rp⟩,hR⟩:∃ R x,rows=R++[x]:=⟨rows.dropLast,rows.getLast (fun x=>by rw [x] at hol;simp at hol),(List.dropLast_concat_getLast _).symm⟩;subst hR;have hRL:R.length=L.length:=by simpa using hol
 obtain ⟨n,hn⟩:∃ n,n=L.length:=⟨_,rfl⟩;obtain ⟨m,hm⟩:∃ m,m=e.outer.length:=⟨_,rfl⟩;have hmn:m=n+1:=by rw [hm,hn,ho];simp
 have hon:=h.on;rw [←hm] at hon;have hrl:∃ g,oa=some ⟨g,0,none⟩∧n+1≤oc∧w.cell? ⟨g,n * 4,none⟩=some (.int .i64 (v.op:Int))∧w.cell? ⟨g,n * 4+1,none⟩=some (.int .i64 (v.num:Int))∧w.cell? ⟨g,n * 4+2,none⟩=some rb∧w.cell? ⟨g,n * 4+3,none⟩=some rp:=by
  rw [hn];refine WD (B:=lo) (L:=L) (R:=R) ?_ hRL;rw [←ho,←hn,←hmn];exact hon
 obtain ⟨g,rfl,hoc,l0,l1,l2,l3⟩:=hrl;have h:=h;rw [←hm] at h;have hg:=h.inown (.slice (some ⟨g,0,none⟩) m oc) (by simp [allV]) g rfl;have hgl:=h.ownlt g hg.1;have hplt:=h.blk.lt;have k5:w.cell? ⟨p,5,none⟩=some (.int .i64 (e.inner.num:Int)):=(h.blk.cell 5).trans rfl;have k8:w.cell? ⟨p,8,none⟩=some (.slice (some ⟨g,0,none⟩) m oc):=(h.blk.cell 8).trans rfl;have Wl:IntKind.i64.wrap ((m:Int) - 1)=(n:Int):=by rw [Aej _ (by have:=h.ok.deep;omega)];omega
 have e0:decide ((n:Int) < 0)=false:=by first | (simp;done) | (simp;omega)
 have hbl:e.inner.brs.length≤1000:=by have:=h.ok.inner.2.2.2.1;have:=h.ok.pos;simp at this;omega
 have hW:=fun (w':World) (hb:Below w.heap.size w w')=>GG lo p own _ _ _ _ _ _ bv pv _ _ _ e.inner.brs e.inner.pcs w' h.lop (h.blk.below hb h.blk.lt) (h.below hb).bn (h.below hb).pn (fun hx=>(h.inown bv (by simp [allV]) p hx).2.1 rfl) h.pown (fun b hx=>Aef (h.ownlt b hx) hb.size) (fun q hq=>(h.inown bv (by simp [allV]) q hq).1) hbl hj hc
 have hW2:=fun (w':World) (hb:Below w.heap.size w w') (hlt:w.heap.size < w'.heap.size)=>GG lo p (w.heap.size :: own) _ _ _ _ _ _ bv pv _ _ _ e.inner.brs e.inner.pcs w' h.lop (h.blk.below hb h.blk.lt)
  (h.bn.keep hb.size (fun g hg=>hb.block g (h.bn.lt g hg).2) (fun b hb1 hb2=>⟨hb.block b hb1,fun x=>(Ael.1 x).elim (fun x=>absurd hb1 (by omega)) (fun x=>hb2 x)⟩)) (h.pn.keep hb.size (fun g hg=>hb.block g (h.pn.lt g hg).2) (fun b hb1 hb2=>⟨hb.block b hb1,fun x=>(Ael.1 x).elim (fun x=>absurd hb1 (by omega)) (fun x=>hb2 x)⟩)) (fun hx=>(h.inown bv (by simp [allV]) p hx).2.1 rfl) (List.mem_cons_of_mem _ h.pown)
  (fun b hx=>(Ael.1 hx).elim (fun x=>by omega) (fun x=>Aef (h.ownlt b x) hb.size)) (fun q hq=>List.mem_cons_of_mem _ (h.inown bv (by simp [allV]) q hq).1) hbl hj hc
 have hlast:NR lo own w v.brs rb∧NR lo own w v.pcs rp:=by
  have:=h.orow L.length (by rw [ho];simp) (by simp;omega);have e1:(R++[(rb,rp)])[L.length]'(by simp;omega)=(rb,rp):=by rw [List.getElem_append_right (by omega)];simp [hRL]
  have e2:e.outer[L.length]'(by rw [ho];simp)=v:=by simp [ho]
  rw [e1,e2] at this;exact this
 obtain ⟨rba,rbc,rfl⟩:=hlast.1.form;obtain ⟨rpa,rpc,rfl⟩:=hlast.2.form;have HW:=Ad5 hW;have HW2:=Ad5 hW2;have HH:=Ad5 h;have Hg:=Ad5 hg;have HOC:=Ad5 hoc;have HMN:=Ad5 hmn;have HN:=Ad5 hn;have HHO:=Ad5 ho;have HL:=Ad5 (And.intro l0 (And.intro l1 (And.intro l2 l3)));clear hW hW2 h hj hc hon hm l0 l1 l2 l3 hmn hn hol ho;have hne1:w.heap.size≠p:=by omega
 have hne2:bv.ownBlock≠some w.heap.size:=fun x=>by have:=HH.out.ownlt _ (HH.out.inown bv (by simp [allV]) _ x).1;omega
 go_enter Tryz.func132,Tryz.ntmps132;go_upto_region 4 with fail;go_cut [7] (fun s7 wx=>∃ a v' bv',s7=.pointer (some ⟨a,0,none⟩)∧AtWhole lo p own w (fun b=>EC (.string s) sv (.int .i64 (e.pos:Int)) mv (.int .i64 (e.inner.op:Int)) (.int .i64 (e.inner.num:Int)) b (.slice none 0 0) (.slice (some ⟨g,0,none⟩) m oc) (.int .i64 (e.groups:Int)) (.map (some mp))) bv (e.inner.num:Int) e.inner.whole a v' bv' wx)
 case first=>
  go_region_with (go_at_call 118;(first | refine (HW2.out _ (by repeat (first | (with_reducible exact Aeh _ _) | refine Below.drew ?_ | refine below_drewN ?_ _ | refine Below.alloc ?_ (by first | omega | (simp;omega) | simp) _)) (KT _ _)).mono ?_ | refine (HW.out _ (by repeat (first | (with_reducible exact Aeh _ _) | refine Below.drew ?_ | refine below_drewN ?_ _ | refine Below.alloc ?_ (by first | omega | (simp;omega) | simp) _))).mono ?_);rintro x w' ⟨v',bv',rfl,hx1,hB1,hT1,hr1⟩;have hpl1:=hB1.lt;have hp5:w'.cell? ⟨p,5,none⟩=some (.int .i64 (e.inner.num:Int)):=(hB1.cell 5).trans rfl;have hsh:=hx1.elim fun _ h=>Ax h;have hcl:v'.cells=#[v']:=(by rcases hsh with ⟨T,q,rfl⟩ | rfl <;> rfl);unfold Value.cells at hcl;have hv1:v'.oneCell'=true:=(by rcases hsh with ⟨T,q,rfl⟩ | rfl <;> rfl);have hst:=fun (W:World) (A:Addr) M=>run_store Tryz.prog W A v' M hv1;(try (have hPz:=Blk.touch ((Blk.new w #[.int .i64 0,.nilIface] 103 w.heap.size rfl).drew) hT1 hne1 hne2;obtain ⟨y0,y1,x0,x1,xl⟩:=MW hPz));have HX1:=Ad5 hx1;have HT1:=Ad5 hT1;have HR1:=Ad5 hr1;clear hx1 hsh hT1 hr1)
  all_goals go_wp2_with fail
  all_goals go_meet
  all_goals first
   | exact ⟨_,_,_,rfl,O0 (by repeat (first | (with_reducible exact Aeh _ _) | refine Below.drew ?_ | refine below_drewN ?_ _ | refine Below.alloc ?_ (by first | omega | (simp;omega) | simp) _)) HX1.out hB1 HT1.out HR1.out⟩
   | exact ⟨_,_,_,rfl,O1 (by repeat (first | (with_reducible exact Aeh _ _) | refine Below.drew ?_ | refine below_drewN ?_ _ | refine Below.alloc ?_ (by first | omega | (simp;omega) | simp) _)) HX1.out hB1 HT1.out HR1.out hPz hne1⟩
 case rest=>
  obtain ⟨a,v',bv',rfl,hA⟩:=hcut;obtain ⟨nn,D,hnn,hown,hkk⟩:=HH.out.cl;have hmp:=HH.out.mown;have hmlt:=HH.out.ownlt mp hmp;have hmbv:bv.ownBlock≠some mp:=fun x=>(HH.out.inown bv (by simp [allV]) mp x).2.2 rfl
  have hown2:wc.drew.ownsMap Tryz.prog 3 unitElem mp nn D:=by
   obtain ⟨es,clock,hb,r⟩:=hown;exact ⟨es,clock,(hA.t.block mp hmlt (fun x=>HH.out.pm x.symm) hmbv).trans hb,r⟩
  have hnum:(e.inner.num:Int)≤255:=by have:=HH.out.ok.inner.2.2.2.2;have:=HH.out.ok.pos;simp at this;omega
  have hkey:=Qu (e.inner.num:Int) (by omega) hnum;have hnlt:nn < maxLen:=by have:=HH.out.ok.closed;have:=HH.out.ok.pos;simp at this;unfold maxLen;omega
  have hA0:wc.cell? ⟨a,0,none⟩=some (.int .i64 (e.inner.num:Int)):=(MW hA.k).1;have hp10:wc.cell? ⟨p,10,none⟩=some (.map (some mp)):=(hA.b.cell 10).trans rfl;have HNN:=Ad5 hnn;have HKK:=Ad5 hkk;have HIM:=Ad5 (hown.isMap);clear hnn hkk hown k5 k8;go_upto_region 5 with fail
  go_still_tail 7,(by kernel_rfl)
  change wpList _ _ _ _ _ wc.drew
  go_wp2_with (at_mapUpdate;refine wpList_mapUpdate_in _ rfl _ _ _ 206 rfl 3 104 (Go.Maps.int_keyed Tryz.underlying3) Tryz.underlying206 unitElem mp nn D rfl hown2 hnlt _ _ (.int .i64 (e.inner.num:Int)) rfl rfl hkey (.agg []) [] unitElem_mk ?_;intro w3 hown3 hturn)
  have hgrow:=hturn.grown;have hgsz:=hgrow.size;have hB3:Blk w3 p (EC (.string s) sv (.int .i64 (e.pos:Int)) mv (.int .i64 (e.inner.op:Int)) (.int .i64 (e.inner.num:Int)) bv' (.slice none 0 0) (.slice (some ⟨g,0,none⟩) m oc) (.int .i64 (e.groups:Int)) (.map (some mp))) 211:=DS hA.b.drew hgrow (fun x=>HH.out.pm (Option.some.inj x).symm);have hK3:=DS hA.k.drew hgrow (fun x=>by have:=Option.some.inj x;have:=hA.lo;omega);have hgb:bv.ownBlock≠some g:=fun x=>by
   have hap:=HH.out.apart;unfold allV at hap;simp only [List.pairwise_cons] at hap;exact hap.2.1 (.slice (some ⟨g,0,none⟩) m oc) (by simp) g x rfl
  have hg3:w3.heap[g]?=w.heap[g]?:=(hgrow.block g (Aef hgl hA.t.size) (fun x=>Hg.out.2.2 (Option.some.inj x))).trans (hA.t.block g hgl Hg.out.2.1 hgb);have r0:w3.cell? ⟨g,n * 4,none⟩=some (.int .i64 (v.op:Int)):=(Aek (w:=w) (a:=⟨g,n * 4,none⟩) hg3).trans HL.out.1;have r1:w3.cell? ⟨g,n * 4+1,none⟩=some (.int .i64 (v.num:Int)):=(Aek (w:=w) (a:=⟨g,n * 4+1,none⟩) hg3).trans HL.out.2.1;have r2:w3.cell? ⟨g,n * 4+2,none⟩=some (.slice rba v.brs.length rbc):=(Aek (w:=w) (a:=⟨g,n * 4+2,none⟩) hg3).trans HL.out.2.2.1;have r3:w3.cell? ⟨g,n * 4+3,none⟩=some (.slice rpa v.pcs.length rpc):=(Aek (w:=w) (a:=⟨g,n * 4+3,none⟩) hg3).trans HL.out.2.2.2;have c8:w3.cell? ⟨p,8,none⟩=some (.slice (some ⟨g,0,none⟩) m oc):=(hB3.cell 8).trans rfl;have c4:w3.cell? ⟨p,4,none⟩=some (.int .i64 (e.inner.op:Int)):=(hB3.cell 4).trans rfl;have c5:w3.cell? ⟨p,5,none⟩=some (.int .i64 (e.inner.num:Int)):=(hB3.cell 5).trans rfl;have c6:w3.cell? ⟨p,6,none⟩=some bv':=(hB3.cell 6).trans rfl;have c7:w3.cell? ⟨p,7,none⟩=some (.slice none 0 0):=(hB3.cell 7).trans rfl;have f4:=hB3.frozen 4;have f5:=hB3.frozen 5;have f6:=hB3.frozen 6;have f7:=hB3.frozen 7;have f8:=hB3.frozen 8;have hp3:=hB3.lt;have i1:(n:Int) < (m:Int):=by have:=HMN.out;omega
  have i2:(n:Int)≤(oc:Int):=by have:=HOC.out;omega
  have i3:n≤oc:=by have:=HOC.out;omega
  have i4:¬ oc=0:=by have:=HOC.out;omega
  have hgp:g≠p:=Hg.out.2.1;have HB3:=Ad5 hB3;have HK3:=Ad5 hK3;have HA:=Ad5 hA;have HOWN3:=Ad5 hown3;have HG:=Ad5 hgrow;clear hB3 hK3 hA hown3 hgrow hturn hgsz hown2 hnlt hkey hA0 hp10 hg3 hgb;go_upto_region 6 with fail;obtain ⟨W8,hcut⟩:∃ W8,W8=(((((w3.setCell ⟨p,4,none⟩ (.int .i64 (v.op:Int))).setCell ⟨p,5,none⟩ (.int .i64 (v.num:Int))).setCell ⟨p,6,none⟩ (.slice rba v.brs.length rbc)).setCell ⟨p,7,none⟩ (.slice rpa v.pcs.length rpc)).setCell ⟨p,8,none⟩ (.slice (some ⟨g,0,none⟩) n oc)).drew:=⟨_,rfl⟩;have hB8:=(((((HB3.out.set 4 (.int .i64 (v.op:Int))).set 5 (.int .i64 (v.num:Int))).set 6 (.slice rba v.brs.length rbc)).set 7 (.slice rpa v.pcs.length rpc)).set 8 (.slice (some ⟨g,0,none⟩) n oc)).drew;have hfar:∀ b,b≠p→W8.heap[b]?=w3.heap[b]?:=fun b hb=>by
   rw [hcut];refine (Aei _ _ _ _ (fun x=>hb x)).trans ((Aei _ _ _ _ (fun x=>hb x)).trans ((Aei _ _ _ _ (fun x=>hb x)).trans ((Aei _ _ _ _ (fun x=>hb x)).trans (Aei _ _ _ _ (fun x=>hb x)))))
  have hsz8:W8.heap.size=w3.heap.size:=by rw [hcut];simp [World.setCell,World.drew]
  have hos:W8.os=w3.os∧W8.tape=w3.tape∧W8.output=w3.output:=by rw [hcut];exact ⟨rfl,rfl,rfl⟩
  rw [←hcut] at hB8;have hs3:wc.heap.size≤w3.heap.size:=HG.out.size;have hs0:w.heap.size≤wc.heap.size:=HA.out.t.size;have hX8:Em lo p mp (ownB bv'++own) W8 s { e with closed:=e.closed++[(e.inner.num:Int)],outer:=L,inner:=v } sv mv (.slice rba v.brs.length rbc) (.slice rpa v.pcs.length rpc) (.slice (some ⟨g,0,none⟩) L.length oc) R:=by
   refine Em.popped (bv':=bv') HH.out HHO.out rfl (by omega) (fun b h1 h2 h3 h4=>?_) (HA.out.r.imp id (fun ⟨q,q1,q2,q3⟩=>⟨q,q1,by omega,q3⟩)) rfl (by rw [←HN.out];exact hB8) ((MapAt.put HNN.out HIM.out HKK.out HOWN3.out).same (hfar mp (fun x=>HH.out.pm x.symm))) hok1;exact (hfar b h2).trans ((HG.out.block b (show b < wc.heap.size by omega) (fun x=>h3 (Option.some.inj x))).trans (HA.out.t.block b h1 h2 h4))
  have hap:a≠p:=fun x=>by have:=HA.out.lo;have:=HH.out.blk.lt;omega
  have hK8:Blk W8 a #[.int .i64 (e.inner.num:Int),v'] 103:=by
   have:=HK3.out;unfold Blk at this ⊢;rw [hfar a hap];exact this
  obtain ⟨y0,y1,x0,x1,xl⟩:=MW hK8;have hL8:Below lo w W8:=⟨hos.1.trans (HG.out.os.trans HA.out.t.os),hos.2.1.trans (HG.out.tape.trans HA.out.t.tape),hos.2.2.trans (HG.out.output.trans HA.out.t.output),by omega,fun b hb=>by
   have hlp:=HH.out.lop;have hbm:b≠mp:=fun x=>by have:=HH.out.lom;omega
   exact (hfar b (by omega)).trans ((HG.out.block b (show b < wc.heap.size by omega) (fun x=>hbm (Option.some.inj x))).trans (HA.out.t.block b (by omega) (by omega) (fun x=>by have:=(HH.out.bn.lt b x).1;omega)))⟩
  have hU:NdX (fun b=>lo≤b∧b ∉ ownB bv'++own) W8 (.group (e.inner.num:Int) e.inner.whole) (.iface 103 (.agg #[.int .i64 (e.inner.num:Int),v'])):=
   TF (HA.out.x.keep (by omega) (fun b hb hlt=>⟨hb,fun o=>Aek (w:=wc) (a:=⟨b,o,none⟩) ((hfar b (fun x=>hb.2 (List.mem_append_right _ (x▸HH.out.pown)))).trans (HG.out.block b hlt (fun x=>hb.2 (List.mem_append_right _ (Option.some.inj x▸HH.out.mown)))))⟩))
  have hadd:=fun (w':World) (hb:Below W8.heap.size W8 w')=>EA (hX8.below hb) (.group (e.inner.num:Int) e.inner.whole) (.iface 103 (.agg #[.int .i64 (e.inner.num:Int),v'])) (NdX.below hb hU) rfl hs hok2
  have HAdd:=Ad5 hadd;have HL8:=Ad5 hL8;have HCut:=Ad5 hcut;clear hB8 hfar hsz8 hos hs3 hs0 hX8 hK8 hL8 hU hadd hcut HW HW2
  go_region
  all_goals go_wp2_with fail
  all_goals rw [←HCut.out]
  all_goals clear HCut c8 c4 c5 c6 c7 r0 r1 r2 r3 f4 f5 f6 f7 f8
  all_goals go_upto_region 7 with fail
  all_goals go_region_law (first
    | (refine Bs rfl _ _ _ rfl 133 _ rfl (by rfl) (enters_of Tryz.func133 (by kernel_rfl) rfl) (HAdd.out _ (by first | exact Aeh _ _ | exact Below.drew (Aeh _ _))) ?_;rintro x w9 ⟨rfl,hx9,hb9⟩;refine ⟨_,rfl,?_⟩;have HX9:=Ad5 hx9;have HB9:Hid (Below lo W8 w9):=Ad5 (by first | exact hb9 | exact (Below.drew (Aeh _ _)).trans hb9);clear hx9 hb9))
  all_goals go_wp2_with fail
  all_goals go_ret2
  all_goals exact Ay HO.out (HL8.out.trans HB9.out) HX9.out
theorem EOk.goto {s:List UInt8} {e:ES} (h:EOk s e) {j:Nat} (h1:e.pos≤j) (h2:j≤s.length):EOk s { e with pos:=j }:=
 ⟨h2,h.inner.up h1,fun v hv=>(h.outer v hv).up h1,Aed h.marks h1,Aed h.groups h1,h.deep,Aed h.closed h1⟩
theorem EOk.marked {s:List UInt8} {e:ES} (h:EOk s e) (q:Nat × Nat) (h1:e.marks.length < e.pos):EOk s { e with marks:=e.marks++[q] }:=
 ⟨h.pos,h.inner,h.outer,by show (e.marks++[q]).length≤e.pos;rw [Aee];simp;omega,h.groups,h.deep,h.closed⟩
theorem EOk.pieced {s:List UInt8} {e:ES} (h:EOk s e) {d:Nd} (hd:inCat d=true) (h1:e.inner.pcs.length < e.pos):EOk s (e.at e.st (e.inner.pcs++[d])):=
 ⟨h.pos,⟨BO h.inner.1 hd,h.inner.2.1,by show (e.inner.pcs++[d]).length≤e.pos;rw [Aee];simp;omega,h.inner.2.2.2.1,h.inner.2.2.2.2⟩,h.outer,h.marks,h.groups,h.deep,h.closed⟩
def BE (s:List UInt8) (e:ES) (k:Nat):Except (Nat × Nat) ES:=if k+1 < s.length then (match Ds true ⟨k,e.groups,e.closed,e.marks⟩ (byt s (k+1)) with
  | .error q=>.error q
  | .ok (st,d)=>.ok (e.at st (e.inner.pcs++[d]))) else .error (11,k)
theorem Qx {c:Nat} {t:OSet} (h:CG c=some (t,true)):c < 128:=by
 unfold CG at h;split at h
 ·injection h with h;injection h with _ h;cases h
 split at h
 ·omega
 split at h
 ·omega
 split at h
 ·omega
 split at h
 ·omega
 split at h
 ·omega
 split at h
 ·injection h with h;injection h with _ h;cases h
 ·cases h
theorem TJ (lo p mp:Nat) (w:World) (s:ByteArray) (e:ES) (k:Nat) (h:CN lo p mp w s e) (hk:e.pos=k+1) (hl:k+1=s.size):Calls Tryz.prog 136 #[.pointer (some ⟨p,0,none⟩),.int .i64 (k:Int)] w fun x w'=>AU lo p mp s w x w' (BE s.data.toList e k):=by
 obtain ⟨own,sv,mv,bv,pv,ov,rows,h⟩:=h;have HO:=Ad5 (show BE s.data.toList e k=.error (11,k) by unfold BE;rw [if_neg (by simp;omega)]);obtain ⟨sa,sc,rfl,_,_⟩:=h.sg;have k1:w.cell? ⟨p,1,none⟩=some (.slice sa s.size sc):=(h.blk.cell 1).trans rfl;have k2:w.cell? ⟨p,2,none⟩=some (.int .i64 ((k+1:Nat):Int)):=by rw [←hk];exact (h.blk.cell 2).trans rfl
 have e0:(((k+1:Nat):Int) == (s.size:Int))=true:=by rw [hl];simp
 generalize k+1=k9 at *;clear h hk hl;go_enter Tryz.func136,Tryz.ntmps136;go_wp2_with fail
 go_quiet (fail)
 go_wp2_with fail
 go_ret2
 exact A9 HO.out (below_drewN (Aeh _ _) _)
theorem WE (lo p mp:Nat) (w:World) (s:ByteArray) (e:ES) (k:Nat) (h:CN lo p mp w s e) (hs:s.size≤250) (hk:e.pos=k+1) (hl:k+1 < s.size) (c:Nat) (hc:byt s.data.toList (k+1)=c) (hd:49≤c∧c≤57) (hcc:e.closed.contains ((c:Int) - 48)=false):Calls Tryz.prog 136 #[.pointer (some ⟨p,0,none⟩),.int .i64 (k:Int)] w fun x w'=>AU lo p mp s w x w' (BE s.data.toList e k):=by
 have HO:=Ad5 (show BE s.data.toList e k=.error (9,k) by
  unfold BE;rw [if_pos (by simpa using hl),hc];unfold Ds;rw [if_pos hd];simp only [hcc,Bool.false_eq_true,if_false])
 obtain ⟨k10,hk10⟩:∃ j,j=k+2:=⟨_,rfl⟩;obtain ⟨own,sv,mv,bv,pv,ov,rows,h⟩:=h;obtain ⟨sa,sc,rfl,e2,e3⟩:=h.sg;obtain ⟨g,rfl,hg,hgl,hcell⟩:=e3 (by omega);have kc:=hcell (k+1) hl;have k1:w.cell? ⟨p,1,none⟩=some (.slice (some ⟨g,0,none⟩) s.size sc):=(h.blk.cell 1).trans rfl;have k2:w.cell? ⟨p,2,none⟩=some (.int .i64 ((k+1:Nat):Int)):=(by rw [←hk];exact (h.blk.cell 2).trans rfl);have e0:(((k+1:Nat):Int) == (s.size:Int))=false:=(by rw [beq_eq_false_iff_ne];omega);have i1:((k+1:Nat):Int) < (s.size:Int):=(by omega);have W1:IntKind.i64.wrap (((k+1:Nat):Int)+1)=(k10:Int):=(by rw [Aej _ (by omega)];omega);have f2:=h.blk.frozen 2;have hlo:=Aed h.lop (Aeg h.blk.lt);have hgo:∀ m,Em lo p mp own ((w.drewN m).setCell ⟨p,2,none⟩ (.int .i64 (k10:Int))) s { e with pos:=k10 } (.slice (some ⟨g,0,none⟩) s.size sc) mv bv pv ov rows∧Below lo w ((w.drewN m).setCell ⟨p,2,none⟩ (.int .i64 (k10:Int))):=fun m=>⟨(h.below (below_drewN (Aeh _ _) m)).goto k10 (h.ok.goto (by omega) (by simp;omega)),(below_drewN (Aeh lo w) m).setCell (p:=⟨p,2,none⟩) h.lop _⟩;have HGO:=Ad5 hgo;have HKC:=Ad5 (And.intro (hcell k (by omega)) (And.intro kc (And.intro hgl (And.intro hg (And.intro e2 h.pown)))));have HK10:=Ad5 hk10;clear hk10;generalize hk9:k+1=k9 at *;have HK9:=Ad5 hk9;clear hk9;clear hgo e3 hcell hgl hg hk;have hpl:=h.blk.lt;clear h
 rw [hc] at kc;have d1:=hd.1;have d2:=hd.2;have d3:(49:Int)≤(c:Int):=by omega
 have d4:(c:Int)≤57:=by omega
 have W2:IntKind.i32.wrap ((c:Int) - 48)=(c:Int) - 48:=IntWalk.i32_in _ (by omega);have W3:IntKind.i64.wrap ((c:Int) - 48)=(c:Int) - 48:=Aej _ (by omega);have hz:0≤(c:Int) - 48∧(c:Int) - 48≤255:=by omega
 have HZ:=Ad5 hz;have HCC:=Ad5 hcc;clear hcc hz hd;clear hc;go_enter Tryz.func136,Tryz.ntmps136;go_wp2_with fail;go_quiet (fail);go_wp2_with fail;go_quiet (fail);go_wp2_with fail;refine (TE lo p mp own _ s { e with pos:=k10 } _ mv bv pv ov rows (HGO.out _).1 k ((c:Int) - 48) HZ.out HCC.out).mono ?_;rintro x w2 ⟨rfl,b2⟩;have hb2:=(HGO.out _).2.trans (b2.mono (by have:=(HGO.out 0).2.size;simp [World.setCell] at this ⊢;omega));clear b2;go_wp2_with fail
 go_ret2
 exact A9 HO.out hb2
theorem TK (lo p mp:Nat) (w:World) (s:ByteArray) (e:ES) (k:Nat) (h:CN lo p mp w s e) (hs:s.size≤250) (hk:e.pos=k+1) (hl:k+1 < s.size) (h92:byt s.data.toList k=92) (c:Nat) (hc:byt s.data.toList (k+1)=c) (hd:49≤c∧c≤57) (hcc:e.closed.contains ((c:Int) - 48)=true) (hm:e.marks.length≤k) (hp:e.inner.pcs.length≤k):Calls Tryz.prog 136 #[.pointer (some ⟨p,0,none⟩),.int .i64 (k:Int)] w fun x w'=>AU lo p mp s w x w' (BE s.data.toList e k):=by
 obtain ⟨k10,hk10⟩:∃ j,j=k+2:=⟨_,rfl⟩;obtain ⟨e1,he1⟩:∃ e1:ES,e1={ e with pos:=k10 }:=⟨_,rfl⟩;have HBC:=Ad5 hc;have HO:=Ad5 (show BE s.data.toList e k=.ok (({ e1 with marks:=e1.marks++[(k,c)] }:ES).at ({ e1 with marks:=e1.marks++[(k,c)] }:ES).st (e1.inner.pcs++[.back ((c:Int) - 48)])) by
  unfold BE;rw [if_pos (by simpa using hl),hc];unfold Ds;rw [if_pos hd,he1,hk10];simp only [hcc,if_true];rfl)
 obtain ⟨own,sv,mv,bv,pv,ov,rows,h⟩:=h;obtain ⟨sa,sc,rfl,e2,e3⟩:=h.sg;obtain ⟨g,rfl,hg,hgl,hcell⟩:=e3 (by omega);have kc:=hcell (k+1) hl;have k1:w.cell? ⟨p,1,none⟩=some (.slice (some ⟨g,0,none⟩) s.size sc):=(h.blk.cell 1).trans rfl;have k2:w.cell? ⟨p,2,none⟩=some (.int .i64 ((k+1:Nat):Int)):=(by rw [←hk];exact (h.blk.cell 2).trans rfl);have e0:(((k+1:Nat):Int) == (s.size:Int))=false:=(by rw [beq_eq_false_iff_ne];omega);have i1:((k+1:Nat):Int) < (s.size:Int):=(by omega);have W1:IntKind.i64.wrap (((k+1:Nat):Int)+1)=(k10:Int):=(by rw [Aej _ (by omega)];omega);have f2:=h.blk.frozen 2;have hlo:=Aed h.lop (Aeg h.blk.lt);have hgo:∀ m,Em lo p mp own ((w.drewN m).setCell ⟨p,2,none⟩ (.int .i64 (k10:Int))) s { e with pos:=k10 } (.slice (some ⟨g,0,none⟩) s.size sc) mv bv pv ov rows∧Below lo w ((w.drewN m).setCell ⟨p,2,none⟩ (.int .i64 (k10:Int))):=fun m=>⟨(h.below (below_drewN (Aeh _ _) m)).goto k10 (h.ok.goto (by omega) (by simp;omega)),(below_drewN (Aeh lo w) m).setCell (p:=⟨p,2,none⟩) h.lop _⟩;have HGO:=Ad5 hgo;have HKC:=Ad5 (And.intro (hcell k (by omega)) (And.intro kc (And.intro hgl (And.intro hg (And.intro e2 h.pown)))));have HK10:=Ad5 hk10;clear hk10;generalize hk9:k+1=k9 at *;have HK9:=Ad5 hk9;clear hk9;clear hgo e3 hcell hgl hg hk;have hpl:=h.blk.lt;clear h
 rw [hc] at kc;have d1:=hd.1;have d2:=hd.2;have d3:(49:Int)≤(c:Int):=by omega
 have d4:(c:Int)≤57:=by omega
 have W2:IntKind.i32.wrap ((c:Int) - 48)=(c:Int) - 48:=IntWalk.i32_in _ (by omega);have W3:IntKind.i64.wrap ((c:Int) - 48)=(c:Int) - 48:=Aej _ (by omega);have hz:0≤(c:Int) - 48∧(c:Int) - 48≤255:=by omega
 have HZ:=Ad5 hz;have HCC:=Ad5 hcc;clear hcc hz hd;have hp1:e1.pos=k+2:=by rw [he1];exact HK10.out
 have hE1:=fun m=>(HGO.out m).1
 rw [←he1] at hE1;have hok1:EOk s.data.toList { e1 with marks:=e1.marks++[(k,c)] }:=(hE1 0).ok.marked _ (by rw [hp1,he1];show e.marks.length < k+2;omega);have hok2:=hok1.pieced (d:=.back ((c:Int) - 48)) rfl (by show e1.inner.pcs.length < e1.pos;rw [hp1,he1];show e.inner.pcs.length < k+2;omega);have hcc1:e1.closed.contains ((c:Int) - 48)=true:=by rw [he1];exact HCC.out
 have heb:=fun m=>WB lo p mp own _ s e1 _ mv bv pv ov rows (hE1 m) k c ((c:Int) - 48) HZ.out hs hp1 h92 (by rw [HK9.out];exact HBC.out) (by omega) hcc1 hok1 hok2
 have HEB:=Ad5 heb;clear hc h92 hm hp hok1 hok2 hcc1 heb hE1 hp1 he1;go_enter Tryz.func136,Tryz.ntmps136;go_wp2_with fail;go_quiet (fail);go_wp2_with fail;go_quiet (fail);go_wp2_with fail;refine (HEB.out _).mono ?_;rintro x w2 ⟨rfl,hx2,b2⟩;have hb2:=(HGO.out _).2.trans b2;have HX2:=Ad5 hx2;clear b2 hx2;go_wp2_with fail
 go_ret2
 exact Ay HO.out hb2 HX2.out
theorem TL (lo p mp:Nat) (w:World) (s:ByteArray) (e:ES) (k:Nat) (h:CN lo p mp w s e) (hs:s.size≤250) (hk:e.pos=k+1) (hl:k+1 < s.size) (c:Nat) (hc:byt s.data.toList (k+1)=c) (hd:¬ (49≤c∧c≤57)) (hn:CG c=none):Calls Tryz.prog 136 #[.pointer (some ⟨p,0,none⟩),.int .i64 (k:Int)] w fun x w'=>AU lo p mp s w x w' (BE s.data.toList e k):=by
 obtain ⟨k10,hk10⟩:∃ j,j=k+2:=⟨_,rfl⟩;have HO:=Ad5 (show BE s.data.toList e k=.error (2,k) by
  unfold BE;rw [if_pos (by simpa using hl),hc];unfold Ds;rw [if_neg hd,hn])
 have hc256:c < 256:=by rw [←hc];exact G5 _ _
 obtain ⟨own,sv,mv,bv,pv,ov,rows,h⟩:=h;obtain ⟨sa,sc,rfl,e2,e3⟩:=h.sg;obtain ⟨g,rfl,hg,hgl,hcell⟩:=e3 (by omega);have kc:=hcell (k+1) hl;have k1:w.cell? ⟨p,1,none⟩=some (.slice (some ⟨g,0,none⟩) s.size sc):=(h.blk.cell 1).trans rfl;have k2:w.cell? ⟨p,2,none⟩=some (.int .i64 ((k+1:Nat):Int)):=(by rw [←hk];exact (h.blk.cell 2).trans rfl);have e0:(((k+1:Nat):Int) == (s.size:Int))=false:=(by rw [beq_eq_false_iff_ne];omega);have i1:((k+1:Nat):Int) < (s.size:Int):=(by omega);have W1:IntKind.i64.wrap (((k+1:Nat):Int)+1)=(k10:Int):=(by rw [Aej _ (by omega)];omega);have f2:=h.blk.frozen 2;have hlo:=Aed h.lop (Aeg h.blk.lt);have hgo:∀ m,Em lo p mp own ((w.drewN m).setCell ⟨p,2,none⟩ (.int .i64 (k10:Int))) s { e with pos:=k10 } (.slice (some ⟨g,0,none⟩) s.size sc) mv bv pv ov rows∧Below lo w ((w.drewN m).setCell ⟨p,2,none⟩ (.int .i64 (k10:Int))):=fun m=>⟨(h.below (below_drewN (Aeh _ _) m)).goto k10 (h.ok.goto (by omega) (by simp;omega)),(below_drewN (Aeh lo w) m).setCell (p:=⟨p,2,none⟩) h.lop _⟩;have HGO:=Ad5 hgo;have HKC:=Ad5 (And.intro (hcell k (by omega)) (And.intro kc (And.intro hgl (And.intro hg (And.intro e2 h.pown)))));have HK10:=Ad5 hk10;clear hk10;generalize hk9:k+1=k9 at *;have HK9:=Ad5 hk9;clear hk9;clear hgo e3 hcell hgl hg hk;have hpl:=h.blk.lt;clear h
 rw [hc] at kc;have W2:IntKind.u8.wrap (c:Int)=(c:Int):=IntWalk.u8_in _ (by omega);have hes:=fun w=>Gj c hc256 w
 rw [hn,show Qb none=.tuple #[.agg #[.int .u64 0,.int .u64 0,.int .u64 0,.int .u64 0],.bool false,.bool false] from rfl] at hes;have HES:=Ad5 hes;clear hc hn hes hc256;by_cases hd1:49≤c
 ·have d1:(49:Int)≤(c:Int):=by omega
  have d2:decide ((c:Int)≤57)=false:=by rw [decide_eq_false_iff_not];omega
  have d3:decide (c≤57)=false:=by rw [decide_eq_false_iff_not];omega
  have d4:decide ((49:Int)≤(c:Int))=true:=decide_eq_true d1;clear hd;go_enter Tryz.func136,Tryz.ntmps136;go_wp2_with fail;go_quiet (fail);go_wp2_with fail;go_quiet (fail);go_wp2_with fail;refine (HES.out _).mono ?_;rintro x w2 ⟨rfl,b2⟩;have hsz2:lo≤w2.heap.size:=Aed (Aed hlo (HGO.out _).2.size) b2.size;have hb2:=(HGO.out _).2.trans (b2.mono (Aed hlo (HGO.out _).2.size));clear b2;go_wp2_with fail;go_ret2;exact A9 HO.out (hb2.alloc hsz2 _)
 ·have d1:¬ (49:Int)≤(c:Int):=by omega
  have d2:decide ((49:Int)≤(c:Int))=false:=decide_eq_false d1;have d3:decide (49≤c)=false:=decide_eq_false hd1;clear hd;go_enter Tryz.func136,Tryz.ntmps136;go_wp2_with fail;go_quiet (fail);go_wp2_with fail;go_quiet (fail);go_wp2_with fail;refine (HES.out _).mono ?_;rintro x w2 ⟨rfl,b2⟩;have hsz2:lo≤w2.heap.size:=Aed (Aed hlo (HGO.out _).2.size) b2.size;have hb2:=(HGO.out _).2.trans (b2.mono (Aed hlo (HGO.out _).2.size));clear b2;go_wp2_with fail;go_ret2;exact A9 HO.out (hb2.alloc hsz2 _)
theorem Qy (lo p mp:Nat) (w:World) (s:ByteArray) (e:ES) (k:Nat) (h:CN lo p mp w s e) (hs:s.size≤250) (hk:e.pos=k+1) (hl:k+1 < s.size) (c:Nat) (hc:byt s.data.toList (k+1)=c) (hd:¬ (49≤c∧c≤57)) (t:OSet) (hn:CG c=some (t,false)) (hp:e.inner.pcs.length≤k):Calls Tryz.prog 136 #[.pointer (some ⟨p,0,none⟩),.int .i64 (k:Int)] w fun x w'=>AU lo p mp s w x w' (BE s.data.toList e k):=by
 obtain ⟨k10,hk10⟩:∃ j,j=k+2:=⟨_,rfl⟩;obtain ⟨e1,he1⟩:∃ e1:ES,e1={ e with pos:=k10 }:=⟨_,rfl⟩;have HO:=Ad5 (show BE s.data.toList e k=.ok (e1.at e1.st (e1.inner.pcs++[.one t])) by
  unfold BE;rw [if_pos (by simpa using hl),hc];unfold Ds;rw [if_neg hd,hn,he1,hk10];rfl)
 have hc256:c < 256:=by rw [←hc];exact G5 _ _
 obtain ⟨own,sv,mv,bv,pv,ov,rows,h⟩:=h;obtain ⟨sa,sc,rfl,e2,e3⟩:=h.sg;obtain ⟨g,rfl,hg,hgl,hcell⟩:=e3 (by omega);have kc:=hcell (k+1) hl;have k1:w.cell? ⟨p,1,none⟩=some (.slice (some ⟨g,0,none⟩) s.size sc):=(h.blk.cell 1).trans rfl;have k2:w.cell? ⟨p,2,none⟩=some (.int .i64 ((k+1:Nat):Int)):=(by rw [←hk];exact (h.blk.cell 2).trans rfl);have e0:(((k+1:Nat):Int) == (s.size:Int))=false:=(by rw [beq_eq_false_iff_ne];omega);have i1:((k+1:Nat):Int) < (s.size:Int):=(by omega);have W1:IntKind.i64.wrap (((k+1:Nat):Int)+1)=(k10:Int):=(by rw [Aej _ (by omega)];omega);have f2:=h.blk.frozen 2;have hlo:=Aed h.lop (Aeg h.blk.lt);have hgo:∀ m,Em lo p mp own ((w.drewN m).setCell ⟨p,2,none⟩ (.int .i64 (k10:Int))) s { e with pos:=k10 } (.slice (some ⟨g,0,none⟩) s.size sc) mv bv pv ov rows∧Below lo w ((w.drewN m).setCell ⟨p,2,none⟩ (.int .i64 (k10:Int))):=fun m=>⟨(h.below (below_drewN (Aeh _ _) m)).goto k10 (h.ok.goto (by omega) (by simp;omega)),(below_drewN (Aeh lo w) m).setCell (p:=⟨p,2,none⟩) h.lop _⟩;have HGO:=Ad5 hgo;have HKC:=Ad5 (And.intro (hcell k (by omega)) (And.intro kc (And.intro hgl (And.intro hg (And.intro e2 h.pown)))));have HK10:=Ad5 hk10;clear hk10;generalize hk9:k+1=k9 at *;have HK9:=Ad5 hk9;clear hk9;clear hgo e3 hcell hgl hg hk;have hpl:=h.blk.lt;clear h
 rw [hc] at kc;have W2:IntKind.u8.wrap (c:Int)=(c:Int):=IntWalk.u8_in _ (by omega);have hes:=fun w=>Gj c hc256 w
 rw [hn,show Qb (some (t,false))=.tuple #[.agg #[.int .u64 (ow t 0),.int .u64 (ow t 1),.int .u64 (ow t 2),.int .u64 (ow t 3)],.bool false,.bool true] from rfl] at hes;have HES:=Ad5 hes;have hE1:=fun m=>(HGO.out m).1
 rw [←he1] at hE1;have HK2:=Ad5 ((hE1 0).ok.pieced (d:=.one t) rfl (by rw [he1];show e.inner.pcs.length < k10;rw [HK10.out];omega));have HE1:=Ad5 hE1;clear hc hn hes hc256 hE1 he1 hp;by_cases hd1:49≤c
 ·have d1:(49:Int)≤(c:Int):=by omega
  have d2:decide ((c:Int)≤57)=false:=by rw [decide_eq_false_iff_not];omega
  have d3:decide (c≤57)=false:=by rw [decide_eq_false_iff_not];omega
  have d4:decide ((49:Int)≤(c:Int))=true:=decide_eq_true d1;clear hd;go_enter Tryz.func136,Tryz.ntmps136;go_wp2_with fail;go_quiet (fail);go_wp2_with fail;go_quiet (fail);go_wp2_with fail;refine (HES.out _).mono ?_;rintro x w2 ⟨rfl,b2⟩;have hE2:=(HE1.out _).below b2;have hsz2:lo≤w2.heap.size:=Aed (Aed hlo (HGO.out _).2.size) b2.size;have hb2:=(HGO.out _).2.trans (b2.mono (Aed hlo (HGO.out _).2.size));have hA2:=(Aeh w2.heap.size w2).alloc (Aec _) (.cells #[.int .u64 (ow t 0),.int .u64 (ow t 1),.int .u64 (ow t 2),.int .u64 (ow t 3)] 109);have hE3:=hE2.below hA2;have hK3:=Blk.new w2 #[.int .u64 (ow t 0),.int .u64 (ow t 1),.int .u64 (ow t 2),.int .u64 (ow t 3)] 109 w2.heap.size rfl;have HB3:=Ad5 (hb2.alloc hsz2 (.cells #[.int .u64 (ow t 0),.int .u64 (ow t 1),.int .u64 (ow t 2),.int .u64 (ow t 3)] 109));obtain ⟨W3,hW3⟩:∃ W3,W3=w2.alloc (.cells #[.int .u64 (ow t 0),.int .u64 (ow t 1),.int .u64 (ow t 2),.int .u64 (ow t 3)] 109):=⟨_,rfl⟩;rw [←hW3] at hE3 hK3 HB3;have HAP:=Ad5 hE2.blk.lt;have HAO:=Ad5 hE2.ownlt;obtain ⟨y0,y1,y2,y3,_,_,_,_,_⟩:=C9 hK3;have hadd:=fun (w':World) (hb:Below W3.heap.size W3 w')=>EA (hE3.below hb) (.one t) (.iface 111 (.agg #[.int .u64 (ow t 0),.int .u64 (ow t 1),.int .u64 (ow t 2),.int .u64 (ow t 3)])) ⟨1,rfl⟩ rfl hs HK2.out;have HAdd:=Ad5 hadd;have hpl3:=hE3.blk.lt;clear hadd;clear hE2 hA2 hE3 hK3 hb2 b2;go_wp2_with fail;rw [←hW3];clear hW3;go_upto_region 12 with fail;go_region_law (first | (refine Bs rfl _ _ _ rfl 133 _ rfl (by rfl) (enters_of Tryz.func133 (by kernel_rfl) rfl) (HAdd.out _ (by first | exact Aeh _ _ | exact Below.drew (Aeh _ _))) ?_;rintro x w4 ⟨rfl,hx4,hb4⟩;refine ⟨_,rfl,?_⟩;have HX4:=Ad5 hx4;have HB4:Hid (Below lo W3 w4):=Ad5 (by first | exact hb4 | exact (Below.drew (Aeh _ _)).trans hb4);clear hx4 hb4));all_goals go_wp2_with fail;all_goals go_ret2;all_goals exact Ay HO.out (HB3.out.trans HB4.out) HX4.out
 ·have d1:¬ (49:Int)≤(c:Int):=by omega
  have d2:decide ((49:Int)≤(c:Int))=false:=decide_eq_false d1;have d3:decide (49≤c)=false:=decide_eq_false hd1;clear hd;go_enter Tryz.func136,Tryz.ntmps136;go_wp2_with fail;go_quiet (fail);go_wp2_with fail;go_quiet (fail);go_wp2_with fail;refine (HES.out _).mono ?_;rintro x w2 ⟨rfl,b2⟩;have hE2:=(HE1.out _).below b2;have hsz2:lo≤w2.heap.size:=Aed (Aed hlo (HGO.out _).2.size) b2.size;have hb2:=(HGO.out _).2.trans (b2.mono (Aed hlo (HGO.out _).2.size));have hA2:=(Aeh w2.heap.size w2).alloc (Aec _) (.cells #[.int .u64 (ow t 0),.int .u64 (ow t 1),.int .u64 (ow t 2),.int .u64 (ow t 3)] 109);have hE3:=hE2.below hA2;have hK3:=Blk.new w2 #[.int .u64 (ow t 0),.int .u64 (ow t 1),.int .u64 (ow t 2),.int .u64 (ow t 3)] 109 w2.heap.size rfl;have HB3:=Ad5 (hb2.alloc hsz2 (.cells #[.int .u64 (ow t 0),.int .u64 (ow t 1),.int .u64 (ow t 2),.int .u64 (ow t 3)] 109));obtain ⟨W3,hW3⟩:∃ W3,W3=w2.alloc (.cells #[.int .u64 (ow t 0),.int .u64 (ow t 1),.int .u64 (ow t 2),.int .u64 (ow t 3)] 109):=⟨_,rfl⟩;rw [←hW3] at hE3 hK3 HB3;have HAP:=Ad5 hE2.blk.lt;have HAO:=Ad5 hE2.ownlt;obtain ⟨y0,y1,y2,y3,_,_,_,_,_⟩:=C9 hK3;have hadd:=fun (w':World) (hb:Below W3.heap.size W3 w')=>EA (hE3.below hb) (.one t) (.iface 111 (.agg #[.int .u64 (ow t 0),.int .u64 (ow t 1),.int .u64 (ow t 2),.int .u64 (ow t 3)])) ⟨1,rfl⟩ rfl hs HK2.out;have HAdd:=Ad5 hadd;have hpl3:=hE3.blk.lt;clear hadd;clear hE2 hA2 hE3 hK3 hb2 b2;go_wp2_with fail;rw [←hW3];clear hW3;go_upto_region 12 with fail;go_region_law (first | (refine Bs rfl _ _ _ rfl 133 _ rfl (by rfl) (enters_of Tryz.func133 (by kernel_rfl) rfl) (HAdd.out _ (by first | exact Aeh _ _ | exact Below.drew (Aeh _ _))) ?_;rintro x w4 ⟨rfl,hx4,hb4⟩;refine ⟨_,rfl,?_⟩;have HX4:=Ad5 hx4;have HB4:Hid (Below lo W3 w4):=Ad5 (by first | exact hb4 | exact (Below.drew (Aeh _ _)).trans hb4);clear hx4 hb4));all_goals go_wp2_with fail;all_goals go_ret2;all_goals exact Ay HO.out (HB3.out.trans HB4.out) HX4.out
theorem TM (lo p mp:Nat) (w:World) (s:ByteArray) (e:ES) (k:Nat) (h:CN lo p mp w s e) (hs:s.size≤250) (hk:e.pos=k+1) (hl:k+1 < s.size) (c:Nat) (hc:byt s.data.toList (k+1)=c) (hd:¬ (49≤c∧c≤57)) (t:OSet) (hn:CG c=some (t,true)) (h92:byt s.data.toList k=92) (hm:e.marks.length≤k) (hp:e.inner.pcs.length≤k):Calls Tryz.prog 136 #[.pointer (some ⟨p,0,none⟩),.int .i64 (k:Int)] w fun x w'=>AU lo p mp s w x w' (BE s.data.toList e k):=by
 obtain ⟨k10,hk10⟩:∃ j,j=k+2:=⟨_,rfl⟩;obtain ⟨e1,he1⟩:∃ e1:ES,e1={ e with pos:=k10 }:=⟨_,rfl⟩;have HO:=Ad5 (show BE s.data.toList e k=.ok (({ e1 with marks:=e1.marks++[(k,c)] }:ES).at ({ e1 with marks:=e1.marks++[(k,c)] }:ES).st (e1.inner.pcs++[.one t])) by
  unfold BE;rw [if_pos (by simpa using hl),hc];unfold Ds;rw [if_neg hd,hn,he1,hk10];rfl)
 have HBC:=Ad5 hc;have hc256:c < 256:=by rw [←hc];exact G5 _ _
 obtain ⟨own,sv,mv,bv,pv,ov,rows,h⟩:=h;obtain ⟨sa,sc,rfl,e2,e3⟩:=h.sg;obtain ⟨g,rfl,hg,hgl,hcell⟩:=e3 (by omega);have kc:=hcell (k+1) hl;have k1:w.cell? ⟨p,1,none⟩=some (.slice (some ⟨g,0,none⟩) s.size sc):=(h.blk.cell 1).trans rfl;have k2:w.cell? ⟨p,2,none⟩=some (.int .i64 ((k+1:Nat):Int)):=(by rw [←hk];exact (h.blk.cell 2).trans rfl);have e0:(((k+1:Nat):Int) == (s.size:Int))=false:=(by rw [beq_eq_false_iff_ne];omega);have i1:((k+1:Nat):Int) < (s.size:Int):=(by omega);have W1:IntKind.i64.wrap (((k+1:Nat):Int)+1)=(k10:Int):=(by rw [Aej _ (by omega)];omega);have f2:=h.blk.frozen 2;have hlo:=Aed h.lop (Aeg h.blk.lt);have hgo:∀ m,Em lo p mp own ((w.drewN m).setCell ⟨p,2,none⟩ (.int .i64 (k10:Int))) s { e with pos:=k10 } (.slice (some ⟨g,0,none⟩) s.size sc) mv bv pv ov rows∧Below lo w ((w.drewN m).setCell ⟨p,2,none⟩ (.int .i64 (k10:Int))):=fun m=>⟨(h.below (below_drewN (Aeh _ _) m)).goto k10 (h.ok.goto (by omega) (by simp;omega)),(below_drewN (Aeh lo w) m).setCell (p:=⟨p,2,none⟩) h.lop _⟩;have HGO:=Ad5 hgo;have HKC:=Ad5 (And.intro (hcell k (by omega)) (And.intro kc (And.intro hgl (And.intro hg (And.intro e2 h.pown)))));have HK10:=Ad5 hk10;clear hk10;generalize hk9:k+1=k9 at *;have HK9:=Ad5 hk9;clear hk9;clear hgo e3 hcell hgl hg hk;have hpl:=h.blk.lt;clear h
 rw [hc] at kc;have W2:IntKind.u8.wrap (c:Int)=(c:Int):=IntWalk.u8_in _ (by omega);have hes:=fun w=>Gj c hc256 w
 rw [hn,show Qb (some (t,true))=.tuple #[.agg #[.int .u64 (ow t 0),.int .u64 (ow t 1),.int .u64 (ow t 2),.int .u64 (ow t 3)],.bool true,.bool true] from rfl] at hes;have HES:=Ad5 hes;have hE1:=fun m=>(HGO.out m).1
 rw [←he1] at hE1;have hp1:e1.pos=k+2:=by rw [he1];exact HK10.out
 have hml:e1.marks.length≤1000:=by rw [he1];show e.marks.length≤1000;have:=HK9.out;omega
 have HK1:=Ad5 ((hE1 0).ok.marked (k,c) (by rw [hp1,he1];show e.marks.length < k+2;omega));have HK2:=Ad5 (HK1.out.pieced (d:=.one t) rfl (by show e1.inner.pcs.length < e1.pos;rw [hp1,he1];show e.inner.pcs.length < k+2;omega));have HP1:=Ad5 hp1;have HML:=Ad5 hml;have H92:=Ad5 h92;have H128:=Ad5 (Qx hn);have HLS:Hid (k+2≤s.size):=Ad5 (by have:=HK9.out;omega);have HE1:=Ad5 hE1;clear hc hn hes hc256 hE1 he1 hp hp1 hml h92 hm;by_cases hd1:49≤c
 ·have d1:(49:Int)≤(c:Int):=by omega
  have d2:decide ((c:Int)≤57)=false:=by rw [decide_eq_false_iff_not];omega
  have d3:decide (c≤57)=false:=by rw [decide_eq_false_iff_not];omega
  have d4:decide ((49:Int)≤(c:Int))=true:=decide_eq_true d1;clear hd;go_enter Tryz.func136,Tryz.ntmps136;go_wp2_with fail;go_quiet (fail);go_wp2_with fail;go_quiet (fail);go_wp2_with fail;refine (HES.out _).mono ?_;rintro x w2 ⟨rfl,b2⟩;have hE2:=(HE1.out _).below b2;have hsz2:lo≤w2.heap.size:=Aed (Aed hlo (HGO.out _).2.size) b2.size;have hb2:=(HGO.out _).2.trans (b2.mono (Aed hlo (HGO.out _).2.size));have hA2:=(Aeh w2.heap.size w2).alloc (Aec _) (.cells #[.int .u64 (ow t 0),.int .u64 (ow t 1),.int .u64 (ow t 2),.int .u64 (ow t 3)] 109);have hE3:=hE2.below hA2;have hK3:=Blk.new w2 #[.int .u64 (ow t 0),.int .u64 (ow t 1),.int .u64 (ow t 2),.int .u64 (ow t 3)] 109 w2.heap.size rfl;have HB3:=Ad5 (hb2.alloc hsz2 (.cells #[.int .u64 (ow t 0),.int .u64 (ow t 1),.int .u64 (ow t 2),.int .u64 (ow t 3)] 109));obtain ⟨W3,hW3⟩:∃ W3,W3=w2.alloc (.cells #[.int .u64 (ow t 0),.int .u64 (ow t 1),.int .u64 (ow t 2),.int .u64 (ow t 3)] 109):=⟨_,rfl⟩;rw [←hW3] at hE3 hK3 HB3;have HAP:=Ad5 hE2.blk.lt;have HAO:=Ad5 hE2.ownlt;obtain ⟨y0,y1,y2,y3,_,_,_,_,_⟩:=C9 hK3;have hcell3:∀ i,i < s.size→W3.cell? ⟨g,i,none⟩=some (.int .i32 (byt s.data.toList i:Int)):=(by obtain ⟨a',c',h1,h2,h3⟩:=hE3.sg;injection h1 with h1 _ _;obtain ⟨g',h4,_,_,h5⟩:=h3 (by have:=HLS.out;omega);rw [h4] at h1;injection h1 with h1;injection h1 with h1 _ _;subst h1;exact h5);have hmk:=I1 lo p g s.size sc k e1.pos c _ _ _ _ _ _ _ _ mv e1.marks _ hE3.lop hE3.blk hE3.mks (fun hx=>(hE3.inown mv (by simp [allV]) p hx).2.1 rfl) HP1.out (by rw [HP1.out];exact HLS.out) e2 (by rw [hcell3 k (by have:=HLS.out;omega),H92.out];rfl) (by rw [hcell3 (k+1) (by have:=HLS.out;omega),HK9.out,HBC.out]) H128.out HML.out;have HMK:=Ad5 hmk;have HE3:=Ad5 hE3;have HK3:=Ad5 hK3;clear hE2 hA2 hE3 hK3 hb2 b2 hcell3 hmk;go_wp2_with fail;rw [←hW3];clear hW3;refine HMK.out.mono ?_;rintro x w5 ⟨mv',rfl,hm5,hB5,hT5,hF5⟩;have hE5:=Em.marked (q:=(k,c)) HE3.out hT5 hF5 rfl hm5 hB5 HK1.out;have HB5:=Ad5 (HB3.out.trans (HE3.out.low HE3.out.mks.lt hT5));have hK5:=Blk.touch HK3.out hT5 (fun x=>by have:=HAP.out;omega) (fun x=>by have:=HAO.out _ (HE3.out.inown mv (by simp [allV]) _ x).1;omega);obtain ⟨y0,y1,y2,y3,_,_,_,_,_⟩:=C9 hK5;have hadd:=fun (w':World) (hb:Below w5.heap.size w5 w')=>EA (hE5.below hb) (.one t) (.iface 111 (.agg #[.int .u64 (ow t 0),.int .u64 (ow t 1),.int .u64 (ow t 2),.int .u64 (ow t 3)])) ⟨1,rfl⟩ rfl hs HK2.out;have HAdd:=Ad5 hadd;have hpl5:=hE5.blk.lt;clear hadd hm5 hB5 hT5 hF5 hE5 hK5;go_wp2_with fail;go_upto_region 12 with fail;go_region_law (first | (refine Bs rfl _ _ _ rfl 133 _ rfl (by rfl) (enters_of Tryz.func133 (by kernel_rfl) rfl) (HAdd.out _ (by first | exact Aeh _ _ | exact Below.drew (Aeh _ _))) ?_;rintro x w4 ⟨rfl,hx4,hb4⟩;refine ⟨_,rfl,?_⟩;have HX4:=Ad5 hx4;have HB4:Hid (Below lo w5 w4):=Ad5 (by first | exact hb4 | exact (Below.drew (Aeh _ _)).trans hb4);clear hx4 hb4));all_goals go_wp2_with fail;all_goals go_ret2;all_goals exact Ay HO.out (HB5.out.trans HB4.out) HX4.out
 ·have d1:¬ (49:Int)≤(c:Int):=by omega
  have d2:decide ((49:Int)≤(c:Int))=false:=decide_eq_false d1;have d3:decide (49≤c)=false:=decide_eq_false hd1;clear hd;go_enter Tryz.func136,Tryz.ntmps136;go_wp2_with fail;go_quiet (fail);go_wp2_with fail;go_quiet (fail);go_wp2_with fail;refine (HES.out _).mono ?_;rintro x w2 ⟨rfl,b2⟩;have hE2:=(HE1.out _).below b2;have hsz2:lo≤w2.heap.size:=Aed (Aed hlo (HGO.out _).2.size) b2.size;have hb2:=(HGO.out _).2.trans (b2.mono (Aed hlo (HGO.out _).2.size));have hA2:=(Aeh w2.heap.size w2).alloc (Aec _) (.cells #[.int .u64 (ow t 0),.int .u64 (ow t 1),.int .u64 (ow t 2),.int .u64 (ow t 3)] 109);have hE3:=hE2.below hA2;have hK3:=Blk.new w2 #[.int .u64 (ow t 0),.int .u64 (ow t 1),.int .u64 (ow t 2),.int .u64 (ow t 3)] 109 w2.heap.size rfl;have HB3:=Ad5 (hb2.alloc hsz2 (.cells #[.int .u64 (ow t 0),.int .u64 (ow t 1),.int .u64 (ow t 2),.int .u64 (ow t 3)] 109));obtain ⟨W3,hW3⟩:∃ W3,W3=w2.alloc (.cells #[.int .u64 (ow t 0),.int .u64 (ow t 1),.int .u64 (ow t 2),.int .u64 (ow t 3)] 109):=⟨_,rfl⟩;rw [←hW3] at hE3 hK3 HB3;have HAP:=Ad5 hE2.blk.lt;have HAO:=Ad5 hE2.ownlt;obtain ⟨y0,y1,y2,y3,_,_,_,_,_⟩:=C9 hK3;have hcell3:∀ i,i < s.size→W3.cell? ⟨g,i,none⟩=some (.int .i32 (byt s.data.toList i:Int)):=(by obtain ⟨a',c',h1,h2,h3⟩:=hE3.sg;injection h1 with h1 _ _;obtain ⟨g',h4,_,_,h5⟩:=h3 (by have:=HLS.out;omega);rw [h4] at h1;injection h1 with h1;injection h1 with h1 _ _;subst h1;exact h5);have hmk:=I1 lo p g s.size sc k e1.pos c _ _ _ _ _ _ _ _ mv e1.marks _ hE3.lop hE3.blk hE3.mks (fun hx=>(hE3.inown mv (by simp [allV]) p hx).2.1 rfl) HP1.out (by rw [HP1.out];exact HLS.out) e2 (by rw [hcell3 k (by have:=HLS.out;omega),H92.out];rfl) (by rw [hcell3 (k+1) (by have:=HLS.out;omega),HK9.out,HBC.out]) H128.out HML.out;have HMK:=Ad5 hmk;have HE3:=Ad5 hE3;have HK3:=Ad5 hK3;clear hE2 hA2 hE3 hK3 hb2 b2 hcell3 hmk;go_wp2_with fail;rw [←hW3];clear hW3;refine HMK.out.mono ?_;rintro x w5 ⟨mv',rfl,hm5,hB5,hT5,hF5⟩;have hE5:=Em.marked (q:=(k,c)) HE3.out hT5 hF5 rfl hm5 hB5 HK1.out;have HB5:=Ad5 (HB3.out.trans (HE3.out.low HE3.out.mks.lt hT5));have hK5:=Blk.touch HK3.out hT5 (fun x=>by have:=HAP.out;omega) (fun x=>by have:=HAO.out _ (HE3.out.inown mv (by simp [allV]) _ x).1;omega);obtain ⟨y0,y1,y2,y3,_,_,_,_,_⟩:=C9 hK5;have hadd:=fun (w':World) (hb:Below w5.heap.size w5 w')=>EA (hE5.below hb) (.one t) (.iface 111 (.agg #[.int .u64 (ow t 0),.int .u64 (ow t 1),.int .u64 (ow t 2),.int .u64 (ow t 3)])) ⟨1,rfl⟩ rfl hs HK2.out;have HAdd:=Ad5 hadd;have hpl5:=hE5.blk.lt;clear hadd hm5 hB5 hT5 hF5 hE5 hK5;go_wp2_with fail;go_upto_region 12 with fail;go_region_law (first | (refine Bs rfl _ _ _ rfl 133 _ rfl (by rfl) (enters_of Tryz.func133 (by kernel_rfl) rfl) (HAdd.out _ (by first | exact Aeh _ _ | exact Below.drew (Aeh _ _))) ?_;rintro x w4 ⟨rfl,hx4,hb4⟩;refine ⟨_,rfl,?_⟩;have HX4:=Ad5 hx4;have HB4:Hid (Below lo w5 w4):=Ad5 (by first | exact hb4 | exact (Below.drew (Aeh _ _)).trans hb4);clear hx4 hb4));all_goals go_wp2_with fail;all_goals go_ret2;all_goals exact Ay HO.out (HB5.out.trans HB4.out) HX4.out
end
end Go.Proofs.YteilldmmihiijaaGreatDoor
