/- Texts. -/
import Derived.Test.YteilldmmihiijaaGreatDoorQt11
import Derived.Test.YteilldmmihiijaaGreatDoorQt10
import Derived.Maps.OwnSet
import Derived.Maps.OwnOps
import Derived.Maps.Views
import Derived.Test.YteilldmmihiijaaGreatDoorQt06
import Derived.Test.YteilldmmihiijaaGreatDoorQt07
import Derived.Deep.RegionHeld3
set_option linter.unusedSimpArgs false
set_option linter.unusedVariables false
set_option maxHeartbeats 8000000
set_option maxRecDepth 1000000
namespace Go.Proofs.YteilldmmihiijaaGreatDoor
open Go.Lib renaming hid→Ac8
open Nat renaming le_refl→Adf,le_trans→Adg,lt_of_lt_of_le→Adi,le_of_lt→Adj
open List renaming length_append→Adh,mem_cons→Ado,mem_append→Adp
open Go.RowKit.Below renaming refl→Adk,heap_setCell→Adl
open Go.IntWalk renaming i64_in→Adm
open Go.World renaming cell?_of_block→Adn
section
open Go Go.RowKit
def MapAt (w:World) (b:Nat) (cl:List Int):Prop:=∃ (n:Nat) (D:DataW Unit),n≤cl.length∧w.ownsMap Tryz.prog 3 unitElem b n D∧∀ k:Int,Maps.has D (.int .i64 k)=cl.contains k
theorem MapAt.same {w w':World} {b:Nat} {cl:List Int} (h:MapAt w b cl) (hs:w'.heap[b]?=w.heap[b]?):MapAt w' b cl:=by
 obtain ⟨n,D,hn,⟨es,clock,hb,r⟩,hk⟩:=h;exact ⟨n,D,hn,⟨es,clock,hs.trans hb,r⟩,hk⟩
def levC (L:List Lv) (rows:List (Value × Value)):List Value:=(L.zip rows).flatMap fun q=>[.int .i64 (q.1.op:Int),.int .i64 (q.1.num:Int),q.2.1,q.2.2]
def allV (mv bv pv ov:Value) (rows:List (Value × Value)):List Value:=mv :: bv :: pv :: ov :: rows.flatMap fun r=>[r.1,r.2]
def Off2 (u v:Value):Prop:=∀ b,u.ownBlock=some b→v.ownBlock≠some b
structure Em (lo p mp:Nat) (own:List Nat) (w:World) (s:ByteArray) (e:ES) (sv mv bv pv ov:Value) (rows:List (Value × Value)):Prop where
 blk:Blk w p (EC (.string s) sv (.int .i64 (e.pos:Int)) mv (.int .i64 (e.inner.op:Int)) (.int .i64 (e.inner.num:Int)) bv pv ov (.int .i64 (e.groups:Int)) (.map (some mp))) 211
 lop:lo≤p
 lom:lo≤mp
 sg:∃ a c,sv=.slice a s.size c∧s.size≤c∧(0 < s.size→∃ g,a=some ⟨g,0,none⟩∧g ∉ own∧g < w.heap.size∧∀ i,i < s.size→w.cell? ⟨g,i,none⟩=some (.int .i32 (byt s.data.toList i:Int)))
 mks:w.ownsRow lo 33 2 mv e.marks.length (marksC e.marks)
 bn:NR lo own w e.inner.brs bv
 pn:NR lo own w e.inner.pcs pv
 on:w.ownsRow lo 208 4 ov e.outer.length (levC e.outer rows)
 ol:rows.length=e.outer.length
 orow:∀ i (h:i < e.outer.length) (h2:i < rows.length),NR lo own w e.outer[i].brs rows[i].1∧NR lo own w e.outer[i].pcs rows[i].2
 cl:MapAt w mp e.closed
 apart:(allV mv bv pv ov rows).Pairwise Off2
 inown:∀ v∈allV mv bv pv ov rows,∀ b,v.ownBlock=some b→b∈own∧b≠p∧b≠mp
 pown:p∈own
 mown:mp∈own
 pm:p≠mp
 ownlt:∀ b∈own,b < w.heap.size
 ok:EOk s.data.toList e
theorem Em.pieces {lo p mp:Nat} {own own':List Nat} {w w':World} {s:ByteArray} {e:ES} {sv mv bv pv pv' ov:Value} {rows:List (Value × Value)} {l:List Nd} (h:Em lo p mp own w s e sv mv bv pv ov rows)
  (hT:Touch p pv w w') (hnew:pv'.ownBlock=pv.ownBlock∨∃ g,w.heap.size≤g∧pv'.ownBlock=some g) (ho:own'=ownB pv'++own) (hN:NR lo own' w' l pv')
  (hB:Blk w' p (EC (.string s) sv (.int .i64 (e.pos:Int)) mv (.int .i64 (e.inner.op:Int)) (.int .i64 (e.inner.num:Int)) bv pv' ov (.int .i64 (e.groups:Int)) (.map (some mp))) 211)
  (hok:EOk s.data.toList (e.at e.st l)):Em lo p mp own' w' s (e.at e.st l) sv mv bv pv' ov rows:=by
 have hin:∀ v∈allV mv bv pv ov rows,∀ b,v.ownBlock=some b→b∈own∧b≠p∧b≠mp:=h.inown;have hpin:∀ b,pv.ownBlock=some b→b∈own∧b≠p∧b≠mp:=fun b hb=>hin pv (by simp [allV]) b hb
 have hlt:∀ b∈own,b < w.heap.size:=h.ownlt;have hnlt:∀ b,pv'.ownBlock=some b→b < w'.heap.size:=fun b hb=>(hN.lt b hb).2
 have hsame:∀ b,b < w.heap.size→b≠p→pv.ownBlock≠some b→w'.heap[b]?=w.heap[b]?:=hT.block;have hoff:∀ b,b < w.heap.size→b ∉ own→w'.heap[b]?=w.heap[b]?∧b ∉ own':=fun b hb hbo=>by
  refine ⟨hsame b hb (fun e=>hbo (e▸h.pown)) (fun e=>hbo (hpin b e).1),?_⟩;rw [ho,Adp,not_or];refine ⟨fun e=>?_,hbo⟩;rw [AS] at e;rcases hnew with h2 | ⟨g,hg,h2⟩
  ·exact hbo (hpin b (h2.symm.trans e)).1
  ·rw [h2] at e;injection e with e;omega
 have hap:=h.apart;unfold allV at hap;simp only [List.pairwise_cons] at hap;obtain ⟨a1,a2,a3,a4,a5⟩:=hap;have hrow:∀ v,(v=mv∨v=bv∨v=ov∨v∈rows.flatMap fun r=>[r.1,r.2])→∀ b,v.ownBlock=some b→w'.heap[b]?=w.heap[b]?:=fun v hv b hb=>by
  have hmem:v∈allV mv bv pv ov rows:=by
   unfold allV;rcases hv with rfl | rfl | rfl | hv
   ·simp
   ·simp
   ·simp
   ·simp only [Ado];exact .inr (.inr (.inr (.inr hv)))
  obtain ⟨e1,e2,e3⟩:=hin v hmem b hb;refine hsame b (hlt b e1) e2 (fun hp=>?_);rcases hv with rfl | rfl | rfl | hv
  ·exact a1 pv (by simp) b hb hp
  ·exact a2 pv (by simp) b hb hp
  ·exact a3 _ (by simp) b hp hb
  ·exact a3 v (by simp only [Ado];exact .inr hv) b hp hb
 have hothers:∀ v,(v=mv∨v=bv∨v=ov∨v∈rows.flatMap fun r=>[r.1,r.2])→Off2 v pv'∧Off2 pv' v:=fun v hv=>by
  have hmem:v∈allV mv bv pv ov rows:=by
   unfold allV;rcases hv with rfl | rfl | rfl | hv
   ·simp
   ·simp
   ·simp
   ·simp only [Ado];exact .inr (.inr (.inr (.inr hv)))
  have hvp:∀ b,v.ownBlock=some b→pv.ownBlock≠some b:=fun b hb hp=>by
   rcases hv with rfl | rfl | rfl | hv
   ·exact a1 pv (by simp) b hb hp
   ·exact a2 pv (by simp) b hb hp
   ·exact a3 _ (by simp) b hp hb
   ·exact a3 v (by simp only [Ado];exact .inr hv) b hp hb
  have hvq:∀ b,v.ownBlock=some b→pv'.ownBlock≠some b:=fun b hb hp=>by
   rcases hnew with h2 | ⟨g,hg,h2⟩
   ·exact hvp b hb (h2.symm.trans hp)
   ·rw [h2] at hp
    injection hp with hp;have:=hlt b (hin v hmem b hb).1;omega
  exact ⟨hvq,fun b hb hp=>hvq b hp hb⟩
 have hplt:p < w.heap.size:=hlt p h.pown;have hmlt:mp < w.heap.size:=hlt mp h.mown;have hrows:∀ i (h2:i < rows.length),(rows[i].1∈rows.flatMap fun r=>[r.1,r.2])∧(rows[i].2∈rows.flatMap fun r=>[r.1,r.2]):=fun i h2=>
  ⟨List.mem_flatMap.2 ⟨rows[i],List.getElem_mem h2,by simp⟩,List.mem_flatMap.2 ⟨rows[i],List.getElem_mem h2,by simp⟩⟩
 refine ⟨hB,h.lop,h.lom,?_,Aa h.mks (hrow mv (.inl rfl)),h.bn.keep hT.size (hrow bv (.inr (.inl rfl))) hoff,hN,Aa h.on (hrow ov (.inr (.inr (.inl rfl)))),h.ol,?_,h.cl.same (hsame mp hmlt (fun e=>h.pm e.symm) (fun e=>(hpin mp e).2.2 rfl)),?_,?_,?_,?_,h.pm,?_,hok⟩
 ·obtain ⟨a,c,e1,e2,e3⟩:=h.sg
  refine ⟨a,c,e1,e2,fun h0=>?_⟩;obtain ⟨g,rfl,hg,hgl,hc⟩:=e3 h0;exact ⟨g,rfl,(hoff g hgl hg).2,Adi hgl hT.size,fun i hi=>(Adn (w:=w) (a:=⟨g,i,none⟩) (hoff g hgl hg).1).trans (hc i hi)⟩
 ·intro i h1 h2
  obtain ⟨o1,o2⟩:=h.orow i h1 h2;exact ⟨o1.keep hT.size (hrow _ (.inr (.inr (.inr (hrows i h2).1)))) hoff,o2.keep hT.size (hrow _ (.inr (.inr (.inr (hrows i h2).2)))) hoff⟩
 ·unfold allV
  simp only [List.pairwise_cons];refine ⟨fun v hv=>?_,fun v hv=>?_,fun v hv=>?_,a4,a5⟩
  ·simp only [Ado] at hv
   rcases hv with rfl | rfl | hv
   ·exact a1 _ (by simp)
   ·exact (hothers mv (.inl rfl)).1
   ·exact a1 v (by simp only [Ado];exact .inr (.inr hv))
  ·simp only [Ado] at hv
   rcases hv with rfl | hv
   ·exact (hothers bv (.inr (.inl rfl))).1
   ·exact a2 v (by simp only [Ado];exact .inr hv)
  ·simp only [Ado] at hv
   rcases hv with rfl | hv
   ·exact (hothers _ (.inr (.inr (.inl rfl)))).2
   ·exact (hothers v (.inr (.inr (.inr hv)))).2
 ·intro v hv b hb
  unfold allV at hv;simp only [Ado] at hv;have hold:v∈allV mv bv pv ov rows→b∈own'∧b≠p∧b≠mp:=fun hm=>by
   obtain ⟨e1,e2,e3⟩:=hin v hm b hb;exact ⟨by rw [ho];exact List.mem_append_right _ e1,e2,e3⟩
  rcases hv with rfl | rfl | rfl | rfl | hv
  ·exact hold (by simp [allV])
  ·exact hold (by simp [allV])
  ·refine ⟨by rw [ho];exact List.mem_append_left _ (AS.2 hb),?_⟩
   rcases hnew with h2 | ⟨g,hg,h2⟩
   ·exact (hpin b (h2.symm.trans hb)).2
   ·rw [h2] at hb
    injection hb with hb;exact ⟨by omega,by omega⟩
  ·exact hold (by simp [allV])
  ·exact hold (by unfold allV;simp only [Ado];exact .inr (.inr (.inr (.inr hv))))
 ·rw [ho];exact List.mem_append_right _ h.pown
 ·rw [ho];exact List.mem_append_right _ h.mown
 ·intro b hb
  rw [ho] at hb;rcases Adp.1 hb with hb | hb
  ·exact hnlt b (AS.1 hb)
  ·exact Adi (hlt b hb) hT.size
theorem Em.marked {lo p mp:Nat} {own own':List Nat} {w w':World} {s:ByteArray} {e:ES} {sv mv bv pv mv' ov:Value} {rows:List (Value × Value)} {q:Nat × Nat} (h:Em lo p mp own w s e sv mv bv pv ov rows)
  (hT:Touch p mv w w') (hnew:mv'.ownBlock=mv.ownBlock∨∃ g,w.heap.size≤g∧mv'.ownBlock=some g) (ho:own'=ownB mv'++own) (hN:w'.ownsRow lo 33 2 mv' (e.marks++[q]).length (marksC (e.marks++[q])))
  (hB:Blk w' p (EC (.string s) sv (.int .i64 (e.pos:Int)) mv' (.int .i64 (e.inner.op:Int)) (.int .i64 (e.inner.num:Int)) bv pv ov (.int .i64 (e.groups:Int)) (.map (some mp))) 211)
  (hok:EOk s.data.toList { e with marks:=e.marks++[q] }):Em lo p mp own' w' s { e with marks:=e.marks++[q] } sv mv' bv pv ov rows:=by
 have hin:∀ v∈allV mv bv pv ov rows,∀ b,v.ownBlock=some b→b∈own∧b≠p∧b≠mp:=h.inown;have hpin:∀ b,mv.ownBlock=some b→b∈own∧b≠p∧b≠mp:=fun b hb=>hin mv (by simp [allV]) b hb
 have hlt:∀ b∈own,b < w.heap.size:=h.ownlt;have hnlt:∀ b,mv'.ownBlock=some b→b < w'.heap.size:=fun b hb=>(hN.lt b hb).2
 have hsame:∀ b,b < w.heap.size→b≠p→mv.ownBlock≠some b→w'.heap[b]?=w.heap[b]?:=hT.block;have hoff:∀ b,b < w.heap.size→b ∉ own→w'.heap[b]?=w.heap[b]?∧b ∉ own':=fun b hb hbo=>by
  refine ⟨hsame b hb (fun e=>hbo (e▸h.pown)) (fun e=>hbo (hpin b e).1),?_⟩;rw [ho,Adp,not_or];refine ⟨fun e=>?_,hbo⟩;rw [AS] at e;rcases hnew with h2 | ⟨g,hg,h2⟩
  ·exact hbo (hpin b (h2.symm.trans e)).1
  ·rw [h2] at e;injection e with e;omega
 have hap:=h.apart;unfold allV at hap;simp only [List.pairwise_cons] at hap;obtain ⟨a1,a2,a3,a4,a5⟩:=hap;have hrow:∀ v,(v=pv∨v=bv∨v=ov∨v∈rows.flatMap fun r=>[r.1,r.2])→∀ b,v.ownBlock=some b→w'.heap[b]?=w.heap[b]?:=fun v hv b hb=>by
  have hmem:v∈allV mv bv pv ov rows:=by
   unfold allV;rcases hv with rfl | rfl | rfl | hv
   ·simp
   ·simp
   ·simp
   ·simp only [Ado];exact .inr (.inr (.inr (.inr hv)))
  obtain ⟨e1,e2,e3⟩:=hin v hmem b hb;refine hsame b (hlt b e1) e2 (fun hp=>?_);rcases hv with rfl | rfl | rfl | hv
  ·exact a1 _ (by simp) b hp hb
  ·exact a1 _ (by simp) b hp hb
  ·exact a1 _ (by simp) b hp hb
  ·exact a1 v (by simp only [Ado];exact .inr (.inr (.inr hv))) b hp hb
 have hothers:∀ v,(v=pv∨v=bv∨v=ov∨v∈rows.flatMap fun r=>[r.1,r.2])→Off2 v mv'∧Off2 mv' v:=fun v hv=>by
  have hmem:v∈allV mv bv pv ov rows:=by
   unfold allV;rcases hv with rfl | rfl | rfl | hv
   ·simp
   ·simp
   ·simp
   ·simp only [Ado];exact .inr (.inr (.inr (.inr hv)))
  have hvp:∀ b,v.ownBlock=some b→mv.ownBlock≠some b:=fun b hb hp=>by
   rcases hv with rfl | rfl | rfl | hv
   ·exact a1 _ (by simp) b hp hb
   ·exact a1 _ (by simp) b hp hb
   ·exact a1 _ (by simp) b hp hb
   ·exact a1 v (by simp only [Ado];exact .inr (.inr (.inr hv))) b hp hb
  have hvq:∀ b,v.ownBlock=some b→mv'.ownBlock≠some b:=fun b hb hp=>by
   rcases hnew with h2 | ⟨g,hg,h2⟩
   ·exact hvp b hb (h2.symm.trans hp)
   ·rw [h2] at hp
    injection hp with hp;have:=hlt b (hin v hmem b hb).1;omega
  exact ⟨hvq,fun b hb hp=>hvq b hp hb⟩
 have hplt:p < w.heap.size:=hlt p h.pown;have hmlt:mp < w.heap.size:=hlt mp h.mown;have hrows:∀ i (h2:i < rows.length),(rows[i].1∈rows.flatMap fun r=>[r.1,r.2])∧(rows[i].2∈rows.flatMap fun r=>[r.1,r.2]):=fun i h2=>
  ⟨List.mem_flatMap.2 ⟨rows[i],List.getElem_mem h2,by simp⟩,List.mem_flatMap.2 ⟨rows[i],List.getElem_mem h2,by simp⟩⟩
 refine ⟨hB,h.lop,h.lom,?_,hN,h.bn.keep hT.size (hrow bv (.inr (.inl rfl))) hoff,h.pn.keep hT.size (hrow pv (.inl rfl)) hoff,Aa h.on (hrow ov (.inr (.inr (.inl rfl)))),h.ol,?_,h.cl.same (hsame mp hmlt (fun e=>h.pm e.symm) (fun e=>(hpin mp e).2.2 rfl)),?_,?_,?_,?_,h.pm,?_,hok⟩
 ·obtain ⟨a,c,e1,e2,e3⟩:=h.sg
  refine ⟨a,c,e1,e2,fun h0=>?_⟩;obtain ⟨g,rfl,hg,hgl,hc⟩:=e3 h0;exact ⟨g,rfl,(hoff g hgl hg).2,Adi hgl hT.size,fun i hi=>(Adn (w:=w) (a:=⟨g,i,none⟩) (hoff g hgl hg).1).trans (hc i hi)⟩
 ·intro i h1 h2
  obtain ⟨o1,o2⟩:=h.orow i h1 h2;exact ⟨o1.keep hT.size (hrow _ (.inr (.inr (.inr (hrows i h2).1)))) hoff,o2.keep hT.size (hrow _ (.inr (.inr (.inr (hrows i h2).2)))) hoff⟩
 ·unfold allV
  simp only [List.pairwise_cons];refine ⟨fun v hv=>?_,a2,a3,a4,a5⟩;simp only [Ado] at hv;rcases hv with rfl | rfl | rfl | hv
  ·exact (hothers _ (.inr (.inl rfl))).2
  ·exact (hothers _ (.inl rfl)).2
  ·exact (hothers _ (.inr (.inr (.inl rfl)))).2
  ·exact (hothers v (.inr (.inr (.inr hv)))).2
 ·intro v hv b hb
  unfold allV at hv;simp only [Ado] at hv;have hold:v∈allV mv bv pv ov rows→b∈own'∧b≠p∧b≠mp:=fun hm=>by
   obtain ⟨e1,e2,e3⟩:=hin v hm b hb;exact ⟨by rw [ho];exact List.mem_append_right _ e1,e2,e3⟩
  rcases hv with rfl | rfl | rfl | rfl | hv
  ·refine ⟨by rw [ho];exact List.mem_append_left _ (AS.2 hb),?_⟩
   rcases hnew with h2 | ⟨g,hg,h2⟩
   ·exact (hpin b (h2.symm.trans hb)).2
   ·rw [h2] at hb
    injection hb with hb;exact ⟨by omega,by omega⟩
  ·exact hold (by simp [allV])
  ·exact hold (by simp [allV])
  ·exact hold (by simp [allV])
  ·exact hold (by unfold allV;simp only [Ado];exact .inr (.inr (.inr (.inr hv))))
 ·rw [ho];exact List.mem_append_right _ h.pown
 ·rw [ho];exact List.mem_append_right _ h.mown
 ·intro b hb
  rw [ho] at hb;rcases Adp.1 hb with hb | hb
  ·exact hnlt b (AS.1 hb)
  ·exact Adi (hlt b hb) hT.size
theorem Em.branched {lo p mp:Nat} {own own':List Nat} {w w':World} {s:ByteArray} {e:ES} {sv mv bv pv bv' ov:Value} {rows:List (Value × Value)} {l:List Nd} (h:Em lo p mp own w s e sv mv bv pv ov rows)
  (hT:Touch p bv w w') (hnew:bv'.ownBlock=bv.ownBlock∨∃ g,w.heap.size≤g∧bv'.ownBlock=some g) (ho:own'=ownB bv'++own) (hN:NR lo own' w' l bv')
  (hB:Blk w' p (EC (.string s) sv (.int .i64 (e.pos:Int)) mv (.int .i64 (e.inner.op:Int)) (.int .i64 (e.inner.num:Int)) bv' (.slice none 0 0) ov (.int .i64 (e.groups:Int)) (.map (some mp))) 211)
  (hok:EOk s.data.toList (e.lv e.st l [])):Em lo p mp own' w' s (e.lv e.st l []) sv mv bv' (.slice none 0 0) ov rows:=by
 have hin:∀ v∈allV mv bv pv ov rows,∀ b,v.ownBlock=some b→b∈own∧b≠p∧b≠mp:=h.inown;have hpin:∀ b,bv.ownBlock=some b→b∈own∧b≠p∧b≠mp:=fun b hb=>hin bv (by simp [allV]) b hb
 have hlt:∀ b∈own,b < w.heap.size:=h.ownlt;have hnlt:∀ b,bv'.ownBlock=some b→b < w'.heap.size:=fun b hb=>(hN.lt b hb).2
 have hsame:∀ b,b < w.heap.size→b≠p→bv.ownBlock≠some b→w'.heap[b]?=w.heap[b]?:=hT.block;have hoff:∀ b,b < w.heap.size→b ∉ own→w'.heap[b]?=w.heap[b]?∧b ∉ own':=fun b hb hbo=>by
  refine ⟨hsame b hb (fun e=>hbo (e▸h.pown)) (fun e=>hbo (hpin b e).1),?_⟩;rw [ho,Adp,not_or];refine ⟨fun e=>?_,hbo⟩;rw [AS] at e;rcases hnew with h2 | ⟨g,hg,h2⟩
  ·exact hbo (hpin b (h2.symm.trans e)).1
  ·rw [h2] at e;injection e with e;omega
 have hap:=h.apart;unfold allV at hap;simp only [List.pairwise_cons] at hap;obtain ⟨a1,a2,a3,a4,a5⟩:=hap;have hrow:∀ v,(v=pv∨v=mv∨v=ov∨v∈rows.flatMap fun r=>[r.1,r.2])→∀ b,v.ownBlock=some b→w'.heap[b]?=w.heap[b]?:=fun v hv b hb=>by
  have hmem:v∈allV mv bv pv ov rows:=by
   unfold allV;rcases hv with rfl | rfl | rfl | hv
   ·simp
   ·simp
   ·simp
   ·simp only [Ado];exact .inr (.inr (.inr (.inr hv)))
  obtain ⟨e1,e2,e3⟩:=hin v hmem b hb;refine hsame b (hlt b e1) e2 (fun hp=>?_);rcases hv with rfl | rfl | rfl | hv
  ·exact a2 _ (by simp) b hp hb
  ·exact a1 bv (by simp) b hb hp
  ·exact a2 _ (by simp) b hp hb
  ·exact a2 v (by simp only [Ado];exact .inr (.inr hv)) b hp hb
 have hothers:∀ v,(v=pv∨v=mv∨v=ov∨v∈rows.flatMap fun r=>[r.1,r.2])→Off2 v bv'∧Off2 bv' v:=fun v hv=>by
  have hmem:v∈allV mv bv pv ov rows:=by
   unfold allV;rcases hv with rfl | rfl | rfl | hv
   ·simp
   ·simp
   ·simp
   ·simp only [Ado];exact .inr (.inr (.inr (.inr hv)))
  have hvp:∀ b,v.ownBlock=some b→bv.ownBlock≠some b:=fun b hb hp=>by
   rcases hv with rfl | rfl | rfl | hv
   ·exact a2 _ (by simp) b hp hb
   ·exact a1 bv (by simp) b hb hp
   ·exact a2 _ (by simp) b hp hb
   ·exact a2 v (by simp only [Ado];exact .inr (.inr hv)) b hp hb
  have hvq:∀ b,v.ownBlock=some b→bv'.ownBlock≠some b:=fun b hb hp=>by
   rcases hnew with h2 | ⟨g,hg,h2⟩
   ·exact hvp b hb (h2.symm.trans hp)
   ·rw [h2] at hp
    injection hp with hp;have:=hlt b (hin v hmem b hb).1;omega
  exact ⟨hvq,fun b hb hp=>hvq b hp hb⟩
 have hplt:p < w.heap.size:=hlt p h.pown;have hmlt:mp < w.heap.size:=hlt mp h.mown;have hrows:∀ i (h2:i < rows.length),(rows[i].1∈rows.flatMap fun r=>[r.1,r.2])∧(rows[i].2∈rows.flatMap fun r=>[r.1,r.2]):=fun i h2=>
  ⟨List.mem_flatMap.2 ⟨rows[i],List.getElem_mem h2,by simp⟩,List.mem_flatMap.2 ⟨rows[i],List.getElem_mem h2,by simp⟩⟩
 refine ⟨hB,h.lop,h.lom,?_,Aa h.mks (hrow mv (.inr (.inl rfl))),hN,NR.nil _ _ _,Aa h.on (hrow ov (.inr (.inr (.inl rfl)))),h.ol,?_,h.cl.same (hsame mp hmlt (fun e=>h.pm e.symm) (fun e=>(hpin mp e).2.2 rfl)),?_,?_,?_,?_,h.pm,?_,hok⟩
 ·obtain ⟨a,c,e1,e2,e3⟩:=h.sg
  refine ⟨a,c,e1,e2,fun h0=>?_⟩;obtain ⟨g,rfl,hg,hgl,hc⟩:=e3 h0;exact ⟨g,rfl,(hoff g hgl hg).2,Adi hgl hT.size,fun i hi=>(Adn (w:=w) (a:=⟨g,i,none⟩) (hoff g hgl hg).1).trans (hc i hi)⟩
 ·intro i h1 h2
  obtain ⟨o1,o2⟩:=h.orow i h1 h2;exact ⟨o1.keep hT.size (hrow _ (.inr (.inr (.inr (hrows i h2).1)))) hoff,o2.keep hT.size (hrow _ (.inr (.inr (.inr (hrows i h2).2)))) hoff⟩
 ·unfold allV
  simp only [List.pairwise_cons];refine ⟨fun v hv=>?_,fun v hv=>?_,fun v hv=>fun b hb=>(by simp [Value.ownBlock] at hb),a4,a5⟩
  ·simp only [Ado] at hv
   rcases hv with rfl | rfl | rfl | hv
   ·exact (hothers mv (.inr (.inl rfl))).1
   ·exact fun b hb hp=>(by simp [Value.ownBlock] at hp)
   ·exact a1 _ (by simp)
   ·exact a1 v (by simp only [Ado];exact .inr (.inr (.inr hv)))
  ·simp only [Ado] at hv
   rcases hv with rfl | rfl | hv
   ·exact fun b hb hp=>(by simp [Value.ownBlock] at hp)
   ·exact (hothers _ (.inr (.inr (.inl rfl)))).2
   ·exact (hothers v (.inr (.inr (.inr hv)))).2
 ·intro v hv b hb
  unfold allV at hv;simp only [Ado] at hv;have hold:v∈allV mv bv pv ov rows→b∈own'∧b≠p∧b≠mp:=fun hm=>by
   obtain ⟨e1,e2,e3⟩:=hin v hm b hb;exact ⟨by rw [ho];exact List.mem_append_right _ e1,e2,e3⟩
  rcases hv with rfl | rfl | rfl | rfl | hv
  ·exact hold (by simp [allV])
  ·refine ⟨by rw [ho];exact List.mem_append_left _ (AS.2 hb),?_⟩
   rcases hnew with h2 | ⟨g,hg,h2⟩
   ·exact (hpin b (h2.symm.trans hb)).2
   ·rw [h2] at hb
    injection hb with hb;exact ⟨by omega,by omega⟩
  ·simp [Value.ownBlock] at hb
  ·exact hold (by simp [allV])
  ·exact hold (by unfold allV;simp only [Ado];exact .inr (.inr (.inr (.inr hv))))
 ·rw [ho];exact List.mem_append_right _ h.pown
 ·rw [ho];exact List.mem_append_right _ h.mown
 ·intro b hb
  rw [ho] at hb;rcases Adp.1 hb with hb | hb
  ·exact hnlt b (AS.1 hb)
  ·exact Adi (hlt b hb) hT.size
theorem Em.opened {lo p mp:Nat} {own own':List Nat} {w w':World} {s:ByteArray} {e:ES} {sv mv bv pv ov ov':Value} {rows:List (Value × Value)} {k g':Nat} (h:Em lo p mp own w s e sv mv bv pv ov rows)
  (hT:Touch p ov w w') (hnew:ov'.ownBlock=ov.ownBlock∨∃ g,w.heap.size≤g∧ov'.ownBlock=some g) (ho:own'=ownB ov'++own) (hN:w'.ownsRow lo 208 4 ov' (e.outer.length+1) (levC e.outer rows++[.int .i64 (e.inner.op:Int),.int .i64 (e.inner.num:Int),bv,pv]))
  (hB:Blk w' p (EC (.string s) sv (.int .i64 (e.pos:Int)) mv (.int .i64 (k:Int)) (.int .i64 (g':Int)) (.slice none 0 0) (.slice none 0 0) ov' (.int .i64 (g':Int)) (.map (some mp))) 211)
  (hok:EOk s.data.toList { e with groups:=g',outer:=e.outer++[e.inner],inner:=⟨k,g',[],[]⟩ }):Em lo p mp own' w' s { e with groups:=g',outer:=e.outer++[e.inner],inner:=⟨k,g',[],[]⟩ } sv mv (.slice none 0 0) (.slice none 0 0) ov' (rows++[(bv,pv)]):=by
 have hin:∀ v∈allV mv bv pv ov rows,∀ b,v.ownBlock=some b→b∈own∧b≠p∧b≠mp:=h.inown;have hpin:∀ b,ov.ownBlock=some b→b∈own∧b≠p∧b≠mp:=fun b hb=>hin ov (by simp [allV]) b hb
 have hlt:∀ b∈own,b < w.heap.size:=h.ownlt;have hnlt:∀ b,ov'.ownBlock=some b→b < w'.heap.size:=fun b hb=>(hN.lt b hb).2
 have hsame:∀ b,b < w.heap.size→b≠p→ov.ownBlock≠some b→w'.heap[b]?=w.heap[b]?:=hT.block;have hoff:∀ b,b < w.heap.size→b ∉ own→w'.heap[b]?=w.heap[b]?∧b ∉ own':=fun b hb hbo=>by
  refine ⟨hsame b hb (fun e=>hbo (e▸h.pown)) (fun e=>hbo (hpin b e).1),?_⟩;rw [ho,Adp,not_or];refine ⟨fun e=>?_,hbo⟩;rw [AS] at e;rcases hnew with h2 | ⟨g,hg,h2⟩
  ·exact hbo (hpin b (h2.symm.trans e)).1
  ·rw [h2] at e;injection e with e;omega
 have hap:=h.apart;unfold allV at hap;simp only [List.pairwise_cons] at hap;obtain ⟨a1,a2,a3,a4,a5⟩:=hap;have hrow:∀ v,(v=pv∨v=bv∨v=mv∨v∈rows.flatMap fun r=>[r.1,r.2])→∀ b,v.ownBlock=some b→w'.heap[b]?=w.heap[b]?:=fun v hv b hb=>by
  have hmem:v∈allV mv bv pv ov rows:=by
   unfold allV;rcases hv with rfl | rfl | rfl | hv
   ·simp
   ·simp
   ·simp
   ·simp only [Ado];exact .inr (.inr (.inr (.inr hv)))
  obtain ⟨e1,e2,e3⟩:=hin v hmem b hb;refine hsame b (hlt b e1) e2 (fun hp=>?_);rcases hv with rfl | rfl | rfl | hv
  ·exact a3 ov (by simp) b hb hp
  ·exact a2 ov (by simp) b hb hp
  ·exact a1 ov (by simp) b hb hp
  ·exact a4 v hv b hp hb
 have hothers:∀ v,(v=pv∨v=bv∨v=mv∨v∈rows.flatMap fun r=>[r.1,r.2])→Off2 v ov'∧Off2 ov' v:=fun v hv=>by
  have hmem:v∈allV mv bv pv ov rows:=by
   unfold allV;rcases hv with rfl | rfl | rfl | hv
   ·simp
   ·simp
   ·simp
   ·simp only [Ado];exact .inr (.inr (.inr (.inr hv)))
  have hvp:∀ b,v.ownBlock=some b→ov.ownBlock≠some b:=fun b hb hp=>by
   rcases hv with rfl | rfl | rfl | hv
   ·exact a3 ov (by simp) b hb hp
   ·exact a2 ov (by simp) b hb hp
   ·exact a1 ov (by simp) b hb hp
   ·exact a4 v hv b hp hb
  have hvq:∀ b,v.ownBlock=some b→ov'.ownBlock≠some b:=fun b hb hp=>by
   rcases hnew with h2 | ⟨g,hg,h2⟩
   ·exact hvp b hb (h2.symm.trans hp)
   ·rw [h2] at hp
    injection hp with hp;have:=hlt b (hin v hmem b hb).1;omega
  exact ⟨hvq,fun b hb hp=>hvq b hp hb⟩
 have hplt:p < w.heap.size:=hlt p h.pown;have hmlt:mp < w.heap.size:=hlt mp h.mown;have hrows:∀ i (h2:i < rows.length),(rows[i].1∈rows.flatMap fun r=>[r.1,r.2])∧(rows[i].2∈rows.flatMap fun r=>[r.1,r.2]):=fun i h2=>
  ⟨List.mem_flatMap.2 ⟨rows[i],List.getElem_mem h2,by simp⟩,List.mem_flatMap.2 ⟨rows[i],List.getElem_mem h2,by simp⟩⟩
 have hz:∀ (L:List Lv) (R:List (Value × Value)) (v:Lv) (r:Value × Value),R.length=L.length→levC (L++[v]) (R++[r])=levC L R++[.int .i64 (v.op:Int),.int .i64 (v.num:Int),r.1,r.2]:=fun L R v r hl=>by
  unfold levC;rw [List.zip_append (by omega),List.flatMap_append];simp
 have hnil:∀ v:Value,Off2 (.slice none 0 0) v∧Off2 v (.slice none 0 0):=fun v=>⟨fun b hb=>(by simp [Value.ownBlock] at hb),fun b hb hp=>(by simp [Value.ownBlock] at hp)⟩
 have hfm:(rows++[(bv,pv)]).flatMap (fun r=>[r.1,r.2])=(rows.flatMap fun r=>[r.1,r.2])++[bv,pv]:=by rw [List.flatMap_append];simp
 refine ⟨hB,h.lop,h.lom,?_,Aa h.mks (hrow mv (.inr (.inr (.inl rfl)))),NR.nil _ _ _,NR.nil _ _ _,?_,?_,?_,h.cl.same (hsame mp hmlt (fun e=>h.pm e.symm) (fun e=>(hpin mp e).2.2 rfl)),?_,?_,?_,?_,h.pm,?_,hok⟩
 ·obtain ⟨a,c,e1,e2,e3⟩:=h.sg
  refine ⟨a,c,e1,e2,fun h0=>?_⟩;obtain ⟨g,rfl,hg,hgl,hc⟩:=e3 h0;exact ⟨g,rfl,(hoff g hgl hg).2,Adi hgl hT.size,fun i hi=>(Adn (w:=w) (a:=⟨g,i,none⟩) (hoff g hgl hg).1).trans (hc i hi)⟩
 ·show w'.ownsRow lo 208 4 ov' (e.outer++[e.inner]).length (levC (e.outer++[e.inner]) (rows++[(bv,pv)]))
  rw [hz _ _ _ _ h.ol,Adh];exact hN
 ·show (rows++[(bv,pv)]).length=(e.outer++[e.inner]).length
  rw [Adh,Adh,h.ol];rfl
 ·intro i h1 h2
  have hol:=h.ol;by_cases hi:i < e.outer.length
  ·obtain ⟨o1,o2⟩:=h.orow i hi (by omega)
   have e1:(rows++[(bv,pv)])[i]'h2=rows[i]'(by omega):=List.getElem_append_left (by omega);have e2:(e.outer++[e.inner])[i]'h1=e.outer[i]'hi:=List.getElem_append_left hi;rw [e1];show NR lo own' w' ((e.outer++[e.inner])[i]'h1).brs _∧NR lo own' w' ((e.outer++[e.inner])[i]'h1).pcs _;rw [e2];exact ⟨o1.keep hT.size (hrow _ (.inr (.inr (.inr (hrows i (by omega)).1)))) hoff,o2.keep hT.size (hrow _ (.inr (.inr (.inr (hrows i (by omega)).2)))) hoff⟩
  ·have h1':i < (e.outer++[e.inner]).length:=h1
   have hie:i=e.outer.length:=by rw [Adh] at h1';simp at h1';omega
   subst hie;have e1:(rows++[(bv,pv)])[e.outer.length]'h2=(bv,pv):=by rw [List.getElem_append_right (by omega)];simp [hol]
   have e2:(e.outer++[e.inner])[e.outer.length]'h1=e.inner:=by rw [List.getElem_append_right (Adf _)];simp
   rw [e1];show NR lo own' w' ((e.outer++[e.inner])[e.outer.length]'h1).brs _∧NR lo own' w' ((e.outer++[e.inner])[e.outer.length]'h1).pcs _;rw [e2];exact ⟨h.bn.keep hT.size (hrow bv (.inr (.inl rfl))) hoff,h.pn.keep hT.size (hrow pv (.inl rfl)) hoff⟩
 ·unfold allV
  rw [hfm];simp only [List.pairwise_cons];refine ⟨fun v hv=>?_,fun v _=>(hnil v).1,fun v _=>(hnil v).1,fun v hv=>?_,?_⟩
  ·simp only [Ado,Adp] at hv
   rcases hv with rfl | rfl | rfl | hv | rfl | rfl | hv
   ·exact (hnil _).2
   ·exact (hnil _).2
   ·exact (hothers mv (.inr (.inr (.inl rfl)))).1
   ·exact a1 v (by simp only [Ado];exact .inr (.inr (.inr hv)))
   ·exact a1 _ (by simp)
   ·exact a1 _ (by simp)
   ·cases hv
  ·simp only [Ado,Adp] at hv
   rcases hv with hv | rfl | rfl | hv
   ·exact (hothers v (.inr (.inr (.inr hv)))).2
   ·exact (hothers _ (.inr (.inl rfl))).2
   ·exact (hothers _ (.inl rfl)).2
   ·cases hv
  ·rw [List.pairwise_append]
   refine ⟨a5,?_,fun u hu v hv=>?_⟩
   ·simp only [List.pairwise_cons]
    refine ⟨fun v hv=>?_,fun v hv=>(by cases hv),List.Pairwise.nil⟩;simp only [Ado] at hv;rcases hv with rfl | hv
    ·exact a2 _ (by simp)
    ·cases hv
   ·simp only [Ado] at hv
    rcases hv with rfl | rfl | hv
    ·exact fun b hb hp=>a2 u (by simp only [Ado];exact .inr (.inr hu)) b hp hb
    ·exact fun b hb hp=>a3 u (by simp only [Ado];exact .inr hu) b hp hb
    ·cases hv
 ·intro v hv b hb
  unfold allV at hv;rw [hfm] at hv;simp only [Ado,Adp] at hv;have hold:v∈allV mv bv pv ov rows→b∈own'∧b≠p∧b≠mp:=fun hm=>by
   obtain ⟨e1,e2,e3⟩:=hin v hm b hb;exact ⟨by rw [ho];exact List.mem_append_right _ e1,e2,e3⟩
  rcases hv with rfl | rfl | rfl | rfl | hv | rfl | rfl | hv
  ·exact hold (by simp [allV])
  ·simp [Value.ownBlock] at hb
  ·simp [Value.ownBlock] at hb
  ·refine ⟨by rw [ho];exact List.mem_append_left _ (AS.2 hb),?_⟩
   rcases hnew with h2 | ⟨g,hg,h2⟩
   ·exact (hpin b (h2.symm.trans hb)).2
   ·rw [h2] at hb
    injection hb with hb;exact ⟨by omega,by omega⟩
  ·exact hold (by unfold allV;simp only [Ado];exact .inr (.inr (.inr (.inr hv))))
  ·exact hold (by simp [allV])
  ·exact hold (by simp [allV])
  ·cases hv
 ·rw [ho];exact List.mem_append_right _ h.pown
 ·rw [ho];exact List.mem_append_right _ h.mown
 ·intro b hb
  rw [ho] at hb;rcases Adp.1 hb with hb | hb
  ·exact hnlt b (AS.1 hb)
  ·exact Adi (hlt b hb) hT.size
end
section
open Go Go.RowKit
theorem PQ:∃ i,Tryz.prog.info? 208=some i∧i.zero=some (.agg #[.int .i64 0,.int .i64 0,.slice none 0 0,.slice none 0 0])∧i.size=4∧i.bytes=64:=by
 have h:(Tryz.prog.info? 208).map (fun i=>(i.zero,i.size,i.bytes))=some (some (.agg #[.int .i64 0,.int .i64 0,.slice none 0 0,.slice none 0 0]),4,64):=by kernel_rfl
 obtain ⟨i,hi,he⟩:=Option.map_eq_some_iff.1 h;injection he with h1 h2;injection h2 with h2 h3;exact ⟨i,hi,h1,h2,h3⟩
theorem Touch.trans {p:Nat} {v:Value} {w w1 w2:World} (h:Touch p v w w1) (k:Touch p v w1 w2):Touch p v w w2:=
 ⟨k.os.trans h.os,k.tape.trans h.tape,k.output.trans h.output,Adg h.size k.size,fun b hb e1 e2=>(k.block b (Adi hb h.size) e1 e2).trans (h.block b hb e1 e2)⟩
theorem NR.form {lo:Nat} {own:List Nat} {w:World} {l:List Nd} {v:Value} (h:NR lo own w l v):∃ a c,v=.slice a l.length c:=by
 obtain ⟨us,_,h2,_,_⟩:=h;exact AZ h2
theorem PR (lo p mp:Nat) (own:List Nat) (w:World) (s:ByteArray) (e:ES) (sv mv bv pv ov:Value) (rows:List (Value × Value)) (h:Em lo p mp own w s e sv mv bv pv ov rows) (k:Nat) (hd:e.outer.length=12) :
  Calls Tryz.prog 131 #[.pointer (some ⟨p,0,none⟩),.int .i64 (k:Int)] w fun x w'=>x=.returned (.tuple #[.int .i64 (k:Int),.int .i64 4])∧w'=w:=by
 obtain ⟨oa,oc,rfl⟩:=AZ h.on;have k8:w.cell? ⟨p,8,none⟩=some (.slice oa e.outer.length oc):=(h.blk.cell 8).trans rfl;rw [hd] at k8;clear h;go_enter Tryz.func131,Tryz.ntmps131;go_wp2_with fail
 go_ret2
 exact ⟨rfl,rfl⟩
theorem SR (lo p mp:Nat) (own:List Nat) (w:World) (s:ByteArray) (e:ES) (sv mv bv pv ov:Value) (rows:List (Value × Value)) (h:Em lo p mp own w s e sv mv bv pv ov rows) (k:Nat) (hd:e.outer.length < 12) (hg:e.groups≤250)
  (hok:EOk s.data.toList { e with groups:=e.groups+1,outer:=e.outer++[e.inner],inner:=⟨k,e.groups+1,[],[]⟩ }) :
  Calls Tryz.prog 131 #[.pointer (some ⟨p,0,none⟩),.int .i64 (k:Int)] w fun x w'=>x=.returned (.tuple #[.int .i64 0,.int .i64 0])∧∃ own' ov',Em lo p mp own' w' s { e with groups:=e.groups+1,outer:=e.outer++[e.inner],inner:=⟨k,e.groups+1,[],[]⟩ } sv mv (.slice none 0 0) (.slice none 0 0) ov' (rows++[(bv,pv)])∧w.heap.size≤w'.heap.size∧Touch p ov w w':=by
 obtain ⟨i0,hi,hz0,hz1,hz2⟩:=PQ;obtain ⟨oa,oc,rfl⟩:=AZ h.on;obtain ⟨ba,bc,rfl⟩:=h.bn.form;obtain ⟨pa,pc,rfl⟩:=h.pn.form;have hb:=h.blk;have hplt:=hb.lt;have hop:(Value.slice oa e.outer.length oc).ownBlock≠some p:=fun hx=>(h.inown _ (by simp [allV]) p hx).2.1 rfl
 have k4:w.cell? ⟨p,4,none⟩=some (.int .i64 (e.inner.op:Int)):=(hb.cell 4).trans rfl;have k5:w.cell? ⟨p,5,none⟩=some (.int .i64 (e.inner.num:Int)):=(hb.cell 5).trans rfl;have k6:w.cell? ⟨p,6,none⟩=some (.slice ba e.inner.brs.length bc):=(hb.cell 6).trans rfl;have k7:w.cell? ⟨p,7,none⟩=some (.slice pa e.inner.pcs.length pc):=(hb.cell 7).trans rfl;have k8:w.cell? ⟨p,8,none⟩=some (.slice oa e.outer.length oc):=(hb.cell 8).trans rfl;have k9:w.cell? ⟨p,9,none⟩=some (.int .i64 (e.groups:Int)):=(hb.cell 9).trans rfl;have z9:=hb.frozen 9;have Wg:IntKind.i64.wrap ((e.groups:Int)+1)=((e.groups+1:Nat):Int):=by rw [Adm _ (by omega)];omega
 have e0:((e.outer.length:Int) == 12)=false:=by rw [beq_eq_false_iff_ne];omega
 have e1:(e.outer.length == 12)=false:=by rw [beq_eq_false_iff_ne];omega
 have HH:=Ac8 h;have HB:=Ac8 hb;have HOK:=Ac8 hok;clear h hb hok;go_enter Tryz.func131,Tryz.ntmps131;go_wp2_with fail
 obtain ⟨W1,hW1⟩:∃ W1,W1=w.setCell ⟨p,9,none⟩ (.int .i64 ((e.groups:Int)+1)):=⟨_,rfl⟩;rw [←hW1];have hB1:Blk W1 p (EC (.string s) sv (.int .i64 (e.pos:Int)) mv (.int .i64 (e.inner.op:Int)) (.int .i64 (e.inner.num:Int)) (.slice ba e.inner.brs.length bc) (.slice pa e.inner.pcs.length pc) (.slice oa e.outer.length oc) (.int .i64 ((e.groups:Int)+1)) (.map (some mp))) 211:=by rw [hW1];exact HB.out.set 9 _
 have hs1:W1.heap.size=w.heap.size:=by rw [hW1];simp [World.setCell]
 have hT1:Touch p (.slice oa e.outer.length oc) w W1:=by rw [hW1];exact (Touch.refl _ _ _).cell _
 have ho1:W1.ownsRow lo 208 4 (.slice oa e.outer.length oc) e.outer.length (levC e.outer rows):=by
  rw [hW1];exact Aa HH.out.on (fun q hq=>Adl _ _ _ _ (fun x=>hop (by rw [hq,x])))
 have HS1:=Ac8 hs1;have HT1:=Ac8 hT1;have HO1:=Ac8 ho1;have HB1:=Ac8 hB1;have hp1:=hB1.lt;have q4:W1.cell? ⟨p,4,none⟩=some (.int .i64 (e.inner.op:Int)):=(hB1.cell 4).trans rfl;have q5:W1.cell? ⟨p,5,none⟩=some (.int .i64 (e.inner.num:Int)):=(hB1.cell 5).trans rfl;have q6:W1.cell? ⟨p,6,none⟩=some (.slice ba e.inner.brs.length bc):=(hB1.cell 6).trans rfl;have q7:W1.cell? ⟨p,7,none⟩=some (.slice pa e.inner.pcs.length pc):=(hB1.cell 7).trans rfl;have q8:W1.cell? ⟨p,8,none⟩=some (.slice oa e.outer.length oc):=(hB1.cell 8).trans rfl;have hm1:e.outer.length+1≤maxLen:=by unfold maxLen;omega
 have hm2:(e.outer.length+1) * 64≤140737488355328:=by omega
 have hlw:lo≤W1.heap.size:=Adg HH.out.lop (Adj hp1);have hnews:∀ W:World,W.heap.size=W1.heap.size→∀ j u,[Value.int .i64 (e.inner.op:Int),.int .i64 (e.inner.num:Int),.slice ba e.inner.brs.length bc,.slice pa e.inner.pcs.length pc][j]?=some u→(W.alloc (.cells #[.int .i64 (e.inner.op:Int),.int .i64 (e.inner.num:Int),.slice ba e.inner.brs.length bc,.slice pa e.inner.pcs.length pc] 208)).cell? ((⟨W1.heap.size,0,none⟩:Addr).add j)=some u:=fun W hW j u hu=>by
  have hb2:=Blk.new W #[.int .i64 (e.inner.op:Int),.int .i64 (e.inner.num:Int),.slice ba e.inner.brs.length bc,.slice pa e.inner.pcs.length pc] 208 W1.heap.size hW.symm;rw [Go.WideShapes.add_plain,Nat.zero_add,hb2.cell j,←Array.getElem?_toList];exact hu
 have hv1:∀ u∈[Value.int .i64 (e.inner.op:Int),.int .i64 (e.inner.num:Int),.slice ba e.inner.brs.length bc,.slice pa e.inner.pcs.length pc],u.oneCell'=true:=by
  intro u hu;simp only [Ado] at hu;rcases hu with rfl | rfl | rfl | rfl | hu
  ·rfl
  ·rfl
  ·rfl
  ·rfl
  ·cases hu
 clear hW1 hs1 hT1 ho1 hB1 k4 k5 k6 k7 k8 k9 z9;go_upto_region 4 with fail
 go_region_law (first
  | (refine A1 rfl _ _ 209 rfl lo 208 i0 (.agg #[.int .i64 0,.int .i64 0,.slice none 0 0,.slice none 0 0]) 4 64 Tryz.underlying209 hi hz0 hz1 hz2 rfl (by decide) (.slice oa e.outer.length oc) e.outer.length (levC e.outer rows) rfl (Ag HO1.out (by repeat (first | (with_reducible exact Adk _ _) | refine Below.drew ?_ | refine Below.alloc ?_ (Adf _) _))) (some ⟨W1.heap.size,0,none⟩) 1 1 [.int .i64 (e.inner.op:Int),.int .i64 (e.inner.num:Int),.slice ba e.inner.brs.length bc,.slice pa e.inner.pcs.length pc] rfl rfl (fun _=>⟨_,rfl,hnews _ rfl⟩) hv1 hm1 hm2 (by simp;omega) ?_;intro v6 w6 hown6 hgrow6 hat6;obtain ⟨a6,c6,rfl⟩:=AZ hown6;have hB6:=DM ((HB1.out.alloc _).drew) hgrow6 hop;have f4:=hB6.frozen 4;have f5:=hB6.frozen 5;have f6:=hB6.frozen 6;have f7:=hB6.frozen 7;have f8:=hB6.frozen 8;have g4:w6.cell? ⟨p,4,none⟩=some (.int .i64 (e.inner.op:Int)):=(hB6.cell 4).trans rfl;have g5:w6.cell? ⟨p,5,none⟩=some (.int .i64 (e.inner.num:Int)):=(hB6.cell 5).trans rfl;have g6:w6.cell? ⟨p,6,none⟩=some (.slice ba e.inner.brs.length bc):=(hB6.cell 6).trans rfl;have g7:w6.cell? ⟨p,7,none⟩=some (.slice pa e.inner.pcs.length pc):=(hB6.cell 7).trans rfl;have g8:w6.cell? ⟨p,8,none⟩=some (.slice oa e.outer.length oc):=(hB6.cell 8).trans rfl;have g9:w6.cell? ⟨p,9,none⟩=some (.int .i64 ((e.groups:Int)+1)):=(hB6.cell 9).trans rfl;have HT:=Ac8 (fun y=>Kb (p:=p) (j:=8) (((Adk W1.heap.size W1).alloc (Adf _) _).drew) hgrow6 y);have HA:=Ac8 hat6;have HO:=Ac8 hown6;have HB6:=Ac8 hB6;clear hown6 hgrow6 hat6 hB6))
 all_goals go_wp2_with fail
 all_goals go_ret2
 all_goals
  have hF:(Value.slice a6 (e.outer.length+1) c6).ownBlock=(Value.slice oa e.outer.length oc).ownBlock∨∃ q,w.heap.size≤q∧(Value.slice a6 (e.outer.length+1) c6).ownBlock=some q:=by
   rcases HA.out with h | h
   ·exact .inl h
   ·exact .inr ⟨_,by have:=HS1.out;simp;omega,h⟩
  have hvp:(Value.slice a6 (e.outer.length+1) c6).ownBlock≠some p:=by
   rcases hF with h | ⟨q,hq,h⟩
   ·rw [h];exact hop
   ·rw [h]
    intro x;injection x with x;omega
  have hT:=HT1.out.trans (((((HT.out (.slice a6 (e.outer.length+1) c6)).cell (j:=4) (.int .i64 (k:Int))).cell (j:=5) (.int .i64 ((e.groups:Int)+1))).cell (j:=6) (.slice none 0 0)).cell (j:=7) (.slice none 0 0));have hB:=((((HB6.out.set 8 (.slice a6 (e.outer.length+1) c6)).set 4 (.int .i64 (k:Int))).set 5 (.int .i64 ((e.groups:Int)+1))).set 6 (.slice none 0 0)).set 7 (.slice none 0 0);have hfar:∀ (W:World) (j:Nat) (y:Value) (q:Nat),(Value.slice a6 (e.outer.length+1) c6).ownBlock=some q→(W.setCell ⟨p,j,none⟩ y).heap[q]?=W.heap[q]?:=fun W j y q hq=>Adl _ _ _ _ (fun x=>hvp (by rw [hq,x]))
  have hN:=Aa (Aa (Aa (Aa (Aa HO.out (hfar _ 8 (.slice a6 (e.outer.length+1) c6))) (hfar _ 4 (.int .i64 (k:Int)))) (hfar _ 5 (.int .i64 ((e.groups:Int)+1)))) (hfar _ 6 (.slice none 0 0))) (hfar _ 7 (.slice none 0 0));exact ⟨rfl,_,_,Em.opened (k:=k) (g':=e.groups+1) HH.out hT hF rfl hN hB HOK.out,hT.size,hT⟩
end
section
open Go Go.RowKit
theorem PS (d:Int) (h0:0≤d) (h1:d≤255):keyOf Tryz.prog 3 (.int .i64 d)=some (.int .i64 d):=by
 have hu:=Tryz.underlying3;have hw:(Lit.int .i64 d).wf=true:=by simp [Lit.wf,IntKind.min,IntKind.max,IntKind.bits,IntKind.signed];omega
 simp [keyOf,mapKey,hu,hw]
theorem Em.below {lo p mp:Nat} {own:List Nat} {w w':World} {s:ByteArray} {e:ES} {sv mv bv pv ov:Value} {rows:List (Value × Value)} (h:Em lo p mp own w s e sv mv bv pv ov rows) (hb:Below w.heap.size w w'):Em lo p mp own w' s e sv mv bv pv ov rows:=by
 have hrow:∀ v,v∈allV mv bv pv ov rows→∀ b,v.ownBlock=some b→w'.heap[b]?=w.heap[b]?:=fun v hv b hx=>hb.block b (h.ownlt b (h.inown v hv b hx).1)
 have hoff:∀ b,b < w.heap.size→b ∉ own→w'.heap[b]?=w.heap[b]?∧b ∉ own:=fun b hl ho=>⟨hb.block b hl,ho⟩
 have hrows:∀ i (h2:i < rows.length),(rows[i].1∈rows.flatMap fun r=>[r.1,r.2])∧(rows[i].2∈rows.flatMap fun r=>[r.1,r.2]):=fun i h2=>
  ⟨List.mem_flatMap.2 ⟨rows[i],List.getElem_mem h2,by simp⟩,List.mem_flatMap.2 ⟨rows[i],List.getElem_mem h2,by simp⟩⟩
 have hin:∀ v,v∈(rows.flatMap fun r=>[r.1,r.2])→v∈allV mv bv pv ov rows:=fun v hv=>by unfold allV;simp only [Ado];exact .inr (.inr (.inr (.inr hv)))
 refine ⟨h.blk.below hb h.blk.lt,h.lop,h.lom,?_,Aa h.mks (hrow mv (by simp [allV])),h.bn.keep hb.size (hrow bv (by simp [allV])) hoff,h.pn.keep hb.size (hrow pv (by simp [allV])) hoff,Aa h.on (hrow ov (by simp [allV])),h.ol,fun i h1 h2=>?_,h.cl.same (hb.block mp (h.ownlt mp h.mown)),h.apart,h.inown,h.pown,h.mown,h.pm,fun b hx=>Adi (h.ownlt b hx) hb.size,h.ok⟩
 ·obtain ⟨a,c,e1,e2,e3⟩:=h.sg
  refine ⟨a,c,e1,e2,fun h0=>?_⟩;obtain ⟨g,rfl,hg,hgl,hc⟩:=e3 h0;exact ⟨g,rfl,hg,Adi hgl hb.size,fun i hi=>(hb.cell (p:=⟨g,i,none⟩) hgl).trans (hc i hi)⟩
 ·obtain ⟨o1,o2⟩:=h.orow i h1 h2
  exact ⟨o1.keep hb.size (hrow _ (hin _ (hrows i h2).1)) hoff,o2.keep hb.size (hrow _ (hin _ (hrows i h2).2)) hoff⟩
theorem Em.low {lo p mp:Nat} {own:List Nat} {w w':World} {s:ByteArray} {e:ES} {sv mv bv pv ov v:Value} {rows:List (Value × Value)} (h:Em lo p mp own w s e sv mv bv pv ov rows) (hv:∀ g,v.ownBlock=some g→lo≤g∧g < w.heap.size) (hT:Touch p v w w'):Below lo w w':=
 ⟨hT.os,hT.tape,hT.output,hT.size,fun k hk=>hT.block k (Nat.lt_trans (Adi hk h.lop) h.blk.lt) (fun x=>by have:=h.lop;omega) (fun x=>by have:=(hv k x).1;omega)⟩
def CG (lo p mp:Nat) (w:World) (s:ByteArray) (e:ES):Prop:=∃ own sv mv bv pv ov rows,Em lo p mp own w s e sv mv bv pv ov rows
theorem Em.goto {lo p mp:Nat} {own:List Nat} {w:World} {s:ByteArray} {e:ES} {sv mv bv pv ov:Value} {rows:List (Value × Value)} (h:Em lo p mp own w s e sv mv bv pv ov rows) (j:Nat) (hok:EOk s.data.toList { e with pos:=j }):Em lo p mp own (w.setCell ⟨p,2,none⟩ (.int .i64 (j:Int))) s { e with pos:=j } sv mv bv pv ov rows:=by
 have hsz:(w.setCell ⟨p,2,none⟩ (.int .i64 (j:Int))).heap.size=w.heap.size:=by simp [World.setCell]
 have hfar:∀ b,b≠p→(w.setCell ⟨p,2,none⟩ (.int .i64 (j:Int))).heap[b]?=w.heap[b]?:=fun b hb=>Adl _ _ _ _ (fun x=>hb x)
 have hrow:∀ v,v∈allV mv bv pv ov rows→∀ b,v.ownBlock=some b→(w.setCell ⟨p,2,none⟩ (.int .i64 (j:Int))).heap[b]?=w.heap[b]?:=fun v hv b hx=>hfar b (h.inown v hv b hx).2.1
 have hoff:∀ b,b < w.heap.size→b ∉ own→(w.setCell ⟨p,2,none⟩ (.int .i64 (j:Int))).heap[b]?=w.heap[b]?∧b ∉ own:=fun b _ ho=>⟨hfar b (fun x=>ho (x▸h.pown)),ho⟩
 have hrows:∀ i (h2:i < rows.length),(rows[i].1∈rows.flatMap fun r=>[r.1,r.2])∧(rows[i].2∈rows.flatMap fun r=>[r.1,r.2]):=fun i h2=>
  ⟨List.mem_flatMap.2 ⟨rows[i],List.getElem_mem h2,by simp⟩,List.mem_flatMap.2 ⟨rows[i],List.getElem_mem h2,by simp⟩⟩
 have hin:∀ v,v∈(rows.flatMap fun r=>[r.1,r.2])→v∈allV mv bv pv ov rows:=fun v hv=>by unfold allV;simp only [Ado];exact .inr (.inr (.inr (.inr hv)))
 have hsl:w.heap.size≤(w.setCell ⟨p,2,none⟩ (.int .i64 (j:Int))).heap.size:=Nat.le_of_eq hsz.symm;refine ⟨h.blk.set 2 _,h.lop,h.lom,?_,Aa h.mks (hrow mv (by simp [allV])),h.bn.keep hsl (hrow bv (by simp [allV])) hoff,h.pn.keep hsl (hrow pv (by simp [allV])) hoff,Aa h.on (hrow ov (by simp [allV])),h.ol,fun i h1 h2=>?_,h.cl.same (hfar mp (fun x=>h.pm x.symm)),h.apart,h.inown,h.pown,h.mown,h.pm,fun b hx=>by rw [hsz];exact h.ownlt b hx,hok⟩
 ·obtain ⟨a,c,e1,e2,e3⟩:=h.sg
  refine ⟨a,c,e1,e2,fun h0=>?_⟩;obtain ⟨g,rfl,hg,hgl,hc⟩:=e3 h0;exact ⟨g,rfl,hg,by rw [hsz];exact hgl,fun i hi=>(Adn (w:=w) (a:=⟨g,i,none⟩) (hfar g (fun x=>hg (x▸h.pown)))).trans (hc i hi)⟩
 ·obtain ⟨o1,o2⟩:=h.orow i h1 h2
  exact ⟨o1.keep hsl (hrow _ (hin _ (hrows i h2).1)) hoff,o2.keep hsl (hrow _ (hin _ (hrows i h2).2)) hoff⟩
theorem ST (lo p mp:Nat) (own:List Nat) (w:World) (s:ByteArray) (e:ES) (sv mv bv pv ov:Value) (rows:List (Value × Value)) (h:Em lo p mp own w s e sv mv bv pv ov rows) (k:Nat) (d:Int) (hd:0≤d∧d≤255) (hc:e.closed.contains d=false) :
  Calls Tryz.prog 149 #[.pointer (some ⟨p,0,none⟩),.int .i64 (k:Int),.int .i64 d] w fun x w'=>x=.returned (.tuple #[.int .i64 (k:Int),.int .i64 9])∧Below w.heap.size w w':=by
 obtain ⟨n,D,hn,hown,hk⟩:=h.cl;have hkd:=(hk d).trans hc;have k10:w.cell? ⟨p,10,none⟩=some (.map (some mp)):=(h.blk.cell 10).trans rfl;have hkey:=PS d hd.1 hd.2;have hlb:=Ac8 hkd;clear h hk hc hkd;go_enter Tryz.func149,Tryz.ntmps149;go_wp2_with (at_lookup;refine wpList_lookup_own_ok _ rfl _ _ 206 rfl 3 104 (Go.Maps.int_keyed Tryz.underlying3) Tryz.underlying206 unitElem (z:=.agg #[]) (by rfl) (.agg []) [] unitElem_mk mp n D rfl hown _ _ rfl hkey ?_;intro v ps hv;obtain ⟨rfl,_⟩:=unitElem_inv hv;rw [hlb.out])
 go_ret2
 exact ⟨rfl,(Adk _ _).alloc (Adf _) _⟩
theorem VG (lo p mp:Nat) (own:List Nat) (w:World) (s:ByteArray) (e:ES) (sv mv bv pv ov:Value) (rows:List (Value × Value)) (h:Em lo p mp own w s e sv mv bv pv ov rows) (k c:Nat) (d:Int) (hd:0≤d∧d≤255) (hs:s.size≤250) (hk:e.pos=k+2) (h92:byt s.data.toList k=92) (hbc:byt s.data.toList (k+1)=c) (hc1:c < 128) (hc:e.closed.contains d=true)
  (hok1:EOk s.data.toList { e with marks:=e.marks++[(k,c)] }) (hok2:EOk s.data.toList (({ e with marks:=e.marks++[(k,c)] }:ES).at ({ e with marks:=e.marks++[(k,c)] }:ES).st (e.inner.pcs++[.back d]))) :
  Calls Tryz.prog 149 #[.pointer (some ⟨p,0,none⟩),.int .i64 (k:Int),.int .i64 d] w fun x w'=>x=.returned (.tuple #[.int .i64 0,.int .i64 0])∧CG lo p mp w' s (({ e with marks:=e.marks++[(k,c)] }:ES).at ({ e with marks:=e.marks++[(k,c)] }:ES).st (e.inner.pcs++[.back d]))∧Below lo w w':=by
 obtain ⟨n,D,hn,hown,hkk⟩:=h.cl;have hkd:=(hkk d).trans hc;have k10:w.cell? ⟨p,10,none⟩=some (.map (some mp)):=(h.blk.cell 10).trans rfl;have hkey:=PS d hd.1 hd.2;have hlb:=Ac8 hkd;have h1:=h.below ((Adk w.heap.size w).alloc (Adf _) (.cells #[] 104));have hps:k+2≤s.size:=by have:=h.ok.pos;rw [hk] at this;simpa using this
 obtain ⟨sa,sc,rfl,e2,e3⟩:=h1.sg;obtain ⟨g,rfl,hg,hgl,hcell⟩:=e3 (by omega);have hml:e.marks.length≤1000:=by have:=h.ok.marks;omega
 have hmk:=Iu lo p g s.size sc k e.pos c _ _ _ _ _ _ _ _ mv e.marks _ h1.lop h1.blk h1.mks (fun hx=>(h1.inown mv (by simp [allV]) p hx).2.1 rfl) hk (by omega) e2 (by rw [hcell k (by omega),h92];rfl) (by rw [hcell (k+1) (by omega),hbc]) hc1 hml;have HB0:=Ac8 (((Adk w.heap.size w).alloc (Adf _) (.cells #[] 104)).mono (Adg h.lop (Adj h.blk.lt)));have H1:=Ac8 h1;have HK1:=Ac8 hok1;have HK2:=Ac8 hok2;have HPL:=Ac8 (show e.inner.pcs.length≤1000 by have:=h.ok.inner.2.2.1;have:=h.ok.pos;simp at this;omega);clear h hkk hkd hc h1 e3 hcell hok1 hok2 h92 hbc hml;go_enter Tryz.func149,Tryz.ntmps149;go_wp2_with (at_lookup;refine wpList_lookup_own_ok _ rfl _ _ 206 rfl 3 104 (Go.Maps.int_keyed Tryz.underlying3) Tryz.underlying206 unitElem (z:=.agg #[]) (by rfl) (.agg []) [] unitElem_mk mp n D rfl hown _ _ rfl hkey ?_;intro v ps hv;obtain ⟨rfl,_⟩:=unitElem_inv hv;rw [hlb.out])
 refine hmk.mono ?_;rintro x w2 ⟨mv',rfl,hm2,hB2,hT2,hF2⟩;have hE2:=Em.marked (q:=(k,c)) H1.out hT2 hF2 rfl hm2 hB2 HK1.out;have hadd:=Oa lo p (ownB mv'++own) _ _ _ _ _ _ bv pv _ _ _ e.inner.pcs (.back d) (.iface 117 (.agg #[.int .i64 d])) w2 hE2.lop hE2.blk hE2.pn (fun hx=>(hE2.inown pv (by simp [allV]) p hx).2.1 rfl) hE2.pown (fun q hq=>(hE2.inown pv (by simp [allV]) q hq).1) ⟨1,rfl⟩ rfl HPL.out;have HB2:=Ac8 (HB0.out.trans (H1.out.low H1.out.mks.lt hT2));have HE2:=Ac8 hE2;clear hmk hm2 hB2 hT2 hF2 hE2;go_wp2_with fail
 refine hadd.mono ?_;rintro x w3 ⟨pv',rfl,hN3,hB3,hT3,hF3⟩;have hE3:=Em.pieces (l:=e.inner.pcs++[.back d]) HE2.out hT3 hF3 rfl hN3 hB3 HK2.out;have HB3:=Ac8 (HB2.out.trans (HE2.out.low HE2.out.pn.lt hT3));clear hadd hN3 hB3 hT3 hF3;go_wp2_with fail
 go_ret2
 exact ⟨rfl,⟨_,_,_,_,_,_,_,hE3⟩,HB3.out⟩
end
section
open Go Go.RowKit
theorem KG {w:World} {B:Nat} {e:TypeId} {size n k c:Nat} {a:Option Addr} {xs:List Value} (h:w.ownsRow B e size (.slice a n c) n xs) (hk:k≤n) (h0:0 < n):w.ownsRow B e size (.slice a k c) k (xs.take (k * size)):=by
 have hm:k * size≤n * size:=Nat.mul_le_mul_right _ hk;refine ⟨by rw [List.length_take,h.1];omega,?_⟩;rcases h.2 with ⟨_,h1⟩ | ⟨g,cap,cur,hv,hb,hh,hn,hmx,hs,ht⟩
 ·omega
 ·injection hv with h1 h2 h3
  subst h1 h3;exact .inr ⟨g,c,cur,rfl,hb,hh,by omega,hmx,hs,by rw [←ht,List.take_take];congr 1;omega⟩
theorem MapAt.put {w':World} {b:Nat} {cl:List Int} {n:Nat} {D:DataW Unit} {d:DataW Unit} {num:Int} (hn:n≤cl.length) (hD:Go.Maps.IsMap D) (hk:∀ k:Int,Maps.has D (.int .i64 k)=cl.contains k) (h:w'.ownsMap Tryz.prog 3 unitElem b (n+1) (D.put (.int .i64 num) d)):MapAt w' b (cl++[num]):=by
 refine ⟨n+1,_,by rw [Adh];simpa using hn,h,fun k=>?_⟩;by_cases hkn:k=num
 ·subst hkn
  rw [Maps.has_put_same hD (by simp [WideAt.IsKeyLit])];simp
 ·rw [Maps.has_put_other (by intro h;injection h with _ h;exact hkn h),hk k]
  simp [List.contains_eq_mem,Adp,hkn]
theorem Em.popped {lo p mp:Nat} {own own':List Nat} {w w':World} {s:ByteArray} {e:ES} {sv mv bv bv' pv rb rp:Value} {oa:Option Addr} {oc n:Nat} {rows R:List (Value × Value)} {L:List Lv} {v:Lv} {cl:List Int}
  (h:Em lo p mp own w s e sv mv bv pv (.slice oa n oc) rows) (hL:e.outer=L++[v]) (hR:rows=R++[(rb,rp)]) (hsz:w.heap.size≤w'.heap.size)
  (hsame:∀ b,b < w.heap.size→b≠p→b≠mp→bv.ownBlock≠some b→w'.heap[b]?=w.heap[b]?)
  (hnew:bv'.ownBlock=bv.ownBlock∨∃ g,w.heap.size≤g∧g < w'.heap.size∧bv'.ownBlock=some g) (ho:own'=ownB bv'++own)
  (hB:Blk w' p (EC (.string s) sv (.int .i64 (e.pos:Int)) mv (.int .i64 (v.op:Int)) (.int .i64 (v.num:Int)) rb rp (.slice oa L.length oc) (.int .i64 (e.groups:Int)) (.map (some mp))) 211)
  (hcl:MapAt w' mp cl) (hok:EOk s.data.toList { e with closed:=cl,outer:=L,inner:=v }):Em lo p mp own' w' s { e with closed:=cl,outer:=L,inner:=v } sv mv rb rp (.slice oa L.length oc) R:=by
 have hin:∀ v∈allV mv bv pv (.slice oa n oc) rows,∀ b,v.ownBlock=some b→b∈own∧b≠p∧b≠mp:=h.inown;have hbin:∀ b,bv.ownBlock=some b→b∈own∧b≠p∧b≠mp:=fun b hb=>hin bv (by simp [allV]) b hb
 have hlt:∀ b∈own,b < w.heap.size:=h.ownlt;have hoff:∀ b,b < w.heap.size→b ∉ own→w'.heap[b]?=w.heap[b]?∧b ∉ own':=fun b hb hbo=>by
  refine ⟨hsame b hb (fun e=>hbo (e▸h.pown)) (fun e=>hbo (e▸h.mown)) (fun e=>hbo (hbin b e).1),?_⟩;rw [ho,Adp,not_or];refine ⟨fun e=>?_,hbo⟩;rw [AS] at e;rcases hnew with h2 | ⟨g,hg,_,h2⟩
  ·exact hbo (hbin b (h2.symm.trans e)).1
  ·rw [h2] at e;injection e with e;omega
 have hap:=h.apart;have hol:=h.ol;rw [hL,hR,Adh,Adh] at hol;have hRL:R.length=L.length:=by simpa using hol
 have hon:=h.on;have hn:n=L.length+1:=by
  have h1:=AZ hon;obtain ⟨_,_,h1⟩:=h1;injection h1 with _ h1 _;rw [h1,hL,Adh];rfl
 subst hR;unfold allV at hap;simp only [List.pairwise_cons] at hap;obtain ⟨a1,a2,a3,a4,a5⟩:=hap;have hfm:(R++[(rb,rp)]).flatMap (fun r=>[r.1,r.2])=(R.flatMap fun r=>[r.1,r.2])++[rb,rp]:=by rw [List.flatMap_append];simp
 rw [hfm] at a1 a2 a3 a4 a5;have hmem:∀ u,(u=mv∨u=.slice oa n oc∨u∈(R.flatMap fun r=>[r.1,r.2])++[rb,rp])→u∈allV mv bv pv (.slice oa n oc) (R++[(rb,rp)]):=fun u hu=>by
  unfold allV;rw [hfm];simp only [Ado];rcases hu with rfl | rfl | hu
  ·exact .inl rfl
  ·exact .inr (.inr (.inr (.inl rfl)))
  ·exact .inr (.inr (.inr (.inr hu)))
 have hrow:∀ u,(u=mv∨u=.slice oa n oc∨u∈(R.flatMap fun r=>[r.1,r.2])++[rb,rp])→∀ b,u.ownBlock=some b→w'.heap[b]?=w.heap[b]?:=fun u hu b hb=>by
  obtain ⟨e1,e2,e3⟩:=hin u (hmem u hu) b hb;refine hsame b (hlt b e1) e2 e3 (fun hp=>?_);rcases hu with rfl | rfl | hu
  ·exact a1 bv (by simp) b hb hp
  ·exact a2 _ (by simp) b hp hb
  ·exact a2 u (by simp only [Ado];exact .inr (.inr hu)) b hp hb
 have hrbm:rb∈(R.flatMap fun r=>[r.1,r.2])++[rb,rp]:=by simp
 have hrpm:rp∈(R.flatMap fun r=>[r.1,r.2])++[rb,rp]:=by simp
 have hrows:∀ i (h2:i < R.length),(R[i].1∈(R.flatMap fun r=>[r.1,r.2])++[rb,rp])∧(R[i].2∈(R.flatMap fun r=>[r.1,r.2])++[rb,rp]):=fun i h2=>
  ⟨List.mem_append_left _ (List.mem_flatMap.2 ⟨R[i],List.getElem_mem h2,by simp⟩),List.mem_append_left _ (List.mem_flatMap.2 ⟨R[i],List.getElem_mem h2,by simp⟩)⟩
 have hlv:∀ (L:List Lv) (R:List (Value × Value)),R.length=L.length→(levC L R).length=L.length * 4:=fun L R hl=>by
  unfold levC;rw [List.length_flatMap];have:((L.zip R).map fun a=>[Value.int .i64 (a.1.op:Int),.int .i64 (a.1.num:Int),a.2.1,a.2.2].length)=List.replicate (L.zip R).length 4:=by
   rw [List.eq_replicate_iff];refine ⟨by simp,fun b hb=>?_⟩;obtain ⟨x,_,rfl⟩:=List.mem_map.1 hb;rfl
  rw [this];simp [hl]
 have hz:levC (L++[v]) (R++[(rb,rp)])=levC L R++[.int .i64 (v.op:Int),.int .i64 (v.num:Int),rb,rp]:=by
  unfold levC;rw [List.zip_append (by omega),List.flatMap_append];simp
 have hlast:NR lo own w v.brs rb∧NR lo own w v.pcs rp:=by
  have:=h.orow L.length (by rw [hL];simp) (by simp;omega);have e1:(R++[(rb,rp)])[L.length]'(by simp;omega)=(rb,rp):=by rw [List.getElem_append_right (by omega)];simp [hRL]
  have e2:e.outer[L.length]'(by rw [hL];simp)=v:=by simp [hL]
  rw [e1,e2] at this;exact this
 refine ⟨hB,h.lop,h.lom,?_,Aa h.mks (hrow mv (.inl rfl)),hlast.1.keep hsz (hrow rb (.inr (.inr hrbm))) hoff,hlast.2.keep hsz (hrow rp (.inr (.inr hrpm))) hoff,?_,hRL,?_,hcl,?_,?_,?_,?_,h.pm,?_,hok⟩
 ·obtain ⟨a,c,e1,e2,e3⟩:=h.sg
  refine ⟨a,c,e1,e2,fun h0=>?_⟩;obtain ⟨g,rfl,hg,hgl,hc⟩:=e3 h0;exact ⟨g,rfl,(hoff g hgl hg).2,Adi hgl hsz,fun i hi=>(Adn (w:=w) (a:=⟨g,i,none⟩) (hoff g hgl hg).1).trans (hc i hi)⟩
 ·have h1:=Aa hon (hrow _ (.inr (.inl rfl)))
  rw [hL] at h1;have hl2:(L++[v]).length=n:=by rw [hn];simp
  rw [hl2] at h1;have h2:=KG (k:=L.length) h1 (by omega) (by omega);rw [hz,List.take_append_of_le_length (by rw [hlv L R hRL];exact Adf _),List.take_of_length_le (by rw [hlv L R hRL];exact Adf _)] at h2;exact h2
 ·intro i h1 h2
  have h1':i < L.length:=h1;obtain ⟨o1,o2⟩:=h.orow i (by rw [hL];simp;omega) (by simp;omega);have e1:(R++[(rb,rp)])[i]'(by simp;omega)=R[i]:=List.getElem_append_left h2;have e2:e.outer[i]'(by rw [hL];simp;omega)=L[i]:=by simp [hL,List.getElem_append_left h1']
  rw [e1,e2] at o1 o2;exact ⟨o1.keep hsz (hrow _ (.inr (.inr (hrows i h2).1))) hoff,o2.keep hsz (hrow _ (.inr (.inr (hrows i h2).2))) hoff⟩
 ·have hob:∀ b,(Value.slice oa L.length oc).ownBlock=some b→(Value.slice oa n oc).ownBlock=some b:=fun b hb=>by cases oa <;> exact hb
  rw [List.pairwise_append] at a5;obtain ⟨b1,b2,b3⟩:=a5;simp only [List.pairwise_cons] at b2;unfold allV;simp only [List.pairwise_cons];refine ⟨fun u hu=>?_,fun u hu=>?_,fun u hu=>?_,fun u hu=>?_,b1⟩
  ·simp only [Ado] at hu
   rcases hu with rfl | rfl | rfl | hu
   ·exact a1 u (by simp)
   ·exact a1 u (by simp)
   ·exact fun b hb hp=>a1 (.slice oa n oc) (by simp) b hb (hob b hp)
   ·exact a1 u (by simp only [Ado,Adp];exact .inr (.inr (.inr (.inl hu))))
  ·simp only [Ado] at hu
   rcases hu with rfl | rfl | hu
   ·exact b2.1 u (by simp)
   ·exact fun b hb hp=>a4 rb (by simp) b (hob b hp) hb
   ·exact fun b hb hp=>b3 u hu rb (by simp) b hp hb
  ·simp only [Ado] at hu
   rcases hu with rfl | hu
   ·exact fun b hb hp=>a4 rp (by simp) b (hob b hp) hb
   ·exact fun b hb hp=>b3 u hu rp (by simp) b hp hb
  ·exact fun b hb hp=>a4 u (List.mem_append_left _ hu) b (hob b hb) hp
 ·have hob:∀ b,(Value.slice oa L.length oc).ownBlock=some b→(Value.slice oa n oc).ownBlock=some b:=fun b hb=>by cases oa <;> exact hb
  intro u hu b hb;unfold allV at hu;simp only [Ado] at hu;have hold:∀ u,(u=mv∨u=.slice oa n oc∨u∈(R.flatMap fun r=>[r.1,r.2])++[rb,rp])→u.ownBlock=some b→b∈own'∧b≠p∧b≠mp:=fun u hm hb=>by
   obtain ⟨e1,e2,e3⟩:=hin u (hmem u hm) b hb;exact ⟨by rw [ho];exact List.mem_append_right _ e1,e2,e3⟩
  rcases hu with rfl | rfl | rfl | rfl | hu
  ·exact hold u (.inl rfl) hb
  ·exact hold u (.inr (.inr hrbm)) hb
  ·exact hold u (.inr (.inr hrpm)) hb
  ·exact hold _ (.inr (.inl rfl)) (hob b hb)
  ·exact hold u (.inr (.inr (List.mem_append_left _ hu))) hb
 ·rw [ho];exact List.mem_append_right _ h.pown
 ·rw [ho];exact List.mem_append_right _ h.mown
 ·intro b hb
  rw [ho] at hb;rcases Adp.1 hb with hb | hb
  ·rw [AS] at hb
   rcases hnew with h2 | ⟨g,_,hg,h2⟩
   ·exact Adi (hlt b (hbin b (h2.symm.trans hb)).1) hsz
   ·rw [h2] at hb;injection hb with hb;omega
  ·exact Adi (hlt b hb) hsz
theorem SU {F:Nat→Prop} {w:World} {d:Nd} {u:Value} {num:Int} (h:NdX F w d u):NdX F w (.group num d) (.iface 103 (.agg #[.int .i64 num,u])):=by
 obtain ⟨n,h⟩:=h;exact ⟨n+1,u,rfl,h⟩
end
section
open Go Go.RowKit
def AU (lo p mp:Nat) (s:ByteArray) (w:World) (x:Ending) (w':World):Except (Nat × Nat) ES→Prop
 | .error q=>Below lo w w'∧x=.returned (.tuple #[.int .i64 (q.2:Int),.int .i64 (q.1:Int)])
 | .ok e'=>Below lo w w'∧x=.returned (.tuple #[.int .i64 0,.int .i64 0])∧CG lo p mp w' s e'
theorem Aw {lo p mp:Nat} {s:ByteArray} {w w':World} {R:Except (Nat × Nat) ES} {e':ES} (hR:R=.ok e') (hb:Below lo w w') (h:CG lo p mp w' s e'):AU lo p mp s w (.returned (.tuple #[.int .i64 0,.int .i64 0])) w' R:=by subst hR;exact ⟨hb,rfl,h⟩
theorem A8 {lo p mp:Nat} {s:ByteArray} {w w':World} {R:Except (Nat × Nat) ES} {n k:Nat} (hR:R=.error (n,k)) (hb:Below lo w w'):AU lo p mp s w (.returned (.tuple #[.int .i64 (k:Int),.int .i64 (n:Int)])) w' R:=by subst hR;exact ⟨hb,rfl⟩
theorem Ez {lo p mp:Nat} {own:List Nat} {w:World} {s:ByteArray} {e:ES} {sv mv bv pv ov:Value} {rows:List (Value × Value)} (h:Em lo p mp own w s e sv mv bv pv ov rows) (d:Nd) (u:Value) (hu:NdX (fun b=>lo≤b∧b ∉ own) w d u) (hu1:u.oneCell'=true) (hs:s.size≤250) (hok:EOk s.data.toList (e.at e.st (e.inner.pcs++[d]))) :
  Calls Tryz.prog 133 #[.pointer (some ⟨p,4,none⟩),u] w fun x w'=>x=.returned (.tuple #[])∧CG lo p mp w' s (e.at e.st (e.inner.pcs++[d]))∧Below lo w w':=by
 have hpl:e.inner.pcs.length≤1000:=by have:=h.ok.inner.2.2.1;have:=h.ok.pos;simp at this;omega
 refine (Oa lo p own _ _ _ _ _ _ bv pv _ _ _ e.inner.pcs d u w h.lop h.blk h.pn (fun hx=>(h.inown pv (by simp [allV]) p hx).2.1 rfl) h.pown (fun q hq=>(h.inown pv (by simp [allV]) q hq).1) hu hu1 hpl).mono ?_;rintro x w3 ⟨pv',rfl,hN3,hB3,hT3,hF3⟩;exact ⟨rfl,⟨_,_,_,_,_,_,_,Em.pieces (l:=e.inner.pcs++[d]) h hT3 hF3 rfl hN3 hB3 hok⟩,h.low h.pn.lt hT3⟩
theorem Gc {lo p mp:Nat} {own:List Nat} {w:World} {s:ByteArray} {e:ES} {sv mv bv pv ov:Value} {rows:List (Value × Value)} (h:Em lo p mp own w s e sv mv bv pv ov rows) (mn mx:Int) (h0:0 < e.inner.pcs.length) (hs:s.size≤250) (hok:EOk s.data.toList (e.at e.st (e.inner.pcs.dropLast++[.rep (e.inner.pcs.getLastD .empty) mn mx]))) :
  Calls Tryz.prog 146 #[.pointer (some ⟨p,4,none⟩),.int .i64 mn,.int .i64 mx] w fun x w'=>x=.returned (.tuple #[])∧CG lo p mp w' s (e.at e.st (e.inner.pcs.dropLast++[.rep (e.inner.pcs.getLastD .empty) mn mx]))∧Below lo w w':=by
 have hpl:e.inner.pcs.length≤1000:=by have:=h.ok.inner.2.2.1;have:=h.ok.pos;simp at this;omega
 refine (Oc lo p own _ _ _ _ _ _ bv pv _ _ _ e.inner.pcs mn mx w h.blk h.pn (fun hx=>(h.inown pv (by simp [allV]) p hx).2.1 rfl) h.pown (fun q hq=>(h.inown pv (by simp [allV]) q hq).1) h0 hpl).mono ?_;rintro x w3 ⟨rfl,hN3,hB3,hT3⟩;have hown:∀ b,b∈ownB pv++own ↔ b∈own:=fun b=>by
  rw [Adp,AS];exact ⟨fun x=>x.elim (fun x=>(h.inown pv (by simp [allV]) b x).1) id,.inr⟩
 have hN4:NR lo (ownB pv++own) w3 (e.inner.pcs.dropLast++[.rep (e.inner.pcs.getLastD .empty) mn mx]) pv:=hN3.keep (Adf _) (fun _ _=>rfl) (fun b _ hb=>⟨rfl,fun x=>hb ((hown b).1 x)⟩);exact ⟨rfl,⟨_,_,_,_,_,_,_,Em.pieces h hT3 (.inl rfl) rfl hN4 hB3 hok⟩,h.low h.pn.lt hT3⟩
theorem MD (lo p mp:Nat) (w:World) (s:ByteArray) (e:ES) (h:CG lo p mp w s e) (hG:Gl w) (hs:s.size≤250) (t:OSet) (j er:Nat) (hr:Fo s.data.toList (e.pos:Int)=(t,(j:Int),er))
  (hok1:er=0→EOk s.data.toList { e with pos:=j }) (hok2:er=0→EOk s.data.toList (({ e with pos:=j }:ES).at ({ e with pos:=j }:ES).st (e.inner.pcs++[.one t]))) :
  Calls Tryz.prog 135 #[.pointer (some ⟨p,0,none⟩)] w fun x w'=>AU lo p mp s w x w' (if er=0 then .ok (({ e with pos:=j }:ES).at ({ e with pos:=j }:ES).st (e.inner.pcs++[.one t])) else .error (er,j)):=by
 obtain ⟨R,hR⟩:∃ R:Except (Nat × Nat) ES,R=if er=0 then .ok (({ e with pos:=j }:ES).at ({ e with pos:=j }:ES).st (e.inner.pcs++[.one t])) else .error (er,j):=⟨_,rfl⟩
 rw [←hR];have HR:=Ac8 hR;clear hR;obtain ⟨own,sv,mv,bv,pv,ov,rows,h⟩:=h;have k0:w.cell? ⟨p,0,none⟩=some (.string s):=(h.blk.cell 0).trans rfl;have k2:w.cell? ⟨p,2,none⟩=some (.int .i64 (e.pos:Int)):=(h.blk.cell 2).trans rfl;have hpa:=fun (w:World) (hG:Gl w)=>Ln s (e.pos:Int) w (by omega) hG
 rw [hr,show K8 (t,(j:Int),er)=.tuple #[.agg #[.int .u64 (ow t 0),.int .u64 (ow t 1),.int .u64 (ow t 2),.int .u64 (ow t 3)],.int .i64 (j:Int),.int .i64 (er:Int)] from rfl] at hpa;have HH:=Ac8 h;have HK1:=Ac8 hok1;have HK2:=Ac8 hok2;have hplt:=h.blk.lt;have HLo:=Ac8 (Adg h.lop (Adj hplt));clear h hr hok1 hok2;go_enter Tryz.func135,Tryz.ntmps135;go_upto_region 1 with fail;go_cut [4,5,6] (fun s4 s5 s6 wx=>∃ a:Nat,s4=.pointer (some ⟨a,0,none⟩)∧s5=.int .i64 (j:Int)∧s6=.int .i64 (er:Int)∧AtSet w a t wx)
 case first=>
  go_region_with (go_at_call 148;refine (hpa _ (hG.up (by repeat (first | (with_reducible exact Adk _ _) | refine Below.drew ?_ | refine below_drewN ?_ _ | refine Below.alloc ?_ (by first | omega | (simp;omega) | simp) _)))).mono ?_;rintro x w' ⟨rfl,hbX⟩;have hbQ:Below w.heap.size w w':=Below.trans (by repeat (first | (with_reducible exact Adk _ _) | refine Below.drew ?_ | refine below_drewN ?_ _ | refine Below.alloc ?_ (by first | omega | (simp;omega) | simp) _)) (hbX.mono (by simp));(try (have hPz:=((Blk.new w #[.int .u64 0,.int .u64 0,.int .u64 0,.int .u64 0] 109 w.heap.size rfl).drew).below hbX (by simp);obtain ⟨y0,y1,y2,y3,x0,x1,x2,x3,xl⟩:=Cy hPz)))
  all_goals go_wp2_with fail
  all_goals go_meet
  all_goals first
   | exact ⟨_,rfl,rfl,rfl,⟨hbQ.alloc hbQ.size _,Blk.new _ _ _ _ rfl,hbQ.size⟩⟩
   | exact ⟨_,rfl,rfl,rfl,⟨(((hbQ.setCell (p:=⟨w.heap.size,0,none⟩) (Adf _) _).setCell (p:=⟨w.heap.size,1,none⟩) (Adf _) _).setCell (p:=⟨w.heap.size,2,none⟩) (Adf _) _).setCell (p:=⟨w.heap.size,3,none⟩) (Adf _) _,(((hPz.set 0 _).set 1 _).set 2 _).set 3 _,Adf _⟩⟩
 case rest=>
  obtain ⟨a,rfl,rfl,rfl,hA⟩:=hcut;by_cases her:er=0
  ·have HF:=Ac8 (HR.out.trans (if_pos her))
   subst her;have hE1:=HH.out.below hA.b;have hne:p≠a:=fun x=>by have:=hA.lo;omega
   have hne2:a≠p:=fun x=>hne x.symm
   have f2:=hE1.blk.frozen 2;have g2:wc.cell? ⟨p,2,none⟩=some (.int .i64 (e.pos:Int)):=(hE1.blk.cell 2).trans rfl;have hE3:=hE1.goto j (HK1.out rfl);have hT3:=hA.s.set_other ⟨p,2,none⟩ (fun x=>hne x) (.int .i64 (j:Int));have HL3:=Ac8 ((hA.b.mono HLo.out).trans ((Adk lo wc).setCell (p:=⟨p,2,none⟩) HH.out.lop (.int .i64 (j:Int))));obtain ⟨W3,hW3⟩:∃ W3,W3=wc.setCell ⟨p,2,none⟩ (.int .i64 (j:Int)):=⟨_,rfl⟩;rw [←hW3] at hE3 hT3 HL3;obtain ⟨y0,y1,y2,y3,_,_,_,_,_⟩:=Cy hT3;have hadd:=fun (w':World) (hb:Below W3.heap.size W3 w')=>Ez (hE3.below hb) (.one t) (.iface 111 (.agg #[.int .u64 (ow t 0),.int .u64 (ow t 1),.int .u64 (ow t 2),.int .u64 (ow t 3)])) ⟨1,rfl⟩ rfl hs (HK2.out rfl)
   have HAdd:=Ac8 hadd;have hpl2:=hE1.blk.lt;clear hpa k0 k2 hE1 hT3 hE3 hA hadd;go_wp2_with fail
   rw [←hW3];clear hW3;go_upto_region 5 with fail
   go_region_law (first
    | (refine Bq rfl _ _ _ rfl 133 _ rfl (by rfl) (enters_of Tryz.func133 (by kernel_rfl) rfl) (HAdd.out _ (by first | exact Adk _ _ | exact Below.drew (Adk _ _))) ?_;rintro x w4 ⟨rfl,hx4,hb4⟩;refine ⟨_,rfl,?_⟩;have HX4:=Ac8 hx4;have HB4:Hid (Below lo W3 w4):=Ac8 (by first | exact hb4 | exact (Below.drew (Adk _ _)).trans hb4);clear hx4 hb4))
   all_goals go_wp2_with fail
   all_goals go_ret2
   all_goals exact Aw HF.out (HL3.out.trans HB4.out) HX4.out
  ·have e9:((er:Int) != 0)=true:=by simp;omega
   have hlow:=hA.b.mono HLo.out;have HF:=Ac8 (HR.out.trans (if_neg her));clear hpa k0 k2 hA;go_wp2_with fail
   go_ret2
   exact A8 HF.out hlow
end
section
open Go Go.RowKit
def AC (s:List UInt8) (e:ES) (k:Nat):Except (Nat × Nat) ES:=if Ay e.inner.pcs then .error (10,k) else match repAt true s k with
  | .some mn mx _ j=>.ok (e.at (e.st.to j) (e.inner.pcs.dropLast++[.rep (e.inner.pcs.getLastD .empty) mn mx]))
  | _=>.error (7,k)
theorem EK {l:List Nd} (h:Ay l=false):0 < l.length:=by
 cases l with
 | nil=>cases h
 | cons x xs=>simp
theorem Kc {W w1 w2:World} {p:Nat} {s:ByteArray} {k:Nat} (hb:Below w1.heap.size w1 w2) (hp:p < W.heap.size) (h:w1.cell? ⟨p,0,none⟩=some (.string s)∧w1.cell? ⟨p,2,none⟩=some (.int .i64 (k:Int))∧Below W.heap.size W w1):w2.cell? ⟨p,0,none⟩=some (.string s)∧w2.cell? ⟨p,2,none⟩=some (.int .i64 (k:Int))∧Below W.heap.size W w2:=
 ⟨(hb.cell (p:=⟨p,0,none⟩) (Adi hp h.2.2.size)).trans h.1,(hb.cell (p:=⟨p,2,none⟩) (Adi hp h.2.2.size)).trans h.2.1,h.2.2.trans (hb.mono h.2.2.size)⟩
theorem Kd {W w1:World} {p:Nat} {s:ByteArray} {k:Nat} (h:w1.cell? ⟨p,0,none⟩=some (.string s)∧w1.cell? ⟨p,2,none⟩=some (.int .i64 (k:Int))∧Below W.heap.size W w1):w1.drew.cell? ⟨p,0,none⟩=some (.string s)∧w1.drew.cell? ⟨p,2,none⟩=some (.int .i64 (k:Int))∧Below W.heap.size W w1.drew:=
 ⟨h.1,h.2.1,h.2.2.drew⟩
theorem Fe {s:List UInt8} {k c:Nat} (hl:k < s.length) (h:byt s k=c):chAt s k c=true:=by unfold chAt;simp [hl,h]
theorem Ff (lo p mp:Nat) (w:World) (s:ByteArray) (e:ES) (k:Nat) (h:CG lo p mp w s e) (hs:s.size≤250) (hf:Ay e.inner.pcs=true):Calls Tryz.prog 134 #[.pointer (some ⟨p,0,none⟩),.int .i64 (k:Int)] w fun x w'=>AU lo p mp s w x w' (AC s.data.toList e k):=by
 obtain ⟨own,sv,mv,bv,pv,ov,rows,h⟩:=h;have hpl:e.inner.pcs.length≤1000:=by have:=h.ok.inner.2.2.1;have:=h.ok.pos;simp at this;omega
 have hfr:=Dn lo p own _ _ _ _ _ _ bv pv _ _ _ e.inner.pcs w h.blk h.pn hpl;rw [hf] at hfr;have HO:=Ac8 (show AC s.data.toList e k=.error (10,k) by unfold AC;rw [hf];rfl);have hlo:=Adg h.lop (Adj h.blk.lt);clear h hf hpl;go_enter Tryz.func134,Tryz.ntmps134;go_wp2_with fail
 refine hfr.mono ?_;rintro x w1 ⟨rfl,b1⟩;clear hfr;go_wp2_with fail
 go_ret2
 exact A8 HO.out (b1.mono hlo)
theorem SV (lo p mp:Nat) (w:World) (s:ByteArray) (e:ES) (k:Nat) (h:CG lo p mp w s e) (hs:s.size≤250) (hk:e.pos=k+1) (hf:Ay e.inner.pcs=false) (hb:byt s.data.toList k=42) (hok:EOk s.data.toList (e.at e.st (e.inner.pcs.dropLast++[.rep (e.inner.pcs.getLastD .empty) 0 (-1)]))):Calls Tryz.prog 134 #[.pointer (some ⟨p,0,none⟩),.int .i64 (k:Int)] w fun x w'=>AU lo p mp s w x w' (AC s.data.toList e k):=by
 have hkl:k < s.data.toList.length:=by obtain ⟨own,sv,mv,bv,pv,ov,rows,h⟩:=h;have:=h.ok.pos;omega
 have hrep:repAt true s.data.toList k=.some 0 (-1) 0 (k+1):=by unfold repAt;rw [Fe hkl hb];rfl
 have HO:=Ac8 (show AC s.data.toList e k=.ok (e.at e.st (e.inner.pcs.dropLast++[.rep (e.inner.pcs.getLastD .empty) 0 (-1)])) by unfold AC;rw [hf,hrep];show Except.ok (e.at (e.st.to (k+1)) _)=_;rw [←hk];rfl);clear hrep hkl;obtain ⟨own,sv,mv,bv,pv,ov,rows,h⟩:=h;have hpl:e.inner.pcs.length≤1000:=(by have:=h.ok.inner.2.2.1;have:=h.ok.pos;simp at this;omega);have hks:k < s.size:=(by have:=h.ok.pos;simp at this;omega);have hfr:=Dn lo p own _ _ _ _ _ _ bv pv _ _ _ e.inner.pcs w h.blk h.pn hpl;rw [hf] at hfr;have HP:=Ac8 (EK hf);have HH:=Ac8 h;have HLo:=Ac8 (Adg h.lop (Adj h.blk.lt));have HK:=Ac8 hk;clear h hf hpl hk;go_enter Tryz.func134,Tryz.ntmps134;go_wp2_with fail
 refine hfr.mono ?_;rintro x w1 ⟨rfl,b1⟩;have h1:=HH.out.below b1;have HB1:=Ac8 (b1.mono HLo.out);have HS1:=Ac8 b1.size;obtain ⟨sa,sc,rfl,e2,e3⟩:=h1.sg;obtain ⟨g,rfl,hg,hgl,hcell⟩:=e3 (by omega);have kc:=hcell k hks;have k1:w1.cell? ⟨p,1,none⟩=some (.slice (some ⟨g,0,none⟩) s.size sc):=(h1.blk.cell 1).trans rfl;have i1:(k:Int) < (s.size:Int):=(by omega);have H1:=Ac8 h1;clear hfr b1 h1 e3 hcell;rw [hb] at kc;have hrp:=Gc H1.out 0 (-1) HP.out hs hok;clear hb hok;go_wp2_with fail
 refine hrp.mono ?_;rintro x w2 ⟨rfl,hx2,b2⟩;have HX2:=Ac8 hx2;clear hrp hx2;go_wp2_with fail
 go_ret2
 exact Aw HO.out (HB1.out.trans b2) HX2.out
theorem SW (lo p mp:Nat) (w:World) (s:ByteArray) (e:ES) (k:Nat) (h:CG lo p mp w s e) (hs:s.size≤250) (hk:e.pos=k+1) (hf:Ay e.inner.pcs=false) (hb:byt s.data.toList k=43) (hok:EOk s.data.toList (e.at e.st (e.inner.pcs.dropLast++[.rep (e.inner.pcs.getLastD .empty) 1 (-1)]))):Calls Tryz.prog 134 #[.pointer (some ⟨p,0,none⟩),.int .i64 (k:Int)] w fun x w'=>AU lo p mp s w x w' (AC s.data.toList e k):=by
 have hkl:k < s.data.toList.length:=by obtain ⟨own,sv,mv,bv,pv,ov,rows,h⟩:=h;have:=h.ok.pos;omega
 have hrep:repAt true s.data.toList k=.some 1 (-1) 0 (k+1):=by unfold repAt;rw [B7 (b:=42) (by rw [hb];decide)];simp only [A0,if_true,Bool.false_eq_true,if_false];rw [Fe hkl hb];rfl
 have HO:=Ac8 (show AC s.data.toList e k=.ok (e.at e.st (e.inner.pcs.dropLast++[.rep (e.inner.pcs.getLastD .empty) 1 (-1)])) by unfold AC;rw [hf,hrep];show Except.ok (e.at (e.st.to (k+1)) _)=_;rw [←hk];rfl);clear hrep hkl;obtain ⟨own,sv,mv,bv,pv,ov,rows,h⟩:=h;have hpl:e.inner.pcs.length≤1000:=(by have:=h.ok.inner.2.2.1;have:=h.ok.pos;simp at this;omega);have hks:k < s.size:=(by have:=h.ok.pos;simp at this;omega);have hfr:=Dn lo p own _ _ _ _ _ _ bv pv _ _ _ e.inner.pcs w h.blk h.pn hpl;rw [hf] at hfr;have HP:=Ac8 (EK hf);have HH:=Ac8 h;have HLo:=Ac8 (Adg h.lop (Adj h.blk.lt));have HK:=Ac8 hk;clear h hf hpl hk;go_enter Tryz.func134,Tryz.ntmps134;go_wp2_with fail
 refine hfr.mono ?_;rintro x w1 ⟨rfl,b1⟩;have h1:=HH.out.below b1;have HB1:=Ac8 (b1.mono HLo.out);have HS1:=Ac8 b1.size;obtain ⟨sa,sc,rfl,e2,e3⟩:=h1.sg;obtain ⟨g,rfl,hg,hgl,hcell⟩:=e3 (by omega);have kc:=hcell k hks;have k1:w1.cell? ⟨p,1,none⟩=some (.slice (some ⟨g,0,none⟩) s.size sc):=(h1.blk.cell 1).trans rfl;have i1:(k:Int) < (s.size:Int):=(by omega);have H1:=Ac8 h1;clear hfr b1 h1 e3 hcell;rw [hb] at kc;have hrp:=Gc H1.out 1 (-1) HP.out hs hok;clear hb hok;go_wp2_with fail
 refine hrp.mono ?_;rintro x w2 ⟨rfl,hx2,b2⟩;have HX2:=Ac8 hx2;clear hrp hx2;go_wp2_with fail
 go_ret2
 exact Aw HO.out (HB1.out.trans b2) HX2.out
theorem VH (lo p mp:Nat) (w:World) (s:ByteArray) (e:ES) (k:Nat) (h:CG lo p mp w s e) (hs:s.size≤250) (hk:e.pos=k+1) (hf:Ay e.inner.pcs=false) (hb:byt s.data.toList k=63) (hok:EOk s.data.toList (e.at e.st (e.inner.pcs.dropLast++[.rep (e.inner.pcs.getLastD .empty) 0 1]))):Calls Tryz.prog 134 #[.pointer (some ⟨p,0,none⟩),.int .i64 (k:Int)] w fun x w'=>AU lo p mp s w x w' (AC s.data.toList e k):=by
 have hkl:k < s.data.toList.length:=by obtain ⟨own,sv,mv,bv,pv,ov,rows,h⟩:=h;have:=h.ok.pos;omega
 have hrep:repAt true s.data.toList k=.some 0 1 0 (k+1):=by unfold repAt;rw [B7 (b:=42) (by rw [hb];decide)];simp only [A0,if_true,Bool.false_eq_true,if_false];rw [B7 (b:=43) (by rw [hb];decide)];simp only [Bool.false_eq_true,if_false];rw [Fe hkl hb];rfl
 have HO:=Ac8 (show AC s.data.toList e k=.ok (e.at e.st (e.inner.pcs.dropLast++[.rep (e.inner.pcs.getLastD .empty) 0 1])) by unfold AC;rw [hf,hrep];show Except.ok (e.at (e.st.to (k+1)) _)=_;rw [←hk];rfl);clear hrep hkl;obtain ⟨own,sv,mv,bv,pv,ov,rows,h⟩:=h;have hpl:e.inner.pcs.length≤1000:=(by have:=h.ok.inner.2.2.1;have:=h.ok.pos;simp at this;omega);have hks:k < s.size:=(by have:=h.ok.pos;simp at this;omega);have hfr:=Dn lo p own _ _ _ _ _ _ bv pv _ _ _ e.inner.pcs w h.blk h.pn hpl;rw [hf] at hfr;have HP:=Ac8 (EK hf);have HH:=Ac8 h;have HLo:=Ac8 (Adg h.lop (Adj h.blk.lt));have HK:=Ac8 hk;clear h hf hpl hk;go_enter Tryz.func134,Tryz.ntmps134;go_wp2_with fail
 refine hfr.mono ?_;rintro x w1 ⟨rfl,b1⟩;have h1:=HH.out.below b1;have HB1:=Ac8 (b1.mono HLo.out);have HS1:=Ac8 b1.size;obtain ⟨sa,sc,rfl,e2,e3⟩:=h1.sg;obtain ⟨g,rfl,hg,hgl,hcell⟩:=e3 (by omega);have kc:=hcell k hks;have k1:w1.cell? ⟨p,1,none⟩=some (.slice (some ⟨g,0,none⟩) s.size sc):=(h1.blk.cell 1).trans rfl;have i1:(k:Int) < (s.size:Int):=(by omega);have H1:=Ac8 h1;clear hfr b1 h1 e3 hcell;rw [hb] at kc;have hrp:=Gc H1.out 0 1 HP.out hs hok;clear hb hok;go_wp2_with fail
 refine hrp.mono ?_;rintro x w2 ⟨rfl,hx2,b2⟩;have HX2:=Ac8 hx2;clear hrp hx2;go_wp2_with fail
 go_ret2
 exact Aw HO.out (HB1.out.trans b2) HX2.out
theorem SX {s:List UInt8} {k:Nat} (hl:k < s.length) (hb:byt s k=123):repAt true s k=(match (KZ (CC true) (s.drop (k+1))).map fun q=>(q.1,q.2.1,k+1+q.2.2) with
  | Option.none=>.bad
  | Option.some (m,n,j)=>.some m n 0 j):=by
 unfold repAt;rw [B7 (b:=42) (by rw [hb];decide)];simp only [A0,if_true,Bool.false_eq_true,if_false];rw [B7 (b:=43) (by rw [hb];decide),B7 (b:=63) (by rw [hb];decide)];simp only [Bool.false_eq_true,if_false];rw [Fe hl hb];simp only [if_true];rw [GN];rfl
theorem Abe (s:ByteArray) (k:Nat):(s.extract k s.size).data.toList=s.data.toList.drop k:=by
 rw [ByteArray.data_extract,Array.toList_extract];simp only [List.extract_eq_take_drop];rw [List.take_of_length_le (by simp)]
theorem PT (lo p mp:Nat) (w:World) (s:ByteArray) (e:ES) (k:Nat) (h:CG lo p mp w s e) (hs:s.size≤250) (hk:e.pos=k+1) (hf:Ay e.inner.pcs=false) (hb:byt s.data.toList k=123) (hok1:∀ m n j,repAt true s.data.toList k=.some m n 0 j→EOk s.data.toList { e with pos:=j }) (hok:∀ m n j,repAt true s.data.toList k=.some m n 0 j→EOk s.data.toList (e.at (e.st.to j) (e.inner.pcs.dropLast++[.rep (e.inner.pcs.getLastD .empty) m n]))):Calls Tryz.prog 134 #[.pointer (some ⟨p,0,none⟩),.int .i64 (k:Int)] w fun x w'=>AU lo p mp s w x w' (AC s.data.toList e k):=by
 have hkl:k < s.data.toList.length:=by obtain ⟨own,sv,mv,bv,pv,ov,rows,h⟩:=h;have:=h.ok.pos;omega
 have hrep:=SX hkl hb;have HO:AC s.data.toList e k=(match repAt true s.data.toList k with
  | .some mn mx _ j=>.ok (e.at (e.st.to j) (e.inner.pcs.dropLast++[.rep (e.inner.pcs.getLastD .empty) mn mx]))
  | _=>.error (7,k)):=by unfold AC;rw [hf];rfl
 have g5:=fun w=>Lj (s.extract (k+1) s.size) ⟨#[125]⟩ w (by rw [EH];omega) (by simp)
 rw [Abe,show (ByteArray.mk #[125]).data.toList=CC true from rfl] at g5;have hsl:s.data.toList.length=s.size:=by simp
 have Hcl:=Ac8 (show CC true≠[] by simp [CC]);cases hiv:KZ (CC true) (s.data.toList.drop (k+1)) with
 | none=>
  rw [hiv] at hrep g5;rw [hrep] at HO;replace HO:=Ac8 (show AC s.data.toList e k=.error (7,k) from HO);rw [show JM none=.returned (.tuple #[.int .i64 0,.int .i64 0,.int .i64 0,.bool false]) from rfl] at g5;clear hiv hrep hok hok1 hkl hsl;obtain ⟨own,sv,mv,bv,pv,ov,rows,h⟩:=h;have hpl:e.inner.pcs.length≤1000:=(by have:=h.ok.inner.2.2.1;have:=h.ok.pos;simp at this;omega);have hks:k < s.size:=(by have:=h.ok.pos;simp at this;omega);have hfr:=Dn lo p own _ _ _ _ _ _ bv pv _ _ _ e.inner.pcs w h.blk h.pn hpl;rw [hf] at hfr;have HP:=Ac8 (EK hf);have HH:=Ac8 h;have HLo:=Ac8 (Adg h.lop (Adj h.blk.lt));have HK:=Ac8 hk;clear h hf hpl hk;have hlen2:((k+1:Nat):Int)≤(s.size:Int):=by omega
  go_enter Tryz.func134,Tryz.ntmps134;go_wp2_with fail
  refine hfr.mono ?_;rintro x w1 ⟨rfl,b1⟩;have h1:=HH.out.below b1;have HB1:=Ac8 (b1.mono HLo.out);have HS1:=Ac8 b1.size;obtain ⟨sa,sc,rfl,e2,e3⟩:=h1.sg;obtain ⟨g,rfl,hg,hgl,hcell⟩:=e3 (by omega);have kc:=hcell k hks;have k1:w1.cell? ⟨p,1,none⟩=some (.slice (some ⟨g,0,none⟩) s.size sc):=(h1.blk.cell 1).trans rfl;have i1:(k:Int) < (s.size:Int):=(by omega);have H1:=Ac8 h1;clear hfr b1 h1 e3 hcell;have q0:w1.cell? ⟨p,0,none⟩=some (.string s):=(H1.out.blk.cell 0).trans rfl;have q2:w1.cell? ⟨p,2,none⟩=some (.int .i64 ((k+1:Nat):Int)):=by rw [←HK.out];exact (H1.out.blk.cell 2).trans rfl
  have hall:=And.intro q0 (And.intro q2 (Adk w1.heap.size w1));have hp1:=H1.out.blk.lt;rw [hb] at kc;clear hb;go_upto_region 11 with fail;generalize k+1=k2 at *
  go_region_held3 (fun w'=>w'.cell? ⟨p,0,none⟩=some (.string s)∧w'.cell? ⟨p,2,none⟩=some (.int .i64 (k2:Int))∧Below w1.heap.size w1 w')
   (first | (with_reducible exact hall) | (with_reducible exact Kc hbX hp1 (by assumption)) | (with_reducible exact Kd (by assumption)))
   (first | (go_at_call 147;refine (g5 _).mono ?_;rintro e w' ⟨rfl,hbX⟩))
  clear hall
  go_split_ands
  rename_i w5 _ _ hX;go_wp2_with fail
  go_ret2
  exact A8 HO.out (HB1.out.trans (hX.mono (Adg HLo.out HS1.out)))
 | some q=>
  rw [hiv] at hrep g5;rw [hrep] at HO;replace HO:=Ac8 (show AC s.data.toList e k=.ok (e.at (e.st.to (k+1+q.2.2)) (e.inner.pcs.dropLast++[.rep (e.inner.pcs.getLastD .empty) q.1 q.2.1])) from HO);rw [show JM (some q)=.returned (.tuple #[.int .i64 q.1,.int .i64 q.2.1,.int .i64 (q.2.2:Int),.bool true]) from rfl] at g5;have HK1:=Ac8 (hok1 q.1 q.2.1 (k+1+q.2.2) hrep);have HK2:=Ac8 (hok q.1 q.2.1 (k+1+q.2.2) hrep);have hql:=Vi _ _ _ Hcl.out hiv;rw [List.length_drop] at hql;have Wn:IntKind.i64.wrap (((k+1:Nat):Int)+(q.2.2:Int))=((k+1+q.2.2:Nat):Int):=by rw [Adm _ (by omega)];omega
  clear hiv hrep hok hok1 hkl hsl hql;generalize q.1=qa at *;generalize q.2.1=qb at *;generalize q.2.2=qc at *;obtain ⟨own,sv,mv,bv,pv,ov,rows,h⟩:=h;have hpl:e.inner.pcs.length≤1000:=(by have:=h.ok.inner.2.2.1;have:=h.ok.pos;simp at this;omega);have hks:k < s.size:=(by have:=h.ok.pos;simp at this;omega);have hfr:=Dn lo p own _ _ _ _ _ _ bv pv _ _ _ e.inner.pcs w h.blk h.pn hpl;rw [hf] at hfr;have HP:=Ac8 (EK hf);have HH:=Ac8 h;have HLo:=Ac8 (Adg h.lop (Adj h.blk.lt));have HK:=Ac8 hk;clear h hf hpl hk;have hlen2:((k+1:Nat):Int)≤(s.size:Int):=by omega
  go_enter Tryz.func134,Tryz.ntmps134;go_wp2_with fail
  refine hfr.mono ?_;rintro x w1 ⟨rfl,b1⟩;have h1:=HH.out.below b1;have HB1:=Ac8 (b1.mono HLo.out);have HS1:=Ac8 b1.size;obtain ⟨sa,sc,rfl,e2,e3⟩:=h1.sg;obtain ⟨g,rfl,hg,hgl,hcell⟩:=e3 (by omega);have kc:=hcell k hks;have k1:w1.cell? ⟨p,1,none⟩=some (.slice (some ⟨g,0,none⟩) s.size sc):=(h1.blk.cell 1).trans rfl;have i1:(k:Int) < (s.size:Int):=(by omega);have H1:=Ac8 h1;clear hfr b1 h1 e3 hcell;have q0:w1.cell? ⟨p,0,none⟩=some (.string s):=(H1.out.blk.cell 0).trans rfl;have q2:w1.cell? ⟨p,2,none⟩=some (.int .i64 ((k+1:Nat):Int)):=by rw [←HK.out];exact (H1.out.blk.cell 2).trans rfl
  have hall:=And.intro q0 (And.intro q2 (Adk w1.heap.size w1));have hp1:=H1.out.blk.lt;rw [hb] at kc;clear hb;go_upto_region 11 with fail;generalize k+1=k2 at *
  go_region_held3 (fun w'=>w'.cell? ⟨p,0,none⟩=some (.string s)∧w'.cell? ⟨p,2,none⟩=some (.int .i64 (k2:Int))∧Below w1.heap.size w1 w')
   (first | (with_reducible exact hall) | (with_reducible exact Kc hbX hp1 (by assumption)) | (with_reducible exact Kd (by assumption)))
   (first | (go_at_call 147;refine (g5 _).mono ?_;rintro e w' ⟨rfl,hbX⟩))
  clear hall
  go_split_ands
  rename_i hX;have h5:=H1.out.below hX;have hz2:=h5.blk.frozen 2;have hE3:=h5.goto (k2+qc) HK1.out;have HB3:=Ac8 ((HB1.out.trans (hX.mono (Adg HLo.out HS1.out))).trans ((Adk lo _).setCell (p:=⟨p,2,none⟩) HH.out.lop (.int .i64 ((k2+qc:Nat):Int))));have hrp:=Gc hE3 qa qb HP.out hs HK2.out;have hp5:=h5.blk.lt;clear h5 hE3 q0 q2 k1 kc;go_wp2_with fail
  refine hrp.mono ?_;rintro x w6 ⟨rfl,hx6,b6⟩;have HX6:=Ac8 hx6;clear hrp hx6;go_wp2_with fail
  go_ret2
  exact Aw HO.out (HB3.out.trans b6) HX6.out
end
end Go.Proofs.YteilldmmihiijaaGreatDoor
