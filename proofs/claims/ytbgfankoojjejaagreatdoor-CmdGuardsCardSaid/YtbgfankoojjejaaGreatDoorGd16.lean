/- The proof's texts RdKL: what the claim reaches of them. -/
import Derived.Test.YtbgfankoojjejaaGreatDoorGd14
import Derived.Test.YtbgfankoojjejaaGreatDoorGd04
import Derived.Test.YtbgfankoojjejaaGreatDoorGd15
set_option linter.unusedSimpArgs false
set_option linter.unusedVariables false
set_option maxHeartbeats 8000000
set_option maxRecDepth 1000000
namespace Go.Proofs.YtbgfankoojjejaaGreatDoor
open Go Go.RowKit
theorem ends_lt {s:List UInt8} {k:Nat} (h:endsAt s k=false):k < s.length:=by
 unfold endsAt at h
 simp only [Bool.or_eq_false_iff,decide_eq_false_iff_not] at h
 omega
theorem atom_any {B p:Nat} {s:ByteArray} {st:ReSt} {es:List Bool} {dep:Nat} {mv cv:Value} (w:World) (h:Rd B p w s st es dep mv cv) (hen:endsAt s.data.toList st.pos=false) (front:Bool) (hfr:front=true∨repAt false s.data.toList st.pos=.none)
  (sub:Option (ReSt→ReRes (ReSt × Nd))) (hG:Gl w) (hB:glN≤B) (hgr:GroupOk B p s st es dep sub) :
  Calls Tryz.prog 136 #[.pointer (some ⟨p,0,none⟩)] w fun e w'=>NdAns (atomF s.data.toList sub front st) B p s dep mv cv w e w':=by
 have hsl:s.data.toList.length=s.size:=by simp
 have hlt:=ends_lt hen
 rw [hsl] at hlt
 by_cases h92:byt s.data.toList st.pos=92
 ·exact atom_back w h hlt h92 front hfr hen sub hG hB hgr
 ·rw [atomF_plain h92]
  by_cases h91:byt s.data.toList st.pos=91
  ·rw [ch_yes (by omega) h91,if_pos rfl]
   exact atom_set w h hlt h91 hG hB
  ·rw [ch_no h91]
   simp only [Bool.false_eq_true,if_false]
   by_cases h46:byt s.data.toList st.pos=46
   ·rw [ch_yes (by omega) h46,if_pos rfl]
    exact atom_dot w h hlt h46
   ·rw [ch_no h46]
    simp only [Bool.false_eq_true,if_false]
    exact atom_plain w h hlt h46 h91 h92
theorem piece_any {B p:Nat} {s:ByteArray} {st:ReSt} {es:List Bool} {dep:Nat} {mv cv:Value} (w:World) (h:Rd B p w s st es dep mv cv) (hen:endsAt s.data.toList st.pos=false) (front:Bool) (hfr:front=true∨repAt false s.data.toList st.pos=.none)
  (sub:Option (ReSt→ReRes (ReSt × Nd))) (hG:Gl w) (hB:glN≤B) (hgr:GroupOk B p s st es dep sub) :
  Calls Tryz.prog 124 #[.pointer (some ⟨p,0,none⟩)] w fun e w'=>NdAns (pieceM s.data.toList sub front st) B p s dep mv cv w e w':=by
 have hsl:s.data.toList.length=s.size:=by simp
 have hlt:=ends_lt hen
 rw [hsl] at hlt
 unfold pieceM
 cases hq:(chAt s.data.toList st.pos 36 && endsAt s.data.toList (st.pos+1)) with
 | true=>exact piece_fin w h hlt hq
 | false=>
  exact piece_atom w h hlt hq _ (fun n=>atom_any (w.drewN n) (h.below (below_drewN (Below.refl _ _) n)) hen front hfr sub (hG.up (below_drewN (Below.refl _ _) n)) hB hgr)
theorem piece_math (s:List UInt8) (sub:Option (ReSt→ReRes (ReSt × Nd))) (hmv:SubMv s sub) (hok:SubOk sub) (front:Bool) (st st':ReSt) (d:Nd) (hl:st.pos < s.length) (h:pieceM s sub front st=.ok (st',d)) :
  st.pos < st'.pos∧inCat d=true∧((chAt s st.pos 36 && endsAt s (st.pos+1))=true∨repAt false s st'.pos=.none):=by
 unfold pieceM at h
 split at h
 ·rename_i hq
  injection h with h
  injection h with h1 h2
  subst h1 h2
  exact ⟨show st.pos < st.pos+1 by omega,rfl,.inl hq⟩
 ·unfold repsOf at h
  split at h
  ·cases h
  ·rename_i q hq
   obtain ⟨st1,d1⟩:=q
   unfold atomF at hq
   split at hq
   ·cases hq
   ·have h1:=atom_mv _ _ _ hmv _ _ _ hl hq
    have h2:=atom_takes _ _ _ hok _ _ _ hq
    have h3:=repM_mv _ _ _ _ _ _ _ h1.2 h
    have h4:=repM_takes _ _ _ _ _ _ _ st h2.1 h2.2.1 h2.2.2 h
    exact ⟨by omega,h4.2,.inr (repM_end _ _ _ _ _ _ _ h)⟩
theorem branch_start (s:List UInt8) (sub:Option (ReSt→ReRes (ReSt × Nd))) (n:Nat) (st:ReSt) (h:endsAt s st.pos=false) (h94:chAt s st.pos 94=true):branchM false s sub false st.pos (n+1) st [] true=branchM false s sub false st.pos n (st.to (st.pos+1)) [.start] true:=by
 rw [branchM]
 unfold endsAt at h
 simp only [opAt,Bool.false_eq_true,if_false,Bool.not_false,Bool.and_true]
 rw [h,h94]
 simp
structure NdRO (lo p:Nat) (mv cv:Value) (w:World) (l:List Nd) (v:Value) (us:List Value):Prop where
 len:us.length=l.length
 row:w.ownsRow lo 26 1 v l.length us
 nd:∀ i (h:i < l.length) (h2:i < us.length),NdX (fun b=>lo≤b∧OffR p mv cv b∧v.ownBlock≠some b) w l[i] us[i]
 one:∀ u∈us,u.oneCell'=true
 off:∀ b,v.ownBlock=some b→OffR p mv cv b
theorem NdRO.nil (lo p:Nat) (mv cv:Value) (w:World):NdRO lo p mv cv w [] (.slice none 0 0) []:=
 ⟨rfl,World.ownsRow_nil _ _ _ _,fun i h=>absurd h (by simp),fun u h=>absurd h (by simp),fun b h=>by simp [Value.ownBlock] at h⟩
theorem NdRO.step {lo p:Nat} {mv cv mv' cv':Value} {w w':World} {l:List Nd} {v:Value} {us:List Value} (h:NdRO lo p mv cv w l v us) (hS:RStep p w mv cv w' mv' cv'):NdRO lo p mv' cv' w' l v us:=by
 have hoff:=h.off
 refine ⟨h.len,?_,fun i h1 h2=>(h.nd i h1 h2).keep hS.size (fun b hb hlt=>⟨⟨hb.1,(hS.keep b hb.2.1 hlt).1,hb.2.2⟩,(hS.keep b hb.2.1 hlt).2⟩),h.one,fun b hb=>?_⟩
 ·obtain ⟨h1,h2⟩:=h.row
  refine ⟨h1,?_⟩
  rcases h2 with h2 | ⟨g,cap,cur,a,b,c,d⟩
  ·exact .inl h2
  ·have ho:=hoff g (by rw [a];rfl)
   exact .inr ⟨g,cap,cur,a,b,by rw [(hS.block g (Array.getElem?_eq_some_iff.1 c).1 ho.1 ho.2.1 ho.2.2).1];exact c,d⟩
 ·exact (hS.keep b (h.off b hb) (h.row.lt b hb).2).1
theorem Rd.grown {B p:Nat} {w w':World} {s:ByteArray} {st:ReSt} {es:List Bool} {dep:Nat} {mv cv:Value} {row:Option Nat} (h:Rd B p w s st es dep mv cv) (hg:w.grownBy w' row) (hrow:∀ b,row=some b→OffR p mv cv b):Rd B p w' s st es dep mv cv:=by
 have hne:∀ v:Value,(∀ b,row=some b→v.ownBlock≠some b)→v.ownBlock=none∨v.ownBlock≠row:=fun v hv=>by
  rcases hr:v.ownBlock with _ | b
  ·exact .inl rfl
  ·refine .inr (fun e=>?_)
   exact hv b e.symm hr
 refine { h with blk:=?_,mo:=h.mo.kept hg (hne _ fun b hb=>(hrow b hb).2.1),co:=h.co.kept hg (hne _ fun b hb=>(hrow b hb).2.2) }
 have h1:=h.blk
 unfold Blk at h1 ⊢
 rw [hg.block p h.blk.lt (fun e=>(hrow p e.symm).1 rfl)]
 exact h1
theorem RStep.after {p:Nat} {w w1 w2:World} {mv cv mv1 cv1:Value} (h:RStep p w mv cv w1 mv1 cv1) (hb:Below w.heap.size w1 w2):RStep p w mv cv w2 mv1 cv1:=
 ⟨hb.os.trans h.os,hb.tape.trans h.tape,hb.output.trans h.output,Nat.le_trans h.size hb.size,fun b hlt h1 h2 h3=>by
  obtain ⟨e1,e2,e3⟩:=h.block b hlt h1 h2 h3
  exact ⟨(hb.block b hlt).trans e1,e2,e3⟩⟩
theorem NdRO.push {B lo p:Nat} {mv cv:Value} {w w':World} {l:List Nd} {v v':Value} {us:List Value} {d:Nd} {u:Value} {s:ByteArray} {st:ReSt} {es:List Bool} {dep:Nat} (h:NdRO lo p mv cv w l v us) (hR:Rd B p w s st es dep mv cv)
  (hu:NdX (fun b=>lo≤b∧OffR p mv cv b∧v.ownBlock≠some b) w d u) (hu1:u.oneCell'=true) (hown:w'.ownsRow lo 26 1 v' (l.length+1) (us++[u])) (hg:w.grownBy w' v.ownBlock) (hat:v'.ownBlock=v.ownBlock∨v'.ownBlock=some w.heap.size):NdRO lo p mv cv w' (l++[d]) v' (us++[u]):=by
 have hpl:=hR.blk.lt
 have hml:=fun b hb=>own_lt' hR.mo b hb
 have hcl:=fun b hb=>own_lt' hR.co b hb
 have hk:∀ d u,NdX (fun b=>lo≤b∧OffR p mv cv b∧v.ownBlock≠some b) w d u→NdX (fun b=>lo≤b∧OffR p mv cv b∧v'.ownBlock≠some b) w' d u:=fun d u hd=>
  hd.keep hg.size (fun b hf hlt=>⟨⟨hf.1,hf.2.1,by
   rcases hat with e | e
   ·rw [e];exact hf.2.2
   ·rw [e];intro he;injection he with he;omega⟩,fun o=>World.cell?_of_block (w:=w) (a:=⟨b,o,none⟩) (hg.block b hlt (fun e=>hf.2.2 e.symm))⟩)
 refine ⟨by simp [h.len],by rw [List.length_append];exact hown,fun i h1 h2=>?_,fun x hx=>?_,fun b hb=>?_⟩
 ·by_cases hi:i < l.length
  ·rw [List.getElem_append_left hi,List.getElem_append_left (by rw [h.len];exact hi)]
   exact hk _ _ (h.nd i hi (by rw [h.len];exact hi))
  ·have hie:i=l.length:=by simp at h1;omega
   subst hie
   rw [List.getElem_append_right (Nat.le_refl _),List.getElem_append_right (by rw [h.len];exact Nat.le_refl _)]
   simp [h.len]
   exact hk _ _ hu
 ·rcases List.mem_append.1 hx with hx | hx
  ·exact h.one x hx
  ·simp at hx;subst hx;exact hu1
 ·rcases hat with e | e
  ·exact h.off b (e▸hb)
  ·rw [e] at hb
   injection hb with hb
   subst hb
   exact ⟨by omega,fun hm=>by have:=hml _ hm;omega,fun hm=>by have:=hcl _ hm;omega⟩
theorem NdRO.parts {lo p:Nat} {mv cv:Value} {w:World} {l:List Nd} {v:Value} {us:List Value} (h:NdRO lo p mv cv w l v us):∃ a cap,v=.slice a l.length cap∧NdRw (fun b=>lo≤b∧OffR p mv cv b) w l a cap:=by
 have hr:=h.row
 have hoff:=h.off
 obtain ⟨_,h2⟩:=h.row
 rcases h2 with ⟨rfl,h0⟩ | ⟨g,cap,cur,rfl,hg,hh,hn,hcap,hcs,htk⟩
 ·exact ⟨none,0,by rw [h0],by omega,by decide,fun h=>by omega⟩
 ·refine ⟨_,_,rfl,hn,hcap,fun h0=>⟨g,0,rfl,⟨hg,hoff g rfl⟩,(Array.getElem?_eq_some_iff.1 hh).1,fun i hi=>?_⟩⟩
  have hiu:i < us.length:=by rw [h.len];exact hi
  refine ⟨us[i],?_,(h.nd i hi hiu).keep (Nat.le_refl _) (fun b hb _=>⟨⟨hb.1,hb.2.1⟩,fun _=>rfl⟩)⟩
  rw [Nat.zero_add,hr.cellAt i (by omega),List.getElem?_eq_getElem hiu]
theorem ndoff_made {B lo p:Nat} {mv cv:Value} {w w':World} {d:Nd} {v:Value} {s:ByteArray} {st:ReSt} {es:List Bool} {dep:Nat} (hR:Rd B p w s st es dep mv cv) (hlo:lo≤w.heap.size) (h:NdX (fun b=>(b < w.heap.size∧lo≤b∧OffR p mv cv b)∨w.heap.size≤b) w' d v):NdOff lo p mv cv w' d v:=
 h.keep (Nat.le_refl _) (fun b hb _=>⟨by
  rcases hb with hb | hb
  ·exact hb.2
  ·have hpl:=hR.blk.lt
   exact ⟨by omega,by omega,fun hm=>by have:=own_lt' hR.mo _ hm;omega,fun hm=>by have:=own_lt' hR.co _ hm;omega⟩,fun _=>rfl⟩)
end Go.Proofs.YtbgfankoojjejaaGreatDoor
namespace Go.Proofs.YtbgfankoojjejaaGreatDoor
open Go Go.RowKit
structure BrLoop (B p:Nat) (s:ByteArray) (dep:Nat) (mv cv:Value) (w:World) (sub:Option (ReSt→ReRes (ReSt × Nd))) (begin:Nat) (R:ReRes (ReSt × Nd)) (v:Value) (wr:World) (st':ReSt) (mv' cv':Value) (us:List Value) (parts:List Nd) (m:Nat) (front:Bool) (es':List Bool):Prop where
 r:R=branchM false s.data.toList sub false begin m st' parts front
 m:s.size < m+st'.pos
 fr:front=true∨repAt false s.data.toList st'.pos=.none
 n94:(chAt s.data.toList st'.pos 94 && decide (st'.pos=begin))=false
 rd:Rd B p wr s st' es' dep mv' cv'
 st:RStep p w mv cv wr mv' cv'
 row:NdRO w.heap.size p mv' cv' wr parts v us
 few:parts.length≤st'.pos
 all:parts.all inCat=true
 beg:begin≤st'.pos
theorem ndoff_made' {B lo p:Nat} {mv cv:Value} {w w':World} {d:Nd} {v:Value} {s:ByteArray} {st:ReSt} {es:List Bool} {dep:Nat} (hR:Rd B p w s st es dep mv cv) (hlo:lo≤w.heap.size) (_:Below w.heap.size w w') (h:NdX (fun b=>(b < w.heap.size∧lo≤b∧OffR p mv cv b)∨w.heap.size≤b) w' d v):NdOff lo p mv cv w' d v:=ndoff_made hR hlo h
theorem grown_below {w1 w2:World} {lo:Nat} {v:Value} {e:TypeId} {n:Nat} {us:List Value} {o:Obj} (hlo:lo≤w1.heap.size) (hown:w1.ownsRow lo e 1 v n us) (hg:(w1.alloc o).grownBy w2 v.ownBlock):Below lo w1 w2:=
 ((Below.refl lo w1).alloc hlo _).grown hg (by simp;omega) (own_low hown)
theorem br_next {B p:Nat} {s:ByteArray} {dep:Nat} {mv cv:Value} {w:World} {sub:Option (ReSt→ReRes (ReSt × Nd))} {begin:Nat} {R:ReRes (ReSt × Nd)} {v:Value} {wr:World} {st':ReSt} {mv' cv':Value} {us:List Value} {parts:List Nd} {m':Nat} {front:Bool} {es':List Bool} {nq:Nat}
  (hL:BrLoop B p s dep mv cv w sub begin R v wr st' mv' cv' us parts (m'+1) front es') (hS9:RStep p w mv cv (wr.drewN nq) mv' cv') (hSn:RStep p wr mv' cv' (wr.drewN nq) mv' cv')
  {w2 w3:World} {mv2 cv2 v2 v3:Value} {q:ReSt × Nd} {es2:List Bool} (hS2:RStep p (wr.drewN nq) mv' cv' w2 mv2 cv2) (hR2:Rd B p w2 s q.1 es2 dep mv2 cv2) (hrow2:NdRO w.heap.size p mv2 cv2 w2 parts v us) (hN2:NdOff (wr.drewN nq).heap.size p mv2 cv2 w2 q.2 v2) (hv2:v2.oneCell'=true)
  (hown:w3.ownsRow w.heap.size 26 1 v3 (parts.length+1) (us++[v2])) (hgrow:(w2.alloc (.cells #[v2] 26)).grownBy w3 v.ownBlock) (hat:v3.ownBlock=v.ownBlock∨v3.ownBlock=some (w2.alloc (.cells #[v2] 26)).heap.size)
  (hF:R=branchM false s.data.toList sub false begin m' q.1 (parts++[q.2]) (chAt s.data.toList st'.pos 36 && endsAt s.data.toList (st'.pos+1)))
  (hM:st'.pos < q.1.pos∧inCat q.2=true∧((chAt s.data.toList st'.pos 36 && endsAt s.data.toList (st'.pos+1))=true∨repAt false s.data.toList q.1.pos=.none)) :
  BrLoop B p s dep mv cv w sub begin R v3 w3 q.1 mv2 cv2 (us++[v2]) (parts++[q.2]) m' (chAt s.data.toList st'.pos 36 && endsAt s.data.toList (st'.pos+1)) es2:=by
 have hsz2:w.heap.size≤w2.heap.size:=Nat.le_trans hS9.size hS2.size
 have hA:=(Below.refl w2.heap.size w2).alloc (Nat.le_refl _) (.cells #[v2] 26)
 have hRA:=hR2.below hA
 have hrowA:=hrow2.step (RStep.of_below hA)
 have hlt:=fun b hb=>(hL.row.row.lt b hb).2
 have hbg:=hL.beg
 have hm:=hL.m
 have hfw:=hL.few
 have hM1:=hM.1
 refine ⟨hF,by omega,hM.2.2,?_,hRA.grown hgrow hrowA.off,(hS9.trans hS2).after (grown_below hsz2 hrow2.row hgrow),?_,by rw [List.length_append];simp;omega,all_snoc hL.all hM.2.1,by omega⟩
 ·rw [decide_eq_false (show ¬ q.1.pos=begin by omega),Bool.and_false]
 ·refine hrowA.push hRA ?_ hv2 hown hgrow hat
  refine hN2.keep hA.size (fun b hb hlt2=>⟨⟨Nat.le_trans hS9.size hb.1,hb.2,fun hv=>?_⟩,fun o=>hA.cell (p:=⟨b,o,none⟩) hlt2⟩)
  have h1:=hlt b hv
  have h2:=hSn.size
  have h3:=hb.1
  simp at h3
  omega
theorem br_first {B p:Nat} {s:ByteArray} {st:ReSt} {es:List Bool} {dep:Nat} {mv cv:Value} {w:World} {sub:Option (ReSt→ReRes (ReSt × Nd))} {R:ReRes (ReSt × Nd)} (hR0:R=branchM false s.data.toList sub false st.pos (s.data.toList.length+1) st [] true) (hsl:s.data.toList.length=s.size) (h94:chAt s.data.toList st.pos 94=true) (_:Rd B p w s st es dep mv cv)
  {w1 w3:World} {v3:Value} (hR1:Rd B p w1 s (st.to (st.pos+1)) es dep mv cv) (hS1:RStep p w mv cv w1 mv cv)
  (hown:w3.ownsRow w.heap.size 26 1 v3 (0+1) ([]++[.iface 142 (.agg #[])])) (hgrow:(w1.alloc (.cells #[.iface 142 (.agg #[])] 26)).grownBy w3 (Value.slice none 0 0).ownBlock) (hat:v3.ownBlock=(Value.slice none 0 0).ownBlock∨v3.ownBlock=some (w1.alloc (.cells #[.iface 142 (.agg #[])] 26)).heap.size) :
  BrLoop B p s dep mv cv w sub st.pos R v3 w3 (st.to (st.pos+1)) mv cv ([]++[.iface 142 (.agg #[])]) ([]++[.start]) s.data.toList.length true es:=by
 have hen:endsAt s.data.toList st.pos=false:=by
  have h1:=ch_byt h94
  unfold endsAt
  rw [es_no (.inl (by omega)),es_no (.inl (by omega)),decide_eq_false (by omega)]
  rfl
 have hA:=(Below.refl w1.heap.size w1).alloc (Nat.le_refl _) (.cells #[.iface 142 (.agg #[])] 26)
 have hRA:=hR1.below hA
 have hrow:=NdRO.nil w.heap.size p mv cv (w1.alloc (.cells #[.iface 142 (.agg #[])] 26))
 refine ⟨hR0.trans (branch_start _ _ _ _ hen h94),?_,.inl rfl,?_,hRA.grown hgrow hrow.off,hS1.after (grown_below hS1.size (World.ownsRow_nil _ _ _ _:w1.ownsRow w.heap.size 26 1 (.slice none 0 0) 0 []) hgrow),?_,?_,rfl,?_⟩
 ·show s.size < s.data.toList.length+(st.pos+1)
  omega
 ·show (chAt s.data.toList (st.pos+1) 94 && decide (st.pos+1=st.pos))=false
  rw [decide_eq_false (by omega),Bool.and_false]
 ·exact hrow.push hRA ⟨1,rfl⟩ rfl hown hgrow hat
 ·show 0+1≤st.pos+1
  omega
 ·show st.pos≤st.pos+1
  omega
theorem branch_any {B p:Nat} {s:ByteArray} {st:ReSt} {es:List Bool} {dep:Nat} {mv cv:Value} (w:World) (h:Rd B p w s st es dep mv cv)
  (sub:Option (ReSt→ReRes (ReSt × Nd))) (hmv:SubMv s.data.toList sub) (hok:SubOk sub) (hG:Gl w) (hB:glN≤B) (hgr:∀ st es,GroupOk B p s st es dep sub) :
  Calls Tryz.prog 103 #[.pointer (some ⟨p,0,none⟩)] w fun e w'=>NdAns (branchM false s.data.toList sub false st.pos (s.data.toList.length+1) st [] true) B p s dep mv cv w e w':=by
 have hsm:=h.small
 have hps:=h.pos
 have hsl:s.data.toList.length=s.size:=by simp
 obtain ⟨i0,hi,hz0,hz1,hz2⟩:=node_info
 obtain ⟨R,hR0⟩:∃ R,R=branchM false s.data.toList sub false st.pos (s.data.toList.length+1) st [] true:=⟨_,rfl⟩
 rw [←hR0]
 have HR0:=Lib.hid hR0
 have HSL:=Lib.hid hsl
 have HGl:=Lib.hid hG
 have H:=Lib.hid h
 have hwB:B≤w.heap.size:=Nat.le_trans h.bp (Nat.le_of_lt h.blk.lt)
 clear hR0 hsl hG
 go_enter Tryz.func103,Tryz.ntmps103
 cases h94:chAt s.data.toList st.pos 94 with
 | false=>
  have hsk:=skip_no ⟨#[94]⟩ w h ((word_one _ _ 94 (by decide)).trans h94)
  have H94:=Lib.hid h94
  clear h h94
  go_wp2_with fail
  refine hsk.mono ?_
  rintro e w1 ⟨rfl,n,rfl⟩
  clear hsk
  go_wp2_with fail
  go_loopw [3] (fun v wr=>∃ (st':ReSt) (mv' cv':Value) (us:List Value) (parts:List Nd) (m:Nat) (front:Bool) (es':List Bool),BrLoop B p s dep mv cv w sub st.pos R v wr st' mv' cv' us parts m front es') (fun _ wr=>s.size - (intOf ((wr.cell? ⟨p,1,none⟩).getD undef)).toNat)
  case atStart=>exact ⟨st,mv,cv,[],[],_,true,es,⟨HR0.out,by rw [HSL.out];omega,.inl rfl,by rw [H94.out];rfl,H.out.below (below_drewN (Below.refl _ _) n),RStep.of_below (below_drewN (Below.refl _ _) n),NdRO.nil _ _ _ _ _,by simp,rfl,Nat.le_refl _⟩⟩
  case round=>
   obtain ⟨st',mv',cv',us,parts,m,front,es',hL⟩:=hrel
   have hR:=hL.rd
   obtain ⟨c0,c1,c2,c3,c4,z1,z2,z3,z4⟩:=hR.cells
   have hp1:(st'.pos:Int)≤(s.size:Int):=by have:=hR.pos;omega
   have hbe:=fun w=>bends_any s st'.pos w
   have HL:=Lib.hid hL
   have hm0:0 < m:=by have:=hL.m;have:=hR.pos;omega
   obtain ⟨m',rfl⟩:∃ m',m=m'+1:=⟨m - 1,by omega⟩
   clear hm0 hL hR
   cases hen:endsAt s.data.toList st'.pos with
   | true=>
    rw [hen] at hbe
    have HE:=Lib.hid hen
    clear hen
    go_wp2_with fail
    go_quiet (first | (go_at_call 123;exact Calls.quiet_of_same ((hbe _).mono fun _ _ h=>⟨h.1,h.2.symm⟩)))
    have hbn:=below_drewN (Below.refl wr.heap.size wr) nq
    have hSn:=RStep.of_below (p:=p) (mv:=mv') (cv:=cv') hbn
    have hRn:=HL.out.rd.below hbn
    have hrow:=HL.out.row.step hSn
    obtain ⟨a,cap,hv,hrw⟩:=hrow.parts
    subst hv
    have hjf:(jflat parts).length≤4000000:=by
     rw [jflat_all _ HL.out.all]
     have:=HL.out.few
     have:=hRn.pos
     omega
    have hj:=pjoin_f parts a cap (wr.drewN nq) hrw hjf
    have HRn:=Lib.hid hRn
    have HS9:=Lib.hid (HL.out.st.trans hSn)
    clear hbn hSn hRn hrow hrw hjf hbe c0 c1 c2 c3 c4 z1 z2 z3 z4
    go_wp2_with fail
    refine hj.mono ?_
    rintro e w5 ⟨v5,rfl,hn5,b5⟩
    have HN5:=Lib.hid hn5
    have HB5:=Lib.hid b5
    clear hn5 b5 hj
    go_wp2_with fail
    go_ret
    have hlo:w.heap.size≤(wr.drewN nq).heap.size:=HS9.out.size
    have hB5:Below w.heap.size (wr.drewN nq) w5:=HB5.out.mono hlo
    exact ndans_ok (HL.out.r.trans (branch_end _ _ _ _ _ _ _ HE.out)) (HS9.out.after hB5) (HRn.out.below HB5.out) (ndoff_made' HRn.out hlo HB5.out HN5.out)
   | false=>
    rw [hen] at hbe
    have HE:=Lib.hid hen
    have hlt:=ends_lt hen
    rw [HSL.out] at hlt
    have HLT:=Lib.hid hlt
    clear hen hlt
    go_wp2_with fail
    go_quiet (first | (go_at_call 123;exact Calls.quiet_of_same ((hbe _).mono fun _ _ h=>⟨h.1,h.2.symm⟩)))
    have hbn:=below_drewN (Below.refl wr.heap.size wr) nq
    have hSn:=RStep.of_below (p:=p) (mv:=mv') (cv:=cv') hbn
    have hRn:=HL.out.rd.below hbn
    have hGn:=HGl.out.step (HL.out.st.trans hSn) H.out hB
    have hpc:=piece_any (wr.drewN nq) hRn HE.out front HL.out.fr sub hGn hB (hgr _ _)
    have HRow:=Lib.hid (HL.out.row.step hSn)
    have HS9:=Lib.hid (HL.out.st.trans hSn)
    have HSn:=Lib.hid hSn
    clear hbn hSn hRn hGn hbe c0 c1 c2 c3 c4 z1 z2 z3 z4
    go_wp2_with fail
    refine hpc.mono ?_
    intro e w2 hA
    obtain ⟨mv2,cv2,hS2,hr⟩:=hA
    have HS2:=Lib.hid hS2
    have hstep:=HL.out.r.trans (branch_step _ _ _ _ _ _ _ HE.out HL.out.n94)
    have hpm:=piece_math s.data.toList sub hmv hok front st'
    have HPM:=Lib.hid hpm
    clear hS2 hpc hpm
    cases hP:pieceM s.data.toList sub front st' with
    | error q=>
     rw [hP] at hr hstep
     obtain rfl:e=_:=hr
     have HF:=Lib.hid hstep
     clear hstep hP
     go_wp2_with fail
     exact ⟨rfl,ndans_err HF.out (HS9.out.trans HS2.out) rfl⟩
    | ok q=>
     rw [hP] at hr hstep
     obtain ⟨es2,v2,rfl,hR2,hN2⟩:=hr
     have hmm:=HPM.out q.1 q.2 (by rw [HSL.out];exact HLT.out) hP
     have HF:=Lib.hid hstep
     have HMM:=Lib.hid hmm
     have HR2:=Lib.hid hR2
     have hrow2:=HRow.out.step HS2.out
     have HRow2:=Lib.hid hrow2
     have hq2:=hR2.pos
     have hfw:=HL.out.few
     have hm1:parts.length+1≤maxLen:=by unfold maxLen;omega
     have hm2:(parts.length+1) * 16≤140737488355328:=by omega
     have hown2:=hrow2.row
     have hsz2:w.heap.size≤w2.heap.size:=Nat.le_trans HS9.out.size HS2.out.size
     have HN2:=Lib.hid hN2
     obtain ⟨nn,hnn⟩:=hN2
     clear hstep hP hmm hR2 hrow2 hq2 hfw
     rcases nd_shape hnn with ⟨T,x,rfl⟩ | rfl
     all_goals
      clear hnn
      go_wp2_with (at_builtin;refine wpList_append_any _ rfl _ _ 88 rfl w.heap.size 26 i0 .nilIface 1 16 Tryz.underlying88 hi hz0 hz1 hz2 rfl (by decide) _ _ _ rfl (hown2.alloc _) (some ⟨w2.heap.size,0,none⟩) 1 1 [_] rfl rfl (fun _=>⟨_,rfl,cell_one_at (by simp) _ _⟩) (by intro y hy;simp at hy;subst hy;rfl) hm1 hm2 (by simp;omega) ?_;intro v3 w3 hown hgrow hat)
      have HO:=Lib.hid hown
      have HGr:=Lib.hid hgrow
      have HAt:=Lib.hid hat
      clear hown hgrow hat
      go_roundw
      case rel=>
       refine ⟨q.1,mv2,cv2,_,_,m',_,es2,br_next HL.out HS9.out HSn.out HS2.out HR2.out HRow2.out HN2.out rfl HO.out HGr.out HAt.out HF.out HMM.out⟩
      case measure=>
       have h1:=(br_next HL.out HS9.out HSn.out HS2.out HR2.out HRow2.out HN2.out rfl HO.out HGr.out HAt.out HF.out HMM.out).rd.cells.c1
       have h2:=HL.out.rd.cells.c1
       rw [h1,h2]
       have h3:=HMM.out.1
       have h4:=HR2.out.pos
       simp only [Option.getD_some,intOf]
       omega
 | true=>
  have hsk:=skip_yes ⟨#[94]⟩ w h ((word_one _ _ 94 (by decide)).trans h94) (by simp)
  rw [show (ByteArray.mk #[94]).size=1 from rfl] at hsk
  have H94:=Lib.hid h94
  clear h h94
  go_wp2_with fail
  refine hsk.mono ?_
  rintro e w1 ⟨rfl,hR1,hS1⟩
  have HR1:=Lib.hid hR1
  have HS1:=Lib.hid hS1
  have hsz1:=hS1.size
  have hown1:w1.ownsRow w.heap.size 26 1 (.slice none 0 0) 0 []:=World.ownsRow_nil _ _ _ _
  clear hsk hR1 hS1
  go_wp2_with (at_builtin;refine wpList_append_any _ rfl _ _ 88 rfl w.heap.size 26 i0 .nilIface 1 16 Tryz.underlying88 hi hz0 hz1 hz2 rfl (by decide) _ _ _ rfl (hown1.alloc _) (some ⟨w1.heap.size,0,none⟩) 1 1 [_] rfl rfl (fun _=>⟨_,rfl,cell_one_at (by simp) _ _⟩) (by intro y hy;simp at hy;subst hy;rfl) (by decide) (by decide) (by simp;omega) ?_;intro v3 w3 hown hgrow hat)
  have HO:=Lib.hid hown
  have HGr:=Lib.hid hgrow
  have HAt:=Lib.hid hat
  clear hown hgrow hat
  go_loopw [3] (fun v wr=>∃ (st':ReSt) (mv' cv':Value) (us:List Value) (parts:List Nd) (m:Nat) (front:Bool) (es':List Bool),BrLoop B p s dep mv cv w sub st.pos R v wr st' mv' cv' us parts m front es') (fun _ wr=>s.size - (intOf ((wr.cell? ⟨p,1,none⟩).getD undef)).toNat)
  case atStart=>exact ⟨st.to (st.pos+1),mv,cv,_,_,_,true,es,br_first HR0.out HSL.out H94.out H.out HR1.out HS1.out HO.out HGr.out HAt.out⟩
  case round=>
   obtain ⟨st',mv',cv',us,parts,m,front,es',hL⟩:=hrel
   have hR:=hL.rd
   obtain ⟨c0,c1,c2,c3,c4,z1,z2,z3,z4⟩:=hR.cells
   have hp1:(st'.pos:Int)≤(s.size:Int):=by have:=hR.pos;omega
   have hbe:=fun w=>bends_any s st'.pos w
   have HL:=Lib.hid hL
   have hm0:0 < m:=by have:=hL.m;have:=hR.pos;omega
   obtain ⟨m',rfl⟩:∃ m',m=m'+1:=⟨m - 1,by omega⟩
   clear hm0 hL hR
   cases hen:endsAt s.data.toList st'.pos with
   | true=>
    rw [hen] at hbe
    have HE:=Lib.hid hen
    clear hen
    go_wp2_with fail
    go_quiet (first | (go_at_call 123;exact Calls.quiet_of_same ((hbe _).mono fun _ _ h=>⟨h.1,h.2.symm⟩)))
    have hbn:=below_drewN (Below.refl wr.heap.size wr) nq
    have hSn:=RStep.of_below (p:=p) (mv:=mv') (cv:=cv') hbn
    have hRn:=HL.out.rd.below hbn
    have hrow:=HL.out.row.step hSn
    obtain ⟨a,cap,hv,hrw⟩:=hrow.parts
    subst hv
    have hjf:(jflat parts).length≤4000000:=by
     rw [jflat_all _ HL.out.all]
     have:=HL.out.few
     have:=hRn.pos
     omega
    have hj:=pjoin_f parts a cap (wr.drewN nq) hrw hjf
    have HRn:=Lib.hid hRn
    have HS9:=Lib.hid (HL.out.st.trans hSn)
    clear hbn hSn hRn hrow hrw hjf hbe c0 c1 c2 c3 c4 z1 z2 z3 z4
    go_wp2_with fail
    refine hj.mono ?_
    rintro e w5 ⟨v5,rfl,hn5,b5⟩
    have HN5:=Lib.hid hn5
    have HB5:=Lib.hid b5
    clear hn5 b5 hj
    go_wp2_with fail
    go_ret
    have hlo:w.heap.size≤(wr.drewN nq).heap.size:=HS9.out.size
    have hB5:Below w.heap.size (wr.drewN nq) w5:=HB5.out.mono hlo
    exact ndans_ok (HL.out.r.trans (branch_end _ _ _ _ _ _ _ HE.out)) (HS9.out.after hB5) (HRn.out.below HB5.out) (ndoff_made' HRn.out hlo HB5.out HN5.out)
   | false=>
    rw [hen] at hbe
    have HE:=Lib.hid hen
    have hlt:=ends_lt hen
    rw [HSL.out] at hlt
    have HLT:=Lib.hid hlt
    clear hen hlt
    go_wp2_with fail
    go_quiet (first | (go_at_call 123;exact Calls.quiet_of_same ((hbe _).mono fun _ _ h=>⟨h.1,h.2.symm⟩)))
    have hbn:=below_drewN (Below.refl wr.heap.size wr) nq
    have hSn:=RStep.of_below (p:=p) (mv:=mv') (cv:=cv') hbn
    have hRn:=HL.out.rd.below hbn
    have hGn:=HGl.out.step (HL.out.st.trans hSn) H.out hB
    have hpc:=piece_any (wr.drewN nq) hRn HE.out front HL.out.fr sub hGn hB (hgr _ _)
    have HRow:=Lib.hid (HL.out.row.step hSn)
    have HS9:=Lib.hid (HL.out.st.trans hSn)
    have HSn:=Lib.hid hSn
    clear hbn hSn hRn hGn hbe c0 c1 c2 c3 c4 z1 z2 z3 z4
    go_wp2_with fail
    refine hpc.mono ?_
    intro e w2 hA
    obtain ⟨mv2,cv2,hS2,hr⟩:=hA
    have HS2:=Lib.hid hS2
    have hstep:=HL.out.r.trans (branch_step _ _ _ _ _ _ _ HE.out HL.out.n94)
    have hpm:=piece_math s.data.toList sub hmv hok front st'
    have HPM:=Lib.hid hpm
    clear hS2 hpc hpm
    cases hP:pieceM s.data.toList sub front st' with
    | error q=>
     rw [hP] at hr hstep
     obtain rfl:e=_:=hr
     have HF:=Lib.hid hstep
     clear hstep hP
     go_wp2_with fail
     exact ⟨rfl,ndans_err HF.out (HS9.out.trans HS2.out) rfl⟩
    | ok q=>
     rw [hP] at hr hstep
     obtain ⟨es2,v2,rfl,hR2,hN2⟩:=hr
     have hmm:=HPM.out q.1 q.2 (by rw [HSL.out];exact HLT.out) hP
     have HF:=Lib.hid hstep
     have HMM:=Lib.hid hmm
     have HR2:=Lib.hid hR2
     have hrow2:=HRow.out.step HS2.out
     have HRow2:=Lib.hid hrow2
     have hq2:=hR2.pos
     have hfw:=HL.out.few
     have hm1:parts.length+1≤maxLen:=by unfold maxLen;omega
     have hm2:(parts.length+1) * 16≤140737488355328:=by omega
     have hown2:=hrow2.row
     have hsz2:w.heap.size≤w2.heap.size:=Nat.le_trans HS9.out.size HS2.out.size
     have HN2:=Lib.hid hN2
     obtain ⟨nn,hnn⟩:=hN2
     clear hstep hP hmm hR2 hrow2 hq2 hfw
     rcases nd_shape hnn with ⟨T,x,rfl⟩ | rfl
     all_goals
      clear hnn
      go_wp2_with (at_builtin;refine wpList_append_any _ rfl _ _ 88 rfl w.heap.size 26 i0 .nilIface 1 16 Tryz.underlying88 hi hz0 hz1 hz2 rfl (by decide) _ _ _ rfl (hown2.alloc _) (some ⟨w2.heap.size,0,none⟩) 1 1 [_] rfl rfl (fun _=>⟨_,rfl,cell_one_at (by simp) _ _⟩) (by intro y hy;simp at hy;subst hy;rfl) hm1 hm2 (by simp;omega) ?_;intro v3 w3 hown hgrow hat)
      have HO:=Lib.hid hown
      have HGr:=Lib.hid hgrow
      have HAt:=Lib.hid hat
      clear hown hgrow hat
      go_roundw
      case rel=>
       refine ⟨q.1,mv2,cv2,_,_,m',_,es2,br_next HL.out HS9.out HSn.out HS2.out HR2.out HRow2.out HN2.out rfl HO.out HGr.out HAt.out HF.out HMM.out⟩
      case measure=>
       have h1:=(br_next HL.out HS9.out HSn.out HS2.out HR2.out HRow2.out HN2.out rfl HO.out HGr.out HAt.out HF.out HMM.out).rd.cells.c1
       have h2:=HL.out.rd.cells.c1
       rw [h1,h2]
       have h3:=HMM.out.1
       have h4:=HR2.out.pos
       simp only [Option.getD_some,intOf]
       omega
end Go.Proofs.YtbgfankoojjejaaGreatDoor
