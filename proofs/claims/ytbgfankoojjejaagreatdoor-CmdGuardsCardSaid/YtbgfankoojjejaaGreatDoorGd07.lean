/- The proof's texts RdAB, Sp, BrProgA: what the claim reaches of them. -/
import Derived.Test.YtbgfankoojjejaaGreatDoorGd06
import Derived.Test.YtbgfankoojjejaaGreatDoorGd02
import Derived.Test.YtbgfankoojjejaaGreatDoorGd04
import Derived.Test.YtbgfankoojjejaaGreatDoorGd01
import Derived.Test.YtbgfankoojjejaaGreatDoorGd05
import Derived.Deep.RegionHeld3
import Derived.Deep.QuietTactic
import Derived.BigQuiet
import Derived.Lib.OthersKept
import Derived.Deep.AppendLies
import Derived.Test.YtbgfankoojjejaaGreatDoorGd03
import Derived.Shelf.Spec.TrailingZeros
import Derived.Deep.DeepCutAuto
import Derived.Outline
set_option linter.unusedSimpArgs false
set_option linter.unusedVariables false
set_option maxHeartbeats 8000000
set_option maxRecDepth 1000000
namespace Go.Proofs.YtbgfankoojjejaaGreatDoor
open Go Go.RowKit
structure RStep (p:Nat) (w:World) (mv cv:Value) (w':World) (mv' cv':Value):Prop where
 os:w'.os=w.os
 tape:w'.tape=w.tape
 output:w'.output=w.output
 size:w.heap.size≤w'.heap.size
 block:∀ b,b < w.heap.size→b≠p→mv.ownBlock≠some b→cv.ownBlock≠some b→w'.heap[b]?=w.heap[b]?∧mv'.ownBlock≠some b∧cv'.ownBlock≠some b
theorem RStep.refl (p:Nat) (w:World) (mv cv:Value):RStep p w mv cv w mv cv:=⟨rfl,rfl,rfl,Nat.le_refl _,fun _ _ _ h1 h2=>⟨rfl,h1,h2⟩⟩
theorem RStep.trans {p:Nat} {w w1 w2:World} {mv cv mv1 cv1 mv2 cv2:Value} (h:RStep p w mv cv w1 mv1 cv1) (k:RStep p w1 mv1 cv1 w2 mv2 cv2):RStep p w mv cv w2 mv2 cv2:=
 ⟨k.os.trans h.os,k.tape.trans h.tape,k.output.trans h.output,Nat.le_trans h.size k.size,fun b hb hp h1 h2=>by
  obtain ⟨e1,e2,e3⟩:=h.block b hb hp h1 h2
  obtain ⟨f1,f2,f3⟩:=k.block b (Nat.lt_of_lt_of_le hb h.size) hp e2 e3
  exact ⟨f1.trans e1,f2,f3⟩⟩
theorem RStep.of_below {p:Nat} {w w':World} {mv cv:Value} (h:Below w.heap.size w w'):RStep p w mv cv w' mv cv:=
 ⟨h.os,h.tape,h.output,h.size,fun b hb _ h1 h2=>⟨h.block b hb,h1,h2⟩⟩
def OffR (p:Nat) (mv cv:Value) (b:Nat):Prop:=b≠p∧mv.ownBlock≠some b∧cv.ownBlock≠some b
theorem RStep.keep {p:Nat} {w w':World} {mv cv mv' cv':Value} (h:RStep p w mv cv w' mv' cv'):∀ b,OffR p mv cv b→b < w.heap.size→OffR p mv' cv' b∧∀ o,w'.cell? ⟨b,o,none⟩=w.cell? ⟨b,o,none⟩:=fun b hf hb=>by
 obtain ⟨e1,e2,e3⟩:=h.block b hb hf.1 hf.2.1 hf.2.2
 exact ⟨⟨hf.1,e2,e3⟩,fun o=>World.cell?_of_block (w:=w) (a:=⟨b,o,none⟩) e1⟩
structure Rd (B p:Nat) (w:World) (s:ByteArray) (st:ReSt) (es:List Bool) (dep:Nat) (mv cv:Value):Prop where
 blk:Blk w p #[.string s,.int .i64 (st.pos:Int),mv,cv,.int .i64 (dep:Int)] 171
 mo:w.ownsRow B 77 2 mv st.marks.length (marksC st.marks)
 co:w.ownsRow B 4 1 cv es.length (es.map Value.bool)
 rr:RR es (st.opened:Int) st.closed
 bp:B≤p
 mp:mv.ownBlock≠some p
 cp:cv.ownBlock≠some p
 mc:∀ b,mv.ownBlock=some b→cv.ownBlock≠some b
 pos:st.pos≤s.size
 small:s.size≤250
 few:st.marks.length≤st.pos∧es.length≤st.pos
theorem Rd.below {B p:Nat} {w w':World} {s:ByteArray} {st:ReSt} {es:List Bool} {dep:Nat} {mv cv:Value} (h:Rd B p w s st es dep mv cv) (hb:Below w.heap.size w w'):Rd B p w' s st es dep mv cv:=
 { h with blk:=h.blk.below hb h.blk.lt,mo:=nd_own_below h.mo hb,co:=nd_own_below h.co hb }
structure RdC (w:World) (p:Nat) (s:ByteArray) (k:Int) (mv cv:Value) (d:Int):Prop where
 c0:w.cell? ⟨p,0,none⟩=some (.string s)
 c1:w.cell? ⟨p,1,none⟩=some (.int .i64 k)
 c2:w.cell? ⟨p,2,none⟩=some mv
 c3:w.cell? ⟨p,3,none⟩=some cv
 c4:w.cell? ⟨p,4,none⟩=some (.int .i64 d)
 z1:w.frozen? ⟨p,1,none⟩=false
 z2:w.frozen? ⟨p,2,none⟩=false
 z3:w.frozen? ⟨p,3,none⟩=false
 z4:w.frozen? ⟨p,4,none⟩=false
theorem Rd.cells {B p:Nat} {w:World} {s:ByteArray} {st:ReSt} {es:List Bool} {dep:Nat} {mv cv:Value} (h:Rd B p w s st es dep mv cv):RdC w p s (st.pos:Int) mv cv (dep:Int):=
 ⟨(h.blk.cell 0).trans rfl,(h.blk.cell 1).trans rfl,(h.blk.cell 2).trans rfl,(h.blk.cell 3).trans rfl,(h.blk.cell 4).trans rfl,h.blk.frozen 1,h.blk.frozen 2,h.blk.frozen 3,h.blk.frozen 4⟩
theorem Rd.goto {B p:Nat} {w:World} {s:ByteArray} {st:ReSt} {es:List Bool} {dep:Nat} {mv cv:Value} (h:Rd B p w s st es dep mv cv) (k:Nat) (hk:st.pos≤k) (hs:k≤s.size) :
  Rd B p (w.setCell ⟨p,1,none⟩ (.int .i64 (k:Int))) s (st.to k) es dep mv cv∧RStep p w mv cv (w.setCell ⟨p,1,none⟩ (.int .i64 (k:Int))) mv cv:=by
 have hset:∀ b,b≠p→(w.setCell ⟨p,1,none⟩ (.int .i64 (k:Int))).heap[b]?=w.heap[b]?:=fun b hb=>Below.heap_setCell _ _ _ _ (fun e=>hb e)
 have hsz:(w.setCell ⟨p,1,none⟩ (.int .i64 (k:Int))).heap.size=w.heap.size:=by simp [World.setCell]
 refine ⟨{ blk:=(h.blk.set 1 (.int .i64 (k:Int))),mo:=?_,co:=?_,rr:=h.rr,bp:=h.bp,mp:=h.mp,cp:=h.cp,mc:=h.mc,pos:=hs,small:=h.small,few:=⟨Nat.le_trans h.few.1 hk,Nat.le_trans h.few.2 hk⟩ },?_⟩
 ·exact h.mo.kept ⟨rfl,rfl,rfl,by rw [hsz];exact Nat.le_refl _,fun b _ hb=>hset b (fun e=>hb (by rw [e]))⟩ (Or.inr h.mp)
 ·exact h.co.kept ⟨rfl,rfl,rfl,by rw [hsz];exact Nat.le_refl _,fun b _ hb=>hset b (fun e=>hb (by rw [e]))⟩ (Or.inr h.cp)
 ·exact ⟨rfl,rfl,rfl,by rw [hsz];exact Nat.le_refl _,fun b _ hp h1 h2=>⟨hset b hp,h1,h2⟩⟩
theorem stands_any {B p:Nat} {s:ByteArray} {st:ReSt} {es:List Bool} {dep:Nat} {mv cv:Value} (t:ByteArray) (w:World) (h:Rd B p w s st es dep mv cv) :
  Calls Tryz.prog 135 #[.pointer (some ⟨p,0,none⟩),.string t] w fun e w'=>e=.returned (.bool (wordAt s.data.toList st.pos t.data.toList))∧∃ n,w'=w.drewN n:=by
 obtain ⟨c0,c1,c2,c3,c4,z1,z2,z3,z4⟩:=h.cells
 have hp:=h.pos
 have hs:=h.small
 have hx:=ext_list s st.pos
 have hc:=fun w=>prefix_any (s.extract st.pos s.size) t w
 rw [hx] at hc
 clear hx h
 unfold wordAt
 go_enter Tryz.func135,Tryz.ntmps135
 go_wp2_with fail
 have hp2:(st.pos:Int)≤(s.size:Int):=by omega
 go_quiet ((go_at_call 33;exact Calls.quiet_of_same ((hc _).mono fun _ _ h=>⟨h.1,h.2.symm⟩)))
 go_wp2_with fail
 go_ret
 exact ⟨rfl,_,rfl⟩
end Go.Proofs.YtbgfankoojjejaaGreatDoor
namespace Go.Proofs.YtbgfankoojjejaaGreatDoor
open Go Go.RowKit
theorem skip_no {B p:Nat} {s:ByteArray} {st:ReSt} {es:List Bool} {dep:Nat} {mv cv:Value} (t:ByteArray) (w:World) (h:Rd B p w s st es dep mv cv) (hn:wordAt s.data.toList st.pos t.data.toList=false) :
  Calls Tryz.prog 122 #[.pointer (some ⟨p,0,none⟩),.string t] w fun e w'=>e=.returned (.bool false)∧∃ n,w'=w.drewN n:=by
 have hc:=stands_any t w h
 rw [hn] at hc
 clear h
 go_enter Tryz.func122,Tryz.ntmps122
 go_wp2_with (go_at_call 135;refine hc.mono ?_;rintro e w' ⟨rfl,n,rfl⟩)
 go_ret
 exact ⟨rfl,n,rfl⟩
theorem skip_yes {B p:Nat} {s:ByteArray} {st:ReSt} {es:List Bool} {dep:Nat} {mv cv:Value} (t:ByteArray) (w:World) (h:Rd B p w s st es dep mv cv) (hn:wordAt s.data.toList st.pos t.data.toList=true) (h0:t.data.toList≠[]) :
  Calls Tryz.prog 122 #[.pointer (some ⟨p,0,none⟩),.string t] w fun e w'=>e=.returned (.bool true)∧Rd B p w' s (st.to (st.pos+t.size)) es dep mv cv∧RStep p w mv cv w' mv cv:=by
 have hc:=stands_any t w h
 rw [hn] at hc
 have hl:=word_len _ _ _ hn h0
 have e1:s.data.toList.length=s.size:=by simp
 have e2:t.data.toList.length=t.size:=by simp
 rw [e1,e2] at hl
 have hsm:=h.small
 have Wn:IntKind.i64.wrap ((st.pos:Int)+(t.size:Int))=((st.pos+t.size:Nat):Int):=by rw [IntWalk.i64_in _ (by omega)];omega
 have hg:=fun n=>(h.below (below_drewN (Below.refl w.heap.size w) n)).goto (st.pos+t.size) (by omega) hl
 have hstep:=fun n=>RStep.of_below (p:=p) (mv:=mv) (cv:=cv) (below_drewN (Below.refl w.heap.size w) n)
 obtain ⟨c0,c1,c2,c3,c4,z1,z2,z3,z4⟩:=h.cells
 have hx:(st.pos:Int)+(t.size:Int)=((st.pos+t.size:Nat):Int):=by omega
 clear h hn h0 e1 e2
 have HG:=Lib.hid hg
 have HX:=Lib.hid hx
 clear hg hx
 go_enter Tryz.func122,Tryz.ntmps122
 go_wp2_with (go_at_call 135;refine hc.mono ?_;rintro e w' ⟨rfl,n,rfl⟩)
 go_ret
 refine ⟨rfl,?_,?_⟩
 ·exact (HG.out n).1
 ·exact (hstep n).trans (HG.out n).2
theorem bends_any (s:ByteArray) (k:Nat) (w:World) :
  Calls Tryz.prog 123 #[.string (s.extract k s.size)] w fun e w'=>e=.returned (.bool (endsAt s.data.toList k))∧w=w':=by
 have h1:=fun w=>prefix_any (s.extract k s.size) ⟨#[92,124]⟩ w
 have h2:=fun w=>prefix_any (s.extract k s.size) ⟨#[92,41]⟩ w
 have hx:=ext_list s k
 rw [hx] at h1 h2
 rw [ends_words]
 unfold wordAt
 have hE:(s.data.toList.drop k).isEmpty=(s.extract k s.size).toList.isEmpty:=by rw [←hx,ByteArray.toList_eq]
 rw [hE]
 generalize s.extract k s.size=r at *
 generalize s.data.toList.drop k=l at *
 clear hE hx
 cases he:r.toList.isEmpty
 ·have e2:¬ r.toList=[]:=by intro e;rw [e] at he;cases he
  have e1:(r.toList == [])=false:=by rw [beq_eq_false_iff_ne];exact e2
  cases q1:Lib.hasPrefix l [92,124]
  ·rw [show Lib.hasPrefix l (⟨#[92,124]⟩:ByteArray).data.toList=false from q1] at h1
   cases q2:Lib.hasPrefix l [92,41]
   ·rw [show Lib.hasPrefix l (⟨#[92,41]⟩:ByteArray).data.toList=false from q2] at h2
    clear q1 q2
    go_enter Tryz.func123,Tryz.ntmps123
    go_wp2_with (first | (go_at_call_of 33 (ByteArray.mk #[92,124]);refine (h1 _).mono ?_;rintro e w' ⟨rfl,rfl⟩) | (go_at_call 33;refine (h2 _).mono ?_;rintro e w' ⟨rfl,rfl⟩))
    go_ret
    exact ⟨rfl,rfl⟩
   ·rw [show Lib.hasPrefix l (⟨#[92,41]⟩:ByteArray).data.toList=true from q2] at h2
    clear q1 q2
    go_enter Tryz.func123,Tryz.ntmps123
    go_wp2_with (first | (go_at_call_of 33 (ByteArray.mk #[92,124]);refine (h1 _).mono ?_;rintro e w' ⟨rfl,rfl⟩) | (go_at_call 33;refine (h2 _).mono ?_;rintro e w' ⟨rfl,rfl⟩))
    go_ret
    exact ⟨rfl,rfl⟩
  ·rw [show Lib.hasPrefix l (⟨#[92,124]⟩:ByteArray).data.toList=true from q1] at h1
   clear q1
   go_enter Tryz.func123,Tryz.ntmps123
   go_wp2_with (first | (go_at_call_of 33 (ByteArray.mk #[92,124]);refine (h1 _).mono ?_;rintro e w' ⟨rfl,rfl⟩) | (go_at_call 33;refine (h2 _).mono ?_;rintro e w' ⟨rfl,rfl⟩))
   go_ret
   exact ⟨rfl,rfl⟩
 ·have e2:r.toList=[]:=List.isEmpty_iff.1 he
  have e1:(r.toList == [])=true:=by rw [e2];rfl
  clear h1 h2
  go_enter Tryz.func123,Tryz.ntmps123
  go_wp2_with fail
  go_ret
  exact ⟨rfl,rfl⟩
theorem decodeN_hi (n b c d e:Nat) (h:¬ b < 128):127 < (Lib.decodeN n b c d e).1:=by
 unfold Lib.decodeN
 rw [if_neg h]
 repeat' split
 all_goals (simp only;omega)
theorem decode_hi (s:ByteArray) (pos:Nat) (h:¬ (s.data.toList.getD pos 0).toNat < 128):127 < (Utf8.decode s pos).1:=by
 rw [decode_list]
 exact decodeN_hi _ _ _ _ _ h
theorem ext_size (s:ByteArray) (k:Nat):(s.extract k s.size).size=s.size - k:=by
 simp
end Go.Proofs.YtbgfankoojjejaaGreatDoor
namespace Go.Proofs.YtbgfankoojjejaaGreatDoor
open Go Go.RowKit
theorem Rd.mark {B p:Nat} {W w6:World} {s:ByteArray} {st:ReSt} {es:List Bool} {dep:Nat} {mv cv v6:Value} {m:Nat × Nat} (h:Rd B p W s st es dep mv cv)
  (hown:w6.ownsRow B 77 2 v6 (st.marks.length+1) (marksC st.marks++markC m)) (hg:W.grownBy w6 mv.ownBlock) (hat:v6.ownBlock=mv.ownBlock∨v6.ownBlock=some W.heap.size) (hfew:st.marks.length+1≤st.pos) :
  Rd B p (w6.setCell ⟨p,2,none⟩ v6) s { st with marks:=st.marks++[m] } es dep v6 cv∧RStep p W mv cv (w6.setCell ⟨p,2,none⟩ v6) v6 cv:=by
 have hpl:=h.blk.lt
 have hcl:=fun b hb=>own_lt' h.co b hb
 have hset:∀ b,b≠p→(w6.setCell ⟨p,2,none⟩ v6).heap[b]?=w6.heap[b]?:=fun b hb=>Below.heap_setCell _ _ _ _ (fun e=>hb e)
 have hsz:(w6.setCell ⟨p,2,none⟩ v6).heap.size=w6.heap.size:=by simp [World.setCell]
 have hv6p:v6.ownBlock≠some p:=by
  rcases hat with e | e
  ·rw [e];exact h.mp
  ·rw [e];intro he;injection he with he;omega
 have hb6:Blk w6 p #[.string s,.int .i64 (st.pos:Int),mv,cv,.int .i64 (dep:Int)] 171:=by
  have h1:=h.blk
  unfold Blk at h1 ⊢
  rw [hg.block p hpl (fun e=>h.mp e.symm)]
  exact h1
 have hco6:=h.co.kept hg (by
  rcases hc:cv.ownBlock with _ | b
  ·exact .inl rfl
  ·refine .inr (fun e=>?_)
   exact h.mc b e.symm hc)
 refine ⟨{ blk:=hb6.set 2 v6,mo:=?_,co:=?_,rr:=h.rr,bp:=h.bp,mp:=hv6p,cp:=h.cp,mc:=?_,pos:=h.pos,small:=h.small,few:=⟨by simp;exact hfew,h.few.2⟩ },?_⟩
 ·rw [List.length_append,marksC_snoc]
  exact hown.kept ⟨rfl,rfl,rfl,by rw [hsz];exact Nat.le_refl _,fun b _ hb=>hset b (fun e=>hb (by rw [e]))⟩ (Or.inr hv6p)
 ·exact hco6.kept ⟨rfl,rfl,rfl,by rw [hsz];exact Nat.le_refl _,fun b _ hb=>hset b (fun e=>hb (by rw [e]))⟩ (Or.inr h.cp)
 ·intro b hb
  rcases hat with e | e
  ·exact h.mc b (by rw [←e];exact hb)
  ·intro hc
   rw [e] at hb
   injection hb with hb
   have:=hcl b hc
   omega
 ·refine ⟨hg.os,hg.tape,hg.output,by rw [hsz];exact hg.size,fun b hb hp h1 h2=>⟨?_,?_,h2⟩⟩
  ·rw [hset b hp]
   exact hg.block b hb (fun e=>h1 e.symm)
  ·rcases hat with e | e
   ·rw [e];exact h1
   ·rw [e];intro he;injection he with he;omega
theorem skipm_no {B p:Nat} {s:ByteArray} {st:ReSt} {es:List Bool} {dep:Nat} {mv cv:Value} (t:ByteArray) (w:World) (h:Rd B p w s st es dep mv cv) (hn:wordAt s.data.toList st.pos t.data.toList=false) :
  Calls Tryz.prog 104 #[.pointer (some ⟨p,0,none⟩),.string t] w fun e w'=>e=.returned (.bool false)∧∃ n,w'=w.drewN n:=by
 have hc:=skip_no t w h hn
 obtain ⟨c0,c1,c2,c3,c4,z1,z2,z3,z4⟩:=h.cells
 clear h
 go_enter Tryz.func104,Tryz.ntmps104
 go_wp2_with (go_at_call 122;refine hc.mono ?_;rintro e w' ⟨rfl,n,rfl⟩)
 go_ret
 exact ⟨rfl,n,rfl⟩
theorem skipm_yes {B p:Nat} {s:ByteArray} {st:ReSt} {es:List Bool} {dep:Nat} {mv cv:Value} (c:Nat) (w:World) (h:Rd B p w s st es dep mv cv) (hn:wordAt s.data.toList st.pos [92,UInt8.ofNat c]=true) :
  Calls Tryz.prog 104 #[.pointer (some ⟨p,0,none⟩),.string ⟨#[92,UInt8.ofNat c]⟩] w fun e w'=>e=.returned (.bool true)∧∃ mv',Rd B p w' s ((st.mark c).to (st.pos+2)) es dep mv' cv∧RStep p w mv cv w' mv' cv:=by
 obtain ⟨i0,hi,hz0,hz1,hz2⟩:=mark_info
 have hc:=skip_yes ⟨#[92,UInt8.ofNat c]⟩ w h hn (by simp)
 rw [show (ByteArray.mk #[92,UInt8.ofNat c]).size=2 from rfl] at hc
 have hs:=h.small
 have hp:=h.pos
 have hfew:=h.few.1
 obtain ⟨c0,c1,c2,c3,c4,z1,z2,z3,z4⟩:=h.cells
 have hb0:=Nat.le_trans h.bp (Nat.le_of_lt h.blk.lt)
 clear h
 go_enter Tryz.func104,Tryz.ntmps104
 go_wp2_with fail
 refine hc.mono ?_
 rintro e w1 ⟨rfl,hR,hS⟩
 clear hc c0 c1 c2 c3 c4 z1 z2 z3 z4
 obtain ⟨c0,c1,c2,c3,c4,z1,z2,z3,z4⟩:=hR.cells
 have hA:=(Below.refl w1.heap.size w1).alloc (Nat.le_refl _) (.cells #[.int .i64 (st.pos:Int),.string ⟨#[92,UInt8.ofNat c]⟩] 77)
 have hRA:=hR.below hA
 have hpl:=hR.blk.lt
 have hSA:=hS.trans (RStep.of_below (p:=p) (mv:=mv) (cv:=cv) hA)
 have hnw:∀ j u,(markC (st.pos,c))[j]?=some u→(w1.alloc (.cells #[.int .i64 (st.pos:Int),.string ⟨#[92,UInt8.ofNat c]⟩] 77)).cell? ((⟨w1.heap.size,0,none⟩:Addr).add j)=some u:=by
  have hb:=Blk.new w1 #[.int .i64 (st.pos:Int),.string ⟨#[92,UInt8.ofNat c]⟩] 77 w1.heap.size rfl
  intro j u hu
  rw [Go.WideShapes.add_plain,Nat.zero_add,hb.cell j,←Array.getElem?_toList]
  exact hu
 have hv1:∀ u∈markC (st.pos,c),u.oneCell'=true:=by intro u hu;simp [markC] at hu;rcases hu with rfl | rfl <;> rfl
 have hm1:(st.to (st.pos+2)).marks.length+1≤maxLen:=by show st.marks.length+1≤_;unfold maxLen;omega
 have hm2:((st.to (st.pos+2)).marks.length+1) * 24≤140737488355328:=by show (st.marks.length+1) * 24≤_;omega
 have hbase:B≤w1.heap.size:=Nat.le_trans hR.bp (Nat.le_of_lt hpl)
 have HS:=Lib.hid hSA
 have HR:=Lib.hid hRA
 clear hA hRA hSA hR hS
 go_wp2_with (at_builtin;refine wpList_append_any _ rfl _ _ 36 rfl B 77 i0 (.agg #[.int .i64 0,.string ⟨#[]⟩]) 2 24 Tryz.underlying36 hi hz0 hz1 hz2 rfl (by decide) mv _ _ rfl HR.out.mo (some ⟨w1.heap.size,0,none⟩) 1 1 (markC (st.pos,c)) rfl rfl (fun _=>⟨_,rfl,hnw⟩) hv1 hm1 hm2 (by simp;omega) ?_;intro v6 w6 hown6 hgrow6 hat6;have HM:=Lib.hid (HR.out.mark (m:=(st.pos,c)) hown6 hgrow6 hat6 (by show st.marks.length+1≤st.pos+2;omega));have hfz:w6.frozen? ⟨p,2,none⟩=false:=(hgrow6.frozen_far ⟨p,2,none⟩ (by simp;omega) (fun e=>HR.out.mp e.symm)).trans (HR.out.blk.frozen 2);have hce:w6.cell? ⟨p,2,none⟩=some mv:=(hgrow6.cell_far ⟨p,2,none⟩ (by simp;omega) (fun e=>HR.out.mp e.symm)).trans ((HR.out.blk.cell 2).trans rfl);obtain ⟨g,gcap,hv6,_,_⟩:=World.ownsRow.form hown6 (Nat.succ_pos _);subst hv6;clear hown6 hgrow6 hat6 hnw c0 c1 c2 c3 c4 z1 z2 z3 z4)
 go_ret
 exact ⟨rfl,_,HM.out.1,HS.out.trans HM.out.2⟩
end Go.Proofs.YtbgfankoojjejaaGreatDoor
namespace Go.Proofs.YtbgfankoojjejaaGreatDoor
open Go.RowKit
end Go.Proofs.YtbgfankoojjejaaGreatDoor
namespace Go.Proofs.YtbgfankoojjejaaGreatDoor
open Go.RowKit
end Go.Proofs.YtbgfankoojjejaaGreatDoor
namespace Go.Proofs.YtbgfankoojjejaaGreatDoor
open Go.RowKit Go.Shelf
def zren:Go.Shelf.Ren:=⟨fun | 29=>169 | n=>n,fun | 0=>0 | 3=>3 | 4=>4 | 5=>5 | 22=>130 | 25=>210 | 54=>256 | n=>n,fun | 1=>5 | n=>n⟩
theorem zlays:Go.Proofs.Lays7.n29 Tryz.prog zren:={
 mixed:=by kernel_rfl
 f29:=Tryz.func169.trans (congrArg some (by kernel_rfl))
 t0:=Tryz.underlying0
 a0:=Tryz.isAgg0
 z0:=Tryz.sizeOf0
 v0:=Tryz.zeroValue0
 i0:=by kernel_rfl
 t3:=Tryz.underlying3
 a3:=Tryz.isAgg3
 z3:=Tryz.sizeOf3
 v3:=Tryz.zeroValue3
 i3:=by kernel_rfl
 t4:=Tryz.underlying4
 a4:=Tryz.isAgg4
 z4:=Tryz.sizeOf4
 v4:=Tryz.zeroValue4
 i4:=by kernel_rfl
 t5:=Tryz.underlying5
 a5:=Tryz.isAgg5
 z5:=Tryz.sizeOf5
 v5:=Tryz.zeroValue5
 i5:=by kernel_rfl
 t22:=Tryz.underlying130
 a22:=Tryz.isAgg130
 z22:=Tryz.sizeOf130
 v22:=Tryz.zeroValue130
 i22:=by kernel_rfl
 t25:=Tryz.underlying210
 a25:=Tryz.isAgg210
 z25:=Tryz.sizeOf210
 v25:=Tryz.zeroValue210
 i25:=by kernel_rfl
 t54:=Tryz.underlying256
 a54:=Tryz.isAgg256
 z54:=Tryz.sizeOf256
 g1:=by kernel_rfl }
def TabIn (w:World):Prop:=TabAt 5 Lib.deBruijn64tab w
theorem tabIn_below {w w':World} {B:Nat} (h:TabIn w) (hb:Below B w w') (hB:5 < B):TabIn w':=fun j hj=>(hb.cell (p:=⟨5,j,none⟩) hB).trans (h j hj)
theorem zeros_any (s:OSet) (i:Nat) (w:World) (hT:TabIn w) :
  Calls Tryz.prog 169 #[.int .u64 (ow s i)] w fun e w'=>e=.returned (.int .i64 (Lib.ctz 64 (owN s i):Int))∧w=w':=
 (Any7.bits_TrailingZeros64 zlays (owN s i) (owN_lt s i) w (fun _=>hT)).mono fun _ _ ⟨h1,h2⟩=>⟨h1,h2.symm⟩
theorem ctz_of (x c:Nat) (hx:x < 18446744073709551616) (h1:x.testBit c=true) (h2:∀ j,j < c→x.testBit j=false):Lib.ctz 64 x=c:=by
 have hx0:x≠0:=by
  rintro rfl
  simp at h1
 obtain ⟨m,hm,hlt⟩:=Lib.ctzFrom_spec 64 x (by omega) hx
 unfold Lib.ctz
 rw [if_neg hx0]
 generalize Lib.ctzFrom 64 x=d at hm hlt
 have hd:x.testBit d=true:=by
  rw [hm,Nat.testBit_two_pow_mul]
  simp
 have hd2:∀ j,j < d→x.testBit j=false:=fun j hj=>by
  rw [hm,Nat.testBit_two_pow_mul]
  simp;omega
 rcases Nat.lt_trichotomy c d with h | h | h
 ·rw [hd2 c h] at h1;cases h1
 ·exact h.symm
 ·rw [h2 d h] at hd;cases hd
theorem word_zero (s:OSet) (i k:Nat) (h:∀ b,b < k→ohas s b=false) (hk:64 * i+64≤k):ow s i=0:=by
 have:owN s i=0:=by
  refine (owN_eq s i 0 (by decide) fun j hj=>?_).symm
  have:=h (64 * i+j) (by omega)
  unfold ohas at this
  simp [this]
 unfold ow
 rw [this]
 rfl
theorem word_least (s:OSet) (k:Nat) (h1:ohas s k=true) (h:∀ b,b < k→ohas s b=false):(ow s (k / 64) != 0)=true∧Lib.ctz 64 (owN s (k / 64))=k % 64:=by
 have hb:(owN s (k / 64)).testBit (k % 64)=true:=by
  rw [owN_testBit,show 64 * (k / 64)+k % 64=k by omega]
  unfold ohas at h1
  simp [h1]
  omega
 refine ⟨?_,ctz_of _ _ (owN_lt _ _) hb fun j hj=>?_⟩
 ·rw [bne_iff_ne]
  intro h0
  have:owN s (k / 64)=0:=by unfold ow at h0;omega
  rw [this] at hb
  simp at hb
 ·rw [owN_testBit]
  have:=h (64 * (k / 64)+j) (by omega)
  unfold ohas at this
  simp [this]
theorem least_index0 (a b c d:Int) (w:World):(Instr.index 132 (.agg #[.int .u64 a,.int .u64 b,.int .u64 c,.int .u64 d]) (.int .i64 0)).run Tryz.prog w=.ok (.int .u64 a) w:=by kernel_rfl
theorem least_index1 (a b c d:Int) (w:World):(Instr.index 132 (.agg #[.int .u64 a,.int .u64 b,.int .u64 c,.int .u64 d]) (.int .i64 1)).run Tryz.prog w=.ok (.int .u64 b) w:=by kernel_rfl
theorem least_index2 (a b c d:Int) (w:World):(Instr.index 132 (.agg #[.int .u64 a,.int .u64 b,.int .u64 c,.int .u64 d]) (.int .i64 2)).run Tryz.prog w=.ok (.int .u64 c) w:=by kernel_rfl
theorem least_index3 (a b c d:Int) (w:World):(Instr.index 132 (.agg #[.int .u64 a,.int .u64 b,.int .u64 c,.int .u64 d]) (.int .i64 3)).run Tryz.prog w=.ok (.int .u64 d) w:=by kernel_rfl
theorem least_some (s:OSet) (k:Nat) (hk:k < 256) (h1:ohas s k=true) (h:∀ b,b < k→ohas s b=false) (w:World) (hT:TabIn w) (hg:5 < w.heap.size) :
  Calls Tryz.prog 166 #[.agg #[.int .u64 (ow s 0),.int .u64 (ow s 1),.int .u64 (ow s 2),.int .u64 (ow s 3)]] w fun e w'=>e=.returned (.tuple #[.int .u8 (k:Int),.bool true])∧Below w.heap.size w w':=by
 have i0:=least_index0 (ow s 0) (ow s 1) (ow s 2) (ow s 3)
 have i1:=least_index1 (ow s 0) (ow s 1) (ow s 2) (ow s 3)
 have i2:=least_index2 (ow s 0) (ow s 1) (ow s 2) (ow s 3)
 have i3:=least_index3 (ow s 0) (ow s 1) (ow s 2) (ow s 3)
 obtain ⟨w1,w2⟩:=word_least s k h1 h
 have hT1:TabIn (w.alloc (.cells #[.int .u64 (ow s 0),.int .u64 (ow s 1),.int .u64 (ow s 2),.int .u64 (ow s 3)] 132)):=tabIn_below hT ((Below.refl w.heap.size w).alloc (Nat.le_refl _) _) hg
 have Hz:=Lib.hid (fun i (hi:64 * i+64≤k)=>show (ow s i != 0)=false by rw [word_zero s i k h hi];rfl)
 clear h1 h hT
 have hc:k % 64 < 64:=by omega
 generalize hcc:k % 64=c at w2 hc
 have Hc:=Lib.hid hcc
 clear hcc
 have hq:k / 64=0∨k / 64=1∨k / 64=2∨k / 64=3:=by omega
 rcases hq with hq | hq | hq | hq
 ·rw [hq] at w1 w2
  have Hq:=Lib.hid hq
  clear hq
  have He:=Lib.hid (show ((64 * 0+c:Nat):Int)=(k:Int) by have:=Hq.out;have:=Hc.out;omega)
  go_enter Tryz.func166,Tryz.ntmps166
  go_wp2
  refine wp_loop_rounds 1 ?_
  rw [rounds_succ]
  go_wp2_with (go_at_call 169;refine (zeros_any s _ _ hT1).mono ?_;rintro e w' ⟨rfl,rfl⟩)
  go_ret2
  refine ⟨by rw [←He.out];simp,(Below.refl _ _).alloc (Nat.le_refl _) _⟩
 ·rw [hq] at w1 w2
  have Hq:=Lib.hid hq
  clear hq
  have z0:=Hz.out 0 (by have:=Hq.out;omega)
  have He:=Lib.hid (show ((64 * 1+c:Nat):Int)=(k:Int) by have:=Hq.out;have:=Hc.out;omega)
  go_enter Tryz.func166,Tryz.ntmps166
  go_wp2
  refine wp_loop_rounds 2 ?_
  rw [rounds_succ]
  go_wp2
  rw [rounds_succ]
  go_wp2_with (go_at_call 169;refine (zeros_any s _ _ hT1).mono ?_;rintro e w' ⟨rfl,rfl⟩)
  go_ret2
  refine ⟨by rw [←He.out];simp,(Below.refl _ _).alloc (Nat.le_refl _) _⟩
 ·rw [hq] at w1 w2
  have Hq:=Lib.hid hq
  clear hq
  have z0:=Hz.out 0 (by have:=Hq.out;omega)
  have z1:=Hz.out 1 (by have:=Hq.out;omega)
  have He:=Lib.hid (show ((64 * 2+c:Nat):Int)=(k:Int) by have:=Hq.out;have:=Hc.out;omega)
  go_enter Tryz.func166,Tryz.ntmps166
  go_wp2
  refine wp_loop_rounds 3 ?_
  rw [rounds_succ]
  go_wp2
  rw [rounds_succ]
  go_wp2
  rw [rounds_succ]
  go_wp2_with (go_at_call 169;refine (zeros_any s _ _ hT1).mono ?_;rintro e w' ⟨rfl,rfl⟩)
  go_ret2
  refine ⟨by rw [←He.out];simp,(Below.refl _ _).alloc (Nat.le_refl _) _⟩
 ·rw [hq] at w1 w2
  have Hq:=Lib.hid hq
  clear hq
  have z0:=Hz.out 0 (by have:=Hq.out;omega)
  have z1:=Hz.out 1 (by have:=Hq.out;omega)
  have z2:=Hz.out 2 (by have:=Hq.out;omega)
  have He:=Lib.hid (show ((64 * 3+c:Nat):Int)=(k:Int) by have:=Hq.out;have:=Hc.out;omega)
  go_enter Tryz.func166,Tryz.ntmps166
  go_wp2
  refine wp_loop_rounds 4 ?_
  rw [rounds_succ]
  go_wp2
  rw [rounds_succ]
  go_wp2
  rw [rounds_succ]
  go_wp2
  rw [rounds_succ]
  go_wp2_with (go_at_call 169;refine (zeros_any s _ _ hT1).mono ?_;rintro e w' ⟨rfl,rfl⟩)
  go_ret2
  refine ⟨by rw [←He.out];simp,(Below.refl _ _).alloc (Nat.le_refl _) _⟩
end Go.Proofs.YtbgfankoojjejaaGreatDoor
namespace Go.Proofs.YtbgfankoojjejaaGreatDoor
open Go.RowKit
theorem pbyt_at (s:ByteArray) (k:Nat) (h:k < s.size):byt s.data.toList k=s[k].toNat:=by
 unfold byt
 rw [List.getD_eq_getElem?_getD,List.getElem?_eq_getElem (by simpa using h)]
 rfl
theorem plist_size (s:ByteArray):s.data.toList.length=s.size:=by simp
theorem pu8a (b:UInt8):(0:Int)≤(b.toNat:Int):=Int.natCast_nonneg _
theorem pu8b (b:UInt8):(b.toNat:Int)≤255:=by have:=b.toNat_lt;omega
def dsh (s:List UInt8) (k:Nat):Bool:=decide (k+1 < s.length) && decide (byt s k=45) && !decide (byt s (k+1)=93)
theorem dash_any (s:ByteArray) (k:Nat) (w:World) (hs:s.size≤35184372088832) (hk:k≤s.size) :
  Calls Tryz.prog 154 #[.string s,.int .i64 (k:Int)] w fun e w'=>e=.returned (.bool (dsh s.data.toList k))∧Below w.heap.size w w':=by
 have Wn:IntKind.i64.wrap ((k:Int)+1)=(k:Int)+1:=IntWalk.i64_in _ (by omega)
 by_cases q1:k+1 < s.size
 ·have Hd:=Lib.hid (show dsh s.data.toList k=(decide (s[k].toNat=45) && !decide (s[k+1].toNat=93)) by
   unfold dsh;rw [plist_size,pbyt_at s k (by omega),pbyt_at s (k+1) q1,decide_eq_true q1,Bool.true_and])
  have r1:decide ((k:Int)+1 < (s.size:Int))=true:=by simp;omega
  by_cases q2:s[k].toNat=45
  ·have r2:((s[k].toNat:Int) == 45)=true:=by simp;omega
   have Q2:=Lib.hid q2
   clear q2
   by_cases q3:s[k+1].toNat=93
   ·have r3:((s[k+1].toNat:Int) != 93)=false:=by simp;omega
    have Q3:=Lib.hid q3
    clear q3
    go_enter Tryz.func154,Tryz.ntmps154
    go_wp2_with fail
    go_ret
    exact ⟨ret_bool (by rw [Hd.out,Q2.out,Q3.out];rfl),Below.refl _ _⟩
   ·have r3:((s[k+1].toNat:Int) != 93)=true:=by simp;omega
    have Q3:=Lib.hid q3
    clear q3
    go_enter Tryz.func154,Tryz.ntmps154
    go_wp2_with fail
    go_ret
    exact ⟨ret_bool (by rw [Hd.out,Q2.out,decide_eq_false Q3.out];rfl),Below.refl _ _⟩
  ·have r2:((s[k].toNat:Int) == 45)=false:=by simp;omega
   have Q2:=Lib.hid q2
   clear q2
   go_enter Tryz.func154,Tryz.ntmps154
   go_wp2_with fail
   go_ret
   exact ⟨ret_bool (by rw [Hd.out,decide_eq_false Q2.out];rfl),Below.refl _ _⟩
 ·have r1:decide ((k:Int)+1 < (s.size:Int))=false:=by simp;omega
  have Hd:=Lib.hid (show dsh s.data.toList k=false by
   unfold dsh;rw [plist_size,decide_eq_false q1];rfl)
  go_enter Tryz.func154,Tryz.ntmps154
  go_wp2_with fail
  go_ret
  exact ⟨ret_bool (by rw [Hd.out]),Below.refl _ _⟩
theorem iblk_cells {w:World} {a:Nat} {s:OSet} {m:Bool} {T:TypeId} (h:Blk w a #[.int .u64 (ow s 0),.int .u64 (ow s 1),.int .u64 (ow s 2),.int .u64 (ow s 3),.bool m] T) :
  w.cell? ⟨a,0,none⟩=some (.int .u64 (ow s 0))∧w.cell? ⟨a,1,none⟩=some (.int .u64 (ow s 1))∧w.cell? ⟨a,2,none⟩=some (.int .u64 (ow s 2))∧w.cell? ⟨a,3,none⟩=some (.int .u64 (ow s 3))∧w.cell? ⟨a,4,none⟩=some (.bool m):=
 ⟨(h.cell 0).trans rfl,(h.cell 1).trans rfl,(h.cell 2).trans rfl,(h.cell 3).trans rfl,(h.cell 4).trans rfl⟩
theorem oz_val:(.agg #[.int .u64 (ow oz 0),.int .u64 (ow oz 1),.int .u64 (ow oz 2),.int .u64 (ow oz 3)]:Value)=.agg #[.int .u64 0,.int .u64 0,.int .u64 0,.int .u64 0]:=by rw [ow_zero,ow_zero,ow_zero,ow_zero]
theorem least_one (b:Nat) (hb:b < 256) (w:World) (hT:TabIn w) (hg:5 < w.heap.size) :
  Calls Tryz.prog 166 #[.agg #[.int .u64 (ow (oSpan b b) 0),.int .u64 (ow (oSpan b b) 1),.int .u64 (ow (oSpan b b) 2),.int .u64 (ow (oSpan b b) 3)]] w fun e w'=>e=.returned (.tuple #[.int .u8 (b:Int),.bool true])∧Below w.heap.size w w':=
 least_some (oSpan b b) b hb (by rw [one_has b b hb];simp) (fun c hc=>by rw [one_has b c hb];simp;omega) w hT hg
def spn (A B:OSet) (ma mb:Bool):OSet:=if ma && mb then oSpan (lst A) (lst B) else oz
theorem pspan_any (A B:OSet) (ma mb:Bool) (hA:ma=true→∃ b:Nat,b < 256∧A=oSpan b b) (hB:mb=true→∃ b:Nat,b < 256∧B=oSpan b b) (w:World) (hT:TabIn w) (hg:5 < w.heap.size) :
  Calls Tryz.prog 155 #[.agg #[.int .u64 (ow A 0),.int .u64 (ow A 1),.int .u64 (ow A 2),.int .u64 (ow A 3),.bool ma],.agg #[.int .u64 (ow B 0),.int .u64 (ow B 1),.int .u64 (ow B 2),.int .u64 (ow B 3),.bool mb]] w fun e w'=>e=.returned (.agg #[.int .u64 (ow (spn A B ma mb) 0),.int .u64 (ow (spn A B ma mb) 1),.int .u64 (ow (spn A B ma mb) 2),.int .u64 (ow (spn A B ma mb) 3)])∧Below w.heap.size w w':=by
 have hW:=(((Below.refl w.heap.size w).alloc (Nat.le_refl _) (.cells #[.int .u64 (ow A 0),.int .u64 (ow A 1),.int .u64 (ow A 2),.int .u64 (ow A 3),.bool ma] 243)).alloc (by simp) (.cells #[.int .u64 (ow B 0),.int .u64 (ow B 1),.int .u64 (ow B 2),.int .u64 (ow B 3),.bool mb] 243)).alloc (by simp;omega) (.cells #[.int .u64 0,.int .u64 0,.int .u64 0,.int .u64 0] 132)
 cases ma
 ·go_enter Tryz.func155,Tryz.ntmps155
  go_wp2_with fail
  refine bodyPost_ret (v:=.agg #[.int .u64 0,.int .u64 0,.int .u64 0,.int .u64 0]) (by simp [results,Tryz.results155,go_sem]) rfl ⟨by rw [show spn A B false mb=oz from rfl,oz_val],hW⟩
 ·cases mb
  ·go_enter Tryz.func155,Tryz.ntmps155
   go_wp2_with fail
   refine bodyPost_ret (v:=.agg #[.int .u64 0,.int .u64 0,.int .u64 0,.int .u64 0]) (by simp [results,Tryz.results155,go_sem]) rfl ⟨by rw [show spn A B true false=oz from rfl,oz_val],hW⟩
  ·obtain ⟨a,ha,rfl⟩:=hA rfl
   obtain ⟨b,hb,rfl⟩:=hB rfl
   have hs:spn (oSpan a a) (oSpan b b) true true=oSpan a b:=by
    unfold spn
    rw [(lst_one a ha).2,(lst_one b hb).2]
    rfl
   rw [hs]
   have hb2:=(((Blk.new w #[.int .u64 (ow (oSpan a a) 0),.int .u64 (ow (oSpan a a) 1),.int .u64 (ow (oSpan a a) 2),.int .u64 (ow (oSpan a a) 3),.bool true] 243 _ rfl).alloc (.cells #[.int .u64 (ow (oSpan b b) 0),.int .u64 (ow (oSpan b b) 1),.int .u64 (ow (oSpan b b) 2),.int .u64 (ow (oSpan b b) 3),.bool true] 243)).alloc (.cells #[.int .u64 0,.int .u64 0,.int .u64 0,.int .u64 0] 132))
   have hb3:=((Blk.new (w.alloc (.cells #[.int .u64 (ow (oSpan a a) 0),.int .u64 (ow (oSpan a a) 1),.int .u64 (ow (oSpan a a) 2),.int .u64 (ow (oSpan a a) 3),.bool true] 243)) #[.int .u64 (ow (oSpan b b) 0),.int .u64 (ow (oSpan b b) 1),.int .u64 (ow (oSpan b b) 2),.int .u64 (ow (oSpan b b) 3),.bool true] 243 _ rfl).alloc (.cells #[.int .u64 0,.int .u64 0,.int .u64 0,.int .u64 0] 132))
   have hb4:=Blk.new ((w.alloc (.cells #[.int .u64 (ow (oSpan a a) 0),.int .u64 (ow (oSpan a a) 1),.int .u64 (ow (oSpan a a) 2),.int .u64 (ow (oSpan a a) 3),.bool true] 243)).alloc (.cells #[.int .u64 (ow (oSpan b b) 0),.int .u64 (ow (oSpan b b) 1),.int .u64 (ow (oSpan b b) 2),.int .u64 (ow (oSpan b b) 3),.bool true] 243)) #[.int .u64 0,.int .u64 0,.int .u64 0,.int .u64 0] 132 _ rfl
   simp only [World.size_alloc] at hb3 hb4
   have hT2:=tabIn_below hT hW hg
   go_enter Tryz.func155,Tryz.ntmps155
   go_wp2_with fail
   refine (least_one a ha _ hT2 (Nat.lt_of_lt_of_le hg hW.size)).mono ?_
   rintro e w1 ⟨rfl,b1⟩
   replace hW:=hW.trans (b1.mono hW.size)
   replace hb3:=hb3.below b1 hb3.lt
   replace hb4:=hb4.below b1 hb4.lt
   clear hT2 hb2 b1
   have hT3:=tabIn_below hT hW hg
   obtain ⟨c0,c1,c2,c3,c4⟩:=iblk_cells hb3
   go_wp2_with fail
   refine (least_one b hb _ hT3 (Nat.lt_of_lt_of_le hg hW.size)).mono ?_
   rintro e w2 ⟨rfl,b2⟩
   replace hW:=hW.trans (b2.mono hW.size)
   replace hb4:=hb4.below b2 hb4.lt
   clear c0 c1 c2 c3 c4 hb3 b2 hT3
   go_wp2_with fail
   refine (span_any a b _ (by omega) (by omega) (by omega) (by omega)).mono ?_
   rintro e w3 ⟨rfl,b3⟩
   replace hW:=hW.trans (b3.mono hW.size)
   replace hb4:=hb4.below b3 hb4.lt
   clear b3
   obtain ⟨d0,d1,d2,d3⟩:=zblk_cells hb4
   have f0:=hb4.frozen 0
   have f1:=hb4.frozen 1
   have f2:=hb4.frozen 2
   have f3:=hb4.frozen 3
   have hlB:=hb4.lt
   go_wp2_with fail
   refine bodyPost_ret (v:=.agg #[.int .u64 (ow (oSpan a b) 0),.int .u64 (ow (oSpan a b) 1),.int .u64 (ow (oSpan a b) 2),.int .u64 (ow (oSpan a b) 3)]) (by simp [results,Tryz.results155,go_sem,d0,d1,d2,d3,hlB]) rfl ⟨rfl,?_⟩
   repeat (first | exact hW | refine Below.setCell ?_ (by first | omega | (simp;omega) | simp) _)
end Go.Proofs.YtbgfankoojjejaaGreatDoor
