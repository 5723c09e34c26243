/- Texts. -/
import Derived.Test.YteilldmmihiijaaGreatDoorQt02
import Derived.Test.YteilldmmihiijaaGreatDoorQt03
import Derived.Test.YteilldmmihiijaaGreatDoorQt05
import Derived.Maps.AppendAt
import Derived.Test.YteilldmmihiijaaGreatDoorQt01
import Derived.Deep.RegionHeld3
import Derived.Deep.QuietTactic
import Derived.BigQuiet
import Derived.Lib.OthersKept
import Derived.Deep.AppendLies
set_option linter.unusedSimpArgs false
set_option linter.unusedVariables false
set_option maxHeartbeats 8000000
set_option maxRecDepth 1000000
namespace Go.Proofs.YteilldmmihiijaaGreatDoor
open Go.Lib renaming hid→Ac8
open Nat renaming le_refl→Adf,le_trans→Adg,lt_of_lt_of_le→Adi,le_of_lt→Adj
open List renaming length_append→Adh,mem_cons→Ado
open Go.RowKit.Below renaming refl→Adk,heap_setCell→Adl
open Go.IntWalk renaming i64_in→Adm
open Go.World renaming cell?_of_block→Adn
section
open Go Go.RowKit
def Eh (m:Nat × Nat):List Value:=[.int .i64 (m.1:Int),.string ⟨#[92,UInt8.ofNat m.2]⟩]
def marksC (l:List (Nat × Nat)):List Value:=l.flatMap Eh
theorem ID (l:List (Nat × Nat)) (m:Nat × Nat):marksC (l++[m])=marksC l++Eh m:=by unfold marksC;rw [List.flatMap_append];simp
theorem Co:∃ i,Tryz.prog.info? 33=some i∧i.zero=some (.agg #[.int .i64 0,.string ⟨#[]⟩])∧i.size=2∧i.bytes=24:=by
 have h:(Tryz.prog.info? 33).map (fun i=>(i.zero,i.size,i.bytes))=some (some (.agg #[.int .i64 0,.string ⟨#[]⟩]),2,24):=by kernel_rfl
 obtain ⟨i,hi,he⟩:=Option.map_eq_some_iff.1 h;injection he with h1 h2;injection h2 with h2 h3;exact ⟨i,hi,h1,h2,h3⟩
theorem AA {B:Nat} {w:World} {e:TypeId} {size n:Nat} {v:Value} {us:List Value} (h:w.ownsRow B e size v n us) (g:Nat) (hg:v.ownBlock=some g):g < w.heap.size:=by
 rcases h.2 with ⟨rfl,_⟩ | ⟨g',cap,cur,rfl,_,hh,_⟩
 ·simp [Value.ownBlock] at hg
 ·simp [Value.ownBlock] at hg
  subst hg;exact (Array.getElem?_eq_some_iff.1 hh).1
structure AtSet (w0:World) (a:Nat) (t:OSet) (wx:World):Prop where
 b:Below w0.heap.size w0 wx
 s:Blk wx a #[.int .u64 (ow t 0),.int .u64 (ow t 1),.int .u64 (ow t 2),.int .u64 (ow t 3)] 109
 lo:w0.heap.size≤a
theorem Cy {w:World} {a:Nat} {x y z u:Value} {T:TypeId} (h:Blk w a #[x,y,z,u] T):w.cell? ⟨a,0,none⟩=some x∧w.cell? ⟨a,1,none⟩=some y∧w.cell? ⟨a,2,none⟩=some z∧w.cell? ⟨a,3,none⟩=some u∧
  w.frozen? ⟨a,0,none⟩=false∧w.frozen? ⟨a,1,none⟩=false∧w.frozen? ⟨a,2,none⟩=false∧w.frozen? ⟨a,3,none⟩=false∧a < w.heap.size:=
 ⟨(h.cell 0).trans rfl,(h.cell 1).trans rfl,(h.cell 2).trans rfl,(h.cell 3).trans rfl,h.frozen 0,h.frozen 1,h.frozen 2,h.frozen 3,h.lt⟩
theorem Vi (cl L:List UInt8) (q:Int × Int × Nat) (h0:cl≠[]) (h:KZ cl L=some q):q.2.2≤L.length:=by
 unfold KZ at h;split at h
 ·rename_i hc
  injection h with h;subst h;rw [Bool.and_eq_true] at hc;exact F0 _ _ _ hc.2 h0
 ·cases h
theorem A7 {w:World} {B:Nat} {e:TypeId} {size n:Nat} {v:Value} {us:List Value} (h:w.ownsRow B e size v n us):∃ a c,v=.slice a n c:=by
 rcases h.2 with ⟨rfl,h0⟩ | ⟨g,cap,cur,rfl,_⟩
 ·exact ⟨none,0,by rw [h0]⟩
 ·exact ⟨_,_,rfl⟩
def P4 (r:ReRes (ReSt × Nd)) (w:World) (e:Ending) (w':World):Prop:=Below w.heap.size w w'∧match r with
 | .error q=>e=.returned (.tuple #[.nilIface,.slice none 0 0,.int .i64 (q.2:Int),.int .i64 (q.1:Int)])
 | .ok q=>∃ v mv,e=.returned (.tuple #[v,mv,.int .i64 0,.int .i64 0])∧NdX (fun b=>w.heap.size≤b) w' q.2 v∧w'.ownsRow w.heap.size 33 2 mv q.1.marks.length (marksC q.1.marks)
theorem Vj {s:List UInt8} {k:Nat} (h0:chAt s k 42=false) (h1:BI s k 43=false) (h2:BI s k 63=false) (h:BI s k 123=false):repAt false s k=.none:=by unfold repAt;simp [h0,h1,h2,A0,h]
theorem Vk {s:List UInt8} {k:Nat} (h:chAt s k 42=true):repAt false s k=.some 0 (-1) 0 (k+1):=by unfold repAt;rw [if_pos h]
theorem Vl {s:List UInt8} {k:Nat} (h0:chAt s k 42=false) (h:BI s k 43=true):repAt false s k=.some 1 (-1) 43 (k+2):=by unfold repAt;simp [h0,A0,AX,h]
theorem Yt {s:List UInt8} {k:Nat} (h0:chAt s k 42=false) (h1:BI s k 43=false) (h:BI s k 63=true):repAt false s k=.some 0 1 63 (k+2):=by unfold repAt;simp [h0,h1,A0,AX,h]
theorem Vm {s:List UInt8} {k:Nat} {m n:Int} {j:Nat} (h0:chAt s k 42=false) (h1:BI s k 43=false) (h2:BI s k 63=false) (h:BI s k 123=true) (hi:Gx false s (k+2)=some (m,n,j)):repAt false s k=.some m n 0 j:=by unfold repAt;simp [h0,h1,h2,A0,AX,h,hi]
theorem Yu {s:List UInt8} {k:Nat} (h0:chAt s k 42=false) (h1:BI s k 43=false) (h2:BI s k 63=false) (h:BI s k 123=true) (hi:Gx false s (k+2)=none):repAt false s k=.bad:=by unfold repAt;simp [h0,h1,h2,A0,AX,h,hi]
theorem Vn:(~~~oz:OSet)=Ab 0 255:=by decide +kernel
end
section
open Go Go.RowKit
def JI (m:Wm):List Value:=[.int .i64 m.1,.string m.2]
def wmC (l:List Wm):List Value:=l.flatMap JI
theorem Vo (l:List Wm) (m:Wm):wmC (l++[m])=wmC l++JI m:=by simp [wmC]
theorem GZ (m:Wm) (l:List Wm):wmC (m :: l)=JI m++wmC l:=by simp [wmC]
theorem M0 (l k:List Wm):wmC (l++k)=wmC l++wmC k:=by simp [wmC]
theorem M1 (l:List Wm):(wmC l).length=l.length * 2:=by
 induction l with
 | nil=>rfl
 | cons m l ih=>rw [GZ,Adh,ih];simp [JI];omega
theorem Sq (l:List (Nat × Nat)):marksC l=wmC (l.map Sg):=by
 induction l with
 | nil=>rfl
 | cons m l ih=>
  rw [List.map_cons,GZ,←ih];rfl
theorem Vp:∀ (l:List Wm) (j:Nat) (h:j < l.length),(wmC l)[j * 2]?=some (.int .i64 l[j].1)∧(wmC l)[j * 2+1]?=some (.string l[j].2)
 | [],j,h=>by simp at h
 | m :: l,0,h=>by rw [GZ];exact ⟨rfl,rfl⟩
 | m :: l,j+1,h=>by
  have ih:=Vp l j (by simpa using h);rw [GZ,show (j+1) * 2=j * 2+1+1 by omega,show j * 2+1+1+1=j * 2+1+1+1 from rfl];simpa [JI] using ih
theorem Ha (m:Wm):∀ u∈JI m,u.oneCell'=true:=fun u hu=>by
 simp only [JI,Ado,List.not_mem_nil,or_false] at hu;rcases hu with rfl | rfl <;> rfl
theorem M2 (l:List Wm):∀ u∈wmC l,u.oneCell'=true:=fun u hu=>by
 unfold wmC at hu;obtain ⟨m,_,h⟩:=List.mem_flatMap.1 hu;exact Ha m u h
theorem JJ (w:World) (m:Wm) (T:TypeId):∀ n u,(JI m)[n]?=some u→(w.alloc (.cells #[.int .i64 m.1,.string m.2] T)).cell? ((⟨w.heap.size,0,none⟩:Addr).add n)=some u:=by
 have hb:=Blk.new w #[.int .i64 m.1,.string m.2] T w.heap.size rfl;intro n u hu;rw [Go.WideShapes.add_plain,Nat.zero_add,hb.cell n,←Array.getElem?_toList];exact hu
theorem Vq {w:World} {B:Nat} {T:TypeId} {a:Option Addr} {c:Nat} {l:List Wm} (h:w.ownsRow B T 2 (.slice a l.length c) l.length (wmC l)) (h0:0 < l.length) :
  ∃ q,a=some ⟨q,0,none⟩∧q < w.heap.size∧l.length≤c∧c≤maxLen∧∀ j (hj:j < l.length),w.cell? ⟨q,j * 2,none⟩=some (.int .i64 l[j].1)∧w.cell? ⟨q,j * 2+1,none⟩=some (.string l[j].2):=by
 obtain ⟨h1,h2⟩:=h;rcases h2 with ⟨_,h3⟩ | ⟨q,cap,cur,e,hB,hh,hn,hcap,hcs,htk⟩
 ·omega
 ·injection e with e1 _ e2
  subst e1 e2;refine ⟨q,rfl,(Array.getElem?_eq_some_iff.1 hh).1,hn,hcap,fun j hj=>?_⟩;have hc:∀ i,i < l.length * 2→w.cell? ⟨q,i,none⟩=(wmC l)[i]?:=fun i hi=>by
   have h4:w.cell? ⟨q,i,none⟩=cur[i]?:=by simp [World.cell?,hh]
   rw [h4,←htk,List.getElem?_take_of_lt hi,Array.getElem?_toList]
  have h5:=Vp l j hj;exact ⟨(hc _ (by omega)).trans h5.1,(hc _ (by omega)).trans h5.2⟩
theorem P5 (l:List Wm) (a:Option Addr) (cap:Nat) (k:Int) (B:Nat) (w:World) (h:w.ownsRow B 33 2 (.slice a l.length cap) l.length (wmC l)) (hl:l.length≤100000) :
  Calls Tryz.prog 101 #[.slice a l.length cap,.int .i64 k] w fun e w'=>∃ v,e=.returned v∧Below w.heap.size w w'∧w'.ownsRow w.heap.size 33 2 v l.length (wmC (Ce k l)):=by
 have Hc:=Ac8 fun h0=>Vq h h0
 clear h;obtain ⟨n,hn⟩:∃ n,l.length=n:=⟨_,rfl⟩;rw [hn] at hl ⊢;have Hn:=Ac8 hn;obtain ⟨i0,hi,hz0,hz1,hz2⟩:=Co;clear hn;go_enter Tryz.func101,Tryz.ntmps101;go_wp2_with fail
 go_loopw [5,10] (fun vv i wr=>∃ (j:Nat),j≤n∧i=.int .i64 j∧wr.ownsRow w.heap.size 33 2 vv j (wmC (Ce k (l.take j)))∧Below w.heap.size w wr) (fun _ i _=>n - (intOf i).toNat)
 case atStart=>exact ⟨0,by omega,rfl,World.ownsRow_nil _ _ _ _,Adk _ _⟩
 case round=>
  obtain ⟨j,hj,rfl,hrow,hb⟩:=hrel;have Hb:=Ac8 hb;have Hrow:=Ac8 hrow;obtain ⟨va,vc,rfl⟩:=A7 hrow;clear hb hrow;by_cases hlt:j < n
  ·obtain ⟨q,rfl,hq,hc1,hc2,hcell⟩:=Hc.out (by rw [Hn.out];omega)
   rw [Hn.out] at hc1;have hjl:j < l.length:=by rw [Hn.out];omega
   obtain ⟨e0,e1⟩:=hcell j hjl;have htk:Ce k (l.take (j+1))=Ce k (l.take j)++[(IntKind.i64.wrap (l[j].1+k),l[j].2)]:=by
    rw [show l.take (j+1)=l.take j++[l[j]] by simp];unfold Ce;rw [List.map_append];rfl
   have Htk:=Ac8 htk;clear htk hcell;generalize l[j]=m at e0 e1 Htk;obtain ⟨mp,mw⟩:=m;simp only at e0 e1 Htk;replace e0:=(Hb.out.cell (p:=⟨q,j * 2,none⟩) hq).trans e0;replace e1:=(Hb.out.cell (p:=⟨q,j * 2+1,none⟩) hq).trans e1;have hji:(j:Int) < (n:Int):=by omega
   have Wj:IntKind.i64.wrap ((j:Int)+1)=(j:Int)+1:=Adm _ (by omega);obtain ⟨y,hy⟩:∃ y,IntKind.i64.wrap (mp+k)=y:=⟨_,rfl⟩;rw [hy] at Htk;have hm1:j+1≤maxLen:=by unfold maxLen;omega
   have hm2:(j+1) * 24≤140737488355328:=by omega
   have hA1:=(Adk wr.heap.size wr).alloc (Adf _) (.cells #[.int .i64 mp,.string mw] 33);have hX:=Blk.new wr #[.int .i64 mp,.string mw] 33 _ rfl;have hr1:=Ag Hrow.out hA1;have hb1:=Hb.out.trans (hA1.mono Hb.out.size);obtain ⟨W1,hW1⟩:∃ W1,wr.alloc (.cells #[.int .i64 mp,.string mw] 33)=W1:=⟨_,rfl⟩;rw [hW1] at hX hr1 hb1;have x0:=(hX.cell 0).trans rfl;have x1:=(hX.cell 1).trans rfl;have hxl:=hX.lt;have Hr1:=Ac8 hr1;have Hb1:=Ac8 hb1;have hbs:w.heap.size≤(W1.alloc (.cells #[.int .i64 y,.string mw] 33)).heap.size:=by have:=hb1.size;simp;omega
   clear hX hr1 hb1 hA1;go_wp2_with (at_builtin;go_loud (refine wpList_append_own_at _ rfl _ _ 26 rfl w.heap.size 33 i0 (.agg #[.int .i64 0,.string ⟨#[]⟩]) 2 24 Tryz.underlying26 hi hz0 hz1 hz2 rfl (by decide) (.slice va j vc) j (wmC (Ce k (l.take j))) rfl (Ag Hr1.out ((Adk _ W1).alloc (Adf _) _)) ⟨W1.heap.size,0,none⟩ 1 1 (JI (y,mw)) rfl rfl (JJ W1 (y,mw) _) (Ha _) hm1 hm2 hbs ?_;intro v6 w6 hown6 hgr6 _ hat6))
   have HF:=Ac8 (show w6.ownsRow w.heap.size 33 2 v6 (j+1) (wmC (Ce k (l.take (j+1))))∧Below w.heap.size w w6 from by
    refine ⟨by rw [Htk.out,Vo];exact hown6,(Hb1.out.alloc Hb1.out.size _).grown hgr6 hbs (fun b hb=>AN Hrow.out b hb)⟩)
   obtain ⟨v6a,v6c,rfl⟩:=A7 hown6;clear hown6 hgr6 hat6;go_roundw
   case rel=>exact ⟨j+1,by omega,by go_num,HF.out.1,HF.out.2⟩
   case measure=>simp [intOf];omega
  ·obtain rfl:n=j:=by omega
   have HF:=Ac8 (And.intro Hb.out Hrow.out);rw [show l.take n=l by rw [←Hn.out,List.take_length]] at HF;clear Hb Hrow;go_wp2_with fail
   go_ret;exact ⟨_,rfl,HF.out.1,HF.out.2⟩
theorem JK (k:Int) (l:List Wm):(Ce k l).length=l.length:=by simp [Ce]
theorem Yv {l:List Wm} {n:Nat} (hn:l.length=n) (a:Option Addr) (cap:Nat) (k:Int) (B:Nat) (w:World) (h:w.ownsRow B 33 2 (.slice a n cap) n (wmC l)) (hl:n≤100000) :
  Calls Tryz.prog 101 #[.slice a n cap,.int .i64 k] w fun e w'=>∃ a' c',e=.returned (.slice a' n c')∧Below w.heap.size w w'∧w'.ownsRow w.heap.size 33 2 (.slice a' n c') n (wmC (Ce k l)):=by
 subst hn;refine (P5 l a cap k B w h hl).mono ?_;rintro e w' ⟨v,rfl,h1,h2⟩;obtain ⟨a',c',rfl⟩:=A7 h2;exact ⟨a',c',rfl,h1,h2⟩
end
section
open Go Go.RowKit
structure RStep (p:Nat) (w:World) (mv cv:Value) (w':World) (mv' cv':Value):Prop where
 os:w'.os=w.os
 tape:w'.tape=w.tape
 output:w'.output=w.output
 size:w.heap.size≤w'.heap.size
 block:∀ b,b < w.heap.size→b≠p→mv.ownBlock≠some b→cv.ownBlock≠some b→w'.heap[b]?=w.heap[b]?∧mv'.ownBlock≠some b∧cv'.ownBlock≠some b
theorem RStep.refl (p:Nat) (w:World) (mv cv:Value):RStep p w mv cv w mv cv:=⟨rfl,rfl,rfl,Adf _,fun _ _ _ h1 h2=>⟨rfl,h1,h2⟩⟩
theorem RStep.trans {p:Nat} {w w1 w2:World} {mv cv mv1 cv1 mv2 cv2:Value} (h:RStep p w mv cv w1 mv1 cv1) (k:RStep p w1 mv1 cv1 w2 mv2 cv2):RStep p w mv cv w2 mv2 cv2:=
 ⟨k.os.trans h.os,k.tape.trans h.tape,k.output.trans h.output,Adg h.size k.size,fun b hb hp h1 h2=>by
  obtain ⟨e1,e2,e3⟩:=h.block b hb hp h1 h2;obtain ⟨f1,f2,f3⟩:=k.block b (Adi hb h.size) hp e2 e3;exact ⟨f1.trans e1,f2,f3⟩⟩
theorem RStep.of_below {p:Nat} {w w':World} {mv cv:Value} (h:Below w.heap.size w w'):RStep p w mv cv w' mv cv:=
 ⟨h.os,h.tape,h.output,h.size,fun b hb _ h1 h2=>⟨h.block b hb,h1,h2⟩⟩
def OffR (p:Nat) (mv cv:Value) (b:Nat):Prop:=b≠p∧mv.ownBlock≠some b∧cv.ownBlock≠some b
theorem RStep.keep {p:Nat} {w w':World} {mv cv mv' cv':Value} (h:RStep p w mv cv w' mv' cv'):∀ b,OffR p mv cv b→b < w.heap.size→OffR p mv' cv' b∧∀ o,w'.cell? ⟨b,o,none⟩=w.cell? ⟨b,o,none⟩:=fun b hf hb=>by
 obtain ⟨e1,e2,e3⟩:=h.block b hb hf.1 hf.2.1 hf.2.2;exact ⟨⟨hf.1,e2,e3⟩,fun o=>Adn (w:=w) (a:=⟨b,o,none⟩) e1⟩
structure Rd (B p:Nat) (w:World) (s:ByteArray) (st:ReSt) (es:List Bool) (dep:Nat) (mv cv:Value):Prop where
 blk:Blk w p #[.string s,.int .i64 (st.pos:Int),mv,cv,.int .i64 (dep:Int)] 202
 mo:w.ownsRow B 33 2 mv st.marks.length (marksC st.marks)
 co:w.ownsRow B 4 1 cv es.length (es.map Value.bool)
 rr:RR es (st.opened:Int) st.closed
 bp:B≤p
 mp:mv.ownBlock≠some p
 cp:cv.ownBlock≠some p
 mc:∀ b,mv.ownBlock=some b→cv.ownBlock≠some b
 pos:st.pos≤s.size
 small:s.size≤250
 few:st.marks.length≤st.pos∧es.length≤st.pos
theorem Rd.below {B p:Nat} {w w':World} {s:ByteArray} {st:ReSt} {es:List Bool} {dep:Nat} {mv cv:Value} (h:Rd B p w s st es dep mv cv) (hb:Below w.heap.size w w'):Rd B p w' s st es dep mv cv:=
 { h with blk:=h.blk.below hb h.blk.lt,mo:=Ag h.mo hb,co:=Ag h.co hb }
structure RdC (w:World) (p:Nat) (s:ByteArray) (k:Int) (mv cv:Value) (d:Int):Prop where
 c0:w.cell? ⟨p,0,none⟩=some (.string s)
 c1:w.cell? ⟨p,1,none⟩=some (.int .i64 k)
 c2:w.cell? ⟨p,2,none⟩=some mv
 c3:w.cell? ⟨p,3,none⟩=some cv
 c4:w.cell? ⟨p,4,none⟩=some (.int .i64 d)
 z1:w.frozen? ⟨p,1,none⟩=false
 z2:w.frozen? ⟨p,2,none⟩=false
 z3:w.frozen? ⟨p,3,none⟩=false
 z4:w.frozen? ⟨p,4,none⟩=false
theorem Rd.cells {B p:Nat} {w:World} {s:ByteArray} {st:ReSt} {es:List Bool} {dep:Nat} {mv cv:Value} (h:Rd B p w s st es dep mv cv):RdC w p s (st.pos:Int) mv cv (dep:Int):=
 ⟨(h.blk.cell 0).trans rfl,(h.blk.cell 1).trans rfl,(h.blk.cell 2).trans rfl,(h.blk.cell 3).trans rfl,(h.blk.cell 4).trans rfl,h.blk.frozen 1,h.blk.frozen 2,h.blk.frozen 3,h.blk.frozen 4⟩
theorem Rd.goto {B p:Nat} {w:World} {s:ByteArray} {st:ReSt} {es:List Bool} {dep:Nat} {mv cv:Value} (h:Rd B p w s st es dep mv cv) (k:Nat) (hk:st.pos≤k) (hs:k≤s.size) :
  Rd B p (w.setCell ⟨p,1,none⟩ (.int .i64 (k:Int))) s (st.to k) es dep mv cv∧RStep p w mv cv (w.setCell ⟨p,1,none⟩ (.int .i64 (k:Int))) mv cv:=by
 have hset:∀ b,b≠p→(w.setCell ⟨p,1,none⟩ (.int .i64 (k:Int))).heap[b]?=w.heap[b]?:=fun b hb=>Adl _ _ _ _ (fun e=>hb e)
 have hsz:(w.setCell ⟨p,1,none⟩ (.int .i64 (k:Int))).heap.size=w.heap.size:=by simp [World.setCell]
 refine ⟨{ blk:=(h.blk.set 1 (.int .i64 (k:Int))),mo:=?_,co:=?_,rr:=h.rr,bp:=h.bp,mp:=h.mp,cp:=h.cp,mc:=h.mc,pos:=hs,small:=h.small,few:=⟨Adg h.few.1 hk,Adg h.few.2 hk⟩ },?_⟩
 ·exact h.mo.kept ⟨rfl,rfl,rfl,by rw [hsz];exact Adf _,fun b _ hb=>hset b (fun e=>hb (by rw [e]))⟩ (Or.inr h.mp)
 ·exact h.co.kept ⟨rfl,rfl,rfl,by rw [hsz];exact Adf _,fun b _ hb=>hset b (fun e=>hb (by rw [e]))⟩ (Or.inr h.cp)
 ·exact ⟨rfl,rfl,rfl,by rw [hsz];exact Adf _,fun b _ hp h1 h2=>⟨hset b hp,h1,h2⟩⟩
theorem Fc {B p:Nat} {s:ByteArray} {st:ReSt} {es:List Bool} {dep:Nat} {mv cv:Value} (t:ByteArray) (w:World) (h:Rd B p w s st es dep mv cv) :
  Calls Tryz.prog 153 #[.pointer (some ⟨p,0,none⟩),.string t] w fun e w'=>e=.returned (.bool (AP s.data.toList st.pos t.data.toList))∧∃ n,w'=w.drewN n:=by
 obtain ⟨c0,c1,c2,c3,c4,z1,z2,z3,z4⟩:=h.cells;have hp:=h.pos;have hs:=h.small;have hx:=BL s st.pos;have hc:=fun w=>Ck (s.extract st.pos s.size) t w
 rw [hx] at hc;clear hx h;unfold AP;go_enter Tryz.func153,Tryz.ntmps153;go_wp2_with fail
 have hp2:(st.pos:Int)≤(s.size:Int):=by omega
 go_quiet ((go_at_call 23;exact Calls.quiet_of_same ((hc _).mono fun _ _ h=>⟨h.1,h.2.symm⟩)))
 go_wp2_with fail
 go_ret;exact ⟨rfl,_,rfl⟩
end
section
open Go Go.RowKit
theorem Hj {B p:Nat} {s:ByteArray} {st:ReSt} {es:List Bool} {dep:Nat} {mv cv:Value} (t:ByteArray) (w:World) (h:Rd B p w s st es dep mv cv) (hn:AP s.data.toList st.pos t.data.toList=false) :
  Calls Tryz.prog 140 #[.pointer (some ⟨p,0,none⟩),.string t] w fun e w'=>e=.returned (.bool false)∧∃ n,w'=w.drewN n:=by
 have hc:=Fc t w h;rw [hn] at hc;clear h;go_enter Tryz.func140,Tryz.ntmps140;go_wp2_with (go_at_call 153;refine hc.mono ?_;rintro e w' ⟨rfl,n,rfl⟩)
 go_ret;exact ⟨rfl,n,rfl⟩
theorem FC {B p:Nat} {s:ByteArray} {st:ReSt} {es:List Bool} {dep:Nat} {mv cv:Value} (t:ByteArray) (w:World) (h:Rd B p w s st es dep mv cv) (hn:AP s.data.toList st.pos t.data.toList=true) (h0:t.data.toList≠[]) :
  Calls Tryz.prog 140 #[.pointer (some ⟨p,0,none⟩),.string t] w fun e w'=>e=.returned (.bool true)∧Rd B p w' s (st.to (st.pos+t.size)) es dep mv cv∧RStep p w mv cv w' mv cv:=by
 have hc:=Fc t w h;rw [hn] at hc;have hl:=F0 _ _ _ hn h0;have e1:s.data.toList.length=s.size:=by simp
 have e2:t.data.toList.length=t.size:=by simp
 rw [e1,e2] at hl;have hsm:=h.small;have Wn:IntKind.i64.wrap ((st.pos:Int)+(t.size:Int))=((st.pos+t.size:Nat):Int):=by rw [Adm _ (by omega)];omega
 have hg:=fun n=>(h.below (below_drewN (Adk w.heap.size w) n)).goto (st.pos+t.size) (by omega) hl
 have hstep:=fun n=>RStep.of_below (p:=p) (mv:=mv) (cv:=cv) (below_drewN (Adk w.heap.size w) n)
 obtain ⟨c0,c1,c2,c3,c4,z1,z2,z3,z4⟩:=h.cells;have hx:(st.pos:Int)+(t.size:Int)=((st.pos+t.size:Nat):Int):=by omega
 clear h hn h0 e1 e2;have HG:=Ac8 hg;have HX:=Ac8 hx;clear hg hx;go_enter Tryz.func140,Tryz.ntmps140;go_wp2_with (go_at_call 153;refine hc.mono ?_;rintro e w' ⟨rfl,n,rfl⟩)
 go_ret;refine ⟨rfl,?_,?_⟩
 ·exact (HG.out n).1
 ·exact (hstep n).trans (HG.out n).2
theorem FZ (s:ByteArray) (k:Nat) (w:World) :
  Calls Tryz.prog 141 #[.string (s.extract k s.size)] w fun e w'=>e=.returned (.bool (AB s.data.toList k))∧w=w':=by
 have h1:=fun w=>Ck (s.extract k s.size) ⟨#[92,124]⟩ w
 have h2:=fun w=>Ck (s.extract k s.size) ⟨#[92,41]⟩ w
 have hx:=BL s k;rw [hx] at h1 h2;rw [OT];unfold AP;have hE:(s.data.toList.drop k).isEmpty=(s.extract k s.size).toList.isEmpty:=by rw [←hx,ByteArray.toList_eq]
 rw [hE];generalize s.extract k s.size=r at *;generalize s.data.toList.drop k=l at *;clear hE hx;cases he:r.toList.isEmpty
 ·have e2:¬ r.toList=[]:=by intro e;rw [e] at he;cases he
  have e1:(r.toList == [])=false:=by rw [beq_eq_false_iff_ne];exact e2
  cases q1:Lib.hasPrefix l [92,124]
  ·rw [show Lib.hasPrefix l (⟨#[92,124]⟩:ByteArray).data.toList=false from q1] at h1
   cases q2:Lib.hasPrefix l [92,41]
   ·rw [show Lib.hasPrefix l (⟨#[92,41]⟩:ByteArray).data.toList=false from q2] at h2
    clear q1 q2;go_enter Tryz.func141,Tryz.ntmps141;go_wp2_with (first | (go_at_call_of 23 (ByteArray.mk #[92,124]);refine (h1 _).mono ?_;rintro e w' ⟨rfl,rfl⟩) | (go_at_call 23;refine (h2 _).mono ?_;rintro e w' ⟨rfl,rfl⟩))
    go_ret;exact ⟨rfl,rfl⟩
   ·rw [show Lib.hasPrefix l (⟨#[92,41]⟩:ByteArray).data.toList=true from q2] at h2
    clear q1 q2;go_enter Tryz.func141,Tryz.ntmps141;go_wp2_with (first | (go_at_call_of 23 (ByteArray.mk #[92,124]);refine (h1 _).mono ?_;rintro e w' ⟨rfl,rfl⟩) | (go_at_call 23;refine (h2 _).mono ?_;rintro e w' ⟨rfl,rfl⟩))
    go_ret;exact ⟨rfl,rfl⟩
  ·rw [show Lib.hasPrefix l (⟨#[92,124]⟩:ByteArray).data.toList=true from q1] at h1
   clear q1;go_enter Tryz.func141,Tryz.ntmps141;go_wp2_with (first | (go_at_call_of 23 (ByteArray.mk #[92,124]);refine (h1 _).mono ?_;rintro e w' ⟨rfl,rfl⟩) | (go_at_call 23;refine (h2 _).mono ?_;rintro e w' ⟨rfl,rfl⟩))
   go_ret;exact ⟨rfl,rfl⟩
 ·have e2:r.toList=[]:=List.isEmpty_iff.1 he
  have e1:(r.toList == [])=true:=by rw [e2];rfl
  clear h1 h2;go_enter Tryz.func141,Tryz.ntmps141;go_wp2_with fail
  go_ret;exact ⟨rfl,rfl⟩
theorem P6 (n b c d e:Nat) (h:¬ b < 128):127 < (Lib.decodeN n b c d e).1:=by
 unfold Lib.decodeN;rw [if_neg h]
 repeat' split
 all_goals (simp only;omega)
theorem Sr (s:ByteArray) (pos:Nat) (h:¬ (s.data.toList.getD pos 0).toNat < 128):127 < (Utf8.decode s pos).1:=by
 rw [Ep];exact P6 _ _ _ _ _ h
theorem EH (s:ByteArray) (k:Nat):(s.extract k s.size).size=s.size - k:=by
 simp
end
section
open Go Go.RowKit
theorem Rd.mark {B p:Nat} {W w6:World} {s:ByteArray} {st:ReSt} {es:List Bool} {dep:Nat} {mv cv v6:Value} {m:Nat × Nat} (h:Rd B p W s st es dep mv cv)
  (hown:w6.ownsRow B 33 2 v6 (st.marks.length+1) (marksC st.marks++Eh m)) (hg:W.grownBy w6 mv.ownBlock) (hat:v6.ownBlock=mv.ownBlock∨v6.ownBlock=some W.heap.size) (hfew:st.marks.length+1≤st.pos) :
  Rd B p (w6.setCell ⟨p,2,none⟩ v6) s { st with marks:=st.marks++[m] } es dep v6 cv∧RStep p W mv cv (w6.setCell ⟨p,2,none⟩ v6) v6 cv:=by
 have hpl:=h.blk.lt;have hcl:=fun b hb=>AA h.co b hb
 have hset:∀ b,b≠p→(w6.setCell ⟨p,2,none⟩ v6).heap[b]?=w6.heap[b]?:=fun b hb=>Adl _ _ _ _ (fun e=>hb e)
 have hsz:(w6.setCell ⟨p,2,none⟩ v6).heap.size=w6.heap.size:=by simp [World.setCell]
 have hv6p:v6.ownBlock≠some p:=by
  rcases hat with e | e
  ·rw [e];exact h.mp
  ·rw [e];intro he;injection he with he;omega
 have hb6:Blk w6 p #[.string s,.int .i64 (st.pos:Int),mv,cv,.int .i64 (dep:Int)] 202:=by
  have h1:=h.blk;unfold Blk at h1 ⊢;rw [hg.block p hpl (fun e=>h.mp e.symm)];exact h1
 have hco6:=h.co.kept hg (by
  rcases hc:cv.ownBlock with _ | b
  ·exact .inl rfl
  ·refine .inr (fun e=>?_)
   exact h.mc b e.symm hc)
 refine ⟨{ blk:=hb6.set 2 v6,mo:=?_,co:=?_,rr:=h.rr,bp:=h.bp,mp:=hv6p,cp:=h.cp,mc:=?_,pos:=h.pos,small:=h.small,few:=⟨by simp;exact hfew,h.few.2⟩ },?_⟩
 ·rw [Adh,ID]
  exact hown.kept ⟨rfl,rfl,rfl,by rw [hsz];exact Adf _,fun b _ hb=>hset b (fun e=>hb (by rw [e]))⟩ (Or.inr hv6p)
 ·exact hco6.kept ⟨rfl,rfl,rfl,by rw [hsz];exact Adf _,fun b _ hb=>hset b (fun e=>hb (by rw [e]))⟩ (Or.inr h.cp)
 ·intro b hb
  rcases hat with e | e
  ·exact h.mc b (by rw [←e];exact hb)
  ·intro hc
   rw [e] at hb;injection hb with hb;have:=hcl b hc;omega
 ·refine ⟨hg.os,hg.tape,hg.output,by rw [hsz];exact hg.size,fun b hb hp h1 h2=>⟨?_,?_,h2⟩⟩
  ·rw [hset b hp]
   exact hg.block b hb (fun e=>h1 e.symm)
  ·rcases hat with e | e
   ·rw [e];exact h1
   ·rw [e];intro he;injection he with he;omega
theorem JL {B p:Nat} {s:ByteArray} {st:ReSt} {es:List Bool} {dep:Nat} {mv cv:Value} (t:ByteArray) (w:World) (h:Rd B p w s st es dep mv cv) (hn:AP s.data.toList st.pos t.data.toList=false) :
  Calls Tryz.prog 127 #[.pointer (some ⟨p,0,none⟩),.string t] w fun e w'=>e=.returned (.bool false)∧∃ n,w'=w.drewN n:=by
 have hc:=Hj t w h hn;obtain ⟨c0,c1,c2,c3,c4,z1,z2,z3,z4⟩:=h.cells;clear h;go_enter Tryz.func127,Tryz.ntmps127;go_wp2_with (go_at_call 140;refine hc.mono ?_;rintro e w' ⟨rfl,n,rfl⟩)
 go_ret;exact ⟨rfl,n,rfl⟩
theorem Ip {B p:Nat} {s:ByteArray} {st:ReSt} {es:List Bool} {dep:Nat} {mv cv:Value} (c:Nat) (w:World) (h:Rd B p w s st es dep mv cv) (hn:AP s.data.toList st.pos [92,UInt8.ofNat c]=true) :
  Calls Tryz.prog 127 #[.pointer (some ⟨p,0,none⟩),.string ⟨#[92,UInt8.ofNat c]⟩] w fun e w'=>e=.returned (.bool true)∧∃ mv',Rd B p w' s ((st.mark c).to (st.pos+2)) es dep mv' cv∧RStep p w mv cv w' mv' cv:=by
 obtain ⟨i0,hi,hz0,hz1,hz2⟩:=Co;have hc:=FC ⟨#[92,UInt8.ofNat c]⟩ w h hn (by simp);rw [show (ByteArray.mk #[92,UInt8.ofNat c]).size=2 from rfl] at hc;have hs:=h.small;have hp:=h.pos;have hfew:=h.few.1;obtain ⟨c0,c1,c2,c3,c4,z1,z2,z3,z4⟩:=h.cells;have hb0:=Adg h.bp (Adj h.blk.lt);clear h;go_enter Tryz.func127,Tryz.ntmps127;go_wp2_with fail
 refine hc.mono ?_;rintro e w1 ⟨rfl,hR,hS⟩;clear hc c0 c1 c2 c3 c4 z1 z2 z3 z4;obtain ⟨c0,c1,c2,c3,c4,z1,z2,z3,z4⟩:=hR.cells;have hA:=(Adk w1.heap.size w1).alloc (Adf _) (.cells #[.int .i64 (st.pos:Int),.string ⟨#[92,UInt8.ofNat c]⟩] 33);have hRA:=hR.below hA;have hpl:=hR.blk.lt;have hSA:=hS.trans (RStep.of_below (p:=p) (mv:=mv) (cv:=cv) hA);have hnw:∀ j u,(Eh (st.pos,c))[j]?=some u→(w1.alloc (.cells #[.int .i64 (st.pos:Int),.string ⟨#[92,UInt8.ofNat c]⟩] 33)).cell? ((⟨w1.heap.size,0,none⟩:Addr).add j)=some u:=by
  have hb:=Blk.new w1 #[.int .i64 (st.pos:Int),.string ⟨#[92,UInt8.ofNat c]⟩] 33 w1.heap.size rfl;intro j u hu;rw [Go.WideShapes.add_plain,Nat.zero_add,hb.cell j,←Array.getElem?_toList];exact hu
 have hv1:∀ u∈Eh (st.pos,c),u.oneCell'=true:=by intro u hu;simp [Eh] at hu;rcases hu with rfl | rfl <;> rfl
 have hm1:(st.to (st.pos+2)).marks.length+1≤maxLen:=by show st.marks.length+1≤_;unfold maxLen;omega
 have hm2:((st.to (st.pos+2)).marks.length+1) * 24≤140737488355328:=by show (st.marks.length+1) * 24≤_;omega
 have hbase:B≤w1.heap.size:=Adg hR.bp (Adj hpl);have HS:=Ac8 hSA;have HR:=Ac8 hRA;clear hA hRA hSA hR hS;go_wp2_with (at_builtin;refine Af _ rfl _ _ 26 rfl B 33 i0 (.agg #[.int .i64 0,.string ⟨#[]⟩]) 2 24 Tryz.underlying26 hi hz0 hz1 hz2 rfl (by decide) mv _ _ rfl HR.out.mo (some ⟨w1.heap.size,0,none⟩) 1 1 (Eh (st.pos,c)) rfl rfl (fun _=>⟨_,rfl,hnw⟩) hv1 hm1 hm2 (by simp;omega) ?_;intro v6 w6 hown6 hgrow6 hat6;have HM:=Ac8 (HR.out.mark (m:=(st.pos,c)) hown6 hgrow6 hat6 (by show st.marks.length+1≤st.pos+2;omega));have hfz:w6.frozen? ⟨p,2,none⟩=false:=(hgrow6.frozen_far ⟨p,2,none⟩ (by simp;omega) (fun e=>HR.out.mp e.symm)).trans (HR.out.blk.frozen 2);have hce:w6.cell? ⟨p,2,none⟩=some mv:=(hgrow6.cell_far ⟨p,2,none⟩ (by simp;omega) (fun e=>HR.out.mp e.symm)).trans ((HR.out.blk.cell 2).trans rfl);obtain ⟨g,gcap,hv6,_,_⟩:=World.ownsRow.form hown6 (Nat.succ_pos _);subst hv6;clear hown6 hgrow6 hat6 hnw c0 c1 c2 c3 c4 z1 z2 z3 z4)
 go_ret;exact ⟨rfl,_,HM.out.1,HS.out.trans HM.out.2⟩
end
section
open Go Go.RowKit Go.Shelf
theorem Yw:Go.Proofs.Lays.n206 Tryz.prog Ab5:={
 mixed:=by kernel_rfl
 f206:=Tryz.func32.trans (congrArg some (by kernel_rfl))
 t3:=Tryz.underlying3
 a3:=Tryz.isAgg3
 z3:=Tryz.sizeOf3
 v3:=Tryz.zeroValue3
 t4:=Tryz.underlying4
 a4:=Tryz.isAgg4
 z4:=Tryz.sizeOf4
 v4:=Tryz.zeroValue4
 t9:=Tryz.underlying9
 a9:=Tryz.isAgg9
 z9:=Tryz.sizeOf9
 v9:=Tryz.zeroValue9 }
theorem IE (s t:ByteArray) (w:World) :
  Calls Tryz.prog 32 #[.string s,.string t] w fun e w'=>e=.returned (.bool (Lib.hasPrefix s.data.toList t.data.toList))∧w=w':=
 (Any.stringslite_HasPrefix Yw s t w).mono fun _ _ ⟨h1,h2⟩=>⟨h1,h2.symm⟩
theorem NG (s t:ByteArray) (h:Lib.hasPrefix s.data.toList t.data.toList=true):t.size≤s.size:=by
 unfold Lib.hasPrefix at h;have h1:=(List.isPrefixOf_iff_prefix.1 h).length_le;simpa using h1
theorem Yx (s t:ByteArray) (w:World) (h:Lib.hasPrefix s.data.toList t.data.toList=false) :
  Calls Tryz.prog 166 #[.string s,.string t] w fun e w'=>e=.returned (.tuple #[.string s,.bool false])∧w=w':=by
 have hc:=IE s t w;rw [h] at hc;clear h;go_enter Tryz.func166,Tryz.ntmps166;go_wp2_with (go_at_call 32;refine hc.mono ?_;rintro e w' ⟨rfl,rfl⟩)
 go_ret2
 exact ⟨rfl,rfl⟩
theorem Vr (s t:ByteArray) (w:World) (h:Lib.hasPrefix s.data.toList t.data.toList=true) :
  Calls Tryz.prog 166 #[.string s,.string t] w fun e w'=>e=.returned (.tuple #[.string (s.extract t.size s.size),.bool true])∧w=w':=by
 have hc:=IE s t w;have hs:=NG s t h;have hs2:(t.size:Int)≤(s.size:Int):=by omega
 rw [h] at hc;clear h;go_enter Tryz.func166,Tryz.ntmps166;go_wp2_with (go_at_call 32;refine hc.mono ?_;rintro e w' ⟨rfl,rfl⟩)
 go_ret2
 exact ⟨rfl,rfl⟩
theorem P7 (s t:ByteArray) (w:World) (h:Lib.hasPrefix s.data.toList t.data.toList=false) :
  Calls Tryz.prog 158 #[.string s,.string t] w fun e w'=>e=.returned (.tuple #[.string s,.bool false])∧w=w':=by
 have hc:=Yx s t w h;clear h;go_enter Tryz.func158,Tryz.ntmps158;go_wp2_with (go_at_call 166;refine hc.mono ?_;rintro e w' ⟨rfl,rfl⟩)
 go_ret2
 exact ⟨rfl,rfl⟩
theorem M3 (s t:ByteArray) (w:World) (h:Lib.hasPrefix s.data.toList t.data.toList=true) :
  Calls Tryz.prog 158 #[.string s,.string t] w fun e w'=>e=.returned (.tuple #[.string (s.extract t.size s.size),.bool true])∧w=w':=by
 have hc:=Vr s t w h;clear h;go_enter Tryz.func158,Tryz.ntmps158;go_wp2_with (go_at_call 166;refine hc.mono ?_;rintro e w' ⟨rfl,rfl⟩)
 go_ret2
 exact ⟨rfl,rfl⟩
theorem M4 {fn:Func} {a b c d:Tmp} (h:fn.results=#[.tmp a,.tmp b,.tmp c,.tmp d]) (tmps:Array Value) (P:Program) (w:World) :
  (results fn tmps).run P w=.ok (.tuple #[tmps.getD a undef,tmps.getD b undef,tmps.getD c undef,tmps.getD d undef]) w:=by
 simp [results,h]
theorem Ja {a:Int} {s:ByteArray} {b c:Bool} (h:b=c):Ending.returned (.tuple #[.int .i64 a,.string s,.bool b])=.returned (.tuple #[.int .i64 a,.string s,.bool c]):=by rw [h]
theorem Li (r:ByteArray) (w:World) (hs:r.size≤250) :
  Calls Tryz.prog 165 #[.string r] w fun e w'=>e=.returned (.tuple #[.int .i64 ((A5 r.data.toList 3 0 0).2:Int),.string (r.extract (A5 r.data.toList 3 0 0).1 r.size),.bool (CB r.data.toList 0)])∧Below w.heap.size w w':=by
 have hrb:∀ j,(r.data.toList.getD j 0).toNat=byt r.data.toList j:=fun j=>rfl
 have HRB:=Ac8 hrb;have hrs:r.data.toList.length=r.size:=by simp
 have HRS:=Ac8 hrs;clear hrb hrs;obtain ⟨D,hD⟩:∃ D,D=A5 r.data.toList 3 0 0:=⟨_,rfl⟩;unfold CB;rw [←hD];have HD:=Ac8 hD;clear hD;go_enter Tryz.func165,Tryz.ntmps165;go_wp2_with fail
 all_goals go_wp2_with fail
 go_loopw [2,5] (fun v d wr=>∃ k x:Nat,k≤3∧d=.int .i64 (k:Int)∧v=.int .i64 (x:Int)∧x≤9999∧(k=0→x=0)∧(k≤2→x≤99)∧(k≤1→x≤9)∧k≤r.size∧wr.heap[w.heap.size]?=some (.stringIter r k)∧Below w.heap.size w wr∧D=(k+(A5 r.data.toList (3 - k) k x).1,(A5 r.data.toList (3 - k) k x).2)) (fun _ d _=>3 - (intOf d).toNat)
 case atStart=>
  refine ⟨0,0,by omega,rfl,rfl,by omega,fun _=>rfl,fun _=>by omega,fun _=>by omega,by omega,?_,?_,?_⟩
  ·exact World.iter_heap w r 0
  ·exact Below.alloc (Adk _ _) (Adf _) _
  ·rw [HD.out];simp
 case round=>
  obtain ⟨k,x,hk3,rfl,rfl,hx,hx0,hx2,hx1,hks,hit,hV,hDk⟩:=hrel;have HDK:=Ac8 hDk;clear hDk;have hq:w.heap.size < wr.heap.size:=(Array.getElem?_eq_some_iff.1 hit).1;have hrs:=HRS.out;by_cases hlt:k < r.size
  ·have hnx:∀ ty,(Instr.next (.pointer (some ⟨w.heap.size,0,none⟩)) true ty).run Tryz.prog wr=_:=fun ty=>Lib.run_next_any_at wr w.heap.size r k ty hit hlt
   have hbw2:=Lib.below_iterAt hV (k:=w.heap.size) (Adf _) r (k+(Utf8.decode r k).2);have hit2:=Lib.iterAt_heap wr w.heap.size r k (k+(Utf8.decode r k).2) hit;have hdec:byt r.data.toList k < 128→Utf8.decode r k=(byt r.data.toList k,1):=fun hlo=>by
    have h1:=HRB.out k;rw [Ep,I8 _ _ _ _ _ (by rw [h1];exact hlo),h1]
   have hhi:¬ byt r.data.toList k < 128→127 < (Utf8.decode r k).1:=fun hno=>Sr _ _ (by rw [HRB.out k];exact hno)
   have hdig:Fy r.data.toList k=(decide (48≤byt r.data.toList k) && decide (byt r.data.toList k≤57)):=by
    unfold Fy;rw [decide_eq_true (by rw [hrs];exact hlt)];rfl
   have hb256:=Gw r.data.toList k;by_cases hgo:(48≤byt r.data.toList k∧byt r.data.toList k≤57)∧k < 3
   ·obtain ⟨⟨hg1,hg2⟩,hg3⟩:=hgo
    rw [hdec (by omega)] at hnx hbw2 hit2;have hD2:D=(k+1+(A5 r.data.toList (3 - (k+1)) (k+1) (10 * x+(byt r.data.toList k - 48))).1,(A5 r.data.toList (3 - (k+1)) (k+1) (10 * x+(byt r.data.toList k - 48))).2):=by
     rw [HDK.out,show 3 - k=(3 - (k+1))+1 by omega,Um _ _ _ _ (by rw [hdig,decide_eq_true hg1,decide_eq_true hg2];rfl)];simp only [Nat.add_assoc];rw [show (1:Nat)+(A5 r.data.toList (3 - (k+1)) (k+1) (10 * x+(byt r.data.toList k - 48))).1=(A5 r.data.toList (3 - (k+1)) (k+1) (10 * x+(byt r.data.toList k - 48))).1+1 by omega]
    have HD2:=Ac8 hD2;have hx9:=hx2 (by omega);have HX0:=Ac8 hx0;clear hD2 hdec hhi hdig hx0 HDK;generalize byt r.data.toList k=b at *;have e1:decide ((b:Int) < 48)=false:=by simp;omega
    have e2:decide (57 < (b:Int))=false:=by simp;omega
    have e3:((k:Int) == 3)=false:=by simp;omega
    have W1:IntKind.i64.wrap (10 * (x:Int)+((b:Int) - 48))=((10 * x+(b - 48):Nat):Int):=by rw [Adm _ (by omega)];omega
    have HL:=Ac8 (show k+1≤r.size by omega);clear hrs;go_wp2_with fail
    go_roundw
    case rel=>exact ⟨k+1,10 * x+(b - 48),by omega,by go_num,by go_num,by omega,by omega,by omega,by have:=HX0.out;omega,HL.out,hit2,hbw2,HD2.out⟩
    case measure=>simp [intOf];omega
   ·have hF:D=(k,x):=by
     rw [HDK.out,LT]
     ·rfl
     ·by_cases h3:k < 3
      ·right
       rw [hdig];cases h1:decide (48≤byt r.data.toList k) <;> cases h2:decide (byt r.data.toList k≤57) <;> first | rfl | exact (hgo ⟨⟨of_decide_eq_true h1,of_decide_eq_true h2⟩,h3⟩).elim
      ·left;omega
    obtain ⟨R,wd,hRw,hcase⟩:∃ R wd:Nat,Utf8.decode r k=(R,wd)∧((R < 48)∨(¬ R < 48∧57 < R)∨(¬ R < 48∧¬ 57 < R∧k=3)):=by
     by_cases hlo:byt r.data.toList k < 128
     ·exact ⟨_,_,hdec hlo,by omega⟩
     ·refine ⟨(Utf8.decode r k).1,(Utf8.decode r k).2,rfl,?_⟩
      have h9:=hhi hlo;clear hnx hbw2 hit2 hdec hhi;omega
    rw [hRw] at hnx hbw2 hit2;simp only at hnx hbw2 hit2;generalize k+wd=j at hnx hbw2 hit2;subst hF;have hks2:(k:Int)≤(r.size:Int):=by omega
    clear hrs HDK hdec hhi hdig hgo hb256 hRw;have HB:=Ac8 hbw2;have hb1:k=0∨0 < k:=by omega
    clear hbw2;rcases hcase with h1 | ⟨h1,h2⟩ | ⟨h1,h2,h3⟩
    ·have e1:decide ((R:Int) < 48)=true:=by simp;omega
     clear h1;rcases hb1 with rfl | hb1
     ·obtain rfl:x=0:=hx0 rfl
      have q1:decide ((0:Nat) < 0)=false:=rfl;go_wp2_with fail
      go_quiet (fail)
      go_wp2_with fail
      go_ret3
      exact ⟨rfl,below_drewN HB.out _⟩
     ·have q1:decide (0 < k)=true:=decide_eq_true hb1
      have Hq:=Ac8 (show decide ((x:Int)≤255)=decide (x≤255) from decide_eq_decide.2 (by omega));go_wp2_with fail
      go_quiet (fail)
      go_wp2_with fail
      go_ret3
      exact ⟨Ja Hq.out,below_drewN HB.out _⟩
    ·have e1:decide ((R:Int) < 48)=false:=by simp;omega
     have e2:decide (57 < (R:Int))=true:=by simp;omega
     clear h1 h2;rcases hb1 with rfl | hb1
     ·obtain rfl:x=0:=hx0 rfl
      have q1:decide ((0:Nat) < 0)=false:=rfl;go_wp2_with fail
      go_quiet (fail)
      go_wp2_with fail
      go_ret3
      exact ⟨rfl,below_drewN HB.out _⟩
     ·have q1:decide (0 < k)=true:=decide_eq_true hb1
      have Hq:=Ac8 (show decide ((x:Int)≤255)=decide (x≤255) from decide_eq_decide.2 (by omega));go_wp2_with fail
      go_quiet (fail)
      go_wp2_with fail
      go_ret3
      exact ⟨Ja Hq.out,below_drewN HB.out _⟩
    ·have e1:decide ((R:Int) < 48)=false:=by simp;omega
     have e2:decide (57 < (R:Int))=false:=by simp;omega
     have e3:((k:Int) == 3)=true:=by simp;omega
     replace hb1:0 < k:=by omega
     clear h1 h2 h3;have q1:decide (0 < k)=true:=decide_eq_true hb1;have Hq:=Ac8 (show decide ((x:Int)≤255)=decide (x≤255) from decide_eq_decide.2 (by omega));go_wp2_with fail
     go_quiet (fail)
     go_wp2_with fail
     go_ret3
     exact ⟨Ja Hq.out,below_drewN HB.out _⟩
  ·have hnx:∀ ty,(Instr.next (.pointer (some ⟨w.heap.size,0,none⟩)) true ty).run Tryz.prog wr=_:=fun ty=>Lib.run_next_end_at wr w.heap.size r k ty hit hlt
   have hF:D=(k,x):=by
    rw [HDK.out,LT]
    ·rfl
    ·right
     unfold Fy;rw [decide_eq_false (by rw [hrs];exact hlt)];rfl
   subst hF;have hks2:(k:Int)≤(r.size:Int):=by omega
   clear hrs HDK;have HB:=Ac8 hV;have hb1:k=0∨0 < k:=by omega
   rcases hb1 with rfl | hb1
   ·obtain rfl:x=0:=hx0 rfl
    have q1:decide ((0:Nat) < 0)=false:=rfl;go_wp2_with fail
    go_quiet (fail)
    go_wp2_with fail
    go_ret3
    exact ⟨rfl,below_drewN HB.out _⟩
   ·have q1:decide (0 < k)=true:=decide_eq_true hb1
    have Hq:=Ac8 (show decide ((x:Int)≤255)=decide (x≤255) from decide_eq_decide.2 (by omega));go_wp2_with fail
    go_quiet (fail)
    go_wp2_with fail
    go_ret3
    exact ⟨Ja Hq.out,below_drewN HB.out _⟩
end
section
open Go Go.RowKit
theorem M7 (r:ByteArray) (a b:Nat):(r.extract a r.size).extract b (r.extract a r.size).size=r.extract (a+b) r.size:=by
 apply ByteArray.ext;apply Array.ext';rw [BL,BL,BL,List.drop_drop]
theorem EI {a b c d:Int} {s t:ByteArray} {x y:Bool} (h1:a=c) (h2:b=d) (h3:s=t) (h4:x=y):Ending.returned (.tuple #[.int .i64 a,.int .i64 b,.string s,.bool x])=.returned (.tuple #[.int .i64 c,.int .i64 d,.string t,.bool y]):=by rw [h1,h2,h3,h4]
theorem Aa6 (cl L:List UInt8) (h:CB L 0=false):KY cl L=(((A5 L 3 0 0).2:Int),((A5 L 3 0 0).2:Int),(A5 L 3 0 0).1,false):=by unfold KY;simp [h]
theorem Yy (cl L:List UInt8) (h:CB L 0=true) (h2:chAt L (A5 L 3 0 0).1 44=false):KY cl L=(((A5 L 3 0 0).2:Int),((A5 L 3 0 0).2:Int),(A5 L 3 0 0).1,true):=by unfold KY;simp [h,h2]
theorem Vs (cl L:List UInt8) (h:CB L 0=true) (h2:chAt L (A5 L 3 0 0).1 44=true) (h3:AP L ((A5 L 3 0 0).1+1) cl=true):KY cl L=(((A5 L 3 0 0).2:Int),-1,(A5 L 3 0 0).1+1,true):=by unfold KY;simp [h,h2,h3]
theorem Yz (cl L:List UInt8) (h:CB L 0=true) (h2:chAt L (A5 L 3 0 0).1 44=true) (h3:AP L ((A5 L 3 0 0).1+1) cl=false) :
  KY cl L=(((A5 L 3 0 0).2:Int),((A5 L 3 ((A5 L 3 0 0).1+1) 0).2:Int),(A5 L 3 0 0).1+1+(A5 L 3 ((A5 L 3 0 0).1+1) 0).1,CB L ((A5 L 3 0 0).1+1) && decide ((A5 L 3 0 0).2≤(A5 L 3 ((A5 L 3 0 0).1+1) 0).2)):=by unfold KY;simp [h,h2,h3]
theorem Y0 (s:List UInt8) (k:Nat):CB (s.drop k) 0=CB s k:=by unfold CB;rw [Ii,Nat.add_zero]
theorem NH (r cl:ByteArray) (w:World) (hs:r.size≤250) :
  Calls Tryz.prog 157 #[.string r,.string cl] w fun e w'=>e=.returned (.tuple #[.int .i64 (KY cl.data.toList r.data.toList).1,.int .i64 (KY cl.data.toList r.data.toList).2.1,.string (r.extract (KY cl.data.toList r.data.toList).2.2.1 r.size),.bool (KY cl.data.toList r.data.toList).2.2.2])∧Below w.heap.size w w':=by
 have hb1:=Li r w hs;generalize hL:r.data.toList=L at *;generalize hC:cl.data.toList=C at *;obtain ⟨X,hX⟩:∃ X,X=KY C L:=⟨_,rfl⟩;rw [←hX];have HX:=Ac8 hX;clear hX;have HI1:=Ac8 (Aa6 C L);have HI2:=Ac8 (Yy C L);have HI3:=Ac8 (Vs C L);have HI4:=Ac8 (Yz C L);have HL:=Ac8 hL;have HC:=Ac8 hC;clear hL hC;go_enter Tryz.func157,Tryz.ntmps157;go_wp2_with fail
 refine hb1.mono ?_;rintro e w1 ⟨rfl,b1⟩;clear hb1;generalize hk1:(A5 L 3 0 0).1=k1 at *;generalize hv1:(A5 L 3 0 0).2=v1 at *;have hr1:(r.extract k1 r.size).data.toList=L.drop k1:=by rw [BL,HL.out]
 have hz1:=EH r k1;clear hk1 hv1;cases q1:CB L 0
 ·have HF:=Ac8 (HX.out.trans (HI1.out q1))
  clear q1 HI1 HI2 HI3 HI4;cases q2:Lib.hasPrefix (r.extract k1 r.size).data.toList (ByteArray.mk #[44]).data.toList
  ·have hc:=P7 _ _ w1 q2
   clear q2 hr1 hz1;go_wp2_with fail
   refine hc.mono ?_;rintro e w2 ⟨rfl,rfl⟩;go_wp2_with fail
   (try simp only [Exit.inBlock,Exit.then]);refine bodyPost_ret (M4 rfl _ _ _) rfl ?_
   exact ⟨EI (by rw [HF.out]) (by rw [HF.out]) (by rw [HF.out]) (by rw [HF.out]),b1⟩
  ·have hc:=M3 _ _ w1 q2
   clear q2 hr1 hz1;go_wp2_with fail
   refine hc.mono ?_;rintro e w2 ⟨rfl,rfl⟩;go_wp2_with fail
   (try simp only [Exit.inBlock,Exit.then]);refine bodyPost_ret (M4 rfl _ _ _) rfl ?_
   exact ⟨EI (by rw [HF.out]) (by rw [HF.out]) (by rw [HF.out]) (by rw [HF.out]),b1⟩
 ·have hq:Lib.hasPrefix (r.extract k1 r.size).data.toList (ByteArray.mk #[44]).data.toList=chAt L k1 44:=by rw [hr1];exact Dw L k1 44 (by decide)
  have H2:=Ac8 (HI2.out q1);have H3:=Ac8 (HI3.out q1);have H4:=Ac8 (HI4.out q1);clear q1 HI1 HI2 HI3 HI4;cases q2:chAt L k1 44
  ·have HF:=Ac8 (HX.out.trans (H2.out q2))
   have hc:=P7 _ _ w1 (hq.trans q2);clear q2 hr1 hz1 hq H2 H3 H4;go_wp2_with fail
   refine hc.mono ?_;rintro e w2 ⟨rfl,rfl⟩;go_wp2_with fail
   (try simp only [Exit.inBlock,Exit.then]);refine bodyPost_ret (M4 rfl _ _ _) rfl ?_
   exact ⟨EI (by rw [HF.out]) (by rw [HF.out]) (by rw [HF.out]) (by rw [HF.out]),b1⟩
  ·have H3':=Ac8 (H3.out q2)
   have H4':=Ac8 (H4.out q2);have hc:=M3 _ _ w1 (hq.trans q2);rw [M7,show (ByteArray.mk #[44]).size=1 from rfl] at hc;clear q2 hr1 hz1 hq H2 H3 H4;have hr2:(r.extract (k1+1) r.size).data.toList=L.drop (k1+1):=by rw [BL,HL.out]
   have hp:=Ck (r.extract (k1+1) r.size) cl w1;have hz2:=EH r (k1+1);have hb2:=Li (r.extract (k1+1) r.size) w1 (by omega);rw [hr2,HC.out] at hp;rw [hr2,Y0,Ii,Nat.add_zero,M7] at hb2;clear hz2;rw [show Lib.hasPrefix (L.drop (k1+1)) C=AP L (k1+1) C from rfl] at hp;clear hr2;go_wp2_with fail
   refine hc.mono ?_;rintro e w2 ⟨rfl,rfl⟩;clear hc;cases q3:AP L (k1+1) C
   ·have HF:=Ac8 (HX.out.trans (H4'.out q3))
    rw [q3] at hp;clear q3 H3' H4';generalize (A5 L 3 (k1+1) 0).1=k2 at *;generalize (A5 L 3 (k1+1) 0).2=v2 at *;generalize CB L (k1+1)=o2 at *;go_wp2_with fail
    refine hp.mono ?_;rintro e w2 ⟨rfl,rfl⟩;go_wp2_with fail
    refine hb2.mono ?_;rintro e w2 ⟨rfl,b2⟩;have HD:=Ac8 (show decide ((v1:Int)≤(v2:Int))=decide (v1≤v2) from decide_eq_decide.2 (by omega));have hbb:=b1.trans (b2.mono b1.size);cases o2
    ·go_wp2_with fail
     (try simp only [Exit.inBlock,Exit.then]);refine bodyPost_ret (M4 rfl _ _ _) rfl ?_
     exact ⟨EI (by rw [HF.out]) (by rw [HF.out]) (by rw [HF.out]) (by rw [HF.out];rfl),hbb⟩
    ·go_wp2_with fail
     (try simp only [Exit.inBlock,Exit.then]);refine bodyPost_ret (M4 rfl _ _ _) rfl ?_
     exact ⟨EI (by rw [HF.out]) (by rw [HF.out]) (by rw [HF.out]) (by rw [HF.out,Bool.true_and];first | done | exact HD.out),hbb⟩
   ·have HF:=Ac8 (HX.out.trans (H3'.out q3))
    rw [q3] at hp;clear q3 H3' H4' hb2;go_wp2_with fail
    refine hp.mono ?_;rintro e w2 ⟨rfl,rfl⟩;go_wp2_with fail
    (try simp only [Exit.inBlock,Exit.then]);refine bodyPost_ret (M4 rfl _ _ _) rfl ?_
    exact ⟨EI (by rw [HF.out]) (by rw [HF.out]) (by rw [HF.out]) (by rw [HF.out]),b1⟩
def JM (r:Option (Int × Int × Nat)):Ending:=match r with
 | some q=>.returned (.tuple #[.int .i64 q.1,.int .i64 q.2.1,.int .i64 (q.2.2:Int),.bool true])
 | none=>.returned (.tuple #[.int .i64 0,.int .i64 0,.int .i64 0,.bool false])
theorem P8 {r:Option (Int × Int × Nat)} {a b c:Int} {j:Nat} (h:r=some (a,b,j)) (hc:c=(j:Int)):Ending.returned (.tuple #[.int .i64 a,.int .i64 b,.int .i64 c,.bool true])=JM r:=by subst h hc;rfl
theorem JN {r:Option (Int × Int × Nat)} (h:r=none):Ending.returned (.tuple #[.int .i64 0,.int .i64 0,.int .i64 0,.bool false])=JM r:=by subst h;rfl
theorem Lj (r cl:ByteArray) (w:World) (hs:r.size≤250) (h0:cl.data.toList≠[]) :
  Calls Tryz.prog 147 #[.string r,.string cl] w fun e w'=>e=JM (KZ cl.data.toList r.data.toList)∧Below w.heap.size w w':=by
 have hb1:=NH r cl w hs;generalize hL:r.data.toList=L at *;generalize hC:cl.data.toList=C at *;obtain ⟨X,hX⟩:∃ X,X=KZ C L:=⟨_,rfl⟩;rw [←hX];have HX:=Ac8 hX;clear hX;obtain ⟨a,b,j,o,hB⟩:∃ a b j o,KY C L=(a,b,j,o):=⟨_,_,_,_,rfl⟩;have HF:=Ac8 (show KZ C L=if o && AP L j C then some (a,b,j+C.length) else none by unfold KZ;rw [hB]);rw [hB] at hb1;simp only at hb1;have hr1:(r.extract j r.size).data.toList=L.drop j:=by rw [BL,hL]
 have hCl:C.length=cl.size:=by rw [←hC];simp
 have hq:Lib.hasPrefix (r.extract j r.size).data.toList cl.data.toList=AP L j C:=by rw [hr1,hC];rfl
 have hz:=EH r j;clear hB hr1;have HL:=Ac8 hL;have HC:=Ac8 hC;clear hL hC;go_enter Tryz.func147,Tryz.ntmps147;go_wp2_with fail
 refine hb1.mono ?_;rintro e w1 ⟨rfl,b1⟩;clear hb1;cases q2:AP L j C
 ·have HG:=Ac8 (HX.out.trans (HF.out.trans (by rw [q2,Bool.and_false];first | done | rfl)))
  have hc:=P7 _ _ w1 (hq.trans q2);clear q2 hq hz hCl;cases o
  all_goals
   go_wp2_with fail
   refine hc.mono ?_;rintro e w2 ⟨rfl,rfl⟩;go_wp2_with fail
   (try simp only [Exit.inBlock,Exit.then]);refine bodyPost_ret (M4 rfl _ _ _) rfl ?_
   exact ⟨JN HG.out,b1⟩
 ·have hc:=M3 _ _ w1 (hq.trans q2)
  have hsz:=NG _ _ (hq.trans q2);rw [M7] at hc;have hz2:=EH r (j+cl.size);cases o
  ·have HG:=Ac8 (HX.out.trans (HF.out.trans (by rw [Bool.false_and];first | done | rfl)))
   clear q2 hq hz hz2 hCl hsz;go_wp2_with fail
   refine hc.mono ?_;rintro e w2 ⟨rfl,rfl⟩;go_wp2_with fail
   (try simp only [Exit.inBlock,Exit.then]);refine bodyPost_ret (M4 rfl _ _ _) rfl ?_
   exact ⟨JN HG.out,b1⟩
  ·have HG:=Ac8 (HX.out.trans (HF.out.trans (by rw [q2];first | done | rfl)))
   have hj:j+cl.size≤r.size:=by
    have:=F0 L j C q2 h0;rw [←HC.out,←HL.out] at this;simpa using this
   have Wn:IntKind.i64.wrap ((r.size:Int) - ((r.extract (j+cl.size) r.size).size:Int))=((j+C.length:Nat):Int):=by rw [Adm _ (by omega)];omega
   have HW:=Ac8 (show (r.size:Int) - ((r.size - (j+cl.size):Nat):Int)=((j+C.length:Nat):Int) by omega);clear q2 hq hz hz2 hCl hsz;go_wp2_with fail
   refine hc.mono ?_;rintro e w2 ⟨rfl,rfl⟩;go_wp2_with fail
   (try simp only [Exit.inBlock,Exit.then]);refine bodyPost_ret (M4 rfl _ _ _) rfl ?_
   exact ⟨P8 HG.out HW.out,b1⟩
end
section
open Go Go.RowKit
theorem Bj (s:ByteArray) (w:World) :
  Calls Tryz.prog 160 #[.string s] w fun e w'=>e=.returned (.agg #[.int .u64 (ow (A4 s.data.toList) 0),.int .u64 (ow (A4 s.data.toList) 1),.int .u64 (ow (A4 s.data.toList) 2),.int .u64 (ow (A4 s.data.toList) 3)])∧Below w.heap.size w w':=by
 have hB0:=(Adk w.heap.size w).alloc (Adf _) (.cells #[.int .u64 0,.int .u64 0,.int .u64 0,.int .u64 0] 109);have hP0:=Blk.new w #[.int .u64 0,.int .u64 0,.int .u64 0,.int .u64 0] 109 w.heap.size rfl;have hc:=KW s (w.alloc (.cells #[.int .u64 0,.int .u64 0,.int .u64 0,.int .u64 0] 109));rw [ByteArray.toList_eq] at hc;generalize A4 s.data.toList=t at hc ⊢;generalize CA s.data.toList=ok at hc;go_enter Tryz.func160,Tryz.ntmps160;go_wp2_with fail
 refine hc.mono ?_;rintro e w1 ⟨rfl,b1⟩;have hP1:=hP0.below b1 hP0.lt;have hB1:=hB0.trans (b1.mono hB0.size);have p0:=(hP1.cell 0).trans rfl;have p1:=(hP1.cell 1).trans rfl;have p2:=(hP1.cell 2).trans rfl;have p3:=(hP1.cell 3).trans rfl;have z0:=hP1.frozen 0;have z1:=hP1.frozen 1;have z2:=hP1.frozen 2;have z3:=hP1.frozen 3;have hl:=hP1.lt;clear hc hP0 hB0 b1;have g:=((((hP1.set 0 (.int .u64 (ow t 0))).set 1 (.int .u64 (ow t 1))).set 2 (.int .u64 (ow t 2))).set 3 (.int .u64 (ow t 3))).alloc (.cells #[.int .u64 (ow t 0),.int .u64 (ow t 1),.int .u64 (ow t 2),.int .u64 (ow t 3)] 109);have hBn:=((((hB1.setCell (p:=⟨w.heap.size,0,none⟩) (Adf _) (.int .u64 (ow t 0))).setCell (p:=⟨w.heap.size,1,none⟩) (Adf _) (.int .u64 (ow t 1))).setCell (p:=⟨w.heap.size,2,none⟩) (Adf _) (.int .u64 (ow t 2))).setCell (p:=⟨w.heap.size,3,none⟩) (Adf _) (.int .u64 (ow t 3))).alloc (by simp [World.setCell];omega) (.cells #[.int .u64 (ow t 0),.int .u64 (ow t 1),.int .u64 (ow t 2),.int .u64 (ow t 3)] 109);have HG:=Ac8 g;have HBn:=Ac8 hBn;clear g hBn;go_wp2_with fail
 have g:=HG.out;have hBn:=HBn.out;clear HG HBn p0 p1 p2 p3 z0 z1 z2 z3 hP1;generalize ((((w1.setCell _ _).setCell _ _).setCell _ _).setCell _ _).alloc _=w9 at g hBn ⊢;have d0:=(g.cell 0).trans rfl;have d1:=(g.cell 1).trans rfl;have d2:=(g.cell 2).trans rfl;have d3:=(g.cell 3).trans rfl;exact bodyPost_ret (v:=.agg #[.int .u64 (ow t 0),.int .u64 (ow t 1),.int .u64 (ow t 2),.int .u64 (ow t 3)]) (by simp [results,Tryz.results160,go_sem,d0,d1,d2,d3]) rfl ⟨rfl,hBn⟩
theorem Y1 (w:World):Calls Tryz.prog 150 #[.int .u8 110] w fun e w'=>e=.returned (.tuple #[.agg #[.int .u64 (ow (Ab 10 10) 0),.int .u64 (ow (Ab 10 10) 1),.int .u64 (ow (Ab 10 10) 2),.int .u64 (ow (Ab 10 10) 3)],.bool false,.bool true])∧Below w.heap.size w w':=by
 have hB0:=(Adk w.heap.size w).alloc (Adf _) (.cells #[.int .u64 0,.int .u64 0,.int .u64 0,.int .u64 0] 109);have hP0:=Blk.new w #[.int .u64 0,.int .u64 0,.int .u64 0,.int .u64 0] 109 w.heap.size rfl;go_enter Tryz.func150,Tryz.ntmps150;go_wp2_with fail;refine (Bj _ _).mono ?_;rintro e w1 ⟨rfl,b1⟩;replace hP0:=hP0.below b1 hP0.lt;replace hB0:=hB0.trans (b1.mono hB0.size);clear b1;go_wp2_with fail;refine (C8 95 (by decide) (by decide) _ _ (by simp)).mono ?_;rintro e w2 ⟨rfl,b2⟩;replace hP0:=hP0.below b2 hP0.lt;replace hB0:=hB0.trans (b2.mono hB0.size);clear b2;go_wp2_with fail;refine (D0 _ _ _).mono ?_;rintro e w3 ⟨rfl,b3⟩;replace hP0:=hP0.below b3 hP0.lt;replace hB0:=hB0.trans (b3.mono hB0.size);clear b3;generalize A4 (ByteArray.mk #[97,108,110,117,109]).data.toList ||| Dt [95]=t;go_wp2_with fail
 refine (C8 10 (by decide) (by decide) _ _ (by simp)).mono ?_;rintro e w4 ⟨rfl,b4⟩;replace hP0:=(hP0.alloc (.cells #[.int .u64 (ow t 0),.int .u64 (ow t 1),.int .u64 (ow t 2),.int .u64 (ow t 3)] 109)).below b4 (by have:=hP0.lt;simp;omega);replace hB0:=(hB0.alloc hB0.size (.cells #[.int .u64 (ow t 0),.int .u64 (ow t 1),.int .u64 (ow t 2),.int .u64 (ow t 3)] 109)).trans (b4.mono (by have:=hB0.size;simp;omega));clear b4;rw [show Dt [(10:Int)]=Ab 10 10 from DE 10];have g:=(((hP0.set 0 (.int .u64 (ow (Ab 10 10) 0))).set 1 (.int .u64 (ow (Ab 10 10) 1))).set 2 (.int .u64 (ow (Ab 10 10) 2))).set 3 (.int .u64 (ow (Ab 10 10) 3));have hBn:=(((hB0.setCell (p:=⟨w.heap.size,0,none⟩) (Adf _) (.int .u64 (ow (Ab 10 10) 0))).setCell (p:=⟨w.heap.size,1,none⟩) (Adf _) (.int .u64 (ow (Ab 10 10) 1))).setCell (p:=⟨w.heap.size,2,none⟩) (Adf _) (.int .u64 (ow (Ab 10 10) 2))).setCell (p:=⟨w.heap.size,3,none⟩) (Adf _) (.int .u64 (ow (Ab 10 10) 3));have p0:=(hP0.cell 0).trans rfl;have p1:=(hP0.cell 1).trans rfl;have p2:=(hP0.cell 2).trans rfl;have p3:=(hP0.cell 3).trans rfl;have z0:=hP0.frozen 0;have z1:=hP0.frozen 1;have z2:=hP0.frozen 2;have z3:=hP0.frozen 3;have hl:=hP0.lt;have HG:=Ac8 g;have HBn:=Ac8 hBn;clear g hBn hP0 hB0;go_wp2_with fail;have g:=HG.out;have hBn:=HBn.out;clear HG HBn p0 p1 p2 p3 z0 z1 z2 z3;generalize (((World.setCell _ _ _).setCell _ _).setCell _ _).setCell _ _=w9 at g hBn ⊢;have d0:=(g.cell 0).trans rfl;have d1:=(g.cell 1).trans rfl;have d2:=(g.cell 2).trans rfl;have d3:=(g.cell 3).trans rfl;exact bodyPost_ret (v:=.tuple #[.agg #[.int .u64 (ow (Ab 10 10) 0),.int .u64 (ow (Ab 10 10) 1),.int .u64 (ow (Ab 10 10) 2),.int .u64 (ow (Ab 10 10) 3)],.bool false,.bool true]) (by simp [results,Tryz.results150,go_sem,d0,d1,d2,d3]) rfl ⟨rfl,hBn⟩
theorem Y2 (w:World):Calls Tryz.prog 150 #[.int .u8 116] w fun e w'=>e=.returned (.tuple #[.agg #[.int .u64 (ow (Ab 9 9) 0),.int .u64 (ow (Ab 9 9) 1),.int .u64 (ow (Ab 9 9) 2),.int .u64 (ow (Ab 9 9) 3)],.bool true,.bool true])∧Below w.heap.size w w':=by
 have hB0:=(Adk w.heap.size w).alloc (Adf _) (.cells #[.int .u64 0,.int .u64 0,.int .u64 0,.int .u64 0] 109);have hP0:=Blk.new w #[.int .u64 0,.int .u64 0,.int .u64 0,.int .u64 0] 109 w.heap.size rfl;go_enter Tryz.func150,Tryz.ntmps150;go_wp2_with fail;refine (Bj _ _).mono ?_;rintro e w1 ⟨rfl,b1⟩;replace hP0:=hP0.below b1 hP0.lt;replace hB0:=hB0.trans (b1.mono hB0.size);clear b1;go_wp2_with fail;refine (C8 95 (by decide) (by decide) _ _ (by simp)).mono ?_;rintro e w2 ⟨rfl,b2⟩;replace hP0:=hP0.below b2 hP0.lt;replace hB0:=hB0.trans (b2.mono hB0.size);clear b2;go_wp2_with fail;refine (D0 _ _ _).mono ?_;rintro e w3 ⟨rfl,b3⟩;replace hP0:=hP0.below b3 hP0.lt;replace hB0:=hB0.trans (b3.mono hB0.size);clear b3;generalize A4 (ByteArray.mk #[97,108,110,117,109]).data.toList ||| Dt [95]=t;go_wp2_with fail
 refine (C8 9 (by decide) (by decide) _ _ (by simp)).mono ?_;rintro e w4 ⟨rfl,b4⟩;replace hP0:=(hP0.alloc (.cells #[.int .u64 (ow t 0),.int .u64 (ow t 1),.int .u64 (ow t 2),.int .u64 (ow t 3)] 109)).below b4 (by have:=hP0.lt;simp;omega);replace hB0:=(hB0.alloc hB0.size (.cells #[.int .u64 (ow t 0),.int .u64 (ow t 1),.int .u64 (ow t 2),.int .u64 (ow t 3)] 109)).trans (b4.mono (by have:=hB0.size;simp;omega));clear b4;rw [show Dt [(9:Int)]=Ab 9 9 from DE 9];have g:=(((hP0.set 0 (.int .u64 (ow (Ab 9 9) 0))).set 1 (.int .u64 (ow (Ab 9 9) 1))).set 2 (.int .u64 (ow (Ab 9 9) 2))).set 3 (.int .u64 (ow (Ab 9 9) 3));have hBn:=(((hB0.setCell (p:=⟨w.heap.size,0,none⟩) (Adf _) (.int .u64 (ow (Ab 9 9) 0))).setCell (p:=⟨w.heap.size,1,none⟩) (Adf _) (.int .u64 (ow (Ab 9 9) 1))).setCell (p:=⟨w.heap.size,2,none⟩) (Adf _) (.int .u64 (ow (Ab 9 9) 2))).setCell (p:=⟨w.heap.size,3,none⟩) (Adf _) (.int .u64 (ow (Ab 9 9) 3));have p0:=(hP0.cell 0).trans rfl;have p1:=(hP0.cell 1).trans rfl;have p2:=(hP0.cell 2).trans rfl;have p3:=(hP0.cell 3).trans rfl;have z0:=hP0.frozen 0;have z1:=hP0.frozen 1;have z2:=hP0.frozen 2;have z3:=hP0.frozen 3;have hl:=hP0.lt;have HG:=Ac8 g;have HBn:=Ac8 hBn;clear g hBn hP0 hB0;go_wp2_with fail;have g:=HG.out;have hBn:=HBn.out;clear HG HBn p0 p1 p2 p3 z0 z1 z2 z3;generalize (((World.setCell _ _ _).setCell _ _).setCell _ _).setCell _ _=w9 at g hBn ⊢;have d0:=(g.cell 0).trans rfl;have d1:=(g.cell 1).trans rfl;have d2:=(g.cell 2).trans rfl;have d3:=(g.cell 3).trans rfl;exact bodyPost_ret (v:=.tuple #[.agg #[.int .u64 (ow (Ab 9 9) 0),.int .u64 (ow (Ab 9 9) 1),.int .u64 (ow (Ab 9 9) 2),.int .u64 (ow (Ab 9 9) 3)],.bool true,.bool true]) (by simp [results,Tryz.results150,go_sem,d0,d1,d2,d3]) rfl ⟨rfl,hBn⟩
theorem Y4 (w:World):Calls Tryz.prog 150 #[.int .u8 119] w fun e w'=>e=.returned (.tuple #[.agg #[.int .u64 (ow Ai 0),.int .u64 (ow Ai 1),.int .u64 (ow Ai 2),.int .u64 (ow Ai 3)],.bool true,.bool true])∧Below w.heap.size w w':=by
 have hB0:=(Adk w.heap.size w).alloc (Adf _) (.cells #[.int .u64 0,.int .u64 0,.int .u64 0,.int .u64 0] 109);have hP0:=Blk.new w #[.int .u64 0,.int .u64 0,.int .u64 0,.int .u64 0] 109 w.heap.size rfl;go_enter Tryz.func150,Tryz.ntmps150;go_wp2_with fail;refine (Bj _ _).mono ?_;rintro e w1 ⟨rfl,b1⟩;replace hP0:=hP0.below b1 hP0.lt;replace hB0:=hB0.trans (b1.mono hB0.size);clear b1;go_wp2_with fail;refine (C8 95 (by decide) (by decide) _ _ (by simp)).mono ?_;rintro e w2 ⟨rfl,b2⟩;replace hP0:=hP0.below b2 hP0.lt;replace hB0:=hB0.trans (b2.mono hB0.size);clear b2;go_wp2_with fail;refine (D0 _ _ _).mono ?_;rintro e w3 ⟨rfl,b3⟩;replace hP0:=hP0.below b3 hP0.lt;replace hB0:=hB0.trans (b3.mono hB0.size);clear b3;have hws:A4 (ByteArray.mk #[97,108,110,117,109]).data.toList ||| Dt [95]=Ai:=by unfold Ai;rw [show Dt [(95:Int)]=Ab 95 95 from DE 95]
 rw [hws];clear hws;have hP0:=hP0.alloc (.cells #[.int .u64 (ow Ai 0),.int .u64 (ow Ai 1),.int .u64 (ow Ai 2),.int .u64 (ow Ai 3)] 109);have hB0:=hB0.alloc hB0.size (.cells #[.int .u64 (ow Ai 0),.int .u64 (ow Ai 1),.int .u64 (ow Ai 2),.int .u64 (ow Ai 3)] 109);have g:=(((hP0.set 0 (.int .u64 (ow Ai 0))).set 1 (.int .u64 (ow Ai 1))).set 2 (.int .u64 (ow Ai 2))).set 3 (.int .u64 (ow Ai 3));have hBn:=(((hB0.setCell (p:=⟨w.heap.size,0,none⟩) (Adf _) (.int .u64 (ow Ai 0))).setCell (p:=⟨w.heap.size,1,none⟩) (Adf _) (.int .u64 (ow Ai 1))).setCell (p:=⟨w.heap.size,2,none⟩) (Adf _) (.int .u64 (ow Ai 2))).setCell (p:=⟨w.heap.size,3,none⟩) (Adf _) (.int .u64 (ow Ai 3));have p0:=(hP0.cell 0).trans rfl;have p1:=(hP0.cell 1).trans rfl;have p2:=(hP0.cell 2).trans rfl;have p3:=(hP0.cell 3).trans rfl;have z0:=hP0.frozen 0;have z1:=hP0.frozen 1;have z2:=hP0.frozen 2;have z3:=hP0.frozen 3;have hl:=hP0.lt;have HG:=Ac8 g;have HBn:=Ac8 hBn;clear g hBn hP0 hB0;go_wp2_with fail;have g:=HG.out;have hBn:=HBn.out;clear HG HBn p0 p1 p2 p3 z0 z1 z2 z3;generalize (((World.setCell _ _ _).setCell _ _).setCell _ _).setCell _ _=w9 at g hBn ⊢;have d0:=(g.cell 0).trans rfl;have d1:=(g.cell 1).trans rfl;have d2:=(g.cell 2).trans rfl;have d3:=(g.cell 3).trans rfl;exact bodyPost_ret (v:=.tuple #[.agg #[.int .u64 (ow Ai 0),.int .u64 (ow Ai 1),.int .u64 (ow Ai 2),.int .u64 (ow Ai 3)],.bool true,.bool true]) (by simp [results,Tryz.results150,go_sem,d0,d1,d2,d3]) rfl ⟨rfl,hBn⟩
theorem Aa7 (w:World):Calls Tryz.prog 150 #[.int .u8 87] w fun e w'=>e=.returned (.tuple #[.agg #[.int .u64 (ow (~~~Ai) 0),.int .u64 (ow (~~~Ai) 1),.int .u64 (ow (~~~Ai) 2),.int .u64 (ow (~~~Ai) 3)],.bool true,.bool true])∧Below w.heap.size w w':=by
 have hB0:=(Adk w.heap.size w).alloc (Adf _) (.cells #[.int .u64 0,.int .u64 0,.int .u64 0,.int .u64 0] 109);have hP0:=Blk.new w #[.int .u64 0,.int .u64 0,.int .u64 0,.int .u64 0] 109 w.heap.size rfl;go_enter Tryz.func150,Tryz.ntmps150;go_wp2_with fail;refine (Bj _ _).mono ?_;rintro e w1 ⟨rfl,b1⟩;replace hP0:=hP0.below b1 hP0.lt;replace hB0:=hB0.trans (b1.mono hB0.size);clear b1;go_wp2_with fail;refine (C8 95 (by decide) (by decide) _ _ (by simp)).mono ?_;rintro e w2 ⟨rfl,b2⟩;replace hP0:=hP0.below b2 hP0.lt;replace hB0:=hB0.trans (b2.mono hB0.size);clear b2;go_wp2_with fail;refine (D0 _ _ _).mono ?_;rintro e w3 ⟨rfl,b3⟩;replace hP0:=hP0.below b3 hP0.lt;replace hB0:=hB0.trans (b3.mono hB0.size);clear b3;have hws:A4 (ByteArray.mk #[97,108,110,117,109]).data.toList ||| Dt [95]=Ai:=by unfold Ai;rw [show Dt [(95:Int)]=Ab 95 95 from DE 95]
 rw [hws];clear hws;go_wp2_with fail
 refine (FR _ _).mono ?_;rintro e w4 ⟨rfl,b4⟩;replace hP0:=(hP0.alloc (.cells #[.int .u64 (ow Ai 0),.int .u64 (ow Ai 1),.int .u64 (ow Ai 2),.int .u64 (ow Ai 3)] 109)).below b4 (by have:=hP0.lt;simp;omega);replace hB0:=(hB0.alloc hB0.size (.cells #[.int .u64 (ow Ai 0),.int .u64 (ow Ai 1),.int .u64 (ow Ai 2),.int .u64 (ow Ai 3)] 109)).trans (b4.mono (by have:=hB0.size;simp;omega));clear b4;have g:=(((hP0.set 0 (.int .u64 (ow (~~~Ai) 0))).set 1 (.int .u64 (ow (~~~Ai) 1))).set 2 (.int .u64 (ow (~~~Ai) 2))).set 3 (.int .u64 (ow (~~~Ai) 3));have hBn:=(((hB0.setCell (p:=⟨w.heap.size,0,none⟩) (Adf _) (.int .u64 (ow (~~~Ai) 0))).setCell (p:=⟨w.heap.size,1,none⟩) (Adf _) (.int .u64 (ow (~~~Ai) 1))).setCell (p:=⟨w.heap.size,2,none⟩) (Adf _) (.int .u64 (ow (~~~Ai) 2))).setCell (p:=⟨w.heap.size,3,none⟩) (Adf _) (.int .u64 (ow (~~~Ai) 3));have p0:=(hP0.cell 0).trans rfl;have p1:=(hP0.cell 1).trans rfl;have p2:=(hP0.cell 2).trans rfl;have p3:=(hP0.cell 3).trans rfl;have z0:=hP0.frozen 0;have z1:=hP0.frozen 1;have z2:=hP0.frozen 2;have z3:=hP0.frozen 3;have hl:=hP0.lt;have HG:=Ac8 g;have HBn:=Ac8 hBn;clear g hBn hP0 hB0;go_wp2_with fail;have g:=HG.out;have hBn:=HBn.out;clear HG HBn p0 p1 p2 p3 z0 z1 z2 z3;generalize (((World.setCell _ _ _).setCell _ _).setCell _ _).setCell _ _=w9 at g hBn ⊢;have d0:=(g.cell 0).trans rfl;have d1:=(g.cell 1).trans rfl;have d2:=(g.cell 2).trans rfl;have d3:=(g.cell 3).trans rfl;exact bodyPost_ret (v:=.tuple #[.agg #[.int .u64 (ow (~~~Ai) 0),.int .u64 (ow (~~~Ai) 1),.int .u64 (ow (~~~Ai) 2),.int .u64 (ow (~~~Ai) 3)],.bool true,.bool true]) (by simp [results,Tryz.results150,go_sem,d0,d1,d2,d3]) rfl ⟨rfl,hBn⟩
theorem Y5 (w:World):Calls Tryz.prog 150 #[.int .u8 115] w fun e w'=>e=.returned (.tuple #[.agg #[.int .u64 (ow Ap 0),.int .u64 (ow Ap 1),.int .u64 (ow Ap 2),.int .u64 (ow Ap 3)],.bool true,.bool true])∧Below w.heap.size w w':=by
 have hB0:=(Adk w.heap.size w).alloc (Adf _) (.cells #[.int .u64 0,.int .u64 0,.int .u64 0,.int .u64 0] 109);have hP0:=Blk.new w #[.int .u64 0,.int .u64 0,.int .u64 0,.int .u64 0] 109 w.heap.size rfl;go_enter Tryz.func150,Tryz.ntmps150;go_wp2_with fail;refine (Bj _ _).mono ?_;rintro e w1 ⟨rfl,b1⟩;replace hP0:=hP0.below b1 hP0.lt;replace hB0:=hB0.trans (b1.mono hB0.size);clear b1;go_wp2_with fail;refine (C8 95 (by decide) (by decide) _ _ (by simp)).mono ?_;rintro e w2 ⟨rfl,b2⟩;replace hP0:=hP0.below b2 hP0.lt;replace hB0:=hB0.trans (b2.mono hB0.size);clear b2;go_wp2_with fail;refine (D0 _ _ _).mono ?_;rintro e w3 ⟨rfl,b3⟩;replace hP0:=hP0.below b3 hP0.lt;replace hB0:=hB0.trans (b3.mono hB0.size);clear b3;generalize A4 (ByteArray.mk #[97,108,110,117,109]).data.toList ||| Dt [95]=t;go_wp2_with fail
 refine (Bj _ _).mono ?_;rintro e w4 ⟨rfl,b4⟩;replace hP0:=(hP0.alloc (.cells #[.int .u64 (ow t 0),.int .u64 (ow t 1),.int .u64 (ow t 2),.int .u64 (ow t 3)] 109)).below b4 (by have:=hP0.lt;simp;omega);replace hB0:=(hB0.alloc hB0.size (.cells #[.int .u64 (ow t 0),.int .u64 (ow t 1),.int .u64 (ow t 2),.int .u64 (ow t 3)] 109)).trans (b4.mono (by have:=hB0.size;simp;omega));clear b4;rw [show A4 (ByteArray.mk #[115,112,97,99,101]).data.toList=Ap from rfl];have g:=(((hP0.set 0 (.int .u64 (ow Ap 0))).set 1 (.int .u64 (ow Ap 1))).set 2 (.int .u64 (ow Ap 2))).set 3 (.int .u64 (ow Ap 3));have hBn:=(((hB0.setCell (p:=⟨w.heap.size,0,none⟩) (Adf _) (.int .u64 (ow Ap 0))).setCell (p:=⟨w.heap.size,1,none⟩) (Adf _) (.int .u64 (ow Ap 1))).setCell (p:=⟨w.heap.size,2,none⟩) (Adf _) (.int .u64 (ow Ap 2))).setCell (p:=⟨w.heap.size,3,none⟩) (Adf _) (.int .u64 (ow Ap 3));have p0:=(hP0.cell 0).trans rfl;have p1:=(hP0.cell 1).trans rfl;have p2:=(hP0.cell 2).trans rfl;have p3:=(hP0.cell 3).trans rfl;have z0:=hP0.frozen 0;have z1:=hP0.frozen 1;have z2:=hP0.frozen 2;have z3:=hP0.frozen 3;have hl:=hP0.lt;have HG:=Ac8 g;have HBn:=Ac8 hBn;clear g hBn hP0 hB0;go_wp2_with fail;have g:=HG.out;have hBn:=HBn.out;clear HG HBn p0 p1 p2 p3 z0 z1 z2 z3;generalize (((World.setCell _ _ _).setCell _ _).setCell _ _).setCell _ _=w9 at g hBn ⊢;have d0:=(g.cell 0).trans rfl;have d1:=(g.cell 1).trans rfl;have d2:=(g.cell 2).trans rfl;have d3:=(g.cell 3).trans rfl;exact bodyPost_ret (v:=.tuple #[.agg #[.int .u64 (ow Ap 0),.int .u64 (ow Ap 1),.int .u64 (ow Ap 2),.int .u64 (ow Ap 3)],.bool true,.bool true]) (by simp [results,Tryz.results150,go_sem,d0,d1,d2,d3]) rfl ⟨rfl,hBn⟩
theorem Aa8 (w:World):Calls Tryz.prog 150 #[.int .u8 83] w fun e w'=>e=.returned (.tuple #[.agg #[.int .u64 (ow (~~~Ap) 0),.int .u64 (ow (~~~Ap) 1),.int .u64 (ow (~~~Ap) 2),.int .u64 (ow (~~~Ap) 3)],.bool true,.bool true])∧Below w.heap.size w w':=by
 have hB0:=(Adk w.heap.size w).alloc (Adf _) (.cells #[.int .u64 0,.int .u64 0,.int .u64 0,.int .u64 0] 109);have hP0:=Blk.new w #[.int .u64 0,.int .u64 0,.int .u64 0,.int .u64 0] 109 w.heap.size rfl;go_enter Tryz.func150,Tryz.ntmps150;go_wp2_with fail;refine (Bj _ _).mono ?_;rintro e w1 ⟨rfl,b1⟩;replace hP0:=hP0.below b1 hP0.lt;replace hB0:=hB0.trans (b1.mono hB0.size);clear b1;go_wp2_with fail;refine (C8 95 (by decide) (by decide) _ _ (by simp)).mono ?_;rintro e w2 ⟨rfl,b2⟩;replace hP0:=hP0.below b2 hP0.lt;replace hB0:=hB0.trans (b2.mono hB0.size);clear b2;go_wp2_with fail;refine (D0 _ _ _).mono ?_;rintro e w3 ⟨rfl,b3⟩;replace hP0:=hP0.below b3 hP0.lt;replace hB0:=hB0.trans (b3.mono hB0.size);clear b3;generalize A4 (ByteArray.mk #[97,108,110,117,109]).data.toList ||| Dt [95]=t;go_wp2_with fail
 refine (Bj _ _).mono ?_;rintro e w4 ⟨rfl,b4⟩;replace hP0:=(hP0.alloc (.cells #[.int .u64 (ow t 0),.int .u64 (ow t 1),.int .u64 (ow t 2),.int .u64 (ow t 3)] 109)).below b4 (by have:=hP0.lt;simp;omega);replace hB0:=(hB0.alloc hB0.size (.cells #[.int .u64 (ow t 0),.int .u64 (ow t 1),.int .u64 (ow t 2),.int .u64 (ow t 3)] 109)).trans (b4.mono (by have:=hB0.size;simp;omega));clear b4;rw [show A4 (ByteArray.mk #[115,112,97,99,101]).data.toList=Ap from rfl];go_wp2_with fail
 refine (FR _ _).mono ?_;rintro e w5 ⟨rfl,b5⟩;replace hP0:=hP0.below b5 hP0.lt;replace hB0:=hB0.trans (b5.mono hB0.size);clear b5;have g:=(((hP0.set 0 (.int .u64 (ow (~~~Ap) 0))).set 1 (.int .u64 (ow (~~~Ap) 1))).set 2 (.int .u64 (ow (~~~Ap) 2))).set 3 (.int .u64 (ow (~~~Ap) 3));have hBn:=(((hB0.setCell (p:=⟨w.heap.size,0,none⟩) (Adf _) (.int .u64 (ow (~~~Ap) 0))).setCell (p:=⟨w.heap.size,1,none⟩) (Adf _) (.int .u64 (ow (~~~Ap) 1))).setCell (p:=⟨w.heap.size,2,none⟩) (Adf _) (.int .u64 (ow (~~~Ap) 2))).setCell (p:=⟨w.heap.size,3,none⟩) (Adf _) (.int .u64 (ow (~~~Ap) 3));have p0:=(hP0.cell 0).trans rfl;have p1:=(hP0.cell 1).trans rfl;have p2:=(hP0.cell 2).trans rfl;have p3:=(hP0.cell 3).trans rfl;have z0:=hP0.frozen 0;have z1:=hP0.frozen 1;have z2:=hP0.frozen 2;have z3:=hP0.frozen 3;have hl:=hP0.lt;have HG:=Ac8 g;have HBn:=Ac8 hBn;clear g hBn hP0 hB0;go_wp2_with fail;have g:=HG.out;have hBn:=HBn.out;clear HG HBn p0 p1 p2 p3 z0 z1 z2 z3;generalize (((World.setCell _ _ _).setCell _ _).setCell _ _).setCell _ _=w9 at g hBn ⊢;have d0:=(g.cell 0).trans rfl;have d1:=(g.cell 1).trans rfl;have d2:=(g.cell 2).trans rfl;have d3:=(g.cell 3).trans rfl;exact bodyPost_ret (v:=.tuple #[.agg #[.int .u64 (ow (~~~Ap) 0),.int .u64 (ow (~~~Ap) 1),.int .u64 (ow (~~~Ap) 2),.int .u64 (ow (~~~Ap) 3)],.bool true,.bool true]) (by simp [results,Tryz.results150,go_sem,d0,d1,d2,d3]) rfl ⟨rfl,hBn⟩
theorem Y6 (c:Nat) (w:World) (hc:c < 256) (h1:c≠110) (h2:c≠116) (h3:c≠119) (h4:c≠87) (h5:c≠115) (h6:c≠83) (hp:ohas DY c=true):Calls Tryz.prog 150 #[.int .u8 (c:Int)] w fun e w'=>e=.returned (.tuple #[.agg #[.int .u64 (ow (Ab c c) 0),.int .u64 (ow (Ab c c) 1),.int .u64 (ow (Ab c c) 2),.int .u64 (ow (Ab c c) 3)],.bool false,.bool true])∧Below w.heap.size w w':=by
 have e110:((c:Int) == 110)=false:=by simp;omega
 have e116:((c:Int) == 116)=false:=by simp;omega
 have e119:((c:Int) == 119)=false:=by simp;omega
 have e87:((c:Int) == 87)=false:=by simp;omega
 have e115:((c:Int) == 115)=false:=by simp;omega
 have e83:((c:Int) == 83)=false:=by simp;omega
 have hc0:(0:Int)≤(c:Int):=by omega
 have hc1:(c:Int)≤255:=by omega
 clear h1 h2 h3 h4 h5 h6;have hB0:=(Adk w.heap.size w).alloc (Adf _) (.cells #[.int .u64 0,.int .u64 0,.int .u64 0,.int .u64 0] 109);have hP0:=Blk.new w #[.int .u64 0,.int .u64 0,.int .u64 0,.int .u64 0] 109 w.heap.size rfl;go_enter Tryz.func150,Tryz.ntmps150;go_wp2_with fail;refine (Bj _ _).mono ?_;rintro e w1 ⟨rfl,b1⟩;replace hP0:=hP0.below b1 hP0.lt;replace hB0:=hB0.trans (b1.mono hB0.size);clear b1;go_wp2_with fail;refine (C8 95 (by decide) (by decide) _ _ (by simp)).mono ?_;rintro e w2 ⟨rfl,b2⟩;replace hP0:=hP0.below b2 hP0.lt;replace hB0:=hB0.trans (b2.mono hB0.size);clear b2;go_wp2_with fail;refine (D0 _ _ _).mono ?_;rintro e w3 ⟨rfl,b3⟩;replace hP0:=hP0.below b3 hP0.lt;replace hB0:=hB0.trans (b3.mono hB0.size);clear b3;generalize A4 (ByteArray.mk #[97,108,110,117,109]).data.toList ||| Dt [95]=t;go_wp2_with fail
 refine (Bj _ _).mono ?_;rintro e w4 ⟨rfl,b4⟩;replace hP0:=(hP0.alloc (.cells #[.int .u64 (ow t 0),.int .u64 (ow t 1),.int .u64 (ow t 2),.int .u64 (ow t 3)] 109)).below b4 (by have:=hP0.lt;simp;omega);replace hB0:=(hB0.alloc hB0.size (.cells #[.int .u64 (ow t 0),.int .u64 (ow t 1),.int .u64 (ow t 2),.int .u64 (ow t 3)] 109)).trans (b4.mono (by have:=hB0.size;simp;omega));clear b4;rw [show A4 (ByteArray.mk #[112,117,110,99,116]).data.toList=DY from rfl];go_wp2_with fail
 refine (QR _ _ hc0 hc1 _).mono ?_;rintro e w5 ⟨rfl,b5⟩;replace hP0:=hP0.below b5 hP0.lt;replace hB0:=hB0.trans (b5.mono hB0.size);clear b5;rw [show ohas DY ((c:Int)).toNat=true from hp];go_wp2_with fail
 refine (C8 (c:Int) hc0 hc1 _ _ (by simp)).mono ?_;rintro e w6 ⟨rfl,b6⟩;replace hP0:=hP0.below b6 hP0.lt;replace hB0:=hB0.trans (b6.mono hB0.size);clear b6;rw [show Dt [(c:Int)]=Ab c c from DE c];have g:=(((hP0.set 0 (.int .u64 (ow (Ab c c) 0))).set 1 (.int .u64 (ow (Ab c c) 1))).set 2 (.int .u64 (ow (Ab c c) 2))).set 3 (.int .u64 (ow (Ab c c) 3));have hBn:=(((hB0.setCell (p:=⟨w.heap.size,0,none⟩) (Adf _) (.int .u64 (ow (Ab c c) 0))).setCell (p:=⟨w.heap.size,1,none⟩) (Adf _) (.int .u64 (ow (Ab c c) 1))).setCell (p:=⟨w.heap.size,2,none⟩) (Adf _) (.int .u64 (ow (Ab c c) 2))).setCell (p:=⟨w.heap.size,3,none⟩) (Adf _) (.int .u64 (ow (Ab c c) 3));have p0:=(hP0.cell 0).trans rfl;have p1:=(hP0.cell 1).trans rfl;have p2:=(hP0.cell 2).trans rfl;have p3:=(hP0.cell 3).trans rfl;have z0:=hP0.frozen 0;have z1:=hP0.frozen 1;have z2:=hP0.frozen 2;have z3:=hP0.frozen 3;have hl:=hP0.lt;have HG:=Ac8 g;have HBn:=Ac8 hBn;clear g hBn hP0 hB0;go_wp2_with fail;have g:=HG.out;have hBn:=HBn.out;clear HG HBn p0 p1 p2 p3 z0 z1 z2 z3;generalize (((World.setCell _ _ _).setCell _ _).setCell _ _).setCell _ _=w9 at g hBn ⊢;have d0:=(g.cell 0).trans rfl;have d1:=(g.cell 1).trans rfl;have d2:=(g.cell 2).trans rfl;have d3:=(g.cell 3).trans rfl;exact bodyPost_ret (v:=.tuple #[.agg #[.int .u64 (ow (Ab c c) 0),.int .u64 (ow (Ab c c) 1),.int .u64 (ow (Ab c c) 2),.int .u64 (ow (Ab c c) 3)],.bool false,.bool true]) (by simp [results,Tryz.results150,go_sem,d0,d1,d2,d3]) rfl ⟨rfl,hBn⟩
theorem Aa9 (c:Nat) (w:World) (hc:c < 256) (h1:c≠110) (h2:c≠116) (h3:c≠119) (h4:c≠87) (h5:c≠115) (h6:c≠83) (hp:ohas DY c=false):Calls Tryz.prog 150 #[.int .u8 (c:Int)] w fun e w'=>e=.returned (.tuple #[.agg #[.int .u64 0,.int .u64 0,.int .u64 0,.int .u64 0],.bool false,.bool false])∧Below w.heap.size w w':=by
 have e110:((c:Int) == 110)=false:=by simp;omega
 have e116:((c:Int) == 116)=false:=by simp;omega
 have e119:((c:Int) == 119)=false:=by simp;omega
 have e87:((c:Int) == 87)=false:=by simp;omega
 have e115:((c:Int) == 115)=false:=by simp;omega
 have e83:((c:Int) == 83)=false:=by simp;omega
 have hc0:(0:Int)≤(c:Int):=by omega
 have hc1:(c:Int)≤255:=by omega
 clear h1 h2 h3 h4 h5 h6;have hB0:=(Adk w.heap.size w).alloc (Adf _) (.cells #[.int .u64 0,.int .u64 0,.int .u64 0,.int .u64 0] 109);have hP0:=Blk.new w #[.int .u64 0,.int .u64 0,.int .u64 0,.int .u64 0] 109 w.heap.size rfl;go_enter Tryz.func150,Tryz.ntmps150;go_wp2_with fail;refine (Bj _ _).mono ?_;rintro e w1 ⟨rfl,b1⟩;replace hP0:=hP0.below b1 hP0.lt;replace hB0:=hB0.trans (b1.mono hB0.size);clear b1;go_wp2_with fail;refine (C8 95 (by decide) (by decide) _ _ (by simp)).mono ?_;rintro e w2 ⟨rfl,b2⟩;replace hP0:=hP0.below b2 hP0.lt;replace hB0:=hB0.trans (b2.mono hB0.size);clear b2;go_wp2_with fail;refine (D0 _ _ _).mono ?_;rintro e w3 ⟨rfl,b3⟩;replace hP0:=hP0.below b3 hP0.lt;replace hB0:=hB0.trans (b3.mono hB0.size);clear b3;generalize A4 (ByteArray.mk #[97,108,110,117,109]).data.toList ||| Dt [95]=t;go_wp2_with fail
 refine (Bj _ _).mono ?_;rintro e w4 ⟨rfl,b4⟩;replace hP0:=(hP0.alloc (.cells #[.int .u64 (ow t 0),.int .u64 (ow t 1),.int .u64 (ow t 2),.int .u64 (ow t 3)] 109)).below b4 (by have:=hP0.lt;simp;omega);replace hB0:=(hB0.alloc hB0.size (.cells #[.int .u64 (ow t 0),.int .u64 (ow t 1),.int .u64 (ow t 2),.int .u64 (ow t 3)] 109)).trans (b4.mono (by have:=hB0.size;simp;omega));clear b4;rw [show A4 (ByteArray.mk #[112,117,110,99,116]).data.toList=DY from rfl];go_wp2_with fail
 refine (QR _ _ hc0 hc1 _).mono ?_;rintro e w5 ⟨rfl,b5⟩;replace hP0:=hP0.below b5 hP0.lt;replace hB0:=hB0.trans (b5.mono hB0.size);clear b5;rw [show ohas DY ((c:Int)).toNat=false from hp];have g:=(((hP0.set 0 (.int .u64 0)).set 1 (.int .u64 0)).set 2 (.int .u64 0)).set 3 (.int .u64 0);have hBn:=(((hB0.setCell (p:=⟨w.heap.size,0,none⟩) (Adf _) (.int .u64 0)).setCell (p:=⟨w.heap.size,1,none⟩) (Adf _) (.int .u64 0)).setCell (p:=⟨w.heap.size,2,none⟩) (Adf _) (.int .u64 0)).setCell (p:=⟨w.heap.size,3,none⟩) (Adf _) (.int .u64 0);have p0:=(hP0.cell 0).trans rfl;have p1:=(hP0.cell 1).trans rfl;have p2:=(hP0.cell 2).trans rfl;have p3:=(hP0.cell 3).trans rfl;have z0:=hP0.frozen 0;have z1:=hP0.frozen 1;have z2:=hP0.frozen 2;have z3:=hP0.frozen 3;have hl:=hP0.lt;have HG:=Ac8 g;have HBn:=Ac8 hBn;clear g hBn hP0 hB0;go_wp2_with fail;have g:=HG.out;have hBn:=HBn.out;clear HG HBn p0 p1 p2 p3 z0 z1 z2 z3;generalize (((World.setCell _ _ _).setCell _ _).setCell _ _).setCell _ _=w9 at g hBn ⊢;have d0:=(g.cell 0).trans rfl;have d1:=(g.cell 1).trans rfl;have d2:=(g.cell 2).trans rfl;have d3:=(g.cell 3).trans rfl;exact bodyPost_ret (v:=.tuple #[.agg #[.int .u64 0,.int .u64 0,.int .u64 0,.int .u64 0],.bool false,.bool false]) (by simp [results,Tryz.results150,go_sem,d0,d1,d2,d3]) rfl ⟨rfl,hBn⟩
def P9 (r:Option (OSet × Bool)):Value:=match r with
 | some q=>.tuple #[.agg #[.int .u64 (ow q.1 0),.int .u64 (ow q.1 1),.int .u64 (ow q.1 2),.int .u64 (ow q.1 3)],.bool q.2,.bool true]
 | none=>.tuple #[.agg #[.int .u64 0,.int .u64 0,.int .u64 0,.int .u64 0],.bool false,.bool false]
theorem Ga (c:Nat) (hc:c < 256) (w:World):Calls Tryz.prog 150 #[.int .u8 (c:Int)] w fun e w'=>e=.returned (P9 (C9 c))∧Below w.heap.size w w':=by
 unfold C9;split
 ·rename_i h;subst h;exact Y1 w
 split
 ·rename_i h;subst h;exact Y2 w
 split
 ·rename_i h;subst h;exact Y4 w
 split
 ·rename_i h;subst h;exact Aa7 w
 split
 ·rename_i h;subst h;exact Y5 w
 split
 ·rename_i h;subst h;exact Aa8 w
 split
 ·rename_i h1 h2 h3 h4 h5 h6 h7;exact Y6 c w hc h1 h2 h3 h4 h5 h6 h7
 ·rename_i h1 h2 h3 h4 h5 h6 h7;exact Aa9 c w hc h1 h2 h3 h4 h5 h6 (by simpa using h7)
end
end Go.Proofs.YteilldmmihiijaaGreatDoor
