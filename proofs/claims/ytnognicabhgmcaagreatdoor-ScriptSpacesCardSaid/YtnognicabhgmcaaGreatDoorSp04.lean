/- Texts. -/
import Derived.Test.YtnognicabhgmcaaGreatDoorSp03
import Derived.Deep.CutBlock
import Derived.Laws.Cover4
import Derived.Maps.OwnSet
import Derived.Maps.OwnOps
import Derived.Maps.Views
import Derived.StillTailTactics
set_option linter.unusedSimpArgs false
set_option linter.unusedVariables false
set_option maxHeartbeats 8000000
set_option maxRecDepth 1000000
namespace Go.Proofs.YtnognicabhgmcaaGreatDoor
open Go.Lib renaming hid→Afj
open List renaming getElem_cons_zero→Afl,length_append→Afs,mem_cons→Afz,getElem_append_left→Af0,mem_append→Af1,length_drop→Af3,getElem?_eq_getElem→Af4,getD_eq_getElem?_getD→Af7,mem_append_right→Af8
open Nat renaming le_refl→Afq,le_trans→Afr,lt_of_lt_of_le→Aft,le_of_lt→Afu
open Go.RowKit.Below renaming refl→Afv,heap_setCell→Afw,drew→Agb,alloc→Agc
open Go.IntWalk renaming i64_in→Afx
open Go.World renaming cell?_of_block→Afy
open Bool renaming false_eq_true→Af2,and_eq_true→Af9
open _root_.Array renaming getElem?_eq_some_iff→Af6
open Go.Proofs.Tryz
section
open Go Go.RowKit
theorem TX:∃ i,Tryz.prog.info? 21=some i∧i.zero=some (.int .i32 0)∧i.size=1∧i.bytes=4:=by
 have h:(Tryz.prog.info? 21).map (fun i=>(i.zero,i.size,i.bytes))=some (some (.int .i32 0),1,4):=by kernel_rfl
 obtain ⟨i,hi,he⟩:=Option.map_eq_some_iff.1 h;injection he with h1 h2;injection h2 with h2 h3;exact ⟨i,hi,h1,h2,h3⟩
def Gz (l:List UInt8):List Value:=l.map fun b=>.int .i32 (b.toNat:Int)
theorem LF (l:List UInt8):(Gz l).length=l.length:=by simp [Gz]
theorem WY (l:List UInt8) (k:Nat) (h:k < l.length):txt (Ar l)=txt (Ar (l.take k)++(Dw l[k]++Ar (l.drop (k+1)))):=by
 conv=>lhs;rw [←List.take_append_drop k l,←List.getElem_cons_drop (by omega:k < l.length)]
 congr 1
 unfold Ar;rw [List.flatMap_append,List.flatMap_cons]
theorem TY (l:List UInt8) (k:Nat) (h:k < l.length):Ar (l.take (k+1))=Ar (l.take k)++Dw l[k]:=by
 rw [List.take_succ_eq_append_getElem h,J6]
theorem TZ (l:List UInt8) (k:Nat):(Ar (l.take k)).length≤(Ar l).length:=by
 have h:=congrArg (fun x=>(Ar x).length) (List.take_append_drop k l);simp only [Ar,List.flatMap_append,Afs] at h;unfold Ar;omega
theorem Ua (s:ByteArray) (w:World) (hs:s.size≤250) :
  Calls prog 114 #[.string s] w fun e w'=>∃ v,e=.returned v∧w'.ownsRow w.heap.size 21 1 v s.size (Gz s.data.toList)∧Below w.heap.size w w':=by
 obtain ⟨i0,hi,hz0,hz1,hz2⟩:=TX;have hL:s.data.toList.length=s.size:=by simp
 obtain ⟨L,hLe⟩:∃ L,L=s.data.toList:=⟨_,rfl⟩;rw [←hLe] at hL ⊢;have hwd:=WU s w (by omega);rw [←hLe] at hwd;have HL:=Afj hL;have HS:=Afj hs;clear hL hs hLe;go_enter func114,ntmps114;go_wp2_with fail
 refine hwd.mono ?_;rintro e w1 ⟨rfl,hW⟩;have hW1:=hW.size;have hB0:Below w.heap.size w (w1.alloc (.stringIter (txt (Ar L)) 0)):=hW.alloc hW1 _;have hI0:(w1.alloc (.stringIter (txt (Ar L)) 0)).heap[w1.heap.size]?=some (.stringIter (txt (Ar L)) 0):=World.iter_heap w1 (txt (Ar L)) 0;have HT:=Afj (show (txt (Ar L)).size=(Ar L).length by rw [←C7]);clear hwd;go_wp2_with fail
 go_loopw [3] (fun sv wr=>∃ (k:Nat) (v:Value),k≤L.length∧v=sv∧wr.ownsRow w.heap.size 21 1 v k (Gz (L.take k))∧v.ownBlock≠some w1.heap.size∧wr.heap[w1.heap.size]?=some (.stringIter (txt (Ar L)) (Ar (L.take k)).length)∧Below w.heap.size w wr) (fun _ wr=>(Ar L).length - wr.iterPos w1.heap.size)
 case atStart=>exact ⟨0,_,Nat.zero_le _,rfl,World.ownsRow_nil _ _ _ _,by simp [Value.ownBlock],hI0,hB0⟩
 case round=>
  obtain ⟨k,v,hk,hv,hown,hne,hit,hbw⟩:=hrel;subst hv;have hsz:w1.heap.size < wr.heap.size:=(Af6.1 hit).1;have hl250:L.length≤250:=by rw [HL.out];exact HS.out
  by_cases hlt:k < L.length
  ·have hw1:=Lh L[k];have hwt:=TY L k hlt;have hwm:=TZ L (k+1);have hpos:(Ar (L.take k)).length < (txt (Ar L)).size:=by
    rw [HT.out];rw [hwt,Afs] at hwm;omega
   have hdec:Utf8.decode (txt (Ar L)) (Ar (L.take k)).length=(L[k].toNat,(Dw L[k]).length):=by
    rw [WY L k hlt];exact N4 (L.take k) L[k] (L.drop (k+1))
   have hnx:∀ ty,(Instr.next (.pointer (some ⟨w1.heap.size,0,none⟩)) true ty).run prog wr=_:=fun ty=>Lib.run_next_any_at wr w1.heap.size (txt (Ar L)) (Ar (L.take k)).length ty hit hpos
   rw [hdec] at hnx;simp only at hnx;have hne2:(Ar (L.take k)).length+(Dw L[k]).length=(Ar (L.take (k+1))).length:=by rw [hwt,Afs]
   rw [hne2] at hnx;have hit2:=Lib.iterAt_heap wr w1.heap.size (txt (Ar L)) _ (Ar (L.take (k+1))).length hit;have hbw2:=Lib.below_iterAt hbw (k:=w1.heap.size) hW1 (txt (Ar L)) (Ar (L.take (k+1))).length;have hsz2:w.heap.size≤(wr.iterAt w1.heap.size (txt (Ar L)) (Ar (L.take (k+1))).length).heap.size:=by rw [Lib.iterAt_size];omega
   have hown2:(wr.iterAt w1.heap.size (txt (Ar L)) (Ar (L.take (k+1))).length).ownsRow w.heap.size 21 1 v k (Gz (L.take k)):=Ab hown (fun g hg=>Lib.iterAt_other _ _ _ _ _ (fun e=>hne (by rw [hg,e])));have Hsn:=Afj (show Gz (L.take (k+1))=Gz (L.take k)++[.int .i32 (L[k].toNat:Int)] by unfold Gz;rw [List.take_succ_eq_append_getElem hlt,List.map_append];rfl);have Hm:=Afj (show (Ar L).length - (Ar (L.take (k+1))).length < (Ar L).length - (Ar (L.take k)).length by rw [hwt,Afs] at hwm ⊢;omega);have hpre:(wr.iterAt w1.heap.size (txt (Ar L)) (Ar (L.take (k+1))).length).heap.size=wr.heap.size:=Lib.iterAt_size _ _ _ _;have Hit:=Afj hit;clear hit hown hbw hwt hwm hw1 hdec hne2 hpos;generalize (L[k].toNat:Int)=z at *;generalize wr.iterAt w1.heap.size (txt (Ar L)) (Ar (L.take (k+1))).length=wq at *;have hnw:∀ j u,[Value.int .i32 z][j]?=some u→(wq.alloc (.cells #[.int .i32 z] 21)).cell? ((⟨wq.heap.size,0,none⟩:Addr).add j)=some u:=by
    intro j u hu
    match j,hu with
    | 0,hu=>simp at hu;subst hu;simp [Addr.add]
   have hbA:=hbw2.alloc hsz2 (.cells #[.int .i32 z] 21);have hitA:(wq.alloc (.cells #[.int .i32 z] 21)).heap[w1.heap.size]?=some (.stringIter (txt (Ar L)) (Ar (L.take (k+1))).length):=(((Afv wq.heap.size wq).alloc (Afq _) _).block w1.heap.size (by omega)).trans hit2;have hownA:=hown2.alloc (.cells #[.int .i32 z] 21);have Hlow:=Afj (Bp hown2);have Hpre:=Afj hpre;have hsz3:w1.heap.size < wq.heap.size:=by omega
   clear hpre;go_wp2_with (at_builtin;refine Ag _ rfl _ _ 203 rfl w.heap.size 21 i0 (.int .i32 0) 1 4 underlying203 hi hz0 hz1 hz2 rfl (by decide) _ _ _ rfl hownA (some ⟨wq.heap.size,0,none⟩) 1 1 [.int .i32 z] rfl rfl (fun _=>⟨_,rfl,hnw⟩) (by intro y hy;simp at hy;subst hy;rfl) (by unfold maxLen;omega) (by omega) (by simp;omega) ?_;intro v3 w3 hown3 hgrow hat)
   have hb3:=hbA.grown hgrow hbA.size Hlow.out;have hit3:w3.heap[w1.heap.size]?=some (.stringIter (txt (Ar L)) (Ar (L.take (k+1))).length):=(hgrow.block w1.heap.size (by simp;omega) (fun e=>hne e.symm)).trans hitA;have hne3:v3.ownBlock≠some w1.heap.size:=by
    rcases hat with h | h
    ·rw [h];exact hne
    ·rw [h];intro e;injection e with e;simp at e;omega
   go_wp2_with fail
   go_roundw
   case rel=>exact ⟨k+1,v3,by omega,rfl,by rw [Hsn.out];exact hown3,hne3,hit3,hb3⟩
   case measure=>
    simp only [World.iterPos,hit3,Hit.out];exact Hm.out
  ·obtain rfl:k=L.length:=by omega
   rw [List.take_length] at hown hit;have hnp:¬ (Ar L).length < (txt (Ar L)).size:=by rw [HT.out];omega
   have hnx:∀ ty,(Instr.next (.pointer (some ⟨w1.heap.size,0,none⟩)) true ty).run prog wr=_:=fun ty=>Lib.run_next_end_at wr w1.heap.size (txt (Ar L)) _ ty hit hnp
   have HO:=Afj hown;have HN:=Afj HL.out;clear hown;go_wp2_with fail
   go_ret;exact ⟨v,rfl,by rw [←HN.out];exact HO.out,hbw⟩
def ownB (v:Value):List Nat:=match v.ownBlock with | some b=>[b] | none=>[]
theorem AX {v:Value} {b:Nat}:b∈ownB v ↔ v.ownBlock=some b:=by
 unfold ownB;cases h:v.ownBlock with
 | none=>simp
 | some g=>simp [eq_comm]
def NR (lo:Nat) (own:List Nat) (w:World) (l:List Nd) (v:Value):Prop:=
 ∃ us:List Value,us.length=l.length∧w.ownsRow lo 45 1 v l.length us∧(∀ i (h:i < l.length) (h2:i < us.length),NdX (fun b=>lo≤b∧b ∉ own) w l[i] us[i])∧∀ u∈us,u.oneCell'=true
theorem NR.nil (lo:Nat) (own:List Nat) (w:World):NR lo own w [] (.slice none 0 0):=⟨[],rfl,World.ownsRow_nil _ _ _ _,fun i h=>absurd h (by simp),fun u h=>absurd h (by simp)⟩
theorem NR.keep {lo:Nat} {own own':List Nat} {w w':World} {l:List Nd} {v:Value} (h:NR lo own w l v) (hs:w.heap.size≤w'.heap.size) (hv:∀ g,v.ownBlock=some g→w'.heap[g]?=w.heap[g]?)
  (hk:∀ b,b < w.heap.size→b ∉ own→w'.heap[b]?=w.heap[b]?∧b ∉ own'):NR lo own' w' l v:=by
 obtain ⟨us,h1,h2,h3,h4⟩:=h;exact ⟨us,h1,Ab h2 hv,fun i hi hi2=>(h3 i hi hi2).keep hs (fun b hb hlt=>⟨⟨hb.1,(hk b hlt hb.2).2⟩,fun o=>Afy (w:=w) (a:=⟨b,o,none⟩) (hk b hlt hb.2).1⟩),h4⟩
theorem NR.lt {lo:Nat} {own:List Nat} {w:World} {l:List Nd} {v:Value} (h:NR lo own w l v):∀ g,v.ownBlock=some g→lo≤g∧g < w.heap.size:=by
 obtain ⟨us,h1,h2,h3,h4⟩:=h;exact h2.lt
structure Touch (p:Nat) (v:Value) (w w':World):Prop where
 os:w'.os=w.os
 tape:w'.tape=w.tape
 output:w'.output=w.output
 size:w.heap.size≤w'.heap.size
 block:∀ b,b < w.heap.size→b≠p→v.ownBlock≠some b→w'.heap[b]?=w.heap[b]?
theorem Touch.refl (p:Nat) (v:Value) (w:World):Touch p v w w:=⟨rfl,rfl,rfl,Afq _,fun _ _ _ _=>rfl⟩
theorem Ea {w w':World} {b:Nat} {cs:Array Value} {T:TypeId} {r:Option Nat} (h:Blk w b cs T) (hg:w.grownBy w' r) (hr:r≠some b):Blk w' b cs T:=by
 have hlt:=h.lt;unfold Blk at h ⊢;rw [hg.block b hlt (fun e=>hr e.symm)];exact h
theorem Bg {w:World} {B:Nat} {e:TypeId} {size n:Nat} {v:Value} {us:List Value} (h:w.ownsRow B e size v n us):∃ a c,v=.slice a n c:=by
 rcases h.2 with ⟨rfl,h0⟩ | ⟨g,cap,cur,rfl,_⟩
 ·exact ⟨none,0,by rw [h0]⟩
 ·exact ⟨_,_,rfl⟩
abbrev EC (c0 c1 c2 c3 c4 c5 bv pv c8 c9 c10:Value):Array Value:=#[c0,c1,c2,c3,c4,c5,bv,pv,c8,c9,c10]
theorem OD (lo p:Nat) (own:List Nat) (c0 c1 c2 c3 c4 c5 bv pv c8 c9 c10:Value) (l:List Nd) (d:Nd) (u:Value) (w:World) (hlo:lo≤p) (hb:Blk w p (EC c0 c1 c2 c3 c4 c5 bv pv c8 c9 c10) 210) (hr:NR lo own w l pv) (hp:pv.ownBlock≠some p) (hpo:p∈own) (hin:∀ g,pv.ownBlock=some g→g∈own) (hu:NdX (fun b=>lo≤b∧b ∉ own) w d u) (hu1:u.oneCell'=true) (hl:l.length≤1000) :
  Calls prog 131 #[.pointer (some ⟨p,4,none⟩),u] w fun e w'=>∃ pv',e=.returned (.tuple #[])∧NR lo (ownB pv'++own) w' (l++[d]) pv'∧Blk w' p (EC c0 c1 c2 c3 c4 c5 bv pv' c8 c9 c10) 210∧Touch p pv w w'∧(pv'.ownBlock=pv.ownBlock∨∃ g,w.heap.size≤g∧pv'.ownBlock=some g):=by
 obtain ⟨i0,hi,hz0,hz1,hz2⟩:=DZ;obtain ⟨us,h1,h2,h3,h4⟩:=hr;have hplt:=hb.lt;have k7:w.cell? ⟨p,7,none⟩=some pv:=(hb.cell 7).trans rfl;have hlow:=fun g hg=>(h2.lt g hg)
 have hA:=(Afv w.heap.size w).alloc (Afq _) (.cells #[u] 45);have h2A:=h2.alloc (.cells #[u] 45);have hsh:(∃ T q,u=.iface T q)∨u=.nilIface:=hu.elim fun _ h=>Ay h
 have hnw:∀ j x,[u][j]?=some x→(w.alloc (.cells #[u] 45)).cell? ((⟨w.heap.size,0,none⟩:Addr).add j)=some x:=by
  intro j x hx
  match j,hx with
  | 0,hx=>simp at hx;subst hx;simp [Addr.add]
 have Hb:=Afj hb;have H3:=Afj h3;have H4:=Afj h4;have Hu:=Afj hu;have Hin:=Afj hin;have Hlow:=Afj hlow;have H1:=Afj h1;clear hb h3 h4 hu hin hlow h1;have hm1:l.length+1≤maxLen:=by unfold maxLen;omega
 have hm2:(l.length+1) * 16≤140737488355328:=by omega
 have hlw:lo≤w.heap.size:=Afr hlo (Afu hplt);rcases hsh with ⟨T1,q1,rfl⟩ | rfl
 all_goals
  go_enter func131,ntmps131;go_wp2_with (at_builtin;refine Ag _ rfl _ _ 83 rfl lo 45 i0 .nilIface 1 16 underlying83 hi hz0 hz1 hz2 rfl (by decide) pv l.length us rfl h2A (some ⟨w.heap.size,0,none⟩) 1 1 [_] rfl rfl (fun _=>⟨_,rfl,hnw⟩) (by intro y hy;simp at hy;subst hy;exact hu1) hm1 hm2 (by simp;omega) ?_;intro v6 w6 hown6 hgrow6 hat6;obtain ⟨a6,c6,rfl⟩:=Bg hown6;have hB6:Blk w6 p (EC c0 c1 c2 c3 c4 c5 bv pv c8 c9 c10) 210:=Ea (Hb.out.alloc _) hgrow6 hp;have z7:=hB6.frozen 7;have k76:w6.cell? ⟨p,7,none⟩=some pv:=(hB6.cell 7).trans rfl)
  have hB7:=hB6.set 7 (.slice a6 (l.length+1) c6);have hown7:(w6.setCell ⟨p,7,none⟩ (.slice a6 (l.length+1) c6)).ownsRow lo 45 1 (.slice a6 (l.length+1) c6) (l.length+1) (us++[_]):=Ab hown6 (fun g hg=>Afw _ _ _ _ (fun e=>by
   rcases hat6 with h | h
   ·exact hp (by rw [←h,hg,e])
   ·rw [h] at hg;injection hg with hg;simp at hg;simp only at e;omega))
  have hT:Touch p pv w (w6.setCell ⟨p,7,none⟩ (.slice a6 (l.length+1) c6)):=⟨hgrow6.os,hgrow6.tape,hgrow6.output,Afr hA.size (Afr hgrow6.size (by simp [World.setCell])),fun b hb h1 h2=>by
   rw [Afw _ _ _ _ (fun e=>h1 e),hgrow6.block b (Aft hb hA.size) (fun e=>h2 e.symm),hA.block b hb]⟩
  have hnew:(Value.slice a6 (l.length+1) c6).ownBlock=pv.ownBlock∨∃ g,w.heap.size≤g∧(Value.slice a6 (l.length+1) c6).ownBlock=some g:=by
   rcases hat6 with h | h
   ·exact .inl h
   ·exact .inr ⟨_,by simp,h⟩
  have hk:∀ b,b < w.heap.size→b ∉ own→(w6.setCell ⟨p,7,none⟩ (.slice a6 (l.length+1) c6)).heap[b]?=w.heap[b]?∧b ∉ ownB (.slice a6 (l.length+1) c6)++own:=fun b hb hbo=>by
   have hbp:b≠p:=fun e=>hbo (e▸hpo)
   have hbv:pv.ownBlock≠some b:=fun e=>hbo (Hin.out b e)
   refine ⟨hT.block b hb hbp hbv,?_⟩;rw [Af1,not_or];refine ⟨fun h=>?_,hbo⟩;rw [AX] at h;rcases hnew with h2 | ⟨g,hg,h2⟩
   ·exact hbv (h2.symm.trans h)
   ·rw [h2] at h;injection h with h;omega
  go_wp2_with fail
  go_end0;refine ⟨.slice a6 (l.length+1) c6,rfl,⟨us++[_],?_,by rw [Afs];exact hown7,?_,?_⟩,hB7,hT,hnew⟩
  ·rw [Afs,Afs,H1.out];rfl
  ·intro i h1 h2;by_cases hlt:i < l.length
   ·rw [Af0 hlt,Af0 (by rw [H1.out];exact hlt)];exact (H3.out i hlt (by rw [H1.out];exact hlt)).keep hT.size (fun b hb hl=>⟨⟨hb.1,(hk b hl hb.2).2⟩,fun o=>Afy (w:=w) (a:=⟨b,o,none⟩) (hk b hl hb.2).1⟩)
   ·have hi:i=l.length:=by rw [Afs] at h1;simp at h1;omega
    subst hi;rw [List.getElem_append_right (Afq _),List.getElem_append_right (by have:=H1.out;omega)];simp only [H1.out,Nat.sub_self,Afl];exact Hu.out.keep hT.size (fun b hb hl=>⟨⟨hb.1,(hk b hl hb.2).2⟩,fun o=>Afy (w:=w) (a:=⟨b,o,none⟩) (hk b hl hb.2).1⟩)
  ·intro x hx;rcases Af1.1 hx with h | h
   ·exact H4.out x h
   ·simp at h;subst h;exact hu1
theorem QE {B:Nat} {w w':World} (h:Below B w w') (n:Nat):Below B w (w'.drewN n):=⟨h.os,h.tape,h.output,h.size,h.block⟩
theorem NR.last {lo:Nat} {own:List Nat} {w:World} {l:List Nd} {v:Value} (h:NR lo own w l v) (h0:0 < l.length):∃ g c u,v=.slice (some ⟨g,0,none⟩) l.length c∧l.length≤c∧g < w.heap.size∧w.cell? ⟨g,l.length - 1,none⟩=some u∧NdX (fun b=>lo≤b∧b ∉ own) w (l.getLastD .empty) u:=by
 obtain ⟨us,h1,h2,h3,h4⟩:=h;obtain ⟨a,cap,rfl,hc,_,hx⟩:=Gk h2 h1;obtain ⟨g,rfl,_,hg,hcell⟩:=hx h0;refine ⟨g,cap,us[l.length - 1]'(by omega),rfl,hc,hg,?_,?_⟩
 ·have:=hcell (l.length - 1) (by omega)
  rwa [Nat.zero_add] at this
 ·have:=h3 (l.length - 1) (by omega) (by omega);rw [List.getLastD_eq_getLast?,List.getLast?_eq_getElem?,Af4 (by omega),Option.getD_some];exact this
theorem S2 {α:Type} (l:List α) (h:0 < l.length):∃ i x,l=i++[x]:=⟨l.dropLast,l.getLast (by intro e;rw [e] at h;simp at h),(List.dropLast_concat_getLast _).symm⟩
theorem NR.put {lo g c:Nat} {own:List Nat} {w:World} {l:List Nd} {d:Nd} {x:Value} (h:NR lo own w l (.slice (some ⟨g,0,none⟩) l.length c)) (h0:0 < l.length) (hg:g∈own) (hx:NdX (fun b=>lo≤b∧b ∉ own) w d x) (hx1:x.oneCell'=true) :
  NR lo own (w.setCell ⟨g,l.length - 1,none⟩ x) (l.dropLast++[d]) (.slice (some ⟨g,0,none⟩) l.length c):=by
 obtain ⟨us,h1,h2,h3,h4⟩:=h;obtain ⟨li,dl,rfl⟩:=S2 l h0;obtain ⟨ui,y,rfl⟩:=S2 us (by omega);have hlen:ui.length=li.length:=by simpa using h1
 have hk:∀ b,b ∉ own→(w.setCell ⟨g,(li++[dl]).length - 1,none⟩ x).heap[b]?=w.heap[b]?:=fun b hb=>Afw _ _ _ _ (fun e=>hb (by rw [e];exact hg))
 have hsz:w.heap.size≤(w.setCell ⟨g,(li++[dl]).length - 1,none⟩ x).heap.size:=by simp [World.setCell]
 have hkeep:∀ d' u,NdX (fun b=>lo≤b∧b ∉ own) w d' u→NdX (fun b=>lo≤b∧b ∉ own) (w.setCell ⟨g,(li++[dl]).length - 1,none⟩ x) d' u:=fun d' u hu=>hu.keep hsz (fun b hb _=>⟨hb,fun o=>Afy (w:=w) (a:=⟨b,o,none⟩) (hk b hb.2)⟩)
 refine ⟨ui++[x],by simp [hlen],?_,?_,?_⟩
 ·rw [List.dropLast_concat];obtain ⟨h2a,h2⟩:=h2;refine ⟨by simp [hlen],?_⟩;rcases h2 with ⟨h,_⟩ | ⟨g',cap,cur,he,hlo,hh,hn,hcap,hcs,htk⟩
  ·cases h
  ·injection he with he _ hc;injection he with he;injection he with he _ _;subst he;subst hc;refine .inr ⟨g,c,cur.setIfInBounds ((li++[dl]).length - 1) x,by simp,hlo,?_,by simpa using hn,hcap,by simpa using hcs,?_⟩
   ·have hb:Blk w g cur 45:=hh;exact hb.set _ x
   ·rw [Array.toList_setIfInBounds];have e1:(li++[d]).length * 1=(li++[dl]).length * 1:=by simp
    rw [e1,List.take_set,htk];have e2:(li++[dl]).length - 1=ui.length:=by simp [hlen]
    rw [e2,List.set_append_right _ _ (Afq _),Nat.sub_self];rfl
 ·intro i hi1 hi2;simp only [List.dropLast_concat] at hi1 ⊢;by_cases hlt:i < li.length
  ·rw [Af0 hlt,Af0 (by omega)];have:=h3 i (by simp;omega) (by simp;omega);rw [Af0 hlt,Af0 (by omega)] at this;exact hkeep _ _ this
  ·have hi:i=li.length:=by simp at hi1;omega
   subst hi;rw [List.getElem_append_right (Afq _),List.getElem_append_right (by omega)];simp only [hlen,Nat.sub_self,Afl];exact hkeep _ _ hx
 ·intro z hz;rcases Af1.1 hz with h | h
  ·exact h4 z (List.mem_append_left _ h)
  ·simp at h;subst h;exact hx1
theorem OE (l:List Nd) (h:0 < l.length):A1 l=(match l.getLastD .empty with | .start=>true | .fin=>true | _=>false):=by
 unfold A1;rw [List.getLastD_eq_getLast?,List.getLast?_eq_getElem?,Af4 (by omega),Option.getD_some];cases l[l.length - 1] <;> rfl
theorem D6 (lo p:Nat) (own:List Nat) (c0 c1 c2 c3 c4 c5 bv pv c8 c9 c10:Value) (l:List Nd) (w:World) (hb:Blk w p (EC c0 c1 c2 c3 c4 c5 bv pv c8 c9 c10) 210) (hr:NR lo own w l pv) (hl:l.length≤1000) :
  Calls prog 143 #[.pointer (some ⟨p,4,none⟩)] w fun e w'=>e=.returned (.bool (A1 l))∧Below w.heap.size w w':=by
 have k7:w.cell? ⟨p,7,none⟩=some pv:=(hb.cell 7).trans rfl;by_cases h0:l.length=0
 ·have hl0:l=[]:=List.length_eq_zero_iff.1 h0;subst hl0;obtain ⟨us,h1,h2,_,_⟩:=hr;obtain ⟨a,c,rfl⟩:=Bg h2;clear hb h2;go_enter func143,ntmps143;go_wp2_with fail
  go_ret;exact ⟨rfl,Afv _ _⟩
 ·have e0:((l.length:Int) == 0)=false:=by rw [beq_eq_false_iff_ne];omega
  have e1:(l.length == 0)=false:=by rw [beq_eq_false_iff_ne];omega
  obtain ⟨g,c,u,rfl,hc,hg,hcell,hn⟩:=hr.last (by omega);have hf:=OE l (by omega);have Ws:IntKind.i64.wrap ((l.length:Int) - 1)=((l.length - 1:Nat):Int):=by rw [Afx _ (by omega)];omega
  have hlt1:((l.length - 1:Nat):Int) < (l.length:Int):=by omega
  have hlt2:l.length - 1 < l.length:=by omega
  have hge:(0:Int)≤((l.length - 1:Nat):Int):=by omega
  have e2:l.isEmpty=false:=by cases l with | nil=>simp at h0 | cons _ _=>rfl
  generalize l.getLastD .empty=x at *;generalize A1 l=R at *;clear hr h0 hb;rcases Ck hn with ⟨rfl,rfl | rfl⟩ | ⟨s,rfl,rfl⟩ | ⟨l',a,cap,rfl,rfl,_⟩ | ⟨l',a,cap,rfl,rfl,_⟩ | ⟨d',mn,mx,v,rfl,rfl,hv⟩ | ⟨num,d',v,rfl,rfl,hv⟩ | ⟨num,rfl,rfl⟩ | ⟨rfl,rfl⟩ | ⟨rfl,rfl⟩
  all_goals
   simp only at hf;subst hf;clear hn
  all_goals
   go_enter func143,ntmps143;go_wp2_with fail
   go_quiet (fail)
   go_wp2_with fail
   go_ret;exact ⟨rfl,by first | (with_reducible exact Afv _ _) | (with_reducible exact (Afv _ _).drew) | (with_reducible exact QE (Afv _ _) _)⟩
theorem NR.drewn {lo:Nat} {own:List Nat} {w:World} {l:List Nd} {v:Value} (h:NR lo own w l v):NR lo own w.drew l v:=h.keep (Afq _) (fun _ _=>rfl) (fun _ _ hb=>⟨rfl,hb⟩)
theorem ZU {F:Nat→Prop} {w:World} {d:Nd} {u:Value} {mn mx:Int} (h:NdX F w d u):NdX F w (.rep d mn mx) (.iface 100 (.agg #[u,.int .i64 mn,.int .i64 mx])):=by
 obtain ⟨n,h⟩:=h;exact ⟨n+1,u,rfl,h⟩
theorem OF (lo p:Nat) (own:List Nat) (c0 c1 c2 c3 c4 c5 bv pv c8 c9 c10:Value) (l:List Nd) (mn mx:Int) (w:World) (hb:Blk w p (EC c0 c1 c2 c3 c4 c5 bv pv c8 c9 c10) 210) (hr:NR lo own w l pv) (hp:pv.ownBlock≠some p) (_hpo:p∈own) (hin:∀ g,pv.ownBlock=some g→g∈own) (h0:0 < l.length) (hl:l.length≤1000) :
  Calls prog 144 #[.pointer (some ⟨p,4,none⟩),.int .i64 mn,.int .i64 mx] w fun e w'=>e=.returned (.tuple #[])∧NR lo own w' (l.dropLast++[.rep (l.getLastD .empty) mn mx]) pv∧Blk w' p (EC c0 c1 c2 c3 c4 c5 bv pv c8 c9 c10) 210∧Touch p pv w w':=by
 have k7:w.cell? ⟨p,7,none⟩=some pv:=(hb.cell 7).trans rfl;obtain ⟨g,c,u,rfl,hc,hg,hcell,hn⟩:=hr.last h0;have Ws:IntKind.i64.wrap ((l.length:Int) - 1)=((l.length - 1:Nat):Int):=by rw [Afx _ (by omega)];omega
 have hlt1:((l.length - 1:Nat):Int) < (l.length:Int):=by omega
 have hlt2:l.length - 1 < l.length:=by omega
 have hge:(0:Int)≤((l.length - 1:Nat):Int):=by omega
 have hsh:(∃ T q,u=.iface T q)∨u=.nilIface:=hn.elim fun _ h=>Ay h
 have Hr:=Afj hr;have Hb:=Afj hb;have Hn:=Afj hn;have hfz:w.frozen? ⟨g,l.length - 1,none⟩=false:=by
  obtain ⟨us,h1,h2,_,_⟩:=hr;rcases h2.2 with ⟨h,_⟩ | ⟨g',cap,cur,he,hg',hh,_⟩
  ·cases h
  ·injection he with he _ _;injection he with he;injection he with he _ _;subst he;simp [World.frozen?,hh]
 clear hr hb hn;rcases hsh with ⟨T1,q1,rfl⟩ | rfl
 all_goals
  go_enter func144,ntmps144;go_wp2_with fail
  go_region
  go_wp2_with fail
  go_end0;have hx:=ZU (mn:=mn) (mx:=mx) Hn.out;have hput:=Hr.out.put h0 (hin g rfl) hx rfl;refine ⟨rfl,hput.drewn,((Hb.out.set_other ⟨g,l.length - 1,none⟩ (fun e=>hp (congrArg some e)) _)).drew,⟨rfl,rfl,rfl,by simp [World.setCell,World.drew],fun b hb h1 h2=>?_⟩⟩;exact Afw _ _ _ _ (fun e=>h2 (congrArg some e.symm))
theorem NR.rg {lo:Nat} {own:List Nat} {w:World} {l:List Nd} {v:Value} (h:NR lo own w l v):∃ a cap,v=.slice a l.length cap∧O2 (fun _=>True) (fun b=>lo≤b∧b ∉ own) w l a cap:=by
 obtain ⟨us,h1,h2,h3,h4⟩:=h;obtain ⟨a,cap,rfl,hc,hm,hx⟩:=Gk h2 h1;refine ⟨a,cap,rfl,hc,hm,fun h0=>?_⟩;obtain ⟨g,rfl,_,hg,hcell⟩:=hx h0;exact ⟨g,0,rfl,trivial,hg,fun i hi=>⟨us[i]'(by omega),hcell i (by omega),h3 i hi (by omega)⟩⟩
theorem O2.below {G F:Nat→Prop} {w w':World} {l:List Nd} {a:Option Addr} {cap:Nat} (h:O2 G F w l a cap) (hb:Below w.heap.size w w'):O2 G F w' l a cap:=
 ⟨h.1,h.2.1,fun h0=>by
  obtain ⟨b,o,e,hG,hl,hx⟩:=h.2.2 h0;exact ⟨b,o,e,hG,Aft hl hb.size,fun i hi=>by obtain ⟨u,hu,hn⟩:=hx i hi;exact ⟨u,(hb.cell (p:=⟨b,o+i,none⟩) hl).trans hu,hn.below hb⟩⟩⟩
theorem NR.push {lo p j:Nat} {own:List Nat} {w w2 w6:World} {l:List Nd} {d:Nd} {v u:Value} {a6:Option Addr} {c6:Nat} {us:List Value} {T:TypeId}
  (h1:us.length=l.length) (h3:∀ i (h:i < l.length) (h2:i < us.length),NdX (fun b=>lo≤b∧b ∉ own) w l[i] us[i]) (h4:∀ x∈us,x.oneCell'=true) (hlt:∀ g,v.ownBlock=some g→lo≤g∧g < w.heap.size) (hp:v.ownBlock≠some p) (hpo:p∈own) (hplt:p < w.heap.size) (hin:∀ g,v.ownBlock=some g→g∈own) (hlo:lo≤p) (hol:∀ b∈own,b < w.heap.size)
  (hb2:Below w.heap.size w w2) (hu:NdX (fun k=>(k < w.heap.size∧(lo≤k∧k ∉ own))∨w.heap.size≤k) w2 d u) (hu1:u.oneCell'=true)
  (hown:w6.ownsRow lo 45 1 (.slice a6 (l.length+1) c6) (l.length+1) (us++[u])) (hgrow:(w2.alloc (.cells #[u] T)).grownBy w6 v.ownBlock) (hat:(Value.slice a6 (l.length+1) c6).ownBlock=v.ownBlock∨(Value.slice a6 (l.length+1) c6).ownBlock=some (w2.alloc (.cells #[u] T)).heap.size) (y:Value) :
  NR lo (ownB (.slice a6 (l.length+1) c6)++own) (w6.setCell ⟨p,j,none⟩ y) (l++[d]) (.slice a6 (l.length+1) c6)∧Touch p v w (w6.setCell ⟨p,j,none⟩ y)∧((Value.slice a6 (l.length+1) c6).ownBlock=v.ownBlock∨∃ g,w.heap.size≤g∧(Value.slice a6 (l.length+1) c6).ownBlock=some g):=by
 have hA:=hb2.alloc hb2.size (.cells #[u] T);have hs2:=hb2.size;have hs6:=hgrow.size;have hsA:(w2.alloc (.cells #[u] T)).heap.size=w2.heap.size+1:=by simp
 have hs7:(w6.setCell ⟨p,j,none⟩ y).heap.size=w6.heap.size:=by simp [World.setCell]
 have hT:Touch p v w (w6.setCell ⟨p,j,none⟩ y):=⟨hgrow.os.trans hA.os,hgrow.tape.trans hA.tape,hgrow.output.trans hA.output,by rw [hs7];omega,fun b hb e1 e2=>by
  rw [Afw _ _ _ _ (fun e=>e1 e),hgrow.block b (by omega) (fun e=>e2 e.symm),hA.block b hb]⟩
 have hnew:(Value.slice a6 (l.length+1) c6).ownBlock=v.ownBlock∨∃ g,w.heap.size≤g∧(Value.slice a6 (l.length+1) c6).ownBlock=some g:=by
  rcases hat with h | h
  ·exact .inl h
  ·exact .inr ⟨_,by rw [hsA];omega,h⟩
 have hoff:∀ b,b < w.heap.size→b ∉ own→b ∉ ownB (.slice a6 (l.length+1) c6)++own:=fun b hb hbo=>by
  rw [Af1,not_or];refine ⟨fun h=>?_,hbo⟩;rw [AX] at h;rcases hnew with h2 | ⟨g,hg,h2⟩
  ·exact hbo (hin b (h2.symm.trans h))
  ·rw [h2] at h;injection h with h;omega
 have hk:∀ b,b < w.heap.size→b ∉ own→(w6.setCell ⟨p,j,none⟩ y).heap[b]?=w.heap[b]?∧b ∉ ownB (.slice a6 (l.length+1) c6)++own:=fun b hb hbo=>
  ⟨hT.block b hb (fun e=>hbo (e▸hpo)) (fun e=>hbo (hin b e)),hoff b hb hbo⟩
 have hown7:(w6.setCell ⟨p,j,none⟩ y).ownsRow lo 45 1 (.slice a6 (l.length+1) c6) (l.length+1) (us++[u]):=Ab hown (fun g hg=>Afw _ _ _ _ (fun e=>by
  rcases hat with h | h
  ·exact hp (by rw [←h,hg,e])
  ·rw [h] at hg;injection hg with hg;simp only at e;omega))
 refine ⟨⟨us++[u],by rw [Afs,Afs,h1];rfl,by rw [Afs];exact hown7,?_,?_⟩,hT,hnew⟩
 ·intro i hi1 hi2;by_cases hlt2:i < l.length
  ·rw [Af0 hlt2,Af0 (by omega)];exact (h3 i hlt2 (by omega)).keep hT.size (fun b hb hl=>⟨⟨hb.1,(hk b hl hb.2).2⟩,fun o=>Afy (w:=w) (a:=⟨b,o,none⟩) (hk b hl hb.2).1⟩)
  ·have hi:i=l.length:=by rw [Afs] at hi1;simp at hi1;omega
   subst hi;rw [List.getElem_append_right (Afq _),List.getElem_append_right (by omega)];simp only [h1,Nat.sub_self,Afl];refine hu.keep (by rw [hs7];omega) (fun b hb hl=>?_);have hsame:(w6.setCell ⟨p,j,none⟩ y).heap[b]?=w2.heap[b]?:=by
    have hbp:b≠p:=fun e=>by
     rcases hb with h | h
     ·exact h.2.2 (e▸hpo)
     ·omega
    have hbv:some b≠v.ownBlock:=fun e=>by
     rcases hb with h | h
     ·exact h.2.2 (hin b e.symm)
     ·have:=(hlt b e.symm).2;omega
    rw [Afw _ _ _ _ (fun e=>hbp e),hgrow.block b (by omega) hbv];exact ((Afv w2.heap.size w2).alloc (Afq _) _).block b hl
   refine ⟨?_,fun o=>Afy (w:=w2) (a:=⟨b,o,none⟩) hsame⟩;rcases hb with h | h
   ·exact ⟨h.2.1,hoff b h.1 h.2.2⟩
   ·refine ⟨by omega,?_⟩;rw [Af1,not_or];refine ⟨fun e=>?_,fun e=>?_⟩
    ·rw [AX] at e;rcases hat with h2 | h2
     ·rw [h2] at e;have:=(hlt b e).2;omega
     ·rw [h2] at e;injection e with e;rw [hsA] at e;omega
    ·have:=hol b e;omega
 ·intro x hx;rcases Af1.1 hx with h | h
  ·exact h4 x h
  ·simp at h;subst h;exact hu1
theorem WZ (w:World) (u:Value) (T:TypeId) (g:Nat) (hg:g=w.heap.size):∀ j x,[u][j]?=some x→(w.alloc (.cells #[u] T)).cell? ((⟨g,0,none⟩:Addr).add j)=some x:=by
 subst hg;intro j x hx
 match j,hx with
 | 0,hx=>simp at hx;subst hx;simp [Addr.add]
theorem NR.cell {lo p j:Nat} {own:List Nat} {w:World} {l:List Nd} {v:Value} (h:NR lo own w l v) (hv:v.ownBlock≠some p) (hpo:p∈own) (y:Value):NR lo own (w.setCell ⟨p,j,none⟩ y) l v:=
 h.keep (by simp [World.setCell]) (fun g hg=>Afw _ _ _ _ (fun e=>hv (by rw [hg,e]))) (fun b _ hbo=>⟨Afw _ _ _ _ (fun e=>hbo (e▸hpo)),hbo⟩)
theorem Touch.cell {p j:Nat} {v:Value} {w w':World} (h:Touch p v w w') (y:Value):Touch p v w (w'.setCell ⟨p,j,none⟩ y):=
 ⟨h.os,h.tape,h.output,by simp [World.setCell];exact h.size,fun b hb e1 e2=>(Afw _ _ _ _ (fun e=>e1 e)).trans (h.block b hb e1 e2)⟩
theorem Touch.drewn {p:Nat} {v:Value} {w w':World} (h:Touch p v w w'):Touch p v w w'.drew:=⟨h.os,h.tape,h.output,h.size,h.block⟩
theorem OG (lo p:Nat) (own:List Nat) (c0 c1 c2 c3 c4 c5 bv pv c8 c9 c10:Value) (bs ps:List Nd) (w:World) (hlo:lo≤p) (hb:Blk w p (EC c0 c1 c2 c3 c4 c5 bv pv c8 c9 c10) 210) (hbr:NR lo own w bs bv) (hpr:NR lo own w ps pv) (hp:bv.ownBlock≠some p) (hpo:p∈own) (hol:∀ b∈own,b < w.heap.size) (hin:∀ g,bv.ownBlock=some g→g∈own) (hl:bs.length≤1000) (hj:(AN ps).length≤4000000) :
  Calls prog 128 #[.pointer (some ⟨p,4,none⟩)] w fun e w'=>∃ bv',e=.returned (.tuple #[])∧NR lo (ownB bv'++own) w' (bs++[B0 ps]) bv'∧Blk w' p (EC c0 c1 c2 c3 c4 c5 bv' (.slice none 0 0) c8 c9 c10) 210∧Touch p bv w w'∧(bv'.ownBlock=bv.ownBlock∨∃ g,w.heap.size≤g∧bv'.ownBlock=some g):=by
 obtain ⟨i0,hi,hz0,hz1,hz2⟩:=DZ;obtain ⟨pa,pc,rfl,hrg⟩:=hpr.rg;obtain ⟨us,h1,h2,h3,h4⟩:=hbr;obtain ⟨ba,bc,rfl⟩:=Bg h2;have hplt:=hb.lt;have k6:w.cell? ⟨p,6,none⟩=some (.slice ba bs.length bc):=(hb.cell 6).trans rfl;have k7:w.cell? ⟨p,7,none⟩=some (.slice pa ps.length pc):=(hb.cell 7).trans rfl;have hJ:=fun (w':World) (hb':Below w.heap.size w w')=>Sz (G:=fun _=>True) ps pa pc w' (hrg.below hb') hj
 have hm1:bs.length+1≤maxLen:=by unfold maxLen;omega
 have hm2:(bs.length+1) * 16≤140737488355328:=by omega
 have hlw:lo≤w.heap.size:=Afr hlo (Afu hplt);have HJ:=Afj hJ;have H2:=Afj h2;have Hb:=Afj hb;clear hJ hrg hpr hb h2;go_enter func128,ntmps128;go_upto_region 0 with fail
 go_region_law (first
  | (refine By rfl _ _ _ rfl 141 _ rfl (by rfl) (enters_of func141 (by kernel_rfl) rfl) (HJ.out _ (by first | exact Afv _ _ | exact Agb (Afv _ _))) ?_;rintro e w2 ⟨u,rfl,hu,hb2'⟩;refine ⟨_,rfl,?_⟩;have hb2:Below w.heap.size w w2:=(by first | exact hb2' | exact (Agb (Afv _ _)).trans hb2');clear hb2';have hB2:=Hb.out.below hb2 hplt;have q6:w2.cell? ⟨p,6,none⟩=some (.slice ba bs.length bc):=(hB2.cell 6).trans rfl;have q6A:(w2.alloc (.cells #[u] 45)).cell? ⟨p,6,none⟩=some (.slice ba bs.length bc):=((hB2.alloc _).cell 6).trans rfl;have hsh:=hu.elim fun _ h=>Ay h;have hcl:u.cells=#[u]:=(by rcases hsh with ⟨T,q,rfl⟩ | rfl <;> rfl);unfold Value.cells at hcl;have hu1:u.oneCell'=true:=(by rcases hsh with ⟨T,q,rfl⟩ | rfl <;> rfl);have HU:=Afj hu;clear hu hsh)
  | (refine A6 rfl _ _ 83 rfl lo 45 i0 .nilIface 1 16 underlying83 hi hz0 hz1 hz2 rfl (by decide) (.slice ba bs.length bc) bs.length us rfl (Ah H2.out (by repeat (first | (with_reducible exact hb2) | refine Agb ?_ | refine Agc ?_ hb2.size _))) (some ⟨w2.heap.size,0,none⟩) 1 1 [u] rfl rfl (fun _=>⟨_,rfl,WZ w2 u _ _ rfl⟩) (by intro y hy;simp at hy;subst hy;exact hu1) hm1 hm2 (by have:=hb2.size;simp;omega) ?_;intro v6 w6 hown6 hgrow6 hat6;obtain ⟨a6,c6,rfl⟩:=Bg hown6;have hB6:Blk w6 p (EC c0 c1 c2 c3 c4 c5 (.slice ba bs.length bc) (.slice pa ps.length pc) c8 c9 c10) 210:=Ea (hB2.alloc _) hgrow6 hp;have f6:=hB6.frozen 6;have f7:=hB6.frozen 7;have g6:w6.cell? ⟨p,6,none⟩=some (.slice ba bs.length bc):=(hB6.cell 6).trans rfl;have g7:w6.cell? ⟨p,7,none⟩=some (.slice pa ps.length pc):=(hB6.cell 7).trans rfl;have HP:=Afj (fun y=>NR.push (j:=6) h1 h3 h4 (fun g hg=>H2.out.lt g hg) hp hpo hplt hin hlo hol hb2 HU.out hu1 hown6 hgrow6 hat6 y);have HB6:=Afj hB6;clear hown6 hgrow6 hat6 hB6))
 all_goals go_wp2_with fail
 all_goals go_end0
 all_goals
  obtain ⟨hN,hT,hF⟩:=HP.out (.slice a6 (bs.length+1) c6);have hvp:(Value.slice a6 (bs.length+1) c6).ownBlock≠some p:=by
   rcases hF with h | ⟨g,hg,h⟩
   ·rw [h];exact hp
   ·rw [h];intro e;injection e with e;omega
  exact ⟨.slice a6 (bs.length+1) c6,rfl,hN.cell hvp (Af8 _ hpo) _,(HB6.out.set 6 _).set 7 _,hT.cell _,hF⟩
theorem GJ (lo p:Nat) (own:List Nat) (c0 c1 c2 c3 c4 c5 bv pv c8 c9 c10:Value) (bs ps:List Nd) (w:World) (hlo:lo≤p) (hb:Blk w p (EC c0 c1 c2 c3 c4 c5 bv pv c8 c9 c10) 210) (hbr:NR lo own w bs bv) (hpr:NR lo own w ps pv) (hp:bv.ownBlock≠some p) (hpo:p∈own) (hol:∀ b∈own,b < w.heap.size) (hin:∀ g,bv.ownBlock=some g→g∈own) (hl:bs.length≤1000) (hj:(AN ps).length≤4000000) (hc:(AO (bs++[B0 ps])).length≤4000000) :
  Calls prog 116 #[.pointer (some ⟨p,4,none⟩)] w fun e w'=>∃ v bv',e=.returned v∧NdX (fun b=>lo≤b∧b ∉ ownB bv'++own) w' (Co (bs++[B0 ps])) v∧Blk w' p (EC c0 c1 c2 c3 c4 c5 bv' (.slice none 0 0) c8 c9 c10) 210∧Touch p bv w w'∧(bv'.ownBlock=bv.ownBlock∨∃ g,w.heap.size≤g∧g < w'.heap.size∧bv'.ownBlock=some g):=by
 have hE:=OG lo p own c0 c1 c2 c3 c4 c5 bv pv c8 c9 c10 bs ps w hlo hb hbr hpr hp hpo hol hin hl hj;have hplt:=hb.lt;go_enter func116,ntmps116;go_wp2_with fail
 refine hE.mono ?_;rintro e w2 ⟨bv',rfl,hN,hB,hT,hF⟩;have hlt2:=hN.lt;obtain ⟨ba,bc,rfl,hrg⟩:=hN.rg;have k6:w2.cell? ⟨p,6,none⟩=some (.slice ba (bs++[B0 ps]).length bc):=(hB.cell 6).trans rfl;have hC:=LA (G:=fun _=>True) (bs++[B0 ps]) ba bc w2 hrg hc;have HL:=Afj hlt2;have HF:=Afj hF;have HT:=Afj hT;have HB:=Afj hB;have HO:=Afj hol;clear hE hN hrg hlt2 hF hT hB hol hbr hpr hc hj hb;generalize (bs++[B0 ps]).length=n at *;go_wp2_with fail
 refine hC.mono ?_;rintro e w3 ⟨v,rfl,hv,b3⟩;have hsz:=HT.out.size;have hv2:NdX (fun b=>lo≤b∧b ∉ ownB (.slice ba n bc)++own) w3 (Co (bs++[B0 ps])) v:=hv.keep (Afq _) (fun b hb hlt=>⟨by
  rcases hb with h | h
  ·exact h.2
  ·refine ⟨by omega,?_⟩;rw [Af1,not_or];refine ⟨fun e=>?_,fun e=>?_⟩
   ·rw [AX] at e;have:=(HL.out b e).2;omega
   ·have:=HO.out b e;omega,fun _=>rfl⟩)
 have hB3:=HB.out.below b3 HB.out.lt;have hT3:Touch p bv w w3:=⟨b3.os.trans HT.out.os,b3.tape.trans HT.out.tape,b3.output.trans HT.out.output,Afr HT.out.size b3.size,fun b hb e1 e2=>(b3.block b (by omega)).trans (HT.out.block b hb e1 e2)⟩
 have hF3:(Value.slice ba n bc).ownBlock=bv.ownBlock∨∃ g,w.heap.size≤g∧g < w3.heap.size∧(Value.slice ba n bc).ownBlock=some g:=HF.out.imp id (fun ⟨g,hg,e⟩=>⟨g,hg,Aft (HL.out g e).2 b3.size,e⟩);have HF3:=Afj hF3;clear hC hv b3 hF3;go_wp2_with fail
 go_ret;exact ⟨v,.slice ba n bc,rfl,hv2,hB3,hT3,HF3.out⟩
theorem Ks {p j:Nat} {v:Value} {w W w6:World} (hW:Below w.heap.size w W) (hg:W.grownBy w6 v.ownBlock) (y:Value):Touch p v w (w6.setCell ⟨p,j,none⟩ y):=
 ⟨hg.os.trans hW.os,hg.tape.trans hW.tape,hg.output.trans hW.output,Afr hW.size (Afr hg.size (by simp [World.setCell])),fun b hb e1 e2=>by
  rw [Afw _ _ _ _ (fun e=>e1 e),hg.block b (Aft hb hW.size) (fun e=>e2 e.symm),hW.block b hb]⟩
theorem QF (c:Nat) (h:c < 128):runesBytes [(92:Int),(c:Int)]=⟨#[92,UInt8.ofNat c]⟩:=by
 have hd:∀ n:Fin 128,runesBytes [(92:Int),(n.val:Int)]=⟨#[92,UInt8.ofNat n.val]⟩:=by decide +kernel
 exact hd ⟨c,h⟩
theorem IC (lo p g n cs k m c:Nat) (c0 c4 c5 c6' c7 c8 c9 c10 mv:Value) (ms:List (Nat × Nat)) (w:World) (hlo:lo≤p) (hb:Blk w p (EC c0 (.slice (some ⟨g,0,none⟩) n cs) (.int .i64 (m:Int)) mv c4 c5 c6' c7 c8 c9 c10) 210) (hm:w.ownsRow lo 33 2 mv ms.length (marksC ms)) (hp:mv.ownBlock≠some p) (hkm:m=k+2) (hk:m≤n) (hcs:n≤cs)
  (h0:w.cell? ⟨g,k,none⟩=some (.int .i32 92)) (h1:w.cell? ⟨g,k+1,none⟩=some (.int .i32 (c:Int))) (hc:c < 128) (hl:ms.length≤1000) :
  Calls prog 149 #[.pointer (some ⟨p,0,none⟩),.int .i64 (k:Int)] w fun e w'=>∃ mv',e=.returned (.tuple #[])∧w'.ownsRow lo 33 2 mv' (ms++[(k,c)]).length (marksC (ms++[(k,c)]))∧Blk w' p (EC c0 (.slice (some ⟨g,0,none⟩) n cs) (.int .i64 (m:Int)) mv' c4 c5 c6' c7 c8 c9 c10) 210∧Touch p mv w w'∧(mv'.ownBlock=mv.ownBlock∨∃ q,w.heap.size≤q∧mv'.ownBlock=some q):=by
 obtain ⟨i0,hi,hz0,hz1,hz2⟩:=C3;have hplt:=hb.lt;have k1:w.cell? ⟨p,1,none⟩=some (.slice (some ⟨g,0,none⟩) n cs):=(hb.cell 1).trans rfl;have k2:w.cell? ⟨p,2,none⟩=some (.int .i64 (m:Int)):=(hb.cell 2).trans rfl;have k3:w.cell? ⟨p,3,none⟩=some mv:=(hb.cell 3).trans rfl;obtain ⟨ma,mc,rfl⟩:=Bg hm;have hm1:ms.length+1≤maxLen:=by unfold maxLen;omega
 have hm2:(ms.length+1) * 24≤140737488355328:=by omega
 have hsl1:(k:Int)≤(m:Int):=by omega
 have hsl2:(m:Int)≤(cs:Int):=by omega
 have hsl3:k≤m:=by omega
 have hsl4:m≤cs:=by omega
 have hsl5:m - k=2:=by omega
 have hsl6:¬ cs=k:=by omega
 have Hkm:=Afj hkm;clear hkm;have hcv:∀ w':World,(w'.cell? ⟨g,k,none⟩=some (.int .i32 92))→(w'.cell? ⟨g,k+1,none⟩=some (.int .i32 (c:Int)))→(convert 203 9 (.slice (some ⟨g,k,none⟩) 2 (cs - k))).run prog w'=.ok (.string ⟨#[92,UInt8.ofNat c]⟩) w':=fun w' e0 e1=>by
  have:=run_convert_runes (P:=prog) w' 203 9 21 ⟨g,k,none⟩ 2 (cs - k) [92,(c:Int)] (by simp) underlying203 underlying21 underlying9 (fun j hj=>by
   match j,hj with
   | 0,_=>simpa [Addr.add] using e0
   | 1,_=>simpa [Addr.add] using e1)
  rw [this];rw [show ([92,(c:Int)]:List Int).take 2=[92,(c:Int)] from rfl,QF c hc]
 have hcv1:=hcv w.drew h0 h1;have hv1:∀ u∈Ez (k,c),u.oneCell'=true:=by intro u hu;simp [Ez] at hu;rcases hu with rfl | rfl <;> rfl
 have hnews:∀ W:World,W.heap.size=w.heap.size→∀ j u,(Ez (k,c))[j]?=some u→(W.alloc (.cells #[.int .i64 (k:Int),.string ⟨#[92,UInt8.ofNat c]⟩] 33)).cell? ((⟨w.heap.size,0,none⟩:Addr).add j)=some u:=fun W hW j u hu=>by
  have hb2:=Blk.new W #[.int .i64 (k:Int),.string ⟨#[92,UInt8.ofNat c]⟩] 33 w.heap.size hW.symm;rw [Go.WideShapes.add_plain,Nat.zero_add,hb2.cell j,←Array.getElem?_toList];exact hu
 have Hb:=Afj hb;have Hm:=Afj hm;have H0:=Afj h0;have H1:=Afj h1;have HCV:=Afj hcv;clear hb hm h0 h1 hcv;go_enter func149,ntmps149;go_upto_region 0 with fail
 go_region_law (first
  | (refine A6 rfl _ _ 26 rfl lo 33 i0 (.agg #[.int .i64 0,.string ⟨#[]⟩]) 2 24 underlying26 hi hz0 hz1 hz2 rfl (by decide) (.slice ma ms.length mc) ms.length (marksC ms) rfl (Ah Hm.out (by repeat (first | (with_reducible exact Afv _ _) | refine Agb ?_ | refine Agc ?_ (Afq _) _))) (some ⟨w.heap.size,0,none⟩) 1 1 (Ez (k,c)) rfl rfl (fun _=>⟨_,rfl,hnews _ rfl⟩) hv1 hm1 hm2 (by simp;omega) ?_;intro v6 w6 hown6 hgrow6 hat6;obtain ⟨a6,c6,rfl⟩:=Bg hown6;have hB6:Blk w6 p (EC c0 (.slice (some ⟨g,0,none⟩) n cs) (.int .i64 (m:Int)) (.slice ma ms.length mc) c4 c5 c6' c7 c8 c9 c10) 210:=Ea ((Hb.out.alloc _).drew) hgrow6 hp;have f3:=hB6.frozen 3;have g3:w6.cell? ⟨p,3,none⟩=some (.slice ma ms.length mc):=(hB6.cell 3).trans rfl;have HT:=Afj (fun y=>Ks (p:=p) (j:=3) (((Afv w.heap.size w).alloc (Afq _) _).drew) hgrow6 y);have HA:=Afj hat6;have HO:=Afj hown6;have HB6:=Afj hB6;clear hown6 hgrow6 hat6 hB6))
 all_goals go_wp2_with fail
 all_goals go_end0
 all_goals
  have hF:(Value.slice a6 (ms.length+1) c6).ownBlock=(Value.slice ma ms.length mc).ownBlock∨∃ q,w.heap.size≤q∧(Value.slice a6 (ms.length+1) c6).ownBlock=some q:=by
   rcases HA.out with h | h
   ·exact .inl h
   ·exact .inr ⟨_,by simp,h⟩
  have hvp:(Value.slice a6 (ms.length+1) c6).ownBlock≠some p:=by
   rcases hF with h | ⟨q,hq,h⟩
   ·rw [h];exact hp
   ·rw [h];intro e;injection e with e;omega
  refine ⟨.slice a6 (ms.length+1) c6,rfl,?_,HB6.out.set 3 _,HT.out _,hF⟩;rw [IR,Afs];exact Ab HO.out (fun q hq=>Afw _ _ _ _ (fun e=>hvp (by rw [hq,e])))
def MapAt (w:World) (b:Nat) (cl:List Int):Prop:=∃ (n:Nat) (D:DataW Unit),n≤cl.length∧w.ownsMap prog 3 unitElem b n D∧∀ k:Int,Maps.has D (.int .i64 k)=cl.contains k
theorem MapAt.same {w w':World} {b:Nat} {cl:List Int} (h:MapAt w b cl) (hs:w'.heap[b]?=w.heap[b]?):MapAt w' b cl:=by
 obtain ⟨n,D,hn,⟨es,clock,hb,r⟩,hk⟩:=h;exact ⟨n,D,hn,⟨es,clock,hs.trans hb,r⟩,hk⟩
def levC (L:List Lv) (rows:List (Value × Value)):List Value:=(L.zip rows).flatMap fun q=>[.int .i64 (q.1.op:Int),.int .i64 (q.1.num:Int),q.2.1,q.2.2]
def allV (mv bv pv ov:Value) (rows:List (Value × Value)):List Value:=mv :: bv :: pv :: ov :: rows.flatMap fun r=>[r.1,r.2]
def Off2 (u v:Value):Prop:=∀ b,u.ownBlock=some b→v.ownBlock≠some b
structure Em (lo p mp:Nat) (own:List Nat) (w:World) (s:ByteArray) (e:ES) (sv mv bv pv ov:Value) (rows:List (Value × Value)):Prop where
 blk:Blk w p (EC (.string s) sv (.int .i64 (e.pos:Int)) mv (.int .i64 (e.inner.op:Int)) (.int .i64 (e.inner.num:Int)) bv pv ov (.int .i64 (e.groups:Int)) (.map (some mp))) 210
 lop:lo≤p
 lom:lo≤mp
 sg:∃ a c,sv=.slice a s.size c∧s.size≤c∧(0 < s.size→∃ g,a=some ⟨g,0,none⟩∧g ∉ own∧g < w.heap.size∧∀ i,i < s.size→w.cell? ⟨g,i,none⟩=some (.int .i32 (byt s.data.toList i:Int)))
 mks:w.ownsRow lo 33 2 mv e.marks.length (marksC e.marks)
 bn:NR lo own w e.inner.brs bv
 pn:NR lo own w e.inner.pcs pv
 on:w.ownsRow lo 207 4 ov e.outer.length (levC e.outer rows)
 ol:rows.length=e.outer.length
 orow:∀ i (h:i < e.outer.length) (h2:i < rows.length),NR lo own w e.outer[i].brs rows[i].1∧NR lo own w e.outer[i].pcs rows[i].2
 cl:MapAt w mp e.closed
 apart:(allV mv bv pv ov rows).Pairwise Off2
 inown:∀ v∈allV mv bv pv ov rows,∀ b,v.ownBlock=some b→b∈own∧b≠p∧b≠mp
 pown:p∈own
 mown:mp∈own
 pm:p≠mp
 ownlt:∀ b∈own,b < w.heap.size
 ok:EOk s.data.toList e
theorem Em.pieces {lo p mp:Nat} {own own':List Nat} {w w':World} {s:ByteArray} {e:ES} {sv mv bv pv pv' ov:Value} {rows:List (Value × Value)} {l:List Nd} (h:Em lo p mp own w s e sv mv bv pv ov rows)
  (hT:Touch p pv w w') (hnew:pv'.ownBlock=pv.ownBlock∨∃ g,w.heap.size≤g∧pv'.ownBlock=some g) (ho:own'=ownB pv'++own) (hN:NR lo own' w' l pv')
  (hB:Blk w' p (EC (.string s) sv (.int .i64 (e.pos:Int)) mv (.int .i64 (e.inner.op:Int)) (.int .i64 (e.inner.num:Int)) bv pv' ov (.int .i64 (e.groups:Int)) (.map (some mp))) 210)
  (hok:EOk s.data.toList (e.at e.st l)):Em lo p mp own' w' s (e.at e.st l) sv mv bv pv' ov rows:=by
 have hin:∀ v∈allV mv bv pv ov rows,∀ b,v.ownBlock=some b→b∈own∧b≠p∧b≠mp:=h.inown;have hpin:∀ b,pv.ownBlock=some b→b∈own∧b≠p∧b≠mp:=fun b hb=>hin pv (by simp [allV]) b hb
 have hlt:∀ b∈own,b < w.heap.size:=h.ownlt;have hnlt:∀ b,pv'.ownBlock=some b→b < w'.heap.size:=fun b hb=>(hN.lt b hb).2
 have hsame:∀ b,b < w.heap.size→b≠p→pv.ownBlock≠some b→w'.heap[b]?=w.heap[b]?:=hT.block;have hoff:∀ b,b < w.heap.size→b ∉ own→w'.heap[b]?=w.heap[b]?∧b ∉ own':=fun b hb hbo=>by
  refine ⟨hsame b hb (fun e=>hbo (e▸h.pown)) (fun e=>hbo (hpin b e).1),?_⟩;rw [ho,Af1,not_or];refine ⟨fun e=>?_,hbo⟩;rw [AX] at e;rcases hnew with h2 | ⟨g,hg,h2⟩
  ·exact hbo (hpin b (h2.symm.trans e)).1
  ·rw [h2] at e;injection e with e;omega
 have hap:=h.apart;unfold allV at hap;simp only [List.pairwise_cons] at hap;obtain ⟨a1,a2,a3,a4,a5⟩:=hap;have hrow:∀ v,(v=mv∨v=bv∨v=ov∨v∈rows.flatMap fun r=>[r.1,r.2])→∀ b,v.ownBlock=some b→w'.heap[b]?=w.heap[b]?:=fun v hv b hb=>by
  have hmem:v∈allV mv bv pv ov rows:=by
   unfold allV;rcases hv with rfl | rfl | rfl | hv
   ·simp
   ·simp
   ·simp
   ·simp only [Afz];exact .inr (.inr (.inr (.inr hv)))
  obtain ⟨e1,e2,e3⟩:=hin v hmem b hb;refine hsame b (hlt b e1) e2 (fun hp=>?_);rcases hv with rfl | rfl | rfl | hv
  ·exact a1 pv (by simp) b hb hp
  ·exact a2 pv (by simp) b hb hp
  ·exact a3 _ (by simp) b hp hb
  ·exact a3 v (by simp only [Afz];exact .inr hv) b hp hb
 have hothers:∀ v,(v=mv∨v=bv∨v=ov∨v∈rows.flatMap fun r=>[r.1,r.2])→Off2 v pv'∧Off2 pv' v:=fun v hv=>by
  have hmem:v∈allV mv bv pv ov rows:=by
   unfold allV;rcases hv with rfl | rfl | rfl | hv
   ·simp
   ·simp
   ·simp
   ·simp only [Afz];exact .inr (.inr (.inr (.inr hv)))
  have hvp:∀ b,v.ownBlock=some b→pv.ownBlock≠some b:=fun b hb hp=>by
   rcases hv with rfl | rfl | rfl | hv
   ·exact a1 pv (by simp) b hb hp
   ·exact a2 pv (by simp) b hb hp
   ·exact a3 _ (by simp) b hp hb
   ·exact a3 v (by simp only [Afz];exact .inr hv) b hp hb
  have hvq:∀ b,v.ownBlock=some b→pv'.ownBlock≠some b:=fun b hb hp=>by
   rcases hnew with h2 | ⟨g,hg,h2⟩
   ·exact hvp b hb (h2.symm.trans hp)
   ·rw [h2] at hp;injection hp with hp;have:=hlt b (hin v hmem b hb).1;omega
  exact ⟨hvq,fun b hb hp=>hvq b hp hb⟩
 have hplt:p < w.heap.size:=hlt p h.pown;have hmlt:mp < w.heap.size:=hlt mp h.mown;have hrows:∀ i (h2:i < rows.length),(rows[i].1∈rows.flatMap fun r=>[r.1,r.2])∧(rows[i].2∈rows.flatMap fun r=>[r.1,r.2]):=fun i h2=>
  ⟨List.mem_flatMap.2 ⟨rows[i],List.getElem_mem h2,by simp⟩,List.mem_flatMap.2 ⟨rows[i],List.getElem_mem h2,by simp⟩⟩
 refine ⟨hB,h.lop,h.lom,?_,Ab h.mks (hrow mv (.inl rfl)),h.bn.keep hT.size (hrow bv (.inr (.inl rfl))) hoff,hN,Ab h.on (hrow ov (.inr (.inr (.inl rfl)))),h.ol,?_,h.cl.same (hsame mp hmlt (fun e=>h.pm e.symm) (fun e=>(hpin mp e).2.2 rfl)),?_,?_,?_,?_,h.pm,?_,hok⟩
 ·obtain ⟨a,c,e1,e2,e3⟩:=h.sg;refine ⟨a,c,e1,e2,fun h0=>?_⟩;obtain ⟨g,rfl,hg,hgl,hc⟩:=e3 h0;exact ⟨g,rfl,(hoff g hgl hg).2,Aft hgl hT.size,fun i hi=>(Afy (w:=w) (a:=⟨g,i,none⟩) (hoff g hgl hg).1).trans (hc i hi)⟩
 ·intro i h1 h2;obtain ⟨o1,o2⟩:=h.orow i h1 h2;exact ⟨o1.keep hT.size (hrow _ (.inr (.inr (.inr (hrows i h2).1)))) hoff,o2.keep hT.size (hrow _ (.inr (.inr (.inr (hrows i h2).2)))) hoff⟩
 ·unfold allV;simp only [List.pairwise_cons];refine ⟨fun v hv=>?_,fun v hv=>?_,fun v hv=>?_,a4,a5⟩
  ·simp only [Afz] at hv;rcases hv with rfl | rfl | hv
   ·exact a1 _ (by simp)
   ·exact (hothers mv (.inl rfl)).1
   ·exact a1 v (by simp only [Afz];exact .inr (.inr hv))
  ·simp only [Afz] at hv;rcases hv with rfl | hv
   ·exact (hothers bv (.inr (.inl rfl))).1
   ·exact a2 v (by simp only [Afz];exact .inr hv)
  ·simp only [Afz] at hv;rcases hv with rfl | hv
   ·exact (hothers _ (.inr (.inr (.inl rfl)))).2
   ·exact (hothers v (.inr (.inr (.inr hv)))).2
 ·intro v hv b hb;unfold allV at hv;simp only [Afz] at hv;have hold:v∈allV mv bv pv ov rows→b∈own'∧b≠p∧b≠mp:=fun hm=>by
   obtain ⟨e1,e2,e3⟩:=hin v hm b hb;exact ⟨by rw [ho];exact Af8 _ e1,e2,e3⟩
  rcases hv with rfl | rfl | rfl | rfl | hv
  ·exact hold (by simp [allV])
  ·exact hold (by simp [allV])
  ·refine ⟨by rw [ho];exact List.mem_append_left _ (AX.2 hb),?_⟩;rcases hnew with h2 | ⟨g,hg,h2⟩
   ·exact (hpin b (h2.symm.trans hb)).2
   ·rw [h2] at hb;injection hb with hb;exact ⟨by omega,by omega⟩
  ·exact hold (by simp [allV])
  ·exact hold (by unfold allV;simp only [Afz];exact .inr (.inr (.inr (.inr hv))))
 ·rw [ho];exact Af8 _ h.pown
 ·rw [ho];exact Af8 _ h.mown
 ·intro b hb;rw [ho] at hb;rcases Af1.1 hb with hb | hb
  ·exact hnlt b (AX.1 hb)
  ·exact Aft (hlt b hb) hT.size
theorem Em.marked {lo p mp:Nat} {own own':List Nat} {w w':World} {s:ByteArray} {e:ES} {sv mv bv pv mv' ov:Value} {rows:List (Value × Value)} {q:Nat × Nat} (h:Em lo p mp own w s e sv mv bv pv ov rows)
  (hT:Touch p mv w w') (hnew:mv'.ownBlock=mv.ownBlock∨∃ g,w.heap.size≤g∧mv'.ownBlock=some g) (ho:own'=ownB mv'++own) (hN:w'.ownsRow lo 33 2 mv' (e.marks++[q]).length (marksC (e.marks++[q])))
  (hB:Blk w' p (EC (.string s) sv (.int .i64 (e.pos:Int)) mv' (.int .i64 (e.inner.op:Int)) (.int .i64 (e.inner.num:Int)) bv pv ov (.int .i64 (e.groups:Int)) (.map (some mp))) 210)
  (hok:EOk s.data.toList { e with marks:=e.marks++[q] }):Em lo p mp own' w' s { e with marks:=e.marks++[q] } sv mv' bv pv ov rows:=by
 have hin:∀ v∈allV mv bv pv ov rows,∀ b,v.ownBlock=some b→b∈own∧b≠p∧b≠mp:=h.inown;have hpin:∀ b,mv.ownBlock=some b→b∈own∧b≠p∧b≠mp:=fun b hb=>hin mv (by simp [allV]) b hb
 have hlt:∀ b∈own,b < w.heap.size:=h.ownlt;have hnlt:∀ b,mv'.ownBlock=some b→b < w'.heap.size:=fun b hb=>(hN.lt b hb).2
 have hsame:∀ b,b < w.heap.size→b≠p→mv.ownBlock≠some b→w'.heap[b]?=w.heap[b]?:=hT.block;have hoff:∀ b,b < w.heap.size→b ∉ own→w'.heap[b]?=w.heap[b]?∧b ∉ own':=fun b hb hbo=>by
  refine ⟨hsame b hb (fun e=>hbo (e▸h.pown)) (fun e=>hbo (hpin b e).1),?_⟩;rw [ho,Af1,not_or];refine ⟨fun e=>?_,hbo⟩;rw [AX] at e;rcases hnew with h2 | ⟨g,hg,h2⟩
  ·exact hbo (hpin b (h2.symm.trans e)).1
  ·rw [h2] at e;injection e with e;omega
 have hap:=h.apart;unfold allV at hap;simp only [List.pairwise_cons] at hap;obtain ⟨a1,a2,a3,a4,a5⟩:=hap;have hrow:∀ v,(v=pv∨v=bv∨v=ov∨v∈rows.flatMap fun r=>[r.1,r.2])→∀ b,v.ownBlock=some b→w'.heap[b]?=w.heap[b]?:=fun v hv b hb=>by
  have hmem:v∈allV mv bv pv ov rows:=by
   unfold allV;rcases hv with rfl | rfl | rfl | hv
   ·simp
   ·simp
   ·simp
   ·simp only [Afz];exact .inr (.inr (.inr (.inr hv)))
  obtain ⟨e1,e2,e3⟩:=hin v hmem b hb;refine hsame b (hlt b e1) e2 (fun hp=>?_);rcases hv with rfl | rfl | rfl | hv
  ·exact a1 _ (by simp) b hp hb
  ·exact a1 _ (by simp) b hp hb
  ·exact a1 _ (by simp) b hp hb
  ·exact a1 v (by simp only [Afz];exact .inr (.inr (.inr hv))) b hp hb
 have hothers:∀ v,(v=pv∨v=bv∨v=ov∨v∈rows.flatMap fun r=>[r.1,r.2])→Off2 v mv'∧Off2 mv' v:=fun v hv=>by
  have hmem:v∈allV mv bv pv ov rows:=by
   unfold allV;rcases hv with rfl | rfl | rfl | hv
   ·simp
   ·simp
   ·simp
   ·simp only [Afz];exact .inr (.inr (.inr (.inr hv)))
  have hvp:∀ b,v.ownBlock=some b→mv.ownBlock≠some b:=fun b hb hp=>by
   rcases hv with rfl | rfl | rfl | hv
   ·exact a1 _ (by simp) b hp hb
   ·exact a1 _ (by simp) b hp hb
   ·exact a1 _ (by simp) b hp hb
   ·exact a1 v (by simp only [Afz];exact .inr (.inr (.inr hv))) b hp hb
  have hvq:∀ b,v.ownBlock=some b→mv'.ownBlock≠some b:=fun b hb hp=>by
   rcases hnew with h2 | ⟨g,hg,h2⟩
   ·exact hvp b hb (h2.symm.trans hp)
   ·rw [h2] at hp;injection hp with hp;have:=hlt b (hin v hmem b hb).1;omega
  exact ⟨hvq,fun b hb hp=>hvq b hp hb⟩
 have hplt:p < w.heap.size:=hlt p h.pown;have hmlt:mp < w.heap.size:=hlt mp h.mown;have hrows:∀ i (h2:i < rows.length),(rows[i].1∈rows.flatMap fun r=>[r.1,r.2])∧(rows[i].2∈rows.flatMap fun r=>[r.1,r.2]):=fun i h2=>
  ⟨List.mem_flatMap.2 ⟨rows[i],List.getElem_mem h2,by simp⟩,List.mem_flatMap.2 ⟨rows[i],List.getElem_mem h2,by simp⟩⟩
 refine ⟨hB,h.lop,h.lom,?_,hN,h.bn.keep hT.size (hrow bv (.inr (.inl rfl))) hoff,h.pn.keep hT.size (hrow pv (.inl rfl)) hoff,Ab h.on (hrow ov (.inr (.inr (.inl rfl)))),h.ol,?_,h.cl.same (hsame mp hmlt (fun e=>h.pm e.symm) (fun e=>(hpin mp e).2.2 rfl)),?_,?_,?_,?_,h.pm,?_,hok⟩
 ·obtain ⟨a,c,e1,e2,e3⟩:=h.sg;refine ⟨a,c,e1,e2,fun h0=>?_⟩;obtain ⟨g,rfl,hg,hgl,hc⟩:=e3 h0;exact ⟨g,rfl,(hoff g hgl hg).2,Aft hgl hT.size,fun i hi=>(Afy (w:=w) (a:=⟨g,i,none⟩) (hoff g hgl hg).1).trans (hc i hi)⟩
 ·intro i h1 h2;obtain ⟨o1,o2⟩:=h.orow i h1 h2;exact ⟨o1.keep hT.size (hrow _ (.inr (.inr (.inr (hrows i h2).1)))) hoff,o2.keep hT.size (hrow _ (.inr (.inr (.inr (hrows i h2).2)))) hoff⟩
 ·unfold allV;simp only [List.pairwise_cons];refine ⟨fun v hv=>?_,a2,a3,a4,a5⟩;simp only [Afz] at hv;rcases hv with rfl | rfl | rfl | hv
  ·exact (hothers _ (.inr (.inl rfl))).2
  ·exact (hothers _ (.inl rfl)).2
  ·exact (hothers _ (.inr (.inr (.inl rfl)))).2
  ·exact (hothers v (.inr (.inr (.inr hv)))).2
 ·intro v hv b hb;unfold allV at hv;simp only [Afz] at hv;have hold:v∈allV mv bv pv ov rows→b∈own'∧b≠p∧b≠mp:=fun hm=>by
   obtain ⟨e1,e2,e3⟩:=hin v hm b hb;exact ⟨by rw [ho];exact Af8 _ e1,e2,e3⟩
  rcases hv with rfl | rfl | rfl | rfl | hv
  ·refine ⟨by rw [ho];exact List.mem_append_left _ (AX.2 hb),?_⟩;rcases hnew with h2 | ⟨g,hg,h2⟩
   ·exact (hpin b (h2.symm.trans hb)).2
   ·rw [h2] at hb;injection hb with hb;exact ⟨by omega,by omega⟩
  ·exact hold (by simp [allV])
  ·exact hold (by simp [allV])
  ·exact hold (by simp [allV])
  ·exact hold (by unfold allV;simp only [Afz];exact .inr (.inr (.inr (.inr hv))))
 ·rw [ho];exact Af8 _ h.pown
 ·rw [ho];exact Af8 _ h.mown
 ·intro b hb;rw [ho] at hb;rcases Af1.1 hb with hb | hb
  ·exact hnlt b (AX.1 hb)
  ·exact Aft (hlt b hb) hT.size
theorem Em.branched {lo p mp:Nat} {own own':List Nat} {w w':World} {s:ByteArray} {e:ES} {sv mv bv pv bv' ov:Value} {rows:List (Value × Value)} {l:List Nd} (h:Em lo p mp own w s e sv mv bv pv ov rows)
  (hT:Touch p bv w w') (hnew:bv'.ownBlock=bv.ownBlock∨∃ g,w.heap.size≤g∧bv'.ownBlock=some g) (ho:own'=ownB bv'++own) (hN:NR lo own' w' l bv')
  (hB:Blk w' p (EC (.string s) sv (.int .i64 (e.pos:Int)) mv (.int .i64 (e.inner.op:Int)) (.int .i64 (e.inner.num:Int)) bv' (.slice none 0 0) ov (.int .i64 (e.groups:Int)) (.map (some mp))) 210)
  (hok:EOk s.data.toList (e.lv e.st l [])):Em lo p mp own' w' s (e.lv e.st l []) sv mv bv' (.slice none 0 0) ov rows:=by
 have hin:∀ v∈allV mv bv pv ov rows,∀ b,v.ownBlock=some b→b∈own∧b≠p∧b≠mp:=h.inown;have hpin:∀ b,bv.ownBlock=some b→b∈own∧b≠p∧b≠mp:=fun b hb=>hin bv (by simp [allV]) b hb
 have hlt:∀ b∈own,b < w.heap.size:=h.ownlt;have hnlt:∀ b,bv'.ownBlock=some b→b < w'.heap.size:=fun b hb=>(hN.lt b hb).2
 have hsame:∀ b,b < w.heap.size→b≠p→bv.ownBlock≠some b→w'.heap[b]?=w.heap[b]?:=hT.block;have hoff:∀ b,b < w.heap.size→b ∉ own→w'.heap[b]?=w.heap[b]?∧b ∉ own':=fun b hb hbo=>by
  refine ⟨hsame b hb (fun e=>hbo (e▸h.pown)) (fun e=>hbo (hpin b e).1),?_⟩;rw [ho,Af1,not_or];refine ⟨fun e=>?_,hbo⟩;rw [AX] at e;rcases hnew with h2 | ⟨g,hg,h2⟩
  ·exact hbo (hpin b (h2.symm.trans e)).1
  ·rw [h2] at e;injection e with e;omega
 have hap:=h.apart;unfold allV at hap;simp only [List.pairwise_cons] at hap;obtain ⟨a1,a2,a3,a4,a5⟩:=hap;have hrow:∀ v,(v=pv∨v=mv∨v=ov∨v∈rows.flatMap fun r=>[r.1,r.2])→∀ b,v.ownBlock=some b→w'.heap[b]?=w.heap[b]?:=fun v hv b hb=>by
  have hmem:v∈allV mv bv pv ov rows:=by
   unfold allV;rcases hv with rfl | rfl | rfl | hv
   ·simp
   ·simp
   ·simp
   ·simp only [Afz];exact .inr (.inr (.inr (.inr hv)))
  obtain ⟨e1,e2,e3⟩:=hin v hmem b hb;refine hsame b (hlt b e1) e2 (fun hp=>?_);rcases hv with rfl | rfl | rfl | hv
  ·exact a2 _ (by simp) b hp hb
  ·exact a1 bv (by simp) b hb hp
  ·exact a2 _ (by simp) b hp hb
  ·exact a2 v (by simp only [Afz];exact .inr (.inr hv)) b hp hb
 have hothers:∀ v,(v=pv∨v=mv∨v=ov∨v∈rows.flatMap fun r=>[r.1,r.2])→Off2 v bv'∧Off2 bv' v:=fun v hv=>by
  have hmem:v∈allV mv bv pv ov rows:=by
   unfold allV;rcases hv with rfl | rfl | rfl | hv
   ·simp
   ·simp
   ·simp
   ·simp only [Afz];exact .inr (.inr (.inr (.inr hv)))
  have hvp:∀ b,v.ownBlock=some b→bv.ownBlock≠some b:=fun b hb hp=>by
   rcases hv with rfl | rfl | rfl | hv
   ·exact a2 _ (by simp) b hp hb
   ·exact a1 bv (by simp) b hb hp
   ·exact a2 _ (by simp) b hp hb
   ·exact a2 v (by simp only [Afz];exact .inr (.inr hv)) b hp hb
  have hvq:∀ b,v.ownBlock=some b→bv'.ownBlock≠some b:=fun b hb hp=>by
   rcases hnew with h2 | ⟨g,hg,h2⟩
   ·exact hvp b hb (h2.symm.trans hp)
   ·rw [h2] at hp;injection hp with hp;have:=hlt b (hin v hmem b hb).1;omega
  exact ⟨hvq,fun b hb hp=>hvq b hp hb⟩
 have hplt:p < w.heap.size:=hlt p h.pown;have hmlt:mp < w.heap.size:=hlt mp h.mown;have hrows:∀ i (h2:i < rows.length),(rows[i].1∈rows.flatMap fun r=>[r.1,r.2])∧(rows[i].2∈rows.flatMap fun r=>[r.1,r.2]):=fun i h2=>
  ⟨List.mem_flatMap.2 ⟨rows[i],List.getElem_mem h2,by simp⟩,List.mem_flatMap.2 ⟨rows[i],List.getElem_mem h2,by simp⟩⟩
 refine ⟨hB,h.lop,h.lom,?_,Ab h.mks (hrow mv (.inr (.inl rfl))),hN,NR.nil _ _ _,Ab h.on (hrow ov (.inr (.inr (.inl rfl)))),h.ol,?_,h.cl.same (hsame mp hmlt (fun e=>h.pm e.symm) (fun e=>(hpin mp e).2.2 rfl)),?_,?_,?_,?_,h.pm,?_,hok⟩
 ·obtain ⟨a,c,e1,e2,e3⟩:=h.sg;refine ⟨a,c,e1,e2,fun h0=>?_⟩;obtain ⟨g,rfl,hg,hgl,hc⟩:=e3 h0;exact ⟨g,rfl,(hoff g hgl hg).2,Aft hgl hT.size,fun i hi=>(Afy (w:=w) (a:=⟨g,i,none⟩) (hoff g hgl hg).1).trans (hc i hi)⟩
 ·intro i h1 h2;obtain ⟨o1,o2⟩:=h.orow i h1 h2;exact ⟨o1.keep hT.size (hrow _ (.inr (.inr (.inr (hrows i h2).1)))) hoff,o2.keep hT.size (hrow _ (.inr (.inr (.inr (hrows i h2).2)))) hoff⟩
 ·unfold allV;simp only [List.pairwise_cons];refine ⟨fun v hv=>?_,fun v hv=>?_,fun v hv=>fun b hb=>(by simp [Value.ownBlock] at hb),a4,a5⟩
  ·simp only [Afz] at hv;rcases hv with rfl | rfl | rfl | hv
   ·exact (hothers mv (.inr (.inl rfl))).1
   ·exact fun b hb hp=>(by simp [Value.ownBlock] at hp)
   ·exact a1 _ (by simp)
   ·exact a1 v (by simp only [Afz];exact .inr (.inr (.inr hv)))
  ·simp only [Afz] at hv;rcases hv with rfl | rfl | hv
   ·exact fun b hb hp=>(by simp [Value.ownBlock] at hp)
   ·exact (hothers _ (.inr (.inr (.inl rfl)))).2
   ·exact (hothers v (.inr (.inr (.inr hv)))).2
 ·intro v hv b hb;unfold allV at hv;simp only [Afz] at hv;have hold:v∈allV mv bv pv ov rows→b∈own'∧b≠p∧b≠mp:=fun hm=>by
   obtain ⟨e1,e2,e3⟩:=hin v hm b hb;exact ⟨by rw [ho];exact Af8 _ e1,e2,e3⟩
  rcases hv with rfl | rfl | rfl | rfl | hv
  ·exact hold (by simp [allV])
  ·refine ⟨by rw [ho];exact List.mem_append_left _ (AX.2 hb),?_⟩;rcases hnew with h2 | ⟨g,hg,h2⟩
   ·exact (hpin b (h2.symm.trans hb)).2
   ·rw [h2] at hb;injection hb with hb;exact ⟨by omega,by omega⟩
  ·simp [Value.ownBlock] at hb
  ·exact hold (by simp [allV])
  ·exact hold (by unfold allV;simp only [Afz];exact .inr (.inr (.inr (.inr hv))))
 ·rw [ho];exact Af8 _ h.pown
 ·rw [ho];exact Af8 _ h.mown
 ·intro b hb;rw [ho] at hb;rcases Af1.1 hb with hb | hb
  ·exact hnlt b (AX.1 hb)
  ·exact Aft (hlt b hb) hT.size
theorem Em.opened {lo p mp:Nat} {own own':List Nat} {w w':World} {s:ByteArray} {e:ES} {sv mv bv pv ov ov':Value} {rows:List (Value × Value)} {k g':Nat} (h:Em lo p mp own w s e sv mv bv pv ov rows)
  (hT:Touch p ov w w') (hnew:ov'.ownBlock=ov.ownBlock∨∃ g,w.heap.size≤g∧ov'.ownBlock=some g) (ho:own'=ownB ov'++own) (hN:w'.ownsRow lo 207 4 ov' (e.outer.length+1) (levC e.outer rows++[.int .i64 (e.inner.op:Int),.int .i64 (e.inner.num:Int),bv,pv]))
  (hB:Blk w' p (EC (.string s) sv (.int .i64 (e.pos:Int)) mv (.int .i64 (k:Int)) (.int .i64 (g':Int)) (.slice none 0 0) (.slice none 0 0) ov' (.int .i64 (g':Int)) (.map (some mp))) 210)
  (hok:EOk s.data.toList { e with groups:=g',outer:=e.outer++[e.inner],inner:=⟨k,g',[],[]⟩ }):Em lo p mp own' w' s { e with groups:=g',outer:=e.outer++[e.inner],inner:=⟨k,g',[],[]⟩ } sv mv (.slice none 0 0) (.slice none 0 0) ov' (rows++[(bv,pv)]):=by
 have hin:∀ v∈allV mv bv pv ov rows,∀ b,v.ownBlock=some b→b∈own∧b≠p∧b≠mp:=h.inown;have hpin:∀ b,ov.ownBlock=some b→b∈own∧b≠p∧b≠mp:=fun b hb=>hin ov (by simp [allV]) b hb
 have hlt:∀ b∈own,b < w.heap.size:=h.ownlt;have hnlt:∀ b,ov'.ownBlock=some b→b < w'.heap.size:=fun b hb=>(hN.lt b hb).2
 have hsame:∀ b,b < w.heap.size→b≠p→ov.ownBlock≠some b→w'.heap[b]?=w.heap[b]?:=hT.block;have hoff:∀ b,b < w.heap.size→b ∉ own→w'.heap[b]?=w.heap[b]?∧b ∉ own':=fun b hb hbo=>by
  refine ⟨hsame b hb (fun e=>hbo (e▸h.pown)) (fun e=>hbo (hpin b e).1),?_⟩;rw [ho,Af1,not_or];refine ⟨fun e=>?_,hbo⟩;rw [AX] at e;rcases hnew with h2 | ⟨g,hg,h2⟩
  ·exact hbo (hpin b (h2.symm.trans e)).1
  ·rw [h2] at e;injection e with e;omega
 have hap:=h.apart;unfold allV at hap;simp only [List.pairwise_cons] at hap;obtain ⟨a1,a2,a3,a4,a5⟩:=hap;have hrow:∀ v,(v=pv∨v=bv∨v=mv∨v∈rows.flatMap fun r=>[r.1,r.2])→∀ b,v.ownBlock=some b→w'.heap[b]?=w.heap[b]?:=fun v hv b hb=>by
  have hmem:v∈allV mv bv pv ov rows:=by
   unfold allV;rcases hv with rfl | rfl | rfl | hv
   ·simp
   ·simp
   ·simp
   ·simp only [Afz];exact .inr (.inr (.inr (.inr hv)))
  obtain ⟨e1,e2,e3⟩:=hin v hmem b hb;refine hsame b (hlt b e1) e2 (fun hp=>?_);rcases hv with rfl | rfl | rfl | hv
  ·exact a3 ov (by simp) b hb hp
  ·exact a2 ov (by simp) b hb hp
  ·exact a1 ov (by simp) b hb hp
  ·exact a4 v hv b hp hb
 have hothers:∀ v,(v=pv∨v=bv∨v=mv∨v∈rows.flatMap fun r=>[r.1,r.2])→Off2 v ov'∧Off2 ov' v:=fun v hv=>by
  have hmem:v∈allV mv bv pv ov rows:=by
   unfold allV;rcases hv with rfl | rfl | rfl | hv
   ·simp
   ·simp
   ·simp
   ·simp only [Afz];exact .inr (.inr (.inr (.inr hv)))
  have hvp:∀ b,v.ownBlock=some b→ov.ownBlock≠some b:=fun b hb hp=>by
   rcases hv with rfl | rfl | rfl | hv
   ·exact a3 ov (by simp) b hb hp
   ·exact a2 ov (by simp) b hb hp
   ·exact a1 ov (by simp) b hb hp
   ·exact a4 v hv b hp hb
  have hvq:∀ b,v.ownBlock=some b→ov'.ownBlock≠some b:=fun b hb hp=>by
   rcases hnew with h2 | ⟨g,hg,h2⟩
   ·exact hvp b hb (h2.symm.trans hp)
   ·rw [h2] at hp;injection hp with hp;have:=hlt b (hin v hmem b hb).1;omega
  exact ⟨hvq,fun b hb hp=>hvq b hp hb⟩
 have hplt:p < w.heap.size:=hlt p h.pown;have hmlt:mp < w.heap.size:=hlt mp h.mown;have hrows:∀ i (h2:i < rows.length),(rows[i].1∈rows.flatMap fun r=>[r.1,r.2])∧(rows[i].2∈rows.flatMap fun r=>[r.1,r.2]):=fun i h2=>
  ⟨List.mem_flatMap.2 ⟨rows[i],List.getElem_mem h2,by simp⟩,List.mem_flatMap.2 ⟨rows[i],List.getElem_mem h2,by simp⟩⟩
 have hz:∀ (L:List Lv) (R:List (Value × Value)) (v:Lv) (r:Value × Value),R.length=L.length→levC (L++[v]) (R++[r])=levC L R++[.int .i64 (v.op:Int),.int .i64 (v.num:Int),r.1,r.2]:=fun L R v r hl=>by
  unfold levC;rw [List.zip_append (by omega),List.flatMap_append];simp
 have hnil:∀ v:Value,Off2 (.slice none 0 0) v∧Off2 v (.slice none 0 0):=fun v=>⟨fun b hb=>(by simp [Value.ownBlock] at hb),fun b hb hp=>(by simp [Value.ownBlock] at hp)⟩
 have hfm:(rows++[(bv,pv)]).flatMap (fun r=>[r.1,r.2])=(rows.flatMap fun r=>[r.1,r.2])++[bv,pv]:=by rw [List.flatMap_append];simp
 refine ⟨hB,h.lop,h.lom,?_,Ab h.mks (hrow mv (.inr (.inr (.inl rfl)))),NR.nil _ _ _,NR.nil _ _ _,?_,?_,?_,h.cl.same (hsame mp hmlt (fun e=>h.pm e.symm) (fun e=>(hpin mp e).2.2 rfl)),?_,?_,?_,?_,h.pm,?_,hok⟩
 ·obtain ⟨a,c,e1,e2,e3⟩:=h.sg;refine ⟨a,c,e1,e2,fun h0=>?_⟩;obtain ⟨g,rfl,hg,hgl,hc⟩:=e3 h0;exact ⟨g,rfl,(hoff g hgl hg).2,Aft hgl hT.size,fun i hi=>(Afy (w:=w) (a:=⟨g,i,none⟩) (hoff g hgl hg).1).trans (hc i hi)⟩
 ·show w'.ownsRow lo 207 4 ov' (e.outer++[e.inner]).length (levC (e.outer++[e.inner]) (rows++[(bv,pv)]));rw [hz _ _ _ _ h.ol,Afs];exact hN
 ·show (rows++[(bv,pv)]).length=(e.outer++[e.inner]).length;rw [Afs,Afs,h.ol];rfl
 ·intro i h1 h2;have hol:=h.ol;by_cases hi:i < e.outer.length
  ·obtain ⟨o1,o2⟩:=h.orow i hi (by omega);have e1:(rows++[(bv,pv)])[i]'h2=rows[i]'(by omega):=Af0 (by omega);have e2:(e.outer++[e.inner])[i]'h1=e.outer[i]'hi:=Af0 hi;rw [e1];show NR lo own' w' ((e.outer++[e.inner])[i]'h1).brs _∧NR lo own' w' ((e.outer++[e.inner])[i]'h1).pcs _;rw [e2];exact ⟨o1.keep hT.size (hrow _ (.inr (.inr (.inr (hrows i (by omega)).1)))) hoff,o2.keep hT.size (hrow _ (.inr (.inr (.inr (hrows i (by omega)).2)))) hoff⟩
  ·have h1':i < (e.outer++[e.inner]).length:=h1;have hie:i=e.outer.length:=by rw [Afs] at h1';simp at h1';omega
   subst hie;have e1:(rows++[(bv,pv)])[e.outer.length]'h2=(bv,pv):=by rw [List.getElem_append_right (by omega)];simp [hol]
   have e2:(e.outer++[e.inner])[e.outer.length]'h1=e.inner:=by rw [List.getElem_append_right (Afq _)];simp
   rw [e1];show NR lo own' w' ((e.outer++[e.inner])[e.outer.length]'h1).brs _∧NR lo own' w' ((e.outer++[e.inner])[e.outer.length]'h1).pcs _;rw [e2];exact ⟨h.bn.keep hT.size (hrow bv (.inr (.inl rfl))) hoff,h.pn.keep hT.size (hrow pv (.inl rfl)) hoff⟩
 ·unfold allV;rw [hfm];simp only [List.pairwise_cons];refine ⟨fun v hv=>?_,fun v _=>(hnil v).1,fun v _=>(hnil v).1,fun v hv=>?_,?_⟩
  ·simp only [Afz,Af1] at hv;rcases hv with rfl | rfl | rfl | hv | rfl | rfl | hv
   ·exact (hnil _).2
   ·exact (hnil _).2
   ·exact (hothers mv (.inr (.inr (.inl rfl)))).1
   ·exact a1 v (by simp only [Afz];exact .inr (.inr (.inr hv)))
   ·exact a1 _ (by simp)
   ·exact a1 _ (by simp)
   ·cases hv
  ·simp only [Afz,Af1] at hv;rcases hv with hv | rfl | rfl | hv
   ·exact (hothers v (.inr (.inr (.inr hv)))).2
   ·exact (hothers _ (.inr (.inl rfl))).2
   ·exact (hothers _ (.inl rfl)).2
   ·cases hv
  ·rw [List.pairwise_append];refine ⟨a5,?_,fun u hu v hv=>?_⟩
   ·simp only [List.pairwise_cons];refine ⟨fun v hv=>?_,fun v hv=>(by cases hv),List.Pairwise.nil⟩;simp only [Afz] at hv;rcases hv with rfl | hv
    ·exact a2 _ (by simp)
    ·cases hv
   ·simp only [Afz] at hv;rcases hv with rfl | rfl | hv
    ·exact fun b hb hp=>a2 u (by simp only [Afz];exact .inr (.inr hu)) b hp hb
    ·exact fun b hb hp=>a3 u (by simp only [Afz];exact .inr hu) b hp hb
    ·cases hv
 ·intro v hv b hb;unfold allV at hv;rw [hfm] at hv;simp only [Afz,Af1] at hv;have hold:v∈allV mv bv pv ov rows→b∈own'∧b≠p∧b≠mp:=fun hm=>by
   obtain ⟨e1,e2,e3⟩:=hin v hm b hb;exact ⟨by rw [ho];exact Af8 _ e1,e2,e3⟩
  rcases hv with rfl | rfl | rfl | rfl | hv | rfl | rfl | hv
  ·exact hold (by simp [allV])
  ·simp [Value.ownBlock] at hb
  ·simp [Value.ownBlock] at hb
  ·refine ⟨by rw [ho];exact List.mem_append_left _ (AX.2 hb),?_⟩;rcases hnew with h2 | ⟨g,hg,h2⟩
   ·exact (hpin b (h2.symm.trans hb)).2
   ·rw [h2] at hb;injection hb with hb;exact ⟨by omega,by omega⟩
  ·exact hold (by unfold allV;simp only [Afz];exact .inr (.inr (.inr (.inr hv))))
  ·exact hold (by simp [allV])
  ·exact hold (by simp [allV])
  ·cases hv
 ·rw [ho];exact Af8 _ h.pown
 ·rw [ho];exact Af8 _ h.mown
 ·intro b hb;rw [ho] at hb;rcases Af1.1 hb with hb | hb
  ·exact hnlt b (AX.1 hb)
  ·exact Aft (hlt b hb) hT.size
theorem QG:∃ i,Tryz.prog.info? 207=some i∧i.zero=some (.agg #[.int .i64 0,.int .i64 0,.slice none 0 0,.slice none 0 0])∧i.size=4∧i.bytes=64:=by
 have h:(Tryz.prog.info? 207).map (fun i=>(i.zero,i.size,i.bytes))=some (some (.agg #[.int .i64 0,.int .i64 0,.slice none 0 0,.slice none 0 0]),4,64):=by kernel_rfl
 obtain ⟨i,hi,he⟩:=Option.map_eq_some_iff.1 h;injection he with h1 h2;injection h2 with h2 h3;exact ⟨i,hi,h1,h2,h3⟩
theorem Touch.trans {p:Nat} {v:Value} {w w1 w2:World} (h:Touch p v w w1) (k:Touch p v w1 w2):Touch p v w w2:=
 ⟨k.os.trans h.os,k.tape.trans h.tape,k.output.trans h.output,Afr h.size k.size,fun b hb e1 e2=>(k.block b (Aft hb h.size) e1 e2).trans (h.block b hb e1 e2)⟩
theorem NR.form {lo:Nat} {own:List Nat} {w:World} {l:List Nd} {v:Value} (h:NR lo own w l v):∃ a c,v=.slice a l.length c:=by
 obtain ⟨us,_,h2,_,_⟩:=h;exact Bg h2
theorem QH (lo p mp:Nat) (own:List Nat) (w:World) (s:ByteArray) (e:ES) (sv mv bv pv ov:Value) (rows:List (Value × Value)) (h:Em lo p mp own w s e sv mv bv pv ov rows) (k:Nat) (hd:e.outer.length=12) :
  Calls prog 129 #[.pointer (some ⟨p,0,none⟩),.int .i64 (k:Int)] w fun x w'=>x=.returned (.tuple #[.int .i64 (k:Int),.int .i64 4])∧w'=w:=by
 obtain ⟨oa,oc,rfl⟩:=Bg h.on;have k8:w.cell? ⟨p,8,none⟩=some (.slice oa e.outer.length oc):=(h.blk.cell 8).trans rfl;rw [hd] at k8;clear h;go_enter func129,ntmps129;go_wp2_with fail
 go_ret2
 exact ⟨rfl,rfl⟩
theorem Ub (lo p mp:Nat) (own:List Nat) (w:World) (s:ByteArray) (e:ES) (sv mv bv pv ov:Value) (rows:List (Value × Value)) (h:Em lo p mp own w s e sv mv bv pv ov rows) (k:Nat) (hd:e.outer.length < 12) (hg:e.groups≤250)
  (hok:EOk s.data.toList { e with groups:=e.groups+1,outer:=e.outer++[e.inner],inner:=⟨k,e.groups+1,[],[]⟩ }) :
  Calls prog 129 #[.pointer (some ⟨p,0,none⟩),.int .i64 (k:Int)] w fun x w'=>x=.returned (.tuple #[.int .i64 0,.int .i64 0])∧∃ own' ov',Em lo p mp own' w' s { e with groups:=e.groups+1,outer:=e.outer++[e.inner],inner:=⟨k,e.groups+1,[],[]⟩ } sv mv (.slice none 0 0) (.slice none 0 0) ov' (rows++[(bv,pv)])∧w.heap.size≤w'.heap.size∧Touch p ov w w':=by
 obtain ⟨i0,hi,hz0,hz1,hz2⟩:=QG;obtain ⟨oa,oc,rfl⟩:=Bg h.on;obtain ⟨ba,bc,rfl⟩:=h.bn.form;obtain ⟨pa,pc,rfl⟩:=h.pn.form;have hb:=h.blk;have hplt:=hb.lt;have hop:(Value.slice oa e.outer.length oc).ownBlock≠some p:=fun hx=>(h.inown _ (by simp [allV]) p hx).2.1 rfl
 have k4:w.cell? ⟨p,4,none⟩=some (.int .i64 (e.inner.op:Int)):=(hb.cell 4).trans rfl;have k5:w.cell? ⟨p,5,none⟩=some (.int .i64 (e.inner.num:Int)):=(hb.cell 5).trans rfl;have k6:w.cell? ⟨p,6,none⟩=some (.slice ba e.inner.brs.length bc):=(hb.cell 6).trans rfl;have k7:w.cell? ⟨p,7,none⟩=some (.slice pa e.inner.pcs.length pc):=(hb.cell 7).trans rfl;have k8:w.cell? ⟨p,8,none⟩=some (.slice oa e.outer.length oc):=(hb.cell 8).trans rfl;have k9:w.cell? ⟨p,9,none⟩=some (.int .i64 (e.groups:Int)):=(hb.cell 9).trans rfl;have z9:=hb.frozen 9;have Wg:IntKind.i64.wrap ((e.groups:Int)+1)=((e.groups+1:Nat):Int):=by rw [Afx _ (by omega)];omega
 have e0:((e.outer.length:Int) == 12)=false:=by rw [beq_eq_false_iff_ne];omega
 have e1:(e.outer.length == 12)=false:=by rw [beq_eq_false_iff_ne];omega
 have HH:=Afj h;have HB:=Afj hb;have HOK:=Afj hok;clear h hb hok;go_enter func129,ntmps129;go_wp2_with fail
 obtain ⟨W1,hW1⟩:∃ W1,W1=w.setCell ⟨p,9,none⟩ (.int .i64 ((e.groups:Int)+1)):=⟨_,rfl⟩;rw [←hW1];have hB1:Blk W1 p (EC (.string s) sv (.int .i64 (e.pos:Int)) mv (.int .i64 (e.inner.op:Int)) (.int .i64 (e.inner.num:Int)) (.slice ba e.inner.brs.length bc) (.slice pa e.inner.pcs.length pc) (.slice oa e.outer.length oc) (.int .i64 ((e.groups:Int)+1)) (.map (some mp))) 210:=by rw [hW1];exact HB.out.set 9 _
 have hs1:W1.heap.size=w.heap.size:=by rw [hW1];simp [World.setCell]
 have hT1:Touch p (.slice oa e.outer.length oc) w W1:=by rw [hW1];exact (Touch.refl _ _ _).cell _
 have ho1:W1.ownsRow lo 207 4 (.slice oa e.outer.length oc) e.outer.length (levC e.outer rows):=by
  rw [hW1];exact Ab HH.out.on (fun q hq=>Afw _ _ _ _ (fun x=>hop (by rw [hq,x])))
 have HS1:=Afj hs1;have HT1:=Afj hT1;have HO1:=Afj ho1;have HB1:=Afj hB1;have hp1:=hB1.lt;have q4:W1.cell? ⟨p,4,none⟩=some (.int .i64 (e.inner.op:Int)):=(hB1.cell 4).trans rfl;have q5:W1.cell? ⟨p,5,none⟩=some (.int .i64 (e.inner.num:Int)):=(hB1.cell 5).trans rfl;have q6:W1.cell? ⟨p,6,none⟩=some (.slice ba e.inner.brs.length bc):=(hB1.cell 6).trans rfl;have q7:W1.cell? ⟨p,7,none⟩=some (.slice pa e.inner.pcs.length pc):=(hB1.cell 7).trans rfl;have q8:W1.cell? ⟨p,8,none⟩=some (.slice oa e.outer.length oc):=(hB1.cell 8).trans rfl;have hm1:e.outer.length+1≤maxLen:=by unfold maxLen;omega
 have hm2:(e.outer.length+1) * 64≤140737488355328:=by omega
 have hlw:lo≤W1.heap.size:=Afr HH.out.lop (Afu hp1);have hnews:∀ W:World,W.heap.size=W1.heap.size→∀ j u,[Value.int .i64 (e.inner.op:Int),.int .i64 (e.inner.num:Int),.slice ba e.inner.brs.length bc,.slice pa e.inner.pcs.length pc][j]?=some u→(W.alloc (.cells #[.int .i64 (e.inner.op:Int),.int .i64 (e.inner.num:Int),.slice ba e.inner.brs.length bc,.slice pa e.inner.pcs.length pc] 207)).cell? ((⟨W1.heap.size,0,none⟩:Addr).add j)=some u:=fun W hW j u hu=>by
  have hb2:=Blk.new W #[.int .i64 (e.inner.op:Int),.int .i64 (e.inner.num:Int),.slice ba e.inner.brs.length bc,.slice pa e.inner.pcs.length pc] 207 W1.heap.size hW.symm;rw [Go.WideShapes.add_plain,Nat.zero_add,hb2.cell j,←Array.getElem?_toList];exact hu
 have hv1:∀ u∈[Value.int .i64 (e.inner.op:Int),.int .i64 (e.inner.num:Int),.slice ba e.inner.brs.length bc,.slice pa e.inner.pcs.length pc],u.oneCell'=true:=by
  intro u hu;simp only [Afz] at hu;rcases hu with rfl | rfl | rfl | rfl | hu
  ·rfl
  ·rfl
  ·rfl
  ·rfl
  ·cases hu
 clear hW1 hs1 hT1 ho1 hB1 k4 k5 k6 k7 k8 k9 z9;go_upto_region 4 with fail
 go_region_law (first
  | (refine A6 rfl _ _ 208 rfl lo 207 i0 (.agg #[.int .i64 0,.int .i64 0,.slice none 0 0,.slice none 0 0]) 4 64 underlying208 hi hz0 hz1 hz2 rfl (by decide) (.slice oa e.outer.length oc) e.outer.length (levC e.outer rows) rfl (Ah HO1.out (by repeat (first | (with_reducible exact Afv _ _) | refine Agb ?_ | refine Agc ?_ (Afq _) _))) (some ⟨W1.heap.size,0,none⟩) 1 1 [.int .i64 (e.inner.op:Int),.int .i64 (e.inner.num:Int),.slice ba e.inner.brs.length bc,.slice pa e.inner.pcs.length pc] rfl rfl (fun _=>⟨_,rfl,hnews _ rfl⟩) hv1 hm1 hm2 (by simp;omega) ?_;intro v6 w6 hown6 hgrow6 hat6;obtain ⟨a6,c6,rfl⟩:=Bg hown6;have hB6:=Ea ((HB1.out.alloc _).drew) hgrow6 hop;have f4:=hB6.frozen 4;have f5:=hB6.frozen 5;have f6:=hB6.frozen 6;have f7:=hB6.frozen 7;have f8:=hB6.frozen 8;have g4:w6.cell? ⟨p,4,none⟩=some (.int .i64 (e.inner.op:Int)):=(hB6.cell 4).trans rfl;have g5:w6.cell? ⟨p,5,none⟩=some (.int .i64 (e.inner.num:Int)):=(hB6.cell 5).trans rfl;have g6:w6.cell? ⟨p,6,none⟩=some (.slice ba e.inner.brs.length bc):=(hB6.cell 6).trans rfl;have g7:w6.cell? ⟨p,7,none⟩=some (.slice pa e.inner.pcs.length pc):=(hB6.cell 7).trans rfl;have g8:w6.cell? ⟨p,8,none⟩=some (.slice oa e.outer.length oc):=(hB6.cell 8).trans rfl;have g9:w6.cell? ⟨p,9,none⟩=some (.int .i64 ((e.groups:Int)+1)):=(hB6.cell 9).trans rfl;have HT:=Afj (fun y=>Ks (p:=p) (j:=8) (((Afv W1.heap.size W1).alloc (Afq _) _).drew) hgrow6 y);have HA:=Afj hat6;have HO:=Afj hown6;have HB6:=Afj hB6;clear hown6 hgrow6 hat6 hB6))
 all_goals go_wp2_with fail
 all_goals go_ret2
 all_goals
  have hF:(Value.slice a6 (e.outer.length+1) c6).ownBlock=(Value.slice oa e.outer.length oc).ownBlock∨∃ q,w.heap.size≤q∧(Value.slice a6 (e.outer.length+1) c6).ownBlock=some q:=by
   rcases HA.out with h | h
   ·exact .inl h
   ·exact .inr ⟨_,by have:=HS1.out;simp;omega,h⟩
  have hvp:(Value.slice a6 (e.outer.length+1) c6).ownBlock≠some p:=by
   rcases hF with h | ⟨q,hq,h⟩
   ·rw [h];exact hop
   ·rw [h];intro x;injection x with x;omega
  have hT:=HT1.out.trans (((((HT.out (.slice a6 (e.outer.length+1) c6)).cell (j:=4) (.int .i64 (k:Int))).cell (j:=5) (.int .i64 ((e.groups:Int)+1))).cell (j:=6) (.slice none 0 0)).cell (j:=7) (.slice none 0 0));have hB:=((((HB6.out.set 8 (.slice a6 (e.outer.length+1) c6)).set 4 (.int .i64 (k:Int))).set 5 (.int .i64 ((e.groups:Int)+1))).set 6 (.slice none 0 0)).set 7 (.slice none 0 0);have hfar:∀ (W:World) (j:Nat) (y:Value) (q:Nat),(Value.slice a6 (e.outer.length+1) c6).ownBlock=some q→(W.setCell ⟨p,j,none⟩ y).heap[q]?=W.heap[q]?:=fun W j y q hq=>Afw _ _ _ _ (fun x=>hvp (by rw [hq,x]))
  have hN:=Ab (Ab (Ab (Ab (Ab HO.out (hfar _ 8 (.slice a6 (e.outer.length+1) c6))) (hfar _ 4 (.int .i64 (k:Int)))) (hfar _ 5 (.int .i64 ((e.groups:Int)+1)))) (hfar _ 6 (.slice none 0 0))) (hfar _ 7 (.slice none 0 0));exact ⟨rfl,_,_,Em.opened (k:=k) (g':=e.groups+1) HH.out hT hF rfl hN hB HOK.out,hT.size,hT⟩
theorem QI (d:Int) (h0:0≤d) (h1:d≤255):keyOf prog 3 (.int .i64 d)=some (.int .i64 d):=by
 have hu:=underlying3;have hw:(Lit.int .i64 d).wf=true:=by simp [Lit.wf,IntKind.min,IntKind.max,IntKind.bits,IntKind.signed];omega
 simp [keyOf,mapKey,hu,hw]
theorem Em.below {lo p mp:Nat} {own:List Nat} {w w':World} {s:ByteArray} {e:ES} {sv mv bv pv ov:Value} {rows:List (Value × Value)} (h:Em lo p mp own w s e sv mv bv pv ov rows) (hb:Below w.heap.size w w'):Em lo p mp own w' s e sv mv bv pv ov rows:=by
 have hrow:∀ v,v∈allV mv bv pv ov rows→∀ b,v.ownBlock=some b→w'.heap[b]?=w.heap[b]?:=fun v hv b hx=>hb.block b (h.ownlt b (h.inown v hv b hx).1)
 have hoff:∀ b,b < w.heap.size→b ∉ own→w'.heap[b]?=w.heap[b]?∧b ∉ own:=fun b hl ho=>⟨hb.block b hl,ho⟩
 have hrows:∀ i (h2:i < rows.length),(rows[i].1∈rows.flatMap fun r=>[r.1,r.2])∧(rows[i].2∈rows.flatMap fun r=>[r.1,r.2]):=fun i h2=>
  ⟨List.mem_flatMap.2 ⟨rows[i],List.getElem_mem h2,by simp⟩,List.mem_flatMap.2 ⟨rows[i],List.getElem_mem h2,by simp⟩⟩
 have hin:∀ v,v∈(rows.flatMap fun r=>[r.1,r.2])→v∈allV mv bv pv ov rows:=fun v hv=>by unfold allV;simp only [Afz];exact .inr (.inr (.inr (.inr hv)))
 refine ⟨h.blk.below hb h.blk.lt,h.lop,h.lom,?_,Ab h.mks (hrow mv (by simp [allV])),h.bn.keep hb.size (hrow bv (by simp [allV])) hoff,h.pn.keep hb.size (hrow pv (by simp [allV])) hoff,Ab h.on (hrow ov (by simp [allV])),h.ol,fun i h1 h2=>?_,h.cl.same (hb.block mp (h.ownlt mp h.mown)),h.apart,h.inown,h.pown,h.mown,h.pm,fun b hx=>Aft (h.ownlt b hx) hb.size,h.ok⟩
 ·obtain ⟨a,c,e1,e2,e3⟩:=h.sg;refine ⟨a,c,e1,e2,fun h0=>?_⟩;obtain ⟨g,rfl,hg,hgl,hc⟩:=e3 h0;exact ⟨g,rfl,hg,Aft hgl hb.size,fun i hi=>(hb.cell (p:=⟨g,i,none⟩) hgl).trans (hc i hi)⟩
 ·obtain ⟨o1,o2⟩:=h.orow i h1 h2;exact ⟨o1.keep hb.size (hrow _ (hin _ (hrows i h2).1)) hoff,o2.keep hb.size (hrow _ (hin _ (hrows i h2).2)) hoff⟩
theorem Em.low {lo p mp:Nat} {own:List Nat} {w w':World} {s:ByteArray} {e:ES} {sv mv bv pv ov v:Value} {rows:List (Value × Value)} (h:Em lo p mp own w s e sv mv bv pv ov rows) (hv:∀ g,v.ownBlock=some g→lo≤g∧g < w.heap.size) (hT:Touch p v w w'):Below lo w w':=
 ⟨hT.os,hT.tape,hT.output,hT.size,fun k hk=>hT.block k (Nat.lt_trans (Aft hk h.lop) h.blk.lt) (fun x=>by have:=h.lop;omega) (fun x=>by have:=(hv k x).1;omega)⟩
def ED (lo p mp:Nat) (w:World) (s:ByteArray) (e:ES):Prop:=∃ own sv mv bv pv ov rows,Em lo p mp own w s e sv mv bv pv ov rows
theorem Em.goto {lo p mp:Nat} {own:List Nat} {w:World} {s:ByteArray} {e:ES} {sv mv bv pv ov:Value} {rows:List (Value × Value)} (h:Em lo p mp own w s e sv mv bv pv ov rows) (j:Nat) (hok:EOk s.data.toList { e with pos:=j }):Em lo p mp own (w.setCell ⟨p,2,none⟩ (.int .i64 (j:Int))) s { e with pos:=j } sv mv bv pv ov rows:=by
 have hsz:(w.setCell ⟨p,2,none⟩ (.int .i64 (j:Int))).heap.size=w.heap.size:=by simp [World.setCell]
 have hfar:∀ b,b≠p→(w.setCell ⟨p,2,none⟩ (.int .i64 (j:Int))).heap[b]?=w.heap[b]?:=fun b hb=>Afw _ _ _ _ (fun x=>hb x)
 have hrow:∀ v,v∈allV mv bv pv ov rows→∀ b,v.ownBlock=some b→(w.setCell ⟨p,2,none⟩ (.int .i64 (j:Int))).heap[b]?=w.heap[b]?:=fun v hv b hx=>hfar b (h.inown v hv b hx).2.1
 have hoff:∀ b,b < w.heap.size→b ∉ own→(w.setCell ⟨p,2,none⟩ (.int .i64 (j:Int))).heap[b]?=w.heap[b]?∧b ∉ own:=fun b _ ho=>⟨hfar b (fun x=>ho (x▸h.pown)),ho⟩
 have hrows:∀ i (h2:i < rows.length),(rows[i].1∈rows.flatMap fun r=>[r.1,r.2])∧(rows[i].2∈rows.flatMap fun r=>[r.1,r.2]):=fun i h2=>
  ⟨List.mem_flatMap.2 ⟨rows[i],List.getElem_mem h2,by simp⟩,List.mem_flatMap.2 ⟨rows[i],List.getElem_mem h2,by simp⟩⟩
 have hin:∀ v,v∈(rows.flatMap fun r=>[r.1,r.2])→v∈allV mv bv pv ov rows:=fun v hv=>by unfold allV;simp only [Afz];exact .inr (.inr (.inr (.inr hv)))
 have hsl:w.heap.size≤(w.setCell ⟨p,2,none⟩ (.int .i64 (j:Int))).heap.size:=Nat.le_of_eq hsz.symm;refine ⟨h.blk.set 2 _,h.lop,h.lom,?_,Ab h.mks (hrow mv (by simp [allV])),h.bn.keep hsl (hrow bv (by simp [allV])) hoff,h.pn.keep hsl (hrow pv (by simp [allV])) hoff,Ab h.on (hrow ov (by simp [allV])),h.ol,fun i h1 h2=>?_,h.cl.same (hfar mp (fun x=>h.pm x.symm)),h.apart,h.inown,h.pown,h.mown,h.pm,fun b hx=>by rw [hsz];exact h.ownlt b hx,hok⟩
 ·obtain ⟨a,c,e1,e2,e3⟩:=h.sg;refine ⟨a,c,e1,e2,fun h0=>?_⟩;obtain ⟨g,rfl,hg,hgl,hc⟩:=e3 h0;exact ⟨g,rfl,hg,by rw [hsz];exact hgl,fun i hi=>(Afy (w:=w) (a:=⟨g,i,none⟩) (hfar g (fun x=>hg (x▸h.pown)))).trans (hc i hi)⟩
 ·obtain ⟨o1,o2⟩:=h.orow i h1 h2;exact ⟨o1.keep hsl (hrow _ (hin _ (hrows i h2).1)) hoff,o2.keep hsl (hrow _ (hin _ (hrows i h2).2)) hoff⟩
theorem Uc (lo p mp:Nat) (own:List Nat) (w:World) (s:ByteArray) (e:ES) (sv mv bv pv ov:Value) (rows:List (Value × Value)) (h:Em lo p mp own w s e sv mv bv pv ov rows) (k:Nat) (d:Int) (hd:0≤d∧d≤255) (hc:e.closed.contains d=false) :
  Calls prog 147 #[.pointer (some ⟨p,0,none⟩),.int .i64 (k:Int),.int .i64 d] w fun x w'=>x=.returned (.tuple #[.int .i64 (k:Int),.int .i64 9])∧Below w.heap.size w w':=by
 obtain ⟨n,D,hn,hown,hk⟩:=h.cl;have hkd:=(hk d).trans hc;have k10:w.cell? ⟨p,10,none⟩=some (.map (some mp)):=(h.blk.cell 10).trans rfl;have hkey:=QI d hd.1 hd.2;have hlb:=Afj hkd;clear h hk hc hkd;go_enter func147,ntmps147;go_wp2_with (at_lookup;refine wpList_lookup_own_ok _ rfl _ _ 205 rfl 3 103 (Go.Maps.int_keyed underlying3) underlying205 unitElem (z:=.agg #[]) (by rfl) (.agg []) [] unitElem_mk mp n D rfl hown _ _ rfl hkey ?_;intro v ps hv;obtain ⟨rfl,_⟩:=unitElem_inv hv;rw [hlb.out])
 go_ret2
 exact ⟨rfl,(Afv _ _).alloc (Afq _) _⟩
theorem Xa (lo p mp:Nat) (own:List Nat) (w:World) (s:ByteArray) (e:ES) (sv mv bv pv ov:Value) (rows:List (Value × Value)) (h:Em lo p mp own w s e sv mv bv pv ov rows) (k c:Nat) (d:Int) (hd:0≤d∧d≤255) (hs:s.size≤250) (hk:e.pos=k+2) (h92:byt s.data.toList k=92) (hbc:byt s.data.toList (k+1)=c) (hc1:c < 128) (hc:e.closed.contains d=true)
  (hok1:EOk s.data.toList { e with marks:=e.marks++[(k,c)] }) (hok2:EOk s.data.toList (({ e with marks:=e.marks++[(k,c)] }:ES).at ({ e with marks:=e.marks++[(k,c)] }:ES).st (e.inner.pcs++[.back d]))) :
  Calls prog 147 #[.pointer (some ⟨p,0,none⟩),.int .i64 (k:Int),.int .i64 d] w fun x w'=>x=.returned (.tuple #[.int .i64 0,.int .i64 0])∧ED lo p mp w' s (({ e with marks:=e.marks++[(k,c)] }:ES).at ({ e with marks:=e.marks++[(k,c)] }:ES).st (e.inner.pcs++[.back d]))∧Below lo w w':=by
 obtain ⟨n,D,hn,hown,hkk⟩:=h.cl;have hkd:=(hkk d).trans hc;have k10:w.cell? ⟨p,10,none⟩=some (.map (some mp)):=(h.blk.cell 10).trans rfl;have hkey:=QI d hd.1 hd.2;have hlb:=Afj hkd;have h1:=h.below ((Afv w.heap.size w).alloc (Afq _) (.cells #[] 103));have hps:k+2≤s.size:=by have:=h.ok.pos;rw [hk] at this;simpa using this
 obtain ⟨sa,sc,rfl,e2,e3⟩:=h1.sg;obtain ⟨g,rfl,hg,hgl,hcell⟩:=e3 (by omega);have hml:e.marks.length≤1000:=by have:=h.ok.marks;omega
 have hmk:=IC lo p g s.size sc k e.pos c _ _ _ _ _ _ _ _ mv e.marks _ h1.lop h1.blk h1.mks (fun hx=>(h1.inown mv (by simp [allV]) p hx).2.1 rfl) hk (by omega) e2 (by rw [hcell k (by omega),h92];rfl) (by rw [hcell (k+1) (by omega),hbc]) hc1 hml;have HB0:=Afj (((Afv w.heap.size w).alloc (Afq _) (.cells #[] 103)).mono (Afr h.lop (Afu h.blk.lt)));have H1:=Afj h1;have HK1:=Afj hok1;have HK2:=Afj hok2;have HPL:=Afj (show e.inner.pcs.length≤1000 by have:=h.ok.inner.2.2.1;have:=h.ok.pos;simp at this;omega);clear h hkk hkd hc h1 e3 hcell hok1 hok2 h92 hbc hml;go_enter func147,ntmps147;go_wp2_with (at_lookup;refine wpList_lookup_own_ok _ rfl _ _ 205 rfl 3 103 (Go.Maps.int_keyed underlying3) underlying205 unitElem (z:=.agg #[]) (by rfl) (.agg []) [] unitElem_mk mp n D rfl hown _ _ rfl hkey ?_;intro v ps hv;obtain ⟨rfl,_⟩:=unitElem_inv hv;rw [hlb.out])
 refine hmk.mono ?_;rintro x w2 ⟨mv',rfl,hm2,hB2,hT2,hF2⟩;have hE2:=Em.marked (q:=(k,c)) H1.out hT2 hF2 rfl hm2 hB2 HK1.out;have hadd:=OD lo p (ownB mv'++own) _ _ _ _ _ _ bv pv _ _ _ e.inner.pcs (.back d) (.iface 116 (.agg #[.int .i64 d])) w2 hE2.lop hE2.blk hE2.pn (fun hx=>(hE2.inown pv (by simp [allV]) p hx).2.1 rfl) hE2.pown (fun q hq=>(hE2.inown pv (by simp [allV]) q hq).1) ⟨1,rfl⟩ rfl HPL.out;have HB2:=Afj (HB0.out.trans (H1.out.low H1.out.mks.lt hT2));have HE2:=Afj hE2;clear hmk hm2 hB2 hT2 hF2 hE2;go_wp2_with fail
 refine hadd.mono ?_;rintro x w3 ⟨pv',rfl,hN3,hB3,hT3,hF3⟩;have hE3:=Em.pieces (l:=e.inner.pcs++[.back d]) HE2.out hT3 hF3 rfl hN3 hB3 HK2.out;have HB3:=Afj (HB2.out.trans (HE2.out.low HE2.out.pn.lt hT3));clear hadd hN3 hB3 hT3 hF3;go_wp2_with fail
 go_ret2
 exact ⟨rfl,⟨_,_,_,_,_,_,_,hE3⟩,HB3.out⟩
theorem KZ {w:World} {B:Nat} {e:TypeId} {size n k c:Nat} {a:Option Addr} {xs:List Value} (h:w.ownsRow B e size (.slice a n c) n xs) (hk:k≤n) (h0:0 < n):w.ownsRow B e size (.slice a k c) k (xs.take (k * size)):=by
 have hm:k * size≤n * size:=Nat.mul_le_mul_right _ hk;refine ⟨by rw [List.length_take,h.1];omega,?_⟩;rcases h.2 with ⟨_,h1⟩ | ⟨g,cap,cur,hv,hb,hh,hn,hmx,hs,ht⟩
 ·omega
 ·injection hv with h1 h2 h3;subst h1 h3;exact .inr ⟨g,c,cur,rfl,hb,hh,by omega,hmx,hs,by rw [←ht,List.take_take];congr 1;omega⟩
theorem MapAt.put {w':World} {b:Nat} {cl:List Int} {n:Nat} {D:DataW Unit} {d:DataW Unit} {num:Int} (hn:n≤cl.length) (hD:Go.Maps.IsMap D) (hk:∀ k:Int,Maps.has D (.int .i64 k)=cl.contains k) (h:w'.ownsMap prog 3 unitElem b (n+1) (D.put (.int .i64 num) d)):MapAt w' b (cl++[num]):=by
 refine ⟨n+1,_,by rw [Afs];simpa using hn,h,fun k=>?_⟩;by_cases hkn:k=num
 ·subst hkn;rw [Maps.has_put_same hD (by simp [WideAt.IsKeyLit])];simp
 ·rw [Maps.has_put_other (by intro h;injection h with _ h;exact hkn h),hk k];simp [List.contains_eq_mem,Af1,hkn]
theorem Em.popped {lo p mp:Nat} {own own':List Nat} {w w':World} {s:ByteArray} {e:ES} {sv mv bv bv' pv rb rp:Value} {oa:Option Addr} {oc n:Nat} {rows R:List (Value × Value)} {L:List Lv} {v:Lv} {cl:List Int}
  (h:Em lo p mp own w s e sv mv bv pv (.slice oa n oc) rows) (hL:e.outer=L++[v]) (hR:rows=R++[(rb,rp)]) (hsz:w.heap.size≤w'.heap.size)
  (hsame:∀ b,b < w.heap.size→b≠p→b≠mp→bv.ownBlock≠some b→w'.heap[b]?=w.heap[b]?)
  (hnew:bv'.ownBlock=bv.ownBlock∨∃ g,w.heap.size≤g∧g < w'.heap.size∧bv'.ownBlock=some g) (ho:own'=ownB bv'++own)
  (hB:Blk w' p (EC (.string s) sv (.int .i64 (e.pos:Int)) mv (.int .i64 (v.op:Int)) (.int .i64 (v.num:Int)) rb rp (.slice oa L.length oc) (.int .i64 (e.groups:Int)) (.map (some mp))) 210)
  (hcl:MapAt w' mp cl) (hok:EOk s.data.toList { e with closed:=cl,outer:=L,inner:=v }):Em lo p mp own' w' s { e with closed:=cl,outer:=L,inner:=v } sv mv rb rp (.slice oa L.length oc) R:=by
 have hin:∀ v∈allV mv bv pv (.slice oa n oc) rows,∀ b,v.ownBlock=some b→b∈own∧b≠p∧b≠mp:=h.inown;have hbin:∀ b,bv.ownBlock=some b→b∈own∧b≠p∧b≠mp:=fun b hb=>hin bv (by simp [allV]) b hb
 have hlt:∀ b∈own,b < w.heap.size:=h.ownlt;have hoff:∀ b,b < w.heap.size→b ∉ own→w'.heap[b]?=w.heap[b]?∧b ∉ own':=fun b hb hbo=>by
  refine ⟨hsame b hb (fun e=>hbo (e▸h.pown)) (fun e=>hbo (e▸h.mown)) (fun e=>hbo (hbin b e).1),?_⟩;rw [ho,Af1,not_or];refine ⟨fun e=>?_,hbo⟩;rw [AX] at e;rcases hnew with h2 | ⟨g,hg,_,h2⟩
  ·exact hbo (hbin b (h2.symm.trans e)).1
  ·rw [h2] at e;injection e with e;omega
 have hap:=h.apart;have hol:=h.ol;rw [hL,hR,Afs,Afs] at hol;have hRL:R.length=L.length:=by simpa using hol
 have hon:=h.on;have hn:n=L.length+1:=by
  have h1:=Bg hon;obtain ⟨_,_,h1⟩:=h1;injection h1 with _ h1 _;rw [h1,hL,Afs];rfl
 subst hR;unfold allV at hap;simp only [List.pairwise_cons] at hap;obtain ⟨a1,a2,a3,a4,a5⟩:=hap;have hfm:(R++[(rb,rp)]).flatMap (fun r=>[r.1,r.2])=(R.flatMap fun r=>[r.1,r.2])++[rb,rp]:=by rw [List.flatMap_append];simp
 rw [hfm] at a1 a2 a3 a4 a5;have hmem:∀ u,(u=mv∨u=.slice oa n oc∨u∈(R.flatMap fun r=>[r.1,r.2])++[rb,rp])→u∈allV mv bv pv (.slice oa n oc) (R++[(rb,rp)]):=fun u hu=>by
  unfold allV;rw [hfm];simp only [Afz];rcases hu with rfl | rfl | hu
  ·exact .inl rfl
  ·exact .inr (.inr (.inr (.inl rfl)))
  ·exact .inr (.inr (.inr (.inr hu)))
 have hrow:∀ u,(u=mv∨u=.slice oa n oc∨u∈(R.flatMap fun r=>[r.1,r.2])++[rb,rp])→∀ b,u.ownBlock=some b→w'.heap[b]?=w.heap[b]?:=fun u hu b hb=>by
  obtain ⟨e1,e2,e3⟩:=hin u (hmem u hu) b hb;refine hsame b (hlt b e1) e2 e3 (fun hp=>?_);rcases hu with rfl | rfl | hu
  ·exact a1 bv (by simp) b hb hp
  ·exact a2 _ (by simp) b hp hb
  ·exact a2 u (by simp only [Afz];exact .inr (.inr hu)) b hp hb
 have hrbm:rb∈(R.flatMap fun r=>[r.1,r.2])++[rb,rp]:=by simp
 have hrpm:rp∈(R.flatMap fun r=>[r.1,r.2])++[rb,rp]:=by simp
 have hrows:∀ i (h2:i < R.length),(R[i].1∈(R.flatMap fun r=>[r.1,r.2])++[rb,rp])∧(R[i].2∈(R.flatMap fun r=>[r.1,r.2])++[rb,rp]):=fun i h2=>
  ⟨List.mem_append_left _ (List.mem_flatMap.2 ⟨R[i],List.getElem_mem h2,by simp⟩),List.mem_append_left _ (List.mem_flatMap.2 ⟨R[i],List.getElem_mem h2,by simp⟩)⟩
 have hlv:∀ (L:List Lv) (R:List (Value × Value)),R.length=L.length→(levC L R).length=L.length * 4:=fun L R hl=>by
  unfold levC;rw [List.length_flatMap];have:((L.zip R).map fun a=>[Value.int .i64 (a.1.op:Int),.int .i64 (a.1.num:Int),a.2.1,a.2.2].length)=List.replicate (L.zip R).length 4:=by
   rw [List.eq_replicate_iff];refine ⟨by simp,fun b hb=>?_⟩;obtain ⟨x,_,rfl⟩:=List.mem_map.1 hb;rfl
  rw [this];simp [hl]
 have hz:levC (L++[v]) (R++[(rb,rp)])=levC L R++[.int .i64 (v.op:Int),.int .i64 (v.num:Int),rb,rp]:=by
  unfold levC;rw [List.zip_append (by omega),List.flatMap_append];simp
 have hlast:NR lo own w v.brs rb∧NR lo own w v.pcs rp:=by
  have:=h.orow L.length (by rw [hL];simp) (by simp;omega);have e1:(R++[(rb,rp)])[L.length]'(by simp;omega)=(rb,rp):=by rw [List.getElem_append_right (by omega)];simp [hRL]
  have e2:e.outer[L.length]'(by rw [hL];simp)=v:=by simp [hL]
  rw [e1,e2] at this;exact this
 refine ⟨hB,h.lop,h.lom,?_,Ab h.mks (hrow mv (.inl rfl)),hlast.1.keep hsz (hrow rb (.inr (.inr hrbm))) hoff,hlast.2.keep hsz (hrow rp (.inr (.inr hrpm))) hoff,?_,hRL,?_,hcl,?_,?_,?_,?_,h.pm,?_,hok⟩
 ·obtain ⟨a,c,e1,e2,e3⟩:=h.sg;refine ⟨a,c,e1,e2,fun h0=>?_⟩;obtain ⟨g,rfl,hg,hgl,hc⟩:=e3 h0;exact ⟨g,rfl,(hoff g hgl hg).2,Aft hgl hsz,fun i hi=>(Afy (w:=w) (a:=⟨g,i,none⟩) (hoff g hgl hg).1).trans (hc i hi)⟩
 ·have h1:=Ab hon (hrow _ (.inr (.inl rfl)));rw [hL] at h1;have hl2:(L++[v]).length=n:=by rw [hn];simp
  rw [hl2] at h1;have h2:=KZ (k:=L.length) h1 (by omega) (by omega);rw [hz,List.take_append_of_le_length (by rw [hlv L R hRL];exact Afq _),List.take_of_length_le (by rw [hlv L R hRL];exact Afq _)] at h2;exact h2
 ·intro i h1 h2;have h1':i < L.length:=h1;obtain ⟨o1,o2⟩:=h.orow i (by rw [hL];simp;omega) (by simp;omega);have e1:(R++[(rb,rp)])[i]'(by simp;omega)=R[i]:=Af0 h2;have e2:e.outer[i]'(by rw [hL];simp;omega)=L[i]:=by simp [hL,Af0 h1']
  rw [e1,e2] at o1 o2;exact ⟨o1.keep hsz (hrow _ (.inr (.inr (hrows i h2).1))) hoff,o2.keep hsz (hrow _ (.inr (.inr (hrows i h2).2))) hoff⟩
 ·have hob:∀ b,(Value.slice oa L.length oc).ownBlock=some b→(Value.slice oa n oc).ownBlock=some b:=fun b hb=>by cases oa <;> exact hb
  rw [List.pairwise_append] at a5;obtain ⟨b1,b2,b3⟩:=a5;simp only [List.pairwise_cons] at b2;unfold allV;simp only [List.pairwise_cons];refine ⟨fun u hu=>?_,fun u hu=>?_,fun u hu=>?_,fun u hu=>?_,b1⟩
  ·simp only [Afz] at hu;rcases hu with rfl | rfl | rfl | hu
   ·exact a1 u (by simp)
   ·exact a1 u (by simp)
   ·exact fun b hb hp=>a1 (.slice oa n oc) (by simp) b hb (hob b hp)
   ·exact a1 u (by simp only [Afz,Af1];exact .inr (.inr (.inr (.inl hu))))
  ·simp only [Afz] at hu;rcases hu with rfl | rfl | hu
   ·exact b2.1 u (by simp)
   ·exact fun b hb hp=>a4 rb (by simp) b (hob b hp) hb
   ·exact fun b hb hp=>b3 u hu rb (by simp) b hp hb
  ·simp only [Afz] at hu;rcases hu with rfl | hu
   ·exact fun b hb hp=>a4 rp (by simp) b (hob b hp) hb
   ·exact fun b hb hp=>b3 u hu rp (by simp) b hp hb
  ·exact fun b hb hp=>a4 u (List.mem_append_left _ hu) b (hob b hb) hp
 ·have hob:∀ b,(Value.slice oa L.length oc).ownBlock=some b→(Value.slice oa n oc).ownBlock=some b:=fun b hb=>by cases oa <;> exact hb
  intro u hu b hb;unfold allV at hu;simp only [Afz] at hu;have hold:∀ u,(u=mv∨u=.slice oa n oc∨u∈(R.flatMap fun r=>[r.1,r.2])++[rb,rp])→u.ownBlock=some b→b∈own'∧b≠p∧b≠mp:=fun u hm hb=>by
   obtain ⟨e1,e2,e3⟩:=hin u (hmem u hm) b hb;exact ⟨by rw [ho];exact Af8 _ e1,e2,e3⟩
  rcases hu with rfl | rfl | rfl | rfl | hu
  ·exact hold u (.inl rfl) hb
  ·exact hold u (.inr (.inr hrbm)) hb
  ·exact hold u (.inr (.inr hrpm)) hb
  ·exact hold _ (.inr (.inl rfl)) (hob b hb)
  ·exact hold u (.inr (.inr (List.mem_append_left _ hu))) hb
 ·rw [ho];exact Af8 _ h.pown
 ·rw [ho];exact Af8 _ h.mown
 ·intro b hb;rw [ho] at hb;rcases Af1.1 hb with hb | hb
  ·rw [AX] at hb;rcases hnew with h2 | ⟨g,_,hg,h2⟩
   ·exact Aft (hlt b (hbin b (h2.symm.trans hb)).1) hsz
   ·rw [h2] at hb;injection hb with hb;omega
  ·exact Aft (hlt b hb) hsz
theorem Ud {F:Nat→Prop} {w:World} {d:Nd} {u:Value} {num:Int} (h:NdX F w d u):NdX F w (.group num d) (.iface 102 (.agg #[.int .i64 num,u])):=by
 obtain ⟨n,h⟩:=h;exact ⟨n+1,u,rfl,h⟩
def Bc (lo p mp:Nat) (s:ByteArray) (w:World) (x:Ending) (w':World):Except (Nat × Nat) ES→Prop
 | .error q=>Below lo w w'∧x=.returned (.tuple #[.int .i64 (q.2:Int),.int .i64 (q.1:Int)])
 | .ok e'=>Below lo w w'∧x=.returned (.tuple #[.int .i64 0,.int .i64 0])∧ED lo p mp w' s e'
theorem Az {lo p mp:Nat} {s:ByteArray} {w w':World} {R:Except (Nat × Nat) ES} {e':ES} (hR:R=.ok e') (hb:Below lo w w') (h:ED lo p mp w' s e'):Bc lo p mp s w (.returned (.tuple #[.int .i64 0,.int .i64 0])) w' R:=by subst hR;exact ⟨hb,rfl,h⟩
theorem AC {lo p mp:Nat} {s:ByteArray} {w w':World} {R:Except (Nat × Nat) ES} {n k:Nat} (hR:R=.error (n,k)) (hb:Below lo w w'):Bc lo p mp s w (.returned (.tuple #[.int .i64 (k:Int),.int .i64 (n:Int)])) w' R:=by subst hR;exact ⟨hb,rfl⟩
theorem EJ {lo p mp:Nat} {own:List Nat} {w:World} {s:ByteArray} {e:ES} {sv mv bv pv ov:Value} {rows:List (Value × Value)} (h:Em lo p mp own w s e sv mv bv pv ov rows) (d:Nd) (u:Value) (hu:NdX (fun b=>lo≤b∧b ∉ own) w d u) (hu1:u.oneCell'=true) (hs:s.size≤250) (hok:EOk s.data.toList (e.at e.st (e.inner.pcs++[d]))) :
  Calls prog 131 #[.pointer (some ⟨p,4,none⟩),u] w fun x w'=>x=.returned (.tuple #[])∧ED lo p mp w' s (e.at e.st (e.inner.pcs++[d]))∧Below lo w w':=by
 have hpl:e.inner.pcs.length≤1000:=by have:=h.ok.inner.2.2.1;have:=h.ok.pos;simp at this;omega
 refine (OD lo p own _ _ _ _ _ _ bv pv _ _ _ e.inner.pcs d u w h.lop h.blk h.pn (fun hx=>(h.inown pv (by simp [allV]) p hx).2.1 rfl) h.pown (fun q hq=>(h.inown pv (by simp [allV]) q hq).1) hu hu1 hpl).mono ?_;rintro x w3 ⟨pv',rfl,hN3,hB3,hT3,hF3⟩;exact ⟨rfl,⟨_,_,_,_,_,_,_,Em.pieces (l:=e.inner.pcs++[d]) h hT3 hF3 rfl hN3 hB3 hok⟩,h.low h.pn.lt hT3⟩
theorem Gq {lo p mp:Nat} {own:List Nat} {w:World} {s:ByteArray} {e:ES} {sv mv bv pv ov:Value} {rows:List (Value × Value)} (h:Em lo p mp own w s e sv mv bv pv ov rows) (mn mx:Int) (h0:0 < e.inner.pcs.length) (hs:s.size≤250) (hok:EOk s.data.toList (e.at e.st (e.inner.pcs.dropLast++[.rep (e.inner.pcs.getLastD .empty) mn mx]))) :
  Calls prog 144 #[.pointer (some ⟨p,4,none⟩),.int .i64 mn,.int .i64 mx] w fun x w'=>x=.returned (.tuple #[])∧ED lo p mp w' s (e.at e.st (e.inner.pcs.dropLast++[.rep (e.inner.pcs.getLastD .empty) mn mx]))∧Below lo w w':=by
 have hpl:e.inner.pcs.length≤1000:=by have:=h.ok.inner.2.2.1;have:=h.ok.pos;simp at this;omega
 refine (OF lo p own _ _ _ _ _ _ bv pv _ _ _ e.inner.pcs mn mx w h.blk h.pn (fun hx=>(h.inown pv (by simp [allV]) p hx).2.1 rfl) h.pown (fun q hq=>(h.inown pv (by simp [allV]) q hq).1) h0 hpl).mono ?_;rintro x w3 ⟨rfl,hN3,hB3,hT3⟩;have hown:∀ b,b∈ownB pv++own ↔ b∈own:=fun b=>by
  rw [Af1,AX];exact ⟨fun x=>x.elim (fun x=>(h.inown pv (by simp [allV]) b x).1) id,.inr⟩
 have hN4:NR lo (ownB pv++own) w3 (e.inner.pcs.dropLast++[.rep (e.inner.pcs.getLastD .empty) mn mx]) pv:=hN3.keep (Afq _) (fun _ _=>rfl) (fun b _ hb=>⟨rfl,fun x=>hb ((hown b).1 x)⟩);exact ⟨rfl,⟨_,_,_,_,_,_,_,Em.pieces h hT3 (.inl rfl) rfl hN4 hB3 hok⟩,h.low h.pn.lt hT3⟩
theorem Nf (lo p mp:Nat) (w:World) (s:ByteArray) (e:ES) (h:ED lo p mp w s e) (hG:Gl w) (hs:s.size≤250) (t:OSet) (j er:Nat) (hr:F7 s.data.toList (e.pos:Int)=(t,(j:Int),er))
  (hok1:er=0→EOk s.data.toList { e with pos:=j }) (hok2:er=0→EOk s.data.toList (({ e with pos:=j }:ES).at ({ e with pos:=j }:ES).st (e.inner.pcs++[.one t]))) :
  Calls prog 133 #[.pointer (some ⟨p,0,none⟩)] w fun x w'=>Bc lo p mp s w x w' (if er=0 then .ok (({ e with pos:=j }:ES).at ({ e with pos:=j }:ES).st (e.inner.pcs++[.one t])) else .error (er,j)):=by
 obtain ⟨R,hR⟩:∃ R:Except (Nat × Nat) ES,R=if er=0 then .ok (({ e with pos:=j }:ES).at ({ e with pos:=j }:ES).st (e.inner.pcs++[.one t])) else .error (er,j):=⟨_,rfl⟩
 rw [←hR];have HR:=Afj hR;clear hR;obtain ⟨own,sv,mv,bv,pv,ov,rows,h⟩:=h;have k0:w.cell? ⟨p,0,none⟩=some (.string s):=(h.blk.cell 0).trans rfl;have k2:w.cell? ⟨p,2,none⟩=some (.int .i64 (e.pos:Int)):=(h.blk.cell 2).trans rfl;have hpa:=fun (w:World) (hG:Gl w)=>L9 s (e.pos:Int) w (by omega) hG
 rw [hr,show KT (t,(j:Int),er)=.tuple #[.agg #[.int .u64 (ow t 0),.int .u64 (ow t 1),.int .u64 (ow t 2),.int .u64 (ow t 3)],.int .i64 (j:Int),.int .i64 (er:Int)] from rfl] at hpa;have HH:=Afj h;have HK1:=Afj hok1;have HK2:=Afj hok2;have hplt:=h.blk.lt;have HLo:=Afj (Afr h.lop (Afu hplt));clear h hr hok1 hok2;go_enter func133,ntmps133;go_upto_region 1 with fail;go_cut [4,5,6] (fun s4 s5 s6 wx=>∃ a:Nat,s4=.pointer (some ⟨a,0,none⟩)∧s5=.int .i64 (j:Int)∧s6=.int .i64 (er:Int)∧AtSet w a t wx)
 case first=>
  go_region_with (go_at_call 146;refine (hpa _ (hG.up (by repeat (first | (with_reducible exact Afv _ _) | refine Agb ?_ | refine below_drewN ?_ _ | refine Agc ?_ (by first | omega | (simp;omega) | simp) _)))).mono ?_;rintro x w' ⟨rfl,hbX⟩;have hbQ:Below w.heap.size w w':=Below.trans (by repeat (first | (with_reducible exact Afv _ _) | refine Agb ?_ | refine below_drewN ?_ _ | refine Agc ?_ (by first | omega | (simp;omega) | simp) _)) (hbX.mono (by simp));(try (have hPz:=((Blk.new w #[.int .u64 0,.int .u64 0,.int .u64 0,.int .u64 0] 108 w.heap.size rfl).drew).below hbX (by simp);obtain ⟨y0,y1,y2,y3,x0,x1,x2,x3,xl⟩:=CD hPz)))
  all_goals go_wp2_with fail
  all_goals go_meet
  all_goals first
   | exact ⟨_,rfl,rfl,rfl,⟨hbQ.alloc hbQ.size _,Blk.new _ _ _ _ rfl,hbQ.size⟩⟩
   | exact ⟨_,rfl,rfl,rfl,⟨(((hbQ.setCell (p:=⟨w.heap.size,0,none⟩) (Afq _) _).setCell (p:=⟨w.heap.size,1,none⟩) (Afq _) _).setCell (p:=⟨w.heap.size,2,none⟩) (Afq _) _).setCell (p:=⟨w.heap.size,3,none⟩) (Afq _) _,(((hPz.set 0 _).set 1 _).set 2 _).set 3 _,Afq _⟩⟩
 case rest=>
  obtain ⟨a,rfl,rfl,rfl,hA⟩:=hcut;by_cases her:er=0
  ·have HF:=Afj (HR.out.trans (if_pos her));subst her;have hE1:=HH.out.below hA.b;have hne:p≠a:=fun x=>by have:=hA.lo;omega
   have hne2:a≠p:=fun x=>hne x.symm
   have f2:=hE1.blk.frozen 2;have g2:wc.cell? ⟨p,2,none⟩=some (.int .i64 (e.pos:Int)):=(hE1.blk.cell 2).trans rfl;have hE3:=hE1.goto j (HK1.out rfl);have hT3:=hA.s.set_other ⟨p,2,none⟩ (fun x=>hne x) (.int .i64 (j:Int));have HL3:=Afj ((hA.b.mono HLo.out).trans ((Afv lo wc).setCell (p:=⟨p,2,none⟩) HH.out.lop (.int .i64 (j:Int))));obtain ⟨W3,hW3⟩:∃ W3,W3=wc.setCell ⟨p,2,none⟩ (.int .i64 (j:Int)):=⟨_,rfl⟩;rw [←hW3] at hE3 hT3 HL3;obtain ⟨y0,y1,y2,y3,_,_,_,_,_⟩:=CD hT3;have hadd:=fun (w':World) (hb:Below W3.heap.size W3 w')=>EJ (hE3.below hb) (.one t) (.iface 110 (.agg #[.int .u64 (ow t 0),.int .u64 (ow t 1),.int .u64 (ow t 2),.int .u64 (ow t 3)])) ⟨1,rfl⟩ rfl hs (HK2.out rfl)
   have HAdd:=Afj hadd;have hpl2:=hE1.blk.lt;clear hpa k0 k2 hE1 hT3 hE3 hA hadd;go_wp2_with fail
   rw [←hW3];clear hW3;go_upto_region 5 with fail
   go_region_law (first
    | (refine By rfl _ _ _ rfl 131 _ rfl (by rfl) (enters_of func131 (by kernel_rfl) rfl) (HAdd.out _ (by first | exact Afv _ _ | exact Agb (Afv _ _))) ?_;rintro x w4 ⟨rfl,hx4,hb4⟩;refine ⟨_,rfl,?_⟩;have HX4:=Afj hx4;have HB4:Hid (Below lo W3 w4):=Afj (by first | exact hb4 | exact (Agb (Afv _ _)).trans hb4);clear hx4 hb4))
   all_goals go_wp2_with fail
   all_goals go_ret2
   all_goals exact Az HF.out (HL3.out.trans HB4.out) HX4.out
  ·have e9:((er:Int) != 0)=true:=by simp;omega
   have hlow:=hA.b.mono HLo.out;have HF:=Afj (HR.out.trans (if_neg her));clear hpa k0 k2 hA;go_wp2_with fail
   go_ret2
   exact AC HF.out hlow
def AI (s:List UInt8) (e:ES) (k:Nat):Except (Nat × Nat) ES:=if A1 e.inner.pcs then .error (10,k) else match repAt true s k with
  | .some mn mx _ j=>.ok (e.at (e.st.to j) (e.inner.pcs.dropLast++[.rep (e.inner.pcs.getLastD .empty) mn mx]))
  | _=>.error (7,k)
theorem Fd {l:List Nd} (h:A1 l=false):0 < l.length:=by
 cases l with
 | nil=>cases h
 | cons x xs=>simp
theorem Kt {W w1 w2:World} {p:Nat} {s:ByteArray} {k:Nat} (hb:Below w1.heap.size w1 w2) (hp:p < W.heap.size) (h:w1.cell? ⟨p,0,none⟩=some (.string s)∧w1.cell? ⟨p,2,none⟩=some (.int .i64 (k:Int))∧Below W.heap.size W w1):w2.cell? ⟨p,0,none⟩=some (.string s)∧w2.cell? ⟨p,2,none⟩=some (.int .i64 (k:Int))∧Below W.heap.size W w2:=
 ⟨(hb.cell (p:=⟨p,0,none⟩) (Aft hp h.2.2.size)).trans h.1,(hb.cell (p:=⟨p,2,none⟩) (Aft hp h.2.2.size)).trans h.2.1,h.2.2.trans (hb.mono h.2.2.size)⟩
theorem Ku {W w1:World} {p:Nat} {s:ByteArray} {k:Nat} (h:w1.cell? ⟨p,0,none⟩=some (.string s)∧w1.cell? ⟨p,2,none⟩=some (.int .i64 (k:Int))∧Below W.heap.size W w1):w1.drew.cell? ⟨p,0,none⟩=some (.string s)∧w1.drew.cell? ⟨p,2,none⟩=some (.int .i64 (k:Int))∧Below W.heap.size W w1.drew:=
 ⟨h.1,h.2.1,h.2.2.drew⟩
theorem Fx {s:List UInt8} {k c:Nat} (hl:k < s.length) (h:byt s k=c):chAt s k c=true:=by unfold chAt;simp [hl,h]
theorem Fy (lo p mp:Nat) (w:World) (s:ByteArray) (e:ES) (k:Nat) (h:ED lo p mp w s e) (hs:s.size≤250) (hf:A1 e.inner.pcs=true):Calls prog 132 #[.pointer (some ⟨p,0,none⟩),.int .i64 (k:Int)] w fun x w'=>Bc lo p mp s w x w' (AI s.data.toList e k):=by
 obtain ⟨own,sv,mv,bv,pv,ov,rows,h⟩:=h;have hpl:e.inner.pcs.length≤1000:=by have:=h.ok.inner.2.2.1;have:=h.ok.pos;simp at this;omega
 have hfr:=D6 lo p own _ _ _ _ _ _ bv pv _ _ _ e.inner.pcs w h.blk h.pn hpl;rw [hf] at hfr;have HO:=Afj (show AI s.data.toList e k=.error (10,k) by unfold AI;rw [hf];rfl);have hlo:=Afr h.lop (Afu h.blk.lt);clear h hf hpl;go_enter func132,ntmps132;go_wp2_with fail
 refine hfr.mono ?_;rintro x w1 ⟨rfl,b1⟩;clear hfr;go_wp2_with fail
 go_ret2
 exact AC HO.out (b1.mono hlo)
theorem Ue (lo p mp:Nat) (w:World) (s:ByteArray) (e:ES) (k:Nat) (h:ED lo p mp w s e) (hs:s.size≤250) (hk:e.pos=k+1) (hf:A1 e.inner.pcs=false) (hb:byt s.data.toList k=42) (hok:EOk s.data.toList (e.at e.st (e.inner.pcs.dropLast++[.rep (e.inner.pcs.getLastD .empty) 0 (-1)]))):Calls prog 132 #[.pointer (some ⟨p,0,none⟩),.int .i64 (k:Int)] w fun x w'=>Bc lo p mp s w x w' (AI s.data.toList e k):=by
 have hkl:k < s.data.toList.length:=by obtain ⟨own,sv,mv,bv,pv,ov,rows,h⟩:=h;have:=h.ok.pos;omega
 have hrep:repAt true s.data.toList k=.some 0 (-1) 0 (k+1):=by unfold repAt;rw [Fx hkl hb];rfl
 have HO:=Afj (show AI s.data.toList e k=.ok (e.at e.st (e.inner.pcs.dropLast++[.rep (e.inner.pcs.getLastD .empty) 0 (-1)])) by unfold AI;rw [hf,hrep];show Except.ok (e.at (e.st.to (k+1)) _)=_;rw [←hk];rfl);clear hrep hkl;obtain ⟨own,sv,mv,bv,pv,ov,rows,h⟩:=h;have hpl:e.inner.pcs.length≤1000:=(by have:=h.ok.inner.2.2.1;have:=h.ok.pos;simp at this;omega);have hks:k < s.size:=(by have:=h.ok.pos;simp at this;omega);have hfr:=D6 lo p own _ _ _ _ _ _ bv pv _ _ _ e.inner.pcs w h.blk h.pn hpl;rw [hf] at hfr;have HP:=Afj (Fd hf);have HH:=Afj h;have HLo:=Afj (Afr h.lop (Afu h.blk.lt));have HK:=Afj hk;clear h hf hpl hk;go_enter func132,ntmps132;go_wp2_with fail
 refine hfr.mono ?_;rintro x w1 ⟨rfl,b1⟩;have h1:=HH.out.below b1;have HB1:=Afj (b1.mono HLo.out);have HS1:=Afj b1.size;obtain ⟨sa,sc,rfl,e2,e3⟩:=h1.sg;obtain ⟨g,rfl,hg,hgl,hcell⟩:=e3 (by omega);have kc:=hcell k hks;have k1:w1.cell? ⟨p,1,none⟩=some (.slice (some ⟨g,0,none⟩) s.size sc):=(h1.blk.cell 1).trans rfl;have i1:(k:Int) < (s.size:Int):=(by omega);have H1:=Afj h1;clear hfr b1 h1 e3 hcell;rw [hb] at kc;have hrp:=Gq H1.out 0 (-1) HP.out hs hok;clear hb hok;go_wp2_with fail
 refine hrp.mono ?_;rintro x w2 ⟨rfl,hx2,b2⟩;have HX2:=Afj hx2;clear hrp hx2;go_wp2_with fail
 go_ret2
 exact Az HO.out (HB1.out.trans b2) HX2.out
theorem Uf (lo p mp:Nat) (w:World) (s:ByteArray) (e:ES) (k:Nat) (h:ED lo p mp w s e) (hs:s.size≤250) (hk:e.pos=k+1) (hf:A1 e.inner.pcs=false) (hb:byt s.data.toList k=43) (hok:EOk s.data.toList (e.at e.st (e.inner.pcs.dropLast++[.rep (e.inner.pcs.getLastD .empty) 1 (-1)]))):Calls prog 132 #[.pointer (some ⟨p,0,none⟩),.int .i64 (k:Int)] w fun x w'=>Bc lo p mp s w x w' (AI s.data.toList e k):=by
 have hkl:k < s.data.toList.length:=by obtain ⟨own,sv,mv,bv,pv,ov,rows,h⟩:=h;have:=h.ok.pos;omega
 have hrep:repAt true s.data.toList k=.some 1 (-1) 0 (k+1):=by unfold repAt;rw [BF (b:=42) (by rw [hb];decide)];simp only [A5,if_true,Af2,if_false];rw [Fx hkl hb];rfl
 have HO:=Afj (show AI s.data.toList e k=.ok (e.at e.st (e.inner.pcs.dropLast++[.rep (e.inner.pcs.getLastD .empty) 1 (-1)])) by unfold AI;rw [hf,hrep];show Except.ok (e.at (e.st.to (k+1)) _)=_;rw [←hk];rfl);clear hrep hkl;obtain ⟨own,sv,mv,bv,pv,ov,rows,h⟩:=h;have hpl:e.inner.pcs.length≤1000:=(by have:=h.ok.inner.2.2.1;have:=h.ok.pos;simp at this;omega);have hks:k < s.size:=(by have:=h.ok.pos;simp at this;omega);have hfr:=D6 lo p own _ _ _ _ _ _ bv pv _ _ _ e.inner.pcs w h.blk h.pn hpl;rw [hf] at hfr;have HP:=Afj (Fd hf);have HH:=Afj h;have HLo:=Afj (Afr h.lop (Afu h.blk.lt));have HK:=Afj hk;clear h hf hpl hk;go_enter func132,ntmps132;go_wp2_with fail
 refine hfr.mono ?_;rintro x w1 ⟨rfl,b1⟩;have h1:=HH.out.below b1;have HB1:=Afj (b1.mono HLo.out);have HS1:=Afj b1.size;obtain ⟨sa,sc,rfl,e2,e3⟩:=h1.sg;obtain ⟨g,rfl,hg,hgl,hcell⟩:=e3 (by omega);have kc:=hcell k hks;have k1:w1.cell? ⟨p,1,none⟩=some (.slice (some ⟨g,0,none⟩) s.size sc):=(h1.blk.cell 1).trans rfl;have i1:(k:Int) < (s.size:Int):=(by omega);have H1:=Afj h1;clear hfr b1 h1 e3 hcell;rw [hb] at kc;have hrp:=Gq H1.out 1 (-1) HP.out hs hok;clear hb hok;go_wp2_with fail
 refine hrp.mono ?_;rintro x w2 ⟨rfl,hx2,b2⟩;have HX2:=Afj hx2;clear hrp hx2;go_wp2_with fail
 go_ret2
 exact Az HO.out (HB1.out.trans b2) HX2.out
theorem Xb (lo p mp:Nat) (w:World) (s:ByteArray) (e:ES) (k:Nat) (h:ED lo p mp w s e) (hs:s.size≤250) (hk:e.pos=k+1) (hf:A1 e.inner.pcs=false) (hb:byt s.data.toList k=63) (hok:EOk s.data.toList (e.at e.st (e.inner.pcs.dropLast++[.rep (e.inner.pcs.getLastD .empty) 0 1]))):Calls prog 132 #[.pointer (some ⟨p,0,none⟩),.int .i64 (k:Int)] w fun x w'=>Bc lo p mp s w x w' (AI s.data.toList e k):=by
 have hkl:k < s.data.toList.length:=by obtain ⟨own,sv,mv,bv,pv,ov,rows,h⟩:=h;have:=h.ok.pos;omega
 have hrep:repAt true s.data.toList k=.some 0 1 0 (k+1):=by unfold repAt;rw [BF (b:=42) (by rw [hb];decide)];simp only [A5,if_true,Af2,if_false];rw [BF (b:=43) (by rw [hb];decide)];simp only [Af2,if_false];rw [Fx hkl hb];rfl
 have HO:=Afj (show AI s.data.toList e k=.ok (e.at e.st (e.inner.pcs.dropLast++[.rep (e.inner.pcs.getLastD .empty) 0 1])) by unfold AI;rw [hf,hrep];show Except.ok (e.at (e.st.to (k+1)) _)=_;rw [←hk];rfl);clear hrep hkl;obtain ⟨own,sv,mv,bv,pv,ov,rows,h⟩:=h;have hpl:e.inner.pcs.length≤1000:=(by have:=h.ok.inner.2.2.1;have:=h.ok.pos;simp at this;omega);have hks:k < s.size:=(by have:=h.ok.pos;simp at this;omega);have hfr:=D6 lo p own _ _ _ _ _ _ bv pv _ _ _ e.inner.pcs w h.blk h.pn hpl;rw [hf] at hfr;have HP:=Afj (Fd hf);have HH:=Afj h;have HLo:=Afj (Afr h.lop (Afu h.blk.lt));have HK:=Afj hk;clear h hf hpl hk;go_enter func132,ntmps132;go_wp2_with fail
 refine hfr.mono ?_;rintro x w1 ⟨rfl,b1⟩;have h1:=HH.out.below b1;have HB1:=Afj (b1.mono HLo.out);have HS1:=Afj b1.size;obtain ⟨sa,sc,rfl,e2,e3⟩:=h1.sg;obtain ⟨g,rfl,hg,hgl,hcell⟩:=e3 (by omega);have kc:=hcell k hks;have k1:w1.cell? ⟨p,1,none⟩=some (.slice (some ⟨g,0,none⟩) s.size sc):=(h1.blk.cell 1).trans rfl;have i1:(k:Int) < (s.size:Int):=(by omega);have H1:=Afj h1;clear hfr b1 h1 e3 hcell;rw [hb] at kc;have hrp:=Gq H1.out 0 1 HP.out hs hok;clear hb hok;go_wp2_with fail
 refine hrp.mono ?_;rintro x w2 ⟨rfl,hx2,b2⟩;have HX2:=Afj hx2;clear hrp hx2;go_wp2_with fail
 go_ret2
 exact Az HO.out (HB1.out.trans b2) HX2.out
theorem Ug {s:List UInt8} {k:Nat} (hl:k < s.length) (hb:byt s k=123):repAt true s k=(match (Lr (CQ true) (s.drop (k+1))).map fun q=>(q.1,q.2.1,k+1+q.2.2) with
  | Option.none=>.bad
  | Option.some (m,n,j)=>.some m n 0 j):=by
 unfold repAt;rw [BF (b:=42) (by rw [hb];decide)];simp only [A5,if_true,Af2,if_false];rw [BF (b:=43) (by rw [hb];decide),BF (b:=63) (by rw [hb];decide)];simp only [Af2,if_false];rw [Fx hl hb];simp only [if_true];rw [Hw];rfl
theorem Adh (s:ByteArray) (k:Nat):(s.extract k s.size).data.toList=s.data.toList.drop k:=by
 rw [ByteArray.data_extract,Array.toList_extract];simp only [List.extract_eq_take_drop];rw [List.take_of_length_le (by simp)]
theorem QJ (lo p mp:Nat) (w:World) (s:ByteArray) (e:ES) (k:Nat) (h:ED lo p mp w s e) (hs:s.size≤250) (hk:e.pos=k+1) (hf:A1 e.inner.pcs=false) (hb:byt s.data.toList k=123) (hok1:∀ m n j,repAt true s.data.toList k=.some m n 0 j→EOk s.data.toList { e with pos:=j }) (hok:∀ m n j,repAt true s.data.toList k=.some m n 0 j→EOk s.data.toList (e.at (e.st.to j) (e.inner.pcs.dropLast++[.rep (e.inner.pcs.getLastD .empty) m n]))):Calls prog 132 #[.pointer (some ⟨p,0,none⟩),.int .i64 (k:Int)] w fun x w'=>Bc lo p mp s w x w' (AI s.data.toList e k):=by
 have hkl:k < s.data.toList.length:=by obtain ⟨own,sv,mv,bv,pv,ov,rows,h⟩:=h;have:=h.ok.pos;omega
 have hrep:=Ug hkl hb;have HO:AI s.data.toList e k=(match repAt true s.data.toList k with
  | .some mn mx _ j=>.ok (e.at (e.st.to j) (e.inner.pcs.dropLast++[.rep (e.inner.pcs.getLastD .empty) mn mx]))
  | _=>.error (7,k)):=by unfold AI;rw [hf];rfl
 have g5:=fun w=>L5 (s.extract (k+1) s.size) ⟨#[125]⟩ w (by rw [Fa];omega) (by simp)
 rw [Adh,show (ByteArray.mk #[125]).data.toList=CQ true from rfl] at g5;have hsl:s.data.toList.length=s.size:=by simp
 have Hcl:=Afj (show CQ true≠[] by simp [CQ]);cases hiv:Lr (CQ true) (s.data.toList.drop (k+1)) with
 | none=>
  rw [hiv] at hrep g5;rw [hrep] at HO;replace HO:=Afj (show AI s.data.toList e k=.error (7,k) from HO);rw [show Kc none=.returned (.tuple #[.int .i64 0,.int .i64 0,.int .i64 0,.bool false]) from rfl] at g5;clear hiv hrep hok hok1 hkl hsl;obtain ⟨own,sv,mv,bv,pv,ov,rows,h⟩:=h;have hpl:e.inner.pcs.length≤1000:=(by have:=h.ok.inner.2.2.1;have:=h.ok.pos;simp at this;omega);have hks:k < s.size:=(by have:=h.ok.pos;simp at this;omega);have hfr:=D6 lo p own _ _ _ _ _ _ bv pv _ _ _ e.inner.pcs w h.blk h.pn hpl;rw [hf] at hfr;have HP:=Afj (Fd hf);have HH:=Afj h;have HLo:=Afj (Afr h.lop (Afu h.blk.lt));have HK:=Afj hk;clear h hf hpl hk;have hlen2:((k+1:Nat):Int)≤(s.size:Int):=by omega
  go_enter func132,ntmps132;go_wp2_with fail
  refine hfr.mono ?_;rintro x w1 ⟨rfl,b1⟩;have h1:=HH.out.below b1;have HB1:=Afj (b1.mono HLo.out);have HS1:=Afj b1.size;obtain ⟨sa,sc,rfl,e2,e3⟩:=h1.sg;obtain ⟨g,rfl,hg,hgl,hcell⟩:=e3 (by omega);have kc:=hcell k hks;have k1:w1.cell? ⟨p,1,none⟩=some (.slice (some ⟨g,0,none⟩) s.size sc):=(h1.blk.cell 1).trans rfl;have i1:(k:Int) < (s.size:Int):=(by omega);have H1:=Afj h1;clear hfr b1 h1 e3 hcell;have q0:w1.cell? ⟨p,0,none⟩=some (.string s):=(H1.out.blk.cell 0).trans rfl;have q2:w1.cell? ⟨p,2,none⟩=some (.int .i64 ((k+1:Nat):Int)):=by rw [←HK.out];exact (H1.out.blk.cell 2).trans rfl
  have hall:=And.intro q0 (And.intro q2 (Afv w1.heap.size w1));have hp1:=H1.out.blk.lt;rw [hb] at kc;clear hb;go_upto_region 11 with fail;generalize k+1=k2 at *
  go_region_held3 (fun w'=>w'.cell? ⟨p,0,none⟩=some (.string s)∧w'.cell? ⟨p,2,none⟩=some (.int .i64 (k2:Int))∧Below w1.heap.size w1 w')
   (first | (with_reducible exact hall) | (with_reducible exact Kt hbX hp1 (by assumption)) | (with_reducible exact Ku (by assumption)))
   (first | (go_at_call 145;refine (g5 _).mono ?_;rintro e w' ⟨rfl,hbX⟩))
  clear hall
  go_split_ands
  rename_i w5 _ _ hX;go_wp2_with fail
  go_ret2
  exact AC HO.out (HB1.out.trans (hX.mono (Afr HLo.out HS1.out)))
 | some q=>
  rw [hiv] at hrep g5;rw [hrep] at HO;replace HO:=Afj (show AI s.data.toList e k=.ok (e.at (e.st.to (k+1+q.2.2)) (e.inner.pcs.dropLast++[.rep (e.inner.pcs.getLastD .empty) q.1 q.2.1])) from HO);rw [show Kc (some q)=.returned (.tuple #[.int .i64 q.1,.int .i64 q.2.1,.int .i64 (q.2.2:Int),.bool true]) from rfl] at g5;have HK1:=Afj (hok1 q.1 q.2.1 (k+1+q.2.2) hrep);have HK2:=Afj (hok q.1 q.2.1 (k+1+q.2.2) hrep);have hql:=Wr _ _ _ Hcl.out hiv;rw [Af3] at hql;have Wn:IntKind.i64.wrap (((k+1:Nat):Int)+(q.2.2:Int))=((k+1+q.2.2:Nat):Int):=by rw [Afx _ (by omega)];omega
  clear hiv hrep hok hok1 hkl hsl hql;generalize q.1=qa at *;generalize q.2.1=qb at *;generalize q.2.2=qc at *;obtain ⟨own,sv,mv,bv,pv,ov,rows,h⟩:=h;have hpl:e.inner.pcs.length≤1000:=(by have:=h.ok.inner.2.2.1;have:=h.ok.pos;simp at this;omega);have hks:k < s.size:=(by have:=h.ok.pos;simp at this;omega);have hfr:=D6 lo p own _ _ _ _ _ _ bv pv _ _ _ e.inner.pcs w h.blk h.pn hpl;rw [hf] at hfr;have HP:=Afj (Fd hf);have HH:=Afj h;have HLo:=Afj (Afr h.lop (Afu h.blk.lt));have HK:=Afj hk;clear h hf hpl hk;have hlen2:((k+1:Nat):Int)≤(s.size:Int):=by omega
  go_enter func132,ntmps132;go_wp2_with fail
  refine hfr.mono ?_;rintro x w1 ⟨rfl,b1⟩;have h1:=HH.out.below b1;have HB1:=Afj (b1.mono HLo.out);have HS1:=Afj b1.size;obtain ⟨sa,sc,rfl,e2,e3⟩:=h1.sg;obtain ⟨g,rfl,hg,hgl,hcell⟩:=e3 (by omega);have kc:=hcell k hks;have k1:w1.cell? ⟨p,1,none⟩=some (.slice (some ⟨g,0,none⟩) s.size sc):=(h1.blk.cell 1).trans rfl;have i1:(k:Int) < (s.size:Int):=(by omega);have H1:=Afj h1;clear hfr b1 h1 e3 hcell;have q0:w1.cell? ⟨p,0,none⟩=some (.string s):=(H1.out.blk.cell 0).trans rfl;have q2:w1.cell? ⟨p,2,none⟩=some (.int .i64 ((k+1:Nat):Int)):=by rw [←HK.out];exact (H1.out.blk.cell 2).trans rfl
  have hall:=And.intro q0 (And.intro q2 (Afv w1.heap.size w1));have hp1:=H1.out.blk.lt;rw [hb] at kc;clear hb;go_upto_region 11 with fail;generalize k+1=k2 at *
  go_region_held3 (fun w'=>w'.cell? ⟨p,0,none⟩=some (.string s)∧w'.cell? ⟨p,2,none⟩=some (.int .i64 (k2:Int))∧Below w1.heap.size w1 w')
   (first | (with_reducible exact hall) | (with_reducible exact Kt hbX hp1 (by assumption)) | (with_reducible exact Ku (by assumption)))
   (first | (go_at_call 145;refine (g5 _).mono ?_;rintro e w' ⟨rfl,hbX⟩))
  clear hall
  go_split_ands
  rename_i hX;have h5:=H1.out.below hX;have hz2:=h5.blk.frozen 2;have hE3:=h5.goto (k2+qc) HK1.out;have HB3:=Afj ((HB1.out.trans (hX.mono (Afr HLo.out HS1.out))).trans ((Afv lo _).setCell (p:=⟨p,2,none⟩) HH.out.lop (.int .i64 ((k2+qc:Nat):Int))));have hrp:=Gq hE3 qa qb HP.out hs HK2.out;have hp5:=h5.blk.lt;clear h5 hE3 q0 q2 k1 kc;go_wp2_with fail
  refine hrp.mono ?_;rintro x w6 ⟨rfl,hx6,b6⟩;have HX6:=Afj hx6;clear hrp hx6;go_wp2_with fail
  go_ret2
  exact Az HO.out (HB3.out.trans b6) HX6.out
def CF (e:ES) (k:Nat):Except (Nat × Nat) ES:=match e.outer.getLast? with
 | none=>.error (8,k)
 | some v=>.ok { e with closed:=e.closed++[(e.inner.num:Int)],outer:=e.outer.dropLast,inner:={ v with pcs:=v.pcs++[.group (e.inner.num:Int) e.inner.whole] } }
theorem OH (lo p mp:Nat) (w:World) (s:ByteArray) (e:ES) (h:ED lo p mp w s e) (k:Nat) (ho:e.outer=[]) :
  Calls prog 130 #[.pointer (some ⟨p,0,none⟩),.int .i64 (k:Int)] w fun x w'=>Bc lo p mp s w x w' (CF e k):=by
 obtain ⟨own,sv,mv,bv,pv,ov,rows,h⟩:=h;have HO:=Afj (show CF e k=.error (8,k) by unfold CF;rw [ho];rfl);obtain ⟨oa,oc,rfl⟩:=Bg h.on;have k8:w.cell? ⟨p,8,none⟩=some (.slice oa e.outer.length oc):=(h.blk.cell 8).trans rfl;rw [ho] at k8;clear h ho;go_enter func130,ntmps130;go_wp2_with fail
 go_ret2
 exact AC HO.out (Afv _ _)
theorem Xc {w:World} {B:Nat} {L:List Lv} {R:List (Value × Value)} {oa:Option Addr} {oc:Nat} {v:Lv} {rb rp:Value} (h:w.ownsRow B 207 4 (.slice oa (L.length+1) oc) (L.length+1) (levC (L++[v]) (R++[(rb,rp)]))) (hRL:R.length=L.length) :
  ∃ g,oa=some ⟨g,0,none⟩∧L.length+1≤oc∧w.cell? ⟨g,L.length * 4,none⟩=some (.int .i64 (v.op:Int))∧w.cell? ⟨g,L.length * 4+1,none⟩=some (.int .i64 (v.num:Int))∧w.cell? ⟨g,L.length * 4+2,none⟩=some rb∧w.cell? ⟨g,L.length * 4+3,none⟩=some rp:=by
 have hlv:(levC L R).length=L.length * 4:=by
  unfold levC;rw [List.length_flatMap];have:((L.zip R).map fun a=>[Value.int .i64 (a.1.op:Int),.int .i64 (a.1.num:Int),a.2.1,a.2.2].length)=List.replicate (L.zip R).length 4:=by
   rw [List.eq_replicate_iff];refine ⟨by simp,fun b hb=>?_⟩;obtain ⟨x,_,rfl⟩:=List.mem_map.1 hb;rfl
  rw [this];simp [hRL]
 have hz:levC (L++[v]) (R++[(rb,rp)])=levC L R++[.int .i64 (v.op:Int),.int .i64 (v.num:Int),rb,rp]:=by
  unfold levC;rw [List.zip_append (by omega),List.flatMap_append];simp
 rw [hz] at h;rcases h.2 with ⟨_,h1⟩ | ⟨g,cap,cur,hv,hb,hh,hn,hmx,hs,ht⟩
 ·omega
 ·injection hv with h1 h2 h3;subst h1 h3;have hc:∀ j u,j < 4→[Value.int .i64 (v.op:Int),.int .i64 (v.num:Int),rb,rp][j]?=some u→w.cell? ⟨g,L.length * 4+j,none⟩=some u:=fun j u hj hu=>by
   have h3:w.cell? ⟨g,L.length * 4+j,none⟩=cur[L.length * 4+j]?:=by simp [World.cell?,hh]
   have h5:(cur.toList.take ((L.length+1) * 4))[L.length * 4+j]?=cur.toList[L.length * 4+j]?:=List.getElem?_take_of_lt (by omega);rw [h3,←Array.getElem?_toList,←h5,ht,List.getElem?_append_right (by omega),hlv];rw [show L.length * 4+j - L.length * 4=j by omega];exact hu
  exact ⟨g,rfl,hn,hc 0 _ (by omega) rfl,hc 1 _ (by omega) rfl,hc 2 _ (by omega) rfl,hc 3 _ (by omega) rfl⟩
structure AtWhole (lo p:Nat) (own:List Nat) (w:World) (C:Value→Array Value) (bv:Value) (num:Int) (d:Nd) (a:Nat) (v bv':Value) (wx:World):Prop where
 x:NdX (fun b=>lo≤b∧b ∉ ownB bv'++own) wx d v
 b:Blk wx p (C bv') 210
 t:Touch p bv w wx
 r:bv'.ownBlock=bv.ownBlock∨∃ g,w.heap.size≤g∧g < wx.heap.size∧bv'.ownBlock=some g
 k:Blk wx a #[.int .i64 num,v] 102
 lo:w.heap.size≤a
theorem Blk.touch {w w':World} {p b:Nat} {v:Value} {cs:Array Value} {T:TypeId} (h:Blk w b cs T) (hT:Touch p v w w') (hp:b≠p) (hv:v.ownBlock≠some b):Blk w' b cs T:=by
 have hlt:=h.lt;unfold Blk at h ⊢;rw [hT.block b hlt hp hv];exact h
theorem Ng {w:World} {a:Nat} {x y:Value} {T:TypeId} (h:Blk w a #[x,y] T):w.cell? ⟨a,0,none⟩=some x∧w.cell? ⟨a,1,none⟩=some y∧w.frozen? ⟨a,0,none⟩=false∧w.frozen? ⟨a,1,none⟩=false∧a < w.heap.size:=
 ⟨(h.cell 0).trans rfl,(h.cell 1).trans rfl,h.frozen 0,h.frozen 1,h.lt⟩
theorem La (w:World) (o:Obj):w.heap.size < (w.alloc o).drew.heap.size:=by show w.heap.size < (w.alloc o).heap.size;simp
theorem Touch.of_below {p:Nat} {v:Value} {w w':World} (h:Below w.heap.size w w'):Touch p v w w':=⟨h.os,h.tape,h.output,h.size,fun b hb _ _=>h.block b hb⟩
theorem OI {lo p:Nat} {own:List Nat} {w W w':World} {C:Value→Array Value} {bv bv' v':Value} {num:Int} {d:Nd} (hW:Below w.heap.size w W) (hx:NdX (fun b=>lo≤b∧b ∉ ownB bv'++own) w' d v') (hb:Blk w' p (C bv') 210) (ht:Touch p bv W w') (hr:bv'.ownBlock=bv.ownBlock∨∃ g,W.heap.size≤g∧g < w'.heap.size∧bv'.ownBlock=some g) :
  AtWhole lo p own w C bv num d w'.heap.size v' bv' (w'.alloc (.cells #[.int .i64 num,v'] 102)):=by
 have hA:=(Afv w'.heap.size w').alloc (Afq _) (.cells #[.int .i64 num,v'] 102);exact ⟨NdX.below hA hx,hb.alloc _,((Touch.of_below hW).trans ⟨ht.os,ht.tape,ht.output,ht.size,ht.block⟩).trans (Touch.of_below hA),hr.imp id (fun ⟨g,h1,h2,h3⟩=>⟨g,Afr hW.size h1,Aft h2 hA.size,h3⟩),Blk.new _ _ _ _ rfl,Afr hW.size ht.size⟩
theorem OJ {lo p:Nat} {own:List Nat} {w W w':World} {C:Value→Array Value} {bv bv' v':Value} {num:Int} {d:Nd} (hW:Below w.heap.size w W) (hx:NdX (fun b=>lo≤b∧b ∉ ownB bv'++(w.heap.size :: own)) w' d v') (hb:Blk w' p (C bv') 210) (ht:Touch p bv W w') (hr:bv'.ownBlock=bv.ownBlock∨∃ g,W.heap.size≤g∧g < w'.heap.size∧bv'.ownBlock=some g)
  (hz:Blk w' w.heap.size #[.int .i64 0,.nilIface] 102) (hne:w.heap.size≠p) :
  AtWhole lo p own w C bv num d w.heap.size v' bv' ((w'.setCell ⟨w.heap.size,0,none⟩ (.int .i64 num)).setCell ⟨w.heap.size,1,none⟩ v'):=by
 have hsz:((w'.setCell ⟨w.heap.size,0,none⟩ (.int .i64 num)).setCell ⟨w.heap.size,1,none⟩ v').heap.size=w'.heap.size:=by simp [World.setCell]
 have hfar:∀ b,b≠w.heap.size→((w'.setCell ⟨w.heap.size,0,none⟩ (.int .i64 num)).setCell ⟨w.heap.size,1,none⟩ v').heap[b]?=w'.heap[b]?:=fun b hb=>(Afw _ _ _ _ (fun x=>hb x)).trans (Afw _ _ _ _ (fun x=>hb x))
 refine ⟨hx.keep (Nat.le_of_eq hsz.symm) (fun b hb _=>⟨⟨hb.1,fun x=>hb.2 ((Af1.1 x).elim (fun x=>List.mem_append_left _ x) (fun x=>Af8 _ (List.mem_cons_of_mem _ x)))⟩,fun o=>Afy (w:=w') (a:=⟨b,o,none⟩) (hfar b (fun x=>hb.2 (by rw [x];simp)))⟩),(hb.set_other ⟨w.heap.size,0,none⟩ hne _).set_other ⟨w.heap.size,1,none⟩ hne _,?_,hr.imp id (fun ⟨g,h1,h2,h3⟩=>⟨g,Afr hW.size h1,by rw [hsz];exact h2,h3⟩),(hz.set 0 _).set 1 _,Afq _⟩;have h1:=(Touch.of_below (p:=p) (v:=bv) hW).trans ht;exact ⟨h1.os,h1.tape,h1.output,by rw [hsz];exact h1.size,fun b hb e1 e2=>(hfar b (by omega)).trans (h1.block b hb e1 e2)⟩
theorem QK (lo p mp:Nat) (w:World) (s:ByteArray) (e:ES) (h:ED lo p mp w s e) (k:Nat) (hs:s.size≤250) (L:List Lv) (v:Lv) (ho:e.outer=L++[v]) (hok1:EOk s.data.toList { e with closed:=e.closed++[(e.inner.num:Int)],outer:=L,inner:=v })
  (hok2:EOk s.data.toList { e with closed:=e.closed++[(e.inner.num:Int)],outer:=L,inner:={ v with pcs:=v.pcs++[.group (e.inner.num:Int) e.inner.whole] } }) (hj:(AN e.inner.pcs).length≤4000000) (hc:(AO (e.inner.brs++[B0 e.inner.pcs])).length≤4000000) :
  Calls prog 130 #[.pointer (some ⟨p,0,none⟩),.int .i64 (k:Int)] w fun x w'=>Bc lo p mp s w x w' (CF e k):=by
 obtain ⟨own,sv,mv,bv,pv,ov,rows,h⟩:=h;have HO:=Afj (show CF e k=.ok { e with closed:=e.closed++[(e.inner.num:Int)],outer:=L,inner:={ v with pcs:=v.pcs++[.group (e.inner.num:Int) e.inner.whole] } } by unfold CF;rw [ho,List.getLast?_concat,List.dropLast_concat]);obtain ⟨oa,oc,rfl⟩:=Bg h.on;have hol:=h.ol;rw [ho,Afs,List.length_singleton] at hol;obtain ⟨R,⟨rb,rp⟩,hR⟩:∃ R x,rows=R++[x]:=⟨rows.dropLast,rows.getLast (fun x=>by rw [x] at hol;simp at hol),(List.dropLast_concat_getLast _).symm⟩;subst hR;have hRL:R.length=L.length:=by simpa using hol
 obtain ⟨n,hn⟩:∃ n,n=L.length:=⟨_,rfl⟩;obtain ⟨m,hm⟩:∃ m,m=e.outer.length:=⟨_,rfl⟩;have hmn:m=n+1:=by rw [hm,hn,ho];simp
 have hon:=h.on;rw [←hm] at hon;have hrl:∃ g,oa=some ⟨g,0,none⟩∧n+1≤oc∧w.cell? ⟨g,n * 4,none⟩=some (.int .i64 (v.op:Int))∧w.cell? ⟨g,n * 4+1,none⟩=some (.int .i64 (v.num:Int))∧w.cell? ⟨g,n * 4+2,none⟩=some rb∧w.cell? ⟨g,n * 4+3,none⟩=some rp:=by
  rw [hn];refine Xc (B:=lo) (L:=L) (R:=R) ?_ hRL;rw [←ho,←hn,←hmn];exact hon
 obtain ⟨g,rfl,hoc,l0,l1,l2,l3⟩:=hrl;have h:=h;rw [←hm] at h;have hg:=h.inown (.slice (some ⟨g,0,none⟩) m oc) (by simp [allV]) g rfl;have hgl:=h.ownlt g hg.1;have hplt:=h.blk.lt;have k5:w.cell? ⟨p,5,none⟩=some (.int .i64 (e.inner.num:Int)):=(h.blk.cell 5).trans rfl;have k8:w.cell? ⟨p,8,none⟩=some (.slice (some ⟨g,0,none⟩) m oc):=(h.blk.cell 8).trans rfl;have Wl:IntKind.i64.wrap ((m:Int) - 1)=(n:Int):=by rw [Afx _ (by have:=h.ok.deep;omega)];omega
 have e0:decide ((n:Int) < 0)=false:=by first | (simp;done) | (simp;omega)
 have hbl:e.inner.brs.length≤1000:=by have:=h.ok.inner.2.2.2.1;have:=h.ok.pos;simp at this;omega
 have hW:=fun (w':World) (hb:Below w.heap.size w w')=>GJ lo p own _ _ _ _ _ _ bv pv _ _ _ e.inner.brs e.inner.pcs w' h.lop (h.blk.below hb h.blk.lt) (h.below hb).bn (h.below hb).pn (fun hx=>(h.inown bv (by simp [allV]) p hx).2.1 rfl) h.pown (fun b hx=>Aft (h.ownlt b hx) hb.size) (fun q hq=>(h.inown bv (by simp [allV]) q hq).1) hbl hj hc
 have hW2:=fun (w':World) (hb:Below w.heap.size w w') (hlt:w.heap.size < w'.heap.size)=>GJ lo p (w.heap.size :: own) _ _ _ _ _ _ bv pv _ _ _ e.inner.brs e.inner.pcs w' h.lop (h.blk.below hb h.blk.lt)
  (h.bn.keep hb.size (fun g hg=>hb.block g (h.bn.lt g hg).2) (fun b hb1 hb2=>⟨hb.block b hb1,fun x=>(Afz.1 x).elim (fun x=>absurd hb1 (by omega)) (fun x=>hb2 x)⟩)) (h.pn.keep hb.size (fun g hg=>hb.block g (h.pn.lt g hg).2) (fun b hb1 hb2=>⟨hb.block b hb1,fun x=>(Afz.1 x).elim (fun x=>absurd hb1 (by omega)) (fun x=>hb2 x)⟩)) (fun hx=>(h.inown bv (by simp [allV]) p hx).2.1 rfl) (List.mem_cons_of_mem _ h.pown)
  (fun b hx=>(Afz.1 hx).elim (fun x=>by omega) (fun x=>Aft (h.ownlt b x) hb.size)) (fun q hq=>List.mem_cons_of_mem _ (h.inown bv (by simp [allV]) q hq).1) hbl hj hc
 have hlast:NR lo own w v.brs rb∧NR lo own w v.pcs rp:=by
  have:=h.orow L.length (by rw [ho];simp) (by simp;omega);have e1:(R++[(rb,rp)])[L.length]'(by simp;omega)=(rb,rp):=by rw [List.getElem_append_right (by omega)];simp [hRL]
  have e2:e.outer[L.length]'(by rw [ho];simp)=v:=by simp [ho]
  rw [e1,e2] at this;exact this
 obtain ⟨rba,rbc,rfl⟩:=hlast.1.form;obtain ⟨rpa,rpc,rfl⟩:=hlast.2.form;have HW:=Afj hW;have HW2:=Afj hW2;have HH:=Afj h;have Hg:=Afj hg;have HOC:=Afj hoc;have HMN:=Afj hmn;have HN:=Afj hn;have HHO:=Afj ho;have HL:=Afj (And.intro l0 (And.intro l1 (And.intro l2 l3)));clear hW hW2 h hj hc hon hm l0 l1 l2 l3 hmn hn hol ho;have hne1:w.heap.size≠p:=by omega
 have hne2:bv.ownBlock≠some w.heap.size:=fun x=>by have:=HH.out.ownlt _ (HH.out.inown bv (by simp [allV]) _ x).1;omega
 go_enter func130,ntmps130;go_upto_region 4 with fail;go_cut [7] (fun s7 wx=>∃ a v' bv',s7=.pointer (some ⟨a,0,none⟩)∧AtWhole lo p own w (fun b=>EC (.string s) sv (.int .i64 (e.pos:Int)) mv (.int .i64 (e.inner.op:Int)) (.int .i64 (e.inner.num:Int)) b (.slice none 0 0) (.slice (some ⟨g,0,none⟩) m oc) (.int .i64 (e.groups:Int)) (.map (some mp))) bv (e.inner.num:Int) e.inner.whole a v' bv' wx)
 case first=>
  go_region_with (go_at_call 116;(first | refine (HW2.out _ (by repeat (first | (with_reducible exact Afv _ _) | refine Agb ?_ | refine below_drewN ?_ _ | refine Agc ?_ (by first | omega | (simp;omega) | simp) _)) (La _ _)).mono ?_ | refine (HW.out _ (by repeat (first | (with_reducible exact Afv _ _) | refine Agb ?_ | refine below_drewN ?_ _ | refine Agc ?_ (by first | omega | (simp;omega) | simp) _))).mono ?_);rintro x w' ⟨v',bv',rfl,hx1,hB1,hT1,hr1⟩;have hpl1:=hB1.lt;have hp5:w'.cell? ⟨p,5,none⟩=some (.int .i64 (e.inner.num:Int)):=(hB1.cell 5).trans rfl;have hsh:=hx1.elim fun _ h=>Ay h;have hcl:v'.cells=#[v']:=(by rcases hsh with ⟨T,q,rfl⟩ | rfl <;> rfl);unfold Value.cells at hcl;have hv1:v'.oneCell'=true:=(by rcases hsh with ⟨T,q,rfl⟩ | rfl <;> rfl);have hst:=fun (W:World) (A:Addr) M=>run_store prog W A v' M hv1;(try (have hPz:=Blk.touch ((Blk.new w #[.int .i64 0,.nilIface] 102 w.heap.size rfl).drew) hT1 hne1 hne2;obtain ⟨y0,y1,x0,x1,xl⟩:=Ng hPz));have HX1:=Afj hx1;have HT1:=Afj hT1;have HR1:=Afj hr1;clear hx1 hsh hT1 hr1)
  all_goals go_wp2_with fail
  all_goals go_meet
  all_goals first
   | exact ⟨_,_,_,rfl,OI (by repeat (first | (with_reducible exact Afv _ _) | refine Agb ?_ | refine below_drewN ?_ _ | refine Agc ?_ (by first | omega | (simp;omega) | simp) _)) HX1.out hB1 HT1.out HR1.out⟩
   | exact ⟨_,_,_,rfl,OJ (by repeat (first | (with_reducible exact Afv _ _) | refine Agb ?_ | refine below_drewN ?_ _ | refine Agc ?_ (by first | omega | (simp;omega) | simp) _)) HX1.out hB1 HT1.out HR1.out hPz hne1⟩
 case rest=>
  obtain ⟨a,v',bv',rfl,hA⟩:=hcut;obtain ⟨nn,D,hnn,hown,hkk⟩:=HH.out.cl;have hmp:=HH.out.mown;have hmlt:=HH.out.ownlt mp hmp;have hmbv:bv.ownBlock≠some mp:=fun x=>(HH.out.inown bv (by simp [allV]) mp x).2.2 rfl
  have hown2:wc.drew.ownsMap prog 3 unitElem mp nn D:=by
   obtain ⟨es,clock,hb,r⟩:=hown;exact ⟨es,clock,(hA.t.block mp hmlt (fun x=>HH.out.pm x.symm) hmbv).trans hb,r⟩
  have hnum:(e.inner.num:Int)≤255:=by have:=HH.out.ok.inner.2.2.2.2;have:=HH.out.ok.pos;simp at this;omega
  have hkey:=QI (e.inner.num:Int) (by omega) hnum;have hnlt:nn < maxLen:=by have:=HH.out.ok.closed;have:=HH.out.ok.pos;simp at this;unfold maxLen;omega
  have hA0:wc.cell? ⟨a,0,none⟩=some (.int .i64 (e.inner.num:Int)):=(Ng hA.k).1;have hp10:wc.cell? ⟨p,10,none⟩=some (.map (some mp)):=(hA.b.cell 10).trans rfl;have HNN:=Afj hnn;have HKK:=Afj hkk;have HIM:=Afj (hown.isMap);clear hnn hkk hown k5 k8;go_upto_region 5 with fail
  go_still_tail 7,(by kernel_rfl)
  change wpList _ _ _ _ _ wc.drew
  go_wp2_with (at_mapUpdate;refine wpList_mapUpdate_in _ rfl _ _ _ 205 rfl 3 103 (Go.Maps.int_keyed underlying3) underlying205 unitElem mp nn D rfl hown2 hnlt _ _ (.int .i64 (e.inner.num:Int)) rfl rfl hkey (.agg []) [] unitElem_mk ?_;intro w3 hown3 hturn)
  have hgrow:=hturn.grown;have hgsz:=hgrow.size;have hB3:Blk w3 p (EC (.string s) sv (.int .i64 (e.pos:Int)) mv (.int .i64 (e.inner.op:Int)) (.int .i64 (e.inner.num:Int)) bv' (.slice none 0 0) (.slice (some ⟨g,0,none⟩) m oc) (.int .i64 (e.groups:Int)) (.map (some mp))) 210:=Ea hA.b.drew hgrow (fun x=>HH.out.pm (Option.some.inj x).symm);have hK3:=Ea hA.k.drew hgrow (fun x=>by have:=Option.some.inj x;have:=hA.lo;omega);have hgb:bv.ownBlock≠some g:=fun x=>by
   have hap:=HH.out.apart;unfold allV at hap;simp only [List.pairwise_cons] at hap;exact hap.2.1 (.slice (some ⟨g,0,none⟩) m oc) (by simp) g x rfl
  have hg3:w3.heap[g]?=w.heap[g]?:=(hgrow.block g (Aft hgl hA.t.size) (fun x=>Hg.out.2.2 (Option.some.inj x))).trans (hA.t.block g hgl Hg.out.2.1 hgb);have r0:w3.cell? ⟨g,n * 4,none⟩=some (.int .i64 (v.op:Int)):=(Afy (w:=w) (a:=⟨g,n * 4,none⟩) hg3).trans HL.out.1;have r1:w3.cell? ⟨g,n * 4+1,none⟩=some (.int .i64 (v.num:Int)):=(Afy (w:=w) (a:=⟨g,n * 4+1,none⟩) hg3).trans HL.out.2.1;have r2:w3.cell? ⟨g,n * 4+2,none⟩=some (.slice rba v.brs.length rbc):=(Afy (w:=w) (a:=⟨g,n * 4+2,none⟩) hg3).trans HL.out.2.2.1;have r3:w3.cell? ⟨g,n * 4+3,none⟩=some (.slice rpa v.pcs.length rpc):=(Afy (w:=w) (a:=⟨g,n * 4+3,none⟩) hg3).trans HL.out.2.2.2;have c8:w3.cell? ⟨p,8,none⟩=some (.slice (some ⟨g,0,none⟩) m oc):=(hB3.cell 8).trans rfl;have c4:w3.cell? ⟨p,4,none⟩=some (.int .i64 (e.inner.op:Int)):=(hB3.cell 4).trans rfl;have c5:w3.cell? ⟨p,5,none⟩=some (.int .i64 (e.inner.num:Int)):=(hB3.cell 5).trans rfl;have c6:w3.cell? ⟨p,6,none⟩=some bv':=(hB3.cell 6).trans rfl;have c7:w3.cell? ⟨p,7,none⟩=some (.slice none 0 0):=(hB3.cell 7).trans rfl;have f4:=hB3.frozen 4;have f5:=hB3.frozen 5;have f6:=hB3.frozen 6;have f7:=hB3.frozen 7;have f8:=hB3.frozen 8;have hp3:=hB3.lt;have i1:(n:Int) < (m:Int):=by have:=HMN.out;omega
  have i2:(n:Int)≤(oc:Int):=by have:=HOC.out;omega
  have i3:n≤oc:=by have:=HOC.out;omega
  have i4:¬ oc=0:=by have:=HOC.out;omega
  have hgp:g≠p:=Hg.out.2.1;have HB3:=Afj hB3;have HK3:=Afj hK3;have HA:=Afj hA;have HOWN3:=Afj hown3;have HG:=Afj hgrow;clear hB3 hK3 hA hown3 hgrow hturn hgsz hown2 hnlt hkey hA0 hp10 hg3 hgb;go_upto_region 6 with fail;obtain ⟨W8,hcut⟩:∃ W8,W8=(((((w3.setCell ⟨p,4,none⟩ (.int .i64 (v.op:Int))).setCell ⟨p,5,none⟩ (.int .i64 (v.num:Int))).setCell ⟨p,6,none⟩ (.slice rba v.brs.length rbc)).setCell ⟨p,7,none⟩ (.slice rpa v.pcs.length rpc)).setCell ⟨p,8,none⟩ (.slice (some ⟨g,0,none⟩) n oc)).drew:=⟨_,rfl⟩;have hB8:=(((((HB3.out.set 4 (.int .i64 (v.op:Int))).set 5 (.int .i64 (v.num:Int))).set 6 (.slice rba v.brs.length rbc)).set 7 (.slice rpa v.pcs.length rpc)).set 8 (.slice (some ⟨g,0,none⟩) n oc)).drew;have hfar:∀ b,b≠p→W8.heap[b]?=w3.heap[b]?:=fun b hb=>by
   rw [hcut];refine (Afw _ _ _ _ (fun x=>hb x)).trans ((Afw _ _ _ _ (fun x=>hb x)).trans ((Afw _ _ _ _ (fun x=>hb x)).trans ((Afw _ _ _ _ (fun x=>hb x)).trans (Afw _ _ _ _ (fun x=>hb x)))))
  have hsz8:W8.heap.size=w3.heap.size:=by rw [hcut];simp [World.setCell,World.drew]
  have hos:W8.os=w3.os∧W8.tape=w3.tape∧W8.output=w3.output:=by rw [hcut];exact ⟨rfl,rfl,rfl⟩
  rw [←hcut] at hB8;have hs3:wc.heap.size≤w3.heap.size:=HG.out.size;have hs0:w.heap.size≤wc.heap.size:=HA.out.t.size;have hX8:Em lo p mp (ownB bv'++own) W8 s { e with closed:=e.closed++[(e.inner.num:Int)],outer:=L,inner:=v } sv mv (.slice rba v.brs.length rbc) (.slice rpa v.pcs.length rpc) (.slice (some ⟨g,0,none⟩) L.length oc) R:=by
   refine Em.popped (bv':=bv') HH.out HHO.out rfl (by omega) (fun b h1 h2 h3 h4=>?_) (HA.out.r.imp id (fun ⟨q,q1,q2,q3⟩=>⟨q,q1,by omega,q3⟩)) rfl (by rw [←HN.out];exact hB8) ((MapAt.put HNN.out HIM.out HKK.out HOWN3.out).same (hfar mp (fun x=>HH.out.pm x.symm))) hok1;exact (hfar b h2).trans ((HG.out.block b (show b < wc.heap.size by omega) (fun x=>h3 (Option.some.inj x))).trans (HA.out.t.block b h1 h2 h4))
  have hap:a≠p:=fun x=>by have:=HA.out.lo;have:=HH.out.blk.lt;omega
  have hK8:Blk W8 a #[.int .i64 (e.inner.num:Int),v'] 102:=by
   have:=HK3.out;unfold Blk at this ⊢;rw [hfar a hap];exact this
  obtain ⟨y0,y1,x0,x1,xl⟩:=Ng hK8;have hL8:Below lo w W8:=⟨hos.1.trans (HG.out.os.trans HA.out.t.os),hos.2.1.trans (HG.out.tape.trans HA.out.t.tape),hos.2.2.trans (HG.out.output.trans HA.out.t.output),by omega,fun b hb=>by
   have hlp:=HH.out.lop;have hbm:b≠mp:=fun x=>by have:=HH.out.lom;omega
   exact (hfar b (by omega)).trans ((HG.out.block b (show b < wc.heap.size by omega) (fun x=>hbm (Option.some.inj x))).trans (HA.out.t.block b (by omega) (by omega) (fun x=>by have:=(HH.out.bn.lt b x).1;omega)))⟩
  have hU:NdX (fun b=>lo≤b∧b ∉ ownB bv'++own) W8 (.group (e.inner.num:Int) e.inner.whole) (.iface 102 (.agg #[.int .i64 (e.inner.num:Int),v'])):=
   Ud (HA.out.x.keep (by omega) (fun b hb hlt=>⟨hb,fun o=>Afy (w:=wc) (a:=⟨b,o,none⟩) ((hfar b (fun x=>hb.2 (Af8 _ (x▸HH.out.pown)))).trans (HG.out.block b hlt (fun x=>hb.2 (Af8 _ (Option.some.inj x▸HH.out.mown)))))⟩))
  have hadd:=fun (w':World) (hb:Below W8.heap.size W8 w')=>EJ (hX8.below hb) (.group (e.inner.num:Int) e.inner.whole) (.iface 102 (.agg #[.int .i64 (e.inner.num:Int),v'])) (NdX.below hb hU) rfl hs hok2
  have HAdd:=Afj hadd;have HL8:=Afj hL8;have HCut:=Afj hcut;clear hB8 hfar hsz8 hos hs3 hs0 hX8 hK8 hL8 hU hadd hcut HW HW2
  go_region
  all_goals go_wp2_with fail
  all_goals rw [←HCut.out]
  all_goals clear HCut c8 c4 c5 c6 c7 r0 r1 r2 r3 f4 f5 f6 f7 f8
  all_goals go_upto_region 7 with fail
  all_goals go_region_law (first
    | (refine By rfl _ _ _ rfl 131 _ rfl (by rfl) (enters_of func131 (by kernel_rfl) rfl) (HAdd.out _ (by first | exact Afv _ _ | exact Agb (Afv _ _))) ?_;rintro x w9 ⟨rfl,hx9,hb9⟩;refine ⟨_,rfl,?_⟩;have HX9:=Afj hx9;have HB9:Hid (Below lo W8 w9):=Afj (by first | exact hb9 | exact (Agb (Afv _ _)).trans hb9);clear hx9 hb9))
  all_goals go_wp2_with fail
  all_goals go_ret2
  all_goals exact Az HO.out (HL8.out.trans HB9.out) HX9.out
theorem EOk.goto {s:List UInt8} {e:ES} (h:EOk s e) {j:Nat} (h1:e.pos≤j) (h2:j≤s.length):EOk s { e with pos:=j }:=
 ⟨h2,h.inner.up h1,fun v hv=>(h.outer v hv).up h1,Afr h.marks h1,Afr h.groups h1,h.deep,Afr h.closed h1⟩
theorem EOk.marked {s:List UInt8} {e:ES} (h:EOk s e) (q:Nat × Nat) (h1:e.marks.length < e.pos):EOk s { e with marks:=e.marks++[q] }:=
 ⟨h.pos,h.inner,h.outer,by show (e.marks++[q]).length≤e.pos;rw [Afs];simp;omega,h.groups,h.deep,h.closed⟩
theorem EOk.pieced {s:List UInt8} {e:ES} (h:EOk s e) {d:Nd} (hd:inCat d=true) (h1:e.inner.pcs.length < e.pos):EOk s (e.at e.st (e.inner.pcs++[d])):=
 ⟨h.pos,⟨BR h.inner.1 hd,h.inner.2.1,by show (e.inner.pcs++[d]).length≤e.pos;rw [Afs];simp;omega,h.inner.2.2.2.1,h.inner.2.2.2.2⟩,h.outer,h.marks,h.groups,h.deep,h.closed⟩
def BI (s:List UInt8) (e:ES) (k:Nat):Except (Nat × Nat) ES:=if k+1 < s.length then (match Dt true ⟨k,e.groups,e.closed,e.marks⟩ (byt s (k+1)) with
  | .error q=>.error q
  | .ok (st,d)=>.ok (e.at st (e.inner.pcs++[d]))) else .error (11,k)
theorem QL {c:Nat} {t:OSet} (h:CJ c=some (t,true)):c < 128:=by
 unfold CJ at h;split at h
 ·injection h with h;injection h with _ h;cases h
 split at h
 ·omega
 split at h
 ·omega
 split at h
 ·omega
 split at h
 ·omega
 split at h
 ·omega
 split at h
 ·injection h with h;injection h with _ h;cases h
 ·cases h
theorem Uh (lo p mp:Nat) (w:World) (s:ByteArray) (e:ES) (k:Nat) (h:ED lo p mp w s e) (hk:e.pos=k+1) (hl:k+1=s.size):Calls prog 134 #[.pointer (some ⟨p,0,none⟩),.int .i64 (k:Int)] w fun x w'=>Bc lo p mp s w x w' (BI s.data.toList e k):=by
 obtain ⟨own,sv,mv,bv,pv,ov,rows,h⟩:=h;have HO:=Afj (show BI s.data.toList e k=.error (11,k) by unfold BI;rw [if_neg (by simp;omega)]);obtain ⟨sa,sc,rfl,_,_⟩:=h.sg;have k1:w.cell? ⟨p,1,none⟩=some (.slice sa s.size sc):=(h.blk.cell 1).trans rfl;have k2:w.cell? ⟨p,2,none⟩=some (.int .i64 ((k+1:Nat):Int)):=by rw [←hk];exact (h.blk.cell 2).trans rfl
 have e0:(((k+1:Nat):Int) == (s.size:Int))=true:=by rw [hl];simp
 generalize k+1=k9 at *;clear h hk hl;go_enter func134,ntmps134;go_wp2_with fail
 go_quiet (fail)
 go_wp2_with fail
 go_ret2
 exact AC HO.out (below_drewN (Afv _ _) _)
theorem Xd (lo p mp:Nat) (w:World) (s:ByteArray) (e:ES) (k:Nat) (h:ED lo p mp w s e) (hs:s.size≤250) (hk:e.pos=k+1) (hl:k+1 < s.size) (c:Nat) (hc:byt s.data.toList (k+1)=c) (hd:49≤c∧c≤57) (hcc:e.closed.contains ((c:Int) - 48)=false):Calls prog 134 #[.pointer (some ⟨p,0,none⟩),.int .i64 (k:Int)] w fun x w'=>Bc lo p mp s w x w' (BI s.data.toList e k):=by
 have HO:=Afj (show BI s.data.toList e k=.error (9,k) by
  unfold BI;rw [if_pos (by simpa using hl),hc];unfold Dt;rw [if_pos hd];simp only [hcc,Af2,if_false])
 obtain ⟨k10,hk10⟩:∃ j,j=k+2:=⟨_,rfl⟩;obtain ⟨own,sv,mv,bv,pv,ov,rows,h⟩:=h;obtain ⟨sa,sc,rfl,e2,e3⟩:=h.sg;obtain ⟨g,rfl,hg,hgl,hcell⟩:=e3 (by omega);have kc:=hcell (k+1) hl;have k1:w.cell? ⟨p,1,none⟩=some (.slice (some ⟨g,0,none⟩) s.size sc):=(h.blk.cell 1).trans rfl;have k2:w.cell? ⟨p,2,none⟩=some (.int .i64 ((k+1:Nat):Int)):=(by rw [←hk];exact (h.blk.cell 2).trans rfl);have e0:(((k+1:Nat):Int) == (s.size:Int))=false:=(by rw [beq_eq_false_iff_ne];omega);have i1:((k+1:Nat):Int) < (s.size:Int):=(by omega);have W1:IntKind.i64.wrap (((k+1:Nat):Int)+1)=(k10:Int):=(by rw [Afx _ (by omega)];omega);have f2:=h.blk.frozen 2;have hlo:=Afr h.lop (Afu h.blk.lt);have hgo:∀ m,Em lo p mp own ((w.drewN m).setCell ⟨p,2,none⟩ (.int .i64 (k10:Int))) s { e with pos:=k10 } (.slice (some ⟨g,0,none⟩) s.size sc) mv bv pv ov rows∧Below lo w ((w.drewN m).setCell ⟨p,2,none⟩ (.int .i64 (k10:Int))):=fun m=>⟨(h.below (below_drewN (Afv _ _) m)).goto k10 (h.ok.goto (by omega) (by simp;omega)),(below_drewN (Afv lo w) m).setCell (p:=⟨p,2,none⟩) h.lop _⟩;have HGO:=Afj hgo;have HKC:=Afj (And.intro (hcell k (by omega)) (And.intro kc (And.intro hgl (And.intro hg (And.intro e2 h.pown)))));have HK10:=Afj hk10;clear hk10;generalize hk9:k+1=k9 at *;have HK9:=Afj hk9;clear hk9;clear hgo e3 hcell hgl hg hk;have hpl:=h.blk.lt;clear h
 rw [hc] at kc;have d1:=hd.1;have d2:=hd.2;have d3:(49:Int)≤(c:Int):=by omega
 have d4:(c:Int)≤57:=by omega
 have W2:IntKind.i32.wrap ((c:Int) - 48)=(c:Int) - 48:=IntWalk.i32_in _ (by omega);have W3:IntKind.i64.wrap ((c:Int) - 48)=(c:Int) - 48:=Afx _ (by omega);have hz:0≤(c:Int) - 48∧(c:Int) - 48≤255:=by omega
 have HZ:=Afj hz;have HCC:=Afj hcc;clear hcc hz hd;clear hc;go_enter func134,ntmps134;go_wp2_with fail;go_quiet (fail);go_wp2_with fail;go_quiet (fail);go_wp2_with fail;refine (Uc lo p mp own _ s { e with pos:=k10 } _ mv bv pv ov rows (HGO.out _).1 k ((c:Int) - 48) HZ.out HCC.out).mono ?_;rintro x w2 ⟨rfl,b2⟩;have hb2:=(HGO.out _).2.trans (b2.mono (by have:=(HGO.out 0).2.size;simp [World.setCell] at this ⊢;omega));clear b2;go_wp2_with fail
 go_ret2
 exact AC HO.out hb2
theorem Ui (lo p mp:Nat) (w:World) (s:ByteArray) (e:ES) (k:Nat) (h:ED lo p mp w s e) (hs:s.size≤250) (hk:e.pos=k+1) (hl:k+1 < s.size) (h92:byt s.data.toList k=92) (c:Nat) (hc:byt s.data.toList (k+1)=c) (hd:49≤c∧c≤57) (hcc:e.closed.contains ((c:Int) - 48)=true) (hm:e.marks.length≤k) (hp:e.inner.pcs.length≤k):Calls prog 134 #[.pointer (some ⟨p,0,none⟩),.int .i64 (k:Int)] w fun x w'=>Bc lo p mp s w x w' (BI s.data.toList e k):=by
 obtain ⟨k10,hk10⟩:∃ j,j=k+2:=⟨_,rfl⟩;obtain ⟨e1,he1⟩:∃ e1:ES,e1={ e with pos:=k10 }:=⟨_,rfl⟩;have HBC:=Afj hc;have HO:=Afj (show BI s.data.toList e k=.ok (({ e1 with marks:=e1.marks++[(k,c)] }:ES).at ({ e1 with marks:=e1.marks++[(k,c)] }:ES).st (e1.inner.pcs++[.back ((c:Int) - 48)])) by
  unfold BI;rw [if_pos (by simpa using hl),hc];unfold Dt;rw [if_pos hd,he1,hk10];simp only [hcc,if_true];rfl)
 obtain ⟨own,sv,mv,bv,pv,ov,rows,h⟩:=h;obtain ⟨sa,sc,rfl,e2,e3⟩:=h.sg;obtain ⟨g,rfl,hg,hgl,hcell⟩:=e3 (by omega);have kc:=hcell (k+1) hl;have k1:w.cell? ⟨p,1,none⟩=some (.slice (some ⟨g,0,none⟩) s.size sc):=(h.blk.cell 1).trans rfl;have k2:w.cell? ⟨p,2,none⟩=some (.int .i64 ((k+1:Nat):Int)):=(by rw [←hk];exact (h.blk.cell 2).trans rfl);have e0:(((k+1:Nat):Int) == (s.size:Int))=false:=(by rw [beq_eq_false_iff_ne];omega);have i1:((k+1:Nat):Int) < (s.size:Int):=(by omega);have W1:IntKind.i64.wrap (((k+1:Nat):Int)+1)=(k10:Int):=(by rw [Afx _ (by omega)];omega);have f2:=h.blk.frozen 2;have hlo:=Afr h.lop (Afu h.blk.lt);have hgo:∀ m,Em lo p mp own ((w.drewN m).setCell ⟨p,2,none⟩ (.int .i64 (k10:Int))) s { e with pos:=k10 } (.slice (some ⟨g,0,none⟩) s.size sc) mv bv pv ov rows∧Below lo w ((w.drewN m).setCell ⟨p,2,none⟩ (.int .i64 (k10:Int))):=fun m=>⟨(h.below (below_drewN (Afv _ _) m)).goto k10 (h.ok.goto (by omega) (by simp;omega)),(below_drewN (Afv lo w) m).setCell (p:=⟨p,2,none⟩) h.lop _⟩;have HGO:=Afj hgo;have HKC:=Afj (And.intro (hcell k (by omega)) (And.intro kc (And.intro hgl (And.intro hg (And.intro e2 h.pown)))));have HK10:=Afj hk10;clear hk10;generalize hk9:k+1=k9 at *;have HK9:=Afj hk9;clear hk9;clear hgo e3 hcell hgl hg hk;have hpl:=h.blk.lt;clear h
 rw [hc] at kc;have d1:=hd.1;have d2:=hd.2;have d3:(49:Int)≤(c:Int):=by omega
 have d4:(c:Int)≤57:=by omega
 have W2:IntKind.i32.wrap ((c:Int) - 48)=(c:Int) - 48:=IntWalk.i32_in _ (by omega);have W3:IntKind.i64.wrap ((c:Int) - 48)=(c:Int) - 48:=Afx _ (by omega);have hz:0≤(c:Int) - 48∧(c:Int) - 48≤255:=by omega
 have HZ:=Afj hz;have HCC:=Afj hcc;clear hcc hz hd;have hp1:e1.pos=k+2:=by rw [he1];exact HK10.out
 have hE1:=fun m=>(HGO.out m).1
 rw [←he1] at hE1;have hok1:EOk s.data.toList { e1 with marks:=e1.marks++[(k,c)] }:=(hE1 0).ok.marked _ (by rw [hp1,he1];show e.marks.length < k+2;omega);have hok2:=hok1.pieced (d:=.back ((c:Int) - 48)) rfl (by show e1.inner.pcs.length < e1.pos;rw [hp1,he1];show e.inner.pcs.length < k+2;omega);have hcc1:e1.closed.contains ((c:Int) - 48)=true:=by rw [he1];exact HCC.out
 have heb:=fun m=>Xa lo p mp own _ s e1 _ mv bv pv ov rows (hE1 m) k c ((c:Int) - 48) HZ.out hs hp1 h92 (by rw [HK9.out];exact HBC.out) (by omega) hcc1 hok1 hok2
 have HEB:=Afj heb;clear hc h92 hm hp hok1 hok2 hcc1 heb hE1 hp1 he1;go_enter func134,ntmps134;go_wp2_with fail;go_quiet (fail);go_wp2_with fail;go_quiet (fail);go_wp2_with fail;refine (HEB.out _).mono ?_;rintro x w2 ⟨rfl,hx2,b2⟩;have hb2:=(HGO.out _).2.trans b2;have HX2:=Afj hx2;clear b2 hx2;go_wp2_with fail
 go_ret2
 exact Az HO.out hb2 HX2.out
theorem Uj (lo p mp:Nat) (w:World) (s:ByteArray) (e:ES) (k:Nat) (h:ED lo p mp w s e) (hs:s.size≤250) (hk:e.pos=k+1) (hl:k+1 < s.size) (c:Nat) (hc:byt s.data.toList (k+1)=c) (hd:¬ (49≤c∧c≤57)) (hn:CJ c=none):Calls prog 134 #[.pointer (some ⟨p,0,none⟩),.int .i64 (k:Int)] w fun x w'=>Bc lo p mp s w x w' (BI s.data.toList e k):=by
 obtain ⟨k10,hk10⟩:∃ j,j=k+2:=⟨_,rfl⟩;have HO:=Afj (show BI s.data.toList e k=.error (2,k) by
  unfold BI;rw [if_pos (by simpa using hl),hc];unfold Dt;rw [if_neg hd,hn])
 have hc256:c < 256:=by rw [←hc];exact G9 _ _
 obtain ⟨own,sv,mv,bv,pv,ov,rows,h⟩:=h;obtain ⟨sa,sc,rfl,e2,e3⟩:=h.sg;obtain ⟨g,rfl,hg,hgl,hcell⟩:=e3 (by omega);have kc:=hcell (k+1) hl;have k1:w.cell? ⟨p,1,none⟩=some (.slice (some ⟨g,0,none⟩) s.size sc):=(h.blk.cell 1).trans rfl;have k2:w.cell? ⟨p,2,none⟩=some (.int .i64 ((k+1:Nat):Int)):=(by rw [←hk];exact (h.blk.cell 2).trans rfl);have e0:(((k+1:Nat):Int) == (s.size:Int))=false:=(by rw [beq_eq_false_iff_ne];omega);have i1:((k+1:Nat):Int) < (s.size:Int):=(by omega);have W1:IntKind.i64.wrap (((k+1:Nat):Int)+1)=(k10:Int):=(by rw [Afx _ (by omega)];omega);have f2:=h.blk.frozen 2;have hlo:=Afr h.lop (Afu h.blk.lt);have hgo:∀ m,Em lo p mp own ((w.drewN m).setCell ⟨p,2,none⟩ (.int .i64 (k10:Int))) s { e with pos:=k10 } (.slice (some ⟨g,0,none⟩) s.size sc) mv bv pv ov rows∧Below lo w ((w.drewN m).setCell ⟨p,2,none⟩ (.int .i64 (k10:Int))):=fun m=>⟨(h.below (below_drewN (Afv _ _) m)).goto k10 (h.ok.goto (by omega) (by simp;omega)),(below_drewN (Afv lo w) m).setCell (p:=⟨p,2,none⟩) h.lop _⟩;have HGO:=Afj hgo;have HKC:=Afj (And.intro (hcell k (by omega)) (And.intro kc (And.intro hgl (And.intro hg (And.intro e2 h.pown)))));have HK10:=Afj hk10;clear hk10;generalize hk9:k+1=k9 at *;have HK9:=Afj hk9;clear hk9;clear hgo e3 hcell hgl hg hk;have hpl:=h.blk.lt;clear h
 rw [hc] at kc;have W2:IntKind.u8.wrap (c:Int)=(c:Int):=IntWalk.u8_in _ (by omega);have hes:=fun w=>Gn c hc256 w
 rw [hn,show Qv none=.tuple #[.agg #[.int .u64 0,.int .u64 0,.int .u64 0,.int .u64 0],.bool false,.bool false] from rfl] at hes;have HES:=Afj hes;clear hc hn hes hc256;by_cases hd1:49≤c
 ·have d1:(49:Int)≤(c:Int):=by omega
  have d2:decide ((c:Int)≤57)=false:=by rw [decide_eq_false_iff_not];omega
  have d3:decide (c≤57)=false:=by rw [decide_eq_false_iff_not];omega
  have d4:decide ((49:Int)≤(c:Int))=true:=decide_eq_true d1;clear hd;go_enter func134,ntmps134;go_wp2_with fail;go_quiet (fail);go_wp2_with fail;go_quiet (fail);go_wp2_with fail;refine (HES.out _).mono ?_;rintro x w2 ⟨rfl,b2⟩;have hsz2:lo≤w2.heap.size:=Afr (Afr hlo (HGO.out _).2.size) b2.size;have hb2:=(HGO.out _).2.trans (b2.mono (Afr hlo (HGO.out _).2.size));clear b2;go_wp2_with fail;go_ret2;exact AC HO.out (hb2.alloc hsz2 _)
 ·have d1:¬ (49:Int)≤(c:Int):=by omega
  have d2:decide ((49:Int)≤(c:Int))=false:=decide_eq_false d1;have d3:decide (49≤c)=false:=decide_eq_false hd1;clear hd;go_enter func134,ntmps134;go_wp2_with fail;go_quiet (fail);go_wp2_with fail;go_quiet (fail);go_wp2_with fail;refine (HES.out _).mono ?_;rintro x w2 ⟨rfl,b2⟩;have hsz2:lo≤w2.heap.size:=Afr (Afr hlo (HGO.out _).2.size) b2.size;have hb2:=(HGO.out _).2.trans (b2.mono (Afr hlo (HGO.out _).2.size));clear b2;go_wp2_with fail;go_ret2;exact AC HO.out (hb2.alloc hsz2 _)
theorem QM (lo p mp:Nat) (w:World) (s:ByteArray) (e:ES) (k:Nat) (h:ED lo p mp w s e) (hs:s.size≤250) (hk:e.pos=k+1) (hl:k+1 < s.size) (c:Nat) (hc:byt s.data.toList (k+1)=c) (hd:¬ (49≤c∧c≤57)) (t:OSet) (hn:CJ c=some (t,false)) (hp:e.inner.pcs.length≤k):Calls prog 134 #[.pointer (some ⟨p,0,none⟩),.int .i64 (k:Int)] w fun x w'=>Bc lo p mp s w x w' (BI s.data.toList e k):=by
 obtain ⟨k10,hk10⟩:∃ j,j=k+2:=⟨_,rfl⟩;obtain ⟨e1,he1⟩:∃ e1:ES,e1={ e with pos:=k10 }:=⟨_,rfl⟩;have HO:=Afj (show BI s.data.toList e k=.ok (e1.at e1.st (e1.inner.pcs++[.one t])) by
  unfold BI;rw [if_pos (by simpa using hl),hc];unfold Dt;rw [if_neg hd,hn,he1,hk10];rfl)
 have hc256:c < 256:=by rw [←hc];exact G9 _ _
 obtain ⟨own,sv,mv,bv,pv,ov,rows,h⟩:=h;obtain ⟨sa,sc,rfl,e2,e3⟩:=h.sg;obtain ⟨g,rfl,hg,hgl,hcell⟩:=e3 (by omega);have kc:=hcell (k+1) hl;have k1:w.cell? ⟨p,1,none⟩=some (.slice (some ⟨g,0,none⟩) s.size sc):=(h.blk.cell 1).trans rfl;have k2:w.cell? ⟨p,2,none⟩=some (.int .i64 ((k+1:Nat):Int)):=(by rw [←hk];exact (h.blk.cell 2).trans rfl);have e0:(((k+1:Nat):Int) == (s.size:Int))=false:=(by rw [beq_eq_false_iff_ne];omega);have i1:((k+1:Nat):Int) < (s.size:Int):=(by omega);have W1:IntKind.i64.wrap (((k+1:Nat):Int)+1)=(k10:Int):=(by rw [Afx _ (by omega)];omega);have f2:=h.blk.frozen 2;have hlo:=Afr h.lop (Afu h.blk.lt);have hgo:∀ m,Em lo p mp own ((w.drewN m).setCell ⟨p,2,none⟩ (.int .i64 (k10:Int))) s { e with pos:=k10 } (.slice (some ⟨g,0,none⟩) s.size sc) mv bv pv ov rows∧Below lo w ((w.drewN m).setCell ⟨p,2,none⟩ (.int .i64 (k10:Int))):=fun m=>⟨(h.below (below_drewN (Afv _ _) m)).goto k10 (h.ok.goto (by omega) (by simp;omega)),(below_drewN (Afv lo w) m).setCell (p:=⟨p,2,none⟩) h.lop _⟩;have HGO:=Afj hgo;have HKC:=Afj (And.intro (hcell k (by omega)) (And.intro kc (And.intro hgl (And.intro hg (And.intro e2 h.pown)))));have HK10:=Afj hk10;clear hk10;generalize hk9:k+1=k9 at *;have HK9:=Afj hk9;clear hk9;clear hgo e3 hcell hgl hg hk;have hpl:=h.blk.lt;clear h
 rw [hc] at kc;have W2:IntKind.u8.wrap (c:Int)=(c:Int):=IntWalk.u8_in _ (by omega);have hes:=fun w=>Gn c hc256 w
 rw [hn,show Qv (some (t,false))=.tuple #[.agg #[.int .u64 (ow t 0),.int .u64 (ow t 1),.int .u64 (ow t 2),.int .u64 (ow t 3)],.bool false,.bool true] from rfl] at hes;have HES:=Afj hes;have hE1:=fun m=>(HGO.out m).1
 rw [←he1] at hE1;have HK2:=Afj ((hE1 0).ok.pieced (d:=.one t) rfl (by rw [he1];show e.inner.pcs.length < k10;rw [HK10.out];omega));have HE1:=Afj hE1;clear hc hn hes hc256 hE1 he1 hp;by_cases hd1:49≤c
 ·have d1:(49:Int)≤(c:Int):=by omega
  have d2:decide ((c:Int)≤57)=false:=by rw [decide_eq_false_iff_not];omega
  have d3:decide (c≤57)=false:=by rw [decide_eq_false_iff_not];omega
  have d4:decide ((49:Int)≤(c:Int))=true:=decide_eq_true d1;clear hd;go_enter func134,ntmps134;go_wp2_with fail;go_quiet (fail);go_wp2_with fail;go_quiet (fail);go_wp2_with fail;refine (HES.out _).mono ?_;rintro x w2 ⟨rfl,b2⟩;have hE2:=(HE1.out _).below b2;have hsz2:lo≤w2.heap.size:=Afr (Afr hlo (HGO.out _).2.size) b2.size;have hb2:=(HGO.out _).2.trans (b2.mono (Afr hlo (HGO.out _).2.size));have hA2:=(Afv w2.heap.size w2).alloc (Afq _) (.cells #[.int .u64 (ow t 0),.int .u64 (ow t 1),.int .u64 (ow t 2),.int .u64 (ow t 3)] 108);have hE3:=hE2.below hA2;have hK3:=Blk.new w2 #[.int .u64 (ow t 0),.int .u64 (ow t 1),.int .u64 (ow t 2),.int .u64 (ow t 3)] 108 w2.heap.size rfl;have HB3:=Afj (hb2.alloc hsz2 (.cells #[.int .u64 (ow t 0),.int .u64 (ow t 1),.int .u64 (ow t 2),.int .u64 (ow t 3)] 108));obtain ⟨W3,hW3⟩:∃ W3,W3=w2.alloc (.cells #[.int .u64 (ow t 0),.int .u64 (ow t 1),.int .u64 (ow t 2),.int .u64 (ow t 3)] 108):=⟨_,rfl⟩;rw [←hW3] at hE3 hK3 HB3;have HAP:=Afj hE2.blk.lt;have HAO:=Afj hE2.ownlt;obtain ⟨y0,y1,y2,y3,_,_,_,_,_⟩:=CD hK3;have hadd:=fun (w':World) (hb:Below W3.heap.size W3 w')=>EJ (hE3.below hb) (.one t) (.iface 110 (.agg #[.int .u64 (ow t 0),.int .u64 (ow t 1),.int .u64 (ow t 2),.int .u64 (ow t 3)])) ⟨1,rfl⟩ rfl hs HK2.out;have HAdd:=Afj hadd;have hpl3:=hE3.blk.lt;clear hadd;clear hE2 hA2 hE3 hK3 hb2 b2;go_wp2_with fail;rw [←hW3];clear hW3;go_upto_region 12 with fail;go_region_law (first | (refine By rfl _ _ _ rfl 131 _ rfl (by rfl) (enters_of func131 (by kernel_rfl) rfl) (HAdd.out _ (by first | exact Afv _ _ | exact Agb (Afv _ _))) ?_;rintro x w4 ⟨rfl,hx4,hb4⟩;refine ⟨_,rfl,?_⟩;have HX4:=Afj hx4;have HB4:Hid (Below lo W3 w4):=Afj (by first | exact hb4 | exact (Agb (Afv _ _)).trans hb4);clear hx4 hb4));all_goals go_wp2_with fail;all_goals go_ret2;all_goals exact Az HO.out (HB3.out.trans HB4.out) HX4.out
 ·have d1:¬ (49:Int)≤(c:Int):=by omega
  have d2:decide ((49:Int)≤(c:Int))=false:=decide_eq_false d1;have d3:decide (49≤c)=false:=decide_eq_false hd1;clear hd;go_enter func134,ntmps134;go_wp2_with fail;go_quiet (fail);go_wp2_with fail;go_quiet (fail);go_wp2_with fail;refine (HES.out _).mono ?_;rintro x w2 ⟨rfl,b2⟩;have hE2:=(HE1.out _).below b2;have hsz2:lo≤w2.heap.size:=Afr (Afr hlo (HGO.out _).2.size) b2.size;have hb2:=(HGO.out _).2.trans (b2.mono (Afr hlo (HGO.out _).2.size));have hA2:=(Afv w2.heap.size w2).alloc (Afq _) (.cells #[.int .u64 (ow t 0),.int .u64 (ow t 1),.int .u64 (ow t 2),.int .u64 (ow t 3)] 108);have hE3:=hE2.below hA2;have hK3:=Blk.new w2 #[.int .u64 (ow t 0),.int .u64 (ow t 1),.int .u64 (ow t 2),.int .u64 (ow t 3)] 108 w2.heap.size rfl;have HB3:=Afj (hb2.alloc hsz2 (.cells #[.int .u64 (ow t 0),.int .u64 (ow t 1),.int .u64 (ow t 2),.int .u64 (ow t 3)] 108));obtain ⟨W3,hW3⟩:∃ W3,W3=w2.alloc (.cells #[.int .u64 (ow t 0),.int .u64 (ow t 1),.int .u64 (ow t 2),.int .u64 (ow t 3)] 108):=⟨_,rfl⟩;rw [←hW3] at hE3 hK3 HB3;have HAP:=Afj hE2.blk.lt;have HAO:=Afj hE2.ownlt;obtain ⟨y0,y1,y2,y3,_,_,_,_,_⟩:=CD hK3;have hadd:=fun (w':World) (hb:Below W3.heap.size W3 w')=>EJ (hE3.below hb) (.one t) (.iface 110 (.agg #[.int .u64 (ow t 0),.int .u64 (ow t 1),.int .u64 (ow t 2),.int .u64 (ow t 3)])) ⟨1,rfl⟩ rfl hs HK2.out;have HAdd:=Afj hadd;have hpl3:=hE3.blk.lt;clear hadd;clear hE2 hA2 hE3 hK3 hb2 b2;go_wp2_with fail;rw [←hW3];clear hW3;go_upto_region 12 with fail;go_region_law (first | (refine By rfl _ _ _ rfl 131 _ rfl (by rfl) (enters_of func131 (by kernel_rfl) rfl) (HAdd.out _ (by first | exact Afv _ _ | exact Agb (Afv _ _))) ?_;rintro x w4 ⟨rfl,hx4,hb4⟩;refine ⟨_,rfl,?_⟩;have HX4:=Afj hx4;have HB4:Hid (Below lo W3 w4):=Afj (by first | exact hb4 | exact (Agb (Afv _ _)).trans hb4);clear hx4 hb4));all_goals go_wp2_with fail;all_goals go_ret2;all_goals exact Az HO.out (HB3.out.trans HB4.out) HX4.out
theorem Uk (lo p mp:Nat) (w:World) (s:ByteArray) (e:ES) (k:Nat) (h:ED lo p mp w s e) (hs:s.size≤250) (hk:e.pos=k+1) (hl:k+1 < s.size) (c:Nat) (hc:byt s.data.toList (k+1)=c) (hd:¬ (49≤c∧c≤57)) (t:OSet) (hn:CJ c=some (t,true)) (h92:byt s.data.toList k=92) (hm:e.marks.length≤k) (hp:e.inner.pcs.length≤k):Calls prog 134 #[.pointer (some ⟨p,0,none⟩),.int .i64 (k:Int)] w fun x w'=>Bc lo p mp s w x w' (BI s.data.toList e k):=by
 obtain ⟨k10,hk10⟩:∃ j,j=k+2:=⟨_,rfl⟩;obtain ⟨e1,he1⟩:∃ e1:ES,e1={ e with pos:=k10 }:=⟨_,rfl⟩;have HO:=Afj (show BI s.data.toList e k=.ok (({ e1 with marks:=e1.marks++[(k,c)] }:ES).at ({ e1 with marks:=e1.marks++[(k,c)] }:ES).st (e1.inner.pcs++[.one t])) by
  unfold BI;rw [if_pos (by simpa using hl),hc];unfold Dt;rw [if_neg hd,hn,he1,hk10];rfl)
 have HBC:=Afj hc;have hc256:c < 256:=by rw [←hc];exact G9 _ _
 obtain ⟨own,sv,mv,bv,pv,ov,rows,h⟩:=h;obtain ⟨sa,sc,rfl,e2,e3⟩:=h.sg;obtain ⟨g,rfl,hg,hgl,hcell⟩:=e3 (by omega);have kc:=hcell (k+1) hl;have k1:w.cell? ⟨p,1,none⟩=some (.slice (some ⟨g,0,none⟩) s.size sc):=(h.blk.cell 1).trans rfl;have k2:w.cell? ⟨p,2,none⟩=some (.int .i64 ((k+1:Nat):Int)):=(by rw [←hk];exact (h.blk.cell 2).trans rfl);have e0:(((k+1:Nat):Int) == (s.size:Int))=false:=(by rw [beq_eq_false_iff_ne];omega);have i1:((k+1:Nat):Int) < (s.size:Int):=(by omega);have W1:IntKind.i64.wrap (((k+1:Nat):Int)+1)=(k10:Int):=(by rw [Afx _ (by omega)];omega);have f2:=h.blk.frozen 2;have hlo:=Afr h.lop (Afu h.blk.lt);have hgo:∀ m,Em lo p mp own ((w.drewN m).setCell ⟨p,2,none⟩ (.int .i64 (k10:Int))) s { e with pos:=k10 } (.slice (some ⟨g,0,none⟩) s.size sc) mv bv pv ov rows∧Below lo w ((w.drewN m).setCell ⟨p,2,none⟩ (.int .i64 (k10:Int))):=fun m=>⟨(h.below (below_drewN (Afv _ _) m)).goto k10 (h.ok.goto (by omega) (by simp;omega)),(below_drewN (Afv lo w) m).setCell (p:=⟨p,2,none⟩) h.lop _⟩;have HGO:=Afj hgo;have HKC:=Afj (And.intro (hcell k (by omega)) (And.intro kc (And.intro hgl (And.intro hg (And.intro e2 h.pown)))));have HK10:=Afj hk10;clear hk10;generalize hk9:k+1=k9 at *;have HK9:=Afj hk9;clear hk9;clear hgo e3 hcell hgl hg hk;have hpl:=h.blk.lt;clear h
 rw [hc] at kc;have W2:IntKind.u8.wrap (c:Int)=(c:Int):=IntWalk.u8_in _ (by omega);have hes:=fun w=>Gn c hc256 w
 rw [hn,show Qv (some (t,true))=.tuple #[.agg #[.int .u64 (ow t 0),.int .u64 (ow t 1),.int .u64 (ow t 2),.int .u64 (ow t 3)],.bool true,.bool true] from rfl] at hes;have HES:=Afj hes;have hE1:=fun m=>(HGO.out m).1
 rw [←he1] at hE1;have hp1:e1.pos=k+2:=by rw [he1];exact HK10.out
 have hml:e1.marks.length≤1000:=by rw [he1];show e.marks.length≤1000;have:=HK9.out;omega
 have HK1:=Afj ((hE1 0).ok.marked (k,c) (by rw [hp1,he1];show e.marks.length < k+2;omega));have HK2:=Afj (HK1.out.pieced (d:=.one t) rfl (by show e1.inner.pcs.length < e1.pos;rw [hp1,he1];show e.inner.pcs.length < k+2;omega));have HP1:=Afj hp1;have HML:=Afj hml;have H92:=Afj h92;have H128:=Afj (QL hn);have HLS:Hid (k+2≤s.size):=Afj (by have:=HK9.out;omega);have HE1:=Afj hE1;clear hc hn hes hc256 hE1 he1 hp hp1 hml h92 hm;by_cases hd1:49≤c
 ·have d1:(49:Int)≤(c:Int):=by omega
  have d2:decide ((c:Int)≤57)=false:=by rw [decide_eq_false_iff_not];omega
  have d3:decide (c≤57)=false:=by rw [decide_eq_false_iff_not];omega
  have d4:decide ((49:Int)≤(c:Int))=true:=decide_eq_true d1;clear hd;go_enter func134,ntmps134;go_wp2_with fail;go_quiet (fail);go_wp2_with fail;go_quiet (fail);go_wp2_with fail;refine (HES.out _).mono ?_;rintro x w2 ⟨rfl,b2⟩;have hE2:=(HE1.out _).below b2;have hsz2:lo≤w2.heap.size:=Afr (Afr hlo (HGO.out _).2.size) b2.size;have hb2:=(HGO.out _).2.trans (b2.mono (Afr hlo (HGO.out _).2.size));have hA2:=(Afv w2.heap.size w2).alloc (Afq _) (.cells #[.int .u64 (ow t 0),.int .u64 (ow t 1),.int .u64 (ow t 2),.int .u64 (ow t 3)] 108);have hE3:=hE2.below hA2;have hK3:=Blk.new w2 #[.int .u64 (ow t 0),.int .u64 (ow t 1),.int .u64 (ow t 2),.int .u64 (ow t 3)] 108 w2.heap.size rfl;have HB3:=Afj (hb2.alloc hsz2 (.cells #[.int .u64 (ow t 0),.int .u64 (ow t 1),.int .u64 (ow t 2),.int .u64 (ow t 3)] 108));obtain ⟨W3,hW3⟩:∃ W3,W3=w2.alloc (.cells #[.int .u64 (ow t 0),.int .u64 (ow t 1),.int .u64 (ow t 2),.int .u64 (ow t 3)] 108):=⟨_,rfl⟩;rw [←hW3] at hE3 hK3 HB3;have HAP:=Afj hE2.blk.lt;have HAO:=Afj hE2.ownlt;obtain ⟨y0,y1,y2,y3,_,_,_,_,_⟩:=CD hK3;have hcell3:∀ i,i < s.size→W3.cell? ⟨g,i,none⟩=some (.int .i32 (byt s.data.toList i:Int)):=(by obtain ⟨a',c',h1,h2,h3⟩:=hE3.sg;injection h1 with h1 _ _;obtain ⟨g',h4,_,_,h5⟩:=h3 (by have:=HLS.out;omega);rw [h4] at h1;injection h1 with h1;injection h1 with h1 _ _;subst h1;exact h5);have hmk:=IC lo p g s.size sc k e1.pos c _ _ _ _ _ _ _ _ mv e1.marks _ hE3.lop hE3.blk hE3.mks (fun hx=>(hE3.inown mv (by simp [allV]) p hx).2.1 rfl) HP1.out (by rw [HP1.out];exact HLS.out) e2 (by rw [hcell3 k (by have:=HLS.out;omega),H92.out];rfl) (by rw [hcell3 (k+1) (by have:=HLS.out;omega),HK9.out,HBC.out]) H128.out HML.out;have HMK:=Afj hmk;have HE3:=Afj hE3;have HK3:=Afj hK3;clear hE2 hA2 hE3 hK3 hb2 b2 hcell3 hmk;go_wp2_with fail;rw [←hW3];clear hW3;refine HMK.out.mono ?_;rintro x w5 ⟨mv',rfl,hm5,hB5,hT5,hF5⟩;have hE5:=Em.marked (q:=(k,c)) HE3.out hT5 hF5 rfl hm5 hB5 HK1.out;have HB5:=Afj (HB3.out.trans (HE3.out.low HE3.out.mks.lt hT5));have hK5:=Blk.touch HK3.out hT5 (fun x=>by have:=HAP.out;omega) (fun x=>by have:=HAO.out _ (HE3.out.inown mv (by simp [allV]) _ x).1;omega);obtain ⟨y0,y1,y2,y3,_,_,_,_,_⟩:=CD hK5;have hadd:=fun (w':World) (hb:Below w5.heap.size w5 w')=>EJ (hE5.below hb) (.one t) (.iface 110 (.agg #[.int .u64 (ow t 0),.int .u64 (ow t 1),.int .u64 (ow t 2),.int .u64 (ow t 3)])) ⟨1,rfl⟩ rfl hs HK2.out;have HAdd:=Afj hadd;have hpl5:=hE5.blk.lt;clear hadd hm5 hB5 hT5 hF5 hE5 hK5;go_wp2_with fail;go_upto_region 12 with fail;go_region_law (first | (refine By rfl _ _ _ rfl 131 _ rfl (by rfl) (enters_of func131 (by kernel_rfl) rfl) (HAdd.out _ (by first | exact Afv _ _ | exact Agb (Afv _ _))) ?_;rintro x w4 ⟨rfl,hx4,hb4⟩;refine ⟨_,rfl,?_⟩;have HX4:=Afj hx4;have HB4:Hid (Below lo w5 w4):=Afj (by first | exact hb4 | exact (Agb (Afv _ _)).trans hb4);clear hx4 hb4));all_goals go_wp2_with fail;all_goals go_ret2;all_goals exact Az HO.out (HB5.out.trans HB4.out) HX4.out
 ·have d1:¬ (49:Int)≤(c:Int):=by omega
  have d2:decide ((49:Int)≤(c:Int))=false:=decide_eq_false d1;have d3:decide (49≤c)=false:=decide_eq_false hd1;clear hd;go_enter func134,ntmps134;go_wp2_with fail;go_quiet (fail);go_wp2_with fail;go_quiet (fail);go_wp2_with fail;refine (HES.out _).mono ?_;rintro x w2 ⟨rfl,b2⟩;have hE2:=(HE1.out _).below b2;have hsz2:lo≤w2.heap.size:=Afr (Afr hlo (HGO.out _).2.size) b2.size;have hb2:=(HGO.out _).2.trans (b2.mono (Afr hlo (HGO.out _).2.size));have hA2:=(Afv w2.heap.size w2).alloc (Afq _) (.cells #[.int .u64 (ow t 0),.int .u64 (ow t 1),.int .u64 (ow t 2),.int .u64 (ow t 3)] 108);have hE3:=hE2.below hA2;have hK3:=Blk.new w2 #[.int .u64 (ow t 0),.int .u64 (ow t 1),.int .u64 (ow t 2),.int .u64 (ow t 3)] 108 w2.heap.size rfl;have HB3:=Afj (hb2.alloc hsz2 (.cells #[.int .u64 (ow t 0),.int .u64 (ow t 1),.int .u64 (ow t 2),.int .u64 (ow t 3)] 108));obtain ⟨W3,hW3⟩:∃ W3,W3=w2.alloc (.cells #[.int .u64 (ow t 0),.int .u64 (ow t 1),.int .u64 (ow t 2),.int .u64 (ow t 3)] 108):=⟨_,rfl⟩;rw [←hW3] at hE3 hK3 HB3;have HAP:=Afj hE2.blk.lt;have HAO:=Afj hE2.ownlt;obtain ⟨y0,y1,y2,y3,_,_,_,_,_⟩:=CD hK3;have hcell3:∀ i,i < s.size→W3.cell? ⟨g,i,none⟩=some (.int .i32 (byt s.data.toList i:Int)):=(by obtain ⟨a',c',h1,h2,h3⟩:=hE3.sg;injection h1 with h1 _ _;obtain ⟨g',h4,_,_,h5⟩:=h3 (by have:=HLS.out;omega);rw [h4] at h1;injection h1 with h1;injection h1 with h1 _ _;subst h1;exact h5);have hmk:=IC lo p g s.size sc k e1.pos c _ _ _ _ _ _ _ _ mv e1.marks _ hE3.lop hE3.blk hE3.mks (fun hx=>(hE3.inown mv (by simp [allV]) p hx).2.1 rfl) HP1.out (by rw [HP1.out];exact HLS.out) e2 (by rw [hcell3 k (by have:=HLS.out;omega),H92.out];rfl) (by rw [hcell3 (k+1) (by have:=HLS.out;omega),HK9.out,HBC.out]) H128.out HML.out;have HMK:=Afj hmk;have HE3:=Afj hE3;have HK3:=Afj hK3;clear hE2 hA2 hE3 hK3 hb2 b2 hcell3 hmk;go_wp2_with fail;rw [←hW3];clear hW3;refine HMK.out.mono ?_;rintro x w5 ⟨mv',rfl,hm5,hB5,hT5,hF5⟩;have hE5:=Em.marked (q:=(k,c)) HE3.out hT5 hF5 rfl hm5 hB5 HK1.out;have HB5:=Afj (HB3.out.trans (HE3.out.low HE3.out.mks.lt hT5));have hK5:=Blk.touch HK3.out hT5 (fun x=>by have:=HAP.out;omega) (fun x=>by have:=HAO.out _ (HE3.out.inown mv (by simp [allV]) _ x).1;omega);obtain ⟨y0,y1,y2,y3,_,_,_,_,_⟩:=CD hK5;have hadd:=fun (w':World) (hb:Below w5.heap.size w5 w')=>EJ (hE5.below hb) (.one t) (.iface 110 (.agg #[.int .u64 (ow t 0),.int .u64 (ow t 1),.int .u64 (ow t 2),.int .u64 (ow t 3)])) ⟨1,rfl⟩ rfl hs HK2.out;have HAdd:=Afj hadd;have hpl5:=hE5.blk.lt;clear hadd hm5 hB5 hT5 hF5 hE5 hK5;go_wp2_with fail;go_upto_region 12 with fail;go_region_law (first | (refine By rfl _ _ _ rfl 131 _ rfl (by rfl) (enters_of func131 (by kernel_rfl) rfl) (HAdd.out _ (by first | exact Afv _ _ | exact Agb (Afv _ _))) ?_;rintro x w4 ⟨rfl,hx4,hb4⟩;refine ⟨_,rfl,?_⟩;have HX4:=Afj hx4;have HB4:Hid (Below lo w5 w4):=Afj (by first | exact hb4 | exact (Agb (Afv _ _)).trans hb4);clear hx4 hb4));all_goals go_wp2_with fail;all_goals go_ret2;all_goals exact Az HO.out (HB5.out.trans HB4.out) HX4.out
def GK (s:List UInt8) (e:ES) (c:Nat):Except (Nat × Nat) ES:=
 if c=124 then .ok (e.lv (e.st.to (e.pos+1)) (e.inner.brs++[B0 e.inner.pcs]) [])
 else if c=40 then (if e.outer.length=12 then .error (4,e.pos) else .ok { e with pos:=e.pos+1,groups:=e.groups+1,outer:=e.outer++[e.inner],inner:=⟨e.pos,e.groups+1,[],[]⟩ })
 else if c=41 then CF { e with pos:=e.pos+1 } e.pos
 else if c=94 then .ok (e.add (e.pos+1) .start)
 else if c=36 then .ok (e.add (e.pos+1) .fin)
 else if c=42∨c=43∨c=63∨c=123 then AI s { e with pos:=e.pos+1 } e.pos
 else if c=91 then (if (F7 s ((e.pos:Int)+1)).2.2=0 then .ok (e.at (e.st.to (F7 s ((e.pos:Int)+1)).2.1.toNat) (e.inner.pcs++[.one (F7 s ((e.pos:Int)+1)).1])) else .error ((F7 s ((e.pos:Int)+1)).2.2,(F7 s ((e.pos:Int)+1)).2.1.toNat))
 else if c=46 then .ok (e.add (e.pos+1) (.one (Ac 0 255)))
 else if c=92 then BI s { e with pos:=e.pos+1 } e.pos
 else .ok (e.add (e.pos+1) (.one (Ac c c)))
theorem ZV (s:List UInt8) (e:ES) (c:Nat) (hl:e.pos < s.length) (hc:byt s e.pos=c):Ao s e=GK s e c:=by
 have hch:∀ b,chAt s e.pos b=decide (c=b):=fun b=>by unfold chAt;rw [hc,decide_eq_true hl];rfl
 unfold Ao GK;simp only [hch,decide_eq_true_eq];split
 ·rfl
 split
 ·rfl
 split
 ·unfold CF;cases e.outer.getLast? <;> rfl
 split
 ·rfl
 split
 ·rfl
 have hr:Ce s e.pos=decide (c=42∨c=43∨c=63∨c=123):=by
  unfold Ce;simp only [hch];by_cases h1:c=42 <;> by_cases h2:c=43 <;> by_cases h3:c=63 <;> by_cases h4:c=123 <;> simp [h1,h2,h3,h4]
 rw [hr];simp only [decide_eq_true_eq];split
 ·unfold AI;show (if A1 e.inner.pcs=true then _ else _)=(if A1 e.inner.pcs=true then _ else _)
  split
  ·rfl
  ·cases repAt true s e.pos <;> rfl
 ·rename_i k124 k40 k41 k94 k36 krep;unfold Ba;show (match (if A5 true s e.pos 40=true then _ else _:ReRes (ReSt × Nd)) with | .error q=>_ | .ok (st,d)=>_)=_;simp only [A5,if_true,show e.st.pos=e.pos from rfl,hch,decide_eq_true_eq];rw [if_neg k40,if_neg k41];by_cases h91:c=91
  ·rw [if_pos h91,if_pos h91];by_cases h0:(F7 s ((e.pos:Int)+1)).2.2=0
   ·rw [if_pos h0,if_pos h0]
   ·rw [if_neg h0,if_neg h0]
  ·rw [if_neg h91,if_neg h91];by_cases h46:c=46
   ·rw [if_pos h46,if_pos h46];rfl
   ·rw [if_neg h46,if_neg h46];by_cases h92:c=92
    ·rw [if_pos h92,if_pos h92];unfold BI;by_cases hlt:e.pos+1 < s.length
     ·rw [if_pos hlt,if_pos hlt];show (match Dt true e.st (byt s (e.pos+1)) with | .error q=>_ | .ok (st,d)=>_)=(match Dt true e.st (byt s (e.pos+1)) with | .error q=>_ | .ok (st,d)=>_)
      cases Dt true e.st (byt s (e.pos+1)) <;> rfl
     ·rw [if_neg hlt,if_neg hlt]
    ·rw [if_neg h92,if_neg h92,hc];rfl
theorem Ul {s:List UInt8} {k:Nat} (hl:k < s.length) (h:byt s k=42):repAt true s k=.some 0 (-1) 0 (k+1):=by unfold repAt;rw [Fx hl h];rfl
theorem Um {s:List UInt8} {k:Nat} (hl:k < s.length) (hb:byt s k=43):repAt true s k=.some 1 (-1) 0 (k+1):=by unfold repAt;rw [BF (b:=42) (by rw [hb];decide)];simp only [A5,if_true,Af2,if_false];rw [Fx hl hb];rfl
theorem Xe {s:List UInt8} {k:Nat} (hl:k < s.length) (hb:byt s k=63):repAt true s k=.some 0 1 0 (k+1):=by unfold repAt;rw [BF (b:=42) (by rw [hb];decide)];simp only [A5,if_true,Af2,if_false];rw [BF (b:=43) (by rw [hb];decide)];simp only [Af2,if_false];rw [Fx hl hb];rfl
theorem Kv {l:List Nd} {n:Nat} (h:l.all inCat=true) (hn:l.length≤n) (h2:n≤4000000):(AN l).length≤4000000:=by rw [EW l h];omega
theorem OK {l:List Nd} {n:Nat} (h:l.all inAlt=true) (hn:l.length≤n) (h2:n≤4000000):(AO l).length≤4000000:=by rw [I1 l h];omega
theorem ZW (x:Int) (h0:0≤x) (h1:x≤255) (W:World) :
  Calls prog 136 #[.slice (some ⟨W.heap.size,0,none⟩) 1 1] (W.alloc (.cells #[.int .u8 x] 5)).drew fun e w'=>e=.returned (.agg #[.int .u64 (ow (DE [x]) 0),.int .u64 (ow (DE [x]) 1),.int .u64 (ow (DE [x]) 2),.int .u64 (ow (DE [x]) 3)])∧Below W.heap.size W w':=by
 refine (P2 [x] W.heap.size 0 1 _ (by show W.heap.size < (W.alloc _).heap.size;simp) (by simp [maxLen]) (fun i hi=>?_) (fun i=>?_)).mono ?_
 ·show (W.alloc (.cells #[.int .u8 x] 5)).cell? _=_;rw [(Blk.new W _ _ _ rfl).cell]
  match i,hi with
  | 0,_=>rfl
 ·match i with
  | 0=>exact ⟨h0,h1⟩
  | _+1=>simp
 ·rintro e w' ⟨rfl,hb⟩;exact ⟨rfl,(((Afv _ _).alloc (Afq _) _).drew).trans (hb.mono (by show W.heap.size≤(W.alloc _).heap.size;simp))⟩
theorem Bh {lo p mp:Nat} {s:ByteArray} {w w':World} {x:Ending} {R:Except (Nat × Nat) ES} (h:Bc lo p mp s w x w' R):(∃ q:Nat × Nat,R=.error (q.1,q.2)∧Below lo w w'∧x=.returned (.tuple #[.int .i64 (q.2:Int),.int .i64 (q.1:Int)]))∨(∃ e',R=.ok e'∧Below lo w w'∧x=.returned (.tuple #[.int .i64 0,.int .i64 0])∧ED lo p mp w' s e'):=by
 cases R with
 | error q=>exact .inl ⟨q,rfl,h.1,h.2⟩
 | ok e'=>exact .inr ⟨e',rfl,h.1,h.2.1,h.2.2⟩
theorem Cf {lo p mp:Nat} {w:World} {s:ByteArray} {e:ES} {k c:Nat} (h:ED lo p mp w s e) (hs:s.size≤250) (hk:e.pos=k) (hl:k < s.size) (hc:byt s.data.toList k=c):∃ (own:List Nat) (mv bv pv ov:Value) (rows:List (Value × Value)) (sc g k1n:Nat) (e1:ES),s.size≤sc∧w.cell? ⟨g,k,none⟩=some (.int .i32 (c:Int))∧Ao s.data.toList e=GK s.data.toList e c∧w.cell? ⟨p,1,none⟩=some (.slice (some ⟨g,0,none⟩) s.size sc)∧w.cell? ⟨p,2,none⟩=some (.int .i64 (k:Int))∧(k:Int) < (s.size:Int)∧IntKind.i64.wrap ((k:Int)+1)=(k1n:Int)∧w.frozen? ⟨p,2,none⟩=false∧p < w.heap.size∧g≠p∧p≠g∧Hid (∀ e',Ao s.data.toList e=.ok e'→EOk s.data.toList e')∧Hid (EOk s.data.toList e)∧Hid (Em lo p mp own (w.setCell ⟨p,2,none⟩ (.int .i64 (k1n:Int))) s e1 (.slice (some ⟨g,0,none⟩) s.size sc) mv bv pv ov rows)∧Hid (Below lo w (w.setCell ⟨p,2,none⟩ (.int .i64 (k1n:Int))))∧Hid (e1={ e with pos:=k1n })∧Hid (k1n=k+1)∧Hid (e.pos=k)∧Hid (byt s.data.toList k=c)∧Hid (ED lo p mp (w.setCell ⟨p,2,none⟩ (.int .i64 (k1n:Int))) s e1)∧Hid (e.pos < s.data.toList.length):=by
 obtain ⟨own,sv,mv,bv,pv,ov,rows,h⟩:=h;obtain ⟨sa,sc,rfl,e2,e3⟩:=h.sg;obtain ⟨g,rfl,hg,hgl,hcell⟩:=e3 (by omega);have kc:=hcell k hl;rw [hc] at kc;have hll:e.pos < s.data.toList.length:=(by rw [hk];simpa using hl);have HS0:=ZV s.data.toList e c hll (by rw [hk];exact hc);have k1:w.cell? ⟨p,1,none⟩=some (.slice (some ⟨g,0,none⟩) s.size sc):=(h.blk.cell 1).trans rfl;have k2:w.cell? ⟨p,2,none⟩=some (.int .i64 (k:Int)):=(by rw [←hk];exact (h.blk.cell 2).trans rfl);have i1:(k:Int) < (s.size:Int):=(by omega);obtain ⟨k1n,hk1⟩:∃ j,j=k+1:=⟨_,rfl⟩;have W1:IntKind.i64.wrap ((k:Int)+1)=(k1n:Int):=(by rw [Afx _ (by omega)];omega);have f2:=h.blk.frozen 2;have hplt:=h.blk.lt;have hgp:g≠p:=(fun x=>hg (x▸h.pown));have hpg:p≠g:=(fun x=>hgp x.symm);have hE:=h.goto k1n (h.ok.goto (by omega) (by simp;omega));have hB:=(Afv lo w).setCell (p:=⟨p,2,none⟩) h.lop (.int .i64 (k1n:Int));have HOK:=Afj (fun e' he=>WX s.data.toList e e' h.ok hll he);have HLV:=Afj h.ok;obtain ⟨e1,he1⟩:∃ e1:ES,e1={ e with pos:=k1n }:=⟨_,rfl⟩;rw [←he1] at hE;have HE:=Afj hE;have HB:=Afj hB;have HE1:=Afj he1;have HK1:=Afj hk1;have HK:=Afj hk;have HC:=Afj hc;have HX:Hid (ED lo p mp (w.setCell ⟨p,2,none⟩ (.int .i64 (k1n:Int))) s e1):=Afj ⟨_,_,_,_,_,_,_,hE⟩;have HLL:=Afj hll;clear e3 hcell hgl hg hE hB he1 hk1 h hc hll hk;exact ⟨own,mv,bv,pv,ov,rows,sc,g,k1n,e1,e2,kc,HS0,k1,k2,i1,W1,f2,hplt,hgp,hpg,HOK,HLV,HE,HB,HE1,HK1,HK,HC,HX,HLL⟩
theorem Xf (lo p mp:Nat) (w:World) (s:ByteArray) (e:ES) (k:Nat) (h:ED lo p mp w s e) (hs:s.size≤250) (hk:e.pos=k) (hl:k < s.size) (hc:byt s.data.toList k=94):Calls prog 115 #[.pointer (some ⟨p,0,none⟩)] w fun x w'=>Bc lo p mp s w x w' (Ao s.data.toList e):=by
 obtain ⟨own,mv,bv,pv,ov,rows,sc,g,k1n,e1,e2,kc,HS0,k1,k2,i1,W1,f2,hplt,hgp,hpg,HOK,HLV,HE,HB,HE1,HK1,HK,HC,HX,HLL⟩:=Cf h hs hk hl hc;clear h hc hk;have hR:Ao s.data.toList e=.ok (e1.at e1.st (e1.inner.pcs++[.start])):=by rw [HS0,HE1.out,HK1.out,←HK.out];rfl
 have hadd:=EJ HE.out .start (.iface 118 (.agg #[])) ⟨1,rfl⟩ rfl hs (HOK.out _ hR);have HR:=Afj hR;clear HS0 hR;go_enter func115,ntmps115;go_wp2_with fail
 refine hadd.mono ?_;rintro x w2 ⟨rfl,hx2,b2⟩;have HX2:=Afj hx2;clear hadd hx2;go_wp2_with fail
 go_ret2
 exact Az HR.out (HB.out.trans b2) HX2.out
theorem Xg (lo p mp:Nat) (w:World) (s:ByteArray) (e:ES) (k:Nat) (h:ED lo p mp w s e) (hs:s.size≤250) (hk:e.pos=k) (hl:k < s.size) (hc:byt s.data.toList k=36):Calls prog 115 #[.pointer (some ⟨p,0,none⟩)] w fun x w'=>Bc lo p mp s w x w' (Ao s.data.toList e):=by
 obtain ⟨own,mv,bv,pv,ov,rows,sc,g,k1n,e1,e2,kc,HS0,k1,k2,i1,W1,f2,hplt,hgp,hpg,HOK,HLV,HE,HB,HE1,HK1,HK,HC,HX,HLL⟩:=Cf h hs hk hl hc;clear h hc hk;have hR:Ao s.data.toList e=.ok (e1.at e1.st (e1.inner.pcs++[.fin])):=by rw [HS0,HE1.out,HK1.out,←HK.out];rfl
 have hadd:=EJ HE.out .fin (.iface 120 (.agg #[])) ⟨1,rfl⟩ rfl hs (HOK.out _ hR);have HR:=Afj hR;clear HS0 hR;go_enter func115,ntmps115;go_wp2_with fail
 refine hadd.mono ?_;rintro x w2 ⟨rfl,hx2,b2⟩;have HX2:=Afj hx2;clear hadd hx2;go_wp2_with fail
 go_ret2
 exact Az HR.out (HB.out.trans b2) HX2.out
theorem Un (lo p mp:Nat) (w:World) (s:ByteArray) (e:ES) (k:Nat) (h:ED lo p mp w s e) (hs:s.size≤250) (hk:e.pos=k) (hl:k < s.size) (hc:byt s.data.toList k=124):Calls prog 115 #[.pointer (some ⟨p,0,none⟩)] w fun x w'=>Bc lo p mp s w x w' (Ao s.data.toList e):=by
 obtain ⟨own,mv,bv,pv,ov,rows,sc,g,k1n,e1,e2,kc,HS0,k1,k2,i1,W1,f2,hplt,hgp,hpg,HOK,HLV,HE,HB,HE1,HK1,HK,HC,HX,HLL⟩:=Cf h hs hk hl hc;clear h hc hk;have hR:Ao s.data.toList e=.ok (e1.lv e1.st (e1.inner.brs++[B0 e1.inner.pcs]) []):=by rw [HS0,HE1.out,HK1.out,←HK.out];rfl
 have hi:=HE.out.ok.inner;have hps:=HE.out.ok.pos;have hsl:s.data.toList.length=s.size:=by simp
 have hend:=OG lo p own _ _ _ _ _ _ bv pv _ _ _ e1.inner.brs e1.inner.pcs _ HE.out.lop HE.out.blk HE.out.bn HE.out.pn (fun hx=>(HE.out.inown bv (by simp [allV]) p hx).2.1 rfl) HE.out.pown HE.out.ownlt (fun q hq=>(HE.out.inown bv (by simp [allV]) q hq).1) (Afr hi.2.2.2.1 (by omega)) (Kv hi.1 hi.2.2.1 (by omega));have HR:=Afj hR;have HO:=Afj (HOK.out _ hR);have HEND:=Afj hend;clear HS0 hR hi hps hend hsl;go_enter func115,ntmps115;go_wp2_with fail
 refine HEND.out.mono ?_;rintro x w2 ⟨bv',rfl,hN,hB2,hT,hF⟩;have hX:=Em.branched HE.out hT hF rfl hN hB2 HO.out;have HX2:=Afj hX;have HB2:=Afj (HB.out.trans (HE.out.low HE.out.bn.lt hT));clear hN hB2 hT hF hX;go_wp2_with fail
 go_ret2
 exact Az HR.out HB2.out ⟨_,_,_,_,_,_,_,HX2.out⟩
theorem Uo (lo p mp:Nat) (w:World) (s:ByteArray) (e:ES) (k:Nat) (h:ED lo p mp w s e) (hs:s.size≤250) (hk:e.pos=k) (hl:k < s.size) (hc:byt s.data.toList k=40) (hd:e.outer.length=12):Calls prog 115 #[.pointer (some ⟨p,0,none⟩)] w fun x w'=>Bc lo p mp s w x w' (Ao s.data.toList e):=by
 obtain ⟨own,mv,bv,pv,ov,rows,sc,g,k1n,e1,e2,kc,HS0,k1,k2,i1,W1,f2,hplt,hgp,hpg,HOK,HLV,HE,HB,HE1,HK1,HK,HC,HX,HLL⟩:=Cf h hs hk hl hc;clear h hc hk;have hR:Ao s.data.toList e=.error (4,k):=by rw [HS0];unfold GK;rw [if_neg (by decide),if_pos rfl,if_pos hd,HK.out]
 have hop:=QH lo p mp own _ s e1 _ mv bv pv ov rows HE.out k (by rw [HE1.out];exact hd);have HR:=Afj hR;have HOP:=Afj hop;clear HS0 hR hop hd;go_enter func115,ntmps115;go_wp2_with fail
 refine HOP.out.mono ?_;rintro x w2 ⟨rfl,rfl⟩;go_wp2_with fail
 go_ret2
 exact AC HR.out HB.out
theorem Xh (lo p mp:Nat) (w:World) (s:ByteArray) (e:ES) (k:Nat) (h:ED lo p mp w s e) (hs:s.size≤250) (hk:e.pos=k) (hl:k < s.size) (hc:byt s.data.toList k=40) (hd:e.outer.length < 12):Calls prog 115 #[.pointer (some ⟨p,0,none⟩)] w fun x w'=>Bc lo p mp s w x w' (Ao s.data.toList e):=by
 obtain ⟨own,mv,bv,pv,ov,rows,sc,g,k1n,e1,e2,kc,HS0,k1,k2,i1,W1,f2,hplt,hgp,hpg,HOK,HLV,HE,HB,HE1,HK1,HK,HC,HX,HLL⟩:=Cf h hs hk hl hc;clear h hc hk;have hR:Ao s.data.toList e=.ok { e1 with groups:=e1.groups+1,outer:=e1.outer++[e1.inner],inner:=⟨k,e1.groups+1,[],[]⟩ }:=by rw [HS0];unfold GK;rw [if_neg (by decide),if_pos rfl,if_neg (by omega),HE1.out,HK1.out,←HK.out]
 have hgr:e1.groups≤250:=by rw [HE1.out];show e.groups≤250;have:=HLV.out.groups;have:=HK.out;omega
 have hop:=Ub lo p mp own _ s e1 _ mv bv pv ov rows HE.out k (by rw [HE1.out];exact hd) hgr (HOK.out _ hR);have HR:=Afj hR;have HOP:=Afj hop;clear HS0 hR hop hd hgr;go_enter func115,ntmps115;go_wp2_with fail
 refine HOP.out.mono ?_;rintro x w2 ⟨rfl,own',ov',hx2,_,hT⟩;have HX2:=Afj hx2;have HB2:=Afj (HB.out.trans (HE.out.low HE.out.on.lt hT));clear hx2 hT;go_wp2_with fail
 go_ret2
 exact Az HR.out HB2.out ⟨_,_,_,_,_,_,_,HX2.out⟩
theorem Up (lo p mp:Nat) (w:World) (s:ByteArray) (e:ES) (k:Nat) (h:ED lo p mp w s e) (hs:s.size≤250) (hk:e.pos=k) (hl:k < s.size) (hc:byt s.data.toList k=41) (ho:e.outer=[]):Calls prog 115 #[.pointer (some ⟨p,0,none⟩)] w fun x w'=>Bc lo p mp s w x w' (Ao s.data.toList e):=by
 obtain ⟨own,mv,bv,pv,ov,rows,sc,g,k1n,e1,e2,kc,HS0,k1,k2,i1,W1,f2,hplt,hgp,hpg,HOK,HLV,HE,HB,HE1,HK1,HK,HC,HX,HLL⟩:=Cf h hs hk hl hc;clear h hc hk;have hR:Ao s.data.toList e=CF e1 k:=by rw [HS0,HE1.out,HK1.out,←HK.out];rfl
 have hcall:=OH lo p mp _ s e1 HX.out k (by rw [HE1.out];exact ho);have HC0:=Afj hcall;have HR:=Afj hR;clear HS0 hR hcall;(obtain ⟨RR,hRR⟩:∃ RR,RR=Ao s.data.toList e:=⟨_,rfl⟩);rw [←hRR];have HRR:=Afj hRR;clear hRR;clear ho;go_enter func115,ntmps115;go_wp2_with fail
 refine HC0.out.mono ?_;intro x w2 hx2;rcases Bh hx2 with ⟨q,hq,hb3,rfl⟩ | ⟨e',hq,hb3,rfl,hx4⟩
 ·have HQ:=Afj (HRR.out.trans (HR.out.trans hq));clear hx2 hq;go_wp2_with fail
  go_ret2
  exact AC HQ.out (HB.out.trans hb3)
 ·have HQ:=Afj (HRR.out.trans (HR.out.trans hq));have HX4:=Afj hx4;clear hx2 hq hx4;go_wp2_with fail
  go_ret2
  exact Az HQ.out (HB.out.trans hb3) HX4.out
theorem Xi (lo p mp:Nat) (w:World) (s:ByteArray) (e:ES) (k:Nat) (h:ED lo p mp w s e) (hs:s.size≤250) (hk:e.pos=k) (hl:k < s.size) (hc:byt s.data.toList k=41) (L:List Lv) (v:Lv) (ho:e.outer=L++[v]):Calls prog 115 #[.pointer (some ⟨p,0,none⟩)] w fun x w'=>Bc lo p mp s w x w' (Ao s.data.toList e):=by
 obtain ⟨own,mv,bv,pv,ov,rows,sc,g,k1n,e1,e2,kc,HS0,k1,k2,i1,W1,f2,hplt,hgp,hpg,HOK,HLV,HE,HB,HE1,HK1,HK,HC,HX,HLL⟩:=Cf h hs hk hl hc;clear h hc hk;have hR:Ao s.data.toList e=CF e1 k:=by rw [HS0,HE1.out,HK1.out,←HK.out];rfl
 have hi:=HE.out.ok.inner;have hps:=HE.out.ok.pos;have hsl:s.data.toList.length=s.size:=by simp
 have ho1:e1.outer=L++[v]:=by rw [HE1.out];exact ho
 have hst:CF e1 k=.ok { e1 with closed:=e1.closed++[(e1.inner.num:Int)],outer:=L,inner:={ v with pcs:=v.pcs++[.group (e1.inner.num:Int) e1.inner.whole] } }:=by unfold CF;rw [ho1,List.getLast?_concat,List.dropLast_concat]
 have hbl:(e1.inner.brs++[B0 e1.inner.pcs]).length≤251:=by rw [Afs];have:=hi.2.2.2.1;simp;omega
 have hcl1:e1.closed.length < e1.pos:=by rw [HE1.out];show e.closed.length < k1n;have:=HLV.out.closed;rw [HK1.out];have:=HK.out;omega
 have hcall:=QK lo p mp _ s e1 HX.out k hs L v ho1 ⟨HE.out.ok.pos,HE.out.ok.outer v (by rw [ho1];simp),fun u hu=>HE.out.ok.outer u (by rw [ho1];exact List.mem_append_left _ hu),HE.out.ok.marks,HE.out.ok.groups,(by have:=HE.out.ok.deep;rw [ho1,Afs] at this;show L.length≤12;omega),(by show (e1.closed++[(e1.inner.num:Int)]).length≤e1.pos;rw [Afs];simp;omega)⟩ (HOK.out _ (hR.trans hst)) (Kv hi.1 hi.2.2.1 (by omega)) (OK (BR hi.2.1 (Kr _ hi.1)) hbl (by omega));have HC0:=Afj hcall;have HR:=Afj hR;clear HS0 hR hcall;(obtain ⟨RR,hRR⟩:∃ RR,RR=Ao s.data.toList e:=⟨_,rfl⟩);rw [←hRR];have HRR:=Afj hRR;clear hRR;clear ho hi hps hst hbl ho1 hcl1 hsl;go_enter func115,ntmps115;go_wp2_with fail
 refine HC0.out.mono ?_;intro x w2 hx2;rcases Bh hx2 with ⟨q,hq,hb3,rfl⟩ | ⟨e',hq,hb3,rfl,hx4⟩
 ·have HQ:=Afj (HRR.out.trans (HR.out.trans hq));clear hx2 hq;go_wp2_with fail
  go_ret2
  exact AC HQ.out (HB.out.trans hb3)
 ·have HQ:=Afj (HRR.out.trans (HR.out.trans hq));have HX4:=Afj hx4;clear hx2 hq hx4;go_wp2_with fail
  go_ret2
  exact Az HQ.out (HB.out.trans hb3) HX4.out
theorem Uq (lo p mp:Nat) (w:World) (s:ByteArray) (e:ES) (k:Nat) (h:ED lo p mp w s e) (hs:s.size≤250) (hk:e.pos=k) (hl:k < s.size) (hc:byt s.data.toList k=42) (hf:A1 e.inner.pcs=true):Calls prog 115 #[.pointer (some ⟨p,0,none⟩)] w fun x w'=>Bc lo p mp s w x w' (Ao s.data.toList e):=by
 obtain ⟨own,mv,bv,pv,ov,rows,sc,g,k1n,e1,e2,kc,HS0,k1,k2,i1,W1,f2,hplt,hgp,hpg,HOK,HLV,HE,HB,HE1,HK1,HK,HC,HX,HLL⟩:=Cf h hs hk hl hc;clear h hc hk;have hR:Ao s.data.toList e=AI s.data.toList e1 k:=by rw [HS0,HE1.out,HK1.out,←HK.out];rfl
 have hf1:A1 e1.inner.pcs=true:=by rw [HE1.out];exact hf
 have hp1:e1.pos=k+1:=by rw [HE1.out];exact HK1.out
 have hcall:=Fy lo p mp _ s e1 k HX.out hs hf1;have HC0:=Afj hcall;have HR:=Afj hR;clear HS0 hR hcall;(obtain ⟨RR,hRR⟩:∃ RR,RR=Ao s.data.toList e:=⟨_,rfl⟩);rw [←hRR];have HRR:=Afj hRR;clear hRR;clear hf hf1 hp1;go_enter func115,ntmps115;go_wp2_with fail
 refine HC0.out.mono ?_;intro x w2 hx2;rcases Bh hx2 with ⟨q,hq,hb3,rfl⟩ | ⟨e',hq,hb3,rfl,hx4⟩
 ·have HQ:=Afj (HRR.out.trans (HR.out.trans hq));clear hx2 hq;go_wp2_with fail
  go_ret2
  exact AC HQ.out (HB.out.trans hb3)
 ·have HQ:=Afj (HRR.out.trans (HR.out.trans hq));have HX4:=Afj hx4;clear hx2 hq hx4;go_wp2_with fail
  go_ret2
  exact Az HQ.out (HB.out.trans hb3) HX4.out
theorem Ur (lo p mp:Nat) (w:World) (s:ByteArray) (e:ES) (k:Nat) (h:ED lo p mp w s e) (hs:s.size≤250) (hk:e.pos=k) (hl:k < s.size) (hc:byt s.data.toList k=43) (hf:A1 e.inner.pcs=true):Calls prog 115 #[.pointer (some ⟨p,0,none⟩)] w fun x w'=>Bc lo p mp s w x w' (Ao s.data.toList e):=by
 obtain ⟨own,mv,bv,pv,ov,rows,sc,g,k1n,e1,e2,kc,HS0,k1,k2,i1,W1,f2,hplt,hgp,hpg,HOK,HLV,HE,HB,HE1,HK1,HK,HC,HX,HLL⟩:=Cf h hs hk hl hc;clear h hc hk;have hR:Ao s.data.toList e=AI s.data.toList e1 k:=by rw [HS0,HE1.out,HK1.out,←HK.out];rfl
 have hf1:A1 e1.inner.pcs=true:=by rw [HE1.out];exact hf
 have hp1:e1.pos=k+1:=by rw [HE1.out];exact HK1.out
 have hcall:=Fy lo p mp _ s e1 k HX.out hs hf1;have HC0:=Afj hcall;have HR:=Afj hR;clear HS0 hR hcall;(obtain ⟨RR,hRR⟩:∃ RR,RR=Ao s.data.toList e:=⟨_,rfl⟩);rw [←hRR];have HRR:=Afj hRR;clear hRR;clear hf hf1 hp1;go_enter func115,ntmps115;go_wp2_with fail
 refine HC0.out.mono ?_;intro x w2 hx2;rcases Bh hx2 with ⟨q,hq,hb3,rfl⟩ | ⟨e',hq,hb3,rfl,hx4⟩
 ·have HQ:=Afj (HRR.out.trans (HR.out.trans hq));clear hx2 hq;go_wp2_with fail
  go_ret2
  exact AC HQ.out (HB.out.trans hb3)
 ·have HQ:=Afj (HRR.out.trans (HR.out.trans hq));have HX4:=Afj hx4;clear hx2 hq hx4;go_wp2_with fail
  go_ret2
  exact Az HQ.out (HB.out.trans hb3) HX4.out
theorem Us (lo p mp:Nat) (w:World) (s:ByteArray) (e:ES) (k:Nat) (h:ED lo p mp w s e) (hs:s.size≤250) (hk:e.pos=k) (hl:k < s.size) (hc:byt s.data.toList k=63) (hf:A1 e.inner.pcs=true):Calls prog 115 #[.pointer (some ⟨p,0,none⟩)] w fun x w'=>Bc lo p mp s w x w' (Ao s.data.toList e):=by
 obtain ⟨own,mv,bv,pv,ov,rows,sc,g,k1n,e1,e2,kc,HS0,k1,k2,i1,W1,f2,hplt,hgp,hpg,HOK,HLV,HE,HB,HE1,HK1,HK,HC,HX,HLL⟩:=Cf h hs hk hl hc;clear h hc hk;have hR:Ao s.data.toList e=AI s.data.toList e1 k:=by rw [HS0,HE1.out,HK1.out,←HK.out];rfl
 have hf1:A1 e1.inner.pcs=true:=by rw [HE1.out];exact hf
 have hp1:e1.pos=k+1:=by rw [HE1.out];exact HK1.out
 have hcall:=Fy lo p mp _ s e1 k HX.out hs hf1;have HC0:=Afj hcall;have HR:=Afj hR;clear HS0 hR hcall;(obtain ⟨RR,hRR⟩:∃ RR,RR=Ao s.data.toList e:=⟨_,rfl⟩);rw [←hRR];have HRR:=Afj hRR;clear hRR;clear hf hf1 hp1;go_enter func115,ntmps115;go_wp2_with fail
 refine HC0.out.mono ?_;intro x w2 hx2;rcases Bh hx2 with ⟨q,hq,hb3,rfl⟩ | ⟨e',hq,hb3,rfl,hx4⟩
 ·have HQ:=Afj (HRR.out.trans (HR.out.trans hq));clear hx2 hq;go_wp2_with fail
  go_ret2
  exact AC HQ.out (HB.out.trans hb3)
 ·have HQ:=Afj (HRR.out.trans (HR.out.trans hq));have HX4:=Afj hx4;clear hx2 hq hx4;go_wp2_with fail
  go_ret2
  exact Az HQ.out (HB.out.trans hb3) HX4.out
theorem QN (lo p mp:Nat) (w:World) (s:ByteArray) (e:ES) (k:Nat) (h:ED lo p mp w s e) (hs:s.size≤250) (hk:e.pos=k) (hl:k < s.size) (hc:byt s.data.toList k=123) (hf:A1 e.inner.pcs=true):Calls prog 115 #[.pointer (some ⟨p,0,none⟩)] w fun x w'=>Bc lo p mp s w x w' (Ao s.data.toList e):=by
 obtain ⟨own,mv,bv,pv,ov,rows,sc,g,k1n,e1,e2,kc,HS0,k1,k2,i1,W1,f2,hplt,hgp,hpg,HOK,HLV,HE,HB,HE1,HK1,HK,HC,HX,HLL⟩:=Cf h hs hk hl hc;clear h hc hk;have hR:Ao s.data.toList e=AI s.data.toList e1 k:=by rw [HS0,HE1.out,HK1.out,←HK.out];rfl
 have hf1:A1 e1.inner.pcs=true:=by rw [HE1.out];exact hf
 have hp1:e1.pos=k+1:=by rw [HE1.out];exact HK1.out
 have hcall:=Fy lo p mp _ s e1 k HX.out hs hf1;have HC0:=Afj hcall;have HR:=Afj hR;clear HS0 hR hcall;(obtain ⟨RR,hRR⟩:∃ RR,RR=Ao s.data.toList e:=⟨_,rfl⟩);rw [←hRR];have HRR:=Afj hRR;clear hRR;clear hf hf1 hp1;go_enter func115,ntmps115;go_wp2_with fail
 refine HC0.out.mono ?_;intro x w2 hx2;rcases Bh hx2 with ⟨q,hq,hb3,rfl⟩ | ⟨e',hq,hb3,rfl,hx4⟩
 ·have HQ:=Afj (HRR.out.trans (HR.out.trans hq));clear hx2 hq;go_wp2_with fail
  go_ret2
  exact AC HQ.out (HB.out.trans hb3)
 ·have HQ:=Afj (HRR.out.trans (HR.out.trans hq));have HX4:=Afj hx4;clear hx2 hq hx4;go_wp2_with fail
  go_ret2
  exact Az HQ.out (HB.out.trans hb3) HX4.out
theorem Ut (lo p mp:Nat) (w:World) (s:ByteArray) (e:ES) (k:Nat) (h:ED lo p mp w s e) (hs:s.size≤250) (hk:e.pos=k) (hl:k < s.size) (hc:byt s.data.toList k=42) (hf:A1 e.inner.pcs=false):Calls prog 115 #[.pointer (some ⟨p,0,none⟩)] w fun x w'=>Bc lo p mp s w x w' (Ao s.data.toList e):=by
 obtain ⟨own,mv,bv,pv,ov,rows,sc,g,k1n,e1,e2,kc,HS0,k1,k2,i1,W1,f2,hplt,hgp,hpg,HOK,HLV,HE,HB,HE1,HK1,HK,HC,HX,HLL⟩:=Cf h hs hk hl hc;clear h hc hk;have hR:Ao s.data.toList e=AI s.data.toList e1 k:=by rw [HS0,HE1.out,HK1.out,←HK.out];rfl
 have hf1:A1 e1.inner.pcs=false:=by rw [HE1.out];exact hf
 have hp1:e1.pos=k+1:=by rw [HE1.out];exact HK1.out
 have hrep:repAt true s.data.toList k=.some 0 (-1) 0 (k+1):=Ul (by rw [←HK.out];exact HLL.out) HC.out;have hst:AI s.data.toList e1 k=.ok (e1.at e1.st (e1.inner.pcs.dropLast++[.rep (e1.inner.pcs.getLastD .empty) 0 (-1)])):=by unfold AI;rw [hf1,hrep];show Except.ok (e1.at (e1.st.to (k+1)) _)=_;rw [←hp1];rfl
 have hcall:=Ue lo p mp _ s e1 k HX.out hs hp1 hf1 HC.out (HOK.out _ (hR.trans hst));have HC0:=Afj hcall;have HR:=Afj hR;clear HS0 hR hcall;(obtain ⟨RR,hRR⟩:∃ RR,RR=Ao s.data.toList e:=⟨_,rfl⟩);rw [←hRR];have HRR:=Afj hRR;clear hRR;clear hf hf1 hp1 hrep hst;go_enter func115,ntmps115;go_wp2_with fail
 refine HC0.out.mono ?_;intro x w2 hx2;rcases Bh hx2 with ⟨q,hq,hb3,rfl⟩ | ⟨e',hq,hb3,rfl,hx4⟩
 ·have HQ:=Afj (HRR.out.trans (HR.out.trans hq));clear hx2 hq;go_wp2_with fail
  go_ret2
  exact AC HQ.out (HB.out.trans hb3)
 ·have HQ:=Afj (HRR.out.trans (HR.out.trans hq));have HX4:=Afj hx4;clear hx2 hq hx4;go_wp2_with fail
  go_ret2
  exact Az HQ.out (HB.out.trans hb3) HX4.out
theorem Uu (lo p mp:Nat) (w:World) (s:ByteArray) (e:ES) (k:Nat) (h:ED lo p mp w s e) (hs:s.size≤250) (hk:e.pos=k) (hl:k < s.size) (hc:byt s.data.toList k=43) (hf:A1 e.inner.pcs=false):Calls prog 115 #[.pointer (some ⟨p,0,none⟩)] w fun x w'=>Bc lo p mp s w x w' (Ao s.data.toList e):=by
 obtain ⟨own,mv,bv,pv,ov,rows,sc,g,k1n,e1,e2,kc,HS0,k1,k2,i1,W1,f2,hplt,hgp,hpg,HOK,HLV,HE,HB,HE1,HK1,HK,HC,HX,HLL⟩:=Cf h hs hk hl hc;clear h hc hk;have hR:Ao s.data.toList e=AI s.data.toList e1 k:=by rw [HS0,HE1.out,HK1.out,←HK.out];rfl
 have hf1:A1 e1.inner.pcs=false:=by rw [HE1.out];exact hf
 have hp1:e1.pos=k+1:=by rw [HE1.out];exact HK1.out
 have hrep:repAt true s.data.toList k=.some 1 (-1) 0 (k+1):=Um (by rw [←HK.out];exact HLL.out) HC.out;have hst:AI s.data.toList e1 k=.ok (e1.at e1.st (e1.inner.pcs.dropLast++[.rep (e1.inner.pcs.getLastD .empty) 1 (-1)])):=by unfold AI;rw [hf1,hrep];show Except.ok (e1.at (e1.st.to (k+1)) _)=_;rw [←hp1];rfl
 have hcall:=Uf lo p mp _ s e1 k HX.out hs hp1 hf1 HC.out (HOK.out _ (hR.trans hst));have HC0:=Afj hcall;have HR:=Afj hR;clear HS0 hR hcall;(obtain ⟨RR,hRR⟩:∃ RR,RR=Ao s.data.toList e:=⟨_,rfl⟩);rw [←hRR];have HRR:=Afj hRR;clear hRR;clear hf hf1 hp1 hrep hst;go_enter func115,ntmps115;go_wp2_with fail
 refine HC0.out.mono ?_;intro x w2 hx2;rcases Bh hx2 with ⟨q,hq,hb3,rfl⟩ | ⟨e',hq,hb3,rfl,hx4⟩
 ·have HQ:=Afj (HRR.out.trans (HR.out.trans hq));clear hx2 hq;go_wp2_with fail
  go_ret2
  exact AC HQ.out (HB.out.trans hb3)
 ·have HQ:=Afj (HRR.out.trans (HR.out.trans hq));have HX4:=Afj hx4;clear hx2 hq hx4;go_wp2_with fail
  go_ret2
  exact Az HQ.out (HB.out.trans hb3) HX4.out
theorem Uv (lo p mp:Nat) (w:World) (s:ByteArray) (e:ES) (k:Nat) (h:ED lo p mp w s e) (hs:s.size≤250) (hk:e.pos=k) (hl:k < s.size) (hc:byt s.data.toList k=63) (hf:A1 e.inner.pcs=false):Calls prog 115 #[.pointer (some ⟨p,0,none⟩)] w fun x w'=>Bc lo p mp s w x w' (Ao s.data.toList e):=by
 obtain ⟨own,mv,bv,pv,ov,rows,sc,g,k1n,e1,e2,kc,HS0,k1,k2,i1,W1,f2,hplt,hgp,hpg,HOK,HLV,HE,HB,HE1,HK1,HK,HC,HX,HLL⟩:=Cf h hs hk hl hc;clear h hc hk;have hR:Ao s.data.toList e=AI s.data.toList e1 k:=by rw [HS0,HE1.out,HK1.out,←HK.out];rfl
 have hf1:A1 e1.inner.pcs=false:=by rw [HE1.out];exact hf
 have hp1:e1.pos=k+1:=by rw [HE1.out];exact HK1.out
 have hrep:repAt true s.data.toList k=.some 0 1 0 (k+1):=Xe (by rw [←HK.out];exact HLL.out) HC.out;have hst:AI s.data.toList e1 k=.ok (e1.at e1.st (e1.inner.pcs.dropLast++[.rep (e1.inner.pcs.getLastD .empty) 0 1])):=by unfold AI;rw [hf1,hrep];show Except.ok (e1.at (e1.st.to (k+1)) _)=_;rw [←hp1];rfl
 have hcall:=Xb lo p mp _ s e1 k HX.out hs hp1 hf1 HC.out (HOK.out _ (hR.trans hst));have HC0:=Afj hcall;have HR:=Afj hR;clear HS0 hR hcall;(obtain ⟨RR,hRR⟩:∃ RR,RR=Ao s.data.toList e:=⟨_,rfl⟩);rw [←hRR];have HRR:=Afj hRR;clear hRR;clear hf hf1 hp1 hrep hst;go_enter func115,ntmps115;go_wp2_with fail
 refine HC0.out.mono ?_;intro x w2 hx2;rcases Bh hx2 with ⟨q,hq,hb3,rfl⟩ | ⟨e',hq,hb3,rfl,hx4⟩
 ·have HQ:=Afj (HRR.out.trans (HR.out.trans hq));clear hx2 hq;go_wp2_with fail
  go_ret2
  exact AC HQ.out (HB.out.trans hb3)
 ·have HQ:=Afj (HRR.out.trans (HR.out.trans hq));have HX4:=Afj hx4;clear hx2 hq hx4;go_wp2_with fail
  go_ret2
  exact Az HQ.out (HB.out.trans hb3) HX4.out
theorem QO (lo p mp:Nat) (w:World) (s:ByteArray) (e:ES) (k:Nat) (h:ED lo p mp w s e) (hs:s.size≤250) (hk:e.pos=k) (hl:k < s.size) (hc:byt s.data.toList k=123) (hf:A1 e.inner.pcs=false):Calls prog 115 #[.pointer (some ⟨p,0,none⟩)] w fun x w'=>Bc lo p mp s w x w' (Ao s.data.toList e):=by
 obtain ⟨own,mv,bv,pv,ov,rows,sc,g,k1n,e1,e2,kc,HS0,k1,k2,i1,W1,f2,hplt,hgp,hpg,HOK,HLV,HE,HB,HE1,HK1,HK,HC,HX,HLL⟩:=Cf h hs hk hl hc;clear h hc hk;have hR:Ao s.data.toList e=AI s.data.toList e1 k:=by rw [HS0,HE1.out,HK1.out,←HK.out];rfl
 have hf1:A1 e1.inner.pcs=false:=by rw [HE1.out];exact hf
 have hp1:e1.pos=k+1:=by rw [HE1.out];exact HK1.out
 have hst:∀ m n j,repAt true s.data.toList k=.some m n 0 j→AI s.data.toList e1 k=.ok (e1.at (e1.st.to j) (e1.inner.pcs.dropLast++[.rep (e1.inner.pcs.getLastD .empty) m n])):=fun m n j hrep=>by unfold AI;rw [hf1,hrep];rfl
 have hcall:=QJ lo p mp _ s e1 k HX.out hs hp1 hf1 HC.out (fun m n j hrep=>HE.out.ok.goto (by rw [hp1];exact (Fm _ _ _ _ _ _ _ hrep).1) (Fm _ _ _ _ _ _ _ hrep).2) (fun m n j hrep=>HOK.out _ (hR.trans (hst m n j hrep)));have HC0:=Afj hcall;have HR:=Afj hR;clear HS0 hR hcall;(obtain ⟨RR,hRR⟩:∃ RR,RR=Ao s.data.toList e:=⟨_,rfl⟩);rw [←hRR];have HRR:=Afj hRR;clear hRR;clear hf hf1 hp1 hst;go_enter func115,ntmps115;go_wp2_with fail
 refine HC0.out.mono ?_;intro x w2 hx2;rcases Bh hx2 with ⟨q,hq,hb3,rfl⟩ | ⟨e',hq,hb3,rfl,hx4⟩
 ·have HQ:=Afj (HRR.out.trans (HR.out.trans hq));clear hx2 hq;go_wp2_with fail
  go_ret2
  exact AC HQ.out (HB.out.trans hb3)
 ·have HQ:=Afj (HRR.out.trans (HR.out.trans hq));have HX4:=Afj hx4;clear hx2 hq hx4;go_wp2_with fail
  go_ret2
  exact Az HQ.out (HB.out.trans hb3) HX4.out
theorem Xj (lo p mp:Nat) (w:World) (s:ByteArray) (e:ES) (k:Nat) (h:ED lo p mp w s e) (hs:s.size≤250) (hk:e.pos=k) (hl:k < s.size) (hc:byt s.data.toList k=91) (hG:Gl w) (hlo3:glN≤lo):Calls prog 115 #[.pointer (some ⟨p,0,none⟩)] w fun x w'=>Bc lo p mp s w x w' (Ao s.data.toList e):=by
 obtain ⟨own,mv,bv,pv,ov,rows,sc,g,k1n,e1,e2,kc,HS0,k1,k2,i1,W1,f2,hplt,hgp,hpg,HOK,HLV,HE,HB,HE1,HK1,HK,HC,HX,HLL⟩:=Cf h hs hk hl hc;clear h hc hk;obtain ⟨t,j,er,hprs,hj⟩:=JG s.data.toList k1n (by rw [HK1.out];have:=HLL.out;have:=HK.out;omega);have hkk:((e.pos:Int)+1)=(k1n:Int):=by rw [HK1.out,HK.out];omega
 have hp1:e1.pos=k1n:=by rw [HE1.out]
 have hR:Ao s.data.toList e=(if er=0 then .ok (({ e1 with pos:=j }:ES).at ({ e1 with pos:=j }:ES).st (e1.inner.pcs++[.one t])) else .error (er,j)):=by
  rw [HS0];unfold GK;rw [if_neg (by decide),if_neg (by decide),if_neg (by decide),if_neg (by decide),if_neg (by decide),if_neg (by decide),if_pos rfl,hkk,hprs,HE1.out];simp only [Int.toNat_natCast];rfl
 have hcall:=Nf lo p mp _ s e1 HX.out (hG.below HB.out hlo3) hs t j er (by rw [hp1];exact hprs) (fun h0=>HE.out.ok.goto (by rw [hp1];exact Afu (hj h0).1) (hj h0).2) (fun h0=>HOK.out _ (hR.trans (if_pos h0)));have HC0:=Afj hcall;have HR:=Afj hR;clear HS0 hR hcall;(obtain ⟨RR,hRR⟩:∃ RR,RR=Ao s.data.toList e:=⟨_,rfl⟩);rw [←hRR];have HRR:=Afj hRR;clear hRR;clear hp1 hkk hj hprs hG;go_enter func115,ntmps115;go_wp2_with fail
 refine HC0.out.mono ?_;intro x w2 hx2;rcases Bh hx2 with ⟨q,hq,hb3,rfl⟩ | ⟨e',hq,hb3,rfl,hx4⟩
 ·have HQ:=Afj (HRR.out.trans (HR.out.trans hq));clear hx2 hq;go_wp2_with fail
  go_ret2
  exact AC HQ.out (HB.out.trans hb3)
 ·have HQ:=Afj (HRR.out.trans (HR.out.trans hq));have HX4:=Afj hx4;clear hx2 hq hx4;go_wp2_with fail
  go_ret2
  exact Az HQ.out (HB.out.trans hb3) HX4.out
theorem Xk (lo p mp:Nat) (w:World) (s:ByteArray) (e:ES) (k:Nat) (h:ED lo p mp w s e) (hs:s.size≤250) (hk:e.pos=k) (hl:k < s.size) (hc:byt s.data.toList k=92):Calls prog 115 #[.pointer (some ⟨p,0,none⟩)] w fun x w'=>Bc lo p mp s w x w' (Ao s.data.toList e):=by
 obtain ⟨own,mv,bv,pv,ov,rows,sc,g,k1n,e1,e2,kc,HS0,k1,k2,i1,W1,f2,hplt,hgp,hpg,HOK,HLV,HE,HB,HE1,HK1,HK,HC,HX,HLL⟩:=Cf h hs hk hl hc;clear h hc hk;have hR:Ao s.data.toList e=BI s.data.toList e1 k:=by rw [HS0,HE1.out,HK1.out,←HK.out];rfl
 have hp1:e1.pos=k+1:=by rw [HE1.out];exact HK1.out
 have hmk:e1.marks.length≤k:=by rw [HE1.out];show e.marks.length≤k;rw [←HK.out];exact HLV.out.marks
 have hpk:e1.inner.pcs.length≤k:=by rw [HE1.out];show e.inner.pcs.length≤k;rw [←HK.out];exact HLV.out.inner.2.2.1
 have hcall:Calls prog 134 #[.pointer (some ⟨p,0,none⟩),.int .i64 (k:Int)] (w.setCell ⟨p,2,none⟩ (.int .i64 (k1n:Int))) fun x w'=>Bc lo p mp s (w.setCell ⟨p,2,none⟩ (.int .i64 (k1n:Int))) x w' (BI s.data.toList e1 k):=by
  by_cases hlt:k+1 < s.size
  ·by_cases hd:49≤byt s.data.toList (k+1)∧byt s.data.toList (k+1)≤57
   ·cases hcc:e1.closed.contains (((byt s.data.toList (k+1):Nat):Int) - 48) with
    | true=>exact Ui lo p mp _ s e1 k HX.out hs hp1 hlt HC.out _ rfl hd hcc hmk hpk
    | false=>exact Xd lo p mp _ s e1 k HX.out hs hp1 hlt _ rfl hd hcc
   ·cases hn:CJ (byt s.data.toList (k+1)) with
    | none=>exact Uj lo p mp _ s e1 k HX.out hs hp1 hlt _ rfl hd hn
    | some q=>
     obtain ⟨t,m⟩:=q;cases m with
     | true=>exact Uk lo p mp _ s e1 k HX.out hs hp1 hlt _ rfl hd t hn HC.out hmk hpk
     | false=>exact QM lo p mp _ s e1 k HX.out hs hp1 hlt _ rfl hd t hn hpk
  ·exact Uh lo p mp _ s e1 k HX.out hp1 (by omega)
 have HC0:=Afj hcall;have HR:=Afj hR;clear HS0 hR hcall;(obtain ⟨RR,hRR⟩:∃ RR,RR=Ao s.data.toList e:=⟨_,rfl⟩);rw [←hRR];have HRR:=Afj hRR;clear hRR;clear hp1 hmk hpk;go_enter func115,ntmps115;go_wp2_with fail
 refine HC0.out.mono ?_;intro x w2 hx2;rcases Bh hx2 with ⟨q,hq,hb3,rfl⟩ | ⟨e',hq,hb3,rfl,hx4⟩
 ·have HQ:=Afj (HRR.out.trans (HR.out.trans hq));clear hx2 hq;go_wp2_with fail
  go_ret2
  exact AC HQ.out (HB.out.trans hb3)
 ·have HQ:=Afj (HRR.out.trans (HR.out.trans hq));have HX4:=Afj hx4;clear hx2 hq hx4;go_wp2_with fail
  go_ret2
  exact Az HQ.out (HB.out.trans hb3) HX4.out
theorem Xl (lo p mp:Nat) (w:World) (s:ByteArray) (e:ES) (k:Nat) (h:ED lo p mp w s e) (hs:s.size≤250) (hk:e.pos=k) (hl:k < s.size) (hc:byt s.data.toList k=46):Calls prog 115 #[.pointer (some ⟨p,0,none⟩)] w fun x w'=>Bc lo p mp s w x w' (Ao s.data.toList e):=by
 obtain ⟨own,mv,bv,pv,ov,rows,sc,g,k1n,e1,e2,kc,HS0,k1,k2,i1,W1,f2,hplt,hgp,hpg,HOK,HLV,HE,HB,HE1,HK1,HK,HC,HX,HLL⟩:=Cf h hs hk hl hc;clear h hc hk;have hR:Ao s.data.toList e=.ok (e1.at e1.st (e1.inner.pcs++[.one (Ac 0 255)])):=by rw [HS0,HE1.out,HK1.out,←HK.out];rfl
 have HR:=Afj hR;clear HS0 hR;have hn:=fun w=>Gf oz w
 rw [Wy,Ap,Ap,Ap,Ap] at hn;have HN:=Afj hn;clear hn;go_enter func115,ntmps115;go_wp2_with fail
 obtain ⟨V,hV⟩:∃ V,V=w.setCell ⟨p,2,none⟩ (.int .i64 (k1n:Int)):=⟨_,rfl⟩;rw [←hV];have hEV:=HE.out;have hBV:=HB.out;rw [←hV] at hEV hBV;have hadd:=fun (w':World) (hb:Below V.heap.size V w')=>EJ (hEV.below hb) (.one (Ac 0 255)) (.iface 110 (.agg #[.int .u64 (ow (Ac 0 255) 0),.int .u64 (ow (Ac 0 255) 1),.int .u64 (ow (Ac 0 255) 2),.int .u64 (ow (Ac 0 255) 3)])) ⟨1,rfl⟩ rfl hs (HOK.out _ HR.out)
 have HAdd:=Afj hadd;have HBV:=Afj hBV;have HLOV:=Afj (Afr hEV.lop (Afu hEV.blk.lt));clear hadd hEV hBV hV HE HB HX k1 k2 kc f2;go_upto_region 26 with fail
 go_region_law (first
  | (refine By rfl _ _ _ rfl 135 _ rfl (by rfl) (enters_of func135 (by kernel_rfl) rfl) (HN.out _) ?_;rintro x w2 ⟨rfl,hb2⟩;refine ⟨_,rfl,?_⟩;have HB2:Hid (Below V.heap.size V w2):=Afj (by first | exact hb2 | exact (Agb (Afv _ _)).trans hb2);clear hb2)
  | (refine By rfl _ _ _ rfl 131 _ rfl (by rfl) (enters_of func131 (by kernel_rfl) rfl) (HAdd.out _ HB2.out) ?_;rintro x w4 ⟨rfl,hx4,hb4⟩;refine ⟨_,rfl,?_⟩;have HX4:=Afj hx4;have HB4:Hid (Below lo V w4):=Afj ((HB2.out.mono HLOV.out).trans hb4);clear hx4 hb4))
 all_goals go_wp2_with fail
 all_goals go_ret2
 all_goals exact Az HR.out (HBV.out.trans HB4.out) HX4.out
theorem QP (lo p mp:Nat) (w:World) (s:ByteArray) (e:ES) (c k:Nat) (h:ED lo p mp w s e) (hs:s.size≤250) (hk:e.pos=k) (hl:k < s.size) (hc:byt s.data.toList k=c) (c1:c≠124) (c2:c≠40) (c3:c≠41) (c4:c≠94) (c5:c≠36) (c6:c≠42) (c7:c≠43) (c8:c≠63) (c9:c≠123) (c10:c≠91) (c11:c≠46) (c12:c≠92):Calls prog 115 #[.pointer (some ⟨p,0,none⟩)] w fun x w'=>Bc lo p mp s w x w' (Ao s.data.toList e):=by
 have hc256:c < 256:=by rw [←hc];exact G9 _ _
 obtain ⟨own,mv,bv,pv,ov,rows,sc,g,k1n,e1,e2,kc,HS0,k1,k2,i1,W1,f2,hplt,hgp,hpg,HOK,HLV,HE,HB,HE1,HK1,HK,HC,HX,HLL⟩:=Cf h hs hk hl hc;clear h hc hk;have hR:Ao s.data.toList e=.ok (e1.at e1.st (e1.inner.pcs++[.one (Ac (c:Int) (c:Int))])):=by
  rw [HS0];unfold GK;rw [if_neg c1,if_neg c2,if_neg c3,if_neg c4,if_neg c5,if_neg (by omega),if_neg c10,if_neg c11,if_neg c12,HE1.out,HK1.out,←HK.out];rfl
 have HR:=Afj hR;have hof:=fun (W:World)=>ZW (c:Int) (by omega) (by omega) W
 rw [DU] at hof;have HOF:=Afj hof;clear HS0 hR hof;have W2:IntKind.u8.wrap (c:Int)=(c:Int):=IntWalk.u8_in _ (by omega);have d1:((c:Int) == 124)=false:=by rw [beq_eq_false_iff_ne];omega
 have d2:((c:Int) == 40)=false:=by rw [beq_eq_false_iff_ne];omega
 have d3:((c:Int) == 41)=false:=by rw [beq_eq_false_iff_ne];omega
 have d4:((c:Int) == 94)=false:=by rw [beq_eq_false_iff_ne];omega
 have d5:((c:Int) == 36)=false:=by rw [beq_eq_false_iff_ne];omega
 have d6:((c:Int) == 42)=false:=by rw [beq_eq_false_iff_ne];omega
 have d7:((c:Int) == 43)=false:=by rw [beq_eq_false_iff_ne];omega
 have d8:((c:Int) == 63)=false:=by rw [beq_eq_false_iff_ne];omega
 have d9:((c:Int) == 123)=false:=by rw [beq_eq_false_iff_ne];omega
 have d10:((c:Int) == 91)=false:=by rw [beq_eq_false_iff_ne];omega
 have d11:((c:Int) == 46)=false:=by rw [beq_eq_false_iff_ne];omega
 have d12:((c:Int) == 92)=false:=by rw [beq_eq_false_iff_ne];omega
 clear c1 c2 c3 c4 c5 c6 c7 c8 c9 c10 c11 c12;go_enter func115,ntmps115;go_wp2_with fail
 obtain ⟨V,hV⟩:∃ V,V=w.setCell ⟨p,2,none⟩ (.int .i64 (k1n:Int)):=⟨_,rfl⟩;rw [←hV];have hEV:=HE.out;have hBV:=HB.out;rw [←hV] at hEV hBV;have hadd:=fun (w':World) (hb:Below V.heap.size V w')=>EJ (hEV.below hb) (.one (Ac (c:Int) (c:Int))) (.iface 110 (.agg #[.int .u64 (ow (Ac (c:Int) (c:Int)) 0),.int .u64 (ow (Ac (c:Int) (c:Int)) 1),.int .u64 (ow (Ac (c:Int) (c:Int)) 2),.int .u64 (ow (Ac (c:Int) (c:Int)) 3)])) ⟨1,rfl⟩ rfl hs (HOK.out _ HR.out)
 have HAdd:=Afj hadd;have HBV:=Afj hBV;have HLOV:=Afj (Afr hEV.lop (Afu hEV.blk.lt));clear hadd hEV hBV hV HE HB HX k1 k2 kc f2;go_upto_region 5 with fail
 go_region_law (first
  | (refine By rfl _ _ _ rfl 131 _ rfl (by rfl) (enters_of func131 (by kernel_rfl) rfl) (HAdd.out _ HB2.out) ?_;rintro x w4 ⟨rfl,hx4,hb4⟩;refine ⟨_,rfl,?_⟩;have HX4:=Afj hx4;have HB4:Hid (Below lo V w4):=Afj ((HB2.out.mono HLOV.out).trans hb4);clear hx4 hb4)
  | (refine By rfl _ _ _ rfl 136 _ rfl (by rfl) (enters_of func136 (by kernel_rfl) rfl) (HOF.out _) ?_;rintro x w2 ⟨rfl,hb2⟩;refine ⟨_,rfl,?_⟩;have HB2:Hid (Below V.heap.size V w2):=Afj hb2;clear hb2))
 all_goals go_wp2_with fail
 all_goals go_ret2
 all_goals exact Az HR.out (HBV.out.trans HB4.out) HX4.out
theorem Uw (lo p mp:Nat) (w:World) (s:ByteArray) (e:ES) (h:ED lo p mp w s e) (hs:s.size≤250) (hl:e.pos < s.size) (hG:Gl w) (hlo3:glN≤lo):Calls prog 115 #[.pointer (some ⟨p,0,none⟩)] w fun x w'=>Bc lo p mp s w x w' (Ao s.data.toList e):=by
 obtain ⟨c,hc⟩:∃ c,byt s.data.toList e.pos=c:=⟨_,rfl⟩;by_cases c1:c=124
 ·exact Un lo p mp w s e e.pos h hs rfl hl (hc.trans c1)
 by_cases c2:c=40
 ·by_cases hd:e.outer.length=12
  ·exact Uo lo p mp w s e e.pos h hs rfl hl (hc.trans c2) hd
  ·exact Xh lo p mp w s e e.pos h hs rfl hl (hc.trans c2) (by obtain ⟨_,_,_,_,_,_,_,h⟩:=h;have:=h.ok.deep;omega)
 by_cases c3:c=41
 ·rcases List.eq_nil_or_concat e.outer with ho | ⟨L,v,ho⟩
  ·exact Up lo p mp w s e e.pos h hs rfl hl (hc.trans c3) ho
  ·exact Xi lo p mp w s e e.pos h hs rfl hl (hc.trans c3) L v (by simpa using ho)
 by_cases c4:c=94
 ·exact Xf lo p mp w s e e.pos h hs rfl hl (hc.trans c4)
 by_cases c5:c=36
 ·exact Xg lo p mp w s e e.pos h hs rfl hl (hc.trans c5)
 by_cases c6:c=42
 ·cases hf:A1 e.inner.pcs with
  | true=>exact Uq lo p mp w s e e.pos h hs rfl hl (hc.trans c6) hf
  | false=>exact Ut lo p mp w s e e.pos h hs rfl hl (hc.trans c6) hf
 by_cases c7:c=43
 ·cases hf:A1 e.inner.pcs with
  | true=>exact Ur lo p mp w s e e.pos h hs rfl hl (hc.trans c7) hf
  | false=>exact Uu lo p mp w s e e.pos h hs rfl hl (hc.trans c7) hf
 by_cases c8:c=63
 ·cases hf:A1 e.inner.pcs with
  | true=>exact Us lo p mp w s e e.pos h hs rfl hl (hc.trans c8) hf
  | false=>exact Uv lo p mp w s e e.pos h hs rfl hl (hc.trans c8) hf
 by_cases c9:c=123
 ·cases hf:A1 e.inner.pcs with
  | true=>exact QN lo p mp w s e e.pos h hs rfl hl (hc.trans c9) hf
  | false=>exact QO lo p mp w s e e.pos h hs rfl hl (hc.trans c9) hf
 by_cases c10:c=91
 ·exact Xj lo p mp w s e e.pos h hs rfl hl (hc.trans c10) hG hlo3
 by_cases c11:c=46
 ·exact Xl lo p mp w s e e.pos h hs rfl hl (hc.trans c11)
 by_cases c12:c=92
 ·exact Xk lo p mp w s e e.pos h hs rfl hl (hc.trans c12)
 exact QP lo p mp w s e c e.pos h hs rfl hl hc c1 c2 c3 c4 c5 c6 c7 c8 c9 c10 c11 c12
theorem DX {fn:Func} {t u v x:Tmp} (h:fn.results=#[.tmp t,.tmp u,.tmp v,.tmp x]) (tmps:Array Value) (P:Program) (w:World) :
  (results fn tmps).run P w=.ok (.tuple #[tmps.getD t undef,tmps.getD u undef,tmps.getD v undef,tmps.getD x undef]) w:=by
 simp [results,h]
theorem OL (s:ByteArray) (w:World) (hs:250 < s.size):Calls prog 98 #[.string s] w fun e w'=>Qq (.error (3,250)) w e w':=by
 have e1:decide ((250:Int) < (s.size:Int))=true:=by simp;omega
 clear hs;go_enter func98,ntmps98;go_wp2_with fail
 (try simp only [Exit.inBlock,Exit.then]);refine bodyPost_ret (DX rfl _ _ _) rfl ?_
 exact ⟨Afv _ _,rfl⟩
theorem ZX (lo p mp:Nat) (w1:World) (s:ByteArray) (sv:Value) (hlo:lo≤w1.heap.size) (hrow:w1.ownsRow lo 21 1 sv s.size (Gz s.data.toList)) (hmp:mp=w1.heap.size) (hp:p=w1.heap.size+1) :
  Em lo p mp [p,mp] ((w1.alloc (.map #[] 0)).alloc (.cells (EC (.string s) sv (.int .i64 0) (.slice none 0 0) (.int .i64 0) (.int .i64 0) (.slice none 0 0) (.slice none 0 0) (.slice none 0 0) (.int .i64 0) (.map (some mp))) 210)) s F3 sv (.slice none 0 0) (.slice none 0 0) (.slice none 0 0) (.slice none 0 0) []:=by
 have hnil:∀ b,(Value.slice none 0 0).ownBlock≠some b:=fun b h=>by simp [Value.ownBlock] at h
 have hsz:((w1.alloc (.map #[] 0)).alloc (.cells (EC (.string s) sv (.int .i64 0) (.slice none 0 0) (.int .i64 0) (.int .i64 0) (.slice none 0 0) (.slice none 0 0) (.slice none 0 0) (.int .i64 0) (.map (some mp))) 210)).heap.size=w1.heap.size+2:=by simp
 have hb1:Below w1.heap.size w1 ((w1.alloc (.map #[] 0)).alloc (.cells (EC (.string s) sv (.int .i64 0) (.slice none 0 0) (.int .i64 0) (.int .i64 0) (.slice none 0 0) (.slice none 0 0) (.slice none 0 0) (.int .i64 0) (.map (some mp))) 210)):=((Afv _ _).alloc (Afq _) _).alloc (by simp) _;refine ⟨Blk.new _ _ _ _ (by rw [hp];simp),by omega,by omega,?_,World.ownsRow_nil _ _ _ _,NR.nil _ _ _,NR.nil _ _ _,World.ownsRow_nil _ _ _ _,rfl,fun i h=>absurd h (Nat.not_lt_zero _),?_,?_,?_,by simp,by simp,by omega,fun b hb=>?_,ZT _⟩
 ·obtain ⟨a,cap,rfl,hc,_,hx⟩:=Gk hrow (by rw [LF];simp);refine ⟨a,cap,rfl,hc,fun h0=>?_⟩;obtain ⟨g,rfl,_,hg,hcell⟩:=hx h0;refine ⟨g,rfl,by simp;omega,by rw [hsz];omega,fun i hi=>?_⟩;have h1:=hcell i (by rw [LF];simpa using hi);rw [Nat.zero_add] at h1;rw [hb1.cell (p:=⟨g,i,none⟩) hg,h1];unfold Gz byt;simp only [List.getElem_map];rw [Af7,Af4 (by simpa using hi),Option.getD_some]
 ·refine ⟨0,.map [],Afq _,?_,fun k=>rfl⟩;have h:=World.ownsMap_made (H:=Unit) w1 prog 3 unitElem;obtain ⟨es,clock,hb,r⟩:=h;rw [hmp];exact ⟨es,clock,(Below.heap_alloc _ _ _ (by simp)).trans hb,r⟩
 ·unfold allV;simp only [List.flatMap_nil,List.pairwise_cons];exact ⟨fun v _ b hb=>absurd hb (hnil b),fun v _ b hb=>absurd hb (hnil b),fun v _ b hb=>absurd hb (hnil b),fun v _ b hb=>absurd hb (hnil b),List.Pairwise.nil⟩
 ·intro v hv b hb;unfold allV at hv;simp only [List.flatMap_nil,Afz] at hv;rcases hv with rfl | rfl | rfl | rfl | hv
  ·exact absurd hb (hnil b)
  ·exact absurd hb (hnil b)
  ·exact absurd hb (hnil b)
  ·exact absurd hb (hnil b)
  ·cases hv
 ·rw [hsz];simp only [Afz] at hb;rcases hb with rfl | rfl | hb
  ·omega
  ·omega
  ·cases hb
def QQ (lo:Nat) (R:Except (Nat × Nat) ES) (w:World) (x:Ending) (w':World):Prop:=Below lo w w'∧match R with
 | .error q=>x=.returned (.tuple #[.nilIface,.slice none 0 0,.int .i64 (q.2:Int),.int .i64 (q.1:Int)])
 | .ok e=>∃ v mv,x=.returned (.tuple #[v,mv,.int .i64 0,.int .i64 0])∧NdX (fun b=>lo≤b) w' e.inner.whole v∧w'.ownsRow lo 33 2 mv e.marks.length (marksC e.marks)
theorem Kw {lo:Nat} {R:Except (Nat × Nat) ES} {w w':World} {n k:Nat} (hR:R=.error (n,k)) (hb:Below lo w w'):QQ lo R w (.returned (.tuple #[.nilIface,.slice none 0 0,.int .i64 (k:Int),.int .i64 (n:Int)])) w':=by subst hR;exact ⟨hb,rfl⟩
theorem Ux {lo:Nat} {R:Except (Nat × Nat) ES} {w w':World} {e:ES} {v mv:Value} (hR:R=.ok e) (hb:Below lo w w') (hn:NdX (fun b=>lo≤b) w' e.inner.whole v) (hm:w'.ownsRow lo 33 2 mv e.marks.length (marksC e.marks)):QQ lo R w (.returned (.tuple #[v,mv,.int .i64 0,.int .i64 0])) w':=by subst hR;exact ⟨hb,v,mv,rfl,hn,hm⟩
theorem Kx (s:ByteArray) (w:World) (hs:s.size≤250) (hG:Gl w) (R:Except (Nat × Nat) ES) (hR:DM s.data.toList F3=R) (hne:∀ q,R=.error q→q.1≠0):Calls prog 98 #[.string s] w fun e w'=>QQ w.heap.size R w e w':=by
 have e1:decide ((250:Int) < (s.size:Int))=false:=by simp;omega
 have hmm:=@run_makeMap prog;have hsg:=Ua s w hs;have HR:=Afj hR;have HNE:=Afj hne;have hsl:s.data.toList.length=s.size:=by simp
 have HSL:=Afj hsl;have HS:=Afj hs;clear hR hne hsl hs;go_enter func98,ntmps98;go_wp2_with fail
 refine hsg.mono ?_;rintro x w1 ⟨sv,rfl,hrow,b1⟩;obtain ⟨sa,sc,rfl⟩:=Bg hrow;have hz:=ZX w.heap.size (w1.heap.size+1) w1.heap.size w1 s _ b1.size hrow rfl rfl;have hb0:=((b1.alloc b1.size (.map #[] 0)).alloc (by have:=b1.size;simp;omega) (.cells (EC (.string s) (.slice sa s.size sc) (.int .i64 0) (.slice none 0 0) (.int .i64 0) (.int .i64 0) (.slice none 0 0) (.slice none 0 0) (.slice none 0 0) (.int .i64 0) (.map (some w1.heap.size))) 210))
 have HZ:=Afj hz;have HB0:=Afj hb0;have HB1:=Afj b1.size;clear hsg hrow b1 hz hb0;go_wp2_with fail
 go_loopw [] (fun wr=>∃ e,ED w.heap.size (w1.heap.size+1) w1.heap.size wr s e∧DM s.data.toList e=R∧Below w.heap.size w wr) (fun wr=>s.size - (intOf ((wr.cell? ⟨w1.heap.size+1,2,none⟩).getD undef)).toNat)
 case atStart=>exact ⟨F3,⟨_,_,_,_,_,_,_,HZ.out⟩,HR.out,HB0.out⟩
 case round=>
  obtain ⟨e,hX,hres,hb⟩:=hrel;have HX:=Afj hX;obtain ⟨own,sv,mv,bv,pv,ov,rows,h⟩:=hX;obtain ⟨sa',sc',rfl,_,_⟩:=h.sg;obtain ⟨oa,oc,rfl⟩:=Bg h.on;have k1:wr.cell? ⟨w1.heap.size+1,1,none⟩=some (.slice sa' s.size sc'):=(h.blk.cell 1).trans rfl;have k2:wr.cell? ⟨w1.heap.size+1,2,none⟩=some (.int .i64 (e.pos:Int)):=(h.blk.cell 2).trans rfl;have K2:=Afj k2;have HRES:=Afj hres;have HB:=Afj hb;have H:=Afj h;have hG2:=hG.up hb;clear h hres hb;by_cases hlt:e.pos < s.size
  ·have d1:decide ((e.pos:Int) < (s.size:Int))=true:=by simp;omega
   have d1':decide (e.pos < s.size)=true:=decide_eq_true hlt;have hst:=Uw _ _ _ wr s e HX.out HS.out hlt hG2 hG.lt;have HLT:=Afj hlt;clear hlt hG2;go_wp2_with fail
   refine hst.mono ?_;intro x w3 hx;rcases Bh hx with ⟨q,hq,hb3,rfl⟩ | ⟨e',hq,hb3,rfl,hx4⟩
   ·have hRq:R=.error (q.1,q.2):=by rw [←HRES.out,BJ _ _ (by rw [HSL.out];exact HLT.out),hq]
    have hq0:=HNE.out _ hRq;have d2:((q.1:Int) != 0)=true:=by simp;omega
    have HRq:=Afj hRq;have HB3:=Afj (HB.out.trans hb3);clear hst hx hq hb3 hRq hq0;go_wp2_with fail
    (try simp only [Exit.inBlock,Exit.then]);refine bodyPost_ret (DX rfl _ _ _) rfl ?_
    exact Kw HRq.out HB3.out
   ·have hR4:DM s.data.toList e'=R:=by rw [←HRES.out,BJ s.data.toList e (by rw [HSL.out];exact HLT.out),hq]
    have hmv:=Ip _ _ _ (by rw [HSL.out];exact HLT.out) hq;have HR4:=Afj hR4;have HMV:=Afj hmv;have HB3:=Afj (HB.out.trans hb3);have HX4:=Afj hx4;clear hst hx hq hb3 hR4 hmv hx4;go_wp2_with fail
    go_roundw
    case rel=>exact ⟨e',HX4.out,HR4.out,HB3.out⟩
    case measure=>
     obtain ⟨own,sv,mv,bv,pv,ov,rows,h4⟩:=HX4.out;have k4:w3.cell? ⟨w1.heap.size+1,2,none⟩=some (.int .i64 (e'.pos:Int)):=(h4.blk.cell 2).trans rfl;rw [k4,K2.out];simp only [Option.getD_some,intOf,Int.toNat_natCast];have:=HMV.out;have:=HLT.out;omega
  ·have d1:decide ((e.pos:Int) < (s.size:Int))=false:=by simp;omega
   have d1':decide (e.pos < s.size)=false:=decide_eq_false hlt;have hend:=Km s.data.toList e (by rw [HSL.out];omega);rw [HRES.out] at hend;have k8:wr.cell? ⟨w1.heap.size+1,8,none⟩=some (.slice oa e.outer.length oc):=(H.out.blk.cell 8).trans rfl;have k4:wr.cell? ⟨w1.heap.size+1,4,none⟩=some (.int .i64 (e.inner.op:Int)):=(H.out.blk.cell 4).trans rfl;cases ho:e.outer with
   | cons v L=>
    rw [ho] at hend k8;have HF:=Afj (show R=.error (8,e.inner.op) from hend);obtain ⟨m,hm⟩:∃ m,m=(v :: L).length:=⟨_,rfl⟩;have d2:decide ((0:Int) < (m:Int))=true:=by rw [hm];simp
    have d3:decide (0 < m)=true:=by rw [hm];simp
    rw [←hm] at k8;clear hm hend ho hlt hG2;go_wp2_with fail
    go_quiet (fail)
    go_wp2_with fail
    (try simp only [Exit.inBlock,Exit.then]);refine bodyPost_ret (DX rfl _ _ _) rfl ?_
    exact Kw HF.out (HB.out.trans (below_drewN (Afv _ _) _))
   | nil=>
    rw [ho] at hend k8;have HF:=Afj (show R=.ok e from hend);have k3:wr.cell? ⟨w1.heap.size+1,3,none⟩=some mv:=(H.out.blk.cell 3).trans rfl;have hi:=H.out.ok.inner;have hps:=H.out.ok.pos;rw [HSL.out] at hps;have hsz:=HS.out;have hbl:(e.inner.brs++[B0 e.inner.pcs]).length≤251:=by rw [Afs];have:=hi.2.2.2.1;simp;omega
    have hW:=fun (w':World) (hb:Below wr.heap.size wr w')=>GJ w.heap.size (w1.heap.size+1) own _ _ _ _ _ _ bv pv _ _ _ e.inner.brs e.inner.pcs w' H.out.lop (H.out.blk.below hb H.out.blk.lt) (H.out.below hb).bn (H.out.below hb).pn (fun hx=>(H.out.inown bv (by simp [allV]) _ hx).2.1 rfl) H.out.pown (fun b hx=>Aft (H.out.ownlt b hx) hb.size) (fun q hq=>(H.out.inown bv (by simp [allV]) q hq).1) (Afr hi.2.2.2.1 (by omega)) (Kv hi.1 hi.2.2.1 (by omega)) (OK (BR hi.2.1 (Kr _ hi.1)) hbl (by omega))
    have HW:=Afj hW;have hpl:=H.out.blk.lt;have HMK:∀ w' w'',Below wr.heap.size wr w'→Touch (w1.heap.size+1) bv w' w''→w''.ownsRow w.heap.size 33 2 mv e.marks.length (marksC e.marks)∧Below w.heap.size w w'':=fun w' w'' hb hT=>by
     have hE:=H.out.below hb;refine ⟨Ab hE.mks (fun b hx=>hT.block b (hE.mks.lt b hx).2 (hE.inown mv (by simp [allV]) b hx).2.1 (fun hy=>?_)),(HB.out.trans (hb.mono HB.out.size)).trans (hE.low hE.bn.lt hT)⟩;have hap:=hE.apart;unfold allV at hap;simp only [List.pairwise_cons] at hap;exact hap.1 bv (by simp) b hx hy
    have HMK2:=Afj HMK;clear hend ho hlt hi hps hbl hW hsz hG2 HMK;go_wp2_with fail
    go_upto_region 10 with fail
    go_region_law (first
     | (refine By rfl _ _ _ rfl 116 _ rfl (by rfl) (enters_of func116 (by kernel_rfl) rfl) (HW.out _ (by first | exact Afv _ _ | exact Agb (Afv _ _))) ?_;rintro x w4 ⟨v4,bv4,rfl,hx4,hB4,hT4,_⟩;refine ⟨_,rfl,?_⟩;have HX4:=Afj hx4;have hq4:w4.cell? ⟨w1.heap.size+1,3,none⟩=some mv:=(hB4.cell 3).trans rfl;have HMM:Hid (w4.ownsRow w.heap.size 33 2 mv e.marks.length (marksC e.marks)∧Below w.heap.size w w4):=Afj (by first | exact HMK2.out _ _ (Afv _ _) hT4 | exact HMK2.out _ _ (Agb (Afv _ _)) hT4);clear hx4 hB4 hT4))
    all_goals go_wp2_with fail
    all_goals ((try simp only [Exit.inBlock,Exit.then]);refine bodyPost_ret (DX rfl _ _ _) rfl ?_)
    all_goals exact Ux (v:=v4) (mv:=mv) HF.out HMM.out.2 (HX4.out.keep (Afq _) (fun b hb _=>⟨hb.1,fun _=>rfl⟩)) HMM.out.1
theorem QR (s:ByteArray) (w:World) (hG:Gl w):Calls prog 98 #[.string s] w fun e w'=>Qq (AU true s.data.toList) w e w':=by
 have hsl:s.data.toList.length=s.size:=by simp
 by_cases hs:s.size≤250
 ·have hp:=TW s.data.toList (by omega);cases hm:AU true s.data.toList with
  | error q=>
   rw [hm] at hp;refine (Kx s w hs hG _ hp (fun q' h=>by injection h with h;subst h;exact I4 hm)).mono ?_;rintro e w' ⟨hb,rfl⟩;exact ⟨hb,rfl⟩
  | ok q=>
   obtain ⟨st,d⟩:=q;rw [hm] at hp;obtain ⟨e0,h1,h2,h3⟩:=hp;refine (Kx s w hs hG _ h1 (fun q' h=>by cases h)).mono ?_;rintro e w' ⟨hb,v,mv,rfl,hn,hmk⟩;rw [h2] at hn;rw [h3] at hmk;exact ⟨hb,v,mv,rfl,hn,hmk⟩
 ·have hm:AU true s.data.toList=.error (3,250):=by unfold AU;rw [if_pos (by omega)]
  rw [hm];exact OL s w (by omega)
end
section
open Go.RowKit
theorem LG {T e:TypeId} {B b:Nat} {p:Value} {bs:List Value} {W W':World} (h:Lib.BuilderAtF T e B b p bs W) (hb:Below W.heap.size W W'):Lib.BuilderAtF T e B b p bs W':=by
 obtain ⟨hB,v,hv,⟨hl,hr⟩,hne⟩:=h;refine ⟨hB,v,by rw [hb.block b (Af6.1 hv).1];exact hv,⟨hl,?_⟩,hne⟩;rcases hr with h | ⟨g,cap,cur,fz,h1,h2,h3,h4⟩
 ·exact .inl h
 ·exact .inr ⟨g,cap,cur,fz,h1,h2,by rw [hb.block g (Af6.1 h3).1];exact h3,h4⟩
theorem Uy {T e:TypeId} {B b:Nat} {bs:List Value} {W W':World} (h:Lib.IsBuilderF T e B b bs W) (hb:Below W.heap.size W W'):Lib.IsBuilderF T e B b bs W':=
 h.elim (fun x=>.inl (LG x hb)) (fun x=>.inr (LG x hb))
structure GP (w:World):Prop where
 c0:w.cell? ⟨3,0,none⟩=some (.int .u8 94)
 c1:w.cell? ⟨3,1,none⟩=some (.int .u8 93)
 lt:3 < w.heap.size
theorem GP.below {w w':World} {B:Nat} (h:GP w) (hb:Below B w w') (hB:3 < B):GP w':=
 ⟨(hb.cell (p:=⟨3,0,none⟩) hB).trans h.c0,(hb.cell (p:=⟨3,1,none⟩) hB).trans h.c1,Aft h.lt hb.size⟩
theorem GP.up {w w':World} (h:GP w) (hb:Below w.heap.size w w'):GP w':=h.below hb h.lt
theorem ID {s:ByteArray} {l:List UInt8} (h:s.data.toList=l):s=txt l:=by rw [←h,Abq]
theorem OM (s:ByteArray) (k:Nat) (d:UInt8) (rx:Bool) (w:World) (hs:s.size≤4000000) (hk:k < s.size) (h92:s[k]=92) :
  Calls prog 108 #[.string s,.int .i64 k,.int .u8 d.toNat,.bool rx] w fun e w'=>e=pcA (Bd d rx 92 (s.data.toList.drop (k+1)) k)∧Below w.heap.size w w':=by
 have W2:IntKind.i64.wrap ((k:Int)+2)=(k:Int)+2:=Afx _ (by omega);have W1:IntKind.i64.wrap ((k:Int)+1)=(k:Int)+1:=Afx _ (by omega);obtain ⟨R,hR⟩:∃ R,Bd d rx 92 (s.data.toList.drop (k+1)) k=R:=⟨_,rfl⟩;rw [hR];have HR:=Afj hR;have H92:=Afj h92;clear hR h92;go_enter func108,ntmps108;by_cases hend:k+1 < s.size
 ·have c1:¬ (s.size:Int) < (k:Int)+2:=by omega
  have c1':(k:Int)+2≤(s.size:Int):=by omega
  have i1:(k:Int)+1 < (s.size:Int):=by omega
  have hd:=Afj (Bm s (k+1) hend);have hl1:=Afj (Cl s k (k+2));have hl2:=Afj (Cl s (k+1) (k+2));have hd0:=Afj (Bm s k hk);obtain ⟨x,hx⟩:∃ x,s[k+1]=x:=⟨_,rfl⟩;have Hx:=Afj hx;have Hpart:=Afj (show R=if x=d then ([x],k+2,0) else if (x == 10 && rx)=true then ([],k+1,2) else ([92,x],k+2,0) by
   rw [←HR.out,hd.out,Hx.out];rfl)
  by_cases hxd:x=d
  ·have q:((s[k+1].toNat:Int) == (d.toNat:Int))=true:=by rw [hx,hxd];simp
   have Hxd:=Afj hxd;clear hx hxd
   go_wp2
   go_ret3
   refine ⟨?_,Afv _ _⟩;rw [Hpart.out,if_pos Hxd.out];exact Db (ID (by rw [hl2.out,hd.out,Hx.out,show k+2 - (k+1)=1 by omega];rfl)) rfl rfl
  ·have q:((s[k+1].toNat:Int) == (d.toNat:Int))=false:=beq_eq_false_iff_ne.2 fun h=>hxd (by rw [←hx];exact UInt8.toNat_inj.1 (by omega))
   have Hxd:=Afj hxd;clear hxd;by_cases h10:x=10
   ·have q10:((s[k+1].toNat:Int) == 10)=true:=by rw [hx,h10];rfl
    have H10:=Afj h10;clear hx h10;cases rx
    ·go_wp2
     go_ret3
     refine ⟨?_,Afv _ _⟩;rw [Hpart.out,if_neg Hxd.out,if_neg (by simp)];exact Db (ID (by rw [hl1.out,hd0.out,hd.out,Hx.out,show k+2 - k=2 by omega,H92.out];rfl)) rfl rfl
    ·go_wp2
     go_ret3
     refine ⟨?_,Afv _ _⟩;rw [Hpart.out,if_neg Hxd.out,if_pos (by rw [H10.out];rfl)];rfl
   ·have q10:((s[k+1].toNat:Int) == 10)=false:=beq_eq_false_iff_ne.2 fun h=>h10 (by rw [←hx];exact UInt8.toNat_inj.1 (by show s[k+1].toNat=10;omega))
    have H10:=Afj h10;clear hx h10
    go_wp2
    go_ret3
    refine ⟨?_,Afv _ _⟩;rw [Hpart.out,if_neg Hxd.out,if_neg (by simp [H10.out])];exact Db (ID (by rw [hl1.out,hd0.out,hd.out,Hx.out,show k+2 - k=2 by omega,H92.out];rfl)) rfl rfl
 ·have c1:(s.size:Int) < (k:Int)+2:=by omega
  have hd:=Afj (Bs s (k+1) (by omega));have hse:(s.size:Int)=((k+1:Nat):Int):=by omega
  have Hse:=Afj hse;clear hse hend
  go_wp2
  go_ret3
  refine ⟨?_,Afv _ _⟩;rw [←HR.out,hd.out];exact Db rfl Hse.out rfl
def FX (t:List UInt8) (i:Nat):Nat:=if i=0 then 0 else if i=1 then DG 94 t else BD t
theorem ZY (t:List UInt8) (i:Nat):FX t i≤t.length:=by
 unfold FX;split
 ·omega
 ·split
  ·exact GY 94 t
  ·exact G5 t
theorem ON {c:UInt8} {s:ByteArray} {p:Nat} (h:s.size≤p):DG c (s.data.toList.drop p)=0:=by rw [Bs s p h];rfl
theorem LH {c:UInt8} {s:ByteArray} {p:Nat} (h:p < s.size) (hc:s[p]=c):DG c (s.data.toList.drop p)=1:=by rw [Bm s p h];simp [DG,hc]
theorem LI {c:UInt8} {s:ByteArray} {p:Nat} (h:p < s.size) (hc:¬ s[p]=c):DG c (s.data.toList.drop p)=0:=by rw [Bm s p h];simp [DG,hc]
theorem LJ (t:List UInt8) (i:Nat) (c:UInt8) (h:(i=0∧c=94)∨(i=1∧c=93)):FX t (i+1)=FX t i+DG c (t.drop (FX t i)):=by
 rcases h with ⟨rfl,rfl⟩ | ⟨rfl,rfl⟩
 ·simp [FX]
 ·simp [FX,BD]
theorem Nh (a b:Int) (w:World):(Instr.index 221 (.agg #[.int .u8 a,.int .u8 b]) (.int .i64 0)).run prog w=.ok (.int .u8 a) w:=by kernel_rfl
theorem Ni (a b:Int) (w:World):(Instr.index 221 (.agg #[.int .u8 a,.int .u8 b]) (.int .i64 1)).run prog w=.ok (.int .u8 b) w:=by kernel_rfl
theorem Ky (s:ByteArray) (k:Nat) (w:World) (hs:s.size≤4000000) (hk:k < s.size) (hG:GP w) :
  Calls prog 109 #[.string s,.int .i64 k] w fun e w'=>e=.returned (.int .i64 ((k+Ch (s.data.toList.drop (k+1)):Nat):Int))∧Below w.heap.size w w':=by
 have W1:IntKind.i64.wrap ((k:Int)+1)=(k:Int)+1:=Afx _ (by omega);have g0:=hG.c0;have g1:=hG.c1;have htl:(s.data.toList.drop (k+1)).length=s.size - (k+1):=by rw [Af3,←Ae]
 obtain ⟨R,hR⟩:∃ R,k+Ch (s.data.toList.drop (k+1))=R:=⟨_,rfl⟩;rw [hR];have HR:=Afj hR;clear hR;go_enter func109,ntmps109
 go_wp2
 go_loopg [1,6,11] 2 (fun g a _ j wx=>∃ i:Nat,i+g=2∧j=.int .i64 i∧a=.int .i64 ((k+1+FX (s.data.toList.drop (k+1)) i:Nat):Int)∧wx=w)
 case atStart=>exact ⟨0,by omega,rfl,by simp [FX],rfl⟩
 case round=>
  obtain ⟨i,hig,rfl,rfl,rfl⟩:=hrel;have hah:=ZY (s.data.toList.drop (k+1)) i;obtain ⟨p,hp⟩:∃ p,k+1+FX (s.data.toList.drop (k+1)) i=p:=⟨_,rfl⟩;rw [hp];have hps:p≤s.size:=by omega
  cases gk with
  | zero=>
   obtain rfl:i=2:=by omega
   have hI:=FD (s.extract p s.size) 93 wr;rw [Ci,Ge] at hI;rw [show (((93:UInt8).toNat:Nat):Int)=93 from rfl] at hI;have hR2:R=k+(1+BD (s.data.toList.drop (k+1))+min (AK (fun b=>!(b == 93)) (s.data.toList.drop p)+1) (s.data.toList.drop p).length):=by
    rw [←HR.out,Ch,List.drop_drop,←hp];rfl
   rw [show FX (s.data.toList.drop (k+1)) 2=BD (s.data.toList.drop (k+1)) from rfl] at hp;have hle:=B8 (fun b=>!(b == 93)) (s.data.toList.drop p);have hlen:(s.data.toList.drop p).length=s.size - p:=by rw [Af3,←Ae]
   rw [hlen] at hI hR2 hle;generalize AK (fun b=>!(b == 93)) (s.data.toList.drop p)=m at hI hR2 hle;have hps':(p:Int)≤(s.size:Int):=by omega
   clear hlen hah;by_cases hm:m < s.size - p
   ·rw [if_pos hm] at hI;have h0:(0:Int)≤(m:Int):=by omega
    have Wa:IntKind.i64.wrap ((p:Int)+(m:Int))=(p:Int)+(m:Int):=Afx _ (by omega);have Wb:IntKind.i64.wrap ((p:Int)+(m:Int)+1)=(p:Int)+(m:Int)+1:=Afx _ (by omega);have hRi:(R:Int)=(p:Int)+(m:Int)+1:=by omega
    have HRi:=Afj hRi;clear hRi hR2 hp;go_wp2_with (go_at_call 110;refine hI.mono ?_;rintro e w1 ⟨rfl,rfl⟩)
    go_ret;exact ⟨by rw [HRi.out];rfl,Afv _ _⟩
   ·rw [if_neg hm] at hI;have hRi:(R:Int)=(s.size:Int):=by omega
    have HRi:=Afj hRi;clear hRi hR2 hp;go_wp2_with (go_at_call 110;refine hI.mono ?_;rintro e w1 ⟨rfl,rfl⟩)
    go_ret;exact ⟨by rw [HRi.out];rfl,Afv _ _⟩
  | succ g=>
   have e0:=fun w=>Nh 94 93 w
   have e1:=fun w=>Ni 94 93 w
   rcases (by omega:i=0∨i=1) with rfl | rfl
   ·obtain rfl:g=1:=by omega
    have hnx:FX (s.data.toList.drop (k+1)) 1=FX (s.data.toList.drop (k+1)) 0+DG 94 ((s.data.toList.drop (k+1)).drop (FX (s.data.toList.drop (k+1)) 0)):=LJ _ 0 94 (by simp);rw [List.drop_drop,hp] at hnx;have Hnx:=Afj hnx;have Hp:=Afj hp;clear hnx hp hah;by_cases hlt:p < s.size
    ·have hlti:(p:Int) < (s.size:Int):=by omega
     by_cases hx:s[p]=94
     ·have q:((s[p].toNat:Int) == 94)=true:=by rw [hx];rfl
      have Ho:=Afj (LH (c:=94) hlt hx);have W3:IntKind.i64.wrap ((p:Int)+1)=(p:Int)+1:=Afx _ (by omega);clear hx
      go_wp2
      go_roundg 1
      case measure=>omega
      case rel=>exact ⟨1,by omega,rfl,congrArg (Value.int .i64) (by have h1:=Hnx.out;rw [Ho.out] at h1;have h2:=Hp.out;omega),rfl⟩
     ·have q:((s[p].toNat:Int) == 94)=false:=beq_eq_false_iff_ne.2 fun h=>hx (UInt8.toNat_inj.1 (by show s[p].toNat=94;omega))
      have Ho:=Afj (LI (c:=94) hlt hx);clear hx
      go_wp2
      go_roundg 1
      case measure=>omega
      case rel=>exact ⟨1,by omega,rfl,congrArg (Value.int .i64) (by have h1:=Hnx.out;rw [Ho.out] at h1;have h2:=Hp.out;omega),rfl⟩
    ·have hlti:¬ (p:Int) < (s.size:Int):=by omega
     have Ho:=Afj (ON (c:=94) (s:=s) (p:=p) (by omega))
     go_wp2
     go_roundg 1
     case measure=>omega
     case rel=>exact ⟨1,by omega,rfl,congrArg (Value.int .i64) (by have h1:=Hnx.out;rw [Ho.out] at h1;have h2:=Hp.out;omega),rfl⟩
   ·obtain rfl:g=0:=by omega
    have hnx:FX (s.data.toList.drop (k+1)) 2=FX (s.data.toList.drop (k+1)) 1+DG 93 ((s.data.toList.drop (k+1)).drop (FX (s.data.toList.drop (k+1)) 1)):=LJ _ 1 93 (by simp);rw [List.drop_drop,hp] at hnx;have Hnx:=Afj hnx;have Hp:=Afj hp;clear hnx hp hah;by_cases hlt:p < s.size
    ·have hlti:(p:Int) < (s.size:Int):=by omega
     by_cases hx:s[p]=93
     ·have q:((s[p].toNat:Int) == 93)=true:=by rw [hx];rfl
      have Ho:=Afj (LH (c:=93) hlt hx);have W3:IntKind.i64.wrap ((p:Int)+1)=(p:Int)+1:=Afx _ (by omega);clear hx
      go_wp2
      go_roundg 0
      case measure=>omega
      case rel=>exact ⟨2,by omega,rfl,congrArg (Value.int .i64) (by have h1:=Hnx.out;rw [Ho.out] at h1;have h2:=Hp.out;omega),rfl⟩
     ·have q:((s[p].toNat:Int) == 93)=false:=beq_eq_false_iff_ne.2 fun h=>hx (UInt8.toNat_inj.1 (by show s[p].toNat=93;omega))
      have Ho:=Afj (LI (c:=93) hlt hx);clear hx
      go_wp2
      go_roundg 0
      case measure=>omega
      case rel=>exact ⟨2,by omega,rfl,congrArg (Value.int .i64) (by have h1:=Hnx.out;rw [Ho.out] at h1;have h2:=Hp.out;omega),rfl⟩
    ·have hlti:¬ (p:Int) < (s.size:Int):=by omega
     have Ho:=Afj (ON (c:=93) (s:=s) (p:=p) (by omega))
     go_wp2
     go_roundg 0
     case measure=>omega
     case rel=>exact ⟨2,by omega,rfl,congrArg (Value.int .i64) (by have h1:=Hnx.out;rw [Ho.out] at h1;have h2:=Hp.out;omega),rfl⟩
theorem Lb (s:ByteArray) (k:Nat) (d:UInt8) (rx:Bool) (w:World) (hs:s.size≤4000000) (hk:k < s.size) (hG:GP w) :
  Calls prog 92 #[.string s,.int .i64 k,.int .u8 d.toNat,.bool rx] w fun e w'=>e=pcA (Bd d rx s[k] (s.data.toList.drop (k+1)) k)∧Below w.heap.size w w':=by
 have hki:(k:Int) < (s.size:Int):=by omega
 by_cases h92:s[k]=92
 ·have hE:=OM s k d rx w hs hk h92;rw [←h92] at hE;have q:((s[k].toNat:Int) == 92)=true:=by rw [h92];rfl
  clear h92;generalize Bd d rx s[k] (s.data.toList.drop (k+1)) k=R at hE ⊢;go_enter func92,ntmps92;go_wp2_with (go_at_call 108;refine hE.mono ?_;rintro e w1 ⟨rfl,hb⟩)
  go_ret3
  exact ⟨rfl,hb⟩
 ·have q:((s[k].toNat:Int) == 92)=false:=beq_eq_false_iff_ne.2 fun h=>h92 (UInt8.toNat_inj.1 (by show s[k].toNat=92;omega))
  have hB:=Ky s k w hs hk hG;have hcc:∀ m,(if (rx && s[k] == 91)=true then Ch (s.data.toList.drop (k+1)) else 1)=m→1≤m∧k+m≤s.size→
    ∀ W,Calls prog 110 #[.string (s.extract k (k+m)),.int .u8 10] W fun e w'=>e=.returned (.int .i64 (if AK (fun b=>!(b == 10)) ((s[k] :: s.data.toList.drop (k+1)).take m) < m then (AK (fun b=>!(b == 10)) ((s[k] :: s.data.toList.drop (k+1)).take m):Int) else -1))∧w'=W:=fun m _ hm W=>by
   have h:=FD (s.extract k (k+m)) 10 W;rw [Cl,Ge,show k+m - k=m by omega,Bm s k hk] at h;rw [show (((s[k] :: s.data.toList.drop (k+1)).take m).length)=m by rw [List.length_take,List.length_cons,Af3,←Ae];omega] at h;exact h
  have htx:∀ m,(s.extract k (k+m)).data.toList=(s[k] :: s.data.toList.drop (k+1)).take m:=fun m=>by rw [Cl,show k+m - k=m by omega,Bm s k hk]
  have hbl:=J9 (s.data.toList.drop (k+1));have hbp:=Lj (s.data.toList.drop (k+1));rw [Af3,←Ae] at hbl;have Htx:=Afj htx;have Hcc:=Afj hcc;clear htx hcc;obtain ⟨R,hR⟩:∃ R,Bd d rx s[k] (s.data.toList.drop (k+1)) k=R:=⟨_,rfl⟩;rw [hR];have HR:=Afj (show R=(let m:=if (rx && s[k] == 91)=true then Ch (s.data.toList.drop (k+1)) else 1
   let i:=AK (fun b=>!(b == 10)) ((s[k] :: s.data.toList.drop (k+1)).take m)
   if i < m then ([],k+i,2) else ((s[k] :: s.data.toList.drop (k+1)).take m,k+m,0)) by rw [←hR];unfold Bd;rw [if_neg h92])
  clear hR h92;have Wk:IntKind.i64.wrap ((k:Int)+1)=(k:Int)+1:=Afx _ (by omega);have tail:∀ m,(if (rx && s[k] == 91)=true then Ch (s.data.toList.drop (k+1)) else 1)=m→1≤m∧k+m≤s.size→
    ∃ i:Nat,i≤m∧(∀ W,Calls prog 110 #[.string (s.extract k (k+m)),.int .u8 10] W fun e w'=>e=.returned (.int .i64 (if i < m then (i:Int) else -1))∧w'=W)∧
     Hid (R=if i < m then ([],k+i,2) else ((s[k] :: s.data.toList.drop (k+1)).take m,k+m,0)):=fun m hm1 hm2=>by
   refine ⟨AK (fun b=>!(b == 10)) ((s[k] :: s.data.toList.drop (k+1)).take m),?_,Hcc.out m hm1 hm2,Afj (by rw [HR.out];simp only [hm1])⟩;have:=B8 (fun b=>!(b == 10)) ((s[k] :: s.data.toList.drop (k+1)).take m);have h2:=List.length_take_le m (s[k] :: s.data.toList.drop (k+1));omega
  clear HR Hcc;by_cases h91:(rx && s[k] == 91)=true
  ·obtain ⟨i,hi,hI,HR⟩:=tail _ (if_pos h91) (by omega);clear tail;simp only [Af9] at h91;obtain ⟨rfl,h91⟩:=h91;have q91:((s[k].toNat:Int) == 91)=true:=by rw [eq_of_beq h91];rfl
   clear h91;generalize Ch (s.data.toList.drop (k+1))=m at *;have hm1:(k:Int)≤((k+m:Nat):Int):=by omega
   have hm2:((k+m:Nat):Int)≤(s.size:Int):=by omega
   obtain ⟨E,hE⟩:∃ E,k+m=E:=⟨_,rfl⟩;rw [hE] at hB hI hm1 hm2 HR;have hkE:k≤E:=by omega
   go_enter func92,ntmps92;by_cases him:i < m
   ·rw [if_pos him] at hI;have h0:(0:Int)≤(i:Int):=by omega
    have Wi:IntKind.i64.wrap ((k:Int)+(i:Int))=(k:Int)+(i:Int):=Afx _ (by omega);have HRi:=Afj (show R=([],k+i,2) by rw [HR.out,if_pos him]);clear HR him hE;go_wp2_with (first
     | (go_at_call 109;refine hB.mono ?_;rintro e w1 ⟨rfl,hb⟩)
     | (go_at_call 110;refine (hI _).mono ?_;rintro e w2 ⟨rfl,rfl⟩))
    go_ret3
    refine ⟨?_,hb⟩;rw [HRi.out];exact Db rfl (by show (k:Int)+(i:Int)=((k+i:Nat):Int);omega) rfl
   ·rw [if_neg him] at hI;have HRi:=Afj (show R=((s[k] :: s.data.toList.drop (k+1)).take m,E,0) by rw [HR.out,if_neg him]);have HE:=Afj hE;clear HR him hE;go_wp2_with (first
     | (go_at_call 109;refine hB.mono ?_;rintro e w1 ⟨rfl,hb⟩)
     | (go_at_call 110;refine (hI _).mono ?_;rintro e w2 ⟨rfl,rfl⟩))
    go_ret3
    refine ⟨?_,hb⟩;rw [HRi.out];exact Db (ID (by rw [←HE.out];exact Htx.out m)) rfl rfl
  ·obtain ⟨i,hi,hI,HR⟩:=tail _ (if_neg h91) (by omega);clear tail hB hbl hbp hG;have q91:rx=true→((s[k].toNat:Int) == 91)=false:=fun hrx=>by
    subst hrx;exact beq_eq_false_iff_ne.2 fun h=>h91 (by
     have:s[k]=91:=UInt8.toNat_inj.1 (by show s[k].toNat=91;omega);rw [this];rfl)
   clear h91;obtain ⟨E,hE⟩:∃ E,k+1=E:=⟨_,rfl⟩;rw [hE] at hI HR;have hEi:((k:Int)+1)=(E:Int):=by omega
   rw [hEi] at Wk;have Wk':IntKind.i64.wrap ((k:Int)+1)=(E:Int):=by rw [hEi];exact Wk
   have hm1:(k:Int)≤(E:Int):=by omega
   have hm2:(E:Int)≤(s.size:Int):=by omega
   have hkE:k≤E:=by omega
   have HE:=Afj hE;clear hE hEi Wk;by_cases him:i < 1
   ·rw [if_pos him] at hI;have h0:(0:Int)≤(i:Int):=by omega
    have Wi:IntKind.i64.wrap ((k:Int)+(i:Int))=(k:Int)+(i:Int):=Afx _ (by omega);have HRi:=Afj (show R=([],k+i,2) by rw [HR.out,if_pos him]);clear HR him;go_enter func92,ntmps92;cases rx
    ·go_wp2_with (go_at_call 110;refine (hI _).mono ?_;rintro e w2 ⟨rfl,rfl⟩)
     go_ret3
     refine ⟨?_,Afv _ _⟩;rw [HRi.out];exact Db rfl (by show (k:Int)+(i:Int)=((k+i:Nat):Int);omega) rfl
    ·have q91':=q91 rfl;clear q91;go_wp2_with (go_at_call 110;refine (hI _).mono ?_;rintro e w2 ⟨rfl,rfl⟩)
     go_ret3
     refine ⟨?_,Afv _ _⟩;rw [HRi.out];exact Db rfl (by show (k:Int)+(i:Int)=((k+i:Nat):Int);omega) rfl
   ·rw [if_neg him] at hI;have HRi:=Afj (show R=((s[k] :: s.data.toList.drop (k+1)).take 1,E,0) by rw [HR.out,if_neg him];rfl);clear HR him;go_enter func92,ntmps92;cases rx
    ·go_wp2_with (go_at_call 110;refine (hI _).mono ?_;rintro e w2 ⟨rfl,rfl⟩)
     go_ret3
     refine ⟨?_,Afv _ _⟩;rw [HRi.out];exact Db (ID (by rw [←HE.out];exact Htx.out 1)) rfl rfl
    ·have q91':=q91 rfl;clear q91;go_wp2_with (go_at_call 110;refine (hI _).mono ?_;rintro e w2 ⟨rfl,rfl⟩)
     go_ret3
     refine ⟨?_,Afv _ _⟩;rw [HRi.out];exact Db (ID (by rw [←HE.out];exact Htx.out 1)) rfl rfl
theorem FY (s:ByteArray) (k:Nat) (d:UInt8) (rx:Bool) (w:World) (hs:s.size≤4000000) (hk:k≤s.size) (hG:GP w) :
  Calls prog 74 #[.string s,.int .i64 k,.int .u8 d.toNat,.bool rx] w fun e w'=>e=pcA (Cq d rx s.data.toList (s.size+1) k [])∧Below w.heap.size w w':=by
 have hP:=ET s k w hk;obtain ⟨R,hR⟩:∃ R,Cq d rx s.data.toList (s.size+1) k []=R:=⟨_,rfl⟩;rw [hR];have HR:=Afj hR;clear hR;go_enter func74,ntmps74;go_wp2_with (go_at_call 36;refine hP.mono ?_;rintro e w' ⟨rfl,rfl⟩)
 clear hP;go_loopw [1,12,13,14] (fun i _ _ _ wr=>∃ (p n:Nat) (acc:List UInt8),p≤s.size∧s.size < p+n∧i=.int .i64 p∧Lib.IsBuilderF 166 5 w'.heap.size w'.heap.size (Lib.byteCells acc) wr∧Below w'.heap.size w' wr∧acc.length≤p∧Cq d rx s.data.toList n p acc=R) (fun i _ _ _ _=>s.size - (intOf i).toNat)
 case atStart=>exact ⟨k,s.size+1,[],hk,by omega,rfl,Lib.IsBuilderF.of (Lib.fresh_isBuilder 166 5 w'),(Afv _ w').alloc (Afq _) _,by simp,HR.out⟩
 case round=>
  obtain ⟨p,n,acc,hp,hn,rfl,hI,hbw,hal,hacc⟩:=hrel;obtain ⟨n,rfl⟩:∃ m,n=m+1:=⟨n - 1,by omega⟩;have HA:=Afj hacc;clear hacc;have hsz:=hbw.size;by_cases hlt:p < s.size
  ·have hlti:(p:Int) < (s.size:Int):=by omega
   have Hd:=Afj (Bm s p hlt);by_cases hc:s[p]=d
   ·have q:((s[p].toNat:Int) == (d.toNat:Int))=true:=by rw [hc];simp
    have Hc:=Afj hc;clear hc;have Wp:IntKind.i64.wrap ((p:Int)+1)=(p:Int)+1:=Afx _ (by omega);have hS:=CE w'.heap.size w'.heap.size acc wr hI hsz;go_wp2_with (go_at_call 86;refine hS.mono ?_;rintro e W2 ⟨rfl,_,b2,_⟩)
    go_ret3
    refine ⟨?_,hbw.trans b2⟩;rw [←HA.out,D1 (t:=s.data.toList.drop (p+1)) (by rw [Hd.out,Hc.out])];rfl
   ·have q:((s[p].toNat:Int) == (d.toNat:Int))=false:=beq_eq_false_iff_ne.2 fun h=>hc (UInt8.toNat_inj.1 (by omega))
    have hPP:=Lb s p d rx wr hs hlt (hG.below hbw hG.lt);obtain ⟨x,e,er,hx⟩:∃ x e er,Bd d rx s[p] (s.data.toList.drop (p+1)) p=(x,e,er):=⟨_,_,_,rfl⟩;rw [hx] at hPP;have hxs:=C7 x;by_cases her:er=0
    ·subst her;obtain ⟨h1,h2,h3⟩:=ER hx;rw [Af3,←Ae] at h2;have Hn:=Afj (CH (n:=n) (acc:=acc) (L:=s.data.toList) (p:=p) Hd.out hc hx);have hlen:(Lib.byteCells acc).length+(txt x).size≤140737488355328:=by rw [Lib.byteCells_length];omega
     clear hx hc;go_wp2_with (first
      | (go_at_call 92;refine hPP.mono ?_;rintro e w1 ⟨rfl,b1⟩)
      | (go_at_call 93;refine (KP w'.heap.size w'.heap.size _ _ _ (Uy hI b1) hlen (Afr hsz b1.size)).mono ?_;rintro e w2 ⟨rfl,h4,b2,_⟩))
     go_roundw
     case rel=>
      refine ⟨e,n,acc++x,by omega,by omega,rfl,?_,(hbw.trans (b1.mono hsz)).trans b2,by simp;omega,by rw [←Hn.out];exact HA.out⟩;rw [Lib.byteCells_append];exact Or.inr h4
     case measure=>simp [intOf];omega
    ·obtain ⟨rfl,h2,h3⟩:=G6 hx her;have qe:(((er:Nat):Int) != 0)=true:=bne_iff_ne.2 (by omega);have Hn:=Afj (DY (n:=n) (acc:=acc) (L:=s.data.toList) (p:=p) Hd.out hc her hx);clear hx hc h3 her;go_wp2_with (first
      | (go_at_call 92;refine hPP.mono ?_;rintro e w1 ⟨rfl,b1⟩))
     go_ret3
     refine ⟨?_,hbw.trans (b1.mono hsz)⟩;rw [←HA.out,Hn.out];rfl
  ·have hlti:¬ (p:Int) < (s.size:Int):=by omega
   have Hd:=Afj (Bs s p (by omega))
   go_wp2
   go_ret3
   refine ⟨?_,hbw⟩;rw [←HA.out,D0 Hd.out];exact Db rfl rfl rfl
end
section
open Go Go.RowKit
def Uz (w:World) (r:BO (List UInt8 × Nd)) (e:Ending) (w':World):Prop:=Below w.heap.size w w'∧match r with
 | .error q=>e=.returned (.tuple #[.agg #[.string ⟨#[]⟩,.nilIface,.slice none 0 0],.int .i64 (q.2:Int),.int .i64 (q.1:Int)])
 | .ok q=>∃ tv mv,e=.returned (.tuple #[.agg #[.string (txt q.1.1),tv,mv],.int .i64 (q.2.2:Int),.int .i64 0])∧NdX (fun b=>w.heap.size≤b∧mv.ownBlock≠some b) w' q.1.2 tv∧w'.ownsRow w.heap.size 33 2 mv q.2.1.length (wmC q.2.1)
theorem U0 {ext:Bool} {L:List UInt8} {b:Nat} {d:UInt8} {t:List UInt8} {p e:Nat} (hb:b≤L.length) (h:Cq d true L (L.length+1) b []=(t,p,e)) :
  An ext L b d=if e=0 then (if t=[] then .error (2,b) else match AU ext t with | .error q=>.error (q.1,b) | .ok q=>.ok ((t,q.2),BH b (q.1.marks.map NA),p)) else .error (e,p):=by
 unfold An Aj;rw [D9 _ _ _ _ hb,h];rfl
theorem Xm (ext:Bool) (s:ByteArray) (w:World) (hG:Gl w):Calls prog (if ext then 98 else 97) #[.string s] w fun e w'=>Qq (AU ext s.data.toList) w e w':=by
 cases ext
 ·exact QC s w hG
 ·exact QR s w hG
theorem Kz (ext:Bool) (s:ByteArray) (b:Nat) (d:UInt8) (w:World) (hs:s.size≤4000000) (hb:b≤s.size) (hG:Gl w) (hP:GP w) :
  Calls prog 82 #[.string s,.int .i64 (b:Int),.int .u8 d.toNat,.bool ext] w (Uz w (An ext s.data.toList b d)):=by
 have hA:=(Afv w.heap.size w).alloc (Afq _) (.cells #[.string ⟨#[]⟩,.nilIface,.slice none 0 0] 159);have hR0:=Blk.new w #[.string ⟨#[]⟩,.nilIface,.slice none 0 0] 159 w.heap.size rfl;obtain ⟨W,hW⟩:∃ W,w.alloc (.cells #[.string ⟨#[]⟩,.nilIface,.slice none 0 0] 159)=W:=⟨_,rfl⟩;rw [hW] at hA hR0;have hbt:=FY s b d true W hs hb (hP.up hA);obtain ⟨⟨t,p,e0⟩,hR⟩:∃ R,Cq d true s.data.toList (s.size+1) b []=R:=⟨_,rfl⟩;rw [hR] at hbt;rw [U0 (ext:=ext) (t:=t) (p:=p) (e:=e0) (by rw [←Ae];exact hb) (by rw [←Ae];exact hR)];have HA:=Afj hA;have HR0:=Afj hR0;have HG:=Afj (hG.up hA);clear hR hA hR0 hG hP;obtain ⟨z0,z1,z2,v0,v1,v2,hz⟩:=Gu HR0.out;have hbt:Calls prog 74 #[.string s,.int .i64 b,.int .u8 d.toNat,.bool true] W fun e w'=>e=.returned (.tuple #[.string (txt t),.int .i64 (p:Int),.int .i64 (e0:Int)])∧Below W.heap.size W w':=hbt
 obtain ⟨T,hT⟩:∃ T,txt t=T:=⟨_,rfl⟩;have hTl:T.data.toList=t:=by rw [←hT,Ef]
 have hT1:T.toList.isEmpty=t.isEmpty:=by rw [ByteArray.toList_eq,hTl]
 rw [hT] at hbt;have HT:=Afj hTl;have HTx:=Afj hT;clear hTl hT;by_cases he:e0=0
 ·subst he;rw [if_pos rfl];by_cases ht:t=[]
  ·rw [if_pos ht];have c1:T.toList.isEmpty=true:=by rw [hT1,ht];rfl
   have c2:T.toList=[]:=List.isEmpty_iff.1 c1;clear ht hT1;go_enter func82,ntmps82;go_wp2_with (go_at_call 74;refine hbt.mono ?_;clear hbt;rintro e w1 ⟨rfl,b1⟩;have B1:=Afj (HA.out.trans (b1.mono HA.out.size));have K1:=Afj (HR0.out.below b1 HR0.out.lt);clear b1 z0 z1 z2 v0 v1 v2 hz;obtain ⟨z0,z1,z2,v0,v1,v2,hz⟩:=Gu K1.out)
   first
    | (with_reducible refine Sx B1.out K1.out (Afq _) ?_;intro w9 hB9 hk9 hs9 hz9)
    | (have hB9:=B1.out;have hk9:=K1.out;generalize w1=w9 at *)
   clear z0 z1 z2 v0 v1 v2 hz;obtain ⟨z0,z1,z2,_⟩:=Gu hk9;refine bodyPost_ret (v:=.tuple #[.agg #[.string ⟨#[]⟩,.nilIface,.slice none 0 0],.int .i64 (b:Int),.int .i64 2]) (by simp [results,results82,go_sem,z0,z1,z2]) rfl ?_;exact ⟨hB9,rfl⟩
  ·rw [if_neg ht];have c1:T.toList.isEmpty=false:=by rw [hT1];cases t <;> simp_all
   have c2:¬ T.toList=[]:=fun h=>by rw [h] at c1;cases c1
   clear ht hT1;have hpa:=fun w1 (hb1:Below W.heap.size W w1)=>Xm ext T w1 (HG.out.up hb1)
   rw [HT.out] at hpa;have hwe:∀ q,AU ext t=.error q→q.1≠0:=fun q h=>I4 h
   have hwm:∀ q,AU ext t=.ok q→q.1.marks.length≤250:=fun q h=>by
    have:=Ly (st:=q.1) (d:=q.2) h;unfold AU at h;split at h
    ·cases h
    ·omega
   obtain ⟨R,hRp⟩:∃ R,AU ext t=R:=⟨_,rfl⟩;rw [hRp] at hpa hwe hwm ⊢;clear hRp;cases R with
   | error q=>
    obtain ⟨n,k⟩:=q;have hn:n≠0:=hwe _ rfl;have hnn:((n:Int) != 0)=true:=by simp;omega
    clear hwe hwm hn;cases ext
    all_goals
     simp only [Af2,if_false,if_true] at hpa;go_enter func82,ntmps82;go_wp2_with (first
      | (go_at_call 74;refine hbt.mono ?_;clear hbt;rintro e w1 ⟨rfl,b1⟩;have hp1:=hpa w1 b1;have B1:=Afj (HA.out.trans (b1.mono HA.out.size));have K1:=Afj (HR0.out.below b1 HR0.out.lt);clear b1 hpa z0 z1 z2 v0 v1 v2 hz;obtain ⟨z0,z1,z2,v0,v1,v2,hz⟩:=Gu K1.out)
      | (go_at_call 97;refine hp1.mono ?_;clear hp1;rintro e w2 ⟨b2,rfl⟩;have B2:=Afj (B1.out.trans (b2.mono B1.out.size));have K2:=Afj (K1.out.below b2 K1.out.lt);clear b2 z0 z1 z2 v0 v1 v2 hz;obtain ⟨z0,z1,z2,v0,v1,v2,hz⟩:=Gu K2.out)
      | (go_at_call 98;refine hp1.mono ?_;clear hp1;rintro e w2 ⟨b2,rfl⟩;have B2:=Afj (B1.out.trans (b2.mono B1.out.size));have K2:=Afj (K1.out.below b2 K1.out.lt);clear b2 z0 z1 z2 v0 v1 v2 hz;obtain ⟨z0,z1,z2,v0,v1,v2,hz⟩:=Gu K2.out))
     first
      | (with_reducible refine Sx B2.out K2.out (Afq _) ?_;intro w9 hB9 hk9 hs9 hz9)
      | (have hB9:=B2.out;have hk9:=K2.out;generalize w2=w9 at *)
     clear z0 z1 z2 v0 v1 v2 hz;obtain ⟨z0,z1,z2,_⟩:=Gu hk9;refine bodyPost_ret (v:=.tuple #[.agg #[.string ⟨#[]⟩,.nilIface,.slice none 0 0],.int .i64 (b:Int),.int .i64 (n:Int)]) (by simp [results,results82,go_sem,z0,z1,z2]) rfl ?_;exact ⟨hB9,rfl⟩
   | ok q=>
    obtain ⟨st,dn⟩:=q;show Calls _ _ _ _ (Uz w (.ok ((t,dn),BH (b:Int) (st.marks.map NA),p)));have hm250:st.marks.length≤250:=hwm _ rfl;obtain ⟨n,hn⟩:∃ n,st.marks.length=n:=⟨_,rfl⟩;have hmn:(st.marks.map NA).length=n:=by simp [hn]
    simp only [Qq,hn,Tz] at hpa;rw [hn] at hm250;have Hmn:=Afj hmn;clear hwe hwm hn hmn;generalize st.marks.map NA=l at hpa Hmn ⊢;have HF:∀ (w':World) (tv:Value) (a':Option Addr) (c':Nat),Below w.heap.size w w'→NdX (fun b=>w.heap.size≤b∧(Value.slice a' n c').ownBlock≠some b) w' dn tv→w'.ownsRow w.heap.size 33 2 (.slice a' n c') n (wmC (BH (b:Int) l))→
      Uz w (.ok ((t,dn),BH (b:Int) l,p)) (.returned (.tuple #[.agg #[.string T,tv,.slice a' n c'],.int .i64 (p:Int),.int .i64 0])) w':=fun w' tv a' c' h1 h2 h3=>by
     refine ⟨h1,tv,.slice a' n c',?_,h2,?_⟩
     ·rw [←HTx.out]
     ·show w'.ownsRow w.heap.size 33 2 _ (BH (b:Int) l).length (wmC (BH (b:Int) l));rw [Ka,Hmn.out];exact h3
    have HFh:=Afj HF;clear HF;cases ext
    all_goals
     simp only [Af2,if_false,if_true] at hpa;go_enter func82,ntmps82;go_upto_region 10 with (first
      | (go_at_call 74;refine hbt.mono ?_;clear hbt;rintro e w1 ⟨rfl,b1⟩;have hp1:=hpa w1 b1;have B1:=Afj (HA.out.trans (b1.mono HA.out.size));have K1:=Afj (HR0.out.below b1 HR0.out.lt);clear b1 hpa z0 z1 z2 v0 v1 v2 hz;obtain ⟨z0,z1,z2,v0,v1,v2,hz⟩:=Gu K1.out)
      | (go_at_call 97;refine hp1.mono ?_;clear hp1;rintro e w2 ⟨b2,tv,mv,rfl,hd,hm⟩)
      | (go_at_call 98;refine hp1.mono ?_;clear hp1;rintro e w2 ⟨b2,tv,mv,rfl,hd,hm⟩))
     obtain ⟨ma,mc,rfl⟩:=AB hm;have B2:=Afj (B1.out.trans (b2.mono B1.out.size));have K2:=Afj (K1.out.below b2 K1.out.lt);have HD2:=Afj (NdX.keep (G:=fun b=>w1.heap.size≤b∧b < w2.heap.size) (Afq _) (fun b hb hl=>⟨⟨hb,hl⟩,fun _=>rfl⟩) hd);have hmv:=Z2 Hmn.out ma mc (b:Int) w1.heap.size w2 hm (by omega);have hsh:=hd.elim fun _ h=>Ay h
     clear b2 hd hm z0 z1 z2 v0 v1 v2 hz;obtain ⟨z0,z1,z2,v0,v1,v2,hz⟩:=Gu K2.out;rcases hsh with ⟨T9,q9,rfl⟩ | rfl
     all_goals
      go_wp2_with (go_at_call 99;refine hmv.mono ?_;clear hmv;rintro e w3 ⟨a3,c3,rfl,b3,ho3⟩;have B3:=Afj (B2.out.trans (b3.mono B2.out.size));have K3:=Afj (K2.out.below b3 K2.out.lt);have HD3:=Afj (NdX.below b3 HD2.out);have HO3:=Afj ho3;have hb3:=Afj b3.size;clear b3 ho3 z0 z1 z2 v0 v1 v2 hz;obtain ⟨z0,z1,z2,v0,v1,v2,hz⟩:=Gu K3.out)
      with_reducible refine Sx B3.out K3.out (Afq _) ?_
      intro w9 hB9 hk9 hs9 hz9;have hne:∀ g,(Value.slice a3 n c3).ownBlock=some g→g≠w.heap.size:=fun g hg e=>by
       have:=AS HO3.out g hg;have:=K2.out.lt;omega
      have hfin:=HFh.out w9 _ a3 c3 hB9 (NdX.keep (G:=fun b=>w.heap.size≤b∧(Value.slice a3 n c3).ownBlock≠some b) (by omega) (fun b hb hl=>⟨⟨Afr B1.out.size hb.1,fun e=>by have:=AS HO3.out b e;have:=hb.2;omega⟩,fun o=>Afy (w:=w3) (a:=⟨b,o,none⟩) (hs9 b (by have:=K1.out.lt;have:=hb.1;omega))⟩) HD3.out) (Ab (BW (Afr B2.out.size (Afq _)) HO3.out) fun g hg=>hs9 g (hne g hg));clear z0 z1 z2 v0 v1 v2 hz;obtain ⟨z0,z1,z2,_⟩:=Gu hk9;refine bodyPost_ret (by simp [results,results82,go_sem,z0,z1,z2]) rfl hfin
 ·rw [if_neg he];have hnn:((e0:Int) != 0)=true:=by simp;omega
  clear he hT1;go_enter func82,ntmps82;go_wp2_with (go_at_call 74;refine hbt.mono ?_;clear hbt;rintro e w1 ⟨rfl,b1⟩;have B1:=Afj (HA.out.trans (b1.mono HA.out.size));have K1:=Afj (HR0.out.below b1 HR0.out.lt);clear b1 z0 z1 z2 v0 v1 v2 hz;obtain ⟨z0,z1,z2,v0,v1,v2,hz⟩:=Gu K1.out)
  first
   | (with_reducible refine Sx B1.out K1.out (Afq _) ?_;intro w9 hB9 hk9 hs9 hz9)
   | (have hB9:=B1.out;have hk9:=K1.out;generalize w1=w9 at *)
  clear z0 z1 z2 v0 v1 v2 hz;obtain ⟨z0,z1,z2,_⟩:=Gu hk9;refine bodyPost_ret (v:=.tuple #[.agg #[.string ⟨#[]⟩,.nilIface,.slice none 0 0],.int .i64 (p:Int),.int .i64 (e0:Int)]) (by simp [results,results82,go_sem,z0,z1,z2]) rfl ?_;exact ⟨hB9,rfl⟩
end
end Go.Proofs.YtnognicabhgmcaaGreatDoor
