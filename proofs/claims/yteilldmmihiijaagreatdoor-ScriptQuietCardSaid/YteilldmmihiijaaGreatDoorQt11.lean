/- Texts. -/
import Derived.Test.YteilldmmihiijaaGreatDoorQt10
import Derived.Test.YteilldmmihiijaaGreatDoorQt09
import Derived.Test.YteilldmmihiijaaGreatDoorQt05
import Derived.Test.YteilldmmihiijaaGreatDoorQt07
import Derived.Test.YteilldmmihiijaaGreatDoorQt02
import Derived.Deep.RegionLaw
import Derived.Deep.DeepCutAuto
import Derived.Deep.LoopGhost
import Derived.Deep.QuietTactic
import Derived.BigQuiet
import Derived.Deep.CutBlock
import Derived.Test.YteilldmmihiijaaGreatDoorQt06
import Derived.Laws.Cover4
set_option linter.unusedSimpArgs false
set_option linter.unusedVariables false
set_option maxHeartbeats 8000000
set_option maxRecDepth 1000000
namespace Go.Proofs.YteilldmmihiijaaGreatDoor
open Go.Lib renaming hid→Ac8
open List renaming getElem_cons_zero→Ada,length_append→Adh,mem_append→Adp
open Nat renaming le_refl→Adf,le_trans→Adg,lt_of_lt_of_le→Adi,le_of_lt→Adj
open Go.RowKit.Below renaming refl→Adk,heap_setCell→Adl
open Go.IntWalk renaming i64_in→Adm
open Go.World renaming cell?_of_block→Adn
section
open Go Go.RowKit
theorem SN:∃ i,Tryz.prog.info? 21=some i∧i.zero=some (.int .i32 0)∧i.size=1∧i.bytes=4:=by
 have h:(Tryz.prog.info? 21).map (fun i=>(i.zero,i.size,i.bytes))=some (some (.int .i32 0),1,4):=by kernel_rfl
 obtain ⟨i,hi,he⟩:=Option.map_eq_some_iff.1 h;injection he with h1 h2;injection h2 with h2 h3;exact ⟨i,hi,h1,h2,h3⟩
def Gk (l:List UInt8):List Value:=l.map fun b=>.int .i32 (b.toNat:Int)
theorem Lt (l:List UInt8):(Gk l).length=l.length:=by simp [Gk]
theorem VE (l:List UInt8) (k:Nat) (h:k < l.length):txt (Ao l)=txt (Ao (l.take k)++(Db l[k]++Ao (l.drop (k+1)))):=by
 conv=>lhs;rw [←List.take_append_drop k l,←List.getElem_cons_drop (by omega:k < l.length)]
 congr 1
 unfold Ao;rw [List.flatMap_append,List.flatMap_cons]
theorem SO (l:List UInt8) (k:Nat) (h:k < l.length):Ao (l.take (k+1))=Ao (l.take k)++Db l[k]:=by
 rw [List.take_succ_eq_append_getElem h,Jt]
theorem SP (l:List UInt8) (k:Nat):(Ao (l.take k)).length≤(Ao l).length:=by
 have h:=congrArg (fun x=>(Ao x).length) (List.take_append_drop k l);simp only [Ao,List.flatMap_append,Adh] at h;unfold Ao;omega
theorem SQ (s:ByteArray) (w:World) (hs:s.size≤250) :
  Calls Tryz.prog 116 #[.string s] w fun e w'=>∃ v,e=.returned v∧w'.ownsRow w.heap.size 21 1 v s.size (Gk s.data.toList)∧Below w.heap.size w w':=by
 obtain ⟨i0,hi,hz0,hz1,hz2⟩:=SN;have hL:s.data.toList.length=s.size:=by simp
 obtain ⟨L,hLe⟩:∃ L,L=s.data.toList:=⟨_,rfl⟩;rw [←hLe] at hL ⊢;have hwd:=VB s w (by omega);rw [←hLe] at hwd;have HL:=Ac8 hL;have HS:=Ac8 hs;clear hL hs hLe;go_enter Tryz.func116,Tryz.ntmps116;go_wp2_with fail
 refine hwd.mono ?_;rintro e w1 ⟨rfl,hW⟩;have hW1:=hW.size;have hB0:Below w.heap.size w (w1.alloc (.stringIter (txt (Ao L)) 0)):=hW.alloc hW1 _;have hI0:(w1.alloc (.stringIter (txt (Ao L)) 0)).heap[w1.heap.size]?=some (.stringIter (txt (Ao L)) 0):=World.iter_heap w1 (txt (Ao L)) 0;have HT:=Ac8 (show (txt (Ao L)).size=(Ao L).length by rw [←CJ]);clear hwd;go_wp2_with fail
 go_loopw [3] (fun sv wr=>∃ (k:Nat) (v:Value),k≤L.length∧v=sv∧wr.ownsRow w.heap.size 21 1 v k (Gk (L.take k))∧v.ownBlock≠some w1.heap.size∧wr.heap[w1.heap.size]?=some (.stringIter (txt (Ao L)) (Ao (L.take k)).length)∧Below w.heap.size w wr) (fun _ wr=>(Ao L).length - wr.iterPos w1.heap.size)
 case atStart=>exact ⟨0,_,Nat.zero_le _,rfl,World.ownsRow_nil _ _ _ _,by simp [Value.ownBlock],hI0,hB0⟩
 case round=>
  obtain ⟨k,v,hk,hv,hown,hne,hit,hbw⟩:=hrel;subst hv;have hsz:w1.heap.size < wr.heap.size:=(Array.getElem?_eq_some_iff.1 hit).1;have hl250:L.length≤250:=by rw [HL.out];exact HS.out
  by_cases hlt:k < L.length
  ·have hw1:=KP L[k]
   have hwt:=SO L k hlt;have hwm:=SP L (k+1);have hpos:(Ao (L.take k)).length < (txt (Ao L)).size:=by
    rw [HT.out];rw [hwt,Adh] at hwm;omega
   have hdec:Utf8.decode (txt (Ao L)) (Ao (L.take k)).length=(L[k].toNat,(Db L[k]).length):=by
    rw [VE L k hlt];exact Nf (L.take k) L[k] (L.drop (k+1))
   have hnx:∀ ty,(Instr.next (.pointer (some ⟨w1.heap.size,0,none⟩)) true ty).run Tryz.prog wr=_:=fun ty=>Lib.run_next_any_at wr w1.heap.size (txt (Ao L)) (Ao (L.take k)).length ty hit hpos
   rw [hdec] at hnx;simp only at hnx;have hne2:(Ao (L.take k)).length+(Db L[k]).length=(Ao (L.take (k+1))).length:=by rw [hwt,Adh]
   rw [hne2] at hnx;have hit2:=Lib.iterAt_heap wr w1.heap.size (txt (Ao L)) _ (Ao (L.take (k+1))).length hit;have hbw2:=Lib.below_iterAt hbw (k:=w1.heap.size) hW1 (txt (Ao L)) (Ao (L.take (k+1))).length;have hsz2:w.heap.size≤(wr.iterAt w1.heap.size (txt (Ao L)) (Ao (L.take (k+1))).length).heap.size:=by rw [Lib.iterAt_size];omega
   have hown2:(wr.iterAt w1.heap.size (txt (Ao L)) (Ao (L.take (k+1))).length).ownsRow w.heap.size 21 1 v k (Gk (L.take k)):=Aa hown (fun g hg=>Lib.iterAt_other _ _ _ _ _ (fun e=>hne (by rw [hg,e])));have Hsn:=Ac8 (show Gk (L.take (k+1))=Gk (L.take k)++[.int .i32 (L[k].toNat:Int)] by unfold Gk;rw [List.take_succ_eq_append_getElem hlt,List.map_append];rfl);have Hm:=Ac8 (show (Ao L).length - (Ao (L.take (k+1))).length < (Ao L).length - (Ao (L.take k)).length by rw [hwt,Adh] at hwm ⊢;omega);have hpre:(wr.iterAt w1.heap.size (txt (Ao L)) (Ao (L.take (k+1))).length).heap.size=wr.heap.size:=Lib.iterAt_size _ _ _ _;have Hit:=Ac8 hit;clear hit hown hbw hwt hwm hw1 hdec hne2 hpos;generalize (L[k].toNat:Int)=z at *;generalize wr.iterAt w1.heap.size (txt (Ao L)) (Ao (L.take (k+1))).length=wq at *;have hnw:∀ j u,[Value.int .i32 z][j]?=some u→(wq.alloc (.cells #[.int .i32 z] 21)).cell? ((⟨wq.heap.size,0,none⟩:Addr).add j)=some u:=by
    intro j u hu
    match j,hu with
    | 0,hu=>simp at hu;subst hu;simp [Addr.add]
   have hbA:=hbw2.alloc hsz2 (.cells #[.int .i32 z] 21);have hitA:(wq.alloc (.cells #[.int .i32 z] 21)).heap[w1.heap.size]?=some (.stringIter (txt (Ao L)) (Ao (L.take (k+1))).length):=(((Adk wq.heap.size wq).alloc (Adf _) _).block w1.heap.size (by omega)).trans hit2;have hownA:=hown2.alloc (.cells #[.int .i32 z] 21);have Hlow:=Ac8 (Bi hown2);have Hpre:=Ac8 hpre;have hsz3:w1.heap.size < wq.heap.size:=by omega
   clear hpre;go_wp2_with (at_builtin;refine Af _ rfl _ _ 204 rfl w.heap.size 21 i0 (.int .i32 0) 1 4 Tryz.underlying204 hi hz0 hz1 hz2 rfl (by decide) _ _ _ rfl hownA (some ⟨wq.heap.size,0,none⟩) 1 1 [.int .i32 z] rfl rfl (fun _=>⟨_,rfl,hnw⟩) (by intro y hy;simp at hy;subst hy;rfl) (by unfold maxLen;omega) (by omega) (by simp;omega) ?_;intro v3 w3 hown3 hgrow hat)
   have hb3:=hbA.grown hgrow hbA.size Hlow.out;have hit3:w3.heap[w1.heap.size]?=some (.stringIter (txt (Ao L)) (Ao (L.take (k+1))).length):=(hgrow.block w1.heap.size (by simp;omega) (fun e=>hne e.symm)).trans hitA;have hne3:v3.ownBlock≠some w1.heap.size:=by
    rcases hat with h | h
    ·rw [h];exact hne
    ·rw [h]
     intro e;injection e with e;simp at e;omega
   go_wp2_with fail
   go_roundw
   case rel=>exact ⟨k+1,v3,by omega,rfl,by rw [Hsn.out];exact hown3,hne3,hit3,hb3⟩
   case measure=>
    simp only [World.iterPos,hit3,Hit.out];exact Hm.out
  ·obtain rfl:k=L.length:=by omega
   rw [List.take_length] at hown hit;have hnp:¬ (Ao L).length < (txt (Ao L)).size:=by rw [HT.out];omega
   have hnx:∀ ty,(Instr.next (.pointer (some ⟨w1.heap.size,0,none⟩)) true ty).run Tryz.prog wr=_:=fun ty=>Lib.run_next_end_at wr w1.heap.size (txt (Ao L)) _ ty hit hnp
   have HO:=Ac8 hown;have HN:=Ac8 HL.out;clear hown;go_wp2_with fail
   go_ret;exact ⟨v,rfl,by rw [←HN.out];exact HO.out,hbw⟩
end
section
open Go Go.RowKit
def ownB (v:Value):List Nat:=match v.ownBlock with | some b=>[b] | none=>[]
theorem AS {v:Value} {b:Nat}:b∈ownB v ↔ v.ownBlock=some b:=by
 unfold ownB;cases h:v.ownBlock with
 | none=>simp
 | some g=>simp [eq_comm]
def NR (lo:Nat) (own:List Nat) (w:World) (l:List Nd) (v:Value):Prop:=
 ∃ us:List Value,us.length=l.length∧w.ownsRow lo 38 1 v l.length us∧(∀ i (h:i < l.length) (h2:i < us.length),NdX (fun b=>lo≤b∧b ∉ own) w l[i] us[i])∧∀ u∈us,u.oneCell'=true
theorem NR.nil (lo:Nat) (own:List Nat) (w:World):NR lo own w [] (.slice none 0 0):=⟨[],rfl,World.ownsRow_nil _ _ _ _,fun i h=>absurd h (by simp),fun u h=>absurd h (by simp)⟩
theorem NR.keep {lo:Nat} {own own':List Nat} {w w':World} {l:List Nd} {v:Value} (h:NR lo own w l v) (hs:w.heap.size≤w'.heap.size) (hv:∀ g,v.ownBlock=some g→w'.heap[g]?=w.heap[g]?)
  (hk:∀ b,b < w.heap.size→b ∉ own→w'.heap[b]?=w.heap[b]?∧b ∉ own'):NR lo own' w' l v:=by
 obtain ⟨us,h1,h2,h3,h4⟩:=h;exact ⟨us,h1,Aa h2 hv,fun i hi hi2=>(h3 i hi hi2).keep hs (fun b hb hlt=>⟨⟨hb.1,(hk b hlt hb.2).2⟩,fun o=>Adn (w:=w) (a:=⟨b,o,none⟩) (hk b hlt hb.2).1⟩),h4⟩
theorem NR.lt {lo:Nat} {own:List Nat} {w:World} {l:List Nd} {v:Value} (h:NR lo own w l v):∀ g,v.ownBlock=some g→lo≤g∧g < w.heap.size:=by
 obtain ⟨us,h1,h2,h3,h4⟩:=h;exact h2.lt
structure Touch (p:Nat) (v:Value) (w w':World):Prop where
 os:w'.os=w.os
 tape:w'.tape=w.tape
 output:w'.output=w.output
 size:w.heap.size≤w'.heap.size
 block:∀ b,b < w.heap.size→b≠p→v.ownBlock≠some b→w'.heap[b]?=w.heap[b]?
theorem Touch.refl (p:Nat) (v:Value) (w:World):Touch p v w w:=⟨rfl,rfl,rfl,Adf _,fun _ _ _ _=>rfl⟩
theorem DM {w w':World} {b:Nat} {cs:Array Value} {T:TypeId} {r:Option Nat} (h:Blk w b cs T) (hg:w.grownBy w' r) (hr:r≠some b):Blk w' b cs T:=by
 have hlt:=h.lt;unfold Blk at h ⊢;rw [hg.block b hlt (fun e=>hr e.symm)];exact h
theorem AZ {w:World} {B:Nat} {e:TypeId} {size n:Nat} {v:Value} {us:List Value} (h:w.ownsRow B e size v n us):∃ a c,v=.slice a n c:=by
 rcases h.2 with ⟨rfl,h0⟩ | ⟨g,cap,cur,rfl,_⟩
 ·exact ⟨none,0,by rw [h0]⟩
 ·exact ⟨_,_,rfl⟩
abbrev EC (c0 c1 c2 c3 c4 c5 bv pv c8 c9 c10:Value):Array Value:=#[c0,c1,c2,c3,c4,c5,bv,pv,c8,c9,c10]
theorem Oa (lo p:Nat) (own:List Nat) (c0 c1 c2 c3 c4 c5 bv pv c8 c9 c10:Value) (l:List Nd) (d:Nd) (u:Value) (w:World) (hlo:lo≤p) (hb:Blk w p (EC c0 c1 c2 c3 c4 c5 bv pv c8 c9 c10) 211) (hr:NR lo own w l pv) (hp:pv.ownBlock≠some p) (hpo:p∈own) (hin:∀ g,pv.ownBlock=some g→g∈own) (hu:NdX (fun b=>lo≤b∧b ∉ own) w d u) (hu1:u.oneCell'=true) (hl:l.length≤1000) :
  Calls Tryz.prog 133 #[.pointer (some ⟨p,4,none⟩),u] w fun e w'=>∃ pv',e=.returned (.tuple #[])∧NR lo (ownB pv'++own) w' (l++[d]) pv'∧Blk w' p (EC c0 c1 c2 c3 c4 c5 bv pv' c8 c9 c10) 211∧Touch p pv w w'∧(pv'.ownBlock=pv.ownBlock∨∃ g,w.heap.size≤g∧pv'.ownBlock=some g):=by
 obtain ⟨i0,hi,hz0,hz1,hz2⟩:=DL;obtain ⟨us,h1,h2,h3,h4⟩:=hr;have hplt:=hb.lt;have k7:w.cell? ⟨p,7,none⟩=some pv:=(hb.cell 7).trans rfl;have hlow:=fun g hg=>(h2.lt g hg)
 have hA:=(Adk w.heap.size w).alloc (Adf _) (.cells #[u] 38);have h2A:=h2.alloc (.cells #[u] 38);have hsh:(∃ T q,u=.iface T q)∨u=.nilIface:=hu.elim fun _ h=>Av h
 have hnw:∀ j x,[u][j]?=some x→(w.alloc (.cells #[u] 38)).cell? ((⟨w.heap.size,0,none⟩:Addr).add j)=some x:=by
  intro j x hx
  match j,hx with
  | 0,hx=>simp at hx;subst hx;simp [Addr.add]
 have Hb:=Ac8 hb;have H3:=Ac8 h3;have H4:=Ac8 h4;have Hu:=Ac8 hu;have Hin:=Ac8 hin;have Hlow:=Ac8 hlow;have H1:=Ac8 h1;clear hb h3 h4 hu hin hlow h1;have hm1:l.length+1≤maxLen:=by unfold maxLen;omega
 have hm2:(l.length+1) * 16≤140737488355328:=by omega
 have hlw:lo≤w.heap.size:=Adg hlo (Adj hplt);rcases hsh with ⟨T1,q1,rfl⟩ | rfl
 all_goals
  go_enter Tryz.func133,Tryz.ntmps133;go_wp2_with (at_builtin;refine Af _ rfl _ _ 84 rfl lo 38 i0 .nilIface 1 16 Tryz.underlying84 hi hz0 hz1 hz2 rfl (by decide) pv l.length us rfl h2A (some ⟨w.heap.size,0,none⟩) 1 1 [_] rfl rfl (fun _=>⟨_,rfl,hnw⟩) (by intro y hy;simp at hy;subst hy;exact hu1) hm1 hm2 (by simp;omega) ?_;intro v6 w6 hown6 hgrow6 hat6;obtain ⟨a6,c6,rfl⟩:=AZ hown6;have hB6:Blk w6 p (EC c0 c1 c2 c3 c4 c5 bv pv c8 c9 c10) 211:=DM (Hb.out.alloc _) hgrow6 hp;have z7:=hB6.frozen 7;have k76:w6.cell? ⟨p,7,none⟩=some pv:=(hB6.cell 7).trans rfl)
  have hB7:=hB6.set 7 (.slice a6 (l.length+1) c6);have hown7:(w6.setCell ⟨p,7,none⟩ (.slice a6 (l.length+1) c6)).ownsRow lo 38 1 (.slice a6 (l.length+1) c6) (l.length+1) (us++[_]):=Aa hown6 (fun g hg=>Adl _ _ _ _ (fun e=>by
   rcases hat6 with h | h
   ·exact hp (by rw [←h,hg,e])
   ·rw [h] at hg
    injection hg with hg;simp at hg;simp only at e;omega))
  have hT:Touch p pv w (w6.setCell ⟨p,7,none⟩ (.slice a6 (l.length+1) c6)):=⟨hgrow6.os,hgrow6.tape,hgrow6.output,Adg hA.size (Adg hgrow6.size (by simp [World.setCell])),fun b hb h1 h2=>by
   rw [Adl _ _ _ _ (fun e=>h1 e),hgrow6.block b (Adi hb hA.size) (fun e=>h2 e.symm),hA.block b hb]⟩
  have hnew:(Value.slice a6 (l.length+1) c6).ownBlock=pv.ownBlock∨∃ g,w.heap.size≤g∧(Value.slice a6 (l.length+1) c6).ownBlock=some g:=by
   rcases hat6 with h | h
   ·exact .inl h
   ·exact .inr ⟨_,by simp,h⟩
  have hk:∀ b,b < w.heap.size→b ∉ own→(w6.setCell ⟨p,7,none⟩ (.slice a6 (l.length+1) c6)).heap[b]?=w.heap[b]?∧b ∉ ownB (.slice a6 (l.length+1) c6)++own:=fun b hb hbo=>by
   have hbp:b≠p:=fun e=>hbo (e▸hpo)
   have hbv:pv.ownBlock≠some b:=fun e=>hbo (Hin.out b e)
   refine ⟨hT.block b hb hbp hbv,?_⟩;rw [Adp,not_or];refine ⟨fun h=>?_,hbo⟩;rw [AS] at h;rcases hnew with h2 | ⟨g,hg,h2⟩
   ·exact hbv (h2.symm.trans h)
   ·rw [h2] at h
    injection h with h;omega
  go_wp2_with fail
  go_end0;refine ⟨.slice a6 (l.length+1) c6,rfl,⟨us++[_],?_,by rw [Adh];exact hown7,?_,?_⟩,hB7,hT,hnew⟩
  ·rw [Adh,Adh,H1.out];rfl
  ·intro i h1 h2
   by_cases hlt:i < l.length
   ·rw [List.getElem_append_left hlt,List.getElem_append_left (by rw [H1.out];exact hlt)]
    exact (H3.out i hlt (by rw [H1.out];exact hlt)).keep hT.size (fun b hb hl=>⟨⟨hb.1,(hk b hl hb.2).2⟩,fun o=>Adn (w:=w) (a:=⟨b,o,none⟩) (hk b hl hb.2).1⟩)
   ·have hi:i=l.length:=by rw [Adh] at h1;simp at h1;omega
    subst hi;rw [List.getElem_append_right (Adf _),List.getElem_append_right (by have:=H1.out;omega)];simp only [H1.out,Nat.sub_self,Ada];exact Hu.out.keep hT.size (fun b hb hl=>⟨⟨hb.1,(hk b hl hb.2).2⟩,fun o=>Adn (w:=w) (a:=⟨b,o,none⟩) (hk b hl hb.2).1⟩)
  ·intro x hx
   rcases Adp.1 hx with h | h
   ·exact H4.out x h
   ·simp at h;subst h;exact hu1
theorem PO {B:Nat} {w w':World} (h:Below B w w') (n:Nat):Below B w (w'.drewN n):=⟨h.os,h.tape,h.output,h.size,h.block⟩
theorem NR.last {lo:Nat} {own:List Nat} {w:World} {l:List Nd} {v:Value} (h:NR lo own w l v) (h0:0 < l.length):∃ g c u,v=.slice (some ⟨g,0,none⟩) l.length c∧l.length≤c∧g < w.heap.size∧w.cell? ⟨g,l.length - 1,none⟩=some u∧NdX (fun b=>lo≤b∧b ∉ own) w (l.getLastD .empty) u:=by
 obtain ⟨us,h1,h2,h3,h4⟩:=h;obtain ⟨a,cap,rfl,hc,_,hx⟩:=FY h2 h1;obtain ⟨g,rfl,_,hg,hcell⟩:=hx h0;refine ⟨g,cap,us[l.length - 1]'(by omega),rfl,hc,hg,?_,?_⟩
 ·have:=hcell (l.length - 1) (by omega)
  rwa [Nat.zero_add] at this
 ·have:=h3 (l.length - 1) (by omega) (by omega)
  rw [List.getLastD_eq_getLast?,List.getLast?_eq_getElem?,List.getElem?_eq_getElem (by omega),Option.getD_some];exact this
theorem Ru {α:Type} (l:List α) (h:0 < l.length):∃ i x,l=i++[x]:=⟨l.dropLast,l.getLast (by intro e;rw [e] at h;simp at h),(List.dropLast_concat_getLast _).symm⟩
theorem NR.put {lo g c:Nat} {own:List Nat} {w:World} {l:List Nd} {d:Nd} {x:Value} (h:NR lo own w l (.slice (some ⟨g,0,none⟩) l.length c)) (h0:0 < l.length) (hg:g∈own) (hx:NdX (fun b=>lo≤b∧b ∉ own) w d x) (hx1:x.oneCell'=true) :
  NR lo own (w.setCell ⟨g,l.length - 1,none⟩ x) (l.dropLast++[d]) (.slice (some ⟨g,0,none⟩) l.length c):=by
 obtain ⟨us,h1,h2,h3,h4⟩:=h;obtain ⟨li,dl,rfl⟩:=Ru l h0;obtain ⟨ui,y,rfl⟩:=Ru us (by omega);have hlen:ui.length=li.length:=by simpa using h1
 have hk:∀ b,b ∉ own→(w.setCell ⟨g,(li++[dl]).length - 1,none⟩ x).heap[b]?=w.heap[b]?:=fun b hb=>Adl _ _ _ _ (fun e=>hb (by rw [e];exact hg))
 have hsz:w.heap.size≤(w.setCell ⟨g,(li++[dl]).length - 1,none⟩ x).heap.size:=by simp [World.setCell]
 have hkeep:∀ d' u,NdX (fun b=>lo≤b∧b ∉ own) w d' u→NdX (fun b=>lo≤b∧b ∉ own) (w.setCell ⟨g,(li++[dl]).length - 1,none⟩ x) d' u:=fun d' u hu=>hu.keep hsz (fun b hb _=>⟨hb,fun o=>Adn (w:=w) (a:=⟨b,o,none⟩) (hk b hb.2)⟩)
 refine ⟨ui++[x],by simp [hlen],?_,?_,?_⟩
 ·rw [List.dropLast_concat]
  obtain ⟨h2a,h2⟩:=h2;refine ⟨by simp [hlen],?_⟩;rcases h2 with ⟨h,_⟩ | ⟨g',cap,cur,he,hlo,hh,hn,hcap,hcs,htk⟩
  ·cases h
  ·injection he with he _ hc
   injection he with he;injection he with he _ _;subst he;subst hc;refine .inr ⟨g,c,cur.setIfInBounds ((li++[dl]).length - 1) x,by simp,hlo,?_,by simpa using hn,hcap,by simpa using hcs,?_⟩
   ·have hb:Blk w g cur 38:=hh
    exact hb.set _ x
   ·rw [Array.toList_setIfInBounds]
    have e1:(li++[d]).length * 1=(li++[dl]).length * 1:=by simp
    rw [e1,List.take_set,htk];have e2:(li++[dl]).length - 1=ui.length:=by simp [hlen]
    rw [e2,List.set_append_right _ _ (Adf _),Nat.sub_self];rfl
 ·intro i hi1 hi2
  simp only [List.dropLast_concat] at hi1 ⊢;by_cases hlt:i < li.length
  ·rw [List.getElem_append_left hlt,List.getElem_append_left (by omega)]
   have:=h3 i (by simp;omega) (by simp;omega);rw [List.getElem_append_left hlt,List.getElem_append_left (by omega)] at this;exact hkeep _ _ this
  ·have hi:i=li.length:=by simp at hi1;omega
   subst hi;rw [List.getElem_append_right (Adf _),List.getElem_append_right (by omega)];simp only [hlen,Nat.sub_self,Ada];exact hkeep _ _ hx
 ·intro z hz
  rcases Adp.1 hz with h | h
  ·exact h4 z (List.mem_append_left _ h)
  ·simp at h;subst h;exact hx1
theorem Ob (l:List Nd) (h:0 < l.length):Ay l=(match l.getLastD .empty with | .start=>true | .fin=>true | _=>false):=by
 unfold Ay;rw [List.getLastD_eq_getLast?,List.getLast?_eq_getElem?,List.getElem?_eq_getElem (by omega),Option.getD_some];cases l[l.length - 1] <;> rfl
theorem Dn (lo p:Nat) (own:List Nat) (c0 c1 c2 c3 c4 c5 bv pv c8 c9 c10:Value) (l:List Nd) (w:World) (hb:Blk w p (EC c0 c1 c2 c3 c4 c5 bv pv c8 c9 c10) 211) (hr:NR lo own w l pv) (hl:l.length≤1000) :
  Calls Tryz.prog 145 #[.pointer (some ⟨p,4,none⟩)] w fun e w'=>e=.returned (.bool (Ay l))∧Below w.heap.size w w':=by
 have k7:w.cell? ⟨p,7,none⟩=some pv:=(hb.cell 7).trans rfl;by_cases h0:l.length=0
 ·have hl0:l=[]:=List.length_eq_zero_iff.1 h0
  subst hl0;obtain ⟨us,h1,h2,_,_⟩:=hr;obtain ⟨a,c,rfl⟩:=AZ h2;clear hb h2;go_enter Tryz.func145,Tryz.ntmps145;go_wp2_with fail
  go_ret;exact ⟨rfl,Adk _ _⟩
 ·have e0:((l.length:Int) == 0)=false:=by rw [beq_eq_false_iff_ne];omega
  have e1:(l.length == 0)=false:=by rw [beq_eq_false_iff_ne];omega
  obtain ⟨g,c,u,rfl,hc,hg,hcell,hn⟩:=hr.last (by omega);have hf:=Ob l (by omega);have Ws:IntKind.i64.wrap ((l.length:Int) - 1)=((l.length - 1:Nat):Int):=by rw [Adm _ (by omega)];omega
  have hlt1:((l.length - 1:Nat):Int) < (l.length:Int):=by omega
  have hlt2:l.length - 1 < l.length:=by omega
  have hge:(0:Int)≤((l.length - 1:Nat):Int):=by omega
  have e2:l.isEmpty=false:=by cases l with | nil=>simp at h0 | cons _ _=>rfl
  generalize l.getLastD .empty=x at *;generalize Ay l=R at *;clear hr h0 hb;rcases Cb hn with ⟨rfl,rfl | rfl⟩ | ⟨s,rfl,rfl⟩ | ⟨l',a,cap,rfl,rfl,_⟩ | ⟨l',a,cap,rfl,rfl,_⟩ | ⟨d',mn,mx,v,rfl,rfl,hv⟩ | ⟨num,d',v,rfl,rfl,hv⟩ | ⟨num,rfl,rfl⟩ | ⟨rfl,rfl⟩ | ⟨rfl,rfl⟩
  all_goals
   simp only at hf;subst hf;clear hn
  all_goals
   go_enter Tryz.func145,Tryz.ntmps145;go_wp2_with fail
   go_quiet (fail)
   go_wp2_with fail
   go_ret;exact ⟨rfl,by first | (with_reducible exact Adk _ _) | (with_reducible exact (Adk _ _).drew) | (with_reducible exact PO (Adk _ _) _)⟩
theorem NR.drewn {lo:Nat} {own:List Nat} {w:World} {l:List Nd} {v:Value} (h:NR lo own w l v):NR lo own w.drew l v:=h.keep (Adf _) (fun _ _=>rfl) (fun _ _ hb=>⟨rfl,hb⟩)
theorem YN {F:Nat→Prop} {w:World} {d:Nd} {u:Value} {mn mx:Int} (h:NdX F w d u):NdX F w (.rep d mn mx) (.iface 101 (.agg #[u,.int .i64 mn,.int .i64 mx])):=by
 obtain ⟨n,h⟩:=h;exact ⟨n+1,u,rfl,h⟩
theorem Oc (lo p:Nat) (own:List Nat) (c0 c1 c2 c3 c4 c5 bv pv c8 c9 c10:Value) (l:List Nd) (mn mx:Int) (w:World) (hb:Blk w p (EC c0 c1 c2 c3 c4 c5 bv pv c8 c9 c10) 211) (hr:NR lo own w l pv) (hp:pv.ownBlock≠some p) (_hpo:p∈own) (hin:∀ g,pv.ownBlock=some g→g∈own) (h0:0 < l.length) (hl:l.length≤1000) :
  Calls Tryz.prog 146 #[.pointer (some ⟨p,4,none⟩),.int .i64 mn,.int .i64 mx] w fun e w'=>e=.returned (.tuple #[])∧NR lo own w' (l.dropLast++[.rep (l.getLastD .empty) mn mx]) pv∧Blk w' p (EC c0 c1 c2 c3 c4 c5 bv pv c8 c9 c10) 211∧Touch p pv w w':=by
 have k7:w.cell? ⟨p,7,none⟩=some pv:=(hb.cell 7).trans rfl;obtain ⟨g,c,u,rfl,hc,hg,hcell,hn⟩:=hr.last h0;have Ws:IntKind.i64.wrap ((l.length:Int) - 1)=((l.length - 1:Nat):Int):=by rw [Adm _ (by omega)];omega
 have hlt1:((l.length - 1:Nat):Int) < (l.length:Int):=by omega
 have hlt2:l.length - 1 < l.length:=by omega
 have hge:(0:Int)≤((l.length - 1:Nat):Int):=by omega
 have hsh:(∃ T q,u=.iface T q)∨u=.nilIface:=hn.elim fun _ h=>Av h
 have Hr:=Ac8 hr;have Hb:=Ac8 hb;have Hn:=Ac8 hn;have hfz:w.frozen? ⟨g,l.length - 1,none⟩=false:=by
  obtain ⟨us,h1,h2,_,_⟩:=hr;rcases h2.2 with ⟨h,_⟩ | ⟨g',cap,cur,he,hg',hh,_⟩
  ·cases h
  ·injection he with he _ _
   injection he with he;injection he with he _ _;subst he;simp [World.frozen?,hh]
 clear hr hb hn;rcases hsh with ⟨T1,q1,rfl⟩ | rfl
 all_goals
  go_enter Tryz.func146,Tryz.ntmps146;go_wp2_with fail
  go_region
  go_wp2_with fail
  go_end0;have hx:=YN (mn:=mn) (mx:=mx) Hn.out;have hput:=Hr.out.put h0 (hin g rfl) hx rfl;refine ⟨rfl,hput.drewn,((Hb.out.set_other ⟨g,l.length - 1,none⟩ (fun e=>hp (congrArg some e)) _)).drew,⟨rfl,rfl,rfl,by simp [World.setCell,World.drew],fun b hb h1 h2=>?_⟩⟩;exact Adl _ _ _ _ (fun e=>h2 (congrArg some e.symm))
end
section
open Go Go.RowKit
theorem NR.rg {lo:Nat} {own:List Nat} {w:World} {l:List Nd} {v:Value} (h:NR lo own w l v):∃ a cap,v=.slice a l.length cap∧NP (fun _=>True) (fun b=>lo≤b∧b ∉ own) w l a cap:=by
 obtain ⟨us,h1,h2,h3,h4⟩:=h;obtain ⟨a,cap,rfl,hc,hm,hx⟩:=FY h2 h1;refine ⟨a,cap,rfl,hc,hm,fun h0=>?_⟩;obtain ⟨g,rfl,_,hg,hcell⟩:=hx h0;exact ⟨g,0,rfl,trivial,hg,fun i hi=>⟨us[i]'(by omega),hcell i (by omega),h3 i hi (by omega)⟩⟩
theorem NP.below {G F:Nat→Prop} {w w':World} {l:List Nd} {a:Option Addr} {cap:Nat} (h:NP G F w l a cap) (hb:Below w.heap.size w w'):NP G F w' l a cap:=
 ⟨h.1,h.2.1,fun h0=>by
  obtain ⟨b,o,e,hG,hl,hx⟩:=h.2.2 h0;exact ⟨b,o,e,hG,Adi hl hb.size,fun i hi=>by obtain ⟨u,hu,hn⟩:=hx i hi;exact ⟨u,(hb.cell (p:=⟨b,o+i,none⟩) hl).trans hu,hn.below hb⟩⟩⟩
theorem NR.push {lo p j:Nat} {own:List Nat} {w w2 w6:World} {l:List Nd} {d:Nd} {v u:Value} {a6:Option Addr} {c6:Nat} {us:List Value} {T:TypeId}
  (h1:us.length=l.length) (h3:∀ i (h:i < l.length) (h2:i < us.length),NdX (fun b=>lo≤b∧b ∉ own) w l[i] us[i]) (h4:∀ x∈us,x.oneCell'=true) (hlt:∀ g,v.ownBlock=some g→lo≤g∧g < w.heap.size) (hp:v.ownBlock≠some p) (hpo:p∈own) (hplt:p < w.heap.size) (hin:∀ g,v.ownBlock=some g→g∈own) (hlo:lo≤p) (hol:∀ b∈own,b < w.heap.size)
  (hb2:Below w.heap.size w w2) (hu:NdX (fun k=>(k < w.heap.size∧(lo≤k∧k ∉ own))∨w.heap.size≤k) w2 d u) (hu1:u.oneCell'=true)
  (hown:w6.ownsRow lo 38 1 (.slice a6 (l.length+1) c6) (l.length+1) (us++[u])) (hgrow:(w2.alloc (.cells #[u] T)).grownBy w6 v.ownBlock) (hat:(Value.slice a6 (l.length+1) c6).ownBlock=v.ownBlock∨(Value.slice a6 (l.length+1) c6).ownBlock=some (w2.alloc (.cells #[u] T)).heap.size) (y:Value) :
  NR lo (ownB (.slice a6 (l.length+1) c6)++own) (w6.setCell ⟨p,j,none⟩ y) (l++[d]) (.slice a6 (l.length+1) c6)∧Touch p v w (w6.setCell ⟨p,j,none⟩ y)∧((Value.slice a6 (l.length+1) c6).ownBlock=v.ownBlock∨∃ g,w.heap.size≤g∧(Value.slice a6 (l.length+1) c6).ownBlock=some g):=by
 have hA:=hb2.alloc hb2.size (.cells #[u] T);have hs2:=hb2.size;have hs6:=hgrow.size;have hsA:(w2.alloc (.cells #[u] T)).heap.size=w2.heap.size+1:=by simp
 have hs7:(w6.setCell ⟨p,j,none⟩ y).heap.size=w6.heap.size:=by simp [World.setCell]
 have hT:Touch p v w (w6.setCell ⟨p,j,none⟩ y):=⟨hgrow.os.trans hA.os,hgrow.tape.trans hA.tape,hgrow.output.trans hA.output,by rw [hs7];omega,fun b hb e1 e2=>by
  rw [Adl _ _ _ _ (fun e=>e1 e),hgrow.block b (by omega) (fun e=>e2 e.symm),hA.block b hb]⟩
 have hnew:(Value.slice a6 (l.length+1) c6).ownBlock=v.ownBlock∨∃ g,w.heap.size≤g∧(Value.slice a6 (l.length+1) c6).ownBlock=some g:=by
  rcases hat with h | h
  ·exact .inl h
  ·exact .inr ⟨_,by rw [hsA];omega,h⟩
 have hoff:∀ b,b < w.heap.size→b ∉ own→b ∉ ownB (.slice a6 (l.length+1) c6)++own:=fun b hb hbo=>by
  rw [Adp,not_or];refine ⟨fun h=>?_,hbo⟩;rw [AS] at h;rcases hnew with h2 | ⟨g,hg,h2⟩
  ·exact hbo (hin b (h2.symm.trans h))
  ·rw [h2] at h
   injection h with h;omega
 have hk:∀ b,b < w.heap.size→b ∉ own→(w6.setCell ⟨p,j,none⟩ y).heap[b]?=w.heap[b]?∧b ∉ ownB (.slice a6 (l.length+1) c6)++own:=fun b hb hbo=>
  ⟨hT.block b hb (fun e=>hbo (e▸hpo)) (fun e=>hbo (hin b e)),hoff b hb hbo⟩
 have hown7:(w6.setCell ⟨p,j,none⟩ y).ownsRow lo 38 1 (.slice a6 (l.length+1) c6) (l.length+1) (us++[u]):=Aa hown (fun g hg=>Adl _ _ _ _ (fun e=>by
  rcases hat with h | h
  ·exact hp (by rw [←h,hg,e])
  ·rw [h] at hg
   injection hg with hg;simp only at e;omega))
 refine ⟨⟨us++[u],by rw [Adh,Adh,h1];rfl,by rw [Adh];exact hown7,?_,?_⟩,hT,hnew⟩
 ·intro i hi1 hi2
  by_cases hlt2:i < l.length
  ·rw [List.getElem_append_left hlt2,List.getElem_append_left (by omega)]
   exact (h3 i hlt2 (by omega)).keep hT.size (fun b hb hl=>⟨⟨hb.1,(hk b hl hb.2).2⟩,fun o=>Adn (w:=w) (a:=⟨b,o,none⟩) (hk b hl hb.2).1⟩)
  ·have hi:i=l.length:=by rw [Adh] at hi1;simp at hi1;omega
   subst hi;rw [List.getElem_append_right (Adf _),List.getElem_append_right (by omega)];simp only [h1,Nat.sub_self,Ada];refine hu.keep (by rw [hs7];omega) (fun b hb hl=>?_);have hsame:(w6.setCell ⟨p,j,none⟩ y).heap[b]?=w2.heap[b]?:=by
    have hbp:b≠p:=fun e=>by
     rcases hb with h | h
     ·exact h.2.2 (e▸hpo)
     ·omega
    have hbv:some b≠v.ownBlock:=fun e=>by
     rcases hb with h | h
     ·exact h.2.2 (hin b e.symm)
     ·have:=(hlt b e.symm).2;omega
    rw [Adl _ _ _ _ (fun e=>hbp e),hgrow.block b (by omega) hbv];exact ((Adk w2.heap.size w2).alloc (Adf _) _).block b hl
   refine ⟨?_,fun o=>Adn (w:=w2) (a:=⟨b,o,none⟩) hsame⟩;rcases hb with h | h
   ·exact ⟨h.2.1,hoff b h.1 h.2.2⟩
   ·refine ⟨by omega,?_⟩
    rw [Adp,not_or];refine ⟨fun e=>?_,fun e=>?_⟩
    ·rw [AS] at e
     rcases hat with h2 | h2
     ·rw [h2] at e
      have:=(hlt b e).2;omega
     ·rw [h2] at e
      injection e with e;rw [hsA] at e;omega
    ·have:=hol b e
     omega
 ·intro x hx
  rcases Adp.1 hx with h | h
  ·exact h4 x h
  ·simp at h;subst h;exact hu1
theorem VF (w:World) (u:Value) (T:TypeId) (g:Nat) (hg:g=w.heap.size):∀ j x,[u][j]?=some x→(w.alloc (.cells #[u] T)).cell? ((⟨g,0,none⟩:Addr).add j)=some x:=by
 subst hg;intro j x hx
 match j,hx with
 | 0,hx=>simp at hx;subst hx;simp [Addr.add]
theorem NR.cell {lo p j:Nat} {own:List Nat} {w:World} {l:List Nd} {v:Value} (h:NR lo own w l v) (hv:v.ownBlock≠some p) (hpo:p∈own) (y:Value):NR lo own (w.setCell ⟨p,j,none⟩ y) l v:=
 h.keep (by simp [World.setCell]) (fun g hg=>Adl _ _ _ _ (fun e=>hv (by rw [hg,e]))) (fun b _ hbo=>⟨Adl _ _ _ _ (fun e=>hbo (e▸hpo)),hbo⟩)
theorem Touch.cell {p j:Nat} {v:Value} {w w':World} (h:Touch p v w w') (y:Value):Touch p v w (w'.setCell ⟨p,j,none⟩ y):=
 ⟨h.os,h.tape,h.output,by simp [World.setCell];exact h.size,fun b hb e1 e2=>(Adl _ _ _ _ (fun e=>e1 e)).trans (h.block b hb e1 e2)⟩
theorem Touch.drewn {p:Nat} {v:Value} {w w':World} (h:Touch p v w w'):Touch p v w w'.drew:=⟨h.os,h.tape,h.output,h.size,h.block⟩
theorem Od (lo p:Nat) (own:List Nat) (c0 c1 c2 c3 c4 c5 bv pv c8 c9 c10:Value) (bs ps:List Nd) (w:World) (hlo:lo≤p) (hb:Blk w p (EC c0 c1 c2 c3 c4 c5 bv pv c8 c9 c10) 211) (hbr:NR lo own w bs bv) (hpr:NR lo own w ps pv) (hp:bv.ownBlock≠some p) (hpo:p∈own) (hol:∀ b∈own,b < w.heap.size) (hin:∀ g,bv.ownBlock=some g→g∈own) (hl:bs.length≤1000) (hj:(AF ps).length≤4000000) :
  Calls Tryz.prog 130 #[.pointer (some ⟨p,4,none⟩)] w fun e w'=>∃ bv',e=.returned (.tuple #[])∧NR lo (ownB bv'++own) w' (bs++[Bs ps]) bv'∧Blk w' p (EC c0 c1 c2 c3 c4 c5 bv' (.slice none 0 0) c8 c9 c10) 211∧Touch p bv w w'∧(bv'.ownBlock=bv.ownBlock∨∃ g,w.heap.size≤g∧bv'.ownBlock=some g):=by
 obtain ⟨i0,hi,hz0,hz1,hz2⟩:=DL;obtain ⟨pa,pc,rfl,hrg⟩:=hpr.rg;obtain ⟨us,h1,h2,h3,h4⟩:=hbr;obtain ⟨ba,bc,rfl⟩:=AZ h2;have hplt:=hb.lt;have k6:w.cell? ⟨p,6,none⟩=some (.slice ba bs.length bc):=(hb.cell 6).trans rfl;have k7:w.cell? ⟨p,7,none⟩=some (.slice pa ps.length pc):=(hb.cell 7).trans rfl;have hJ:=fun (w':World) (hb':Below w.heap.size w w')=>Rr (G:=fun _=>True) ps pa pc w' (hrg.below hb') hj
 have hm1:bs.length+1≤maxLen:=by unfold maxLen;omega
 have hm2:(bs.length+1) * 16≤140737488355328:=by omega
 have hlw:lo≤w.heap.size:=Adg hlo (Adj hplt);have HJ:=Ac8 hJ;have H2:=Ac8 h2;have Hb:=Ac8 hb;clear hJ hrg hpr hb h2;go_enter Tryz.func130,Tryz.ntmps130;go_upto_region 0 with fail
 go_region_law (first
  | (refine Bq rfl _ _ _ rfl 143 _ rfl (by rfl) (enters_of Tryz.func143 (by kernel_rfl) rfl) (HJ.out _ (by first | exact Adk _ _ | exact Below.drew (Adk _ _))) ?_;rintro e w2 ⟨u,rfl,hu,hb2'⟩;refine ⟨_,rfl,?_⟩;have hb2:Below w.heap.size w w2:=(by first | exact hb2' | exact (Below.drew (Adk _ _)).trans hb2');clear hb2';have hB2:=Hb.out.below hb2 hplt;have q6:w2.cell? ⟨p,6,none⟩=some (.slice ba bs.length bc):=(hB2.cell 6).trans rfl;have q6A:(w2.alloc (.cells #[u] 38)).cell? ⟨p,6,none⟩=some (.slice ba bs.length bc):=((hB2.alloc _).cell 6).trans rfl;have hsh:=hu.elim fun _ h=>Av h;have hcl:u.cells=#[u]:=(by rcases hsh with ⟨T,q,rfl⟩ | rfl <;> rfl);unfold Value.cells at hcl;have hu1:u.oneCell'=true:=(by rcases hsh with ⟨T,q,rfl⟩ | rfl <;> rfl);have HU:=Ac8 hu;clear hu hsh)
  | (refine A1 rfl _ _ 84 rfl lo 38 i0 .nilIface 1 16 Tryz.underlying84 hi hz0 hz1 hz2 rfl (by decide) (.slice ba bs.length bc) bs.length us rfl (Ag H2.out (by repeat (first | (with_reducible exact hb2) | refine Below.drew ?_ | refine Below.alloc ?_ hb2.size _))) (some ⟨w2.heap.size,0,none⟩) 1 1 [u] rfl rfl (fun _=>⟨_,rfl,VF w2 u _ _ rfl⟩) (by intro y hy;simp at hy;subst hy;exact hu1) hm1 hm2 (by have:=hb2.size;simp;omega) ?_;intro v6 w6 hown6 hgrow6 hat6;obtain ⟨a6,c6,rfl⟩:=AZ hown6;have hB6:Blk w6 p (EC c0 c1 c2 c3 c4 c5 (.slice ba bs.length bc) (.slice pa ps.length pc) c8 c9 c10) 211:=DM (hB2.alloc _) hgrow6 hp;have f6:=hB6.frozen 6;have f7:=hB6.frozen 7;have g6:w6.cell? ⟨p,6,none⟩=some (.slice ba bs.length bc):=(hB6.cell 6).trans rfl;have g7:w6.cell? ⟨p,7,none⟩=some (.slice pa ps.length pc):=(hB6.cell 7).trans rfl;have HP:=Ac8 (fun y=>NR.push (j:=6) h1 h3 h4 (fun g hg=>H2.out.lt g hg) hp hpo hplt hin hlo hol hb2 HU.out hu1 hown6 hgrow6 hat6 y);have HB6:=Ac8 hB6;clear hown6 hgrow6 hat6 hB6))
 all_goals go_wp2_with fail
 all_goals go_end0
 all_goals
  obtain ⟨hN,hT,hF⟩:=HP.out (.slice a6 (bs.length+1) c6);have hvp:(Value.slice a6 (bs.length+1) c6).ownBlock≠some p:=by
   rcases hF with h | ⟨g,hg,h⟩
   ·rw [h];exact hp
   ·rw [h]
    intro e;injection e with e;omega
  exact ⟨.slice a6 (bs.length+1) c6,rfl,hN.cell hvp (List.mem_append_right _ hpo) _,(HB6.out.set 6 _).set 7 _,hT.cell _,hF⟩
theorem G7 (lo p:Nat) (own:List Nat) (c0 c1 c2 c3 c4 c5 bv pv c8 c9 c10:Value) (bs ps:List Nd) (w:World) (hlo:lo≤p) (hb:Blk w p (EC c0 c1 c2 c3 c4 c5 bv pv c8 c9 c10) 211) (hbr:NR lo own w bs bv) (hpr:NR lo own w ps pv) (hp:bv.ownBlock≠some p) (hpo:p∈own) (hol:∀ b∈own,b < w.heap.size) (hin:∀ g,bv.ownBlock=some g→g∈own) (hl:bs.length≤1000) (hj:(AF ps).length≤4000000) (hc:(AG (bs++[Bs ps])).length≤4000000) :
  Calls Tryz.prog 118 #[.pointer (some ⟨p,4,none⟩)] w fun e w'=>∃ v bv',e=.returned v∧NdX (fun b=>lo≤b∧b ∉ ownB bv'++own) w' (Cg (bs++[Bs ps])) v∧Blk w' p (EC c0 c1 c2 c3 c4 c5 bv' (.slice none 0 0) c8 c9 c10) 211∧Touch p bv w w'∧(bv'.ownBlock=bv.ownBlock∨∃ g,w.heap.size≤g∧g < w'.heap.size∧bv'.ownBlock=some g):=by
 have hE:=Od lo p own c0 c1 c2 c3 c4 c5 bv pv c8 c9 c10 bs ps w hlo hb hbr hpr hp hpo hol hin hl hj;have hplt:=hb.lt;go_enter Tryz.func118,Tryz.ntmps118;go_wp2_with fail
 refine hE.mono ?_;rintro e w2 ⟨bv',rfl,hN,hB,hT,hF⟩;have hlt2:=hN.lt;obtain ⟨ba,bc,rfl,hrg⟩:=hN.rg;have k6:w2.cell? ⟨p,6,none⟩=some (.slice ba (bs++[Bs ps]).length bc):=(hB.cell 6).trans rfl;have hC:=Lo (G:=fun _=>True) (bs++[Bs ps]) ba bc w2 hrg hc;have HL:=Ac8 hlt2;have HF:=Ac8 hF;have HT:=Ac8 hT;have HB:=Ac8 hB;have HO:=Ac8 hol;clear hE hN hrg hlt2 hF hT hB hol hbr hpr hc hj hb;generalize (bs++[Bs ps]).length=n at *;go_wp2_with fail
 refine hC.mono ?_;rintro e w3 ⟨v,rfl,hv,b3⟩;have hsz:=HT.out.size;have hv2:NdX (fun b=>lo≤b∧b ∉ ownB (.slice ba n bc)++own) w3 (Cg (bs++[Bs ps])) v:=hv.keep (Adf _) (fun b hb hlt=>⟨by
  rcases hb with h | h
  ·exact h.2
  ·refine ⟨by omega,?_⟩
   rw [Adp,not_or];refine ⟨fun e=>?_,fun e=>?_⟩
   ·rw [AS] at e
    have:=(HL.out b e).2;omega
   ·have:=HO.out b e
    omega,fun _=>rfl⟩)
 have hB3:=HB.out.below b3 HB.out.lt;have hT3:Touch p bv w w3:=⟨b3.os.trans HT.out.os,b3.tape.trans HT.out.tape,b3.output.trans HT.out.output,Adg HT.out.size b3.size,fun b hb e1 e2=>(b3.block b (by omega)).trans (HT.out.block b hb e1 e2)⟩
 have hF3:(Value.slice ba n bc).ownBlock=bv.ownBlock∨∃ g,w.heap.size≤g∧g < w3.heap.size∧(Value.slice ba n bc).ownBlock=some g:=HF.out.imp id (fun ⟨g,hg,e⟩=>⟨g,hg,Adi (HL.out g e).2 b3.size,e⟩);have HF3:=Ac8 hF3;clear hC hv b3 hF3;go_wp2_with fail
 go_ret;exact ⟨v,.slice ba n bc,rfl,hv2,hB3,hT3,HF3.out⟩
end
section
open Go Go.RowKit
theorem Kb {p j:Nat} {v:Value} {w W w6:World} (hW:Below w.heap.size w W) (hg:W.grownBy w6 v.ownBlock) (y:Value):Touch p v w (w6.setCell ⟨p,j,none⟩ y):=
 ⟨hg.os.trans hW.os,hg.tape.trans hW.tape,hg.output.trans hW.output,Adg hW.size (Adg hg.size (by simp [World.setCell])),fun b hb e1 e2=>by
  rw [Adl _ _ _ _ (fun e=>e1 e),hg.block b (Adi hb hW.size) (fun e=>e2 e.symm),hW.block b hb]⟩
theorem PP (c:Nat) (h:c < 128):runesBytes [(92:Int),(c:Int)]=⟨#[92,UInt8.ofNat c]⟩:=by
 have hd:∀ n:Fin 128,runesBytes [(92:Int),(n.val:Int)]=⟨#[92,UInt8.ofNat n.val]⟩:=by decide +kernel
 exact hd ⟨c,h⟩
theorem Iu (lo p g n cs k m c:Nat) (c0 c4 c5 c6' c7 c8 c9 c10 mv:Value) (ms:List (Nat × Nat)) (w:World) (hlo:lo≤p) (hb:Blk w p (EC c0 (.slice (some ⟨g,0,none⟩) n cs) (.int .i64 (m:Int)) mv c4 c5 c6' c7 c8 c9 c10) 211) (hm:w.ownsRow lo 33 2 mv ms.length (marksC ms)) (hp:mv.ownBlock≠some p) (hkm:m=k+2) (hk:m≤n) (hcs:n≤cs)
  (h0:w.cell? ⟨g,k,none⟩=some (.int .i32 92)) (h1:w.cell? ⟨g,k+1,none⟩=some (.int .i32 (c:Int))) (hc:c < 128) (hl:ms.length≤1000) :
  Calls Tryz.prog 151 #[.pointer (some ⟨p,0,none⟩),.int .i64 (k:Int)] w fun e w'=>∃ mv',e=.returned (.tuple #[])∧w'.ownsRow lo 33 2 mv' (ms++[(k,c)]).length (marksC (ms++[(k,c)]))∧Blk w' p (EC c0 (.slice (some ⟨g,0,none⟩) n cs) (.int .i64 (m:Int)) mv' c4 c5 c6' c7 c8 c9 c10) 211∧Touch p mv w w'∧(mv'.ownBlock=mv.ownBlock∨∃ q,w.heap.size≤q∧mv'.ownBlock=some q):=by
 obtain ⟨i0,hi,hz0,hz1,hz2⟩:=Co;have hplt:=hb.lt;have k1:w.cell? ⟨p,1,none⟩=some (.slice (some ⟨g,0,none⟩) n cs):=(hb.cell 1).trans rfl;have k2:w.cell? ⟨p,2,none⟩=some (.int .i64 (m:Int)):=(hb.cell 2).trans rfl;have k3:w.cell? ⟨p,3,none⟩=some mv:=(hb.cell 3).trans rfl;obtain ⟨ma,mc,rfl⟩:=AZ hm;have hm1:ms.length+1≤maxLen:=by unfold maxLen;omega
 have hm2:(ms.length+1) * 24≤140737488355328:=by omega
 have hsl1:(k:Int)≤(m:Int):=by omega
 have hsl2:(m:Int)≤(cs:Int):=by omega
 have hsl3:k≤m:=by omega
 have hsl4:m≤cs:=by omega
 have hsl5:m - k=2:=by omega
 have hsl6:¬ cs=k:=by omega
 have Hkm:=Ac8 hkm;clear hkm;have hcv:∀ w':World,(w'.cell? ⟨g,k,none⟩=some (.int .i32 92))→(w'.cell? ⟨g,k+1,none⟩=some (.int .i32 (c:Int)))→(convert 204 9 (.slice (some ⟨g,k,none⟩) 2 (cs - k))).run Tryz.prog w'=.ok (.string ⟨#[92,UInt8.ofNat c]⟩) w':=fun w' e0 e1=>by
  have:=run_convert_runes (P:=Tryz.prog) w' 204 9 21 ⟨g,k,none⟩ 2 (cs - k) [92,(c:Int)] (by simp) Tryz.underlying204 Tryz.underlying21 Tryz.underlying9 (fun j hj=>by
   match j,hj with
   | 0,_=>simpa [Addr.add] using e0
   | 1,_=>simpa [Addr.add] using e1)
  rw [this];rw [show ([92,(c:Int)]:List Int).take 2=[92,(c:Int)] from rfl,PP c hc]
 have hcv1:=hcv w.drew h0 h1;have hv1:∀ u∈Eh (k,c),u.oneCell'=true:=by intro u hu;simp [Eh] at hu;rcases hu with rfl | rfl <;> rfl
 have hnews:∀ W:World,W.heap.size=w.heap.size→∀ j u,(Eh (k,c))[j]?=some u→(W.alloc (.cells #[.int .i64 (k:Int),.string ⟨#[92,UInt8.ofNat c]⟩] 33)).cell? ((⟨w.heap.size,0,none⟩:Addr).add j)=some u:=fun W hW j u hu=>by
  have hb2:=Blk.new W #[.int .i64 (k:Int),.string ⟨#[92,UInt8.ofNat c]⟩] 33 w.heap.size hW.symm;rw [Go.WideShapes.add_plain,Nat.zero_add,hb2.cell j,←Array.getElem?_toList];exact hu
 have Hb:=Ac8 hb;have Hm:=Ac8 hm;have H0:=Ac8 h0;have H1:=Ac8 h1;have HCV:=Ac8 hcv;clear hb hm h0 h1 hcv;go_enter Tryz.func151,Tryz.ntmps151;go_upto_region 0 with fail
 go_region_law (first
  | (refine A1 rfl _ _ 26 rfl lo 33 i0 (.agg #[.int .i64 0,.string ⟨#[]⟩]) 2 24 Tryz.underlying26 hi hz0 hz1 hz2 rfl (by decide) (.slice ma ms.length mc) ms.length (marksC ms) rfl (Ag Hm.out (by repeat (first | (with_reducible exact Adk _ _) | refine Below.drew ?_ | refine Below.alloc ?_ (Adf _) _))) (some ⟨w.heap.size,0,none⟩) 1 1 (Eh (k,c)) rfl rfl (fun _=>⟨_,rfl,hnews _ rfl⟩) hv1 hm1 hm2 (by simp;omega) ?_;intro v6 w6 hown6 hgrow6 hat6;obtain ⟨a6,c6,rfl⟩:=AZ hown6;have hB6:Blk w6 p (EC c0 (.slice (some ⟨g,0,none⟩) n cs) (.int .i64 (m:Int)) (.slice ma ms.length mc) c4 c5 c6' c7 c8 c9 c10) 211:=DM ((Hb.out.alloc _).drew) hgrow6 hp;have f3:=hB6.frozen 3;have g3:w6.cell? ⟨p,3,none⟩=some (.slice ma ms.length mc):=(hB6.cell 3).trans rfl;have HT:=Ac8 (fun y=>Kb (p:=p) (j:=3) (((Adk w.heap.size w).alloc (Adf _) _).drew) hgrow6 y);have HA:=Ac8 hat6;have HO:=Ac8 hown6;have HB6:=Ac8 hB6;clear hown6 hgrow6 hat6 hB6))
 all_goals go_wp2_with fail
 all_goals go_end0
 all_goals
  have hF:(Value.slice a6 (ms.length+1) c6).ownBlock=(Value.slice ma ms.length mc).ownBlock∨∃ q,w.heap.size≤q∧(Value.slice a6 (ms.length+1) c6).ownBlock=some q:=by
   rcases HA.out with h | h
   ·exact .inl h
   ·exact .inr ⟨_,by simp,h⟩
  have hvp:(Value.slice a6 (ms.length+1) c6).ownBlock≠some p:=by
   rcases hF with h | ⟨q,hq,h⟩
   ·rw [h];exact hp
   ·rw [h]
    intro e;injection e with e;omega
  refine ⟨.slice a6 (ms.length+1) c6,rfl,?_,HB6.out.set 3 _,HT.out _,hF⟩;rw [ID,Adh];exact Aa HO.out (fun q hq=>Adl _ _ _ _ (fun e=>hvp (by rw [hq,e])))
end
end Go.Proofs.YteilldmmihiijaaGreatDoor
