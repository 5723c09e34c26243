/- Texts. -/
import Derived.Test.YteilldmmihiijaaGreatDoorQt07
import Derived.Test.YteilldmmihiijaaGreatDoorQt01
import Derived.Test.YteilldmmihiijaaGreatDoorQt02
import Derived.Maps.AppendAt
import Derived.WalkSmall
import Derived.Deep.Slices
import Derived.Test.YteilldmmihiijaaGreatDoorQt08
import Derived.Test.YteilldmmihiijaaGreatDoorQt03
set_option linter.unusedSimpArgs false
set_option linter.unusedVariables false
set_option maxHeartbeats 8000000
set_option maxRecDepth 1000000
namespace Go.Proofs.YteilldmmihiijaaGreatDoor
open Go.Lib renaming hid→Ac8
open Nat renaming le_refl→Adf,le_trans→Adg,le_of_lt→Adj
open List renaming length_append→Adh,mem_append→Adp
open Go.RowKit.Below renaming refl→Adk
open Go.World renaming cell?_of_block→Adn
section
open Go Go.RowKit
theorem DL:∃ i,Tryz.prog.info? 38=some i∧i.zero=some .nilIface∧i.size=1∧i.bytes=16:=by
 have h:(Tryz.prog.info? 38).map (fun i=>(i.zero,i.size,i.bytes))=some (some .nilIface,1,16):=by kernel_rfl
 obtain ⟨i,hi,he⟩:=Option.map_eq_some_iff.1 h;injection he with h1 h2;injection h2 with h2 h3;exact ⟨i,hi,h1,h2,h3⟩
structure NdOw (F:Nat→Prop) (B:Nat) (w:World) (l:List Nd) (v:Value) (us:List Value):Prop where
 len:us.length=l.length
 row:w.ownsRow B 38 1 v l.length us
 nd:∀ i (h:i < l.length) (h2:i < us.length),NdX (fun k=>k < B∧F k) w l[i] us[i]
 one:∀ u∈us,u.oneCell'=true
theorem NdOw.nil (F:Nat→Prop) (B:Nat) (w:World):NdOw F B w [] (.slice none 0 0) []:=⟨rfl,World.ownsRow_nil _ _ _ _,fun i h=>absurd h (by simp),fun u h=>absurd h (by simp)⟩
theorem FF {F:Nat→Prop} {B:Nat} {w w':World} (hb:Below B w w') {d:Nd} {v:Value} (h:NdX (fun k=>k < B∧F k) w d v):NdX (fun k=>k < B∧F k) w' d v:=
 h.keep hb.size (fun _ hf _=>⟨hf,fun o=>hb.cell (p:=⟨_,o,none⟩) hf.1⟩)
theorem NdOw.mem {F:Nat→Prop} {B:Nat} {w w':World} {l:List Nd} {v:Value} {us:List Value} (h:NdOw F B w l v us) (hb:Below w.heap.size w w') (hB:B≤w.heap.size):NdOw F B w' l v us:=
 ⟨h.len,h.row.kept ⟨hb.os,hb.tape,hb.output,hb.size,fun k hk _=>hb.block k hk⟩ (by
  rcases hv:v.ownBlock with _ | g
  ·exact .inl rfl
  ·exact .inr (by simp:some g≠none)),fun i h1 h2=>FF (hb.mono hB) (h.nd i h1 h2),h.one⟩
theorem NdOw.push {F:Nat→Prop} {B:Nat} {w w':World} {l m:List Nd} {v v':Value} {us news:List Value} (h:NdOw F B w l v us) (hb:Below B w w') (hl:news.length=m.length) (hn:∀ i (h1:i < m.length) (h2:i < news.length),NdX (fun k=>k < B∧F k) w m[i] news[i]) (h1:∀ u∈news,u.oneCell'=true)
  (hown:w'.ownsRow B 38 1 v' (l.length+m.length) (us++news)):NdOw F B w' (l++m) v' (us++news):=by
 refine ⟨by simp [h.len,hl],by rw [Adh];exact hown,fun i g1 g2=>?_,fun u hu=>(Adp.1 hu).elim (h.one u) (h1 u)⟩;by_cases hi:i < l.length
 ·rw [List.getElem_append_left hi,List.getElem_append_left (by rw [h.len];exact hi)]
  exact FF hb (h.nd i hi (by rw [h.len];exact hi))
 ·rw [List.getElem_append_right (by omega),List.getElem_append_right (by rw [h.len];omega)]
  simp only [h.len];exact FF hb (hn _ (by simp at g1;omega) (by simp at g1;omega))
theorem NdOw.parts {F:Nat→Prop} {B:Nat} {w:World} {l:List Nd} {v:Value} {us:List Value} (h:NdOw F B w l v us):∃ a cap,v=.slice a l.length cap∧AW (fun k=>(k < B∧F k)∨B≤k) w l a cap:=by
 have hr:=h.row;obtain ⟨_,h2⟩:=h.row;rcases h2 with ⟨rfl,h0⟩ | ⟨g,cap,cur,rfl,hg,hh,hn,hcap,hcs,htk⟩
 ·exact ⟨none,0,by rw [h0],by omega,by decide,fun h=>by omega⟩
 ·refine ⟨_,_,rfl,hn,hcap,fun h0=>⟨g,0,rfl,.inr hg,(Array.getElem?_eq_some_iff.1 hh).1,fun i hi=>?_⟩⟩
  have hiu:i < us.length:=by rw [h.len];exact hi
  refine ⟨us[i],?_,(h.nd i hi hiu).keep (Adf _) (fun _ hf _=>⟨.inl hf,fun _=>rfl⟩)⟩;rw [Nat.zero_add,hr.cellAt i (by omega),List.getElem?_eq_getElem hiu]
theorem JR {F:Nat→Prop} {w:World} {l:List Nd} {a:Option Addr} {cap:Nat} (h:AW F w l a cap):∃ news:List Value,news.length=l.length∧(∀ i (h1:i < l.length) (h2:i < news.length),NdX F w l[i] news[i])∧(∀ u∈news,u.oneCell'=true)∧
  (0 < l.length→∃ ad,a=some ad∧∃ b o,ad=⟨b,o,none⟩∧F b∧b < w.heap.size∧∀ j u,news[j]?=some u→w.cell? ⟨b,o+j,none⟩=some u):=by
 by_cases h0:0 < l.length
 ·obtain ⟨b,o,rfl,hf,hb,hx⟩:=h.2.2 h0
  have hone:∀ i,i < l.length→∃ u,w.cell? ⟨b,o+i,none⟩=some u∧∀ h:i < l.length,NdX F w l[i] u:=fun i hi=>by
   obtain ⟨u,h1,h2⟩:=hx i hi;exact ⟨u,h1,fun _=>h2⟩
  obtain ⟨Q,hQ⟩:=Go.Deep.choose_lt hone;refine ⟨(List.range l.length).map Q,by simp,fun i h1 h2=>?_,fun u hu=>?_,fun _=>⟨_,rfl,b,o,rfl,hf,hb,fun j u hj=>?_⟩⟩
  ·rw [List.getElem_map,List.getElem_range]
   exact (hQ i h1).2 h1
  ·obtain ⟨i,hi,rfl⟩:=List.mem_map.1 hu
   have hi:=List.mem_range.1 hi;obtain ⟨_,hn⟩:=(hQ i hi).2 hi;rcases Av hn with ⟨T,p,e⟩ | e <;> rw [e] <;> rfl
  ·rw [List.getElem?_map] at hj
   obtain ⟨i,hi,he⟩:=Option.map_eq_some_iff.1 hj;obtain ⟨hlt,he2⟩:=List.getElem?_eq_some_iff.1 hi;simp at hlt he2;subst he2;rw [←he];exact (hQ j hlt).1
 ·obtain rfl:l=[]:=List.eq_nil_of_length_eq_zero (by omega)
  exact ⟨[],rfl,fun i h1=>absurd h1 (by simp),fun u hu=>absurd hu (by simp),fun h=>absurd h (by simp)⟩
theorem As {w:World} {k:Nat} (hk:w.heap.size=k) (v:Value) (t:TypeId):∀ j u,[v][j]?=some u→(w.alloc (.cells #[v] t)).cell? ((⟨k,0,none⟩:Addr).add j)=some u:=by
 subst hk;exact cell_one_new w v t
theorem Bi {w:World} {base:Nat} {e:TypeId} {size:Nat} {v:Value} {n:Nat} {xs:List Value} (h:w.ownsRow base e size v n xs):∀ k,v.ownBlock=some k→base≤k:=fun k hk=>(h.lt k hk).1
theorem NO {F:Nat→Prop} {w:World} {l:List Nd} {a:Option Addr} {cap:Nat} (h:AW F w l a cap):∃ n,Z0 F n w l a cap:=by
 have hone:∀ i,i < l.length→∃ n:Nat,∀ (h:i < l.length) (b o:Nat),a=some ⟨b,o,none⟩→∃ u,w.cell? ⟨b,o+i,none⟩=some u∧Ef F n w l[i] u:=fun i hi=>by
  obtain ⟨b,o,rfl,_,_,hx⟩:=h.2.2 (by omega);obtain ⟨u,hu,n,hn⟩:=hx i hi;exact ⟨n,fun _ b' o' e=>by cases e;exact ⟨u,hu,hn⟩⟩
 obtain ⟨Q,hQ⟩:=Go.Deep.choose_lt hone;obtain ⟨N,hN⟩:∃ N,∀ i,i < l.length→Q i≤N:=Go.Deep.fuel_lt (q:=fun i N=>Q i≤N) (fun _ _ _ h h2=>Adg h2 h) fun i _=>⟨_,Adf _⟩
 refine ⟨N,h.1,h.2.1,fun h0=>?_⟩;obtain ⟨b,o,rfl,hf,hb,_⟩:=h.2.2 h0;refine ⟨b,o,rfl,hf,hb,fun i hi=>?_⟩;obtain ⟨u,hu,hn⟩:=hQ i hi hi b o rfl;exact ⟨u,hu,Ef.more _ _ _ _ (hN i hi) hn⟩
theorem YF {F:Nat→Prop} {w:World} {l:List Nd} {a:Option Addr} {cap:Nat} (h:AW F w l a cap):NdX F w (.cat l) (.iface 98 (.agg #[.slice a l.length cap])):=by
 obtain ⟨n,hn⟩:=NO h;exact ⟨n+1,a,cap,rfl,hn⟩
theorem YG {F:Nat→Prop} {w:World} {l:List Nd} {a:Option Addr} {cap:Nat} (h:AW F w l a cap):NdX F w (.alt l) (.iface 99 (.agg #[.slice a l.length cap])):=by
 obtain ⟨n,hn⟩:=NO h;exact ⟨n+1,a,cap,rfl,hn⟩
def NP (G F:Nat→Prop) (w:World) (l:List Nd) (a:Option Addr) (cap:Nat):Prop:=
 l.length≤cap∧cap≤maxLen∧(0 < l.length→∃ b o,a=some ⟨b,o,none⟩∧G b∧b < w.heap.size∧∀ i (h:i < l.length),∃ u,w.cell? ⟨b,o+i,none⟩=some u∧NdX F w l[i] u)
theorem NQ {G F:Nat→Prop} {w:World} {l:List Nd} {a:Option Addr} {cap:Nat} (h:NP G F w l a cap):NP G (fun k=>k < w.heap.size∧F k) w l a cap:=
 ⟨h.1,h.2.1,fun h0=>by
  obtain ⟨b,o,e,hG,hl,hx⟩:=h.2.2 h0;exact ⟨b,o,e,hG,hl,fun i hi=>by obtain ⟨u,hu,hn⟩:=hx i hi;exact ⟨u,hu,hn.keep (Adf _) (fun _ hf hlt=>⟨⟨hlt,hf⟩,fun _=>rfl⟩)⟩⟩⟩
theorem Rr {G F:Nat→Prop} (l:List Nd) (a:Option Addr) (cap:Nat) (w:World) (h:NP G F w l a cap) (hsz:(AF l).length≤4000000) :
  Calls Tryz.prog 143 #[.slice a l.length cap] w fun e w'=>∃ v,e=.returned v∧NdX (fun k=>(k < w.heap.size∧F k)∨w.heap.size≤k) w' (Bs l) v∧Below w.heap.size w w':=by
 obtain ⟨i0,hi,hz0,hz1,hz2⟩:=DL;have hin:=NQ h;have hlen:=hin.1;have hl2:=hin.2.1;unfold maxLen at hl2;have Hh:=Ac8 hin.2.2;clear h hin;obtain ⟨J,hJ⟩:∃ J,J=Bs l:=⟨_,rfl⟩;rw [←hJ];have HJ:=Ac8 hJ;clear hJ;go_enter Tryz.func143,Tryz.ntmps143;go_wp2_with fail
 go_loopw [3,11] (fun av i wr=>∃ (k:Nat) (us:List Value) (pv:Value),k≤l.length∧i=.int .i64 k∧pv=av∧NdOw F w.heap.size wr (AF (l.take k)) pv us∧Below w.heap.size w wr) (fun _ i _=>l.length - (intOf i).toNat)
 case atStart=>exact ⟨0,[],_,by omega,rfl,rfl,NdOw.nil _ _ _,Adk _ _⟩
 case round=>
  obtain ⟨k,us,pv,hk,rfl,hpv,hN,hW⟩:=hrel;subst hpv;by_cases hlt:k < l.length
  ·obtain ⟨b,o,rfl,hfb,hbl,hx⟩:=Hh.out (by omega)
   obtain ⟨u0,hu0,hxk⟩:=hx k hlt;replace hu0:=(hW.cell (p:=⟨b,o+k,none⟩) hbl).trans hu0;replace hxk:=FF hW hxk;have Htk:=Ac8 (KO Bk l k hlt);have hm:=QL Bk l (k+1);rw [Htk.out,Adh] at hm
   change (AF (l.take k)).length+(Bk l[k]).length≤(AF l).length at hm
   clear hx;generalize l[k]=x at *;rcases Cb hxk with ⟨rfl,rfl | rfl⟩ | ⟨s,rfl,rfl⟩ | ⟨l',a',cap',rfl,rfl,hr⟩ | ⟨l',a',cap',rfl,rfl,hr⟩ | ⟨d',mn,mx,u,rfl,rfl,hu⟩ | ⟨num,d',u,rfl,rfl,hu⟩ | ⟨num,rfl,rfl⟩ | ⟨rfl,rfl⟩ | ⟨rfl,rfl⟩
   ·go_wp2_with fail
    go_roundw
    case rel=>exact ⟨k+1,us,_,by omega,by go_num,rfl,by rw [show AF (l.take (k+1))=AF (l.take k) from Htk.out.trans (List.append_nil _)];exact hN,hW⟩
    case measure=>simp [intOf];omega
   ·go_wp2_with fail
    go_roundw
    case rel=>exact ⟨k+1,us,_,by omega,by go_num,rfl,by rw [show AF (l.take (k+1))=AF (l.take k) from Htk.out.trans (List.append_nil _)];exact hN,hW⟩
    case measure=>simp [intOf];omega
   ·have hm1:(AF (l.take k)).length+1≤maxLen:=by unfold maxLen;simp [Bk] at hm;omega
    have hm2:((AF (l.take k)).length+1) * 16≤140737488355328:=by simp [Bk] at hm;omega
    clear hm;go_wp2_with (at_builtin;refine Af _ rfl _ _ 84 rfl w.heap.size 38 i0 .nilIface 1 16 Tryz.underlying84 hi hz0 hz1 hz2 rfl (by decide) _ _ _ rfl (hN.row.alloc _) (some ⟨wr.heap.size,0,none⟩) 1 1 [_] rfl rfl (fun _=>⟨_,rfl,As (by simp) _ _⟩) (by intro y hy;simp at hy;subst hy;rfl) hm1 hm2 (by have:=hW.size;simp;omega) ?_;intro v3 w3 hown hgrow hat)
    go_roundw
    case rel=>
     have hb3:Below w.heap.size wr w3:=((Adk _ wr).alloc hW.size _).grown hgrow (by have:=hW.size;simp;omega) (Bi hN.row);exact ⟨k+1,_,_,by omega,by go_num,rfl,by rw [show AF (l.take (k+1))=_ from Htk.out];exact hN.push hb3 rfl (fun i h1 h2=>by simp [Bk] at h1;subst h1;exact hxk) (by intro y hy;simp at hy;subst hy;rfl) hown,hW.trans hb3⟩
    case measure=>simp [intOf];omega
   ·have hm1:(AF (l.take k)).length+l'.length≤maxLen:=by unfold maxLen;simp [Bk] at hm;omega
    have hm2:((AF (l.take k)).length+l'.length) * 16≤140737488355328:=by simp [Bk] at hm;omega
    have hA:=(Adk wr.heap.size wr).alloc (Adf _) (.cells #[.slice a' l'.length cap'] 98);obtain ⟨news,hnl,hnd,hn1,hnc⟩:=JR hr;have hnc2:0 < l'.length→∃ ad,a'=some ad∧∀ j u,news[j]?=some u→(wr.alloc (.cells #[.slice a' l'.length cap'] 98)).cell? (ad.add j)=some u:=fun h0=>by
     obtain ⟨ad,h1,b2,o2,rfl,_,hlt2,h2⟩:=hnc h0;exact ⟨_,h1,fun j u hj=>by rw [Go.WideShapes.add_plain];exact (hA.cell (p:=⟨b2,o2+j,none⟩) hlt2).trans (h2 j u hj)⟩
    clear hm hnc;go_wp2_with (at_builtin;refine Af _ rfl _ _ 84 rfl w.heap.size 38 i0 .nilIface 1 16 Tryz.underlying84 hi hz0 hz1 hz2 rfl (by decide) _ _ _ rfl (hN.row.alloc _) a' l'.length cap' news rfl (by omega) hnc2 hn1 hm1 hm2 (by have:=hW.size;simp;omega) ?_;intro v3 w3 hown hgrow hat)
    go_roundw
    case rel=>
     have hb3:Below w.heap.size wr w3:=((Adk _ wr).alloc hW.size _).grown hgrow (by have:=hW.size;simp;omega) (Bi hN.row);exact ⟨k+1,_,_,by omega,by go_num,rfl,by rw [show AF (l.take (k+1))=_ from Htk.out];exact hN.push hb3 hnl hnd hn1 hown,hW.trans hb3⟩
    case measure=>simp [intOf];omega
   ·have hm1:(AF (l.take k)).length+1≤maxLen:=by unfold maxLen;simp [Bk] at hm;omega
    have hm2:((AF (l.take k)).length+1) * 16≤140737488355328:=by simp [Bk] at hm;omega
    clear hm;go_wp2_with (at_builtin;refine Af _ rfl _ _ 84 rfl w.heap.size 38 i0 .nilIface 1 16 Tryz.underlying84 hi hz0 hz1 hz2 rfl (by decide) _ _ _ rfl (hN.row.alloc _) (some ⟨wr.heap.size,0,none⟩) 1 1 [_] rfl rfl (fun _=>⟨_,rfl,As (by simp) _ _⟩) (by intro y hy;simp at hy;subst hy;rfl) hm1 hm2 (by have:=hW.size;simp;omega) ?_;intro v3 w3 hown hgrow hat)
    go_roundw
    case rel=>
     have hb3:Below w.heap.size wr w3:=((Adk _ wr).alloc hW.size _).grown hgrow (by have:=hW.size;simp;omega) (Bi hN.row);exact ⟨k+1,_,_,by omega,by go_num,rfl,by rw [show AF (l.take (k+1))=_ from Htk.out];exact hN.push hb3 rfl (fun i h1 h2=>by simp [Bk] at h1;subst h1;exact hxk) (by intro y hy;simp at hy;subst hy;rfl) hown,hW.trans hb3⟩
    case measure=>simp [intOf];omega
   ·have hm1:(AF (l.take k)).length+1≤maxLen:=by unfold maxLen;simp [Bk] at hm;omega
    have hm2:((AF (l.take k)).length+1) * 16≤140737488355328:=by simp [Bk] at hm;omega
    clear hm;go_wp2_with (at_builtin;refine Af _ rfl _ _ 84 rfl w.heap.size 38 i0 .nilIface 1 16 Tryz.underlying84 hi hz0 hz1 hz2 rfl (by decide) _ _ _ rfl (hN.row.alloc _) (some ⟨wr.heap.size,0,none⟩) 1 1 [_] rfl rfl (fun _=>⟨_,rfl,As (by simp) _ _⟩) (by intro y hy;simp at hy;subst hy;rfl) hm1 hm2 (by have:=hW.size;simp;omega) ?_;intro v3 w3 hown hgrow hat)
    go_roundw
    case rel=>
     have hb3:Below w.heap.size wr w3:=((Adk _ wr).alloc hW.size _).grown hgrow (by have:=hW.size;simp;omega) (Bi hN.row);exact ⟨k+1,_,_,by omega,by go_num,rfl,by rw [show AF (l.take (k+1))=_ from Htk.out];exact hN.push hb3 rfl (fun i h1 h2=>by simp [Bk] at h1;subst h1;exact hxk) (by intro y hy;simp at hy;subst hy;rfl) hown,hW.trans hb3⟩
    case measure=>simp [intOf];omega
   ·have hm1:(AF (l.take k)).length+1≤maxLen:=by unfold maxLen;simp [Bk] at hm;omega
    have hm2:((AF (l.take k)).length+1) * 16≤140737488355328:=by simp [Bk] at hm;omega
    clear hm;go_wp2_with (at_builtin;refine Af _ rfl _ _ 84 rfl w.heap.size 38 i0 .nilIface 1 16 Tryz.underlying84 hi hz0 hz1 hz2 rfl (by decide) _ _ _ rfl (hN.row.alloc _) (some ⟨wr.heap.size,0,none⟩) 1 1 [_] rfl rfl (fun _=>⟨_,rfl,As (by simp) _ _⟩) (by intro y hy;simp at hy;subst hy;rfl) hm1 hm2 (by have:=hW.size;simp;omega) ?_;intro v3 w3 hown hgrow hat)
    go_roundw
    case rel=>
     have hb3:Below w.heap.size wr w3:=((Adk _ wr).alloc hW.size _).grown hgrow (by have:=hW.size;simp;omega) (Bi hN.row);exact ⟨k+1,_,_,by omega,by go_num,rfl,by rw [show AF (l.take (k+1))=_ from Htk.out];exact hN.push hb3 rfl (fun i h1 h2=>by simp [Bk] at h1;subst h1;exact hxk) (by intro y hy;simp at hy;subst hy;rfl) hown,hW.trans hb3⟩
    case measure=>simp [intOf];omega
   ·have hm1:(AF (l.take k)).length+1≤maxLen:=by unfold maxLen;simp [Bk] at hm;omega
    have hm2:((AF (l.take k)).length+1) * 16≤140737488355328:=by simp [Bk] at hm;omega
    clear hm;go_wp2_with (at_builtin;refine Af _ rfl _ _ 84 rfl w.heap.size 38 i0 .nilIface 1 16 Tryz.underlying84 hi hz0 hz1 hz2 rfl (by decide) _ _ _ rfl (hN.row.alloc _) (some ⟨wr.heap.size,0,none⟩) 1 1 [_] rfl rfl (fun _=>⟨_,rfl,As (by simp) _ _⟩) (by intro y hy;simp at hy;subst hy;rfl) hm1 hm2 (by have:=hW.size;simp;omega) ?_;intro v3 w3 hown hgrow hat)
    go_roundw
    case rel=>
     have hb3:Below w.heap.size wr w3:=((Adk _ wr).alloc hW.size _).grown hgrow (by have:=hW.size;simp;omega) (Bi hN.row);exact ⟨k+1,_,_,by omega,by go_num,rfl,by rw [show AF (l.take (k+1))=_ from Htk.out];exact hN.push hb3 rfl (fun i h1 h2=>by simp [Bk] at h1;subst h1;exact hxk) (by intro y hy;simp at hy;subst hy;rfl) hown,hW.trans hb3⟩
    case measure=>simp [intOf];omega
   ·have hm1:(AF (l.take k)).length+1≤maxLen:=by unfold maxLen;simp [Bk] at hm;omega
    have hm2:((AF (l.take k)).length+1) * 16≤140737488355328:=by simp [Bk] at hm;omega
    clear hm;go_wp2_with (at_builtin;refine Af _ rfl _ _ 84 rfl w.heap.size 38 i0 .nilIface 1 16 Tryz.underlying84 hi hz0 hz1 hz2 rfl (by decide) _ _ _ rfl (hN.row.alloc _) (some ⟨wr.heap.size,0,none⟩) 1 1 [_] rfl rfl (fun _=>⟨_,rfl,As (by simp) _ _⟩) (by intro y hy;simp at hy;subst hy;rfl) hm1 hm2 (by have:=hW.size;simp;omega) ?_;intro v3 w3 hown hgrow hat)
    go_roundw
    case rel=>
     have hb3:Below w.heap.size wr w3:=((Adk _ wr).alloc hW.size _).grown hgrow (by have:=hW.size;simp;omega) (Bi hN.row);exact ⟨k+1,_,_,by omega,by go_num,rfl,by rw [show AF (l.take (k+1))=_ from Htk.out];exact hN.push hb3 rfl (fun i h1 h2=>by simp [Bk] at h1;subst h1;exact hxk) (by intro y hy;simp at hy;subst hy;rfl) hown,hW.trans hb3⟩
    case measure=>simp [intOf];omega
   ·have hm1:(AF (l.take k)).length+1≤maxLen:=by unfold maxLen;simp [Bk] at hm;omega
    have hm2:((AF (l.take k)).length+1) * 16≤140737488355328:=by simp [Bk] at hm;omega
    clear hm;go_wp2_with (at_builtin;refine Af _ rfl _ _ 84 rfl w.heap.size 38 i0 .nilIface 1 16 Tryz.underlying84 hi hz0 hz1 hz2 rfl (by decide) _ _ _ rfl (hN.row.alloc _) (some ⟨wr.heap.size,0,none⟩) 1 1 [_] rfl rfl (fun _=>⟨_,rfl,As (by simp) _ _⟩) (by intro y hy;simp at hy;subst hy;rfl) hm1 hm2 (by have:=hW.size;simp;omega) ?_;intro v3 w3 hown hgrow hat)
    go_roundw
    case rel=>
     have hb3:Below w.heap.size wr w3:=((Adk _ wr).alloc hW.size _).grown hgrow (by have:=hW.size;simp;omega) (Bi hN.row);exact ⟨k+1,_,_,by omega,by go_num,rfl,by rw [show AF (l.take (k+1))=_ from Htk.out];exact hN.push hb3 rfl (fun i h1 h2=>by simp [Bk] at h1;subst h1;exact hxk) (by intro y hy;simp at hy;subst hy;rfl) hown,hW.trans hb3⟩
    case measure=>simp [intOf];omega
  ·obtain rfl:k=l.length:=by omega
   rw [List.take_length] at hN;clear Hh hlt;clear hsz;generalize hm:AF l=m at hN;have hJm:∀ m',m=m'→J=(match m' with | []=>.empty | [d]=>d | ds=>.cat ds):=fun m' e=>by rw [HJ.out,←e,←hm];rfl
   clear HJ hm
   match m,hN with
   | [],hN=>
    obtain rfl:J=.empty:=hJm _ rfl;clear hJm;obtain ⟨a3,c3,rfl,_⟩:=hN.parts;go_wp2_with fail
    go_ret;exact ⟨_,rfl,⟨1,.inl rfl⟩,hW⟩
   | [d],hN=>
    obtain rfl:J=d:=hJm _ rfl;clear hJm;obtain ⟨a3,c3,rfl,hp⟩:=hN.parts;obtain ⟨b3,o3,rfl,_,hb3,hx3⟩:=hp.2.2 (by simp);obtain ⟨u3,hu3,hd3⟩:=hx3 0 (by simp);rw [Nat.add_zero] at hu3;clear hN hx3;go_wp2_with fail
    go_ret;exact ⟨_,rfl,hd3,hW⟩
   | d :: d2 :: ds,hN=>
    have hJ3:J=.cat (d :: d2 :: ds):=hJm _ rfl;clear hJm;obtain ⟨a3,c3,rfl,hp⟩:=hN.parts;have e0:((((d :: d2 :: ds).length:Nat):Int) == 0)=false:=by rw [beq_eq_false_iff_ne];simp;omega
    have e1:((((d :: d2 :: ds).length:Nat):Int) == 1)=false:=by rw [beq_eq_false_iff_ne];simp;omega
    generalize d :: d2 :: ds=m at *;have HJ3:=Ac8 hJ3;clear hN hJ3;go_wp2_with fail
    go_ret;exact ⟨_,rfl,by rw [HJ3.out];exact YF hp,hW⟩
theorem Rs {F:Nat→Prop} (l:List Nd) (a:Option Addr) (cap:Nat) (w:World) (h:AW F w l a cap) (hsz:(AF l).length≤4000000) :
  Calls Tryz.prog 143 #[.slice a l.length cap] w fun e w'=>∃ v,e=.returned v∧NdX (fun k=>(k < w.heap.size∧F k)∨w.heap.size≤k) w' (Bs l) v∧Below w.heap.size w w':=Rr (G:=F) l a cap w h hsz
theorem Lo {G F:Nat→Prop} (l:List Nd) (a:Option Addr) (cap:Nat) (w:World) (h:NP G F w l a cap) (hsz:(AG l).length≤4000000) :
  Calls Tryz.prog 128 #[.slice a l.length cap] w fun e w'=>∃ v,e=.returned v∧NdX (fun k=>(k < w.heap.size∧F k)∨w.heap.size≤k) w' (Cg l) v∧Below w.heap.size w w':=by
 obtain ⟨i0,hi,hz0,hz1,hz2⟩:=DL;have hin:=NQ h;have hlen:=hin.1;have hl2:=hin.2.1;unfold maxLen at hl2;have Hh:=Ac8 hin.2.2;clear h hin;obtain ⟨J,hJ⟩:∃ J,J=Cg l:=⟨_,rfl⟩;rw [←hJ];have HJ:=Ac8 hJ;clear hJ;go_enter Tryz.func128,Tryz.ntmps128;go_wp2_with fail
 go_loopw [3,10] (fun av i wr=>∃ (k:Nat) (us:List Value) (pv:Value),k≤l.length∧i=.int .i64 k∧pv=av∧NdOw F w.heap.size wr (AG (l.take k)) pv us∧Below w.heap.size w wr) (fun _ i _=>l.length - (intOf i).toNat)
 case atStart=>exact ⟨0,[],_,by omega,rfl,rfl,NdOw.nil _ _ _,Adk _ _⟩
 case round=>
  obtain ⟨k,us,pv,hk,rfl,hpv,hN,hW⟩:=hrel;subst hpv;by_cases hlt:k < l.length
  ·obtain ⟨b,o,rfl,hfb,hbl,hx⟩:=Hh.out (by omega)
   obtain ⟨u0,hu0,hxk⟩:=hx k hlt;replace hu0:=(hW.cell (p:=⟨b,o+k,none⟩) hbl).trans hu0;replace hxk:=FF hW hxk;have Htk:=Ac8 (KO AO l k hlt);have hm:=QL AO l (k+1);rw [Htk.out,Adh] at hm
   change (AG (l.take k)).length+(AO l[k]).length≤(AG l).length at hm
   clear hx;generalize l[k]=x at *;rcases Cb hxk with ⟨rfl,rfl | rfl⟩ | ⟨s,rfl,rfl⟩ | ⟨l',a',cap',rfl,rfl,hr⟩ | ⟨l',a',cap',rfl,rfl,hr⟩ | ⟨d',mn,mx,u,rfl,rfl,hu⟩ | ⟨num,d',u,rfl,rfl,hu⟩ | ⟨num,rfl,rfl⟩ | ⟨rfl,rfl⟩ | ⟨rfl,rfl⟩
   ·have hm1:(AG (l.take k)).length+1≤maxLen:=by unfold maxLen;simp [AO] at hm;omega
    have hm2:((AG (l.take k)).length+1) * 16≤140737488355328:=by simp [AO] at hm;omega
    clear hm;go_wp2_with (at_builtin;refine Af _ rfl _ _ 84 rfl w.heap.size 38 i0 .nilIface 1 16 Tryz.underlying84 hi hz0 hz1 hz2 rfl (by decide) _ _ _ rfl ((hN.row.alloc _).alloc _) (some ⟨wr.heap.size+1,0,none⟩) 1 1 [_] rfl rfl (fun _=>⟨_,rfl,As (by simp) _ _⟩) (by intro y hy;simp at hy;subst hy;rfl) hm1 hm2 (by have:=hW.size;simp;omega) ?_;intro v3 w3 hown hgrow hat)
    go_roundw
    case rel=>
     have hb3:Below w.heap.size wr w3:=(((Adk _ wr).alloc hW.size _).alloc (by have:=hW.size;simp;omega) _).grown hgrow (by have:=hW.size;simp;omega) (Bi hN.row);exact ⟨k+1,_,_,by omega,by go_num,rfl,by rw [show AG (l.take (k+1))=_ from Htk.out];exact hN.push hb3 rfl (fun i h1 h2=>by simp [AO] at h1;subst h1;exact hxk) (by intro y hy;simp at hy;subst hy;rfl) hown,hW.trans hb3⟩
    case measure=>simp [intOf];omega
   ·have hm1:(AG (l.take k)).length+1≤maxLen:=by unfold maxLen;simp [AO] at hm;omega
    have hm2:((AG (l.take k)).length+1) * 16≤140737488355328:=by simp [AO] at hm;omega
    clear hm;go_wp2_with (at_builtin;refine Af _ rfl _ _ 84 rfl w.heap.size 38 i0 .nilIface 1 16 Tryz.underlying84 hi hz0 hz1 hz2 rfl (by decide) _ _ _ rfl ((hN.row.alloc _).alloc _) (some ⟨wr.heap.size+1,0,none⟩) 1 1 [_] rfl rfl (fun _=>⟨_,rfl,As (by simp) _ _⟩) (by intro y hy;simp at hy;subst hy;rfl) hm1 hm2 (by have:=hW.size;simp;omega) ?_;intro v3 w3 hown hgrow hat)
    go_roundw
    case rel=>
     have hb3:Below w.heap.size wr w3:=(((Adk _ wr).alloc hW.size _).alloc (by have:=hW.size;simp;omega) _).grown hgrow (by have:=hW.size;simp;omega) (Bi hN.row);exact ⟨k+1,_,_,by omega,by go_num,rfl,by rw [show AG (l.take (k+1))=_ from Htk.out];exact hN.push hb3 rfl (fun i h1 h2=>by simp [AO] at h1;subst h1;exact hxk) (by intro y hy;simp at hy;subst hy;rfl) hown,hW.trans hb3⟩
    case measure=>simp [intOf];omega
   ·have hm1:(AG (l.take k)).length+1≤maxLen:=by unfold maxLen;simp [AO] at hm;omega
    have hm2:((AG (l.take k)).length+1) * 16≤140737488355328:=by simp [AO] at hm;omega
    clear hm;go_wp2_with (at_builtin;refine Af _ rfl _ _ 84 rfl w.heap.size 38 i0 .nilIface 1 16 Tryz.underlying84 hi hz0 hz1 hz2 rfl (by decide) _ _ _ rfl ((hN.row.alloc _).alloc _) (some ⟨wr.heap.size+1,0,none⟩) 1 1 [_] rfl rfl (fun _=>⟨_,rfl,As (by simp) _ _⟩) (by intro y hy;simp at hy;subst hy;rfl) hm1 hm2 (by have:=hW.size;simp;omega) ?_;intro v3 w3 hown hgrow hat)
    go_roundw
    case rel=>
     have hb3:Below w.heap.size wr w3:=(((Adk _ wr).alloc hW.size _).alloc (by have:=hW.size;simp;omega) _).grown hgrow (by have:=hW.size;simp;omega) (Bi hN.row);exact ⟨k+1,_,_,by omega,by go_num,rfl,by rw [show AG (l.take (k+1))=_ from Htk.out];exact hN.push hb3 rfl (fun i h1 h2=>by simp [AO] at h1;subst h1;exact hxk) (by intro y hy;simp at hy;subst hy;rfl) hown,hW.trans hb3⟩
    case measure=>simp [intOf];omega
   ·have hm1:(AG (l.take k)).length+1≤maxLen:=by unfold maxLen;simp [AO] at hm;omega
    have hm2:((AG (l.take k)).length+1) * 16≤140737488355328:=by simp [AO] at hm;omega
    clear hm;go_wp2_with (at_builtin;refine Af _ rfl _ _ 84 rfl w.heap.size 38 i0 .nilIface 1 16 Tryz.underlying84 hi hz0 hz1 hz2 rfl (by decide) _ _ _ rfl ((hN.row.alloc _).alloc _) (some ⟨wr.heap.size+1,0,none⟩) 1 1 [_] rfl rfl (fun _=>⟨_,rfl,As (by simp) _ _⟩) (by intro y hy;simp at hy;subst hy;rfl) hm1 hm2 (by have:=hW.size;simp;omega) ?_;intro v3 w3 hown hgrow hat)
    go_roundw
    case rel=>
     have hb3:Below w.heap.size wr w3:=(((Adk _ wr).alloc hW.size _).alloc (by have:=hW.size;simp;omega) _).grown hgrow (by have:=hW.size;simp;omega) (Bi hN.row);exact ⟨k+1,_,_,by omega,by go_num,rfl,by rw [show AG (l.take (k+1))=_ from Htk.out];exact hN.push hb3 rfl (fun i h1 h2=>by simp [AO] at h1;subst h1;exact hxk) (by intro y hy;simp at hy;subst hy;rfl) hown,hW.trans hb3⟩
    case measure=>simp [intOf];omega
   ·have hm1:(AG (l.take k)).length+l'.length≤maxLen:=by unfold maxLen;simp [AO] at hm;omega
    have hm2:((AG (l.take k)).length+l'.length) * 16≤140737488355328:=by simp [AO] at hm;omega
    have hA:=(Adk wr.heap.size wr).alloc (Adf _) (.cells #[.slice a' l'.length cap'] 99);obtain ⟨news,hnl,hnd,hn1,hnc⟩:=JR hr;have hnc2:0 < l'.length→∃ ad,a'=some ad∧∀ j u,news[j]?=some u→(wr.alloc (.cells #[.slice a' l'.length cap'] 99)).cell? (ad.add j)=some u:=fun h0=>by
     obtain ⟨ad,h1,b2,o2,rfl,_,hlt2,h2⟩:=hnc h0;exact ⟨_,h1,fun j u hj=>by rw [Go.WideShapes.add_plain];exact (hA.cell (p:=⟨b2,o2+j,none⟩) hlt2).trans (h2 j u hj)⟩
    clear hm hnc;go_wp2_with (at_builtin;refine Af _ rfl _ _ 84 rfl w.heap.size 38 i0 .nilIface 1 16 Tryz.underlying84 hi hz0 hz1 hz2 rfl (by decide) _ _ _ rfl (hN.row.alloc _) a' l'.length cap' news rfl (by omega) hnc2 hn1 hm1 hm2 (by have:=hW.size;simp;omega) ?_;intro v3 w3 hown hgrow hat)
    go_roundw
    case rel=>
     have hb3:Below w.heap.size wr w3:=((Adk _ wr).alloc hW.size _).grown hgrow (by have:=hW.size;simp;omega) (Bi hN.row);exact ⟨k+1,_,_,by omega,by go_num,rfl,by rw [show AG (l.take (k+1))=_ from Htk.out];exact hN.push hb3 hnl hnd hn1 hown,hW.trans hb3⟩
    case measure=>simp [intOf];omega
   ·have hm1:(AG (l.take k)).length+1≤maxLen:=by unfold maxLen;simp [AO] at hm;omega
    have hm2:((AG (l.take k)).length+1) * 16≤140737488355328:=by simp [AO] at hm;omega
    clear hm;go_wp2_with (at_builtin;refine Af _ rfl _ _ 84 rfl w.heap.size 38 i0 .nilIface 1 16 Tryz.underlying84 hi hz0 hz1 hz2 rfl (by decide) _ _ _ rfl ((hN.row.alloc _).alloc _) (some ⟨wr.heap.size+1,0,none⟩) 1 1 [_] rfl rfl (fun _=>⟨_,rfl,As (by simp) _ _⟩) (by intro y hy;simp at hy;subst hy;rfl) hm1 hm2 (by have:=hW.size;simp;omega) ?_;intro v3 w3 hown hgrow hat)
    go_roundw
    case rel=>
     have hb3:Below w.heap.size wr w3:=(((Adk _ wr).alloc hW.size _).alloc (by have:=hW.size;simp;omega) _).grown hgrow (by have:=hW.size;simp;omega) (Bi hN.row);exact ⟨k+1,_,_,by omega,by go_num,rfl,by rw [show AG (l.take (k+1))=_ from Htk.out];exact hN.push hb3 rfl (fun i h1 h2=>by simp [AO] at h1;subst h1;exact hxk) (by intro y hy;simp at hy;subst hy;rfl) hown,hW.trans hb3⟩
    case measure=>simp [intOf];omega
   ·have hm1:(AG (l.take k)).length+1≤maxLen:=by unfold maxLen;simp [AO] at hm;omega
    have hm2:((AG (l.take k)).length+1) * 16≤140737488355328:=by simp [AO] at hm;omega
    clear hm;go_wp2_with (at_builtin;refine Af _ rfl _ _ 84 rfl w.heap.size 38 i0 .nilIface 1 16 Tryz.underlying84 hi hz0 hz1 hz2 rfl (by decide) _ _ _ rfl ((hN.row.alloc _).alloc _) (some ⟨wr.heap.size+1,0,none⟩) 1 1 [_] rfl rfl (fun _=>⟨_,rfl,As (by simp) _ _⟩) (by intro y hy;simp at hy;subst hy;rfl) hm1 hm2 (by have:=hW.size;simp;omega) ?_;intro v3 w3 hown hgrow hat)
    go_roundw
    case rel=>
     have hb3:Below w.heap.size wr w3:=(((Adk _ wr).alloc hW.size _).alloc (by have:=hW.size;simp;omega) _).grown hgrow (by have:=hW.size;simp;omega) (Bi hN.row);exact ⟨k+1,_,_,by omega,by go_num,rfl,by rw [show AG (l.take (k+1))=_ from Htk.out];exact hN.push hb3 rfl (fun i h1 h2=>by simp [AO] at h1;subst h1;exact hxk) (by intro y hy;simp at hy;subst hy;rfl) hown,hW.trans hb3⟩
    case measure=>simp [intOf];omega
   ·have hm1:(AG (l.take k)).length+1≤maxLen:=by unfold maxLen;simp [AO] at hm;omega
    have hm2:((AG (l.take k)).length+1) * 16≤140737488355328:=by simp [AO] at hm;omega
    clear hm;go_wp2_with (at_builtin;refine Af _ rfl _ _ 84 rfl w.heap.size 38 i0 .nilIface 1 16 Tryz.underlying84 hi hz0 hz1 hz2 rfl (by decide) _ _ _ rfl ((hN.row.alloc _).alloc _) (some ⟨wr.heap.size+1,0,none⟩) 1 1 [_] rfl rfl (fun _=>⟨_,rfl,As (by simp) _ _⟩) (by intro y hy;simp at hy;subst hy;rfl) hm1 hm2 (by have:=hW.size;simp;omega) ?_;intro v3 w3 hown hgrow hat)
    go_roundw
    case rel=>
     have hb3:Below w.heap.size wr w3:=(((Adk _ wr).alloc hW.size _).alloc (by have:=hW.size;simp;omega) _).grown hgrow (by have:=hW.size;simp;omega) (Bi hN.row);exact ⟨k+1,_,_,by omega,by go_num,rfl,by rw [show AG (l.take (k+1))=_ from Htk.out];exact hN.push hb3 rfl (fun i h1 h2=>by simp [AO] at h1;subst h1;exact hxk) (by intro y hy;simp at hy;subst hy;rfl) hown,hW.trans hb3⟩
    case measure=>simp [intOf];omega
   ·have hm1:(AG (l.take k)).length+1≤maxLen:=by unfold maxLen;simp [AO] at hm;omega
    have hm2:((AG (l.take k)).length+1) * 16≤140737488355328:=by simp [AO] at hm;omega
    clear hm;go_wp2_with (at_builtin;refine Af _ rfl _ _ 84 rfl w.heap.size 38 i0 .nilIface 1 16 Tryz.underlying84 hi hz0 hz1 hz2 rfl (by decide) _ _ _ rfl ((hN.row.alloc _).alloc _) (some ⟨wr.heap.size+1,0,none⟩) 1 1 [_] rfl rfl (fun _=>⟨_,rfl,As (by simp) _ _⟩) (by intro y hy;simp at hy;subst hy;rfl) hm1 hm2 (by have:=hW.size;simp;omega) ?_;intro v3 w3 hown hgrow hat)
    go_roundw
    case rel=>
     have hb3:Below w.heap.size wr w3:=(((Adk _ wr).alloc hW.size _).alloc (by have:=hW.size;simp;omega) _).grown hgrow (by have:=hW.size;simp;omega) (Bi hN.row);exact ⟨k+1,_,_,by omega,by go_num,rfl,by rw [show AG (l.take (k+1))=_ from Htk.out];exact hN.push hb3 rfl (fun i h1 h2=>by simp [AO] at h1;subst h1;exact hxk) (by intro y hy;simp at hy;subst hy;rfl) hown,hW.trans hb3⟩
    case measure=>simp [intOf];omega
   ·have hm1:(AG (l.take k)).length+1≤maxLen:=by unfold maxLen;simp [AO] at hm;omega
    have hm2:((AG (l.take k)).length+1) * 16≤140737488355328:=by simp [AO] at hm;omega
    clear hm;go_wp2_with (at_builtin;refine Af _ rfl _ _ 84 rfl w.heap.size 38 i0 .nilIface 1 16 Tryz.underlying84 hi hz0 hz1 hz2 rfl (by decide) _ _ _ rfl ((hN.row.alloc _).alloc _) (some ⟨wr.heap.size+1,0,none⟩) 1 1 [_] rfl rfl (fun _=>⟨_,rfl,As (by simp) _ _⟩) (by intro y hy;simp at hy;subst hy;rfl) hm1 hm2 (by have:=hW.size;simp;omega) ?_;intro v3 w3 hown hgrow hat)
    go_roundw
    case rel=>
     have hb3:Below w.heap.size wr w3:=(((Adk _ wr).alloc hW.size _).alloc (by have:=hW.size;simp;omega) _).grown hgrow (by have:=hW.size;simp;omega) (Bi hN.row);exact ⟨k+1,_,_,by omega,by go_num,rfl,by rw [show AG (l.take (k+1))=_ from Htk.out];exact hN.push hb3 rfl (fun i h1 h2=>by simp [AO] at h1;subst h1;exact hxk) (by intro y hy;simp at hy;subst hy;rfl) hown,hW.trans hb3⟩
    case measure=>simp [intOf];omega
  ·obtain rfl:k=l.length:=by omega
   rw [List.take_length] at hN;clear Hh hlt;clear hsz;generalize hm:AG l=m at hN;have hJm:∀ m',m=m'→J=(match m' with | []=>.empty | [d]=>d | ds=>.alt ds):=fun m' e=>by rw [HJ.out,←e,←hm];rfl
   clear HJ hm
   match m,hN with
   | [],hN=>
    obtain rfl:J=.empty:=hJm _ rfl;clear hJm;obtain ⟨a3,c3,rfl,_⟩:=hN.parts;go_wp2_with fail
    go_ret;exact ⟨_,rfl,⟨1,.inl rfl⟩,hW⟩
   | [d],hN=>
    obtain rfl:J=d:=hJm _ rfl;clear hJm;obtain ⟨a3,c3,rfl,hp⟩:=hN.parts;obtain ⟨b3,o3,rfl,_,hb3,hx3⟩:=hp.2.2 (by simp);obtain ⟨u3,hu3,hd3⟩:=hx3 0 (by simp);rw [Nat.add_zero] at hu3;clear hN hx3;go_wp2_with fail
    go_ret;exact ⟨_,rfl,hd3,hW⟩
   | d :: d2 :: ds,hN=>
    have hJ3:J=.alt (d :: d2 :: ds):=hJm _ rfl;clear hJm;obtain ⟨a3,c3,rfl,hp⟩:=hN.parts;have e0:((((d :: d2 :: ds).length:Nat):Int) == 0)=false:=by rw [beq_eq_false_iff_ne];simp;omega
    have e1:((((d :: d2 :: ds).length:Nat):Int) == 1)=false:=by rw [beq_eq_false_iff_ne];simp;omega
    generalize d :: d2 :: ds=m at *;have HJ3:=Ac8 hJ3;clear hN hJ3;go_wp2_with fail
    go_ret;exact ⟨_,rfl,by rw [HJ3.out];exact YG hp,hW⟩
theorem SH {F:Nat→Prop} (l:List Nd) (a:Option Addr) (cap:Nat) (w:World) (h:AW F w l a cap) (hsz:(AG l).length≤4000000) :
  Calls Tryz.prog 128 #[.slice a l.length cap] w fun e w'=>∃ v,e=.returned v∧NdX (fun k=>(k < w.heap.size∧F k)∨w.heap.size≤k) w' (Cg l) v∧Below w.heap.size w w':=Lo (G:=F) l a cap w h hsz
end
section
open Go Go.RowKit
theorem Jb {s:List UInt8} {k:Nat} (h:AB s k=false):k < s.length:=by
 unfold AB at h;simp only [Bool.or_eq_false_iff,decide_eq_false_iff_not] at h;omega
theorem V8 {B p:Nat} {s:ByteArray} {st:ReSt} {es:List Bool} {dep:Nat} {mv cv:Value} (w:World) (h:Rd B p w s st es dep mv cv) (hen:AB s.data.toList st.pos=false) (front:Bool) (hfr:front=true∨repAt false s.data.toList st.pos=.none)
  (sub:Option (ReSt→ReRes (ReSt × Nd))) (hG:Gl w) (hB:glN≤B) (hgr:Eu B p s st es dep sub) :
  Calls Tryz.prog 154 #[.pointer (some ⟨p,0,none⟩)] w fun e w'=>BF (Dz s.data.toList sub front st) B p s dep mv cv w e w':=by
 have hsl:s.data.toList.length=s.size:=by simp
 have hlt:=Jb hen;rw [hsl] at hlt;by_cases h92:byt s.data.toList st.pos=92
 ·exact SD w h hlt h92 front hfr hen sub hG hB hgr
 ·rw [NM h92]
  by_cases h91:byt s.data.toList st.pos=91
  ·rw [M8 (by omega) h91,if_pos rfl]
   exact V6 w h hlt h91 hG hB
  ·rw [B7 h91]
   simp only [Bool.false_eq_true,if_false];by_cases h46:byt s.data.toList st.pos=46
   ·rw [M8 (by omega) h46,if_pos rfl]
    exact V5 w h hlt h46
   ·rw [B7 h46]
    simp only [Bool.false_eq_true,if_false];exact PH w h hlt h46 h91 h92
theorem Lp {B p:Nat} {s:ByteArray} {st:ReSt} {es:List Bool} {dep:Nat} {mv cv:Value} (w:World) (h:Rd B p w s st es dep mv cv) (hen:AB s.data.toList st.pos=false) (front:Bool) (hfr:front=true∨repAt false s.data.toList st.pos=.none)
  (sub:Option (ReSt→ReRes (ReSt × Nd))) (hG:Gl w) (hB:glN≤B) (hgr:Eu B p s st es dep sub) :
  Calls Tryz.prog 142 #[.pointer (some ⟨p,0,none⟩)] w fun e w'=>BF (FE s.data.toList sub front st) B p s dep mv cv w e w':=by
 have hsl:s.data.toList.length=s.size:=by simp
 have hlt:=Jb hen;rw [hsl] at hlt;unfold FE;cases hq:(chAt s.data.toList st.pos 36 && AB s.data.toList (st.pos+1)) with
 | true=>exact SG w h hlt hq
 | false=>
  exact PI w h hlt hq _ (fun n=>V8 (w.drewN n) (h.below (below_drewN (Adk _ _) n)) hen front hfr sub (hG.up (below_drewN (Adk _ _) n)) hB hgr)
theorem JS (s:List UInt8) (sub:Option (ReSt→ReRes (ReSt × Nd))) (hmv:Dx s sub) (hok:GO sub) (front:Bool) (st st':ReSt) (d:Nd) (hl:st.pos < s.length) (h:FE s sub front st=.ok (st',d)) :
  st.pos < st'.pos∧inCat d=true∧((chAt s st.pos 36 && AB s (st.pos+1))=true∨repAt false s st'.pos=.none):=by
 unfold FE at h;split at h
 ·rename_i hq
  injection h with h;injection h with h1 h2;subst h1 h2;exact ⟨show st.pos < st.pos+1 by omega,rfl,.inl hq⟩
 ·unfold JQ at h
  split at h
  ·cases h
  ·rename_i q hq
   obtain ⟨st1,d1⟩:=q;unfold Dz at hq;split at hq
   ·cases hq
   ·have h1:=DD _ _ _ hmv _ _ _ hl hq
    have h2:=EV _ _ _ hok _ _ _ hq;have h3:=FT _ _ _ _ _ _ _ h1.2 h;have h4:=J5 _ _ _ _ _ _ _ st h2.1 h2.2.1 h2.2.2 h;exact ⟨by omega,h4.2,.inr (Nh _ _ _ _ _ _ _ h)⟩
theorem M9 (s:List UInt8) (sub:Option (ReSt→ReRes (ReSt × Nd))) (n:Nat) (st:ReSt) (h:AB s st.pos=false) (h94:chAt s st.pos 94=true):branchM false s sub false st.pos (n+1) st [] true=branchM false s sub false st.pos n (st.to (st.pos+1)) [.start] true:=by
 rw [branchM];unfold AB at h;simp only [A0,Bool.false_eq_true,if_false,Bool.not_false,Bool.and_true];rw [h,h94];simp
structure NdRO (lo p:Nat) (mv cv:Value) (w:World) (l:List Nd) (v:Value) (us:List Value):Prop where
 len:us.length=l.length
 row:w.ownsRow lo 38 1 v l.length us
 nd:∀ i (h:i < l.length) (h2:i < us.length),NdX (fun b=>lo≤b∧OffR p mv cv b∧v.ownBlock≠some b) w l[i] us[i]
 one:∀ u∈us,u.oneCell'=true
 off:∀ b,v.ownBlock=some b→OffR p mv cv b
theorem NdRO.nil (lo p:Nat) (mv cv:Value) (w:World):NdRO lo p mv cv w [] (.slice none 0 0) []:=
 ⟨rfl,World.ownsRow_nil _ _ _ _,fun i h=>absurd h (by simp),fun u h=>absurd h (by simp),fun b h=>by simp [Value.ownBlock] at h⟩
theorem NdRO.step {lo p:Nat} {mv cv mv' cv':Value} {w w':World} {l:List Nd} {v:Value} {us:List Value} (h:NdRO lo p mv cv w l v us) (hS:RStep p w mv cv w' mv' cv'):NdRO lo p mv' cv' w' l v us:=by
 have hoff:=h.off;refine ⟨h.len,?_,fun i h1 h2=>(h.nd i h1 h2).keep hS.size (fun b hb hlt=>⟨⟨hb.1,(hS.keep b hb.2.1 hlt).1,hb.2.2⟩,(hS.keep b hb.2.1 hlt).2⟩),h.one,fun b hb=>?_⟩
 ·obtain ⟨h1,h2⟩:=h.row
  refine ⟨h1,?_⟩;rcases h2 with h2 | ⟨g,cap,cur,a,b,c,d⟩
  ·exact .inl h2
  ·have ho:=hoff g (by rw [a];rfl)
   exact .inr ⟨g,cap,cur,a,b,by rw [(hS.block g (Array.getElem?_eq_some_iff.1 c).1 ho.1 ho.2.1 ho.2.2).1];exact c,d⟩
 ·exact (hS.keep b (h.off b hb) (h.row.lt b hb).2).1
theorem Rd.grown {B p:Nat} {w w':World} {s:ByteArray} {st:ReSt} {es:List Bool} {dep:Nat} {mv cv:Value} {row:Option Nat} (h:Rd B p w s st es dep mv cv) (hg:w.grownBy w' row) (hrow:∀ b,row=some b→OffR p mv cv b):Rd B p w' s st es dep mv cv:=by
 have hne:∀ v:Value,(∀ b,row=some b→v.ownBlock≠some b)→v.ownBlock=none∨v.ownBlock≠row:=fun v hv=>by
  rcases hr:v.ownBlock with _ | b
  ·exact .inl rfl
  ·refine .inr (fun e=>?_)
   exact hv b e.symm hr
 refine { h with blk:=?_,mo:=h.mo.kept hg (hne _ fun b hb=>(hrow b hb).2.1),co:=h.co.kept hg (hne _ fun b hb=>(hrow b hb).2.2) };have h1:=h.blk;unfold Blk at h1 ⊢;rw [hg.block p h.blk.lt (fun e=>(hrow p e.symm).1 rfl)];exact h1
theorem RStep.after {p:Nat} {w w1 w2:World} {mv cv mv1 cv1:Value} (h:RStep p w mv cv w1 mv1 cv1) (hb:Below w.heap.size w1 w2):RStep p w mv cv w2 mv1 cv1:=
 ⟨hb.os.trans h.os,hb.tape.trans h.tape,hb.output.trans h.output,Adg h.size hb.size,fun b hlt h1 h2 h3=>by
  obtain ⟨e1,e2,e3⟩:=h.block b hlt h1 h2 h3;exact ⟨(hb.block b hlt).trans e1,e2,e3⟩⟩
theorem NdRO.push {B lo p:Nat} {mv cv:Value} {w w':World} {l:List Nd} {v v':Value} {us:List Value} {d:Nd} {u:Value} {s:ByteArray} {st:ReSt} {es:List Bool} {dep:Nat} (h:NdRO lo p mv cv w l v us) (hR:Rd B p w s st es dep mv cv)
  (hu:NdX (fun b=>lo≤b∧OffR p mv cv b∧v.ownBlock≠some b) w d u) (hu1:u.oneCell'=true) (hown:w'.ownsRow lo 38 1 v' (l.length+1) (us++[u])) (hg:w.grownBy w' v.ownBlock) (hat:v'.ownBlock=v.ownBlock∨v'.ownBlock=some w.heap.size):NdRO lo p mv cv w' (l++[d]) v' (us++[u]):=by
 have hpl:=hR.blk.lt;have hml:=fun b hb=>AA hR.mo b hb
 have hcl:=fun b hb=>AA hR.co b hb
 have hk:∀ d u,NdX (fun b=>lo≤b∧OffR p mv cv b∧v.ownBlock≠some b) w d u→NdX (fun b=>lo≤b∧OffR p mv cv b∧v'.ownBlock≠some b) w' d u:=fun d u hd=>
  hd.keep hg.size (fun b hf hlt=>⟨⟨hf.1,hf.2.1,by
   rcases hat with e | e
   ·rw [e];exact hf.2.2
   ·rw [e];intro he;injection he with he;omega⟩,fun o=>Adn (w:=w) (a:=⟨b,o,none⟩) (hg.block b hlt (fun e=>hf.2.2 e.symm))⟩)
 refine ⟨by simp [h.len],by rw [Adh];exact hown,fun i h1 h2=>?_,fun x hx=>?_,fun b hb=>?_⟩
 ·by_cases hi:i < l.length
  ·rw [List.getElem_append_left hi,List.getElem_append_left (by rw [h.len];exact hi)]
   exact hk _ _ (h.nd i hi (by rw [h.len];exact hi))
  ·have hie:i=l.length:=by simp at h1;omega
   subst hie;rw [List.getElem_append_right (Adf _),List.getElem_append_right (by rw [h.len];exact Adf _)];simp [h.len];exact hk _ _ hu
 ·rcases Adp.1 hx with hx | hx
  ·exact h.one x hx
  ·simp at hx;subst hx;exact hu1
 ·rcases hat with e | e
  ·exact h.off b (e▸hb)
  ·rw [e] at hb
   injection hb with hb;subst hb;exact ⟨by omega,fun hm=>by have:=hml _ hm;omega,fun hm=>by have:=hcl _ hm;omega⟩
theorem NdRO.parts {lo p:Nat} {mv cv:Value} {w:World} {l:List Nd} {v:Value} {us:List Value} (h:NdRO lo p mv cv w l v us):∃ a cap,v=.slice a l.length cap∧AW (fun b=>lo≤b∧OffR p mv cv b) w l a cap:=by
 have hr:=h.row;have hoff:=h.off;obtain ⟨_,h2⟩:=h.row;rcases h2 with ⟨rfl,h0⟩ | ⟨g,cap,cur,rfl,hg,hh,hn,hcap,hcs,htk⟩
 ·exact ⟨none,0,by rw [h0],by omega,by decide,fun h=>by omega⟩
 ·refine ⟨_,_,rfl,hn,hcap,fun h0=>⟨g,0,rfl,⟨hg,hoff g rfl⟩,(Array.getElem?_eq_some_iff.1 hh).1,fun i hi=>?_⟩⟩
  have hiu:i < us.length:=by rw [h.len];exact hi
  refine ⟨us[i],?_,(h.nd i hi hiu).keep (Adf _) (fun b hb _=>⟨⟨hb.1,hb.2.1⟩,fun _=>rfl⟩)⟩;rw [Nat.zero_add,hr.cellAt i (by omega),List.getElem?_eq_getElem hiu]
theorem PJ {B lo p:Nat} {mv cv:Value} {w w':World} {d:Nd} {v:Value} {s:ByteArray} {st:ReSt} {es:List Bool} {dep:Nat} (hR:Rd B p w s st es dep mv cv) (hlo:lo≤w.heap.size) (h:NdX (fun b=>(b < w.heap.size∧lo≤b∧OffR p mv cv b)∨w.heap.size≤b) w' d v):Cr lo p mv cv w' d v:=
 h.keep (Adf _) (fun b hb _=>⟨by
  rcases hb with hb | hb
  ·exact hb.2
  ·have hpl:=hR.blk.lt
   exact ⟨by omega,by omega,fun hm=>by have:=AA hR.mo _ hm;omega,fun hm=>by have:=AA hR.co _ hm;omega⟩,fun _=>rfl⟩)
end
section
open Go Go.RowKit
structure BrLoop (B p:Nat) (s:ByteArray) (dep:Nat) (mv cv:Value) (w:World) (sub:Option (ReSt→ReRes (ReSt × Nd))) (begin:Nat) (R:ReRes (ReSt × Nd)) (v:Value) (wr:World) (st':ReSt) (mv' cv':Value) (us:List Value) (parts:List Nd) (m:Nat) (front:Bool) (es':List Bool):Prop where
 r:R=branchM false s.data.toList sub false begin m st' parts front
 m:s.size < m+st'.pos
 fr:front=true∨repAt false s.data.toList st'.pos=.none
 n94:(chAt s.data.toList st'.pos 94 && decide (st'.pos=begin))=false
 rd:Rd B p wr s st' es' dep mv' cv'
 st:RStep p w mv cv wr mv' cv'
 row:NdRO w.heap.size p mv' cv' wr parts v us
 few:parts.length≤st'.pos
 all:parts.all inCat=true
 beg:begin≤st'.pos
theorem FG {B lo p:Nat} {mv cv:Value} {w w':World} {d:Nd} {v:Value} {s:ByteArray} {st:ReSt} {es:List Bool} {dep:Nat} (hR:Rd B p w s st es dep mv cv) (hlo:lo≤w.heap.size) (_:Below w.heap.size w w') (h:NdX (fun b=>(b < w.heap.size∧lo≤b∧OffR p mv cv b)∨w.heap.size≤b) w' d v):Cr lo p mv cv w' d v:=PJ hR hlo h
theorem FH {w1 w2:World} {lo:Nat} {v:Value} {e:TypeId} {n:Nat} {us:List Value} {o:Obj} (hlo:lo≤w1.heap.size) (hown:w1.ownsRow lo e 1 v n us) (hg:(w1.alloc o).grownBy w2 v.ownBlock):Below lo w1 w2:=
 ((Adk lo w1).alloc hlo _).grown hg (by simp;omega) (Bi hown)
theorem Jc {B p:Nat} {s:ByteArray} {dep:Nat} {mv cv:Value} {w:World} {sub:Option (ReSt→ReRes (ReSt × Nd))} {begin:Nat} {R:ReRes (ReSt × Nd)} {v:Value} {wr:World} {st':ReSt} {mv' cv':Value} {us:List Value} {parts:List Nd} {m':Nat} {front:Bool} {es':List Bool} {nq:Nat}
  (hL:BrLoop B p s dep mv cv w sub begin R v wr st' mv' cv' us parts (m'+1) front es') (hS9:RStep p w mv cv (wr.drewN nq) mv' cv') (hSn:RStep p wr mv' cv' (wr.drewN nq) mv' cv')
  {w2 w3:World} {mv2 cv2 v2 v3:Value} {q:ReSt × Nd} {es2:List Bool} (hS2:RStep p (wr.drewN nq) mv' cv' w2 mv2 cv2) (hR2:Rd B p w2 s q.1 es2 dep mv2 cv2) (hrow2:NdRO w.heap.size p mv2 cv2 w2 parts v us) (hN2:Cr (wr.drewN nq).heap.size p mv2 cv2 w2 q.2 v2) (hv2:v2.oneCell'=true)
  (hown:w3.ownsRow w.heap.size 38 1 v3 (parts.length+1) (us++[v2])) (hgrow:(w2.alloc (.cells #[v2] 38)).grownBy w3 v.ownBlock) (hat:v3.ownBlock=v.ownBlock∨v3.ownBlock=some (w2.alloc (.cells #[v2] 38)).heap.size)
  (hF:R=branchM false s.data.toList sub false begin m' q.1 (parts++[q.2]) (chAt s.data.toList st'.pos 36 && AB s.data.toList (st'.pos+1)))
  (hM:st'.pos < q.1.pos∧inCat q.2=true∧((chAt s.data.toList st'.pos 36 && AB s.data.toList (st'.pos+1))=true∨repAt false s.data.toList q.1.pos=.none)) :
  BrLoop B p s dep mv cv w sub begin R v3 w3 q.1 mv2 cv2 (us++[v2]) (parts++[q.2]) m' (chAt s.data.toList st'.pos 36 && AB s.data.toList (st'.pos+1)) es2:=by
 have hsz2:w.heap.size≤w2.heap.size:=Adg hS9.size hS2.size;have hA:=(Adk w2.heap.size w2).alloc (Adf _) (.cells #[v2] 38);have hRA:=hR2.below hA;have hrowA:=hrow2.step (RStep.of_below hA);have hlt:=fun b hb=>(hL.row.row.lt b hb).2
 have hbg:=hL.beg;have hm:=hL.m;have hfw:=hL.few;have hM1:=hM.1;refine ⟨hF,by omega,hM.2.2,?_,hRA.grown hgrow hrowA.off,(hS9.trans hS2).after (FH hsz2 hrow2.row hgrow),?_,by rw [Adh];simp;omega,BK hL.all hM.2.1,by omega⟩
 ·rw [decide_eq_false (show ¬ q.1.pos=begin by omega),Bool.and_false]
 ·refine hrowA.push hRA ?_ hv2 hown hgrow hat
  refine hN2.keep hA.size (fun b hb hlt2=>⟨⟨Adg hS9.size hb.1,hb.2,fun hv=>?_⟩,fun o=>hA.cell (p:=⟨b,o,none⟩) hlt2⟩);have h1:=hlt b hv;have h2:=hSn.size;have h3:=hb.1;simp at h3;omega
theorem V9 {B p:Nat} {s:ByteArray} {st:ReSt} {es:List Bool} {dep:Nat} {mv cv:Value} {w:World} {sub:Option (ReSt→ReRes (ReSt × Nd))} {R:ReRes (ReSt × Nd)} (hR0:R=branchM false s.data.toList sub false st.pos (s.data.toList.length+1) st [] true) (hsl:s.data.toList.length=s.size) (h94:chAt s.data.toList st.pos 94=true) (_:Rd B p w s st es dep mv cv)
  {w1 w3:World} {v3:Value} (hR1:Rd B p w1 s (st.to (st.pos+1)) es dep mv cv) (hS1:RStep p w mv cv w1 mv cv)
  (hown:w3.ownsRow w.heap.size 38 1 v3 (0+1) ([]++[.iface 119 (.agg #[])])) (hgrow:(w1.alloc (.cells #[.iface 119 (.agg #[])] 38)).grownBy w3 (Value.slice none 0 0).ownBlock) (hat:v3.ownBlock=(Value.slice none 0 0).ownBlock∨v3.ownBlock=some (w1.alloc (.cells #[.iface 119 (.agg #[])] 38)).heap.size) :
  BrLoop B p s dep mv cv w sub st.pos R v3 w3 (st.to (st.pos+1)) mv cv ([]++[.iface 119 (.agg #[])]) ([]++[.start]) s.data.toList.length true es:=by
 have hen:AB s.data.toList st.pos=false:=by
  have h1:=BE h94;unfold AB;rw [Ei (.inl (by omega)),Ei (.inl (by omega)),decide_eq_false (by omega)];rfl
 have hA:=(Adk w1.heap.size w1).alloc (Adf _) (.cells #[.iface 119 (.agg #[])] 38);have hRA:=hR1.below hA;have hrow:=NdRO.nil w.heap.size p mv cv (w1.alloc (.cells #[.iface 119 (.agg #[])] 38));refine ⟨hR0.trans (M9 _ _ _ _ hen h94),?_,.inl rfl,?_,hRA.grown hgrow hrow.off,hS1.after (FH hS1.size (World.ownsRow_nil _ _ _ _:w1.ownsRow w.heap.size 38 1 (.slice none 0 0) 0 []) hgrow),?_,?_,rfl,?_⟩
 ·show s.size < s.data.toList.length+(st.pos+1)
  omega
 ·show (chAt s.data.toList (st.pos+1) 94 && decide (st.pos+1=st.pos))=false
  rw [decide_eq_false (by omega),Bool.and_false]
 ·exact hrow.push hRA ⟨1,rfl⟩ rfl hown hgrow hat
 ·show 0+1≤st.pos+1
  omega
 ·show st.pos≤st.pos+1
  omega
theorem JT {B p:Nat} {s:ByteArray} {st:ReSt} {es:List Bool} {dep:Nat} {mv cv:Value} (w:World) (h:Rd B p w s st es dep mv cv)
  (sub:Option (ReSt→ReRes (ReSt × Nd))) (hmv:Dx s.data.toList sub) (hok:GO sub) (hG:Gl w) (hB:glN≤B) (hgr:∀ st es,Eu B p s st es dep sub) :
  Calls Tryz.prog 126 #[.pointer (some ⟨p,0,none⟩)] w fun e w'=>BF (branchM false s.data.toList sub false st.pos (s.data.toList.length+1) st [] true) B p s dep mv cv w e w':=by
 have hsm:=h.small;have hps:=h.pos;have hsl:s.data.toList.length=s.size:=by simp
 obtain ⟨i0,hi,hz0,hz1,hz2⟩:=DL;obtain ⟨R,hR0⟩:∃ R,R=branchM false s.data.toList sub false st.pos (s.data.toList.length+1) st [] true:=⟨_,rfl⟩;rw [←hR0];have HR0:=Ac8 hR0;have HSL:=Ac8 hsl;have HGl:=Ac8 hG;have H:=Ac8 h;have hwB:B≤w.heap.size:=Adg h.bp (Adj h.blk.lt);clear hR0 hsl hG;go_enter Tryz.func126,Tryz.ntmps126;cases h94:chAt s.data.toList st.pos 94 with
 | false=>
  have hsk:=Hj ⟨#[94]⟩ w h ((Dw _ _ 94 (by decide)).trans h94);have H94:=Ac8 h94;clear h h94;go_wp2_with fail
  refine hsk.mono ?_;rintro e w1 ⟨rfl,n,rfl⟩;clear hsk;go_wp2_with fail
  go_loopw [3] (fun v wr=>∃ (st':ReSt) (mv' cv':Value) (us:List Value) (parts:List Nd) (m:Nat) (front:Bool) (es':List Bool),BrLoop B p s dep mv cv w sub st.pos R v wr st' mv' cv' us parts m front es') (fun _ wr=>s.size - (intOf ((wr.cell? ⟨p,1,none⟩).getD undef)).toNat)
  case atStart=>exact ⟨st,mv,cv,[],[],_,true,es,⟨HR0.out,by rw [HSL.out];omega,.inl rfl,by rw [H94.out];rfl,H.out.below (below_drewN (Adk _ _) n),RStep.of_below (below_drewN (Adk _ _) n),NdRO.nil _ _ _ _ _,by simp,rfl,Adf _⟩⟩
  case round=>
   obtain ⟨st',mv',cv',us,parts,m,front,es',hL⟩:=hrel;have hR:=hL.rd;obtain ⟨c0,c1,c2,c3,c4,z1,z2,z3,z4⟩:=hR.cells;have hp1:(st'.pos:Int)≤(s.size:Int):=by have:=hR.pos;omega
   have hbe:=fun w=>FZ s st'.pos w
   have HL:=Ac8 hL;have hm0:0 < m:=by have:=hL.m;have:=hR.pos;omega
   obtain ⟨m',rfl⟩:∃ m',m=m'+1:=⟨m - 1,by omega⟩;clear hm0 hL hR;cases hen:AB s.data.toList st'.pos with
   | true=>
    rw [hen] at hbe;have HE:=Ac8 hen;clear hen;go_wp2_with fail
    go_quiet (first | (go_at_call 141;exact Calls.quiet_of_same ((hbe _).mono fun _ _ h=>⟨h.1,h.2.symm⟩)))
    have hbn:=below_drewN (Adk wr.heap.size wr) nq;have hSn:=RStep.of_below (p:=p) (mv:=mv') (cv:=cv') hbn;have hRn:=HL.out.rd.below hbn;have hrow:=HL.out.row.step hSn;obtain ⟨a,cap,hv,hrw⟩:=hrow.parts;subst hv;have hjf:(AF parts).length≤4000000:=by
     rw [ED _ HL.out.all];have:=HL.out.few;have:=hRn.pos;omega
    have hj:=Rs parts a cap (wr.drewN nq) hrw hjf;have HRn:=Ac8 hRn;have HS9:=Ac8 (HL.out.st.trans hSn);clear hbn hSn hRn hrow hrw hjf hbe c0 c1 c2 c3 c4 z1 z2 z3 z4;go_wp2_with fail
    refine hj.mono ?_;rintro e w5 ⟨v5,rfl,hn5,b5⟩;have HN5:=Ac8 hn5;have HB5:=Ac8 b5;clear hn5 b5 hj;go_wp2_with fail
    go_ret;have hlo:w.heap.size≤(wr.drewN nq).heap.size:=HS9.out.size;have hB5:Below w.heap.size (wr.drewN nq) w5:=HB5.out.mono hlo;exact AK (HL.out.r.trans (J6 _ _ _ _ _ _ _ HE.out)) (HS9.out.after hB5) (HRn.out.below HB5.out) (FG HRn.out hlo HB5.out HN5.out)
   | false=>
    rw [hen] at hbe;have HE:=Ac8 hen;have hlt:=Jb hen;rw [HSL.out] at hlt;have HLT:=Ac8 hlt;clear hen hlt;go_wp2_with fail
    go_quiet (first | (go_at_call 141;exact Calls.quiet_of_same ((hbe _).mono fun _ _ h=>⟨h.1,h.2.symm⟩)))
    have hbn:=below_drewN (Adk wr.heap.size wr) nq;have hSn:=RStep.of_below (p:=p) (mv:=mv') (cv:=cv') hbn;have hRn:=HL.out.rd.below hbn;have hGn:=HGl.out.step (HL.out.st.trans hSn) H.out hB;have hpc:=Lp (wr.drewN nq) hRn HE.out front HL.out.fr sub hGn hB (hgr _ _);have HRow:=Ac8 (HL.out.row.step hSn);have HS9:=Ac8 (HL.out.st.trans hSn);have HSn:=Ac8 hSn;clear hbn hSn hRn hGn hbe c0 c1 c2 c3 c4 z1 z2 z3 z4;go_wp2_with fail
    refine hpc.mono ?_;intro e w2 hA;obtain ⟨mv2,cv2,hS2,hr⟩:=hA;have HS2:=Ac8 hS2;have hstep:=HL.out.r.trans (II _ _ _ _ _ _ _ HE.out HL.out.n94);have hpm:=JS s.data.toList sub hmv hok front st';have HPM:=Ac8 hpm;clear hS2 hpc hpm;cases hP:FE s.data.toList sub front st' with
    | error q=>
     rw [hP] at hr hstep;obtain rfl:e=_:=hr;have HF:=Ac8 hstep;clear hstep hP;go_wp2_with fail
     exact ⟨rfl,Az HF.out (HS9.out.trans HS2.out) rfl⟩
    | ok q=>
     rw [hP] at hr hstep;obtain ⟨es2,v2,rfl,hR2,hN2⟩:=hr;have hmm:=HPM.out q.1 q.2 (by rw [HSL.out];exact HLT.out) hP;have HF:=Ac8 hstep;have HMM:=Ac8 hmm;have HR2:=Ac8 hR2;have hrow2:=HRow.out.step HS2.out;have HRow2:=Ac8 hrow2;have hq2:=hR2.pos;have hfw:=HL.out.few;have hm1:parts.length+1≤maxLen:=by unfold maxLen;omega
     have hm2:(parts.length+1) * 16≤140737488355328:=by omega
     have hown2:=hrow2.row;have hsz2:w.heap.size≤w2.heap.size:=Adg HS9.out.size HS2.out.size;have HN2:=Ac8 hN2;obtain ⟨nn,hnn⟩:=hN2;clear hstep hP hmm hR2 hrow2 hq2 hfw;rcases Av hnn with ⟨T,x,rfl⟩ | rfl
     all_goals
      clear hnn;go_wp2_with (at_builtin;refine Af _ rfl _ _ 84 rfl w.heap.size 38 i0 .nilIface 1 16 Tryz.underlying84 hi hz0 hz1 hz2 rfl (by decide) _ _ _ rfl (hown2.alloc _) (some ⟨w2.heap.size,0,none⟩) 1 1 [_] rfl rfl (fun _=>⟨_,rfl,As (by simp) _ _⟩) (by intro y hy;simp at hy;subst hy;rfl) hm1 hm2 (by simp;omega) ?_;intro v3 w3 hown hgrow hat)
      have HO:=Ac8 hown;have HGr:=Ac8 hgrow;have HAt:=Ac8 hat
      clear hown hgrow hat;go_roundw
      case rel=>
       refine ⟨q.1,mv2,cv2,_,_,m',_,es2,Jc HL.out HS9.out HSn.out HS2.out HR2.out HRow2.out HN2.out rfl HO.out HGr.out HAt.out HF.out HMM.out⟩
      case measure=>
       have h1:=(Jc HL.out HS9.out HSn.out HS2.out HR2.out HRow2.out HN2.out rfl HO.out HGr.out HAt.out HF.out HMM.out).rd.cells.c1;have h2:=HL.out.rd.cells.c1;rw [h1,h2];have h3:=HMM.out.1;have h4:=HR2.out.pos;simp only [Option.getD_some,intOf];omega
 | true=>
  have hsk:=FC ⟨#[94]⟩ w h ((Dw _ _ 94 (by decide)).trans h94) (by simp);rw [show (ByteArray.mk #[94]).size=1 from rfl] at hsk;have H94:=Ac8 h94;clear h h94;go_wp2_with fail
  refine hsk.mono ?_;rintro e w1 ⟨rfl,hR1,hS1⟩;have HR1:=Ac8 hR1;have HS1:=Ac8 hS1;have hsz1:=hS1.size;have hown1:w1.ownsRow w.heap.size 38 1 (.slice none 0 0) 0 []:=World.ownsRow_nil _ _ _ _;clear hsk hR1 hS1;go_wp2_with (at_builtin;refine Af _ rfl _ _ 84 rfl w.heap.size 38 i0 .nilIface 1 16 Tryz.underlying84 hi hz0 hz1 hz2 rfl (by decide) _ _ _ rfl (hown1.alloc _) (some ⟨w1.heap.size,0,none⟩) 1 1 [_] rfl rfl (fun _=>⟨_,rfl,As (by simp) _ _⟩) (by intro y hy;simp at hy;subst hy;rfl) (by decide) (by decide) (by simp;omega) ?_;intro v3 w3 hown hgrow hat)
  have HO:=Ac8 hown;have HGr:=Ac8 hgrow;have HAt:=Ac8 hat
  clear hown hgrow hat;go_loopw [3] (fun v wr=>∃ (st':ReSt) (mv' cv':Value) (us:List Value) (parts:List Nd) (m:Nat) (front:Bool) (es':List Bool),BrLoop B p s dep mv cv w sub st.pos R v wr st' mv' cv' us parts m front es') (fun _ wr=>s.size - (intOf ((wr.cell? ⟨p,1,none⟩).getD undef)).toNat)
  case atStart=>exact ⟨st.to (st.pos+1),mv,cv,_,_,_,true,es,V9 HR0.out HSL.out H94.out H.out HR1.out HS1.out HO.out HGr.out HAt.out⟩
  case round=>
   obtain ⟨st',mv',cv',us,parts,m,front,es',hL⟩:=hrel;have hR:=hL.rd;obtain ⟨c0,c1,c2,c3,c4,z1,z2,z3,z4⟩:=hR.cells;have hp1:(st'.pos:Int)≤(s.size:Int):=by have:=hR.pos;omega
   have hbe:=fun w=>FZ s st'.pos w
   have HL:=Ac8 hL;have hm0:0 < m:=by have:=hL.m;have:=hR.pos;omega
   obtain ⟨m',rfl⟩:∃ m',m=m'+1:=⟨m - 1,by omega⟩;clear hm0 hL hR;cases hen:AB s.data.toList st'.pos with
   | true=>
    rw [hen] at hbe;have HE:=Ac8 hen;clear hen;go_wp2_with fail
    go_quiet (first | (go_at_call 141;exact Calls.quiet_of_same ((hbe _).mono fun _ _ h=>⟨h.1,h.2.symm⟩)))
    have hbn:=below_drewN (Adk wr.heap.size wr) nq;have hSn:=RStep.of_below (p:=p) (mv:=mv') (cv:=cv') hbn;have hRn:=HL.out.rd.below hbn;have hrow:=HL.out.row.step hSn;obtain ⟨a,cap,hv,hrw⟩:=hrow.parts;subst hv;have hjf:(AF parts).length≤4000000:=by
     rw [ED _ HL.out.all];have:=HL.out.few;have:=hRn.pos;omega
    have hj:=Rs parts a cap (wr.drewN nq) hrw hjf;have HRn:=Ac8 hRn;have HS9:=Ac8 (HL.out.st.trans hSn);clear hbn hSn hRn hrow hrw hjf hbe c0 c1 c2 c3 c4 z1 z2 z3 z4;go_wp2_with fail
    refine hj.mono ?_;rintro e w5 ⟨v5,rfl,hn5,b5⟩;have HN5:=Ac8 hn5;have HB5:=Ac8 b5;clear hn5 b5 hj;go_wp2_with fail
    go_ret;have hlo:w.heap.size≤(wr.drewN nq).heap.size:=HS9.out.size;have hB5:Below w.heap.size (wr.drewN nq) w5:=HB5.out.mono hlo;exact AK (HL.out.r.trans (J6 _ _ _ _ _ _ _ HE.out)) (HS9.out.after hB5) (HRn.out.below HB5.out) (FG HRn.out hlo HB5.out HN5.out)
   | false=>
    rw [hen] at hbe;have HE:=Ac8 hen;have hlt:=Jb hen;rw [HSL.out] at hlt;have HLT:=Ac8 hlt;clear hen hlt;go_wp2_with fail
    go_quiet (first | (go_at_call 141;exact Calls.quiet_of_same ((hbe _).mono fun _ _ h=>⟨h.1,h.2.symm⟩)))
    have hbn:=below_drewN (Adk wr.heap.size wr) nq;have hSn:=RStep.of_below (p:=p) (mv:=mv') (cv:=cv') hbn;have hRn:=HL.out.rd.below hbn;have hGn:=HGl.out.step (HL.out.st.trans hSn) H.out hB;have hpc:=Lp (wr.drewN nq) hRn HE.out front HL.out.fr sub hGn hB (hgr _ _);have HRow:=Ac8 (HL.out.row.step hSn);have HS9:=Ac8 (HL.out.st.trans hSn);have HSn:=Ac8 hSn;clear hbn hSn hRn hGn hbe c0 c1 c2 c3 c4 z1 z2 z3 z4;go_wp2_with fail
    refine hpc.mono ?_;intro e w2 hA;obtain ⟨mv2,cv2,hS2,hr⟩:=hA;have HS2:=Ac8 hS2;have hstep:=HL.out.r.trans (II _ _ _ _ _ _ _ HE.out HL.out.n94);have hpm:=JS s.data.toList sub hmv hok front st';have HPM:=Ac8 hpm;clear hS2 hpc hpm;cases hP:FE s.data.toList sub front st' with
    | error q=>
     rw [hP] at hr hstep;obtain rfl:e=_:=hr;have HF:=Ac8 hstep;clear hstep hP;go_wp2_with fail
     exact ⟨rfl,Az HF.out (HS9.out.trans HS2.out) rfl⟩
    | ok q=>
     rw [hP] at hr hstep;obtain ⟨es2,v2,rfl,hR2,hN2⟩:=hr;have hmm:=HPM.out q.1 q.2 (by rw [HSL.out];exact HLT.out) hP;have HF:=Ac8 hstep;have HMM:=Ac8 hmm;have HR2:=Ac8 hR2;have hrow2:=HRow.out.step HS2.out;have HRow2:=Ac8 hrow2;have hq2:=hR2.pos;have hfw:=HL.out.few;have hm1:parts.length+1≤maxLen:=by unfold maxLen;omega
     have hm2:(parts.length+1) * 16≤140737488355328:=by omega
     have hown2:=hrow2.row;have hsz2:w.heap.size≤w2.heap.size:=Adg HS9.out.size HS2.out.size;have HN2:=Ac8 hN2;obtain ⟨nn,hnn⟩:=hN2;clear hstep hP hmm hR2 hrow2 hq2 hfw;rcases Av hnn with ⟨T,x,rfl⟩ | rfl
     all_goals
      clear hnn;go_wp2_with (at_builtin;refine Af _ rfl _ _ 84 rfl w.heap.size 38 i0 .nilIface 1 16 Tryz.underlying84 hi hz0 hz1 hz2 rfl (by decide) _ _ _ rfl (hown2.alloc _) (some ⟨w2.heap.size,0,none⟩) 1 1 [_] rfl rfl (fun _=>⟨_,rfl,As (by simp) _ _⟩) (by intro y hy;simp at hy;subst hy;rfl) hm1 hm2 (by simp;omega) ?_;intro v3 w3 hown hgrow hat)
      have HO:=Ac8 hown;have HGr:=Ac8 hgrow;have HAt:=Ac8 hat
      clear hown hgrow hat;go_roundw
      case rel=>
       refine ⟨q.1,mv2,cv2,_,_,m',_,es2,Jc HL.out HS9.out HSn.out HS2.out HR2.out HRow2.out HN2.out rfl HO.out HGr.out HAt.out HF.out HMM.out⟩
      case measure=>
       have h1:=(Jc HL.out HS9.out HSn.out HS2.out HR2.out HRow2.out HN2.out rfl HO.out HGr.out HAt.out HF.out HMM.out).rd.cells.c1;have h2:=HL.out.rd.cells.c1;rw [h1,h2];have h3:=HMM.out.1;have h4:=HR2.out.pos;simp only [Option.getD_some,intOf];omega
end
end Go.Proofs.YteilldmmihiijaaGreatDoor
