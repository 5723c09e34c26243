/- The proof's texts NdJoin: what the claim reaches of them. -/
import Derived.Test.YtbgfankoojjejaaGreatDoorGd12
import Derived.Test.YtbgfankoojjejaaGreatDoorGd01
import Derived.Test.YtbgfankoojjejaaGreatDoorGd02
import Derived.Maps.AppendAt
import Derived.WalkSmall
import Derived.Deep.Slices
set_option linter.unusedSimpArgs false
set_option linter.unusedVariables false
set_option maxHeartbeats 8000000
set_option maxRecDepth 1000000
namespace Go.Proofs.YtbgfankoojjejaaGreatDoor
open Go Go.RowKit
theorem node_info:∃ i,Tryz.prog.info? 26=some i∧i.zero=some .nilIface∧i.size=1∧i.bytes=16:=by
 have h:(Tryz.prog.info? 26).map (fun i=>(i.zero,i.size,i.bytes))=some (some .nilIface,1,16):=by kernel_rfl
 obtain ⟨i,hi,he⟩:=Option.map_eq_some_iff.1 h
 injection he with h1 h2
 injection h2 with h2 h3
 exact ⟨i,hi,h1,h2,h3⟩
structure NdOw (F:Nat→Prop) (B:Nat) (w:World) (l:List Nd) (v:Value) (us:List Value):Prop where
 len:us.length=l.length
 row:w.ownsRow B 26 1 v l.length us
 nd:∀ i (h:i < l.length) (h2:i < us.length),NdX (fun k=>k < B∧F k) w l[i] us[i]
 one:∀ u∈us,u.oneCell'=true
theorem NdOw.nil (F:Nat→Prop) (B:Nat) (w:World):NdOw F B w [] (.slice none 0 0) []:=⟨rfl,World.ownsRow_nil _ _ _ _,fun i h=>absurd h (by simp),fun u h=>absurd h (by simp)⟩
theorem ndx_lowB {F:Nat→Prop} {B:Nat} {w w':World} (hb:Below B w w') {d:Nd} {v:Value} (h:NdX (fun k=>k < B∧F k) w d v):NdX (fun k=>k < B∧F k) w' d v:=
 h.keep hb.size (fun _ hf _=>⟨hf,fun o=>hb.cell (p:=⟨_,o,none⟩) hf.1⟩)
theorem NdOw.mem {F:Nat→Prop} {B:Nat} {w w':World} {l:List Nd} {v:Value} {us:List Value} (h:NdOw F B w l v us) (hb:Below w.heap.size w w') (hB:B≤w.heap.size):NdOw F B w' l v us:=
 ⟨h.len,h.row.kept ⟨hb.os,hb.tape,hb.output,hb.size,fun k hk _=>hb.block k hk⟩ (by
  rcases hv:v.ownBlock with _ | g
  ·exact .inl rfl
  ·exact .inr (by simp:some g≠none)),fun i h1 h2=>ndx_lowB (hb.mono hB) (h.nd i h1 h2),h.one⟩
theorem NdOw.push {F:Nat→Prop} {B:Nat} {w w':World} {l m:List Nd} {v v':Value} {us news:List Value} (h:NdOw F B w l v us) (hb:Below B w w') (hl:news.length=m.length) (hn:∀ i (h1:i < m.length) (h2:i < news.length),NdX (fun k=>k < B∧F k) w m[i] news[i]) (h1:∀ u∈news,u.oneCell'=true)
  (hown:w'.ownsRow B 26 1 v' (l.length+m.length) (us++news)):NdOw F B w' (l++m) v' (us++news):=by
 refine ⟨by simp [h.len,hl],by rw [List.length_append];exact hown,fun i g1 g2=>?_,fun u hu=>(List.mem_append.1 hu).elim (h.one u) (h1 u)⟩
 by_cases hi:i < l.length
 ·rw [List.getElem_append_left hi,List.getElem_append_left (by rw [h.len];exact hi)]
  exact ndx_lowB hb (h.nd i hi (by rw [h.len];exact hi))
 ·rw [List.getElem_append_right (by omega),List.getElem_append_right (by rw [h.len];omega)]
  simp only [h.len]
  exact ndx_lowB hb (hn _ (by simp at g1;omega) (by simp at g1;omega))
theorem NdOw.parts {F:Nat→Prop} {B:Nat} {w:World} {l:List Nd} {v:Value} {us:List Value} (h:NdOw F B w l v us):∃ a cap,v=.slice a l.length cap∧NdRw (fun k=>(k < B∧F k)∨B≤k) w l a cap:=by
 have hr:=h.row
 obtain ⟨_,h2⟩:=h.row
 rcases h2 with ⟨rfl,h0⟩ | ⟨g,cap,cur,rfl,hg,hh,hn,hcap,hcs,htk⟩
 ·exact ⟨none,0,by rw [h0],by omega,by decide,fun h=>by omega⟩
 ·refine ⟨_,_,rfl,hn,hcap,fun h0=>⟨g,0,rfl,.inr hg,(Array.getElem?_eq_some_iff.1 hh).1,fun i hi=>?_⟩⟩
  have hiu:i < us.length:=by rw [h.len];exact hi
  refine ⟨us[i],?_,(h.nd i hi hiu).keep (Nat.le_refl _) (fun _ hf _=>⟨.inl hf,fun _=>rfl⟩)⟩
  rw [Nat.zero_add,hr.cellAt i (by omega),List.getElem?_eq_getElem hiu]
theorem ndrw_cells {F:Nat→Prop} {w:World} {l:List Nd} {a:Option Addr} {cap:Nat} (h:NdRw F w l a cap):∃ news:List Value,news.length=l.length∧(∀ i (h1:i < l.length) (h2:i < news.length),NdX F w l[i] news[i])∧(∀ u∈news,u.oneCell'=true)∧
  (0 < l.length→∃ ad,a=some ad∧∃ b o,ad=⟨b,o,none⟩∧F b∧b < w.heap.size∧∀ j u,news[j]?=some u→w.cell? ⟨b,o+j,none⟩=some u):=by
 by_cases h0:0 < l.length
 ·obtain ⟨b,o,rfl,hf,hb,hx⟩:=h.2.2 h0
  have hone:∀ i,i < l.length→∃ u,w.cell? ⟨b,o+i,none⟩=some u∧∀ h:i < l.length,NdX F w l[i] u:=fun i hi=>by
   obtain ⟨u,h1,h2⟩:=hx i hi
   exact ⟨u,h1,fun _=>h2⟩
  obtain ⟨Q,hQ⟩:=Go.Deep.choose_lt hone
  refine ⟨(List.range l.length).map Q,by simp,fun i h1 h2=>?_,fun u hu=>?_,fun _=>⟨_,rfl,b,o,rfl,hf,hb,fun j u hj=>?_⟩⟩
  ·rw [List.getElem_map,List.getElem_range]
   exact (hQ i h1).2 h1
  ·obtain ⟨i,hi,rfl⟩:=List.mem_map.1 hu
   have hi:=List.mem_range.1 hi
   obtain ⟨_,hn⟩:=(hQ i hi).2 hi
   rcases nd_shape hn with ⟨T,p,e⟩ | e <;> rw [e] <;> rfl
  ·rw [List.getElem?_map] at hj
   obtain ⟨i,hi,he⟩:=Option.map_eq_some_iff.1 hj
   obtain ⟨hlt,he2⟩:=List.getElem?_eq_some_iff.1 hi
   simp at hlt he2
   subst he2
   rw [←he]
   exact (hQ j hlt).1
 ·obtain rfl:l=[]:=List.eq_nil_of_length_eq_zero (by omega)
  exact ⟨[],rfl,fun i h1=>absurd h1 (by simp),fun u hu=>absurd hu (by simp),fun h=>absurd h (by simp)⟩
theorem cell_one_at {w:World} {k:Nat} (hk:w.heap.size=k) (v:Value) (t:TypeId):∀ j u,[v][j]?=some u→(w.alloc (.cells #[v] t)).cell? ((⟨k,0,none⟩:Addr).add j)=some u:=by
 subst hk
 exact cell_one_new w v t
theorem own_low {w:World} {base:Nat} {e:TypeId} {size:Nat} {v:Value} {n:Nat} {xs:List Value} (h:w.ownsRow base e size v n xs):∀ k,v.ownBlock=some k→base≤k:=fun k hk=>(h.lt k hk).1
theorem ndx_deep {F:Nat→Prop} {w:World} {l:List Nd} {a:Option Addr} {cap:Nat} (h:NdRw F w l a cap):∃ n,NdRow F n w l a cap:=by
 have hone:∀ i,i < l.length→∃ n:Nat,∀ (h:i < l.length) (b o:Nat),a=some ⟨b,o,none⟩→∃ u,w.cell? ⟨b,o+i,none⟩=some u∧NdAt F n w l[i] u:=fun i hi=>by
  obtain ⟨b,o,rfl,_,_,hx⟩:=h.2.2 (by omega)
  obtain ⟨u,hu,n,hn⟩:=hx i hi
  exact ⟨n,fun _ b' o' e=>by cases e;exact ⟨u,hu,hn⟩⟩
 obtain ⟨Q,hQ⟩:=Go.Deep.choose_lt hone
 obtain ⟨N,hN⟩:∃ N,∀ i,i < l.length→Q i≤N:=Go.Deep.fuel_lt (q:=fun i N=>Q i≤N) (fun _ _ _ h h2=>Nat.le_trans h2 h) fun i _=>⟨_,Nat.le_refl _⟩
 refine ⟨N,h.1,h.2.1,fun h0=>?_⟩
 obtain ⟨b,o,rfl,hf,hb,_⟩:=h.2.2 h0
 refine ⟨b,o,rfl,hf,hb,fun i hi=>?_⟩
 obtain ⟨u,hu,hn⟩:=hQ i hi hi b o rfl
 exact ⟨u,hu,NdAt.more _ _ _ _ (hN i hi) hn⟩
theorem ndx_cat {F:Nat→Prop} {w:World} {l:List Nd} {a:Option Addr} {cap:Nat} (h:NdRw F w l a cap):NdX F w (.cat l) (.iface 121 (.agg #[.slice a l.length cap])):=by
 obtain ⟨n,hn⟩:=ndx_deep h
 exact ⟨n+1,a,cap,rfl,hn⟩
theorem ndx_alt {F:Nat→Prop} {w:World} {l:List Nd} {a:Option Addr} {cap:Nat} (h:NdRw F w l a cap):NdX F w (.alt l) (.iface 122 (.agg #[.slice a l.length cap])):=by
 obtain ⟨n,hn⟩:=ndx_deep h
 exact ⟨n+1,a,cap,rfl,hn⟩
def NdRg (G F:Nat→Prop) (w:World) (l:List Nd) (a:Option Addr) (cap:Nat):Prop:=
 l.length≤cap∧cap≤maxLen∧(0 < l.length→∃ b o,a=some ⟨b,o,none⟩∧G b∧b < w.heap.size∧∀ i (h:i < l.length),∃ u,w.cell? ⟨b,o+i,none⟩=some u∧NdX F w l[i] u)
theorem ndrg_inF {G F:Nat→Prop} {w:World} {l:List Nd} {a:Option Addr} {cap:Nat} (h:NdRg G F w l a cap):NdRg G (fun k=>k < w.heap.size∧F k) w l a cap:=
 ⟨h.1,h.2.1,fun h0=>by
  obtain ⟨b,o,e,hG,hl,hx⟩:=h.2.2 h0
  exact ⟨b,o,e,hG,hl,fun i hi=>by obtain ⟨u,hu,hn⟩:=hx i hi;exact ⟨u,hu,hn.keep (Nat.le_refl _) (fun _ hf hlt=>⟨⟨hlt,hf⟩,fun _=>rfl⟩)⟩⟩⟩
theorem pjoin_g {G F:Nat→Prop} (l:List Nd) (a:Option Addr) (cap:Nat) (w:World) (h:NdRg G F w l a cap) (hsz:(jflat l).length≤4000000) :
  Calls Tryz.prog 125 #[.slice a l.length cap] w fun e w'=>∃ v,e=.returned v∧NdX (fun k=>(k < w.heap.size∧F k)∨w.heap.size≤k) w' (njoin l) v∧Below w.heap.size w w':=by
 obtain ⟨i0,hi,hz0,hz1,hz2⟩:=node_info
 have hin:=ndrg_inF h
 have hlen:=hin.1
 have hl2:=hin.2.1
 unfold maxLen at hl2
 have Hh:=Lib.hid hin.2.2
 clear h hin
 obtain ⟨J,hJ⟩:∃ J,J=njoin l:=⟨_,rfl⟩
 rw [←hJ]
 have HJ:=Lib.hid hJ
 clear hJ
 go_enter Tryz.func125,Tryz.ntmps125
 go_wp2_with fail
 go_loopw [3,11] (fun av i wr=>∃ (k:Nat) (us:List Value) (pv:Value),k≤l.length∧i=.int .i64 k∧pv=av∧NdOw F w.heap.size wr (jflat (l.take k)) pv us∧Below w.heap.size w wr) (fun _ i _=>l.length - (intOf i).toNat)
 case atStart=>exact ⟨0,[],_,by omega,rfl,rfl,NdOw.nil _ _ _,Below.refl _ _⟩
 case round=>
  obtain ⟨k,us,pv,hk,rfl,hpv,hN,hW⟩:=hrel
  subst hpv
  by_cases hlt:k < l.length
  ·obtain ⟨b,o,rfl,hfb,hbl,hx⟩:=Hh.out (by omega)
   obtain ⟨u0,hu0,hxk⟩:=hx k hlt
   replace hu0:=(hW.cell (p:=⟨b,o+k,none⟩) hbl).trans hu0
   replace hxk:=ndx_lowB hW hxk
   have Htk:=Lib.hid (flat_take jpart l k hlt)
   have hm:=flat_le jpart l (k+1)
   rw [Htk.out,List.length_append] at hm
   change (jflat (l.take k)).length+(jpart l[k]).length≤(jflat l).length at hm
   clear hx
   generalize l[k]=x at *
   rcases nd_kinds hxk with ⟨rfl,rfl | rfl⟩ | ⟨s,rfl,rfl⟩ | ⟨l',a',cap',rfl,rfl,hr⟩ | ⟨l',a',cap',rfl,rfl,hr⟩ | ⟨d',mn,mx,u,rfl,rfl,hu⟩ | ⟨num,d',u,rfl,rfl,hu⟩ | ⟨num,rfl,rfl⟩ | ⟨rfl,rfl⟩ | ⟨rfl,rfl⟩
   ·go_wp2_with fail
    go_roundw
    case rel=>exact ⟨k+1,us,_,by omega,by go_num,rfl,by rw [show jflat (l.take (k+1))=jflat (l.take k) from Htk.out.trans (List.append_nil _)];exact hN,hW⟩
    case measure=>simp [intOf];omega
   ·go_wp2_with fail
    go_roundw
    case rel=>exact ⟨k+1,us,_,by omega,by go_num,rfl,by rw [show jflat (l.take (k+1))=jflat (l.take k) from Htk.out.trans (List.append_nil _)];exact hN,hW⟩
    case measure=>simp [intOf];omega
   ·have hm1:(jflat (l.take k)).length+1≤maxLen:=by unfold maxLen;simp [jpart] at hm;omega
    have hm2:((jflat (l.take k)).length+1) * 16≤140737488355328:=by simp [jpart] at hm;omega
    clear hm
    go_wp2_with (at_builtin;refine wpList_append_any _ rfl _ _ 88 rfl w.heap.size 26 i0 .nilIface 1 16 Tryz.underlying88 hi hz0 hz1 hz2 rfl (by decide) _ _ _ rfl (hN.row.alloc _) (some ⟨wr.heap.size,0,none⟩) 1 1 [_] rfl rfl (fun _=>⟨_,rfl,cell_one_at (by simp) _ _⟩) (by intro y hy;simp at hy;subst hy;rfl) hm1 hm2 (by have:=hW.size;simp;omega) ?_;intro v3 w3 hown hgrow hat)
    go_roundw
    case rel=>
     have hb3:Below w.heap.size wr w3:=((Below.refl _ wr).alloc hW.size _).grown hgrow (by have:=hW.size;simp;omega) (own_low hN.row)
     exact ⟨k+1,_,_,by omega,by go_num,rfl,by rw [show jflat (l.take (k+1))=_ from Htk.out];exact hN.push hb3 rfl (fun i h1 h2=>by simp [jpart] at h1;subst h1;exact hxk) (by intro y hy;simp at hy;subst hy;rfl) hown,hW.trans hb3⟩
    case measure=>simp [intOf];omega
   ·have hm1:(jflat (l.take k)).length+l'.length≤maxLen:=by unfold maxLen;simp [jpart] at hm;omega
    have hm2:((jflat (l.take k)).length+l'.length) * 16≤140737488355328:=by simp [jpart] at hm;omega
    have hA:=(Below.refl wr.heap.size wr).alloc (Nat.le_refl _) (.cells #[.slice a' l'.length cap'] 121)
    obtain ⟨news,hnl,hnd,hn1,hnc⟩:=ndrw_cells hr
    have hnc2:0 < l'.length→∃ ad,a'=some ad∧∀ j u,news[j]?=some u→(wr.alloc (.cells #[.slice a' l'.length cap'] 121)).cell? (ad.add j)=some u:=fun h0=>by
     obtain ⟨ad,h1,b2,o2,rfl,_,hlt2,h2⟩:=hnc h0
     exact ⟨_,h1,fun j u hj=>by rw [Go.WideShapes.add_plain];exact (hA.cell (p:=⟨b2,o2+j,none⟩) hlt2).trans (h2 j u hj)⟩
    clear hm hnc
    go_wp2_with (at_builtin;refine wpList_append_any _ rfl _ _ 88 rfl w.heap.size 26 i0 .nilIface 1 16 Tryz.underlying88 hi hz0 hz1 hz2 rfl (by decide) _ _ _ rfl (hN.row.alloc _) a' l'.length cap' news rfl (by omega) hnc2 hn1 hm1 hm2 (by have:=hW.size;simp;omega) ?_;intro v3 w3 hown hgrow hat)
    go_roundw
    case rel=>
     have hb3:Below w.heap.size wr w3:=((Below.refl _ wr).alloc hW.size _).grown hgrow (by have:=hW.size;simp;omega) (own_low hN.row)
     exact ⟨k+1,_,_,by omega,by go_num,rfl,by rw [show jflat (l.take (k+1))=_ from Htk.out];exact hN.push hb3 hnl hnd hn1 hown,hW.trans hb3⟩
    case measure=>simp [intOf];omega
   ·have hm1:(jflat (l.take k)).length+1≤maxLen:=by unfold maxLen;simp [jpart] at hm;omega
    have hm2:((jflat (l.take k)).length+1) * 16≤140737488355328:=by simp [jpart] at hm;omega
    clear hm
    go_wp2_with (at_builtin;refine wpList_append_any _ rfl _ _ 88 rfl w.heap.size 26 i0 .nilIface 1 16 Tryz.underlying88 hi hz0 hz1 hz2 rfl (by decide) _ _ _ rfl (hN.row.alloc _) (some ⟨wr.heap.size,0,none⟩) 1 1 [_] rfl rfl (fun _=>⟨_,rfl,cell_one_at (by simp) _ _⟩) (by intro y hy;simp at hy;subst hy;rfl) hm1 hm2 (by have:=hW.size;simp;omega) ?_;intro v3 w3 hown hgrow hat)
    go_roundw
    case rel=>
     have hb3:Below w.heap.size wr w3:=((Below.refl _ wr).alloc hW.size _).grown hgrow (by have:=hW.size;simp;omega) (own_low hN.row)
     exact ⟨k+1,_,_,by omega,by go_num,rfl,by rw [show jflat (l.take (k+1))=_ from Htk.out];exact hN.push hb3 rfl (fun i h1 h2=>by simp [jpart] at h1;subst h1;exact hxk) (by intro y hy;simp at hy;subst hy;rfl) hown,hW.trans hb3⟩
    case measure=>simp [intOf];omega
   ·have hm1:(jflat (l.take k)).length+1≤maxLen:=by unfold maxLen;simp [jpart] at hm;omega
    have hm2:((jflat (l.take k)).length+1) * 16≤140737488355328:=by simp [jpart] at hm;omega
    clear hm
    go_wp2_with (at_builtin;refine wpList_append_any _ rfl _ _ 88 rfl w.heap.size 26 i0 .nilIface 1 16 Tryz.underlying88 hi hz0 hz1 hz2 rfl (by decide) _ _ _ rfl (hN.row.alloc _) (some ⟨wr.heap.size,0,none⟩) 1 1 [_] rfl rfl (fun _=>⟨_,rfl,cell_one_at (by simp) _ _⟩) (by intro y hy;simp at hy;subst hy;rfl) hm1 hm2 (by have:=hW.size;simp;omega) ?_;intro v3 w3 hown hgrow hat)
    go_roundw
    case rel=>
     have hb3:Below w.heap.size wr w3:=((Below.refl _ wr).alloc hW.size _).grown hgrow (by have:=hW.size;simp;omega) (own_low hN.row)
     exact ⟨k+1,_,_,by omega,by go_num,rfl,by rw [show jflat (l.take (k+1))=_ from Htk.out];exact hN.push hb3 rfl (fun i h1 h2=>by simp [jpart] at h1;subst h1;exact hxk) (by intro y hy;simp at hy;subst hy;rfl) hown,hW.trans hb3⟩
    case measure=>simp [intOf];omega
   ·have hm1:(jflat (l.take k)).length+1≤maxLen:=by unfold maxLen;simp [jpart] at hm;omega
    have hm2:((jflat (l.take k)).length+1) * 16≤140737488355328:=by simp [jpart] at hm;omega
    clear hm
    go_wp2_with (at_builtin;refine wpList_append_any _ rfl _ _ 88 rfl w.heap.size 26 i0 .nilIface 1 16 Tryz.underlying88 hi hz0 hz1 hz2 rfl (by decide) _ _ _ rfl (hN.row.alloc _) (some ⟨wr.heap.size,0,none⟩) 1 1 [_] rfl rfl (fun _=>⟨_,rfl,cell_one_at (by simp) _ _⟩) (by intro y hy;simp at hy;subst hy;rfl) hm1 hm2 (by have:=hW.size;simp;omega) ?_;intro v3 w3 hown hgrow hat)
    go_roundw
    case rel=>
     have hb3:Below w.heap.size wr w3:=((Below.refl _ wr).alloc hW.size _).grown hgrow (by have:=hW.size;simp;omega) (own_low hN.row)
     exact ⟨k+1,_,_,by omega,by go_num,rfl,by rw [show jflat (l.take (k+1))=_ from Htk.out];exact hN.push hb3 rfl (fun i h1 h2=>by simp [jpart] at h1;subst h1;exact hxk) (by intro y hy;simp at hy;subst hy;rfl) hown,hW.trans hb3⟩
    case measure=>simp [intOf];omega
   ·have hm1:(jflat (l.take k)).length+1≤maxLen:=by unfold maxLen;simp [jpart] at hm;omega
    have hm2:((jflat (l.take k)).length+1) * 16≤140737488355328:=by simp [jpart] at hm;omega
    clear hm
    go_wp2_with (at_builtin;refine wpList_append_any _ rfl _ _ 88 rfl w.heap.size 26 i0 .nilIface 1 16 Tryz.underlying88 hi hz0 hz1 hz2 rfl (by decide) _ _ _ rfl (hN.row.alloc _) (some ⟨wr.heap.size,0,none⟩) 1 1 [_] rfl rfl (fun _=>⟨_,rfl,cell_one_at (by simp) _ _⟩) (by intro y hy;simp at hy;subst hy;rfl) hm1 hm2 (by have:=hW.size;simp;omega) ?_;intro v3 w3 hown hgrow hat)
    go_roundw
    case rel=>
     have hb3:Below w.heap.size wr w3:=((Below.refl _ wr).alloc hW.size _).grown hgrow (by have:=hW.size;simp;omega) (own_low hN.row)
     exact ⟨k+1,_,_,by omega,by go_num,rfl,by rw [show jflat (l.take (k+1))=_ from Htk.out];exact hN.push hb3 rfl (fun i h1 h2=>by simp [jpart] at h1;subst h1;exact hxk) (by intro y hy;simp at hy;subst hy;rfl) hown,hW.trans hb3⟩
    case measure=>simp [intOf];omega
   ·have hm1:(jflat (l.take k)).length+1≤maxLen:=by unfold maxLen;simp [jpart] at hm;omega
    have hm2:((jflat (l.take k)).length+1) * 16≤140737488355328:=by simp [jpart] at hm;omega
    clear hm
    go_wp2_with (at_builtin;refine wpList_append_any _ rfl _ _ 88 rfl w.heap.size 26 i0 .nilIface 1 16 Tryz.underlying88 hi hz0 hz1 hz2 rfl (by decide) _ _ _ rfl (hN.row.alloc _) (some ⟨wr.heap.size,0,none⟩) 1 1 [_] rfl rfl (fun _=>⟨_,rfl,cell_one_at (by simp) _ _⟩) (by intro y hy;simp at hy;subst hy;rfl) hm1 hm2 (by have:=hW.size;simp;omega) ?_;intro v3 w3 hown hgrow hat)
    go_roundw
    case rel=>
     have hb3:Below w.heap.size wr w3:=((Below.refl _ wr).alloc hW.size _).grown hgrow (by have:=hW.size;simp;omega) (own_low hN.row)
     exact ⟨k+1,_,_,by omega,by go_num,rfl,by rw [show jflat (l.take (k+1))=_ from Htk.out];exact hN.push hb3 rfl (fun i h1 h2=>by simp [jpart] at h1;subst h1;exact hxk) (by intro y hy;simp at hy;subst hy;rfl) hown,hW.trans hb3⟩
    case measure=>simp [intOf];omega
   ·have hm1:(jflat (l.take k)).length+1≤maxLen:=by unfold maxLen;simp [jpart] at hm;omega
    have hm2:((jflat (l.take k)).length+1) * 16≤140737488355328:=by simp [jpart] at hm;omega
    clear hm
    go_wp2_with (at_builtin;refine wpList_append_any _ rfl _ _ 88 rfl w.heap.size 26 i0 .nilIface 1 16 Tryz.underlying88 hi hz0 hz1 hz2 rfl (by decide) _ _ _ rfl (hN.row.alloc _) (some ⟨wr.heap.size,0,none⟩) 1 1 [_] rfl rfl (fun _=>⟨_,rfl,cell_one_at (by simp) _ _⟩) (by intro y hy;simp at hy;subst hy;rfl) hm1 hm2 (by have:=hW.size;simp;omega) ?_;intro v3 w3 hown hgrow hat)
    go_roundw
    case rel=>
     have hb3:Below w.heap.size wr w3:=((Below.refl _ wr).alloc hW.size _).grown hgrow (by have:=hW.size;simp;omega) (own_low hN.row)
     exact ⟨k+1,_,_,by omega,by go_num,rfl,by rw [show jflat (l.take (k+1))=_ from Htk.out];exact hN.push hb3 rfl (fun i h1 h2=>by simp [jpart] at h1;subst h1;exact hxk) (by intro y hy;simp at hy;subst hy;rfl) hown,hW.trans hb3⟩
    case measure=>simp [intOf];omega
  ·obtain rfl:k=l.length:=by omega
   rw [List.take_length] at hN
   clear Hh hlt
   clear hsz
   generalize hm:jflat l=m at hN
   have hJm:∀ m',m=m'→J=(match m' with | []=>.empty | [d]=>d | ds=>.cat ds):=fun m' e=>by rw [HJ.out,←e,←hm];rfl
   clear HJ hm
   match m,hN with
   | [],hN=>
    obtain rfl:J=.empty:=hJm _ rfl
    clear hJm
    obtain ⟨a3,c3,rfl,_⟩:=hN.parts
    go_wp2_with fail
    go_ret
    exact ⟨_,rfl,⟨1,.inl rfl⟩,hW⟩
   | [d],hN=>
    obtain rfl:J=d:=hJm _ rfl
    clear hJm
    obtain ⟨a3,c3,rfl,hp⟩:=hN.parts
    obtain ⟨b3,o3,rfl,_,hb3,hx3⟩:=hp.2.2 (by simp)
    obtain ⟨u3,hu3,hd3⟩:=hx3 0 (by simp)
    rw [Nat.add_zero] at hu3
    clear hN hx3
    go_wp2_with fail
    go_ret
    exact ⟨_,rfl,hd3,hW⟩
   | d :: d2 :: ds,hN=>
    have hJ3:J=.cat (d :: d2 :: ds):=hJm _ rfl
    clear hJm
    obtain ⟨a3,c3,rfl,hp⟩:=hN.parts
    have e0:((((d :: d2 :: ds).length:Nat):Int) == 0)=false:=by rw [beq_eq_false_iff_ne];simp;omega
    have e1:((((d :: d2 :: ds).length:Nat):Int) == 1)=false:=by rw [beq_eq_false_iff_ne];simp;omega
    generalize d :: d2 :: ds=m at *
    have HJ3:=Lib.hid hJ3
    clear hN hJ3
    go_wp2_with fail
    go_ret
    exact ⟨_,rfl,by rw [HJ3.out];exact ndx_cat hp,hW⟩
theorem pjoin_f {F:Nat→Prop} (l:List Nd) (a:Option Addr) (cap:Nat) (w:World) (h:NdRw F w l a cap) (hsz:(jflat l).length≤4000000) :
  Calls Tryz.prog 125 #[.slice a l.length cap] w fun e w'=>∃ v,e=.returned v∧NdX (fun k=>(k < w.heap.size∧F k)∨w.heap.size≤k) w' (njoin l) v∧Below w.heap.size w w':=pjoin_g (G:=F) l a cap w h hsz
theorem pchoose_g {G F:Nat→Prop} (l:List Nd) (a:Option Addr) (cap:Nat) (w:World) (h:NdRg G F w l a cap) (hsz:(cflat l).length≤4000000) :
  Calls Tryz.prog 105 #[.slice a l.length cap] w fun e w'=>∃ v,e=.returned v∧NdX (fun k=>(k < w.heap.size∧F k)∨w.heap.size≤k) w' (nchoose l) v∧Below w.heap.size w w':=by
 obtain ⟨i0,hi,hz0,hz1,hz2⟩:=node_info
 have hin:=ndrg_inF h
 have hlen:=hin.1
 have hl2:=hin.2.1
 unfold maxLen at hl2
 have Hh:=Lib.hid hin.2.2
 clear h hin
 obtain ⟨J,hJ⟩:∃ J,J=nchoose l:=⟨_,rfl⟩
 rw [←hJ]
 have HJ:=Lib.hid hJ
 clear hJ
 go_enter Tryz.func105,Tryz.ntmps105
 go_wp2_with fail
 go_loopw [3,10] (fun av i wr=>∃ (k:Nat) (us:List Value) (pv:Value),k≤l.length∧i=.int .i64 k∧pv=av∧NdOw F w.heap.size wr (cflat (l.take k)) pv us∧Below w.heap.size w wr) (fun _ i _=>l.length - (intOf i).toNat)
 case atStart=>exact ⟨0,[],_,by omega,rfl,rfl,NdOw.nil _ _ _,Below.refl _ _⟩
 case round=>
  obtain ⟨k,us,pv,hk,rfl,hpv,hN,hW⟩:=hrel
  subst hpv
  by_cases hlt:k < l.length
  ·obtain ⟨b,o,rfl,hfb,hbl,hx⟩:=Hh.out (by omega)
   obtain ⟨u0,hu0,hxk⟩:=hx k hlt
   replace hu0:=(hW.cell (p:=⟨b,o+k,none⟩) hbl).trans hu0
   replace hxk:=ndx_lowB hW hxk
   have Htk:=Lib.hid (flat_take cpart l k hlt)
   have hm:=flat_le cpart l (k+1)
   rw [Htk.out,List.length_append] at hm
   change (cflat (l.take k)).length+(cpart l[k]).length≤(cflat l).length at hm
   clear hx
   generalize l[k]=x at *
   rcases nd_kinds hxk with ⟨rfl,rfl | rfl⟩ | ⟨s,rfl,rfl⟩ | ⟨l',a',cap',rfl,rfl,hr⟩ | ⟨l',a',cap',rfl,rfl,hr⟩ | ⟨d',mn,mx,u,rfl,rfl,hu⟩ | ⟨num,d',u,rfl,rfl,hu⟩ | ⟨num,rfl,rfl⟩ | ⟨rfl,rfl⟩ | ⟨rfl,rfl⟩
   ·have hm1:(cflat (l.take k)).length+1≤maxLen:=by unfold maxLen;simp [cpart] at hm;omega
    have hm2:((cflat (l.take k)).length+1) * 16≤140737488355328:=by simp [cpart] at hm;omega
    clear hm
    go_wp2_with (at_builtin;refine wpList_append_any _ rfl _ _ 88 rfl w.heap.size 26 i0 .nilIface 1 16 Tryz.underlying88 hi hz0 hz1 hz2 rfl (by decide) _ _ _ rfl ((hN.row.alloc _).alloc _) (some ⟨wr.heap.size+1,0,none⟩) 1 1 [_] rfl rfl (fun _=>⟨_,rfl,cell_one_at (by simp) _ _⟩) (by intro y hy;simp at hy;subst hy;rfl) hm1 hm2 (by have:=hW.size;simp;omega) ?_;intro v3 w3 hown hgrow hat)
    go_roundw
    case rel=>
     have hb3:Below w.heap.size wr w3:=(((Below.refl _ wr).alloc hW.size _).alloc (by have:=hW.size;simp;omega) _).grown hgrow (by have:=hW.size;simp;omega) (own_low hN.row)
     exact ⟨k+1,_,_,by omega,by go_num,rfl,by rw [show cflat (l.take (k+1))=_ from Htk.out];exact hN.push hb3 rfl (fun i h1 h2=>by simp [cpart] at h1;subst h1;exact hxk) (by intro y hy;simp at hy;subst hy;rfl) hown,hW.trans hb3⟩
    case measure=>simp [intOf];omega
   ·have hm1:(cflat (l.take k)).length+1≤maxLen:=by unfold maxLen;simp [cpart] at hm;omega
    have hm2:((cflat (l.take k)).length+1) * 16≤140737488355328:=by simp [cpart] at hm;omega
    clear hm
    go_wp2_with (at_builtin;refine wpList_append_any _ rfl _ _ 88 rfl w.heap.size 26 i0 .nilIface 1 16 Tryz.underlying88 hi hz0 hz1 hz2 rfl (by decide) _ _ _ rfl ((hN.row.alloc _).alloc _) (some ⟨wr.heap.size+1,0,none⟩) 1 1 [_] rfl rfl (fun _=>⟨_,rfl,cell_one_at (by simp) _ _⟩) (by intro y hy;simp at hy;subst hy;rfl) hm1 hm2 (by have:=hW.size;simp;omega) ?_;intro v3 w3 hown hgrow hat)
    go_roundw
    case rel=>
     have hb3:Below w.heap.size wr w3:=(((Below.refl _ wr).alloc hW.size _).alloc (by have:=hW.size;simp;omega) _).grown hgrow (by have:=hW.size;simp;omega) (own_low hN.row)
     exact ⟨k+1,_,_,by omega,by go_num,rfl,by rw [show cflat (l.take (k+1))=_ from Htk.out];exact hN.push hb3 rfl (fun i h1 h2=>by simp [cpart] at h1;subst h1;exact hxk) (by intro y hy;simp at hy;subst hy;rfl) hown,hW.trans hb3⟩
    case measure=>simp [intOf];omega
   ·have hm1:(cflat (l.take k)).length+1≤maxLen:=by unfold maxLen;simp [cpart] at hm;omega
    have hm2:((cflat (l.take k)).length+1) * 16≤140737488355328:=by simp [cpart] at hm;omega
    clear hm
    go_wp2_with (at_builtin;refine wpList_append_any _ rfl _ _ 88 rfl w.heap.size 26 i0 .nilIface 1 16 Tryz.underlying88 hi hz0 hz1 hz2 rfl (by decide) _ _ _ rfl ((hN.row.alloc _).alloc _) (some ⟨wr.heap.size+1,0,none⟩) 1 1 [_] rfl rfl (fun _=>⟨_,rfl,cell_one_at (by simp) _ _⟩) (by intro y hy;simp at hy;subst hy;rfl) hm1 hm2 (by have:=hW.size;simp;omega) ?_;intro v3 w3 hown hgrow hat)
    go_roundw
    case rel=>
     have hb3:Below w.heap.size wr w3:=(((Below.refl _ wr).alloc hW.size _).alloc (by have:=hW.size;simp;omega) _).grown hgrow (by have:=hW.size;simp;omega) (own_low hN.row)
     exact ⟨k+1,_,_,by omega,by go_num,rfl,by rw [show cflat (l.take (k+1))=_ from Htk.out];exact hN.push hb3 rfl (fun i h1 h2=>by simp [cpart] at h1;subst h1;exact hxk) (by intro y hy;simp at hy;subst hy;rfl) hown,hW.trans hb3⟩
    case measure=>simp [intOf];omega
   ·have hm1:(cflat (l.take k)).length+1≤maxLen:=by unfold maxLen;simp [cpart] at hm;omega
    have hm2:((cflat (l.take k)).length+1) * 16≤140737488355328:=by simp [cpart] at hm;omega
    clear hm
    go_wp2_with (at_builtin;refine wpList_append_any _ rfl _ _ 88 rfl w.heap.size 26 i0 .nilIface 1 16 Tryz.underlying88 hi hz0 hz1 hz2 rfl (by decide) _ _ _ rfl ((hN.row.alloc _).alloc _) (some ⟨wr.heap.size+1,0,none⟩) 1 1 [_] rfl rfl (fun _=>⟨_,rfl,cell_one_at (by simp) _ _⟩) (by intro y hy;simp at hy;subst hy;rfl) hm1 hm2 (by have:=hW.size;simp;omega) ?_;intro v3 w3 hown hgrow hat)
    go_roundw
    case rel=>
     have hb3:Below w.heap.size wr w3:=(((Below.refl _ wr).alloc hW.size _).alloc (by have:=hW.size;simp;omega) _).grown hgrow (by have:=hW.size;simp;omega) (own_low hN.row)
     exact ⟨k+1,_,_,by omega,by go_num,rfl,by rw [show cflat (l.take (k+1))=_ from Htk.out];exact hN.push hb3 rfl (fun i h1 h2=>by simp [cpart] at h1;subst h1;exact hxk) (by intro y hy;simp at hy;subst hy;rfl) hown,hW.trans hb3⟩
    case measure=>simp [intOf];omega
   ·have hm1:(cflat (l.take k)).length+l'.length≤maxLen:=by unfold maxLen;simp [cpart] at hm;omega
    have hm2:((cflat (l.take k)).length+l'.length) * 16≤140737488355328:=by simp [cpart] at hm;omega
    have hA:=(Below.refl wr.heap.size wr).alloc (Nat.le_refl _) (.cells #[.slice a' l'.length cap'] 122)
    obtain ⟨news,hnl,hnd,hn1,hnc⟩:=ndrw_cells hr
    have hnc2:0 < l'.length→∃ ad,a'=some ad∧∀ j u,news[j]?=some u→(wr.alloc (.cells #[.slice a' l'.length cap'] 122)).cell? (ad.add j)=some u:=fun h0=>by
     obtain ⟨ad,h1,b2,o2,rfl,_,hlt2,h2⟩:=hnc h0
     exact ⟨_,h1,fun j u hj=>by rw [Go.WideShapes.add_plain];exact (hA.cell (p:=⟨b2,o2+j,none⟩) hlt2).trans (h2 j u hj)⟩
    clear hm hnc
    go_wp2_with (at_builtin;refine wpList_append_any _ rfl _ _ 88 rfl w.heap.size 26 i0 .nilIface 1 16 Tryz.underlying88 hi hz0 hz1 hz2 rfl (by decide) _ _ _ rfl (hN.row.alloc _) a' l'.length cap' news rfl (by omega) hnc2 hn1 hm1 hm2 (by have:=hW.size;simp;omega) ?_;intro v3 w3 hown hgrow hat)
    go_roundw
    case rel=>
     have hb3:Below w.heap.size wr w3:=((Below.refl _ wr).alloc hW.size _).grown hgrow (by have:=hW.size;simp;omega) (own_low hN.row)
     exact ⟨k+1,_,_,by omega,by go_num,rfl,by rw [show cflat (l.take (k+1))=_ from Htk.out];exact hN.push hb3 hnl hnd hn1 hown,hW.trans hb3⟩
    case measure=>simp [intOf];omega
   ·have hm1:(cflat (l.take k)).length+1≤maxLen:=by unfold maxLen;simp [cpart] at hm;omega
    have hm2:((cflat (l.take k)).length+1) * 16≤140737488355328:=by simp [cpart] at hm;omega
    clear hm
    go_wp2_with (at_builtin;refine wpList_append_any _ rfl _ _ 88 rfl w.heap.size 26 i0 .nilIface 1 16 Tryz.underlying88 hi hz0 hz1 hz2 rfl (by decide) _ _ _ rfl ((hN.row.alloc _).alloc _) (some ⟨wr.heap.size+1,0,none⟩) 1 1 [_] rfl rfl (fun _=>⟨_,rfl,cell_one_at (by simp) _ _⟩) (by intro y hy;simp at hy;subst hy;rfl) hm1 hm2 (by have:=hW.size;simp;omega) ?_;intro v3 w3 hown hgrow hat)
    go_roundw
    case rel=>
     have hb3:Below w.heap.size wr w3:=(((Below.refl _ wr).alloc hW.size _).alloc (by have:=hW.size;simp;omega) _).grown hgrow (by have:=hW.size;simp;omega) (own_low hN.row)
     exact ⟨k+1,_,_,by omega,by go_num,rfl,by rw [show cflat (l.take (k+1))=_ from Htk.out];exact hN.push hb3 rfl (fun i h1 h2=>by simp [cpart] at h1;subst h1;exact hxk) (by intro y hy;simp at hy;subst hy;rfl) hown,hW.trans hb3⟩
    case measure=>simp [intOf];omega
   ·have hm1:(cflat (l.take k)).length+1≤maxLen:=by unfold maxLen;simp [cpart] at hm;omega
    have hm2:((cflat (l.take k)).length+1) * 16≤140737488355328:=by simp [cpart] at hm;omega
    clear hm
    go_wp2_with (at_builtin;refine wpList_append_any _ rfl _ _ 88 rfl w.heap.size 26 i0 .nilIface 1 16 Tryz.underlying88 hi hz0 hz1 hz2 rfl (by decide) _ _ _ rfl ((hN.row.alloc _).alloc _) (some ⟨wr.heap.size+1,0,none⟩) 1 1 [_] rfl rfl (fun _=>⟨_,rfl,cell_one_at (by simp) _ _⟩) (by intro y hy;simp at hy;subst hy;rfl) hm1 hm2 (by have:=hW.size;simp;omega) ?_;intro v3 w3 hown hgrow hat)
    go_roundw
    case rel=>
     have hb3:Below w.heap.size wr w3:=(((Below.refl _ wr).alloc hW.size _).alloc (by have:=hW.size;simp;omega) _).grown hgrow (by have:=hW.size;simp;omega) (own_low hN.row)
     exact ⟨k+1,_,_,by omega,by go_num,rfl,by rw [show cflat (l.take (k+1))=_ from Htk.out];exact hN.push hb3 rfl (fun i h1 h2=>by simp [cpart] at h1;subst h1;exact hxk) (by intro y hy;simp at hy;subst hy;rfl) hown,hW.trans hb3⟩
    case measure=>simp [intOf];omega
   ·have hm1:(cflat (l.take k)).length+1≤maxLen:=by unfold maxLen;simp [cpart] at hm;omega
    have hm2:((cflat (l.take k)).length+1) * 16≤140737488355328:=by simp [cpart] at hm;omega
    clear hm
    go_wp2_with (at_builtin;refine wpList_append_any _ rfl _ _ 88 rfl w.heap.size 26 i0 .nilIface 1 16 Tryz.underlying88 hi hz0 hz1 hz2 rfl (by decide) _ _ _ rfl ((hN.row.alloc _).alloc _) (some ⟨wr.heap.size+1,0,none⟩) 1 1 [_] rfl rfl (fun _=>⟨_,rfl,cell_one_at (by simp) _ _⟩) (by intro y hy;simp at hy;subst hy;rfl) hm1 hm2 (by have:=hW.size;simp;omega) ?_;intro v3 w3 hown hgrow hat)
    go_roundw
    case rel=>
     have hb3:Below w.heap.size wr w3:=(((Below.refl _ wr).alloc hW.size _).alloc (by have:=hW.size;simp;omega) _).grown hgrow (by have:=hW.size;simp;omega) (own_low hN.row)
     exact ⟨k+1,_,_,by omega,by go_num,rfl,by rw [show cflat (l.take (k+1))=_ from Htk.out];exact hN.push hb3 rfl (fun i h1 h2=>by simp [cpart] at h1;subst h1;exact hxk) (by intro y hy;simp at hy;subst hy;rfl) hown,hW.trans hb3⟩
    case measure=>simp [intOf];omega
   ·have hm1:(cflat (l.take k)).length+1≤maxLen:=by unfold maxLen;simp [cpart] at hm;omega
    have hm2:((cflat (l.take k)).length+1) * 16≤140737488355328:=by simp [cpart] at hm;omega
    clear hm
    go_wp2_with (at_builtin;refine wpList_append_any _ rfl _ _ 88 rfl w.heap.size 26 i0 .nilIface 1 16 Tryz.underlying88 hi hz0 hz1 hz2 rfl (by decide) _ _ _ rfl ((hN.row.alloc _).alloc _) (some ⟨wr.heap.size+1,0,none⟩) 1 1 [_] rfl rfl (fun _=>⟨_,rfl,cell_one_at (by simp) _ _⟩) (by intro y hy;simp at hy;subst hy;rfl) hm1 hm2 (by have:=hW.size;simp;omega) ?_;intro v3 w3 hown hgrow hat)
    go_roundw
    case rel=>
     have hb3:Below w.heap.size wr w3:=(((Below.refl _ wr).alloc hW.size _).alloc (by have:=hW.size;simp;omega) _).grown hgrow (by have:=hW.size;simp;omega) (own_low hN.row)
     exact ⟨k+1,_,_,by omega,by go_num,rfl,by rw [show cflat (l.take (k+1))=_ from Htk.out];exact hN.push hb3 rfl (fun i h1 h2=>by simp [cpart] at h1;subst h1;exact hxk) (by intro y hy;simp at hy;subst hy;rfl) hown,hW.trans hb3⟩
    case measure=>simp [intOf];omega
   ·have hm1:(cflat (l.take k)).length+1≤maxLen:=by unfold maxLen;simp [cpart] at hm;omega
    have hm2:((cflat (l.take k)).length+1) * 16≤140737488355328:=by simp [cpart] at hm;omega
    clear hm
    go_wp2_with (at_builtin;refine wpList_append_any _ rfl _ _ 88 rfl w.heap.size 26 i0 .nilIface 1 16 Tryz.underlying88 hi hz0 hz1 hz2 rfl (by decide) _ _ _ rfl ((hN.row.alloc _).alloc _) (some ⟨wr.heap.size+1,0,none⟩) 1 1 [_] rfl rfl (fun _=>⟨_,rfl,cell_one_at (by simp) _ _⟩) (by intro y hy;simp at hy;subst hy;rfl) hm1 hm2 (by have:=hW.size;simp;omega) ?_;intro v3 w3 hown hgrow hat)
    go_roundw
    case rel=>
     have hb3:Below w.heap.size wr w3:=(((Below.refl _ wr).alloc hW.size _).alloc (by have:=hW.size;simp;omega) _).grown hgrow (by have:=hW.size;simp;omega) (own_low hN.row)
     exact ⟨k+1,_,_,by omega,by go_num,rfl,by rw [show cflat (l.take (k+1))=_ from Htk.out];exact hN.push hb3 rfl (fun i h1 h2=>by simp [cpart] at h1;subst h1;exact hxk) (by intro y hy;simp at hy;subst hy;rfl) hown,hW.trans hb3⟩
    case measure=>simp [intOf];omega
  ·obtain rfl:k=l.length:=by omega
   rw [List.take_length] at hN
   clear Hh hlt
   clear hsz
   generalize hm:cflat l=m at hN
   have hJm:∀ m',m=m'→J=(match m' with | []=>.empty | [d]=>d | ds=>.alt ds):=fun m' e=>by rw [HJ.out,←e,←hm];rfl
   clear HJ hm
   match m,hN with
   | [],hN=>
    obtain rfl:J=.empty:=hJm _ rfl
    clear hJm
    obtain ⟨a3,c3,rfl,_⟩:=hN.parts
    go_wp2_with fail
    go_ret
    exact ⟨_,rfl,⟨1,.inl rfl⟩,hW⟩
   | [d],hN=>
    obtain rfl:J=d:=hJm _ rfl
    clear hJm
    obtain ⟨a3,c3,rfl,hp⟩:=hN.parts
    obtain ⟨b3,o3,rfl,_,hb3,hx3⟩:=hp.2.2 (by simp)
    obtain ⟨u3,hu3,hd3⟩:=hx3 0 (by simp)
    rw [Nat.add_zero] at hu3
    clear hN hx3
    go_wp2_with fail
    go_ret
    exact ⟨_,rfl,hd3,hW⟩
   | d :: d2 :: ds,hN=>
    have hJ3:J=.alt (d :: d2 :: ds):=hJm _ rfl
    clear hJm
    obtain ⟨a3,c3,rfl,hp⟩:=hN.parts
    have e0:((((d :: d2 :: ds).length:Nat):Int) == 0)=false:=by rw [beq_eq_false_iff_ne];simp;omega
    have e1:((((d :: d2 :: ds).length:Nat):Int) == 1)=false:=by rw [beq_eq_false_iff_ne];simp;omega
    generalize d :: d2 :: ds=m at *
    have HJ3:=Lib.hid hJ3
    clear hN hJ3
    go_wp2_with fail
    go_ret
    exact ⟨_,rfl,by rw [HJ3.out];exact ndx_alt hp,hW⟩
theorem pchoose_f {F:Nat→Prop} (l:List Nd) (a:Option Addr) (cap:Nat) (w:World) (h:NdRw F w l a cap) (hsz:(cflat l).length≤4000000) :
  Calls Tryz.prog 105 #[.slice a l.length cap] w fun e w'=>∃ v,e=.returned v∧NdX (fun k=>(k < w.heap.size∧F k)∨w.heap.size≤k) w' (nchoose l) v∧Below w.heap.size w w':=pchoose_g (G:=F) l a cap w h hsz
end Go.Proofs.YtbgfankoojjejaaGreatDoor
