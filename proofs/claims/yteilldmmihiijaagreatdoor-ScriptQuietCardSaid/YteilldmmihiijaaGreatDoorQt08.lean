/- Texts. -/
import Derived.Test.YteilldmmihiijaaGreatDoorQt07
import Derived.Test.YteilldmmihiijaaGreatDoorQt06
import Derived.Deep.RegionLaw
import Derived.Test.YteilldmmihiijaaGreatDoorQt03
set_option linter.unusedSimpArgs false
set_option linter.unusedVariables false
set_option maxHeartbeats 8000000
set_option maxRecDepth 1000000
namespace Go.Proofs.YteilldmmihiijaaGreatDoor
open Go.Lib renaming hid→Ac8
open Nat renaming le_refl→Adf,le_trans→Adg,lt_of_lt_of_le→Adi,le_of_lt→Adj
open Go.RowKit.Below renaming refl→Adk
open Go.IntWalk renaming i64_in→Adm
section
open Go Go.RowKit
def Cr (lo p:Nat) (mv cv:Value) (w:World) (d:Nd) (v:Value):Prop:=NdX (fun b=>lo≤b∧OffR p mv cv b) w d v
def BF (r:ReRes (ReSt × Nd)) (B p:Nat) (s:ByteArray) (dep:Nat) (mv cv:Value) (w:World) (e:Ending) (w':World):Prop:=
 ∃ mv' cv',RStep p w mv cv w' mv' cv'∧match r with
  | .error q=>Iq q.2 q.1 e
  | .ok q=>∃ es' v,e=.returned v∧Rd B p w' s q.1 es' dep mv' cv'∧Cr w.heap.size p mv' cv' w' q.2 v
theorem Az {r:ReRes (ReSt × Nd)} {B p:Nat} {s:ByteArray} {dep:Nat} {mv cv mv' cv':Value} {w w':World} {e:Ending} {a b:Nat} (h:r=.error (a,b)) (hS:RStep p w mv cv w' mv' cv') (hE:Iq b a e):BF r B p s dep mv cv w e w':=by
 subst h;exact ⟨_,_,hS,hE⟩
theorem AK {r:ReRes (ReSt × Nd)} {B p:Nat} {s:ByteArray} {dep:Nat} {mv cv mv' cv':Value} {w w':World} {v:Value} {st:ReSt} {d:Nd} {es:List Bool} (h:r=.ok (st,d)) (hS:RStep p w mv cv w' mv' cv') (hR:Rd B p w' s st es dep mv' cv') (hN:Cr w.heap.size p mv' cv' w' d v):BF r B p s dep mv cv w (.returned v) w':=by
 subst h;exact ⟨_,_,hS,es,v,rfl,hR,hN⟩
theorem BF.from {r:ReRes (ReSt × Nd)} {B p:Nat} {s:ByteArray} {dep:Nat} {mv cv mv1 cv1:Value} {w w1 w':World} {e:Ending} (h:BF r B p s dep mv1 cv1 w1 e w') (hS:RStep p w mv cv w1 mv1 cv1):BF r B p s dep mv cv w e w':=by
 obtain ⟨mv',cv',hS',hr⟩:=h;refine ⟨mv',cv',hS.trans hS',?_⟩;cases r with
 | error q=>exact hr
 | ok q=>
  obtain ⟨es',v,h1,h2,h3⟩:=hr;exact ⟨es',v,h1,h2,h3.keep (Adf _) (fun b hb _=>⟨⟨Adg hS.size hb.1,hb.2⟩,fun _=>rfl⟩)⟩
theorem EJ (lo p:Nat) (mv cv:Value) (w:World) (t:OSet):Cr lo p mv cv w (.one t) (.iface 111 (.agg #[.int .u64 (ow t 0),.int .u64 (ow t 1),.int .u64 (ow t 2),.int .u64 (ow t 3)])):=⟨1,rfl⟩
theorem BT (lo p:Nat) (mv cv:Value) (w:World) (n:Int):Cr lo p mv cv w (.back n) (.iface 117 (.agg #[.int .i64 n])):=⟨1,rfl⟩
theorem Sy (lo p:Nat) (mv cv:Value) (w:World):Cr lo p mv cv w .fin (.iface 121 (.agg #[])):=⟨1,rfl⟩
theorem Sz {lo p:Nat} {mv cv:Value} {w:World} {d:Nd} {u:Value} (h:Cr lo p mv cv w d u) (a b:Int):Cr lo p mv cv w (.rep d a b) (.iface 101 (.agg #[u,.int .i64 a,.int .i64 b])):=by
 obtain ⟨n,h⟩:=h;exact ⟨n+1,u,rfl,h⟩
theorem NK {lo p:Nat} {mv cv:Value} {w:World} {d:Nd} {u:Value} (h:Cr lo p mv cv w d u) (a:Int):Cr lo p mv cv w (.group a d) (.iface 103 (.agg #[.int .i64 a,u])):=by
 obtain ⟨n,h⟩:=h;exact ⟨n+1,u,rfl,h⟩
theorem Cr.step {lo p:Nat} {mv cv mv' cv':Value} {w w':World} {d:Nd} {u:Value} (h:Cr lo p mv cv w d u) (hS:RStep p w mv cv w' mv' cv'):Cr lo p mv' cv' w' d u:=
 h.keep hS.size (fun b hb hlt=>⟨⟨hb.1,(hS.keep b hb.2 hlt).1⟩,(hS.keep b hb.2 hlt).2⟩)
theorem NL {B:Nat} {w:World} {e:TypeId} {size n:Nat} {v:Value} {us:List Value} (h:w.ownsRow B e size v n us) (b:Nat) (hb:b < B):v.ownBlock≠some b:=fun hv=>by
 have:=(h.lt b hv).1;omega
theorem RStep.low {B p:Nat} {w w':World} {s:ByteArray} {st:ReSt} {es:List Bool} {dep:Nat} {mv cv mv' cv':Value} (hS:RStep p w mv cv w' mv' cv') (h:Rd B p w s st es dep mv cv):Below B w w':=
 ⟨hS.os,hS.tape,hS.output,hS.size,fun b hb=>(hS.block b (Adi hb (Adg h.bp (Adj h.blk.lt))) (by have:=h.bp;omega) (NL h.mo b hb) (NL h.co b hb)).1⟩
theorem Gl.step {B p:Nat} {w w':World} {s:ByteArray} {st:ReSt} {es:List Bool} {dep:Nat} {mv cv mv' cv':Value} (hG:Gl w) (hS:RStep p w mv cv w' mv' cv') (h:Rd B p w s st es dep mv cv) (hB:glN≤B):Gl w':=hG.below (hS.low h) hB
def Eu (B p:Nat) (s:ByteArray) (st:ReSt) (es:List Bool) (dep:Nat) (sub:Option (ReSt→ReRes (ReSt × Nd))):Prop:=∀ (w2:World) (mv cv:Value),Gl w2→es.length≤st.pos→Rd B p w2 s (st.to (st.pos+2)) es dep mv cv→
 Calls Tryz.prog 169 #[.pointer (some ⟨p,0,none⟩),.int .i64 (st.pos:Int)] w2 fun e w'=>BF (Fz false s.data.toList sub st) B p s dep mv cv w2 e w'
theorem S0 {B p:Nat} {s:ByteArray} {st:ReSt} {es:List Bool} {dep:Nat} {mv cv:Value} (w:World) (h:Rd B p w s (st.to (st.pos+1)) es dep mv cv) (hlt:s.size=st.pos+1):Calls Tryz.prog 163 #[.pointer (some ⟨p,0,none⟩),.int .i64 (st.pos:Int)] w fun e w'=>BF (.error (11,st.pos)) B p s dep mv cv w e w':=by
 obtain ⟨c0,c1,c2,c3,c4,z1,z2,z3,z4⟩:=h.cells;have hk:(st.to (st.pos+1)).pos=s.size:=hlt.symm;rw [hk] at c1;have e0:((s.size:Int) == (s.size:Int))=true:=by rw [beq_iff_eq]
 have hstp:=fun n=>RStep.of_below (p:=p) (mv:=mv) (cv:=cv) (below_drewN (Adk w.heap.size w) n)
 clear hk hlt h;go_enter Tryz.func163,Tryz.ntmps163;go_wp2_with fail
 go_quiet (fail)
 go_wp2_with fail
 exact ⟨rfl,Az rfl (hstp _) rfl⟩
theorem V1 {B p:Nat} {s:ByteArray} {st:ReSt} {es:List Bool} {dep:Nat} {mv cv:Value} (w:World) (h:Rd B p w s (st.to (st.pos+1)) es dep mv cv) (hlt:st.pos+1 < s.size) (hc:byt s.data.toList (st.pos+1)=40) (sub:Option (ReSt→ReRes (ReSt × Nd))) (hG:Gl w) (hB:glN≤B) (hfe:es.length≤st.pos) (hgr:Eu B p s st es dep sub) :
  Calls Tryz.prog 163 #[.pointer (some ⟨p,0,none⟩),.int .i64 (st.pos:Int)] w fun e w'=>BF (Fz false s.data.toList sub st) B p s dep mv cv w e w':=by
 have hps:st.pos+1≤s.size:=h.pos;have hsm:=h.small;obtain ⟨k,hk⟩:∃ k,k=st.pos+1:=⟨_,rfl⟩;rw [←hk] at h hps hlt;have hk1:(k:Int) < (s.size:Int):=(by omega);have hb0:=BH s k hlt;have Wn:IntKind.i64.wrap ((k:Int)+1)=((k+1:Nat):Int):=(by rw [Adm _ (by omega)];omega);have hgo:∀ n,Rd B p ((w.drewN n).setCell ⟨p,1,none⟩ (.int .i64 ((k:Int)+1))) s (st.to (k+1)) es dep mv cv∧RStep p w mv cv ((w.drewN n).setCell ⟨p,1,none⟩ (.int .i64 ((k:Int)+1))) mv cv:=fun n=>⟨((h.below (below_drewN (Adk w.heap.size w) n)).goto (k+1) (show k≤k+1 by omega) (show k+1≤s.size by omega)).1,(RStep.of_below (below_drewN (Adk w.heap.size w) n)).trans ((h.below (below_drewN (Adk w.heap.size w) n)).goto (k+1) (show k≤k+1 by omega) (show k+1≤s.size by omega)).2⟩;obtain ⟨c0,c1,c2,c3,c4,z1,z2,z3,z4⟩:=h.cells;replace c1:w.cell? ⟨p,1,none⟩=some (.int .i64 (k:Int)):=c1;have e0:((k:Int) == (s.size:Int))=false:=(by rw [beq_eq_false_iff_ne];omega);have HK:=Ac8 hk;have HGO:=Ac8 hgo;have H:=Ac8 h;clear hk hgo h hps
 rw [←HK.out,hb0] at hc;have e40:((s[k].toNat:Int) == 40)=true:=by rw [hc];decide
 have e49:((s[k].toNat:Int) == 49)=false:=by rw [hc];decide
 have e50:((s[k].toNat:Int) == 50)=false:=by rw [hc];decide
 have e51:((s[k].toNat:Int) == 51)=false:=by rw [hc];decide
 have e52:((s[k].toNat:Int) == 52)=false:=by rw [hc];decide
 have e53:((s[k].toNat:Int) == 53)=false:=by rw [hc];decide
 have e54:((s[k].toNat:Int) == 54)=false:=by rw [hc];decide
 have e55:((s[k].toNat:Int) == 55)=false:=by rw [hc];decide
 have e56:((s[k].toNat:Int) == 56)=false:=by rw [hc];decide
 have e57:((s[k].toNat:Int) == 57)=false:=by rw [hc];decide
 have e123:((s[k].toNat:Int) == 123)=false:=by rw [hc];decide
 have e43:((s[k].toNat:Int) == 43)=false:=by rw [hc];decide
 have e63:((s[k].toNat:Int) == 63)=false:=by rw [hc];decide
 have Hc:=Ac8 hc;clear hc hb0;have HGl:=Ac8 hG;clear hG;go_enter Tryz.func163,Tryz.ntmps163;go_wp2_with fail;go_quiet (fail);generalize nq=n1;go_wp2_with fail;go_quiet (fail);go_wp2_with fail;obtain ⟨hR,hS⟩:=HGO.out (n1+nq);rw [show k+1=st.pos+2 by rw [HK.out]] at hR;refine (hgr _ _ _ (HGl.out.step hS H.out hB) hfe hR).mono ?_;intro e w' hA;replace hA:=hA.from hS
 obtain ⟨mv',cv',hS',hr⟩:=hA;have HS':=Ac8 hS';clear hS';cases hg:Fz false s.data.toList sub st with
 | error q=>
  rw [hg] at hr;obtain rfl:e=_:=hr;go_wp2_with fail
  exact ⟨rfl,_,_,HS'.out,by rw [hg];exact rfl⟩
 | ok q=>
  rw [hg] at hr;obtain ⟨es',v,rfl,hR',hN'⟩:=hr;go_wp2_with fail
  go_ret;exact ⟨_,_,HS'.out,by rw [hg];exact ⟨es',v,rfl,hR',hN'⟩⟩
theorem V2 {B p:Nat} {s:ByteArray} {st:ReSt} {es:List Bool} {dep:Nat} {mv cv:Value} (w:World) (h:Rd B p w s (st.to (st.pos+1)) es dep mv cv) (hlt:st.pos+1 < s.size) (hc:byt s.data.toList (st.pos+1)=43∨byt s.data.toList (st.pos+1)=63∨byt s.data.toList (st.pos+1)=123) :
  Calls Tryz.prog 163 #[.pointer (some ⟨p,0,none⟩),.int .i64 (st.pos:Int)] w fun e w'=>BF (.error (10,st.pos)) B p s dep mv cv w e w':=by
 have hps:st.pos+1≤s.size:=h.pos;have hsm:=h.small;obtain ⟨k,hk⟩:∃ k,k=st.pos+1:=⟨_,rfl⟩;rw [←hk] at h hps hlt;have hk1:(k:Int) < (s.size:Int):=(by omega);have hb0:=BH s k hlt;have Wn:IntKind.i64.wrap ((k:Int)+1)=((k+1:Nat):Int):=(by rw [Adm _ (by omega)];omega);have hgo:∀ n,Rd B p ((w.drewN n).setCell ⟨p,1,none⟩ (.int .i64 ((k:Int)+1))) s (st.to (k+1)) es dep mv cv∧RStep p w mv cv ((w.drewN n).setCell ⟨p,1,none⟩ (.int .i64 ((k:Int)+1))) mv cv:=fun n=>⟨((h.below (below_drewN (Adk w.heap.size w) n)).goto (k+1) (show k≤k+1 by omega) (show k+1≤s.size by omega)).1,(RStep.of_below (below_drewN (Adk w.heap.size w) n)).trans ((h.below (below_drewN (Adk w.heap.size w) n)).goto (k+1) (show k≤k+1 by omega) (show k+1≤s.size by omega)).2⟩;obtain ⟨c0,c1,c2,c3,c4,z1,z2,z3,z4⟩:=h.cells;replace c1:w.cell? ⟨p,1,none⟩=some (.int .i64 (k:Int)):=c1;have e0:((k:Int) == (s.size:Int))=false:=(by rw [beq_eq_false_iff_ne];omega);have HK:=Ac8 hk;have HGO:=Ac8 hgo;have H:=Ac8 h;clear hk hgo h hps
 rw [←HK.out,hb0] at hc;rcases hc with hc | hc | hc
 ·have e40:((s[k].toNat:Int) == 40)=false:=by rw [hc];decide
  have e49:((s[k].toNat:Int) == 49)=false:=by rw [hc];decide
  have e50:((s[k].toNat:Int) == 50)=false:=by rw [hc];decide
  have e51:((s[k].toNat:Int) == 51)=false:=by rw [hc];decide
  have e52:((s[k].toNat:Int) == 52)=false:=by rw [hc];decide
  have e53:((s[k].toNat:Int) == 53)=false:=by rw [hc];decide
  have e54:((s[k].toNat:Int) == 54)=false:=by rw [hc];decide
  have e55:((s[k].toNat:Int) == 55)=false:=by rw [hc];decide
  have e56:((s[k].toNat:Int) == 56)=false:=by rw [hc];decide
  have e57:((s[k].toNat:Int) == 57)=false:=by rw [hc];decide
  have e123:((s[k].toNat:Int) == 123)=false:=by rw [hc];decide
  have e43:((s[k].toNat:Int) == 43)=true:=by rw [hc];decide
  have e63:((s[k].toNat:Int) == 63)=false:=by rw [hc];decide
  clear hc hb0;go_enter Tryz.func163,Tryz.ntmps163;go_wp2_with fail;go_quiet (fail);generalize nq=n1;go_wp2_with fail;go_quiet (fail);go_wp2_with fail;exact ⟨rfl,Az rfl (HGO.out (n1+nq)).2 rfl⟩
 ·have e40:((s[k].toNat:Int) == 40)=false:=by rw [hc];decide
  have e49:((s[k].toNat:Int) == 49)=false:=by rw [hc];decide
  have e50:((s[k].toNat:Int) == 50)=false:=by rw [hc];decide
  have e51:((s[k].toNat:Int) == 51)=false:=by rw [hc];decide
  have e52:((s[k].toNat:Int) == 52)=false:=by rw [hc];decide
  have e53:((s[k].toNat:Int) == 53)=false:=by rw [hc];decide
  have e54:((s[k].toNat:Int) == 54)=false:=by rw [hc];decide
  have e55:((s[k].toNat:Int) == 55)=false:=by rw [hc];decide
  have e56:((s[k].toNat:Int) == 56)=false:=by rw [hc];decide
  have e57:((s[k].toNat:Int) == 57)=false:=by rw [hc];decide
  have e123:((s[k].toNat:Int) == 123)=false:=by rw [hc];decide
  have e43:((s[k].toNat:Int) == 43)=false:=by rw [hc];decide
  have e63:((s[k].toNat:Int) == 63)=true:=by rw [hc];decide
  clear hc hb0;go_enter Tryz.func163,Tryz.ntmps163;go_wp2_with fail;go_quiet (fail);generalize nq=n1;go_wp2_with fail;go_quiet (fail);go_wp2_with fail;exact ⟨rfl,Az rfl (HGO.out (n1+nq)).2 rfl⟩
 ·have e40:((s[k].toNat:Int) == 40)=false:=by rw [hc];decide
  have e49:((s[k].toNat:Int) == 49)=false:=by rw [hc];decide
  have e50:((s[k].toNat:Int) == 50)=false:=by rw [hc];decide
  have e51:((s[k].toNat:Int) == 51)=false:=by rw [hc];decide
  have e52:((s[k].toNat:Int) == 52)=false:=by rw [hc];decide
  have e53:((s[k].toNat:Int) == 53)=false:=by rw [hc];decide
  have e54:((s[k].toNat:Int) == 54)=false:=by rw [hc];decide
  have e55:((s[k].toNat:Int) == 55)=false:=by rw [hc];decide
  have e56:((s[k].toNat:Int) == 56)=false:=by rw [hc];decide
  have e57:((s[k].toNat:Int) == 57)=false:=by rw [hc];decide
  have e123:((s[k].toNat:Int) == 123)=true:=by rw [hc];decide
  have e43:((s[k].toNat:Int) == 43)=false:=by rw [hc];decide
  have e63:((s[k].toNat:Int) == 63)=false:=by rw [hc];decide
  clear hc hb0;go_enter Tryz.func163,Tryz.ntmps163;go_wp2_with fail;go_quiet (fail);generalize nq=n1;go_wp2_with fail;go_quiet (fail);go_wp2_with fail;exact ⟨rfl,Az rfl (HGO.out (n1+nq)).2 rfl⟩
theorem V3 {B p:Nat} {s:ByteArray} {st:ReSt} {es:List Bool} {dep:Nat} {mv cv:Value} (w:World) (h:Rd B p w s (st.to (st.pos+1)) es dep mv cv) (hlt:st.pos+1 < s.size) (c:Nat) (hc0:byt s.data.toList (st.pos+1)=c) (h49:49≤c) (h57:c≤57) :
  Calls Tryz.prog 163 #[.pointer (some ⟨p,0,none⟩),.int .i64 (st.pos:Int)] w fun e w'=>BF (Dk false st c) B p s dep mv cv w e w':=by
 have he:Dk false st c=if st.closed.contains ((c:Int) - 48) then .ok (st.to (st.pos+2),.back ((c:Int) - 48)) else .error (9,st.pos):=by
  unfold Dk;rw [if_pos ⟨h49,h57⟩];rfl
 obtain ⟨R,hR0⟩:∃ R,R=Dk false st c:=⟨_,rfl⟩;rw [←hR0];have HR0:=Ac8 (hR0.trans he);clear he hR0;have hcc:=hc0;have hps:st.pos+1≤s.size:=h.pos;have hsm:=h.small;obtain ⟨k,hk⟩:∃ k,k=st.pos+1:=⟨_,rfl⟩;rw [←hk] at h hps hlt;have hk1:(k:Int) < (s.size:Int):=(by omega);have hb0:=BH s k hlt;have Wn:IntKind.i64.wrap ((k:Int)+1)=((k+1:Nat):Int):=(by rw [Adm _ (by omega)];omega);have hgo:∀ n,Rd B p ((w.drewN n).setCell ⟨p,1,none⟩ (.int .i64 ((k:Int)+1))) s (st.to (k+1)) es dep mv cv∧RStep p w mv cv ((w.drewN n).setCell ⟨p,1,none⟩ (.int .i64 ((k:Int)+1))) mv cv:=fun n=>⟨((h.below (below_drewN (Adk w.heap.size w) n)).goto (k+1) (show k≤k+1 by omega) (show k+1≤s.size by omega)).1,(RStep.of_below (below_drewN (Adk w.heap.size w) n)).trans ((h.below (below_drewN (Adk w.heap.size w) n)).goto (k+1) (show k≤k+1 by omega) (show k+1≤s.size by omega)).2⟩;obtain ⟨c0,c1,c2,c3,c4,z1,z2,z3,z4⟩:=h.cells;replace c1:w.cell? ⟨p,1,none⟩=some (.int .i64 (k:Int)):=c1;have e0:((k:Int) == (s.size:Int))=false:=(by rw [beq_eq_false_iff_ne];omega);have HK:=Ac8 hk;have HGO:=Ac8 hgo;have H:=Ac8 h;clear hk hgo h hps
 rw [←HK.out,hb0] at hc0;have hcs:c=49∨c=50∨c=51∨c=52∨c=53∨c=54∨c=55∨c=56∨c=57:=by omega
 clear h49 h57 hcc;rcases hcs with hcs | hcs | hcs | hcs | hcs | hcs | hcs | hcs | hcs
 ·have hc:s[k].toNat=49:=hc0.trans hcs
  have e40:((s[k].toNat:Int) == 40)=false:=by rw [hc];decide
  have e49:((s[k].toNat:Int) == 49)=true:=by rw [hc];decide
  have e50:((s[k].toNat:Int) == 50)=false:=by rw [hc];decide
  have e51:((s[k].toNat:Int) == 51)=false:=by rw [hc];decide
  have e52:((s[k].toNat:Int) == 52)=false:=by rw [hc];decide
  have e53:((s[k].toNat:Int) == 53)=false:=by rw [hc];decide
  have e54:((s[k].toNat:Int) == 54)=false:=by rw [hc];decide
  have e55:((s[k].toNat:Int) == 55)=false:=by rw [hc];decide
  have e56:((s[k].toNat:Int) == 56)=false:=by rw [hc];decide
  have e57:((s[k].toNat:Int) == 57)=false:=by rw [hc];decide
  have e123:((s[k].toNat:Int) == 123)=false:=by rw [hc];decide
  have e43:((s[k].toNat:Int) == 43)=false:=by rw [hc];decide
  have e63:((s[k].toNat:Int) == 63)=false:=by rw [hc];decide
  have Ws:IntKind.u8.wrap ((s[k].toNat:Int) - 48)=1:=by rw [hc];decide
  have HR1:=Ac8 (HR0.out.trans (by rw [show ((c:Int) - 48)=((1:Nat):Int) by rw [hcs];rfl]));clear hc hc0 hcs hb0;go_enter Tryz.func163,Tryz.ntmps163;go_wp2_with fail;go_quiet (fail);generalize nq=n1;go_wp2_with fail;go_quiet (fail);go_wp2_with fail;obtain ⟨hR,hS⟩:=HGO.out (n1+nq);cases hq:st.closed.contains ((1:Nat):Int) with
  | false=>
   refine (DI 1 st.pos _ hR (by decide) hq).mono ?_;rintro e w' ⟨hE,rfl⟩;obtain rfl:e=_:=hE;go_wp2_with fail
   exact ⟨rfl,Az (HR1.out.trans (by rw [hq];rfl)) hS rfl⟩
  | true=>
   refine (CY 1 st.pos _ hR (by decide) hq).mono ?_;rintro e w' ⟨rfl,rfl⟩;go_wp2_with fail
   go_ret;exact AK (HR1.out.trans (by rw [hq];rfl)) hS (by rw [show k+1=st.pos+2 by rw [HK.out]] at hR;exact hR) (BT _ _ _ _ _ _)
 ·have hc:s[k].toNat=50:=hc0.trans hcs
  have e40:((s[k].toNat:Int) == 40)=false:=by rw [hc];decide
  have e49:((s[k].toNat:Int) == 49)=false:=by rw [hc];decide
  have e50:((s[k].toNat:Int) == 50)=true:=by rw [hc];decide
  have e51:((s[k].toNat:Int) == 51)=false:=by rw [hc];decide
  have e52:((s[k].toNat:Int) == 52)=false:=by rw [hc];decide
  have e53:((s[k].toNat:Int) == 53)=false:=by rw [hc];decide
  have e54:((s[k].toNat:Int) == 54)=false:=by rw [hc];decide
  have e55:((s[k].toNat:Int) == 55)=false:=by rw [hc];decide
  have e56:((s[k].toNat:Int) == 56)=false:=by rw [hc];decide
  have e57:((s[k].toNat:Int) == 57)=false:=by rw [hc];decide
  have e123:((s[k].toNat:Int) == 123)=false:=by rw [hc];decide
  have e43:((s[k].toNat:Int) == 43)=false:=by rw [hc];decide
  have e63:((s[k].toNat:Int) == 63)=false:=by rw [hc];decide
  have Ws:IntKind.u8.wrap ((s[k].toNat:Int) - 48)=2:=by rw [hc];decide
  have HR1:=Ac8 (HR0.out.trans (by rw [show ((c:Int) - 48)=((2:Nat):Int) by rw [hcs];rfl]));clear hc hc0 hcs hb0;go_enter Tryz.func163,Tryz.ntmps163;go_wp2_with fail;go_quiet (fail);generalize nq=n1;go_wp2_with fail;go_quiet (fail);go_wp2_with fail;obtain ⟨hR,hS⟩:=HGO.out (n1+nq);cases hq:st.closed.contains ((2:Nat):Int) with
  | false=>
   refine (DI 2 st.pos _ hR (by decide) hq).mono ?_;rintro e w' ⟨hE,rfl⟩;obtain rfl:e=_:=hE;go_wp2_with fail
   exact ⟨rfl,Az (HR1.out.trans (by rw [hq];rfl)) hS rfl⟩
  | true=>
   refine (CY 2 st.pos _ hR (by decide) hq).mono ?_;rintro e w' ⟨rfl,rfl⟩;go_wp2_with fail
   go_ret;exact AK (HR1.out.trans (by rw [hq];rfl)) hS (by rw [show k+1=st.pos+2 by rw [HK.out]] at hR;exact hR) (BT _ _ _ _ _ _)
 ·have hc:s[k].toNat=51:=hc0.trans hcs
  have e40:((s[k].toNat:Int) == 40)=false:=by rw [hc];decide
  have e49:((s[k].toNat:Int) == 49)=false:=by rw [hc];decide
  have e50:((s[k].toNat:Int) == 50)=false:=by rw [hc];decide
  have e51:((s[k].toNat:Int) == 51)=true:=by rw [hc];decide
  have e52:((s[k].toNat:Int) == 52)=false:=by rw [hc];decide
  have e53:((s[k].toNat:Int) == 53)=false:=by rw [hc];decide
  have e54:((s[k].toNat:Int) == 54)=false:=by rw [hc];decide
  have e55:((s[k].toNat:Int) == 55)=false:=by rw [hc];decide
  have e56:((s[k].toNat:Int) == 56)=false:=by rw [hc];decide
  have e57:((s[k].toNat:Int) == 57)=false:=by rw [hc];decide
  have e123:((s[k].toNat:Int) == 123)=false:=by rw [hc];decide
  have e43:((s[k].toNat:Int) == 43)=false:=by rw [hc];decide
  have e63:((s[k].toNat:Int) == 63)=false:=by rw [hc];decide
  have Ws:IntKind.u8.wrap ((s[k].toNat:Int) - 48)=3:=by rw [hc];decide
  have HR1:=Ac8 (HR0.out.trans (by rw [show ((c:Int) - 48)=((3:Nat):Int) by rw [hcs];rfl]));clear hc hc0 hcs hb0;go_enter Tryz.func163,Tryz.ntmps163;go_wp2_with fail;go_quiet (fail);generalize nq=n1;go_wp2_with fail;go_quiet (fail);go_wp2_with fail;obtain ⟨hR,hS⟩:=HGO.out (n1+nq);cases hq:st.closed.contains ((3:Nat):Int) with
  | false=>
   refine (DI 3 st.pos _ hR (by decide) hq).mono ?_;rintro e w' ⟨hE,rfl⟩;obtain rfl:e=_:=hE;go_wp2_with fail
   exact ⟨rfl,Az (HR1.out.trans (by rw [hq];rfl)) hS rfl⟩
  | true=>
   refine (CY 3 st.pos _ hR (by decide) hq).mono ?_;rintro e w' ⟨rfl,rfl⟩;go_wp2_with fail
   go_ret;exact AK (HR1.out.trans (by rw [hq];rfl)) hS (by rw [show k+1=st.pos+2 by rw [HK.out]] at hR;exact hR) (BT _ _ _ _ _ _)
 ·have hc:s[k].toNat=52:=hc0.trans hcs
  have e40:((s[k].toNat:Int) == 40)=false:=by rw [hc];decide
  have e49:((s[k].toNat:Int) == 49)=false:=by rw [hc];decide
  have e50:((s[k].toNat:Int) == 50)=false:=by rw [hc];decide
  have e51:((s[k].toNat:Int) == 51)=false:=by rw [hc];decide
  have e52:((s[k].toNat:Int) == 52)=true:=by rw [hc];decide
  have e53:((s[k].toNat:Int) == 53)=false:=by rw [hc];decide
  have e54:((s[k].toNat:Int) == 54)=false:=by rw [hc];decide
  have e55:((s[k].toNat:Int) == 55)=false:=by rw [hc];decide
  have e56:((s[k].toNat:Int) == 56)=false:=by rw [hc];decide
  have e57:((s[k].toNat:Int) == 57)=false:=by rw [hc];decide
  have e123:((s[k].toNat:Int) == 123)=false:=by rw [hc];decide
  have e43:((s[k].toNat:Int) == 43)=false:=by rw [hc];decide
  have e63:((s[k].toNat:Int) == 63)=false:=by rw [hc];decide
  have Ws:IntKind.u8.wrap ((s[k].toNat:Int) - 48)=4:=by rw [hc];decide
  have HR1:=Ac8 (HR0.out.trans (by rw [show ((c:Int) - 48)=((4:Nat):Int) by rw [hcs];rfl]));clear hc hc0 hcs hb0;go_enter Tryz.func163,Tryz.ntmps163;go_wp2_with fail;go_quiet (fail);generalize nq=n1;go_wp2_with fail;go_quiet (fail);go_wp2_with fail;obtain ⟨hR,hS⟩:=HGO.out (n1+nq);cases hq:st.closed.contains ((4:Nat):Int) with
  | false=>
   refine (DI 4 st.pos _ hR (by decide) hq).mono ?_;rintro e w' ⟨hE,rfl⟩;obtain rfl:e=_:=hE;go_wp2_with fail
   exact ⟨rfl,Az (HR1.out.trans (by rw [hq];rfl)) hS rfl⟩
  | true=>
   refine (CY 4 st.pos _ hR (by decide) hq).mono ?_;rintro e w' ⟨rfl,rfl⟩;go_wp2_with fail
   go_ret;exact AK (HR1.out.trans (by rw [hq];rfl)) hS (by rw [show k+1=st.pos+2 by rw [HK.out]] at hR;exact hR) (BT _ _ _ _ _ _)
 ·have hc:s[k].toNat=53:=hc0.trans hcs
  have e40:((s[k].toNat:Int) == 40)=false:=by rw [hc];decide
  have e49:((s[k].toNat:Int) == 49)=false:=by rw [hc];decide
  have e50:((s[k].toNat:Int) == 50)=false:=by rw [hc];decide
  have e51:((s[k].toNat:Int) == 51)=false:=by rw [hc];decide
  have e52:((s[k].toNat:Int) == 52)=false:=by rw [hc];decide
  have e53:((s[k].toNat:Int) == 53)=true:=by rw [hc];decide
  have e54:((s[k].toNat:Int) == 54)=false:=by rw [hc];decide
  have e55:((s[k].toNat:Int) == 55)=false:=by rw [hc];decide
  have e56:((s[k].toNat:Int) == 56)=false:=by rw [hc];decide
  have e57:((s[k].toNat:Int) == 57)=false:=by rw [hc];decide
  have e123:((s[k].toNat:Int) == 123)=false:=by rw [hc];decide
  have e43:((s[k].toNat:Int) == 43)=false:=by rw [hc];decide
  have e63:((s[k].toNat:Int) == 63)=false:=by rw [hc];decide
  have Ws:IntKind.u8.wrap ((s[k].toNat:Int) - 48)=5:=by rw [hc];decide
  have HR1:=Ac8 (HR0.out.trans (by rw [show ((c:Int) - 48)=((5:Nat):Int) by rw [hcs];rfl]));clear hc hc0 hcs hb0;go_enter Tryz.func163,Tryz.ntmps163;go_wp2_with fail;go_quiet (fail);generalize nq=n1;go_wp2_with fail;go_quiet (fail);go_wp2_with fail;obtain ⟨hR,hS⟩:=HGO.out (n1+nq);cases hq:st.closed.contains ((5:Nat):Int) with
  | false=>
   refine (DI 5 st.pos _ hR (by decide) hq).mono ?_;rintro e w' ⟨hE,rfl⟩;obtain rfl:e=_:=hE;go_wp2_with fail
   exact ⟨rfl,Az (HR1.out.trans (by rw [hq];rfl)) hS rfl⟩
  | true=>
   refine (CY 5 st.pos _ hR (by decide) hq).mono ?_;rintro e w' ⟨rfl,rfl⟩;go_wp2_with fail
   go_ret;exact AK (HR1.out.trans (by rw [hq];rfl)) hS (by rw [show k+1=st.pos+2 by rw [HK.out]] at hR;exact hR) (BT _ _ _ _ _ _)
 ·have hc:s[k].toNat=54:=hc0.trans hcs
  have e40:((s[k].toNat:Int) == 40)=false:=by rw [hc];decide
  have e49:((s[k].toNat:Int) == 49)=false:=by rw [hc];decide
  have e50:((s[k].toNat:Int) == 50)=false:=by rw [hc];decide
  have e51:((s[k].toNat:Int) == 51)=false:=by rw [hc];decide
  have e52:((s[k].toNat:Int) == 52)=false:=by rw [hc];decide
  have e53:((s[k].toNat:Int) == 53)=false:=by rw [hc];decide
  have e54:((s[k].toNat:Int) == 54)=true:=by rw [hc];decide
  have e55:((s[k].toNat:Int) == 55)=false:=by rw [hc];decide
  have e56:((s[k].toNat:Int) == 56)=false:=by rw [hc];decide
  have e57:((s[k].toNat:Int) == 57)=false:=by rw [hc];decide
  have e123:((s[k].toNat:Int) == 123)=false:=by rw [hc];decide
  have e43:((s[k].toNat:Int) == 43)=false:=by rw [hc];decide
  have e63:((s[k].toNat:Int) == 63)=false:=by rw [hc];decide
  have Ws:IntKind.u8.wrap ((s[k].toNat:Int) - 48)=6:=by rw [hc];decide
  have HR1:=Ac8 (HR0.out.trans (by rw [show ((c:Int) - 48)=((6:Nat):Int) by rw [hcs];rfl]));clear hc hc0 hcs hb0;go_enter Tryz.func163,Tryz.ntmps163;go_wp2_with fail;go_quiet (fail);generalize nq=n1;go_wp2_with fail;go_quiet (fail);go_wp2_with fail;obtain ⟨hR,hS⟩:=HGO.out (n1+nq);cases hq:st.closed.contains ((6:Nat):Int) with
  | false=>
   refine (DI 6 st.pos _ hR (by decide) hq).mono ?_;rintro e w' ⟨hE,rfl⟩;obtain rfl:e=_:=hE;go_wp2_with fail
   exact ⟨rfl,Az (HR1.out.trans (by rw [hq];rfl)) hS rfl⟩
  | true=>
   refine (CY 6 st.pos _ hR (by decide) hq).mono ?_;rintro e w' ⟨rfl,rfl⟩;go_wp2_with fail
   go_ret;exact AK (HR1.out.trans (by rw [hq];rfl)) hS (by rw [show k+1=st.pos+2 by rw [HK.out]] at hR;exact hR) (BT _ _ _ _ _ _)
 ·have hc:s[k].toNat=55:=hc0.trans hcs
  have e40:((s[k].toNat:Int) == 40)=false:=by rw [hc];decide
  have e49:((s[k].toNat:Int) == 49)=false:=by rw [hc];decide
  have e50:((s[k].toNat:Int) == 50)=false:=by rw [hc];decide
  have e51:((s[k].toNat:Int) == 51)=false:=by rw [hc];decide
  have e52:((s[k].toNat:Int) == 52)=false:=by rw [hc];decide
  have e53:((s[k].toNat:Int) == 53)=false:=by rw [hc];decide
  have e54:((s[k].toNat:Int) == 54)=false:=by rw [hc];decide
  have e55:((s[k].toNat:Int) == 55)=true:=by rw [hc];decide
  have e56:((s[k].toNat:Int) == 56)=false:=by rw [hc];decide
  have e57:((s[k].toNat:Int) == 57)=false:=by rw [hc];decide
  have e123:((s[k].toNat:Int) == 123)=false:=by rw [hc];decide
  have e43:((s[k].toNat:Int) == 43)=false:=by rw [hc];decide
  have e63:((s[k].toNat:Int) == 63)=false:=by rw [hc];decide
  have Ws:IntKind.u8.wrap ((s[k].toNat:Int) - 48)=7:=by rw [hc];decide
  have HR1:=Ac8 (HR0.out.trans (by rw [show ((c:Int) - 48)=((7:Nat):Int) by rw [hcs];rfl]));clear hc hc0 hcs hb0;go_enter Tryz.func163,Tryz.ntmps163;go_wp2_with fail;go_quiet (fail);generalize nq=n1;go_wp2_with fail;go_quiet (fail);go_wp2_with fail;obtain ⟨hR,hS⟩:=HGO.out (n1+nq);cases hq:st.closed.contains ((7:Nat):Int) with
  | false=>
   refine (DI 7 st.pos _ hR (by decide) hq).mono ?_;rintro e w' ⟨hE,rfl⟩;obtain rfl:e=_:=hE;go_wp2_with fail
   exact ⟨rfl,Az (HR1.out.trans (by rw [hq];rfl)) hS rfl⟩
  | true=>
   refine (CY 7 st.pos _ hR (by decide) hq).mono ?_;rintro e w' ⟨rfl,rfl⟩;go_wp2_with fail
   go_ret;exact AK (HR1.out.trans (by rw [hq];rfl)) hS (by rw [show k+1=st.pos+2 by rw [HK.out]] at hR;exact hR) (BT _ _ _ _ _ _)
 ·have hc:s[k].toNat=56:=hc0.trans hcs
  have e40:((s[k].toNat:Int) == 40)=false:=by rw [hc];decide
  have e49:((s[k].toNat:Int) == 49)=false:=by rw [hc];decide
  have e50:((s[k].toNat:Int) == 50)=false:=by rw [hc];decide
  have e51:((s[k].toNat:Int) == 51)=false:=by rw [hc];decide
  have e52:((s[k].toNat:Int) == 52)=false:=by rw [hc];decide
  have e53:((s[k].toNat:Int) == 53)=false:=by rw [hc];decide
  have e54:((s[k].toNat:Int) == 54)=false:=by rw [hc];decide
  have e55:((s[k].toNat:Int) == 55)=false:=by rw [hc];decide
  have e56:((s[k].toNat:Int) == 56)=true:=by rw [hc];decide
  have e57:((s[k].toNat:Int) == 57)=false:=by rw [hc];decide
  have e123:((s[k].toNat:Int) == 123)=false:=by rw [hc];decide
  have e43:((s[k].toNat:Int) == 43)=false:=by rw [hc];decide
  have e63:((s[k].toNat:Int) == 63)=false:=by rw [hc];decide
  have Ws:IntKind.u8.wrap ((s[k].toNat:Int) - 48)=8:=by rw [hc];decide
  have HR1:=Ac8 (HR0.out.trans (by rw [show ((c:Int) - 48)=((8:Nat):Int) by rw [hcs];rfl]));clear hc hc0 hcs hb0;go_enter Tryz.func163,Tryz.ntmps163;go_wp2_with fail;go_quiet (fail);generalize nq=n1;go_wp2_with fail;go_quiet (fail);go_wp2_with fail;obtain ⟨hR,hS⟩:=HGO.out (n1+nq);cases hq:st.closed.contains ((8:Nat):Int) with
  | false=>
   refine (DI 8 st.pos _ hR (by decide) hq).mono ?_;rintro e w' ⟨hE,rfl⟩;obtain rfl:e=_:=hE;go_wp2_with fail
   exact ⟨rfl,Az (HR1.out.trans (by rw [hq];rfl)) hS rfl⟩
  | true=>
   refine (CY 8 st.pos _ hR (by decide) hq).mono ?_;rintro e w' ⟨rfl,rfl⟩;go_wp2_with fail
   go_ret;exact AK (HR1.out.trans (by rw [hq];rfl)) hS (by rw [show k+1=st.pos+2 by rw [HK.out]] at hR;exact hR) (BT _ _ _ _ _ _)
 ·have hc:s[k].toNat=57:=hc0.trans hcs
  have e40:((s[k].toNat:Int) == 40)=false:=by rw [hc];decide
  have e49:((s[k].toNat:Int) == 49)=false:=by rw [hc];decide
  have e50:((s[k].toNat:Int) == 50)=false:=by rw [hc];decide
  have e51:((s[k].toNat:Int) == 51)=false:=by rw [hc];decide
  have e52:((s[k].toNat:Int) == 52)=false:=by rw [hc];decide
  have e53:((s[k].toNat:Int) == 53)=false:=by rw [hc];decide
  have e54:((s[k].toNat:Int) == 54)=false:=by rw [hc];decide
  have e55:((s[k].toNat:Int) == 55)=false:=by rw [hc];decide
  have e56:((s[k].toNat:Int) == 56)=false:=by rw [hc];decide
  have e57:((s[k].toNat:Int) == 57)=true:=by rw [hc];decide
  have e123:((s[k].toNat:Int) == 123)=false:=by rw [hc];decide
  have e43:((s[k].toNat:Int) == 43)=false:=by rw [hc];decide
  have e63:((s[k].toNat:Int) == 63)=false:=by rw [hc];decide
  have Ws:IntKind.u8.wrap ((s[k].toNat:Int) - 48)=9:=by rw [hc];decide
  have HR1:=Ac8 (HR0.out.trans (by rw [show ((c:Int) - 48)=((9:Nat):Int) by rw [hcs];rfl]));clear hc hc0 hcs hb0;go_enter Tryz.func163,Tryz.ntmps163;go_wp2_with fail;go_quiet (fail);generalize nq=n1;go_wp2_with fail;go_quiet (fail);go_wp2_with fail;obtain ⟨hR,hS⟩:=HGO.out (n1+nq);cases hq:st.closed.contains ((9:Nat):Int) with
  | false=>
   refine (DI 9 st.pos _ hR (by decide) hq).mono ?_;rintro e w' ⟨hE,rfl⟩;obtain rfl:e=_:=hE;go_wp2_with fail
   exact ⟨rfl,Az (HR1.out.trans (by rw [hq];rfl)) hS rfl⟩
  | true=>
   refine (CY 9 st.pos _ hR (by decide) hq).mono ?_;rintro e w' ⟨rfl,rfl⟩;go_wp2_with fail
   go_ret;exact AK (HR1.out.trans (by rw [hq];rfl)) hS (by rw [show k+1=st.pos+2 by rw [HK.out]] at hR;exact hR) (BT _ _ _ _ _ _)
end
section
open Go Go.RowKit
theorem S1 (W:World) (m:Nat × Nat) (g:Nat) (hg:W.heap.size=g):∀ j u,(Eh m)[j]?=some u→(W.alloc (.cells #[.int .i64 (m.1:Int),.string ⟨#[92,UInt8.ofNat m.2]⟩] 33)).cell? ((⟨g,0,none⟩:Addr).add j)=some u:=by
 have hb:=Blk.new W #[.int .i64 (m.1:Int),.string ⟨#[92,UInt8.ofNat m.2]⟩] 33 g hg.symm;intro j u hu;rw [Go.WideShapes.add_plain,Nat.zero_add,hb.cell j,←Array.getElem?_toList];exact hu
def Hy (c:Nat):Prop:=c≠40∧¬ (49≤c∧c≤57)∧c≠43∧c≠63∧c≠123
theorem S2 {B p:Nat} {s:ByteArray} {st:ReSt} {es:List Bool} {dep:Nat} {mv cv:Value} (w:World) (h:Rd B p w s (st.to (st.pos+1)) es dep mv cv) (hlt:st.pos+1 < s.size) (c:Nat) (hc0:byt s.data.toList (st.pos+1)=c) (hno:Hy c) (hes:C9 c=none) :
  Calls Tryz.prog 163 #[.pointer (some ⟨p,0,none⟩),.int .i64 (st.pos:Int)] w fun e w'=>BF (.error (2,st.pos)) B p s dep mv cv w e w':=by
 have hps:st.pos+1≤s.size:=h.pos;have hsm:=h.small;obtain ⟨k,hk⟩:∃ k,k=st.pos+1:=⟨_,rfl⟩;rw [←hk] at h hps hlt;have hk1:(k:Int) < (s.size:Int):=(by omega);have hb0:=BH s k hlt;have Wn:IntKind.i64.wrap ((k:Int)+1)=((k+1:Nat):Int):=(by rw [Adm _ (by omega)];omega);have hgo:∀ n,Rd B p ((w.drewN n).setCell ⟨p,1,none⟩ (.int .i64 ((k:Int)+1))) s (st.to (k+1)) es dep mv cv∧RStep p w mv cv ((w.drewN n).setCell ⟨p,1,none⟩ (.int .i64 ((k:Int)+1))) mv cv:=fun n=>⟨((h.below (below_drewN (Adk w.heap.size w) n)).goto (k+1) (show k≤k+1 by omega) (show k+1≤s.size by omega)).1,(RStep.of_below (below_drewN (Adk w.heap.size w) n)).trans ((h.below (below_drewN (Adk w.heap.size w) n)).goto (k+1) (show k≤k+1 by omega) (show k+1≤s.size by omega)).2⟩;obtain ⟨c0,c1,c2,c3,c4,z1,z2,z3,z4⟩:=h.cells;replace c1:w.cell? ⟨p,1,none⟩=some (.int .i64 (k:Int)):=c1;have e0:((k:Int) == (s.size:Int))=false:=(by rw [beq_eq_false_iff_ne];omega);have HK:=Ac8 hk;have HGO:=Ac8 hgo;have H:=Ac8 h;clear hk hgo h hps
 rw [←HK.out,hb0] at hc0;obtain ⟨n1',n2',n3',n4',n5'⟩:=hno;have hc:s[k].toNat=c:=hc0;have hc256:c < 256:=(by rw [←hc];exact UInt8.toNat_lt _);have e40:((s[k].toNat:Int) == 40)=false:=by rw [hc,beq_eq_false_iff_ne];omega
 have e49:((s[k].toNat:Int) == 49)=false:=by rw [hc,beq_eq_false_iff_ne];omega
 have e50:((s[k].toNat:Int) == 50)=false:=by rw [hc,beq_eq_false_iff_ne];omega
 have e51:((s[k].toNat:Int) == 51)=false:=by rw [hc,beq_eq_false_iff_ne];omega
 have e52:((s[k].toNat:Int) == 52)=false:=by rw [hc,beq_eq_false_iff_ne];omega
 have e53:((s[k].toNat:Int) == 53)=false:=by rw [hc,beq_eq_false_iff_ne];omega
 have e54:((s[k].toNat:Int) == 54)=false:=by rw [hc,beq_eq_false_iff_ne];omega
 have e55:((s[k].toNat:Int) == 55)=false:=by rw [hc,beq_eq_false_iff_ne];omega
 have e56:((s[k].toNat:Int) == 56)=false:=by rw [hc,beq_eq_false_iff_ne];omega
 have e57:((s[k].toNat:Int) == 57)=false:=by rw [hc,beq_eq_false_iff_ne];omega
 have e123:((s[k].toNat:Int) == 123)=false:=by rw [hc,beq_eq_false_iff_ne];omega
 have e43:((s[k].toNat:Int) == 43)=false:=by rw [hc,beq_eq_false_iff_ne];omega
 have e63:((s[k].toNat:Int) == 63)=false:=by rw [hc,beq_eq_false_iff_ne];omega
 have he:=fun w=>Ga s[k].toNat (UInt8.toNat_lt _) w
 rw [hc] at he;rw [hes,←hc,show P9 none=.tuple #[.agg #[.int .u64 0,.int .u64 0,.int .u64 0,.int .u64 0],.bool false,.bool false] from rfl] at he;clear hc hc0 hes hb0 n1' n2' n3' n4' n5' hc256;go_enter Tryz.func163,Tryz.ntmps163;go_wp2_with fail;go_quiet (fail);generalize nq=n1;go_wp2_with fail;go_quiet (fail);go_wp2_with fail;refine (he _).mono ?_;rintro e w1 ⟨rfl,b1⟩;have hS1:=((HGO.out (n1+nq)).2.trans (RStep.of_below (p:=p) (mv:=mv) (cv:=cv) b1))
 have hS2:=hS1.trans (RStep.of_below (p:=p) (mv:=mv) (cv:=cv) ((Adk w1.heap.size w1).alloc (Adf _) (.cells #[.int .u64 0,.int .u64 0,.int .u64 0,.int .u64 0] 109)));have HS2:=Ac8 hS2;clear hS1 hS2 b1;go_wp2_with fail
 exact ⟨rfl,Az rfl HS2.out rfl⟩
theorem V4 {B p:Nat} {s:ByteArray} {st:ReSt} {es:List Bool} {dep:Nat} {mv cv:Value} (w:World) (h:Rd B p w s (st.to (st.pos+1)) es dep mv cv) (hlt:st.pos+1 < s.size) (c:Nat) (hc0:byt s.data.toList (st.pos+1)=c) (hno:Hy c) (t:OSet) (hes:C9 c=some (t,false)) :
  Calls Tryz.prog 163 #[.pointer (some ⟨p,0,none⟩),.int .i64 (st.pos:Int)] w fun e w'=>BF (.ok (st.to (st.pos+2),.one t)) B p s dep mv cv w e w':=by
 have hps:st.pos+1≤s.size:=h.pos;have hsm:=h.small;obtain ⟨k,hk⟩:∃ k,k=st.pos+1:=⟨_,rfl⟩;rw [←hk] at h hps hlt;have hk1:(k:Int) < (s.size:Int):=(by omega);have hb0:=BH s k hlt;have Wn:IntKind.i64.wrap ((k:Int)+1)=((k+1:Nat):Int):=(by rw [Adm _ (by omega)];omega);have hgo:∀ n,Rd B p ((w.drewN n).setCell ⟨p,1,none⟩ (.int .i64 ((k:Int)+1))) s (st.to (k+1)) es dep mv cv∧RStep p w mv cv ((w.drewN n).setCell ⟨p,1,none⟩ (.int .i64 ((k:Int)+1))) mv cv:=fun n=>⟨((h.below (below_drewN (Adk w.heap.size w) n)).goto (k+1) (show k≤k+1 by omega) (show k+1≤s.size by omega)).1,(RStep.of_below (below_drewN (Adk w.heap.size w) n)).trans ((h.below (below_drewN (Adk w.heap.size w) n)).goto (k+1) (show k≤k+1 by omega) (show k+1≤s.size by omega)).2⟩;obtain ⟨c0,c1,c2,c3,c4,z1,z2,z3,z4⟩:=h.cells;replace c1:w.cell? ⟨p,1,none⟩=some (.int .i64 (k:Int)):=c1;have e0:((k:Int) == (s.size:Int))=false:=(by rw [beq_eq_false_iff_ne];omega);have HK:=Ac8 hk;have HGO:=Ac8 hgo;have H:=Ac8 h;clear hk hgo h hps
 rw [←HK.out,hb0] at hc0;obtain ⟨n1',n2',n3',n4',n5'⟩:=hno;have hc:s[k].toNat=c:=hc0;have hc256:c < 256:=(by rw [←hc];exact UInt8.toNat_lt _);have e40:((s[k].toNat:Int) == 40)=false:=by rw [hc,beq_eq_false_iff_ne];omega
 have e49:((s[k].toNat:Int) == 49)=false:=by rw [hc,beq_eq_false_iff_ne];omega
 have e50:((s[k].toNat:Int) == 50)=false:=by rw [hc,beq_eq_false_iff_ne];omega
 have e51:((s[k].toNat:Int) == 51)=false:=by rw [hc,beq_eq_false_iff_ne];omega
 have e52:((s[k].toNat:Int) == 52)=false:=by rw [hc,beq_eq_false_iff_ne];omega
 have e53:((s[k].toNat:Int) == 53)=false:=by rw [hc,beq_eq_false_iff_ne];omega
 have e54:((s[k].toNat:Int) == 54)=false:=by rw [hc,beq_eq_false_iff_ne];omega
 have e55:((s[k].toNat:Int) == 55)=false:=by rw [hc,beq_eq_false_iff_ne];omega
 have e56:((s[k].toNat:Int) == 56)=false:=by rw [hc,beq_eq_false_iff_ne];omega
 have e57:((s[k].toNat:Int) == 57)=false:=by rw [hc,beq_eq_false_iff_ne];omega
 have e123:((s[k].toNat:Int) == 123)=false:=by rw [hc,beq_eq_false_iff_ne];omega
 have e43:((s[k].toNat:Int) == 43)=false:=by rw [hc,beq_eq_false_iff_ne];omega
 have e63:((s[k].toNat:Int) == 63)=false:=by rw [hc,beq_eq_false_iff_ne];omega
 have he:=fun w=>Ga s[k].toNat (UInt8.toNat_lt _) w
 rw [hc] at he;rw [hes,←hc,show P9 (some (t,false))=.tuple #[.agg #[.int .u64 (ow t 0),.int .u64 (ow t 1),.int .u64 (ow t 2),.int .u64 (ow t 3)],.bool false,.bool true] from rfl] at he;clear hc hc0 hes hb0 n1' n2' n3' n4' n5' hc256;go_enter Tryz.func163,Tryz.ntmps163;go_wp2_with fail;go_quiet (fail);generalize nq=n1;go_wp2_with fail;go_quiet (fail);go_wp2_with fail;refine (he _).mono ?_;rintro e w1 ⟨rfl,b1⟩;have hR:=(HGO.out (n1+nq)).1;rw [show k+1=st.pos+2 by rw [HK.out]] at hR;have hA:=(Adk w1.heap.size w1).alloc (Adf _) (.cells #[.int .u64 (ow t 0),.int .u64 (ow t 1),.int .u64 (ow t 2),.int .u64 (ow t 3)] 109);have HR:=Ac8 ((hR.below b1).below hA);have HS2:=Ac8 (((HGO.out (n1+nq)).2.trans (RStep.of_below (p:=p) (mv:=mv) (cv:=cv) b1)).trans (RStep.of_below (p:=p) (mv:=mv) (cv:=cv) hA));clear b1 hA hR;go_wp2_with fail
 go_ret;exact AK rfl HS2.out HR.out (EJ _ _ _ _ _ _)
theorem S4 {B p:Nat} {s:ByteArray} {st:ReSt} {es:List Bool} {dep:Nat} {mv cv:Value} (w:World) (h:Rd B p w s (st.to (st.pos+1)) es dep mv cv) (hlt:st.pos+1 < s.size) (c:Nat) (hc0:byt s.data.toList (st.pos+1)=c) (hno:Hy c) (t:OSet) (hes:C9 c=some (t,true)) :
  Calls Tryz.prog 163 #[.pointer (some ⟨p,0,none⟩),.int .i64 (st.pos:Int)] w fun e w'=>BF (.ok ((st.mark c).to (st.pos+2),.one t)) B p s dep mv cv w e w':=by
 have hps:st.pos+1≤s.size:=h.pos;have hsm:=h.small;obtain ⟨k,hk⟩:∃ k,k=st.pos+1:=⟨_,rfl⟩;rw [←hk] at h hps hlt;have hk1:(k:Int) < (s.size:Int):=(by omega);have hb0:=BH s k hlt;have Wn:IntKind.i64.wrap ((k:Int)+1)=((k+1:Nat):Int):=(by rw [Adm _ (by omega)];omega);have hgo:∀ n,Rd B p ((w.drewN n).setCell ⟨p,1,none⟩ (.int .i64 ((k:Int)+1))) s (st.to (k+1)) es dep mv cv∧RStep p w mv cv ((w.drewN n).setCell ⟨p,1,none⟩ (.int .i64 ((k:Int)+1))) mv cv:=fun n=>⟨((h.below (below_drewN (Adk w.heap.size w) n)).goto (k+1) (show k≤k+1 by omega) (show k+1≤s.size by omega)).1,(RStep.of_below (below_drewN (Adk w.heap.size w) n)).trans ((h.below (below_drewN (Adk w.heap.size w) n)).goto (k+1) (show k≤k+1 by omega) (show k+1≤s.size by omega)).2⟩;obtain ⟨c0,c1,c2,c3,c4,z1,z2,z3,z4⟩:=h.cells;replace c1:w.cell? ⟨p,1,none⟩=some (.int .i64 (k:Int)):=c1;have e0:((k:Int) == (s.size:Int))=false:=(by rw [beq_eq_false_iff_ne];omega);have HK:=Ac8 hk;have HGO:=Ac8 hgo;have H:=Ac8 h;clear hk hgo h hps
 rw [←HK.out,hb0] at hc0;obtain ⟨n1',n2',n3',n4',n5'⟩:=hno;have hc:s[k].toNat=c:=hc0;have hc256:c < 256:=(by rw [←hc];exact UInt8.toNat_lt _);have e40:((s[k].toNat:Int) == 40)=false:=by rw [hc,beq_eq_false_iff_ne];omega
 have e49:((s[k].toNat:Int) == 49)=false:=by rw [hc,beq_eq_false_iff_ne];omega
 have e50:((s[k].toNat:Int) == 50)=false:=by rw [hc,beq_eq_false_iff_ne];omega
 have e51:((s[k].toNat:Int) == 51)=false:=by rw [hc,beq_eq_false_iff_ne];omega
 have e52:((s[k].toNat:Int) == 52)=false:=by rw [hc,beq_eq_false_iff_ne];omega
 have e53:((s[k].toNat:Int) == 53)=false:=by rw [hc,beq_eq_false_iff_ne];omega
 have e54:((s[k].toNat:Int) == 54)=false:=by rw [hc,beq_eq_false_iff_ne];omega
 have e55:((s[k].toNat:Int) == 55)=false:=by rw [hc,beq_eq_false_iff_ne];omega
 have e56:((s[k].toNat:Int) == 56)=false:=by rw [hc,beq_eq_false_iff_ne];omega
 have e57:((s[k].toNat:Int) == 57)=false:=by rw [hc,beq_eq_false_iff_ne];omega
 have e123:((s[k].toNat:Int) == 123)=false:=by rw [hc,beq_eq_false_iff_ne];omega
 have e43:((s[k].toNat:Int) == 43)=false:=by rw [hc,beq_eq_false_iff_ne];omega
 have e63:((s[k].toNat:Int) == 63)=false:=by rw [hc,beq_eq_false_iff_ne];omega
 have he:=fun w=>Ga s[k].toNat (UInt8.toNat_lt _) w
 rw [hc] at he;have hcv:∀ W:World,(convert 165 9 (.slice (some ⟨W.heap.size,0,none⟩) 2 2)).run Tryz.prog (W.alloc (.cells #[.int .u8 92,.int .u8 (s[k].toNat:Int)] 5)).drew=.ok (.string ⟨#[92,UInt8.ofNat c]⟩) (W.alloc (.cells #[.int .u8 92,.int .u8 (s[k].toNat:Int)] 5)).drew:=fun W=>by
  rw [FW W 92 (s[k].toNat:Int),hc];rfl
 obtain ⟨i0,hi,hz0,hz1,hz2⟩:=Co;rw [hes,←hc,show P9 (some (t,true))=.tuple #[.agg #[.int .u64 (ow t 0),.int .u64 (ow t 1),.int .u64 (ow t 2),.int .u64 (ow t 3)],.bool true,.bool true] from rfl] at he;have hfew:=H.out.few.1;have hfew2:st.marks.length≤k:=hfew;clear hc hc0 hes hb0 n1' n2' n3' n4' n5' hfew;go_enter Tryz.func163,Tryz.ntmps163;go_wp2_with fail;go_quiet (fail);generalize nq=n1;go_wp2_with fail;go_quiet (fail);go_wp2_with fail;refine (he _).mono ?_;rintro e w1 ⟨rfl,b1⟩;have hR:=(HGO.out (n1+nq)).1;have HS1:=Ac8 ((HGO.out (n1+nq)).2.trans (RStep.of_below (p:=p) (mv:=mv) (cv:=cv) b1));have hR1:=hR.below b1;clear hR b1 c0 c1 c2 c3 c4 z1 z2 z3 z4;have hA:=(Adk w1.heap.size w1).alloc (Adf _) (.cells #[.int .u64 (ow t 0),.int .u64 (ow t 1),.int .u64 (ow t 2),.int .u64 (ow t 3)] 109);have hRA:=hR1.below hA;have hPA:=Blk.new w1 #[.int .u64 (ow t 0),.int .u64 (ow t 1),.int .u64 (ow t 2),.int .u64 (ow t 3)] 109 w1.heap.size rfl;have HSA:=Ac8 (HS1.out.trans (RStep.of_below (p:=p) (mv:=mv) (cv:=cv) hA));have hmq:mv.ownBlock≠some w1.heap.size:=fun hv=>by have:=AA hR1.mo _ hv;omega
 have hq2:w1.heap.size < (w1.alloc (.cells #[.int .u64 (ow t 0),.int .u64 (ow t 1),.int .u64 (ow t 2),.int .u64 (ow t 3)] 109)).heap.size:=by simp
 have hpq:w1.heap.size≠p:=fun e=>by have:=hR1.blk.lt;omega
 have hpq2:p≠w1.heap.size:=fun e=>hpq e.symm
 clear hA hR1;go_upto_region 26 with fail;generalize hw2:w1.alloc (.cells #[.int .u64 (ow t 0),.int .u64 (ow t 1),.int .u64 (ow t 2),.int .u64 (ow t 3)] 109)=w2 at *;generalize hq:w1.heap.size=q at *;clear hw2 hq;have hpl:=hRA.blk.lt;have hBp:=hRA.bp;obtain ⟨c0,c1,c2,c3,c4,z1,z2,z3,z4⟩:=hRA.cells;have hcv2:=hcv w2;have hv1:∀ u∈Eh (st.pos,c),u.oneCell'=true:=by intro u hu;simp [Eh] at hu;rcases hu with rfl | rfl <;> rfl
 have hm1:st.marks.length+1≤maxLen:=by unfold maxLen;omega
 have hm2:(st.marks.length+1) * 24≤140737488355328:=by omega
 have HRA:=Ac8 hRA;have HPA:=Ac8 hPA;clear hcv;clear hRA hPA
 go_region_law (first
  | (refine A1 rfl _ _ 26 rfl B 33 i0 (.agg #[.int .i64 0,.string ⟨#[]⟩]) 2 24 Tryz.underlying26 hi hz0 hz1 hz2 rfl (by decide) mv st.marks.length (marksC st.marks) rfl (Ag HRA.out.mo (by repeat (first | (with_reducible exact Adk _ _) | refine Below.drew ?_ | refine below_drewN ?_ _ | refine Below.alloc ?_ (by first | omega | (simp;omega) | simp) _))) (some ⟨w2.heap.size+1,0,none⟩) 1 1 (Eh (st.pos,c)) rfl rfl (fun _=>⟨_,rfl,S1 _ _ _ (by simp)⟩) hv1 hm1 hm2 (by simp;omega) ?_;intro v6 w6 hown6 hgrow6 hat6;have HM:=Ac8 ((HRA.out.below (by repeat (first | (with_reducible exact Adk _ _) | refine Below.drew ?_ | refine below_drewN ?_ _ | refine Below.alloc ?_ (by first | omega | (simp;omega) | simp) _))).mark (m:=(st.pos,c)) hown6 hgrow6 hat6 (by show st.marks.length+1≤k+1;omega));have hfz:w6.frozen? ⟨p,2,none⟩=false:=(hgrow6.frozen_far ⟨p,2,none⟩ (by simp;omega) (fun e=>HRA.out.mp e.symm)).trans ((HRA.out.below (by repeat (first | (with_reducible exact Adk _ _) | refine Below.drew ?_ | refine below_drewN ?_ _ | refine Below.alloc ?_ (by first | omega | (simp;omega) | simp) _))).blk.frozen 2);have hce:w6.cell? ⟨p,2,none⟩=some mv:=(hgrow6.cell_far ⟨p,2,none⟩ (by simp;omega) (fun e=>HRA.out.mp e.symm)).trans (((HRA.out.below (by repeat (first | (with_reducible exact Adk _ _) | refine Below.drew ?_ | refine below_drewN ?_ _ | refine Below.alloc ?_ (by first | omega | (simp;omega) | simp) _))).blk.cell 2).trans rfl);have hs0:w6.cell? ⟨q,0,none⟩=some (.int .u64 (ow t 0)):=(hgrow6.cell_far ⟨q,0,none⟩ (by simp;omega) (fun e=>hmq e.symm)).trans (((HPA.out.below (by repeat (first | (with_reducible exact Adk _ _) | refine Below.drew ?_ | refine below_drewN ?_ _ | refine Below.alloc ?_ (by first | omega | (simp;omega) | simp) _)) hq2).cell 0).trans rfl);have hs1:w6.cell? ⟨q,1,none⟩=some (.int .u64 (ow t 1)):=(hgrow6.cell_far ⟨q,1,none⟩ (by simp;omega) (fun e=>hmq e.symm)).trans (((HPA.out.below (by repeat (first | (with_reducible exact Adk _ _) | refine Below.drew ?_ | refine below_drewN ?_ _ | refine Below.alloc ?_ (by first | omega | (simp;omega) | simp) _)) hq2).cell 1).trans rfl);have hs2:w6.cell? ⟨q,2,none⟩=some (.int .u64 (ow t 2)):=(hgrow6.cell_far ⟨q,2,none⟩ (by simp;omega) (fun e=>hmq e.symm)).trans (((HPA.out.below (by repeat (first | (with_reducible exact Adk _ _) | refine Below.drew ?_ | refine below_drewN ?_ _ | refine Below.alloc ?_ (by first | omega | (simp;omega) | simp) _)) hq2).cell 2).trans rfl);have hs3:w6.cell? ⟨q,3,none⟩=some (.int .u64 (ow t 3)):=(hgrow6.cell_far ⟨q,3,none⟩ (by simp;omega) (fun e=>hmq e.symm)).trans (((HPA.out.below (by repeat (first | (with_reducible exact Adk _ _) | refine Below.drew ?_ | refine below_drewN ?_ _ | refine Below.alloc ?_ (by first | omega | (simp;omega) | simp) _)) hq2).cell 3).trans rfl);obtain ⟨g,gcap,hv6,_,_⟩:=World.ownsRow.form hown6 (Nat.succ_pos _);subst hv6;clear hown6 hgrow6 hat6))
 all_goals
  go_wp2_with fail
  go_ret;exact AK rfl ((HSA.out.trans (RStep.of_below (p:=p) (mv:=mv) (cv:=cv) (by repeat (first | (with_reducible exact Adk _ _) | refine Below.drew ?_ | refine below_drewN ?_ _ | refine Below.alloc ?_ (by first | omega | (simp;omega) | simp) _)))).trans HM.out.2) (by have h9:=HM.out.1;rw [show st.to (k+1)=st.to (st.pos+2) by rw [HK.out]] at h9;exact h9) (EJ _ _ _ _ _ _)
end
section
open Go Go.RowKit
def Dz (s:List UInt8) (sub:Option (ReSt→ReRes (ReSt × Nd))) (front:Bool) (st:ReSt):ReRes (ReSt × Nd):=
 if front && (A0 false s st.pos 123 || A0 false s st.pos 43 || A0 false s st.pos 63) then .error (10,st.pos) else Bb false s sub st
theorem FD {s:List UInt8} {k c:Nat} (h:k+1 < s.length) (h1:byt s k=92) (h2:byt s (k+1)=c):BI s k c=true:=by
 unfold BI;rw [decide_eq_true h,decide_eq_true h1,decide_eq_true h2];rfl
theorem Ei {s:List UInt8} {k c:Nat} (h:byt s k≠92∨byt s (k+1)≠c∨¬ k+1 < s.length):BI s k c=false:=by
 unfold BI;rcases h with h | h | h
 ·rw [decide_eq_false h];simp
 ·rw [decide_eq_false h];simp
 ·rw [decide_eq_false h];simp
theorem M8 {s:List UInt8} {k c:Nat} (h:k < s.length) (h1:byt s k=c):chAt s k c=true:=by
 unfold chAt;rw [decide_eq_true h,decide_eq_true h1];rfl
theorem NM {s:List UInt8} {sub:Option (ReSt→ReRes (ReSt × Nd))} {front:Bool} {st:ReSt} (h:byt s st.pos≠92):Dz s sub front st =
  if chAt s st.pos 91 then (if (Fo s ((st.pos:Int)+1)).2.2=0 then .ok (st.to (Fo s ((st.pos:Int)+1)).2.1.toNat,.one (Fo s ((st.pos:Int)+1)).1) else .error ((Fo s ((st.pos:Int)+1)).2.2,(Fo s ((st.pos:Int)+1)).2.1.toNat))
  else if chAt s st.pos 46 then .ok (st.to (st.pos+1),.one (Ab 0 255)) else .ok (st.to (st.pos+1),.one (Ab (byt s st.pos) (byt s st.pos))):=by
 unfold Dz Bb A0;simp only [Bool.false_eq_true,if_false,Ei (.inl h),Bool.or_self,Bool.and_false,B7 h]
theorem PG {s:List UInt8} {sub:Option (ReSt→ReRes (ReSt × Nd))} {front:Bool} {st:ReSt} (h:byt s st.pos=92) (hl:st.pos < s.length) (h2:¬ st.pos+1 < s.length):Dz s sub front st=.error (11,st.pos):=by
 unfold Dz Bb A0;simp only [Bool.false_eq_true,if_false,Ei (.inr (.inr h2)),Bool.or_self,Bool.and_false,M8 hl h,B7 (show byt s st.pos≠91 by omega),B7 (show byt s st.pos≠46 by omega),if_true];rw [if_neg h2]
theorem S7 {s:List UInt8} {sub:Option (ReSt→ReRes (ReSt × Nd))} {front:Bool} {st:ReSt} (h:byt s st.pos=92) (h2:st.pos+1 < s.length) (hc:byt s (st.pos+1)=40):Dz s sub front st=Fz false s sub st:=by
 unfold Dz Bb A0;simp only [Bool.false_eq_true,if_false,FD h2 h hc,Ei (c:=123) (.inr (.inl (by omega:byt s (st.pos+1)≠123))),Ei (c:=43) (.inr (.inl (by omega:byt s (st.pos+1)≠43))),Ei (c:=63) (.inr (.inl (by omega:byt s (st.pos+1)≠63))),Bool.or_self,Bool.and_false,if_true]
theorem SA {s:List UInt8} {sub:Option (ReSt→ReRes (ReSt × Nd))} {st:ReSt} (h:byt s st.pos=92) (h2:st.pos+1 < s.length) (hc:byt s (st.pos+1)=43∨byt s (st.pos+1)=63∨byt s (st.pos+1)=123):Dz s sub true st=.error (10,st.pos):=by
 unfold Dz A0;simp only [Bool.false_eq_true,if_false];rcases hc with hc | hc | hc
 ·rw [FD h2 h hc];simp
 ·rw [FD h2 h hc];simp
 ·rw [FD h2 h hc];simp
theorem SB {s:List UInt8} {k:Nat} (h:byt s k=92) (h2:k+1 < s.length) (hc:byt s (k+1)=43∨byt s (k+1)=63∨byt s (k+1)=123):repAt false s k≠.none:=by
 unfold repAt A0;simp only [Bool.false_eq_true,if_false,B7 (show byt s k≠42 by omega)];rcases hc with hc | hc | hc
 ·rw [FD h2 h hc];simp
 ·rw [Ei (.inr (.inl (show byt s (k+1)≠43 by omega))),FD h2 h hc];simp
 ·rw [Ei (.inr (.inl (show byt s (k+1)≠43 by omega))),Ei (.inr (.inl (show byt s (k+1)≠63 by omega))),FD h2 h hc]
  simp only [Bool.false_eq_true,if_false,if_true];split <;> simp
theorem SC {s:List UInt8} {sub:Option (ReSt→ReRes (ReSt × Nd))} {front:Bool} {st:ReSt} {c:Nat} (h:byt s st.pos=92) (h2:st.pos+1 < s.length) (hc:byt s (st.pos+1)=c) (h40:c≠40) (h41:c≠41) (h43:c≠43) (h63:c≠63) (h123:c≠123):Dz s sub front st=Dk false st c:=by
 have hl:st.pos < s.length:=by omega
 unfold Dz Bb A0;simp only [Bool.false_eq_true,if_false,Ei (c:=123) (.inr (.inl (by rw [hc];exact h123:byt s (st.pos+1)≠123))),Ei (c:=43) (.inr (.inl (by rw [hc];exact h43:byt s (st.pos+1)≠43))),Ei (c:=63) (.inr (.inl (by rw [hc];exact h63:byt s (st.pos+1)≠63))),Ei (c:=40) (.inr (.inl (by rw [hc];exact h40:byt s (st.pos+1)≠40))),Ei (c:=41) (.inr (.inl (by rw [hc];exact h41:byt s (st.pos+1)≠41))),Bool.or_self,Bool.and_false,M8 hl h,B7 (show byt s st.pos≠91 by omega),B7 (show byt s st.pos≠46 by omega),if_true];rw [if_pos h2,hc]
theorem NN {B p:Nat} {s:ByteArray} {st:ReSt} {es:List Bool} {dep:Nat} {mv cv:Value} (w:World) (h:Rd B p w s (st.to (st.pos+1)) es dep mv cv) (hb:byt s.data.toList st.pos=92) (front:Bool) (hfr:front=true∨repAt false s.data.toList st.pos=.none) (hen:AB s.data.toList st.pos=false)
  (sub:Option (ReSt→ReRes (ReSt × Nd))) (hG:Gl w) (hB:glN≤B) (hfe:es.length≤st.pos) (hgr:Eu B p s st es dep sub) :
  Calls Tryz.prog 163 #[.pointer (some ⟨p,0,none⟩),.int .i64 (st.pos:Int)] w fun e w'=>BF (Dz s.data.toList sub front st) B p s dep mv cv w e w':=by
 have hsl:s.data.toList.length=s.size:=by simp
 have hps:st.pos+1≤s.size:=h.pos;by_cases hlt:st.pos+1 < s.size
 ·have hl2:st.pos+1 < s.data.toList.length:=by omega
  have h41:byt s.data.toList (st.pos+1)≠41:=fun e=>by
   unfold AB at hen;rw [FD hl2 hb e] at hen;simp at hen
  by_cases hg:byt s.data.toList (st.pos+1)=40
  ·rw [S7 hb hl2 hg]
   exact V1 w h hlt hg sub hG hB hfe hgr
  by_cases hr:byt s.data.toList (st.pos+1)=43∨byt s.data.toList (st.pos+1)=63∨byt s.data.toList (st.pos+1)=123
  ·rcases hfr with rfl | hfr
   ·rw [SA hb hl2 hr]
    exact V2 w h hlt hr
   ·exact (SB hb hl2 hr hfr).elim
  ·obtain ⟨c,hc⟩:∃ c,byt s.data.toList (st.pos+1)=c:=⟨_,rfl⟩
   rw [hc] at h41 hg hr;rw [SC hb hl2 hc hg h41 (by omega) (by omega) (by omega)];by_cases hd:49≤c∧c≤57
   ·exact V3 w h hlt c hc hd.1 hd.2
   ·have hp:Hy c:=⟨hg,hd,by omega,by omega,by omega⟩
    have he:Dk false st c=match C9 c with
      | none=>.error (2,st.pos)
      | some (t,m)=>.ok ((if m then st.mark c else st).to (st.pos+2),.one t):=by
     unfold Dk;rw [if_neg hd];cases C9 c with
     | none=>rfl
     | some q=>obtain ⟨t,m⟩:=q;rfl
    rw [he];cases hs:C9 c with
    | none=>exact S2 w h hlt c hc hp hs
    | some q=>
     obtain ⟨t,m⟩:=q;cases m with
     | false=>exact V4 w h hlt c hc hp t hs
     | true=>exact S4 w h hlt c hc hp t hs
 ·rw [PG hb (by omega) (by omega)]
  exact S0 w h (by omega)
end
section
open Go Go.RowKit
theorem V5 {B p:Nat} {s:ByteArray} {st:ReSt} {es:List Bool} {dep:Nat} {mv cv:Value} (w:World) (h:Rd B p w s st es dep mv cv) (hlt:st.pos < s.size) (hb:byt s.data.toList st.pos=46):Calls Tryz.prog 154 #[.pointer (some ⟨p,0,none⟩)] w fun e w'=>BF (.ok (st.to (st.pos+1),.one (Ab 0 255))) B p s dep mv cv w e w':=by
 have hsm:=h.small;obtain ⟨k,hk⟩:∃ k,k=st.pos:=⟨_,rfl⟩;rw [←hk] at hlt;have hk1:(k:Int) < (s.size:Int):=(by omega);have hb0:=BH s k hlt;have Wn:IntKind.i64.wrap ((k:Int)+1)=((k+1:Nat):Int):=(by rw [Adm _ (by omega)];omega);have hgo:Rd B p (w.setCell ⟨p,1,none⟩ (.int .i64 ((k:Int)+1))) s (st.to (k+1)) es dep mv cv∧RStep p w mv cv (w.setCell ⟨p,1,none⟩ (.int .i64 ((k:Int)+1))) mv cv:=h.goto (k+1) (show st.pos≤k+1 by omega) (show k+1≤s.size by omega);obtain ⟨c0,c1,c2,c3,c4,z1,z2,z3,z4⟩:=h.cells;rw [←hk] at c1;have HK:=Ac8 hk;have HGO:=Ac8 hgo;have H:=Ac8 h;clear hk hgo h;rw [←HK.out,hb0] at hb;have e46:((s[k].toNat:Int) == 46)=true:=by rw [hb];rfl
 clear hb hb0;have hn:=fun w=>FR oz w
 rw [Vn,Al,Al,Al,Al] at hn;go_enter Tryz.func154,Tryz.ntmps154;go_wp2_with fail
 refine (hn _).mono ?_;rintro e w1 ⟨rfl,b1⟩;have hR:=HGO.out.1.below b1;have HS:=Ac8 (HGO.out.2.trans (RStep.of_below (p:=p) (mv:=mv) (cv:=cv) b1));rw [show k+1=st.pos+1 by rw [HK.out]] at hR;have HR:=Ac8 hR;clear hR b1;go_wp2_with fail
 go_ret;exact AK rfl HS.out HR.out (EJ _ _ _ _ _ _)
theorem PH {B p:Nat} {s:ByteArray} {st:ReSt} {es:List Bool} {dep:Nat} {mv cv:Value} (w:World) (h:Rd B p w s st es dep mv cv) (hlt:st.pos < s.size) (h46:byt s.data.toList st.pos≠46) (h91:byt s.data.toList st.pos≠91) (h92:byt s.data.toList st.pos≠92) :
  Calls Tryz.prog 154 #[.pointer (some ⟨p,0,none⟩)] w fun e w'=>BF (.ok (st.to (st.pos+1),.one (Ab (byt s.data.toList st.pos) (byt s.data.toList st.pos)))) B p s dep mv cv w e w':=by
 obtain ⟨R,hR0⟩:∃ R:ReRes (ReSt × Nd),R=.ok (st.to (st.pos+1),.one (Ab (byt s.data.toList st.pos) (byt s.data.toList st.pos))):=⟨_,rfl⟩;rw [←hR0];have hsm:=h.small;obtain ⟨k,hk⟩:∃ k,k=st.pos:=⟨_,rfl⟩;rw [←hk] at hlt;have hk1:(k:Int) < (s.size:Int):=(by omega);have hb0:=BH s k hlt;have Wn:IntKind.i64.wrap ((k:Int)+1)=((k+1:Nat):Int):=(by rw [Adm _ (by omega)];omega);have hgo:Rd B p (w.setCell ⟨p,1,none⟩ (.int .i64 ((k:Int)+1))) s (st.to (k+1)) es dep mv cv∧RStep p w mv cv (w.setCell ⟨p,1,none⟩ (.int .i64 ((k:Int)+1))) mv cv:=h.goto (k+1) (show st.pos≤k+1 by omega) (show k+1≤s.size by omega);obtain ⟨c0,c1,c2,c3,c4,z1,z2,z3,z4⟩:=h.cells;rw [←hk] at c1;have HK:=Ac8 hk;have HGO:=Ac8 hgo;have H:=Ac8 h;clear hk hgo h;rw [←HK.out,hb0] at h46 h91 h92 hR0;have HR0:=Ac8 hR0;have e46:((s[k].toNat:Int) == 46)=false:=by rw [beq_eq_false_iff_ne];omega
 have e91:((s[k].toNat:Int) == 91)=false:=by rw [beq_eq_false_iff_ne];omega
 have e92:((s[k].toNat:Int) == 92)=false:=by rw [beq_eq_false_iff_ne];omega
 clear h46 h91 h92 hb0 hR0;go_enter Tryz.func154,Tryz.ntmps154;go_wp2_with fail
 refine (C8 (s[k].toNat:Int) (ZU _) (ZV _) _ _ (by simp [World.setCell])).mono ?_;rintro e w1 ⟨rfl,b1⟩;rw [DE];have hR:=HGO.out.1.below b1;have HS:=Ac8 (HGO.out.2.trans (RStep.of_below (p:=p) (mv:=mv) (cv:=cv) b1));have HR:=Ac8 hR;clear hR b1;go_wp2_with fail
 go_ret;exact AK HR0.out HS.out HR.out (EJ _ _ _ _ _ _)
theorem SD {B p:Nat} {s:ByteArray} {st:ReSt} {es:List Bool} {dep:Nat} {mv cv:Value} (w:World) (h:Rd B p w s st es dep mv cv) (hlt:st.pos < s.size) (hb:byt s.data.toList st.pos=92) (front:Bool) (hfr:front=true∨repAt false s.data.toList st.pos=.none) (hen:AB s.data.toList st.pos=false)
  (sub:Option (ReSt→ReRes (ReSt × Nd))) (hG:Gl w) (hB:glN≤B) (hgr:Eu B p s st es dep sub) :
  Calls Tryz.prog 154 #[.pointer (some ⟨p,0,none⟩)] w fun e w'=>BF (Dz s.data.toList sub front st) B p s dep mv cv w e w':=by
 obtain ⟨R,hR0⟩:∃ R:ReRes (ReSt × Nd),R=Dz s.data.toList sub front st:=⟨_,rfl⟩;have hesc:=fun (w2:World) (h2:Rd B p w2 s (st.to (st.pos+1)) es dep mv cv) (hG2:Gl w2)=>NN w2 h2 hb front hfr hen sub hG2 hB h.few.2 hgr
 rw [←hR0] at hesc ⊢;clear hR0;have hsm:=h.small;obtain ⟨k,hk⟩:∃ k,k=st.pos:=⟨_,rfl⟩;rw [←hk] at hlt;have hk1:(k:Int) < (s.size:Int):=(by omega);have hb0:=BH s k hlt;have Wn:IntKind.i64.wrap ((k:Int)+1)=((k+1:Nat):Int):=(by rw [Adm _ (by omega)];omega);have hgo:Rd B p (w.setCell ⟨p,1,none⟩ (.int .i64 ((k:Int)+1))) s (st.to (k+1)) es dep mv cv∧RStep p w mv cv (w.setCell ⟨p,1,none⟩ (.int .i64 ((k:Int)+1))) mv cv:=h.goto (k+1) (show st.pos≤k+1 by omega) (show k+1≤s.size by omega);obtain ⟨c0,c1,c2,c3,c4,z1,z2,z3,z4⟩:=h.cells;rw [←hk] at c1;have HK:=Ac8 hk;have HGO:=Ac8 hgo;have H:=Ac8 h;clear hk hgo h;rw [←HK.out,hb0] at hb;have e46:((s[k].toNat:Int) == 46)=false:=by rw [hb];rfl
 have e91:((s[k].toNat:Int) == 91)=false:=by rw [hb];rfl
 have e92:((s[k].toNat:Int) == 92)=true:=by rw [hb];rfl
 have HGl:=Ac8 hG;have HE:=Ac8 hesc;clear hb hb0 hfr hen hgr hG hesc;go_enter Tryz.func154,Tryz.ntmps154;go_wp2_with fail
 obtain ⟨hR,hS⟩:=HGO.out;have hkp:k+1=st.pos+1:=by rw [HK.out]
 rw [hkp] at hR;have hA:=HE.out _ hR (HGl.out.step hS H.out hB);rw [←HK.out] at hA;refine hA.mono ?_;intro e w' hA;replace hA:=hA.from hS
 obtain ⟨mv',cv',hS',hr⟩:=hA;have HS':=Ac8 hS';clear hS' hkp;cases R with
 | error q=>
  obtain rfl:e=_:=hr;go_wp2_with fail
  exact ⟨rfl,_,_,HS'.out,rfl⟩
 | ok q=>
  obtain ⟨es',v,rfl,hR',hN'⟩:=hr;go_wp2_with fail
  go_ret;exact ⟨_,_,HS'.out,es',v,rfl,hR',hN'⟩
theorem V6 {B p:Nat} {s:ByteArray} {st:ReSt} {es:List Bool} {dep:Nat} {mv cv:Value} (w:World) (h:Rd B p w s st es dep mv cv) (hlt:st.pos < s.size) (hb:byt s.data.toList st.pos=91) (hG:Gl w) (hB:glN≤B) :
  Calls Tryz.prog 154 #[.pointer (some ⟨p,0,none⟩)] w fun e w'=>BF (if (Fo s.data.toList ((st.pos:Int)+1)).2.2=0 then .ok (st.to (Fo s.data.toList ((st.pos:Int)+1)).2.1.toNat,.one (Fo s.data.toList ((st.pos:Int)+1)).1) else .error ((Fo s.data.toList ((st.pos:Int)+1)).2.2,(Fo s.data.toList ((st.pos:Int)+1)).2.1.toNat)) B p s dep mv cv w e w':=by
 have hsl:s.data.toList.length=s.size:=by simp
 obtain ⟨t,j,er,hprs,hj⟩:=J4 s.data.toList (st.pos+1) (by omega);rw [hsl] at hj;have hpa:=fun (w:World) (hG:Gl w)=>Ln s ((st.pos+1:Nat):Int) w (by have:=h.small;omega) hG
 rw [hprs,show K8 (t,(j:Int),er)=.tuple #[.agg #[.int .u64 (ow t 0),.int .u64 (ow t 1),.int .u64 (ow t 2),.int .u64 (ow t 3)],.int .i64 (j:Int),.int .i64 (er:Int)] from rfl] at hpa;obtain ⟨R,hR0⟩:∃ R:ReRes (ReSt × Nd),R=if er=0 then .ok (st.to j,.one t) else .error (er,j):=⟨_,rfl⟩
 rw [show ((st.pos:Int)+1)=((st.pos+1:Nat):Int) by omega,hprs];simp only [Int.toNat_natCast];rw [←hR0];have HR0:=Ac8 hR0;have HGl:=Ac8 hG;clear hprs hR0 hsl hG;have hsm:=h.small;obtain ⟨k,hk⟩:∃ k,k=st.pos:=⟨_,rfl⟩;rw [←hk] at hlt;have hk1:(k:Int) < (s.size:Int):=(by omega);have hb0:=BH s k hlt;have Wn:IntKind.i64.wrap ((k:Int)+1)=((k+1:Nat):Int):=(by rw [Adm _ (by omega)];omega);have hgo:Rd B p (w.setCell ⟨p,1,none⟩ (.int .i64 ((k:Int)+1))) s (st.to (k+1)) es dep mv cv∧RStep p w mv cv (w.setCell ⟨p,1,none⟩ (.int .i64 ((k:Int)+1))) mv cv:=h.goto (k+1) (show st.pos≤k+1 by omega) (show k+1≤s.size by omega);obtain ⟨c0,c1,c2,c3,c4,z1,z2,z3,z4⟩:=h.cells;rw [←hk] at c1;have HK:=Ac8 hk;have HGO:=Ac8 hgo;have H:=Ac8 h;clear hk hgo h;rw [←HK.out,hb0] at hb;have e46:((s[k].toNat:Int) == 46)=false:=by rw [hb];rfl
 have e91:((s[k].toNat:Int) == 91)=true:=by rw [hb];rfl
 clear hb hb0;have hkp:st.pos+1=k+1:=by rw [HK.out]
 rw [hkp] at hpa hj;clear hkp;have HJ:=Ac8 hj;clear hj;go_enter Tryz.func154,Tryz.ntmps154;go_upto_region 9 with fail;obtain ⟨hR,hS⟩:=HGO.out;have hG2:=HGl.out.step hS H.out hB;clear c0 c1 c2 c3 c4 z1 z2 z3 z4 Wn;generalize hw2:w.setCell ⟨p,1,none⟩ (.int .i64 ((k:Int)+1))=w2 at *;have HW2:=Ac8 hw2;clear hw2;generalize hk2:k+1=k2 at *;have hall:w2.cell? ⟨p,0,none⟩=some (.string s)∧w2.cell? ⟨p,1,none⟩=some (.int .i64 (k2:Int))∧RdH w2 B p s (st.to k2) es dep mv cv w2:=Lk hR;have HR:=Ac8 hR;have HS:=Ac8 hS;have HK2:=Ac8 hk2;clear hR hS hk2;obtain ⟨c0,c1,c2,c3,c4,z1,z2,z3,z4⟩:=HR.out.cells;replace c1:w2.cell? ⟨p,1,none⟩=some (.int .i64 (k2:Int)):=c1;have hpl:=HR.out.blk.lt;have hkk:(st.to k2).pos=k2:=rfl;go_cut [5,6,7] (fun s5 s6 s7 wx=>∃ a:Nat,s5=.pointer (some ⟨a,0,none⟩)∧s6=.int .i64 (j:Int)∧s7=.int .i64 (er:Int)∧AtSet w2 a t wx)
 case first=>
  go_region_with (go_at_call 148;refine (hpa _ (hG2.up (by repeat (first | (with_reducible exact Adk _ _) | refine Below.drew ?_ | refine below_drewN ?_ _ | refine Below.alloc ?_ (by first | omega | (simp;omega) | simp) _)))).mono ?_;rintro e w' ⟨rfl,hbX⟩;have hbQ:Below w2.heap.size w2 w':=Below.trans (by repeat (first | (with_reducible exact Adk _ _) | refine Below.drew ?_ | refine below_drewN ?_ _ | refine Below.alloc ?_ (by first | omega | (simp;omega) | simp) _)) (hbX.mono (by simp));(try (have hPz:=((Blk.new w2 #[.int .u64 0,.int .u64 0,.int .u64 0,.int .u64 0] 109 w2.heap.size rfl).drew).below hbX (by simp);obtain ⟨y0,y1,y2,y3,x0,x1,x2,x3,xl⟩:=Cy hPz)))
  all_goals go_wp2_with fail
  all_goals go_meet
  all_goals first
   | exact ⟨_,rfl,rfl,rfl,⟨hbQ.alloc hbQ.size _,Blk.new _ _ _ _ rfl,hbQ.size⟩⟩
   | exact ⟨_,rfl,rfl,rfl,⟨(((hbQ.setCell (p:=⟨w2.heap.size,0,none⟩) (Adf _) _).setCell (p:=⟨w2.heap.size,1,none⟩) (Adf _) _).setCell (p:=⟨w2.heap.size,2,none⟩) (Adf _) _).setCell (p:=⟨w2.heap.size,3,none⟩) (Adf _) _,(((hPz.set 0 _).set 1 _).set 2 _).set 3 _,Adf _⟩⟩
 case rest=>
  obtain ⟨a,rfl,rfl,rfl,hA⟩:=hcut;clear c0 c1 c2 c3 c4 z1 z2 z3 z4 hpa hall hG2;have hS2:=HS.out.trans (RStep.of_below (p:=p) (mv:=mv) (cv:=cv) hA.b);have hR2:=HR.out.below hA.b;have HS2:=Ac8 hS2;clear hS2;by_cases her:er=0
  ·subst her
   have hj:=HJ.out rfl;have HF:=Ac8 (HR0.out.trans (if_pos rfl));have hg:=hR2.goto j (show k2≤j by omega) hj.2;have HG:=Ac8 hg;obtain ⟨c0,c1,c2,c3,c4,z1,z2,z3,z4⟩:=hR2.cells;obtain ⟨y0,y1,y2,y3,x0,x1,x2,x3,xl⟩:=Cy hA.s;have hap:a≠p:=fun e=>by have:=hA.lo;omega
   have hap2:p≠a:=fun e=>hap e.symm
   clear hg hR2 hA hj;go_wp2_with fail
   go_ret;exact AK HF.out (HS2.out.trans HG.out.2) HG.out.1 (EJ _ _ _ _ _ _)
  ·have HF:=Ac8 (HR0.out.trans (if_neg her))
   have e9:((er:Int) != 0)=true:=by simp;omega
   clear her hR2 hA;go_wp2_with fail
   exact ⟨rfl,Az HF.out HS2.out rfl⟩
end
section
open Go Go.RowKit
def JQ (s:List UInt8) (A:ReRes (ReSt × Nd)):ReRes (ReSt × Nd):=match A with
 | .error e=>.error e
 | .ok q=>DC false s (s.length+1) q.1 q.2
def FE (s:List UInt8) (sub:Option (ReSt→ReRes (ReSt × Nd))) (front:Bool) (st:ReSt):ReRes (ReSt × Nd):=
 if chAt s st.pos 36 && AB s (st.pos+1) then .ok (st.to (st.pos+1),.fin)
 else JQ s (Dz s sub front st)
theorem SE (ere:Bool) (s:List UInt8) (k:Nat) (m n:Int) (j:Nat) (h:Gx ere s k=some (m,n,j)):k < j∧j≤s.length:=by
 rw [GN] at h;obtain ⟨q,hq,he⟩:=Option.map_eq_some_iff.1 h;have h0:CC ere≠[]:=by cases ere <;> simp [CC]
 have h1:q.2.2≤(s.drop k).length:=by
  unfold KZ at hq;split at hq
  ·rename_i hc
   injection hq with hq;subst hq;rw [Bool.and_eq_true] at hc;exact F0 _ _ _ hc.2 h0
  ·cases hq
 have h2:0 < q.2.2:=by
  unfold KZ at hq;split at hq
  ·injection hq with hq
   subst hq;have:0 < (CC ere).length:=List.length_pos_iff.2 h0;simp only;omega
  ·cases hq
 rw [List.length_drop] at h1;injection he with he1 he2;injection he2 with he2 he3;omega
theorem V7 (s:List UInt8) (k:Nat) (a b:Int) (c j:Nat) (h:repAt false s k=.some a b c j):k < j∧j≤s.length:=by
 unfold repAt at h;split at h
 ·rename_i h1
  injection h with _ _ _ h;have:=(BE h1).1;omega
 split at h
 ·rename_i _ h1
  injection h with _ _ _ h;have:=(EU h1).1;simp [AX] at h;omega
 split at h
 ·rename_i _ _ h1
  injection h with _ _ _ h;have:=(EU h1).1;simp [AX] at h;omega
 split at h
 ·rename_i _ _ _ h1
  split at h
  ·cases h
  ·rename_i m n j' hi
   injection h with _ _ _ h;have h3:=SE _ _ _ _ _ _ hi;simp [AX] at h3;omega
 ·cases h
theorem SF (s:List UInt8) (m:Nat) (st:ReSt) (d:Nd) (h:0 < m):DC false s m st d=match repAt false s st.pos with
  | .none=>.ok (st,d)
  | .bad=>.error (7,st.pos)
  | .some mn mx c j=>DC false s (m - 1) ((if c=0 then st else st.mark c).to j) (.rep d mn mx):=by
 obtain ⟨n,rfl⟩:∃ n,m=n+1:=⟨m - 1,by omega⟩;rw [DC];rfl
theorem SG {B p:Nat} {s:ByteArray} {st:ReSt} {es:List Bool} {dep:Nat} {mv cv:Value} (w:World) (h:Rd B p w s st es dep mv cv) (hlt:st.pos < s.size) (hq:(chAt s.data.toList st.pos 36 && AB s.data.toList (st.pos+1))=true) :
  Calls Tryz.prog 142 #[.pointer (some ⟨p,0,none⟩)] w fun e w'=>BF (.ok (st.to (st.pos+1),.fin)) B p s dep mv cv w e w':=by
 have hsm:=h.small;rw [Bool.and_eq_true] at hq;obtain ⟨hq1,hq2⟩:=hq;have hst:=fun n=>Fc ⟨#[36]⟩ (w.drewN n) (h.below (below_drewN (Adk _ _) n))
 rw [show AP s.data.toList st.pos (ByteArray.mk #[36]).data.toList=true from (Dw _ _ 36 (by decide)).trans hq1] at hst;have hbe:=fun w=>FZ s (st.pos+1) w
 rw [hq2] at hbe;have hgo:∀ n,Rd B p ((w.drewN n).setCell ⟨p,1,none⟩ (.int .i64 ((st.pos:Int)+1))) s (st.to (st.pos+1)) es dep mv cv∧RStep p w mv cv ((w.drewN n).setCell ⟨p,1,none⟩ (.int .i64 ((st.pos:Int)+1))) mv cv:=fun n=>⟨((h.below (below_drewN (Adk w.heap.size w) n)).goto (st.pos+1) (show st.pos≤st.pos+1 by omega) (show st.pos+1≤s.size by omega)).1,(RStep.of_below (below_drewN (Adk w.heap.size w) n)).trans ((h.below (below_drewN (Adk w.heap.size w) n)).goto (st.pos+1) (show st.pos≤st.pos+1 by omega) (show st.pos+1≤s.size by omega)).2⟩
 have HGO:=Ac8 hgo;obtain ⟨c0,c1,c2,c3,c4,z1,z2,z3,z4⟩:=h.cells;have hk0:(0:Int)≤((st.pos+1:Nat):Int):=by omega
 have hk1:((st.pos+1:Nat):Int)≤(s.size:Int):=by omega
 have Wn:IntKind.i64.wrap ((st.pos:Int)+1)=((st.pos+1:Nat):Int):=by rw [Adm _ (by omega)];omega
 clear h hgo hq1 hq2;go_enter Tryz.func142,Tryz.ntmps142;go_wp2_with fail
 go_quiet (first | (go_at_call 153;exact Calls.quiet_of (hst _)) | (go_at_call 141;exact Calls.quiet_of_same ((hbe _).mono fun _ _ h=>⟨h.1,h.2.symm⟩)))
 go_wp2_with fail
 go_ret;exact AK rfl (HGO.out nq).2 (HGO.out nq).1 (Sy _ _ _ _ _)
theorem PI {B p:Nat} {s:ByteArray} {st:ReSt} {es:List Bool} {dep:Nat} {mv cv:Value} (w:World) (h:Rd B p w s st es dep mv cv) (hlt:st.pos < s.size) (hq:(chAt s.data.toList st.pos 36 && AB s.data.toList (st.pos+1))=false) (A:ReRes (ReSt × Nd))
  (hat:∀ n,Calls Tryz.prog 154 #[.pointer (some ⟨p,0,none⟩)] (w.drewN n) fun e w'=>BF A B p s dep mv cv (w.drewN n) e w') :
  Calls Tryz.prog 142 #[.pointer (some ⟨p,0,none⟩)] w fun e w'=>BF (JQ s.data.toList A) B p s dep mv cv w e w':=by
 have hsm:=h.small;have hsl:s.data.toList.length=s.size:=by simp
 obtain ⟨R,hR0⟩:∃ R:ReRes (ReSt × Nd),R=JQ s.data.toList A:=⟨_,rfl⟩;rw [←hR0];have HR0:=Ac8 hR0;have HSL:=Ac8 hsl;clear hR0 hsl;have hst:=fun n=>Fc ⟨#[36]⟩ (w.drewN n) (h.below (below_drewN (Adk _ _) n))
 rw [show AP s.data.toList st.pos (ByteArray.mk #[36]).data.toList=chAt s.data.toList st.pos 36 from Dw _ _ 36 (by decide)] at hst;have hbe:=fun w=>FZ s (st.pos+1) w
 obtain ⟨c0,c1,c2,c3,c4,z1,z2,z3,z4⟩:=h.cells;have hk0:(0:Int)≤((st.pos+1:Nat):Int):=by omega
 have hk1:((st.pos+1:Nat):Int)≤(s.size:Int):=by omega
 have Wn:IntKind.i64.wrap ((st.pos:Int)+1)=((st.pos+1:Nat):Int):=by rw [Adm _ (by omega)];omega
 have HST:=Ac8 (fun n=>RStep.of_below (p:=p) (mv:=mv) (cv:=cv) (below_drewN (Adk w.heap.size w) n));have hq':chAt s.data.toList st.pos 36=false∨(chAt s.data.toList st.pos 36=true∧AB s.data.toList (st.pos+1)=false):=by
  cases h1:chAt s.data.toList st.pos 36
  ·exact .inl rfl
  ·rw [h1] at hq;exact .inr ⟨rfl,hq⟩
 clear h hq;have Hq:=Ac8 hq';clear hq';go_enter Tryz.func142,Tryz.ntmps142;go_wp2_with fail
 go_cut [21] (fun s21 wx=>s21=.bool false∧∃ n,wx=w.drewN n)
 case first=>
  rcases Hq.out with hq1 | ⟨hq1,hq2⟩
  ·rw [hq1] at hst
   clear hbe hq1
   go_quiet (first | (go_at_call 153;exact Calls.quiet_of (hst _)))
   go_wp2_with fail
   go_meet;exact ⟨rfl,_,rfl⟩
  ·rw [hq1] at hst
   rw [hq2] at hbe;clear hq1 hq2
   go_quiet (first | (go_at_call 153;exact Calls.quiet_of (hst _)) | (go_at_call 141;exact Calls.quiet_of_same ((hbe _).mono fun _ _ h=>⟨h.1,h.2.symm⟩)))
   go_wp2_with fail
   go_meet;exact ⟨rfl,_,rfl⟩
 case rest=>
  obtain ⟨rfl,n,rfl⟩:=hcut;have ha:=hat n;have hS0:=HST.out n;have HS0:=Ac8 hS0;clear hat hst hbe c0 c1 c2 c3 c4 z1 z2 z3 z4 Wn hk0 hk1 HST hS0;go_wp2_with fail
  refine ha.mono ?_;intro e w1 hA;obtain ⟨mv1,cv1,hS1,hr⟩:=hA.from HS0.out
  have HS1:=Ac8 hS1;clear hS1 hA ha;cases A with
  | error q=>
   obtain rfl:e=_:=hr;go_wp2_with fail
   exact ⟨rfl,Az HR0.out HS1.out rfl⟩
  | ok q=>
   obtain ⟨es1,v1,rfl,hR1,hN1⟩:=hr;have HR1:=Ac8 hR1;have HN1:=Ac8 hN1;clear hR1 hN1;go_wp2_with fail
   go_loopw [3] (fun v wr=>∃ (m:Nat) (st':ReSt) (d':Nd) (es':List Bool) (mv' cv':Value),R=DC false s.data.toList m st' d'∧s.size < m+st'.pos∧Rd B p wr s st' es' dep mv' cv'∧RStep p w mv cv wr mv' cv'∧Cr w.heap.size p mv' cv' wr d' v) (fun _ wr=>s.size - (intOf ((wr.cell? ⟨p,1,none⟩).getD undef)).toNat)
   case atStart=>
    exact ⟨_,_,_,_,_,_,HR0.out,by rw [HSL.out];omega,HR1.out,HS1.out,HN1.out⟩
   case round=>
    obtain ⟨m,st',d',es',mv',cv',hRm,hm,hR,hS,hN⟩:=hrel;have hb:=PB wr hR;have hm0:0 < m:=by have:=hR.pos;omega
    rw [SF _ _ _ _ hm0] at hRm;have HR:=Ac8 hR;have HS:=Ac8 hS;have HN:=Ac8 hN;clear hR hS hN;have hrm:=V7 s.data.toList st'.pos;have HSZ:=Ac8 HSL.out;cases hrp:repAt false s.data.toList st'.pos with
    | none=>
     rw [hrp] at hb hRm;have HRm:=Ac8 hRm;clear hRm hrm hrp;go_wp2_with fail
     refine hb.mono ?_;intro e w3 ⟨mv3,hS3,he3,hR3⟩;subst he3;have HS3:=Ac8 hS3;have HR3:=Ac8 hR3;clear hS3 hR3 hb;go_wp2_with fail
     go_ret;exact AK HRm.out (HS.out.trans HS3.out) HR3.out (HN.out.step HS3.out)
    | bad=>
     rw [hrp] at hb hRm;have HRm:=Ac8 hRm;clear hRm hrm hrp;go_wp2_with fail
     refine hb.mono ?_;intro e w3 ⟨mv3,hS3,he3⟩;obtain rfl:e=_:=he3;have HS3:=Ac8 hS3;clear hS3 hb;go_wp2_with fail
     exact ⟨rfl,Az HRm.out (HS.out.trans HS3.out) rfl⟩
    | some a b c j=>
     rw [hrp] at hb hRm;have hj:=hrm _ _ _ _ hrp;rw [HSZ.out] at hj;have HRm:=Ac8 hRm;have HJ:=Ac8 hj;have HM:=Ac8 hm;have HM0:=Ac8 hm0;clear hRm hrm hrp hj hm hm0;obtain ⟨nn,hnn⟩:=HN.out;rcases Av hnn with ⟨T,x,rfl⟩ | rfl
     all_goals
      clear hnn;go_wp2_with fail
      refine hb.mono ?_;intro e w3 ⟨mv3,hS3,he3,hR3⟩;subst he3;have HS3:=Ac8 hS3;have HR3:=Ac8 hR3;clear hS3 hR3 hb;go_wp2_with fail
      go_roundw
      case rel=>
       refine ⟨m - 1,_,_,_,_,_,HRm.out,?_,HR3.out,HS.out.trans HS3.out,Sz (HN.out.step HS3.out) _ _⟩;have h1:=HJ.out;have h2:=HM.out;have h3:=HM0.out;show s.size < m - 1+j;omega
      case measure=>
       have h1:=HR3.out.cells.c1;have h2:=HR.out.cells.c1;rw [h1,h2];have h3:=HJ.out;simp only [Option.getD_some,intOf];show s.size - (((j:Nat):Int)).toNat < _;omega
theorem II (s:List UInt8) (sub:Option (ReSt→ReRes (ReSt × Nd))) (begin n:Nat) (st:ReSt) (parts:List Nd) (front:Bool) (h:AB s st.pos=false) (h94:(chAt s st.pos 94 && decide (st.pos=begin))=false) :
  branchM false s sub false begin (n+1) st parts front=match FE s sub front st with
   | .error e=>.error e
   | .ok q=>branchM false s sub false begin n q.1 (parts++[q.2]) (chAt s st.pos 36 && AB s (st.pos+1)):=by
 rw [branchM];have h':=h;unfold AB at h';simp only [A0,Bool.false_eq_true,if_false,Bool.not_false,Bool.and_true,Bool.false_or];rw [h',h94];simp only [Bool.false_eq_true,if_false];unfold FE;cases hq:(chAt s st.pos 36 && AB s (st.pos+1)) with
 | true=>simp
 | false=>
  simp only [Bool.false_eq_true,if_false];unfold JQ Dz;simp only [A0,Bool.false_eq_true,if_false,Bool.false_and,Bool.or_false];cases hf:(front && (BI s st.pos 123 || BI s st.pos 43 || BI s st.pos 63)) with
  | true=>simp
  | false=>
   simp only [Bool.false_eq_true,if_false];cases Bb false s sub st with
   | error e=>rfl
   | ok q=>
    obtain ⟨st1,d⟩:=q;simp only;cases DC false s (s.length+1) st1 d with
    | error e=>rfl
    | ok q2=>rfl
end
end Go.Proofs.YteilldmmihiijaaGreatDoor
