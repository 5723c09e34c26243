/- Texts. -/
import Derived.Test.YteilldmmihiijaaGreatDoorTw04
import Derived.Deep.Slices
set_option linter.unusedSimpArgs false
set_option linter.unusedVariables false
set_option maxHeartbeats 8000000
set_option maxRecDepth 1000000
namespace Go.Proofs.YteilldmmihiijaaGreatDoor
open Go.Lib renaming hid→Ad5
open Nat renaming le_refl→Aec,le_trans→Aed,lt_of_lt_of_le→Aef,le_of_lt→Aeg
open List renaming length_append→Aee,mem_append→Aem
open Go.RowKit.Below renaming refl→Aeh
open Go.IntWalk renaming i64_in→Aej
open Go.World renaming cell?_of_block→Aek
section
open Go Go.RowKit
def Cz (lo p:Nat) (mv cv:Value) (w:World) (d:Nd) (v:Value):Prop:=NdX (fun b=>lo≤b∧OffR p mv cv b) w d v
def BJ (r:ReRes (ReSt × Nd)) (B p:Nat) (s:ByteArray) (dep:Nat) (mv cv:Value) (w:World) (e:Ending) (w':World):Prop:=
 ∃ mv' cv',RStep p w mv cv w' mv' cv'∧match r with
  | .error q=>Iw q.2 q.1 e
  | .ok q=>∃ es' v,e=.returned v∧Rd B p w' s q.1 es' dep mv' cv'∧Cz w.heap.size p mv' cv' w' q.2 v
theorem A1 {r:ReRes (ReSt × Nd)} {B p:Nat} {s:ByteArray} {dep:Nat} {mv cv mv' cv':Value} {w w':World} {e:Ending} {a b:Nat} (h:r=.error (a,b)) (hS:RStep p w mv cv w' mv' cv') (hE:Iw b a e):BJ r B p s dep mv cv w e w':=by
 subst h;exact ⟨_,_,hS,hE⟩
theorem AM {r:ReRes (ReSt × Nd)} {B p:Nat} {s:ByteArray} {dep:Nat} {mv cv mv' cv':Value} {w w':World} {v:Value} {st:ReSt} {d:Nd} {es:List Bool} (h:r=.ok (st,d)) (hS:RStep p w mv cv w' mv' cv') (hR:Rd B p w' s st es dep mv' cv') (hN:Cz w.heap.size p mv' cv' w' d v):BJ r B p s dep mv cv w (.returned v) w':=by
 subst h;exact ⟨_,_,hS,es,v,rfl,hR,hN⟩
theorem BJ.from {r:ReRes (ReSt × Nd)} {B p:Nat} {s:ByteArray} {dep:Nat} {mv cv mv1 cv1:Value} {w w1 w':World} {e:Ending} (h:BJ r B p s dep mv1 cv1 w1 e w') (hS:RStep p w mv cv w1 mv1 cv1):BJ r B p s dep mv cv w e w':=by
 obtain ⟨mv',cv',hS',hr⟩:=h;refine ⟨mv',cv',hS.trans hS',?_⟩;cases r with
 | error q=>exact hr
 | ok q=>
  obtain ⟨es',v,h1,h2,h3⟩:=hr;exact ⟨es',v,h1,h2,h3.keep (Aec _) (fun b hb _=>⟨⟨Aed hS.size hb.1,hb.2⟩,fun _=>rfl⟩)⟩
theorem EV (lo p:Nat) (mv cv:Value) (w:World) (t:OSet):Cz lo p mv cv w (.one t) (.iface 111 (.agg #[.int .u64 (ow t 0),.int .u64 (ow t 1),.int .u64 (ow t 2),.int .u64 (ow t 3)])):=⟨1,rfl⟩
theorem BZ (lo p:Nat) (mv cv:Value) (w:World) (n:Int):Cz lo p mv cv w (.back n) (.iface 117 (.agg #[.int .i64 n])):=⟨1,rfl⟩
theorem Tg (lo p:Nat) (mv cv:Value) (w:World):Cz lo p mv cv w .fin (.iface 121 (.agg #[])):=⟨1,rfl⟩
theorem Th {lo p:Nat} {mv cv:Value} {w:World} {d:Nd} {u:Value} (h:Cz lo p mv cv w d u) (a b:Int):Cz lo p mv cv w (.rep d a b) (.iface 101 (.agg #[u,.int .i64 a,.int .i64 b])):=by
 obtain ⟨n,h⟩:=h;exact ⟨n+1,u,rfl,h⟩
theorem Oc {lo p:Nat} {mv cv:Value} {w:World} {d:Nd} {u:Value} (h:Cz lo p mv cv w d u) (a:Int):Cz lo p mv cv w (.group a d) (.iface 103 (.agg #[.int .i64 a,u])):=by
 obtain ⟨n,h⟩:=h;exact ⟨n+1,u,rfl,h⟩
theorem Cz.step {lo p:Nat} {mv cv mv' cv':Value} {w w':World} {d:Nd} {u:Value} (h:Cz lo p mv cv w d u) (hS:RStep p w mv cv w' mv' cv'):Cz lo p mv' cv' w' d u:=
 h.keep hS.size (fun b hb hlt=>⟨⟨hb.1,(hS.keep b hb.2 hlt).1⟩,(hS.keep b hb.2 hlt).2⟩)
theorem Od {B:Nat} {w:World} {e:TypeId} {size n:Nat} {v:Value} {us:List Value} (h:w.ownsRow B e size v n us) (b:Nat) (hb:b < B):v.ownBlock≠some b:=fun hv=>by
 have:=(h.lt b hv).1;omega
theorem RStep.low {B p:Nat} {w w':World} {s:ByteArray} {st:ReSt} {es:List Bool} {dep:Nat} {mv cv mv' cv':Value} (hS:RStep p w mv cv w' mv' cv') (h:Rd B p w s st es dep mv cv):Below B w w':=
 ⟨hS.os,hS.tape,hS.output,hS.size,fun b hb=>(hS.block b (Aef hb (Aed h.bp (Aeg h.blk.lt))) (by have:=h.bp;omega) (Od h.mo b hb) (Od h.co b hb)).1⟩
theorem Gl.step {B p:Nat} {w w':World} {s:ByteArray} {st:ReSt} {es:List Bool} {dep:Nat} {mv cv mv' cv':Value} (hG:Gl w) (hS:RStep p w mv cv w' mv' cv') (h:Rd B p w s st es dep mv cv) (hB:glN≤B):Gl w':=hG.below (hS.low h) hB
def E6 (B p:Nat) (s:ByteArray) (st:ReSt) (es:List Bool) (dep:Nat) (sub:Option (ReSt→ReRes (ReSt × Nd))):Prop:=∀ (w2:World) (mv cv:Value),Gl w2→es.length≤st.pos→Rd B p w2 s (st.to (st.pos+2)) es dep mv cv→
 Calls Tryz.prog 169 #[.pointer (some ⟨p,0,none⟩),.int .i64 (st.pos:Int)] w2 fun e w'=>BJ (F9 false s.data.toList sub st) B p s dep mv cv w2 e w'
theorem Ti {B p:Nat} {s:ByteArray} {st:ReSt} {es:List Bool} {dep:Nat} {mv cv:Value} (w:World) (h:Rd B p w s (st.to (st.pos+1)) es dep mv cv) (hlt:s.size=st.pos+1):Calls Tryz.prog 163 #[.pointer (some ⟨p,0,none⟩),.int .i64 (st.pos:Int)] w fun e w'=>BJ (.error (11,st.pos)) B p s dep mv cv w e w':=by
 obtain ⟨c0,c1,c2,c3,c4,z1,z2,z3,z4⟩:=h.cells;have hk:(st.to (st.pos+1)).pos=s.size:=hlt.symm;rw [hk] at c1;have e0:((s.size:Int) == (s.size:Int))=true:=by rw [beq_iff_eq]
 have hstp:=fun n=>RStep.of_below (p:=p) (mv:=mv) (cv:=cv) (below_drewN (Aeh w.heap.size w) n)
 clear hk hlt h;go_enter Tryz.func163,Tryz.ntmps163;go_wp2_with fail
 go_quiet (fail)
 go_wp2_with fail
 exact ⟨rfl,A1 rfl (hstp _) rfl⟩
theorem VZ {B p:Nat} {s:ByteArray} {st:ReSt} {es:List Bool} {dep:Nat} {mv cv:Value} (w:World) (h:Rd B p w s (st.to (st.pos+1)) es dep mv cv) (hlt:st.pos+1 < s.size) (hc:byt s.data.toList (st.pos+1)=40) (sub:Option (ReSt→ReRes (ReSt × Nd))) (hG:Gl w) (hB:glN≤B) (hfe:es.length≤st.pos) (hgr:E6 B p s st es dep sub) :
  Calls Tryz.prog 163 #[.pointer (some ⟨p,0,none⟩),.int .i64 (st.pos:Int)] w fun e w'=>BJ (F9 false s.data.toList sub st) B p s dep mv cv w e w':=by
 have hps:st.pos+1≤s.size:=h.pos;have hsm:=h.small;obtain ⟨k,hk⟩:∃ k,k=st.pos+1:=⟨_,rfl⟩;rw [←hk] at h hps hlt;have hk1:(k:Int) < (s.size:Int):=(by omega);have hb0:=BL s k hlt;have Wn:IntKind.i64.wrap ((k:Int)+1)=((k+1:Nat):Int):=(by rw [Aej _ (by omega)];omega);have hgo:∀ n,Rd B p ((w.drewN n).setCell ⟨p,1,none⟩ (.int .i64 ((k:Int)+1))) s (st.to (k+1)) es dep mv cv∧RStep p w mv cv ((w.drewN n).setCell ⟨p,1,none⟩ (.int .i64 ((k:Int)+1))) mv cv:=fun n=>⟨((h.below (below_drewN (Aeh w.heap.size w) n)).goto (k+1) (show k≤k+1 by omega) (show k+1≤s.size by omega)).1,(RStep.of_below (below_drewN (Aeh w.heap.size w) n)).trans ((h.below (below_drewN (Aeh w.heap.size w) n)).goto (k+1) (show k≤k+1 by omega) (show k+1≤s.size by omega)).2⟩;obtain ⟨c0,c1,c2,c3,c4,z1,z2,z3,z4⟩:=h.cells;replace c1:w.cell? ⟨p,1,none⟩=some (.int .i64 (k:Int)):=c1;have e0:((k:Int) == (s.size:Int))=false:=(by rw [beq_eq_false_iff_ne];omega);have HK:=Ad5 hk;have HGO:=Ad5 hgo;have H:=Ad5 h;clear hk hgo h hps
 rw [←HK.out,hb0] at hc;have e40:((s[k].toNat:Int) == 40)=true:=by rw [hc];decide
 have e49:((s[k].toNat:Int) == 49)=false:=by rw [hc];decide
 have e50:((s[k].toNat:Int) == 50)=false:=by rw [hc];decide
 have e51:((s[k].toNat:Int) == 51)=false:=by rw [hc];decide
 have e52:((s[k].toNat:Int) == 52)=false:=by rw [hc];decide
 have e53:((s[k].toNat:Int) == 53)=false:=by rw [hc];decide
 have e54:((s[k].toNat:Int) == 54)=false:=by rw [hc];decide
 have e55:((s[k].toNat:Int) == 55)=false:=by rw [hc];decide
 have e56:((s[k].toNat:Int) == 56)=false:=by rw [hc];decide
 have e57:((s[k].toNat:Int) == 57)=false:=by rw [hc];decide
 have e123:((s[k].toNat:Int) == 123)=false:=by rw [hc];decide
 have e43:((s[k].toNat:Int) == 43)=false:=by rw [hc];decide
 have e63:((s[k].toNat:Int) == 63)=false:=by rw [hc];decide
 have Hc:=Ad5 hc;clear hc hb0;have HGl:=Ad5 hG;clear hG;go_enter Tryz.func163,Tryz.ntmps163;go_wp2_with fail;go_quiet (fail);generalize nq=n1;go_wp2_with fail;go_quiet (fail);go_wp2_with fail;obtain ⟨hR,hS⟩:=HGO.out (n1+nq);rw [show k+1=st.pos+2 by rw [HK.out]] at hR;refine (hgr _ _ _ (HGl.out.step hS H.out hB) hfe hR).mono ?_;intro e w' hA;replace hA:=hA.from hS
 obtain ⟨mv',cv',hS',hr⟩:=hA;have HS':=Ad5 hS';clear hS';cases hg:F9 false s.data.toList sub st with
 | error q=>
  rw [hg] at hr;obtain rfl:e=_:=hr;go_wp2_with fail
  exact ⟨rfl,_,_,HS'.out,by rw [hg];exact rfl⟩
 | ok q=>
  rw [hg] at hr;obtain ⟨es',v,rfl,hR',hN'⟩:=hr;go_wp2_with fail
  go_ret;exact ⟨_,_,HS'.out,by rw [hg];exact ⟨es',v,rfl,hR',hN'⟩⟩
theorem We {B p:Nat} {s:ByteArray} {st:ReSt} {es:List Bool} {dep:Nat} {mv cv:Value} (w:World) (h:Rd B p w s (st.to (st.pos+1)) es dep mv cv) (hlt:st.pos+1 < s.size) (hc:byt s.data.toList (st.pos+1)=43∨byt s.data.toList (st.pos+1)=63∨byt s.data.toList (st.pos+1)=123) :
  Calls Tryz.prog 163 #[.pointer (some ⟨p,0,none⟩),.int .i64 (st.pos:Int)] w fun e w'=>BJ (.error (10,st.pos)) B p s dep mv cv w e w':=by
 have hps:st.pos+1≤s.size:=h.pos;have hsm:=h.small;obtain ⟨k,hk⟩:∃ k,k=st.pos+1:=⟨_,rfl⟩;rw [←hk] at h hps hlt;have hk1:(k:Int) < (s.size:Int):=(by omega);have hb0:=BL s k hlt;have Wn:IntKind.i64.wrap ((k:Int)+1)=((k+1:Nat):Int):=(by rw [Aej _ (by omega)];omega);have hgo:∀ n,Rd B p ((w.drewN n).setCell ⟨p,1,none⟩ (.int .i64 ((k:Int)+1))) s (st.to (k+1)) es dep mv cv∧RStep p w mv cv ((w.drewN n).setCell ⟨p,1,none⟩ (.int .i64 ((k:Int)+1))) mv cv:=fun n=>⟨((h.below (below_drewN (Aeh w.heap.size w) n)).goto (k+1) (show k≤k+1 by omega) (show k+1≤s.size by omega)).1,(RStep.of_below (below_drewN (Aeh w.heap.size w) n)).trans ((h.below (below_drewN (Aeh w.heap.size w) n)).goto (k+1) (show k≤k+1 by omega) (show k+1≤s.size by omega)).2⟩;obtain ⟨c0,c1,c2,c3,c4,z1,z2,z3,z4⟩:=h.cells;replace c1:w.cell? ⟨p,1,none⟩=some (.int .i64 (k:Int)):=c1;have e0:((k:Int) == (s.size:Int))=false:=(by rw [beq_eq_false_iff_ne];omega);have HK:=Ad5 hk;have HGO:=Ad5 hgo;have H:=Ad5 h;clear hk hgo h hps
 rw [←HK.out,hb0] at hc;rcases hc with hc | hc | hc
 ·have e40:((s[k].toNat:Int) == 40)=false:=by rw [hc];decide
  have e49:((s[k].toNat:Int) == 49)=false:=by rw [hc];decide
  have e50:((s[k].toNat:Int) == 50)=false:=by rw [hc];decide
  have e51:((s[k].toNat:Int) == 51)=false:=by rw [hc];decide
  have e52:((s[k].toNat:Int) == 52)=false:=by rw [hc];decide
  have e53:((s[k].toNat:Int) == 53)=false:=by rw [hc];decide
  have e54:((s[k].toNat:Int) == 54)=false:=by rw [hc];decide
  have e55:((s[k].toNat:Int) == 55)=false:=by rw [hc];decide
  have e56:((s[k].toNat:Int) == 56)=false:=by rw [hc];decide
  have e57:((s[k].toNat:Int) == 57)=false:=by rw [hc];decide
  have e123:((s[k].toNat:Int) == 123)=false:=by rw [hc];decide
  have e43:((s[k].toNat:Int) == 43)=true:=by rw [hc];decide
  have e63:((s[k].toNat:Int) == 63)=false:=by rw [hc];decide
  clear hc hb0;go_enter Tryz.func163,Tryz.ntmps163;go_wp2_with fail;go_quiet (fail);generalize nq=n1;go_wp2_with fail;go_quiet (fail);go_wp2_with fail;exact ⟨rfl,A1 rfl (HGO.out (n1+nq)).2 rfl⟩
 ·have e40:((s[k].toNat:Int) == 40)=false:=by rw [hc];decide
  have e49:((s[k].toNat:Int) == 49)=false:=by rw [hc];decide
  have e50:((s[k].toNat:Int) == 50)=false:=by rw [hc];decide
  have e51:((s[k].toNat:Int) == 51)=false:=by rw [hc];decide
  have e52:((s[k].toNat:Int) == 52)=false:=by rw [hc];decide
  have e53:((s[k].toNat:Int) == 53)=false:=by rw [hc];decide
  have e54:((s[k].toNat:Int) == 54)=false:=by rw [hc];decide
  have e55:((s[k].toNat:Int) == 55)=false:=by rw [hc];decide
  have e56:((s[k].toNat:Int) == 56)=false:=by rw [hc];decide
  have e57:((s[k].toNat:Int) == 57)=false:=by rw [hc];decide
  have e123:((s[k].toNat:Int) == 123)=false:=by rw [hc];decide
  have e43:((s[k].toNat:Int) == 43)=false:=by rw [hc];decide
  have e63:((s[k].toNat:Int) == 63)=true:=by rw [hc];decide
  clear hc hb0;go_enter Tryz.func163,Tryz.ntmps163;go_wp2_with fail;go_quiet (fail);generalize nq=n1;go_wp2_with fail;go_quiet (fail);go_wp2_with fail;exact ⟨rfl,A1 rfl (HGO.out (n1+nq)).2 rfl⟩
 ·have e40:((s[k].toNat:Int) == 40)=false:=by rw [hc];decide
  have e49:((s[k].toNat:Int) == 49)=false:=by rw [hc];decide
  have e50:((s[k].toNat:Int) == 50)=false:=by rw [hc];decide
  have e51:((s[k].toNat:Int) == 51)=false:=by rw [hc];decide
  have e52:((s[k].toNat:Int) == 52)=false:=by rw [hc];decide
  have e53:((s[k].toNat:Int) == 53)=false:=by rw [hc];decide
  have e54:((s[k].toNat:Int) == 54)=false:=by rw [hc];decide
  have e55:((s[k].toNat:Int) == 55)=false:=by rw [hc];decide
  have e56:((s[k].toNat:Int) == 56)=false:=by rw [hc];decide
  have e57:((s[k].toNat:Int) == 57)=false:=by rw [hc];decide
  have e123:((s[k].toNat:Int) == 123)=true:=by rw [hc];decide
  have e43:((s[k].toNat:Int) == 43)=false:=by rw [hc];decide
  have e63:((s[k].toNat:Int) == 63)=false:=by rw [hc];decide
  clear hc hb0;go_enter Tryz.func163,Tryz.ntmps163;go_wp2_with fail;go_quiet (fail);generalize nq=n1;go_wp2_with fail;go_quiet (fail);go_wp2_with fail;exact ⟨rfl,A1 rfl (HGO.out (n1+nq)).2 rfl⟩
theorem Wf {B p:Nat} {s:ByteArray} {st:ReSt} {es:List Bool} {dep:Nat} {mv cv:Value} (w:World) (h:Rd B p w s (st.to (st.pos+1)) es dep mv cv) (hlt:st.pos+1 < s.size) (c:Nat) (hc0:byt s.data.toList (st.pos+1)=c) (h49:49≤c) (h57:c≤57) :
  Calls Tryz.prog 163 #[.pointer (some ⟨p,0,none⟩),.int .i64 (st.pos:Int)] w fun e w'=>BJ (Ds false st c) B p s dep mv cv w e w':=by
 have he:Ds false st c=if st.closed.contains ((c:Int) - 48) then .ok (st.to (st.pos+2),.back ((c:Int) - 48)) else .error (9,st.pos):=by
  unfold Ds;rw [if_pos ⟨h49,h57⟩];rfl
 obtain ⟨R,hR0⟩:∃ R,R=Ds false st c:=⟨_,rfl⟩;rw [←hR0];have HR0:=Ad5 (hR0.trans he);clear he hR0;have hcc:=hc0;have hps:st.pos+1≤s.size:=h.pos;have hsm:=h.small;obtain ⟨k,hk⟩:∃ k,k=st.pos+1:=⟨_,rfl⟩;rw [←hk] at h hps hlt;have hk1:(k:Int) < (s.size:Int):=(by omega);have hb0:=BL s k hlt;have Wn:IntKind.i64.wrap ((k:Int)+1)=((k+1:Nat):Int):=(by rw [Aej _ (by omega)];omega);have hgo:∀ n,Rd B p ((w.drewN n).setCell ⟨p,1,none⟩ (.int .i64 ((k:Int)+1))) s (st.to (k+1)) es dep mv cv∧RStep p w mv cv ((w.drewN n).setCell ⟨p,1,none⟩ (.int .i64 ((k:Int)+1))) mv cv:=fun n=>⟨((h.below (below_drewN (Aeh w.heap.size w) n)).goto (k+1) (show k≤k+1 by omega) (show k+1≤s.size by omega)).1,(RStep.of_below (below_drewN (Aeh w.heap.size w) n)).trans ((h.below (below_drewN (Aeh w.heap.size w) n)).goto (k+1) (show k≤k+1 by omega) (show k+1≤s.size by omega)).2⟩;obtain ⟨c0,c1,c2,c3,c4,z1,z2,z3,z4⟩:=h.cells;replace c1:w.cell? ⟨p,1,none⟩=some (.int .i64 (k:Int)):=c1;have e0:((k:Int) == (s.size:Int))=false:=(by rw [beq_eq_false_iff_ne];omega);have HK:=Ad5 hk;have HGO:=Ad5 hgo;have H:=Ad5 h;clear hk hgo h hps
 rw [←HK.out,hb0] at hc0;have hcs:c=49∨c=50∨c=51∨c=52∨c=53∨c=54∨c=55∨c=56∨c=57:=by omega
 clear h49 h57 hcc;rcases hcs with hcs | hcs | hcs | hcs | hcs | hcs | hcs | hcs | hcs
 ·have hc:s[k].toNat=49:=hc0.trans hcs;have e40:((s[k].toNat:Int) == 40)=false:=by rw [hc];decide
  have e49:((s[k].toNat:Int) == 49)=true:=by rw [hc];decide
  have e50:((s[k].toNat:Int) == 50)=false:=by rw [hc];decide
  have e51:((s[k].toNat:Int) == 51)=false:=by rw [hc];decide
  have e52:((s[k].toNat:Int) == 52)=false:=by rw [hc];decide
  have e53:((s[k].toNat:Int) == 53)=false:=by rw [hc];decide
  have e54:((s[k].toNat:Int) == 54)=false:=by rw [hc];decide
  have e55:((s[k].toNat:Int) == 55)=false:=by rw [hc];decide
  have e56:((s[k].toNat:Int) == 56)=false:=by rw [hc];decide
  have e57:((s[k].toNat:Int) == 57)=false:=by rw [hc];decide
  have e123:((s[k].toNat:Int) == 123)=false:=by rw [hc];decide
  have e43:((s[k].toNat:Int) == 43)=false:=by rw [hc];decide
  have e63:((s[k].toNat:Int) == 63)=false:=by rw [hc];decide
  have Ws:IntKind.u8.wrap ((s[k].toNat:Int) - 48)=1:=by rw [hc];decide
  have HR1:=Ad5 (HR0.out.trans (by rw [show ((c:Int) - 48)=((1:Nat):Int) by rw [hcs];rfl]));clear hc hc0 hcs hb0;go_enter Tryz.func163,Tryz.ntmps163;go_wp2_with fail;go_quiet (fail);generalize nq=n1;go_wp2_with fail;go_quiet (fail);go_wp2_with fail;obtain ⟨hR,hS⟩:=HGO.out (n1+nq);cases hq:st.closed.contains ((1:Nat):Int) with
  | false=>
   refine (DO 1 st.pos _ hR (by decide) hq).mono ?_;rintro e w' ⟨hE,rfl⟩;obtain rfl:e=_:=hE;go_wp2_with fail
   exact ⟨rfl,A1 (HR1.out.trans (by rw [hq];rfl)) hS rfl⟩
  | true=>
   refine (De 1 st.pos _ hR (by decide) hq).mono ?_;rintro e w' ⟨rfl,rfl⟩;go_wp2_with fail
   go_ret;exact AM (HR1.out.trans (by rw [hq];rfl)) hS (by rw [show k+1=st.pos+2 by rw [HK.out]] at hR;exact hR) (BZ _ _ _ _ _ _)
 ·have hc:s[k].toNat=50:=hc0.trans hcs;have e40:((s[k].toNat:Int) == 40)=false:=by rw [hc];decide
  have e49:((s[k].toNat:Int) == 49)=false:=by rw [hc];decide
  have e50:((s[k].toNat:Int) == 50)=true:=by rw [hc];decide
  have e51:((s[k].toNat:Int) == 51)=false:=by rw [hc];decide
  have e52:((s[k].toNat:Int) == 52)=false:=by rw [hc];decide
  have e53:((s[k].toNat:Int) == 53)=false:=by rw [hc];decide
  have e54:((s[k].toNat:Int) == 54)=false:=by rw [hc];decide
  have e55:((s[k].toNat:Int) == 55)=false:=by rw [hc];decide
  have e56:((s[k].toNat:Int) == 56)=false:=by rw [hc];decide
  have e57:((s[k].toNat:Int) == 57)=false:=by rw [hc];decide
  have e123:((s[k].toNat:Int) == 123)=false:=by rw [hc];decide
  have e43:((s[k].toNat:Int) == 43)=false:=by rw [hc];decide
  have e63:((s[k].toNat:Int) == 63)=false:=by rw [hc];decide
  have Ws:IntKind.u8.wrap ((s[k].toNat:Int) - 48)=2:=by rw [hc];decide
  have HR1:=Ad5 (HR0.out.trans (by rw [show ((c:Int) - 48)=((2:Nat):Int) by rw [hcs];rfl]));clear hc hc0 hcs hb0;go_enter Tryz.func163,Tryz.ntmps163;go_wp2_with fail;go_quiet (fail);generalize nq=n1;go_wp2_with fail;go_quiet (fail);go_wp2_with fail;obtain ⟨hR,hS⟩:=HGO.out (n1+nq);cases hq:st.closed.contains ((2:Nat):Int) with
  | false=>
   refine (DO 2 st.pos _ hR (by decide) hq).mono ?_;rintro e w' ⟨hE,rfl⟩;obtain rfl:e=_:=hE;go_wp2_with fail
   exact ⟨rfl,A1 (HR1.out.trans (by rw [hq];rfl)) hS rfl⟩
  | true=>
   refine (De 2 st.pos _ hR (by decide) hq).mono ?_;rintro e w' ⟨rfl,rfl⟩;go_wp2_with fail
   go_ret;exact AM (HR1.out.trans (by rw [hq];rfl)) hS (by rw [show k+1=st.pos+2 by rw [HK.out]] at hR;exact hR) (BZ _ _ _ _ _ _)
 ·have hc:s[k].toNat=51:=hc0.trans hcs;have e40:((s[k].toNat:Int) == 40)=false:=by rw [hc];decide
  have e49:((s[k].toNat:Int) == 49)=false:=by rw [hc];decide
  have e50:((s[k].toNat:Int) == 50)=false:=by rw [hc];decide
  have e51:((s[k].toNat:Int) == 51)=true:=by rw [hc];decide
  have e52:((s[k].toNat:Int) == 52)=false:=by rw [hc];decide
  have e53:((s[k].toNat:Int) == 53)=false:=by rw [hc];decide
  have e54:((s[k].toNat:Int) == 54)=false:=by rw [hc];decide
  have e55:((s[k].toNat:Int) == 55)=false:=by rw [hc];decide
  have e56:((s[k].toNat:Int) == 56)=false:=by rw [hc];decide
  have e57:((s[k].toNat:Int) == 57)=false:=by rw [hc];decide
  have e123:((s[k].toNat:Int) == 123)=false:=by rw [hc];decide
  have e43:((s[k].toNat:Int) == 43)=false:=by rw [hc];decide
  have e63:((s[k].toNat:Int) == 63)=false:=by rw [hc];decide
  have Ws:IntKind.u8.wrap ((s[k].toNat:Int) - 48)=3:=by rw [hc];decide
  have HR1:=Ad5 (HR0.out.trans (by rw [show ((c:Int) - 48)=((3:Nat):Int) by rw [hcs];rfl]));clear hc hc0 hcs hb0;go_enter Tryz.func163,Tryz.ntmps163;go_wp2_with fail;go_quiet (fail);generalize nq=n1;go_wp2_with fail;go_quiet (fail);go_wp2_with fail;obtain ⟨hR,hS⟩:=HGO.out (n1+nq);cases hq:st.closed.contains ((3:Nat):Int) with
  | false=>
   refine (DO 3 st.pos _ hR (by decide) hq).mono ?_;rintro e w' ⟨hE,rfl⟩;obtain rfl:e=_:=hE;go_wp2_with fail
   exact ⟨rfl,A1 (HR1.out.trans (by rw [hq];rfl)) hS rfl⟩
  | true=>
   refine (De 3 st.pos _ hR (by decide) hq).mono ?_;rintro e w' ⟨rfl,rfl⟩;go_wp2_with fail
   go_ret;exact AM (HR1.out.trans (by rw [hq];rfl)) hS (by rw [show k+1=st.pos+2 by rw [HK.out]] at hR;exact hR) (BZ _ _ _ _ _ _)
 ·have hc:s[k].toNat=52:=hc0.trans hcs;have e40:((s[k].toNat:Int) == 40)=false:=by rw [hc];decide
  have e49:((s[k].toNat:Int) == 49)=false:=by rw [hc];decide
  have e50:((s[k].toNat:Int) == 50)=false:=by rw [hc];decide
  have e51:((s[k].toNat:Int) == 51)=false:=by rw [hc];decide
  have e52:((s[k].toNat:Int) == 52)=true:=by rw [hc];decide
  have e53:((s[k].toNat:Int) == 53)=false:=by rw [hc];decide
  have e54:((s[k].toNat:Int) == 54)=false:=by rw [hc];decide
  have e55:((s[k].toNat:Int) == 55)=false:=by rw [hc];decide
  have e56:((s[k].toNat:Int) == 56)=false:=by rw [hc];decide
  have e57:((s[k].toNat:Int) == 57)=false:=by rw [hc];decide
  have e123:((s[k].toNat:Int) == 123)=false:=by rw [hc];decide
  have e43:((s[k].toNat:Int) == 43)=false:=by rw [hc];decide
  have e63:((s[k].toNat:Int) == 63)=false:=by rw [hc];decide
  have Ws:IntKind.u8.wrap ((s[k].toNat:Int) - 48)=4:=by rw [hc];decide
  have HR1:=Ad5 (HR0.out.trans (by rw [show ((c:Int) - 48)=((4:Nat):Int) by rw [hcs];rfl]));clear hc hc0 hcs hb0;go_enter Tryz.func163,Tryz.ntmps163;go_wp2_with fail;go_quiet (fail);generalize nq=n1;go_wp2_with fail;go_quiet (fail);go_wp2_with fail;obtain ⟨hR,hS⟩:=HGO.out (n1+nq);cases hq:st.closed.contains ((4:Nat):Int) with
  | false=>
   refine (DO 4 st.pos _ hR (by decide) hq).mono ?_;rintro e w' ⟨hE,rfl⟩;obtain rfl:e=_:=hE;go_wp2_with fail
   exact ⟨rfl,A1 (HR1.out.trans (by rw [hq];rfl)) hS rfl⟩
  | true=>
   refine (De 4 st.pos _ hR (by decide) hq).mono ?_;rintro e w' ⟨rfl,rfl⟩;go_wp2_with fail
   go_ret;exact AM (HR1.out.trans (by rw [hq];rfl)) hS (by rw [show k+1=st.pos+2 by rw [HK.out]] at hR;exact hR) (BZ _ _ _ _ _ _)
 ·have hc:s[k].toNat=53:=hc0.trans hcs;have e40:((s[k].toNat:Int) == 40)=false:=by rw [hc];decide
  have e49:((s[k].toNat:Int) == 49)=false:=by rw [hc];decide
  have e50:((s[k].toNat:Int) == 50)=false:=by rw [hc];decide
  have e51:((s[k].toNat:Int) == 51)=false:=by rw [hc];decide
  have e52:((s[k].toNat:Int) == 52)=false:=by rw [hc];decide
  have e53:((s[k].toNat:Int) == 53)=true:=by rw [hc];decide
  have e54:((s[k].toNat:Int) == 54)=false:=by rw [hc];decide
  have e55:((s[k].toNat:Int) == 55)=false:=by rw [hc];decide
  have e56:((s[k].toNat:Int) == 56)=false:=by rw [hc];decide
  have e57:((s[k].toNat:Int) == 57)=false:=by rw [hc];decide
  have e123:((s[k].toNat:Int) == 123)=false:=by rw [hc];decide
  have e43:((s[k].toNat:Int) == 43)=false:=by rw [hc];decide
  have e63:((s[k].toNat:Int) == 63)=false:=by rw [hc];decide
  have Ws:IntKind.u8.wrap ((s[k].toNat:Int) - 48)=5:=by rw [hc];decide
  have HR1:=Ad5 (HR0.out.trans (by rw [show ((c:Int) - 48)=((5:Nat):Int) by rw [hcs];rfl]));clear hc hc0 hcs hb0;go_enter Tryz.func163,Tryz.ntmps163;go_wp2_with fail;go_quiet (fail);generalize nq=n1;go_wp2_with fail;go_quiet (fail);go_wp2_with fail;obtain ⟨hR,hS⟩:=HGO.out (n1+nq);cases hq:st.closed.contains ((5:Nat):Int) with
  | false=>
   refine (DO 5 st.pos _ hR (by decide) hq).mono ?_;rintro e w' ⟨hE,rfl⟩;obtain rfl:e=_:=hE;go_wp2_with fail
   exact ⟨rfl,A1 (HR1.out.trans (by rw [hq];rfl)) hS rfl⟩
  | true=>
   refine (De 5 st.pos _ hR (by decide) hq).mono ?_;rintro e w' ⟨rfl,rfl⟩;go_wp2_with fail
   go_ret;exact AM (HR1.out.trans (by rw [hq];rfl)) hS (by rw [show k+1=st.pos+2 by rw [HK.out]] at hR;exact hR) (BZ _ _ _ _ _ _)
 ·have hc:s[k].toNat=54:=hc0.trans hcs;have e40:((s[k].toNat:Int) == 40)=false:=by rw [hc];decide
  have e49:((s[k].toNat:Int) == 49)=false:=by rw [hc];decide
  have e50:((s[k].toNat:Int) == 50)=false:=by rw [hc];decide
  have e51:((s[k].toNat:Int) == 51)=false:=by rw [hc];decide
  have e52:((s[k].toNat:Int) == 52)=false:=by rw [hc];decide
  have e53:((s[k].toNat:Int) == 53)=false:=by rw [hc];decide
  have e54:((s[k].toNat:Int) == 54)=true:=by rw [hc];decide
  have e55:((s[k].toNat:Int) == 55)=false:=by rw [hc];decide
  have e56:((s[k].toNat:Int) == 56)=false:=by rw [hc];decide
  have e57:((s[k].toNat:Int) == 57)=false:=by rw [hc];decide
  have e123:((s[k].toNat:Int) == 123)=false:=by rw [hc];decide
  have e43:((s[k].toNat:Int) == 43)=false:=by rw [hc];decide
  have e63:((s[k].toNat:Int) == 63)=false:=by rw [hc];decide
  have Ws:IntKind.u8.wrap ((s[k].toNat:Int) - 48)=6:=by rw [hc];decide
  have HR1:=Ad5 (HR0.out.trans (by rw [show ((c:Int) - 48)=((6:Nat):Int) by rw [hcs];rfl]));clear hc hc0 hcs hb0;go_enter Tryz.func163,Tryz.ntmps163;go_wp2_with fail;go_quiet (fail);generalize nq=n1;go_wp2_with fail;go_quiet (fail);go_wp2_with fail;obtain ⟨hR,hS⟩:=HGO.out (n1+nq);cases hq:st.closed.contains ((6:Nat):Int) with
  | false=>
   refine (DO 6 st.pos _ hR (by decide) hq).mono ?_;rintro e w' ⟨hE,rfl⟩;obtain rfl:e=_:=hE;go_wp2_with fail
   exact ⟨rfl,A1 (HR1.out.trans (by rw [hq];rfl)) hS rfl⟩
  | true=>
   refine (De 6 st.pos _ hR (by decide) hq).mono ?_;rintro e w' ⟨rfl,rfl⟩;go_wp2_with fail
   go_ret;exact AM (HR1.out.trans (by rw [hq];rfl)) hS (by rw [show k+1=st.pos+2 by rw [HK.out]] at hR;exact hR) (BZ _ _ _ _ _ _)
 ·have hc:s[k].toNat=55:=hc0.trans hcs;have e40:((s[k].toNat:Int) == 40)=false:=by rw [hc];decide
  have e49:((s[k].toNat:Int) == 49)=false:=by rw [hc];decide
  have e50:((s[k].toNat:Int) == 50)=false:=by rw [hc];decide
  have e51:((s[k].toNat:Int) == 51)=false:=by rw [hc];decide
  have e52:((s[k].toNat:Int) == 52)=false:=by rw [hc];decide
  have e53:((s[k].toNat:Int) == 53)=false:=by rw [hc];decide
  have e54:((s[k].toNat:Int) == 54)=false:=by rw [hc];decide
  have e55:((s[k].toNat:Int) == 55)=true:=by rw [hc];decide
  have e56:((s[k].toNat:Int) == 56)=false:=by rw [hc];decide
  have e57:((s[k].toNat:Int) == 57)=false:=by rw [hc];decide
  have e123:((s[k].toNat:Int) == 123)=false:=by rw [hc];decide
  have e43:((s[k].toNat:Int) == 43)=false:=by rw [hc];decide
  have e63:((s[k].toNat:Int) == 63)=false:=by rw [hc];decide
  have Ws:IntKind.u8.wrap ((s[k].toNat:Int) - 48)=7:=by rw [hc];decide
  have HR1:=Ad5 (HR0.out.trans (by rw [show ((c:Int) - 48)=((7:Nat):Int) by rw [hcs];rfl]));clear hc hc0 hcs hb0;go_enter Tryz.func163,Tryz.ntmps163;go_wp2_with fail;go_quiet (fail);generalize nq=n1;go_wp2_with fail;go_quiet (fail);go_wp2_with fail;obtain ⟨hR,hS⟩:=HGO.out (n1+nq);cases hq:st.closed.contains ((7:Nat):Int) with
  | false=>
   refine (DO 7 st.pos _ hR (by decide) hq).mono ?_;rintro e w' ⟨hE,rfl⟩;obtain rfl:e=_:=hE;go_wp2_with fail
   exact ⟨rfl,A1 (HR1.out.trans (by rw [hq];rfl)) hS rfl⟩
  | true=>
   refine (De 7 st.pos _ hR (by decide) hq).mono ?_;rintro e w' ⟨rfl,rfl⟩;go_wp2_with fail
   go_ret;exact AM (HR1.out.trans (by rw [hq];rfl)) hS (by rw [show k+1=st.pos+2 by rw [HK.out]] at hR;exact hR) (BZ _ _ _ _ _ _)
 ·have hc:s[k].toNat=56:=hc0.trans hcs;have e40:((s[k].toNat:Int) == 40)=false:=by rw [hc];decide
  have e49:((s[k].toNat:Int) == 49)=false:=by rw [hc];decide
  have e50:((s[k].toNat:Int) == 50)=false:=by rw [hc];decide
  have e51:((s[k].toNat:Int) == 51)=false:=by rw [hc];decide
  have e52:((s[k].toNat:Int) == 52)=false:=by rw [hc];decide
  have e53:((s[k].toNat:Int) == 53)=false:=by rw [hc];decide
  have e54:((s[k].toNat:Int) == 54)=false:=by rw [hc];decide
  have e55:((s[k].toNat:Int) == 55)=false:=by rw [hc];decide
  have e56:((s[k].toNat:Int) == 56)=true:=by rw [hc];decide
  have e57:((s[k].toNat:Int) == 57)=false:=by rw [hc];decide
  have e123:((s[k].toNat:Int) == 123)=false:=by rw [hc];decide
  have e43:((s[k].toNat:Int) == 43)=false:=by rw [hc];decide
  have e63:((s[k].toNat:Int) == 63)=false:=by rw [hc];decide
  have Ws:IntKind.u8.wrap ((s[k].toNat:Int) - 48)=8:=by rw [hc];decide
  have HR1:=Ad5 (HR0.out.trans (by rw [show ((c:Int) - 48)=((8:Nat):Int) by rw [hcs];rfl]));clear hc hc0 hcs hb0;go_enter Tryz.func163,Tryz.ntmps163;go_wp2_with fail;go_quiet (fail);generalize nq=n1;go_wp2_with fail;go_quiet (fail);go_wp2_with fail;obtain ⟨hR,hS⟩:=HGO.out (n1+nq);cases hq:st.closed.contains ((8:Nat):Int) with
  | false=>
   refine (DO 8 st.pos _ hR (by decide) hq).mono ?_;rintro e w' ⟨hE,rfl⟩;obtain rfl:e=_:=hE;go_wp2_with fail
   exact ⟨rfl,A1 (HR1.out.trans (by rw [hq];rfl)) hS rfl⟩
  | true=>
   refine (De 8 st.pos _ hR (by decide) hq).mono ?_;rintro e w' ⟨rfl,rfl⟩;go_wp2_with fail
   go_ret;exact AM (HR1.out.trans (by rw [hq];rfl)) hS (by rw [show k+1=st.pos+2 by rw [HK.out]] at hR;exact hR) (BZ _ _ _ _ _ _)
 ·have hc:s[k].toNat=57:=hc0.trans hcs;have e40:((s[k].toNat:Int) == 40)=false:=by rw [hc];decide
  have e49:((s[k].toNat:Int) == 49)=false:=by rw [hc];decide
  have e50:((s[k].toNat:Int) == 50)=false:=by rw [hc];decide
  have e51:((s[k].toNat:Int) == 51)=false:=by rw [hc];decide
  have e52:((s[k].toNat:Int) == 52)=false:=by rw [hc];decide
  have e53:((s[k].toNat:Int) == 53)=false:=by rw [hc];decide
  have e54:((s[k].toNat:Int) == 54)=false:=by rw [hc];decide
  have e55:((s[k].toNat:Int) == 55)=false:=by rw [hc];decide
  have e56:((s[k].toNat:Int) == 56)=false:=by rw [hc];decide
  have e57:((s[k].toNat:Int) == 57)=true:=by rw [hc];decide
  have e123:((s[k].toNat:Int) == 123)=false:=by rw [hc];decide
  have e43:((s[k].toNat:Int) == 43)=false:=by rw [hc];decide
  have e63:((s[k].toNat:Int) == 63)=false:=by rw [hc];decide
  have Ws:IntKind.u8.wrap ((s[k].toNat:Int) - 48)=9:=by rw [hc];decide
  have HR1:=Ad5 (HR0.out.trans (by rw [show ((c:Int) - 48)=((9:Nat):Int) by rw [hcs];rfl]));clear hc hc0 hcs hb0;go_enter Tryz.func163,Tryz.ntmps163;go_wp2_with fail;go_quiet (fail);generalize nq=n1;go_wp2_with fail;go_quiet (fail);go_wp2_with fail;obtain ⟨hR,hS⟩:=HGO.out (n1+nq);cases hq:st.closed.contains ((9:Nat):Int) with
  | false=>
   refine (DO 9 st.pos _ hR (by decide) hq).mono ?_;rintro e w' ⟨hE,rfl⟩;obtain rfl:e=_:=hE;go_wp2_with fail
   exact ⟨rfl,A1 (HR1.out.trans (by rw [hq];rfl)) hS rfl⟩
  | true=>
   refine (De 9 st.pos _ hR (by decide) hq).mono ?_;rintro e w' ⟨rfl,rfl⟩;go_wp2_with fail
   go_ret;exact AM (HR1.out.trans (by rw [hq];rfl)) hS (by rw [show k+1=st.pos+2 by rw [HK.out]] at hR;exact hR) (BZ _ _ _ _ _ _)
theorem Tj (W:World) (m:Nat × Nat) (g:Nat) (hg:W.heap.size=g):∀ j u,(Es m)[j]?=some u→(W.alloc (.cells #[.int .i64 (m.1:Int),.string ⟨#[92,UInt8.ofNat m.2]⟩] 33)).cell? ((⟨g,0,none⟩:Addr).add j)=some u:=by
 have hb:=Blk.new W #[.int .i64 (m.1:Int),.string ⟨#[92,UInt8.ofNat m.2]⟩] 33 g hg.symm;intro j u hu;rw [Go.WideShapes.add_plain,Nat.zero_add,hb.cell j,←Array.getElem?_toList];exact hu
def Ie (c:Nat):Prop:=c≠40∧¬ (49≤c∧c≤57)∧c≠43∧c≠63∧c≠123
theorem Tk {B p:Nat} {s:ByteArray} {st:ReSt} {es:List Bool} {dep:Nat} {mv cv:Value} (w:World) (h:Rd B p w s (st.to (st.pos+1)) es dep mv cv) (hlt:st.pos+1 < s.size) (c:Nat) (hc0:byt s.data.toList (st.pos+1)=c) (hno:Ie c) (hes:CG c=none) :
  Calls Tryz.prog 163 #[.pointer (some ⟨p,0,none⟩),.int .i64 (st.pos:Int)] w fun e w'=>BJ (.error (2,st.pos)) B p s dep mv cv w e w':=by
 have hps:st.pos+1≤s.size:=h.pos;have hsm:=h.small;obtain ⟨k,hk⟩:∃ k,k=st.pos+1:=⟨_,rfl⟩;rw [←hk] at h hps hlt;have hk1:(k:Int) < (s.size:Int):=(by omega);have hb0:=BL s k hlt;have Wn:IntKind.i64.wrap ((k:Int)+1)=((k+1:Nat):Int):=(by rw [Aej _ (by omega)];omega);have hgo:∀ n,Rd B p ((w.drewN n).setCell ⟨p,1,none⟩ (.int .i64 ((k:Int)+1))) s (st.to (k+1)) es dep mv cv∧RStep p w mv cv ((w.drewN n).setCell ⟨p,1,none⟩ (.int .i64 ((k:Int)+1))) mv cv:=fun n=>⟨((h.below (below_drewN (Aeh w.heap.size w) n)).goto (k+1) (show k≤k+1 by omega) (show k+1≤s.size by omega)).1,(RStep.of_below (below_drewN (Aeh w.heap.size w) n)).trans ((h.below (below_drewN (Aeh w.heap.size w) n)).goto (k+1) (show k≤k+1 by omega) (show k+1≤s.size by omega)).2⟩;obtain ⟨c0,c1,c2,c3,c4,z1,z2,z3,z4⟩:=h.cells;replace c1:w.cell? ⟨p,1,none⟩=some (.int .i64 (k:Int)):=c1;have e0:((k:Int) == (s.size:Int))=false:=(by rw [beq_eq_false_iff_ne];omega);have HK:=Ad5 hk;have HGO:=Ad5 hgo;have H:=Ad5 h;clear hk hgo h hps
 rw [←HK.out,hb0] at hc0;obtain ⟨n1',n2',n3',n4',n5'⟩:=hno;have hc:s[k].toNat=c:=hc0;have hc256:c < 256:=(by rw [←hc];exact UInt8.toNat_lt _);have e40:((s[k].toNat:Int) == 40)=false:=by rw [hc,beq_eq_false_iff_ne];omega
 have e49:((s[k].toNat:Int) == 49)=false:=by rw [hc,beq_eq_false_iff_ne];omega
 have e50:((s[k].toNat:Int) == 50)=false:=by rw [hc,beq_eq_false_iff_ne];omega
 have e51:((s[k].toNat:Int) == 51)=false:=by rw [hc,beq_eq_false_iff_ne];omega
 have e52:((s[k].toNat:Int) == 52)=false:=by rw [hc,beq_eq_false_iff_ne];omega
 have e53:((s[k].toNat:Int) == 53)=false:=by rw [hc,beq_eq_false_iff_ne];omega
 have e54:((s[k].toNat:Int) == 54)=false:=by rw [hc,beq_eq_false_iff_ne];omega
 have e55:((s[k].toNat:Int) == 55)=false:=by rw [hc,beq_eq_false_iff_ne];omega
 have e56:((s[k].toNat:Int) == 56)=false:=by rw [hc,beq_eq_false_iff_ne];omega
 have e57:((s[k].toNat:Int) == 57)=false:=by rw [hc,beq_eq_false_iff_ne];omega
 have e123:((s[k].toNat:Int) == 123)=false:=by rw [hc,beq_eq_false_iff_ne];omega
 have e43:((s[k].toNat:Int) == 43)=false:=by rw [hc,beq_eq_false_iff_ne];omega
 have e63:((s[k].toNat:Int) == 63)=false:=by rw [hc,beq_eq_false_iff_ne];omega
 have he:=fun w=>Gj s[k].toNat (UInt8.toNat_lt _) w
 rw [hc] at he;rw [hes,←hc,show Qb none=.tuple #[.agg #[.int .u64 0,.int .u64 0,.int .u64 0,.int .u64 0],.bool false,.bool false] from rfl] at he;clear hc hc0 hes hb0 n1' n2' n3' n4' n5' hc256;go_enter Tryz.func163,Tryz.ntmps163;go_wp2_with fail;go_quiet (fail);generalize nq=n1;go_wp2_with fail;go_quiet (fail);go_wp2_with fail;refine (he _).mono ?_;rintro e w1 ⟨rfl,b1⟩;have hS1:=((HGO.out (n1+nq)).2.trans (RStep.of_below (p:=p) (mv:=mv) (cv:=cv) b1))
 have hS2:=hS1.trans (RStep.of_below (p:=p) (mv:=mv) (cv:=cv) ((Aeh w1.heap.size w1).alloc (Aec _) (.cells #[.int .u64 0,.int .u64 0,.int .u64 0,.int .u64 0] 109)));have HS2:=Ad5 hS2;clear hS1 hS2 b1;go_wp2_with fail
 exact ⟨rfl,A1 rfl HS2.out rfl⟩
theorem Wh {B p:Nat} {s:ByteArray} {st:ReSt} {es:List Bool} {dep:Nat} {mv cv:Value} (w:World) (h:Rd B p w s (st.to (st.pos+1)) es dep mv cv) (hlt:st.pos+1 < s.size) (c:Nat) (hc0:byt s.data.toList (st.pos+1)=c) (hno:Ie c) (t:OSet) (hes:CG c=some (t,false)) :
  Calls Tryz.prog 163 #[.pointer (some ⟨p,0,none⟩),.int .i64 (st.pos:Int)] w fun e w'=>BJ (.ok (st.to (st.pos+2),.one t)) B p s dep mv cv w e w':=by
 have hps:st.pos+1≤s.size:=h.pos;have hsm:=h.small;obtain ⟨k,hk⟩:∃ k,k=st.pos+1:=⟨_,rfl⟩;rw [←hk] at h hps hlt;have hk1:(k:Int) < (s.size:Int):=(by omega);have hb0:=BL s k hlt;have Wn:IntKind.i64.wrap ((k:Int)+1)=((k+1:Nat):Int):=(by rw [Aej _ (by omega)];omega);have hgo:∀ n,Rd B p ((w.drewN n).setCell ⟨p,1,none⟩ (.int .i64 ((k:Int)+1))) s (st.to (k+1)) es dep mv cv∧RStep p w mv cv ((w.drewN n).setCell ⟨p,1,none⟩ (.int .i64 ((k:Int)+1))) mv cv:=fun n=>⟨((h.below (below_drewN (Aeh w.heap.size w) n)).goto (k+1) (show k≤k+1 by omega) (show k+1≤s.size by omega)).1,(RStep.of_below (below_drewN (Aeh w.heap.size w) n)).trans ((h.below (below_drewN (Aeh w.heap.size w) n)).goto (k+1) (show k≤k+1 by omega) (show k+1≤s.size by omega)).2⟩;obtain ⟨c0,c1,c2,c3,c4,z1,z2,z3,z4⟩:=h.cells;replace c1:w.cell? ⟨p,1,none⟩=some (.int .i64 (k:Int)):=c1;have e0:((k:Int) == (s.size:Int))=false:=(by rw [beq_eq_false_iff_ne];omega);have HK:=Ad5 hk;have HGO:=Ad5 hgo;have H:=Ad5 h;clear hk hgo h hps
 rw [←HK.out,hb0] at hc0;obtain ⟨n1',n2',n3',n4',n5'⟩:=hno;have hc:s[k].toNat=c:=hc0;have hc256:c < 256:=(by rw [←hc];exact UInt8.toNat_lt _);have e40:((s[k].toNat:Int) == 40)=false:=by rw [hc,beq_eq_false_iff_ne];omega
 have e49:((s[k].toNat:Int) == 49)=false:=by rw [hc,beq_eq_false_iff_ne];omega
 have e50:((s[k].toNat:Int) == 50)=false:=by rw [hc,beq_eq_false_iff_ne];omega
 have e51:((s[k].toNat:Int) == 51)=false:=by rw [hc,beq_eq_false_iff_ne];omega
 have e52:((s[k].toNat:Int) == 52)=false:=by rw [hc,beq_eq_false_iff_ne];omega
 have e53:((s[k].toNat:Int) == 53)=false:=by rw [hc,beq_eq_false_iff_ne];omega
 have e54:((s[k].toNat:Int) == 54)=false:=by rw [hc,beq_eq_false_iff_ne];omega
 have e55:((s[k].toNat:Int) == 55)=false:=by rw [hc,beq_eq_false_iff_ne];omega
 have e56:((s[k].toNat:Int) == 56)=false:=by rw [hc,beq_eq_false_iff_ne];omega
 have e57:((s[k].toNat:Int) == 57)=false:=by rw [hc,beq_eq_false_iff_ne];omega
 have e123:((s[k].toNat:Int) == 123)=false:=by rw [hc,beq_eq_false_iff_ne];omega
 have e43:((s[k].toNat:Int) == 43)=false:=by rw [hc,beq_eq_false_iff_ne];omega
 have e63:((s[k].toNat:Int) == 63)=false:=by rw [hc,beq_eq_false_iff_ne];omega
 have he:=fun w=>Gj s[k].toNat (UInt8.toNat_lt _) w
 rw [hc] at he;rw [hes,←hc,show Qb (some (t,false))=.tuple #[.agg #[.int .u64 (ow t 0),.int .u64 (ow t 1),.int .u64 (ow t 2),.int .u64 (ow t 3)],.bool false,.bool true] from rfl] at he;clear hc hc0 hes hb0 n1' n2' n3' n4' n5' hc256;go_enter Tryz.func163,Tryz.ntmps163;go_wp2_with fail;go_quiet (fail);generalize nq=n1;go_wp2_with fail;go_quiet (fail);go_wp2_with fail;refine (he _).mono ?_;rintro e w1 ⟨rfl,b1⟩;have hR:=(HGO.out (n1+nq)).1;rw [show k+1=st.pos+2 by rw [HK.out]] at hR;have hA:=(Aeh w1.heap.size w1).alloc (Aec _) (.cells #[.int .u64 (ow t 0),.int .u64 (ow t 1),.int .u64 (ow t 2),.int .u64 (ow t 3)] 109);have HR:=Ad5 ((hR.below b1).below hA);have HS2:=Ad5 (((HGO.out (n1+nq)).2.trans (RStep.of_below (p:=p) (mv:=mv) (cv:=cv) b1)).trans (RStep.of_below (p:=p) (mv:=mv) (cv:=cv) hA));clear b1 hA hR;go_wp2_with fail
 go_ret;exact AM rfl HS2.out HR.out (EV _ _ _ _ _ _)
theorem Tm {B p:Nat} {s:ByteArray} {st:ReSt} {es:List Bool} {dep:Nat} {mv cv:Value} (w:World) (h:Rd B p w s (st.to (st.pos+1)) es dep mv cv) (hlt:st.pos+1 < s.size) (c:Nat) (hc0:byt s.data.toList (st.pos+1)=c) (hno:Ie c) (t:OSet) (hes:CG c=some (t,true)) :
  Calls Tryz.prog 163 #[.pointer (some ⟨p,0,none⟩),.int .i64 (st.pos:Int)] w fun e w'=>BJ (.ok ((st.mark c).to (st.pos+2),.one t)) B p s dep mv cv w e w':=by
 have hps:st.pos+1≤s.size:=h.pos;have hsm:=h.small;obtain ⟨k,hk⟩:∃ k,k=st.pos+1:=⟨_,rfl⟩;rw [←hk] at h hps hlt;have hk1:(k:Int) < (s.size:Int):=(by omega);have hb0:=BL s k hlt;have Wn:IntKind.i64.wrap ((k:Int)+1)=((k+1:Nat):Int):=(by rw [Aej _ (by omega)];omega);have hgo:∀ n,Rd B p ((w.drewN n).setCell ⟨p,1,none⟩ (.int .i64 ((k:Int)+1))) s (st.to (k+1)) es dep mv cv∧RStep p w mv cv ((w.drewN n).setCell ⟨p,1,none⟩ (.int .i64 ((k:Int)+1))) mv cv:=fun n=>⟨((h.below (below_drewN (Aeh w.heap.size w) n)).goto (k+1) (show k≤k+1 by omega) (show k+1≤s.size by omega)).1,(RStep.of_below (below_drewN (Aeh w.heap.size w) n)).trans ((h.below (below_drewN (Aeh w.heap.size w) n)).goto (k+1) (show k≤k+1 by omega) (show k+1≤s.size by omega)).2⟩;obtain ⟨c0,c1,c2,c3,c4,z1,z2,z3,z4⟩:=h.cells;replace c1:w.cell? ⟨p,1,none⟩=some (.int .i64 (k:Int)):=c1;have e0:((k:Int) == (s.size:Int))=false:=(by rw [beq_eq_false_iff_ne];omega);have HK:=Ad5 hk;have HGO:=Ad5 hgo;have H:=Ad5 h;clear hk hgo h hps
 rw [←HK.out,hb0] at hc0;obtain ⟨n1',n2',n3',n4',n5'⟩:=hno;have hc:s[k].toNat=c:=hc0;have hc256:c < 256:=(by rw [←hc];exact UInt8.toNat_lt _);have e40:((s[k].toNat:Int) == 40)=false:=by rw [hc,beq_eq_false_iff_ne];omega
 have e49:((s[k].toNat:Int) == 49)=false:=by rw [hc,beq_eq_false_iff_ne];omega
 have e50:((s[k].toNat:Int) == 50)=false:=by rw [hc,beq_eq_false_iff_ne];omega
 have e51:((s[k].toNat:Int) == 51)=false:=by rw [hc,beq_eq_false_iff_ne];omega
 have e52:((s[k].toNat:Int) == 52)=false:=by rw [hc,beq_eq_false_iff_ne];omega
 have e53:((s[k].toNat:Int) == 53)=false:=by rw [hc,beq_eq_false_iff_ne];omega
 have e54:((s[k].toNat:Int) == 54)=false:=by rw [hc,beq_eq_false_iff_ne];omega
 have e55:((s[k].toNat:Int) == 55)=false:=by rw [hc,beq_eq_false_iff_ne];omega
 have e56:((s[k].toNat:Int) == 56)=false:=by rw [hc,beq_eq_false_iff_ne];omega
 have e57:((s[k].toNat:Int) == 57)=false:=by rw [hc,beq_eq_false_iff_ne];omega
 have e123:((s[k].toNat:Int) == 123)=false:=by rw [hc,beq_eq_false_iff_ne];omega
 have e43:((s[k].toNat:Int) == 43)=false:=by rw [hc,beq_eq_false_iff_ne];omega
 have e63:((s[k].toNat:Int) == 63)=false:=by rw [hc,beq_eq_false_iff_ne];omega
 have he:=fun w=>Gj s[k].toNat (UInt8.toNat_lt _) w
 rw [hc] at he;have hcv:∀ W:World,(convert 165 9 (.slice (some ⟨W.heap.size,0,none⟩) 2 2)).run Tryz.prog (W.alloc (.cells #[.int .u8 92,.int .u8 (s[k].toNat:Int)] 5)).drew=.ok (.string ⟨#[92,UInt8.ofNat c]⟩) (W.alloc (.cells #[.int .u8 92,.int .u8 (s[k].toNat:Int)] 5)).drew:=fun W=>by
  rw [Gg W 92 (s[k].toNat:Int),hc];rfl
 obtain ⟨i0,hi,hz0,hz1,hz2⟩:=Cx;rw [hes,←hc,show Qb (some (t,true))=.tuple #[.agg #[.int .u64 (ow t 0),.int .u64 (ow t 1),.int .u64 (ow t 2),.int .u64 (ow t 3)],.bool true,.bool true] from rfl] at he;have hfew:=H.out.few.1;have hfew2:st.marks.length≤k:=hfew;clear hc hc0 hes hb0 n1' n2' n3' n4' n5' hfew;go_enter Tryz.func163,Tryz.ntmps163;go_wp2_with fail;go_quiet (fail);generalize nq=n1;go_wp2_with fail;go_quiet (fail);go_wp2_with fail;refine (he _).mono ?_;rintro e w1 ⟨rfl,b1⟩;have hR:=(HGO.out (n1+nq)).1;have HS1:=Ad5 ((HGO.out (n1+nq)).2.trans (RStep.of_below (p:=p) (mv:=mv) (cv:=cv) b1));have hR1:=hR.below b1;clear hR b1 c0 c1 c2 c3 c4 z1 z2 z3 z4;have hA:=(Aeh w1.heap.size w1).alloc (Aec _) (.cells #[.int .u64 (ow t 0),.int .u64 (ow t 1),.int .u64 (ow t 2),.int .u64 (ow t 3)] 109);have hRA:=hR1.below hA;have hPA:=Blk.new w1 #[.int .u64 (ow t 0),.int .u64 (ow t 1),.int .u64 (ow t 2),.int .u64 (ow t 3)] 109 w1.heap.size rfl;have HSA:=Ad5 (HS1.out.trans (RStep.of_below (p:=p) (mv:=mv) (cv:=cv) hA));have hmq:mv.ownBlock≠some w1.heap.size:=fun hv=>by have:=AB hR1.mo _ hv;omega
 have hq2:w1.heap.size < (w1.alloc (.cells #[.int .u64 (ow t 0),.int .u64 (ow t 1),.int .u64 (ow t 2),.int .u64 (ow t 3)] 109)).heap.size:=by simp
 have hpq:w1.heap.size≠p:=fun e=>by have:=hR1.blk.lt;omega
 have hpq2:p≠w1.heap.size:=fun e=>hpq e.symm
 clear hA hR1;go_upto_region 26 with fail;generalize hw2:w1.alloc (.cells #[.int .u64 (ow t 0),.int .u64 (ow t 1),.int .u64 (ow t 2),.int .u64 (ow t 3)] 109)=w2 at *;generalize hq:w1.heap.size=q at *;clear hw2 hq;have hpl:=hRA.blk.lt;have hBp:=hRA.bp;obtain ⟨c0,c1,c2,c3,c4,z1,z2,z3,z4⟩:=hRA.cells;have hcv2:=hcv w2;have hv1:∀ u∈Es (st.pos,c),u.oneCell'=true:=by intro u hu;simp [Es] at hu;rcases hu with rfl | rfl <;> rfl
 have hm1:st.marks.length+1≤maxLen:=by unfold maxLen;omega
 have hm2:(st.marks.length+1) * 24≤140737488355328:=by omega
 have HRA:=Ad5 hRA;have HPA:=Ad5 hPA;clear hcv;clear hRA hPA
 go_region_law (first
  | (refine Av rfl _ _ 26 rfl B 33 i0 (.agg #[.int .i64 0,.string ⟨#[]⟩]) 2 24 Tryz.underlying26 hi hz0 hz1 hz2 rfl (by decide) mv st.marks.length (marksC st.marks) rfl (Ag HRA.out.mo (by repeat (first | (with_reducible exact Aeh _ _) | refine Below.drew ?_ | refine below_drewN ?_ _ | refine Below.alloc ?_ (by first | omega | (simp;omega) | simp) _))) (some ⟨w2.heap.size+1,0,none⟩) 1 1 (Es (st.pos,c)) rfl rfl (fun _=>⟨_,rfl,Tj _ _ _ (by simp)⟩) hv1 hm1 hm2 (by simp;omega) ?_;intro v6 w6 hown6 hgrow6 hat6;have HM:=Ad5 ((HRA.out.below (by repeat (first | (with_reducible exact Aeh _ _) | refine Below.drew ?_ | refine below_drewN ?_ _ | refine Below.alloc ?_ (by first | omega | (simp;omega) | simp) _))).mark (m:=(st.pos,c)) hown6 hgrow6 hat6 (by show st.marks.length+1≤k+1;omega));have hfz:w6.frozen? ⟨p,2,none⟩=false:=(hgrow6.frozen_far ⟨p,2,none⟩ (by simp;omega) (fun e=>HRA.out.mp e.symm)).trans ((HRA.out.below (by repeat (first | (with_reducible exact Aeh _ _) | refine Below.drew ?_ | refine below_drewN ?_ _ | refine Below.alloc ?_ (by first | omega | (simp;omega) | simp) _))).blk.frozen 2);have hce:w6.cell? ⟨p,2,none⟩=some mv:=(hgrow6.cell_far ⟨p,2,none⟩ (by simp;omega) (fun e=>HRA.out.mp e.symm)).trans (((HRA.out.below (by repeat (first | (with_reducible exact Aeh _ _) | refine Below.drew ?_ | refine below_drewN ?_ _ | refine Below.alloc ?_ (by first | omega | (simp;omega) | simp) _))).blk.cell 2).trans rfl);have hs0:w6.cell? ⟨q,0,none⟩=some (.int .u64 (ow t 0)):=(hgrow6.cell_far ⟨q,0,none⟩ (by simp;omega) (fun e=>hmq e.symm)).trans (((HPA.out.below (by repeat (first | (with_reducible exact Aeh _ _) | refine Below.drew ?_ | refine below_drewN ?_ _ | refine Below.alloc ?_ (by first | omega | (simp;omega) | simp) _)) hq2).cell 0).trans rfl);have hs1:w6.cell? ⟨q,1,none⟩=some (.int .u64 (ow t 1)):=(hgrow6.cell_far ⟨q,1,none⟩ (by simp;omega) (fun e=>hmq e.symm)).trans (((HPA.out.below (by repeat (first | (with_reducible exact Aeh _ _) | refine Below.drew ?_ | refine below_drewN ?_ _ | refine Below.alloc ?_ (by first | omega | (simp;omega) | simp) _)) hq2).cell 1).trans rfl);have hs2:w6.cell? ⟨q,2,none⟩=some (.int .u64 (ow t 2)):=(hgrow6.cell_far ⟨q,2,none⟩ (by simp;omega) (fun e=>hmq e.symm)).trans (((HPA.out.below (by repeat (first | (with_reducible exact Aeh _ _) | refine Below.drew ?_ | refine below_drewN ?_ _ | refine Below.alloc ?_ (by first | omega | (simp;omega) | simp) _)) hq2).cell 2).trans rfl);have hs3:w6.cell? ⟨q,3,none⟩=some (.int .u64 (ow t 3)):=(hgrow6.cell_far ⟨q,3,none⟩ (by simp;omega) (fun e=>hmq e.symm)).trans (((HPA.out.below (by repeat (first | (with_reducible exact Aeh _ _) | refine Below.drew ?_ | refine below_drewN ?_ _ | refine Below.alloc ?_ (by first | omega | (simp;omega) | simp) _)) hq2).cell 3).trans rfl);obtain ⟨g,gcap,hv6,_,_⟩:=World.ownsRow.form hown6 (Nat.succ_pos _);subst hv6;clear hown6 hgrow6 hat6))
 all_goals
  go_wp2_with fail
  go_ret;exact AM rfl ((HSA.out.trans (RStep.of_below (p:=p) (mv:=mv) (cv:=cv) (by repeat (first | (with_reducible exact Aeh _ _) | refine Below.drew ?_ | refine below_drewN ?_ _ | refine Below.alloc ?_ (by first | omega | (simp;omega) | simp) _)))).trans HM.out.2) (by have h9:=HM.out.1;rw [show st.to (k+1)=st.to (st.pos+2) by rw [HK.out]] at h9;exact h9) (EV _ _ _ _ _ _)
def D8 (s:List UInt8) (sub:Option (ReSt→ReRes (ReSt × Nd))) (front:Bool) (st:ReSt):ReRes (ReSt × Nd):=
 if front && (A2 false s st.pos 123 || A2 false s st.pos 43 || A2 false s st.pos 63) then .error (10,st.pos) else Bc false s sub st
theorem FM {s:List UInt8} {k c:Nat} (h:k+1 < s.length) (h1:byt s k=92) (h2:byt s (k+1)=c):BM s k c=true:=by
 unfold BM;rw [decide_eq_true h,decide_eq_true h1,decide_eq_true h2];rfl
theorem Et {s:List UInt8} {k c:Nat} (h:byt s k≠92∨byt s (k+1)≠c∨¬ k+1 < s.length):BM s k c=false:=by
 unfold BM;rcases h with h | h | h
 ·rw [decide_eq_false h];simp
 ·rw [decide_eq_false h];simp
 ·rw [decide_eq_false h];simp
theorem MQ {s:List UInt8} {k c:Nat} (h:k < s.length) (h1:byt s k=c):chAt s k c=true:=by
 unfold chAt;rw [decide_eq_true h,decide_eq_true h1];rfl
theorem Oe {s:List UInt8} {sub:Option (ReSt→ReRes (ReSt × Nd))} {front:Bool} {st:ReSt} (h:byt s st.pos≠92):D8 s sub front st =
  if chAt s st.pos 91 then (if (Fz s ((st.pos:Int)+1)).2.2=0 then .ok (st.to (Fz s ((st.pos:Int)+1)).2.1.toNat,.one (Fz s ((st.pos:Int)+1)).1) else .error ((Fz s ((st.pos:Int)+1)).2.2,(Fz s ((st.pos:Int)+1)).2.1.toNat))
  else if chAt s st.pos 46 then .ok (st.to (st.pos+1),.one (Ab 0 255)) else .ok (st.to (st.pos+1),.one (Ab (byt s st.pos) (byt s st.pos))):=by
 unfold D8 Bc A2;simp only [Bool.false_eq_true,if_false,Et (.inl h),Bool.or_self,Bool.and_false,BD h]
theorem Qi {s:List UInt8} {sub:Option (ReSt→ReRes (ReSt × Nd))} {front:Bool} {st:ReSt} (h:byt s st.pos=92) (hl:st.pos < s.length) (h2:¬ st.pos+1 < s.length):D8 s sub front st=.error (11,st.pos):=by
 unfold D8 Bc A2;simp only [Bool.false_eq_true,if_false,Et (.inr (.inr h2)),Bool.or_self,Bool.and_false,MQ hl h,BD (show byt s st.pos≠91 by omega),BD (show byt s st.pos≠46 by omega),if_true];rw [if_neg h2]
theorem Tn {s:List UInt8} {sub:Option (ReSt→ReRes (ReSt × Nd))} {front:Bool} {st:ReSt} (h:byt s st.pos=92) (h2:st.pos+1 < s.length) (hc:byt s (st.pos+1)=40):D8 s sub front st=F9 false s sub st:=by
 unfold D8 Bc A2;simp only [Bool.false_eq_true,if_false,FM h2 h hc,Et (c:=123) (.inr (.inl (by omega:byt s (st.pos+1)≠123))),Et (c:=43) (.inr (.inl (by omega:byt s (st.pos+1)≠43))),Et (c:=63) (.inr (.inl (by omega:byt s (st.pos+1)≠63))),Bool.or_self,Bool.and_false,if_true]
theorem Tp {s:List UInt8} {sub:Option (ReSt→ReRes (ReSt × Nd))} {st:ReSt} (h:byt s st.pos=92) (h2:st.pos+1 < s.length) (hc:byt s (st.pos+1)=43∨byt s (st.pos+1)=63∨byt s (st.pos+1)=123):D8 s sub true st=.error (10,st.pos):=by
 unfold D8 A2;simp only [Bool.false_eq_true,if_false];rcases hc with hc | hc | hc
 ·rw [FM h2 h hc];simp
 ·rw [FM h2 h hc];simp
 ·rw [FM h2 h hc];simp
theorem Tq {s:List UInt8} {k:Nat} (h:byt s k=92) (h2:k+1 < s.length) (hc:byt s (k+1)=43∨byt s (k+1)=63∨byt s (k+1)=123):repAt false s k≠.none:=by
 unfold repAt A2;simp only [Bool.false_eq_true,if_false,BD (show byt s k≠42 by omega)];rcases hc with hc | hc | hc
 ·rw [FM h2 h hc];simp
 ·rw [Et (.inr (.inl (show byt s (k+1)≠43 by omega))),FM h2 h hc];simp
 ·rw [Et (.inr (.inl (show byt s (k+1)≠43 by omega))),Et (.inr (.inl (show byt s (k+1)≠63 by omega))),FM h2 h hc];simp only [Bool.false_eq_true,if_false,if_true];split <;> simp
theorem Ts {s:List UInt8} {sub:Option (ReSt→ReRes (ReSt × Nd))} {front:Bool} {st:ReSt} {c:Nat} (h:byt s st.pos=92) (h2:st.pos+1 < s.length) (hc:byt s (st.pos+1)=c) (h40:c≠40) (h41:c≠41) (h43:c≠43) (h63:c≠63) (h123:c≠123):D8 s sub front st=Ds false st c:=by
 have hl:st.pos < s.length:=by omega
 unfold D8 Bc A2;simp only [Bool.false_eq_true,if_false,Et (c:=123) (.inr (.inl (by rw [hc];exact h123:byt s (st.pos+1)≠123))),Et (c:=43) (.inr (.inl (by rw [hc];exact h43:byt s (st.pos+1)≠43))),Et (c:=63) (.inr (.inl (by rw [hc];exact h63:byt s (st.pos+1)≠63))),Et (c:=40) (.inr (.inl (by rw [hc];exact h40:byt s (st.pos+1)≠40))),Et (c:=41) (.inr (.inl (by rw [hc];exact h41:byt s (st.pos+1)≠41))),Bool.or_self,Bool.and_false,MQ hl h,BD (show byt s st.pos≠91 by omega),BD (show byt s st.pos≠46 by omega),if_true];rw [if_pos h2,hc]
theorem Of {B p:Nat} {s:ByteArray} {st:ReSt} {es:List Bool} {dep:Nat} {mv cv:Value} (w:World) (h:Rd B p w s (st.to (st.pos+1)) es dep mv cv) (hb:byt s.data.toList st.pos=92) (front:Bool) (hfr:front=true∨repAt false s.data.toList st.pos=.none) (hen:AC s.data.toList st.pos=false)
  (sub:Option (ReSt→ReRes (ReSt × Nd))) (hG:Gl w) (hB:glN≤B) (hfe:es.length≤st.pos) (hgr:E6 B p s st es dep sub) :
  Calls Tryz.prog 163 #[.pointer (some ⟨p,0,none⟩),.int .i64 (st.pos:Int)] w fun e w'=>BJ (D8 s.data.toList sub front st) B p s dep mv cv w e w':=by
 have hsl:s.data.toList.length=s.size:=by simp
 have hps:st.pos+1≤s.size:=h.pos;by_cases hlt:st.pos+1 < s.size
 ·have hl2:st.pos+1 < s.data.toList.length:=by omega
  have h41:byt s.data.toList (st.pos+1)≠41:=fun e=>by
   unfold AC at hen;rw [FM hl2 hb e] at hen;simp at hen
  by_cases hg:byt s.data.toList (st.pos+1)=40
  ·rw [Tn hb hl2 hg];exact VZ w h hlt hg sub hG hB hfe hgr
  by_cases hr:byt s.data.toList (st.pos+1)=43∨byt s.data.toList (st.pos+1)=63∨byt s.data.toList (st.pos+1)=123
  ·rcases hfr with rfl | hfr
   ·rw [Tp hb hl2 hr];exact We w h hlt hr
   ·exact (Tq hb hl2 hr hfr).elim
  ·obtain ⟨c,hc⟩:∃ c,byt s.data.toList (st.pos+1)=c:=⟨_,rfl⟩;rw [hc] at h41 hg hr;rw [Ts hb hl2 hc hg h41 (by omega) (by omega) (by omega)];by_cases hd:49≤c∧c≤57
   ·exact Wf w h hlt c hc hd.1 hd.2
   ·have hp:Ie c:=⟨hg,hd,by omega,by omega,by omega⟩
    have he:Ds false st c=match CG c with
      | none=>.error (2,st.pos)
      | some (t,m)=>.ok ((if m then st.mark c else st).to (st.pos+2),.one t):=by
     unfold Ds;rw [if_neg hd];cases CG c with
     | none=>rfl
     | some q=>obtain ⟨t,m⟩:=q;rfl
    rw [he];cases hs:CG c with
    | none=>exact Tk w h hlt c hc hp hs
    | some q=>
     obtain ⟨t,m⟩:=q;cases m with
     | false=>exact Wh w h hlt c hc hp t hs
     | true=>exact Tm w h hlt c hc hp t hs
 ·rw [Qi hb (by omega) (by omega)];exact Ti w h (by omega)
theorem Wo {B p:Nat} {s:ByteArray} {st:ReSt} {es:List Bool} {dep:Nat} {mv cv:Value} (w:World) (h:Rd B p w s st es dep mv cv) (hlt:st.pos < s.size) (hb:byt s.data.toList st.pos=46):Calls Tryz.prog 154 #[.pointer (some ⟨p,0,none⟩)] w fun e w'=>BJ (.ok (st.to (st.pos+1),.one (Ab 0 255))) B p s dep mv cv w e w':=by
 have hsm:=h.small;obtain ⟨k,hk⟩:∃ k,k=st.pos:=⟨_,rfl⟩;rw [←hk] at hlt;have hk1:(k:Int) < (s.size:Int):=(by omega);have hb0:=BL s k hlt;have Wn:IntKind.i64.wrap ((k:Int)+1)=((k+1:Nat):Int):=(by rw [Aej _ (by omega)];omega);have hgo:Rd B p (w.setCell ⟨p,1,none⟩ (.int .i64 ((k:Int)+1))) s (st.to (k+1)) es dep mv cv∧RStep p w mv cv (w.setCell ⟨p,1,none⟩ (.int .i64 ((k:Int)+1))) mv cv:=h.goto (k+1) (show st.pos≤k+1 by omega) (show k+1≤s.size by omega);obtain ⟨c0,c1,c2,c3,c4,z1,z2,z3,z4⟩:=h.cells;rw [←hk] at c1;have HK:=Ad5 hk;have HGO:=Ad5 hgo;have H:=Ad5 h;clear hk hgo h;rw [←HK.out,hb0] at hb;have e46:((s[k].toNat:Int) == 46)=true:=by rw [hb];rfl
 clear hb hb0;have hn:=fun w=>Gb oz w
 rw [VL,Al,Al,Al,Al] at hn;go_enter Tryz.func154,Tryz.ntmps154;go_wp2_with fail
 refine (hn _).mono ?_;rintro e w1 ⟨rfl,b1⟩;have hR:=HGO.out.1.below b1;have HS:=Ad5 (HGO.out.2.trans (RStep.of_below (p:=p) (mv:=mv) (cv:=cv) b1));rw [show k+1=st.pos+1 by rw [HK.out]] at hR;have HR:=Ad5 hR;clear hR b1;go_wp2_with fail
 go_ret;exact AM rfl HS.out HR.out (EV _ _ _ _ _ _)
theorem Qj {B p:Nat} {s:ByteArray} {st:ReSt} {es:List Bool} {dep:Nat} {mv cv:Value} (w:World) (h:Rd B p w s st es dep mv cv) (hlt:st.pos < s.size) (h46:byt s.data.toList st.pos≠46) (h91:byt s.data.toList st.pos≠91) (h92:byt s.data.toList st.pos≠92) :
  Calls Tryz.prog 154 #[.pointer (some ⟨p,0,none⟩)] w fun e w'=>BJ (.ok (st.to (st.pos+1),.one (Ab (byt s.data.toList st.pos) (byt s.data.toList st.pos)))) B p s dep mv cv w e w':=by
 obtain ⟨R,hR0⟩:∃ R:ReRes (ReSt × Nd),R=.ok (st.to (st.pos+1),.one (Ab (byt s.data.toList st.pos) (byt s.data.toList st.pos))):=⟨_,rfl⟩;rw [←hR0];have hsm:=h.small;obtain ⟨k,hk⟩:∃ k,k=st.pos:=⟨_,rfl⟩;rw [←hk] at hlt;have hk1:(k:Int) < (s.size:Int):=(by omega);have hb0:=BL s k hlt;have Wn:IntKind.i64.wrap ((k:Int)+1)=((k+1:Nat):Int):=(by rw [Aej _ (by omega)];omega);have hgo:Rd B p (w.setCell ⟨p,1,none⟩ (.int .i64 ((k:Int)+1))) s (st.to (k+1)) es dep mv cv∧RStep p w mv cv (w.setCell ⟨p,1,none⟩ (.int .i64 ((k:Int)+1))) mv cv:=h.goto (k+1) (show st.pos≤k+1 by omega) (show k+1≤s.size by omega);obtain ⟨c0,c1,c2,c3,c4,z1,z2,z3,z4⟩:=h.cells;rw [←hk] at c1;have HK:=Ad5 hk;have HGO:=Ad5 hgo;have H:=Ad5 h;clear hk hgo h;rw [←HK.out,hb0] at h46 h91 h92 hR0;have HR0:=Ad5 hR0;have e46:((s[k].toNat:Int) == 46)=false:=by rw [beq_eq_false_iff_ne];omega
 have e91:((s[k].toNat:Int) == 91)=false:=by rw [beq_eq_false_iff_ne];omega
 have e92:((s[k].toNat:Int) == 92)=false:=by rw [beq_eq_false_iff_ne];omega
 clear h46 h91 h92 hb0 hR0;go_enter Tryz.func154,Tryz.ntmps154;go_wp2_with fail
 refine (CF (s[k].toNat:Int) (Aa4 _) (Aa5 _) _ _ (by simp [World.setCell])).mono ?_;rintro e w1 ⟨rfl,b1⟩;rw [DK];have hR:=HGO.out.1.below b1;have HS:=Ad5 (HGO.out.2.trans (RStep.of_below (p:=p) (mv:=mv) (cv:=cv) b1));have HR:=Ad5 hR;clear hR b1;go_wp2_with fail
 go_ret;exact AM HR0.out HS.out HR.out (EV _ _ _ _ _ _)
theorem Tt {B p:Nat} {s:ByteArray} {st:ReSt} {es:List Bool} {dep:Nat} {mv cv:Value} (w:World) (h:Rd B p w s st es dep mv cv) (hlt:st.pos < s.size) (hb:byt s.data.toList st.pos=92) (front:Bool) (hfr:front=true∨repAt false s.data.toList st.pos=.none) (hen:AC s.data.toList st.pos=false)
  (sub:Option (ReSt→ReRes (ReSt × Nd))) (hG:Gl w) (hB:glN≤B) (hgr:E6 B p s st es dep sub) :
  Calls Tryz.prog 154 #[.pointer (some ⟨p,0,none⟩)] w fun e w'=>BJ (D8 s.data.toList sub front st) B p s dep mv cv w e w':=by
 obtain ⟨R,hR0⟩:∃ R:ReRes (ReSt × Nd),R=D8 s.data.toList sub front st:=⟨_,rfl⟩;have hesc:=fun (w2:World) (h2:Rd B p w2 s (st.to (st.pos+1)) es dep mv cv) (hG2:Gl w2)=>Of w2 h2 hb front hfr hen sub hG2 hB h.few.2 hgr
 rw [←hR0] at hesc ⊢;clear hR0;have hsm:=h.small;obtain ⟨k,hk⟩:∃ k,k=st.pos:=⟨_,rfl⟩;rw [←hk] at hlt;have hk1:(k:Int) < (s.size:Int):=(by omega);have hb0:=BL s k hlt;have Wn:IntKind.i64.wrap ((k:Int)+1)=((k+1:Nat):Int):=(by rw [Aej _ (by omega)];omega);have hgo:Rd B p (w.setCell ⟨p,1,none⟩ (.int .i64 ((k:Int)+1))) s (st.to (k+1)) es dep mv cv∧RStep p w mv cv (w.setCell ⟨p,1,none⟩ (.int .i64 ((k:Int)+1))) mv cv:=h.goto (k+1) (show st.pos≤k+1 by omega) (show k+1≤s.size by omega);obtain ⟨c0,c1,c2,c3,c4,z1,z2,z3,z4⟩:=h.cells;rw [←hk] at c1;have HK:=Ad5 hk;have HGO:=Ad5 hgo;have H:=Ad5 h;clear hk hgo h;rw [←HK.out,hb0] at hb;have e46:((s[k].toNat:Int) == 46)=false:=by rw [hb];rfl
 have e91:((s[k].toNat:Int) == 91)=false:=by rw [hb];rfl
 have e92:((s[k].toNat:Int) == 92)=true:=by rw [hb];rfl
 have HGl:=Ad5 hG;have HE:=Ad5 hesc;clear hb hb0 hfr hen hgr hG hesc;go_enter Tryz.func154,Tryz.ntmps154;go_wp2_with fail
 obtain ⟨hR,hS⟩:=HGO.out;have hkp:k+1=st.pos+1:=by rw [HK.out]
 rw [hkp] at hR;have hA:=HE.out _ hR (HGl.out.step hS H.out hB);rw [←HK.out] at hA;refine hA.mono ?_;intro e w' hA;replace hA:=hA.from hS
 obtain ⟨mv',cv',hS',hr⟩:=hA;have HS':=Ad5 hS';clear hS' hkp;cases R with
 | error q=>
  obtain rfl:e=_:=hr;go_wp2_with fail
  exact ⟨rfl,_,_,HS'.out,rfl⟩
 | ok q=>
  obtain ⟨es',v,rfl,hR',hN'⟩:=hr;go_wp2_with fail
  go_ret;exact ⟨_,_,HS'.out,es',v,rfl,hR',hN'⟩
theorem Wq {B p:Nat} {s:ByteArray} {st:ReSt} {es:List Bool} {dep:Nat} {mv cv:Value} (w:World) (h:Rd B p w s st es dep mv cv) (hlt:st.pos < s.size) (hb:byt s.data.toList st.pos=91) (hG:Gl w) (hB:glN≤B) :
  Calls Tryz.prog 154 #[.pointer (some ⟨p,0,none⟩)] w fun e w'=>BJ (if (Fz s.data.toList ((st.pos:Int)+1)).2.2=0 then .ok (st.to (Fz s.data.toList ((st.pos:Int)+1)).2.1.toNat,.one (Fz s.data.toList ((st.pos:Int)+1)).1) else .error ((Fz s.data.toList ((st.pos:Int)+1)).2.2,(Fz s.data.toList ((st.pos:Int)+1)).2.1.toNat)) B p s dep mv cv w e w':=by
 have hsl:s.data.toList.length=s.size:=by simp
 obtain ⟨t,j,er,hprs,hj⟩:=JB s.data.toList (st.pos+1) (by omega);rw [hsl] at hj;have hpa:=fun (w:World) (hG:Gl w)=>L2 s ((st.pos+1:Nat):Int) w (by have:=h.small;omega) hG
 rw [hprs,show KM (t,(j:Int),er)=.tuple #[.agg #[.int .u64 (ow t 0),.int .u64 (ow t 1),.int .u64 (ow t 2),.int .u64 (ow t 3)],.int .i64 (j:Int),.int .i64 (er:Int)] from rfl] at hpa;obtain ⟨R,hR0⟩:∃ R:ReRes (ReSt × Nd),R=if er=0 then .ok (st.to j,.one t) else .error (er,j):=⟨_,rfl⟩
 rw [show ((st.pos:Int)+1)=((st.pos+1:Nat):Int) by omega,hprs];simp only [Int.toNat_natCast];rw [←hR0];have HR0:=Ad5 hR0;have HGl:=Ad5 hG;clear hprs hR0 hsl hG;have hsm:=h.small;obtain ⟨k,hk⟩:∃ k,k=st.pos:=⟨_,rfl⟩;rw [←hk] at hlt;have hk1:(k:Int) < (s.size:Int):=(by omega);have hb0:=BL s k hlt;have Wn:IntKind.i64.wrap ((k:Int)+1)=((k+1:Nat):Int):=(by rw [Aej _ (by omega)];omega);have hgo:Rd B p (w.setCell ⟨p,1,none⟩ (.int .i64 ((k:Int)+1))) s (st.to (k+1)) es dep mv cv∧RStep p w mv cv (w.setCell ⟨p,1,none⟩ (.int .i64 ((k:Int)+1))) mv cv:=h.goto (k+1) (show st.pos≤k+1 by omega) (show k+1≤s.size by omega);obtain ⟨c0,c1,c2,c3,c4,z1,z2,z3,z4⟩:=h.cells;rw [←hk] at c1;have HK:=Ad5 hk;have HGO:=Ad5 hgo;have H:=Ad5 h;clear hk hgo h;rw [←HK.out,hb0] at hb;have e46:((s[k].toNat:Int) == 46)=false:=by rw [hb];rfl
 have e91:((s[k].toNat:Int) == 91)=true:=by rw [hb];rfl
 clear hb hb0;have hkp:st.pos+1=k+1:=by rw [HK.out]
 rw [hkp] at hpa hj;clear hkp;have HJ:=Ad5 hj;clear hj;go_enter Tryz.func154,Tryz.ntmps154;go_upto_region 9 with fail;obtain ⟨hR,hS⟩:=HGO.out;have hG2:=HGl.out.step hS H.out hB;clear c0 c1 c2 c3 c4 z1 z2 z3 z4 Wn;generalize hw2:w.setCell ⟨p,1,none⟩ (.int .i64 ((k:Int)+1))=w2 at *;have HW2:=Ad5 hw2;clear hw2;generalize hk2:k+1=k2 at *;have hall:w2.cell? ⟨p,0,none⟩=some (.string s)∧w2.cell? ⟨p,1,none⟩=some (.int .i64 (k2:Int))∧RdH w2 B p s (st.to k2) es dep mv cv w2:=Lz hR;have HR:=Ad5 hR;have HS:=Ad5 hS;have HK2:=Ad5 hk2;clear hR hS hk2;obtain ⟨c0,c1,c2,c3,c4,z1,z2,z3,z4⟩:=HR.out.cells;replace c1:w2.cell? ⟨p,1,none⟩=some (.int .i64 (k2:Int)):=c1;have hpl:=HR.out.blk.lt;have hkk:(st.to k2).pos=k2:=rfl;go_cut [5,6,7] (fun s5 s6 s7 wx=>∃ a:Nat,s5=.pointer (some ⟨a,0,none⟩)∧s6=.int .i64 (j:Int)∧s7=.int .i64 (er:Int)∧AtSet w2 a t wx)
 case first=>
  go_region_with (go_at_call 148;refine (hpa _ (hG2.up (by repeat (first | (with_reducible exact Aeh _ _) | refine Below.drew ?_ | refine below_drewN ?_ _ | refine Below.alloc ?_ (by first | omega | (simp;omega) | simp) _)))).mono ?_;rintro e w' ⟨rfl,hbX⟩;have hbQ:Below w2.heap.size w2 w':=Below.trans (by repeat (first | (with_reducible exact Aeh _ _) | refine Below.drew ?_ | refine below_drewN ?_ _ | refine Below.alloc ?_ (by first | omega | (simp;omega) | simp) _)) (hbX.mono (by simp));(try (have hPz:=((Blk.new w2 #[.int .u64 0,.int .u64 0,.int .u64 0,.int .u64 0] 109 w2.heap.size rfl).drew).below hbX (by simp);obtain ⟨y0,y1,y2,y3,x0,x1,x2,x3,xl⟩:=C9 hPz)))
  all_goals go_wp2_with fail
  all_goals go_meet
  all_goals first
   | exact ⟨_,rfl,rfl,rfl,⟨hbQ.alloc hbQ.size _,Blk.new _ _ _ _ rfl,hbQ.size⟩⟩
   | exact ⟨_,rfl,rfl,rfl,⟨(((hbQ.setCell (p:=⟨w2.heap.size,0,none⟩) (Aec _) _).setCell (p:=⟨w2.heap.size,1,none⟩) (Aec _) _).setCell (p:=⟨w2.heap.size,2,none⟩) (Aec _) _).setCell (p:=⟨w2.heap.size,3,none⟩) (Aec _) _,(((hPz.set 0 _).set 1 _).set 2 _).set 3 _,Aec _⟩⟩
 case rest=>
  obtain ⟨a,rfl,rfl,rfl,hA⟩:=hcut;clear c0 c1 c2 c3 c4 z1 z2 z3 z4 hpa hall hG2;have hS2:=HS.out.trans (RStep.of_below (p:=p) (mv:=mv) (cv:=cv) hA.b);have hR2:=HR.out.below hA.b;have HS2:=Ad5 hS2;clear hS2;by_cases her:er=0
  ·subst her;have hj:=HJ.out rfl;have HF:=Ad5 (HR0.out.trans (if_pos rfl));have hg:=hR2.goto j (show k2≤j by omega) hj.2;have HG:=Ad5 hg;obtain ⟨c0,c1,c2,c3,c4,z1,z2,z3,z4⟩:=hR2.cells;obtain ⟨y0,y1,y2,y3,x0,x1,x2,x3,xl⟩:=C9 hA.s;have hap:a≠p:=fun e=>by have:=hA.lo;omega
   have hap2:p≠a:=fun e=>hap e.symm
   clear hg hR2 hA hj;go_wp2_with fail
   go_ret;exact AM HF.out (HS2.out.trans HG.out.2) HG.out.1 (EV _ _ _ _ _ _)
  ·have HF:=Ad5 (HR0.out.trans (if_neg her));have e9:((er:Int) != 0)=true:=by simp;omega
   clear her hR2 hA;go_wp2_with fail
   exact ⟨rfl,A1 HF.out HS2.out rfl⟩
def Ka (s:List UInt8) (A:ReRes (ReSt × Nd)):ReRes (ReSt × Nd):=match A with
 | .error e=>.error e
 | .ok q=>DI false s (s.length+1) q.1 q.2
def FN (s:List UInt8) (sub:Option (ReSt→ReRes (ReSt × Nd))) (front:Bool) (st:ReSt):ReRes (ReSt × Nd):=
 if chAt s st.pos 36 && AC s (st.pos+1) then .ok (st.to (st.pos+1),.fin)
 else Ka s (D8 s sub front st)
theorem Tu (ere:Bool) (s:List UInt8) (k:Nat) (m n:Int) (j:Nat) (h:G6 ere s k=some (m,n,j)):k < j∧j≤s.length:=by
 rw [GW] at h;obtain ⟨q,hq,he⟩:=Option.map_eq_some_iff.1 h;have h0:CJ ere≠[]:=by cases ere <;> simp [CJ]
 have h1:q.2.2≤(s.drop k).length:=by
  unfold Lk at hq;split at hq
  ·rename_i hc;injection hq with hq;subst hq;rw [Bool.and_eq_true] at hc;exact FA _ _ _ hc.2 h0
  ·cases hq
 have h2:0 < q.2.2:=by
  unfold Lk at hq;split at hq
  ·injection hq with hq;subst hq;have:0 < (CJ ere).length:=List.length_pos_iff.2 h0;simp only;omega
  ·cases hq
 rw [List.length_drop] at h1;injection he with he1 he2;injection he2 with he2 he3;omega
theorem Wr (s:List UInt8) (k:Nat) (a b:Int) (c j:Nat) (h:repAt false s k=.some a b c j):k < j∧j≤s.length:=by
 unfold repAt at h;split at h
 ·rename_i h1;injection h with _ _ _ h;have:=(BI h1).1;omega
 split at h
 ·rename_i _ h1;injection h with _ _ _ h;have:=(Fd h1).1;simp [AY] at h;omega
 split at h
 ·rename_i _ _ h1;injection h with _ _ _ h;have:=(Fd h1).1;simp [AY] at h;omega
 split at h
 ·rename_i _ _ _ h1;split at h
  ·cases h
  ·rename_i m n j' hi;injection h with _ _ _ h;have h3:=Tu _ _ _ _ _ _ hi;simp [AY] at h3;omega
 ·cases h
theorem Tv (s:List UInt8) (m:Nat) (st:ReSt) (d:Nd) (h:0 < m):DI false s m st d=match repAt false s st.pos with
  | .none=>.ok (st,d)
  | .bad=>.error (7,st.pos)
  | .some mn mx c j=>DI false s (m - 1) ((if c=0 then st else st.mark c).to j) (.rep d mn mx):=by
 obtain ⟨n,rfl⟩:∃ n,m=n+1:=⟨m - 1,by omega⟩;rw [DI];rfl
theorem Tw {B p:Nat} {s:ByteArray} {st:ReSt} {es:List Bool} {dep:Nat} {mv cv:Value} (w:World) (h:Rd B p w s st es dep mv cv) (hlt:st.pos < s.size) (hq:(chAt s.data.toList st.pos 36 && AC s.data.toList (st.pos+1))=true) :
  Calls Tryz.prog 142 #[.pointer (some ⟨p,0,none⟩)] w fun e w'=>BJ (.ok (st.to (st.pos+1),.fin)) B p s dep mv cv w e w':=by
 have hsm:=h.small;rw [Bool.and_eq_true] at hq;obtain ⟨hq1,hq2⟩:=hq;have hst:=fun n=>Fm ⟨#[36]⟩ (w.drewN n) (h.below (below_drewN (Aeh _ _) n))
 rw [show AQ s.data.toList st.pos (ByteArray.mk #[36]).data.toList=true from (D6 _ _ 36 (by decide)).trans hq1] at hst;have hbe:=fun w=>Gi s (st.pos+1) w
 rw [hq2] at hbe;have hgo:∀ n,Rd B p ((w.drewN n).setCell ⟨p,1,none⟩ (.int .i64 ((st.pos:Int)+1))) s (st.to (st.pos+1)) es dep mv cv∧RStep p w mv cv ((w.drewN n).setCell ⟨p,1,none⟩ (.int .i64 ((st.pos:Int)+1))) mv cv:=fun n=>⟨((h.below (below_drewN (Aeh w.heap.size w) n)).goto (st.pos+1) (show st.pos≤st.pos+1 by omega) (show st.pos+1≤s.size by omega)).1,(RStep.of_below (below_drewN (Aeh w.heap.size w) n)).trans ((h.below (below_drewN (Aeh w.heap.size w) n)).goto (st.pos+1) (show st.pos≤st.pos+1 by omega) (show st.pos+1≤s.size by omega)).2⟩
 have HGO:=Ad5 hgo;obtain ⟨c0,c1,c2,c3,c4,z1,z2,z3,z4⟩:=h.cells;have hk0:(0:Int)≤((st.pos+1:Nat):Int):=by omega
 have hk1:((st.pos+1:Nat):Int)≤(s.size:Int):=by omega
 have Wn:IntKind.i64.wrap ((st.pos:Int)+1)=((st.pos+1:Nat):Int):=by rw [Aej _ (by omega)];omega
 clear h hgo hq1 hq2;go_enter Tryz.func142,Tryz.ntmps142;go_wp2_with fail
 go_quiet (first | (go_at_call 153;exact Calls.quiet_of (hst _)) | (go_at_call 141;exact Calls.quiet_of_same ((hbe _).mono fun _ _ h=>⟨h.1,h.2.symm⟩)))
 go_wp2_with fail
 go_ret;exact AM rfl (HGO.out nq).2 (HGO.out nq).1 (Tg _ _ _ _ _)
theorem Qk {B p:Nat} {s:ByteArray} {st:ReSt} {es:List Bool} {dep:Nat} {mv cv:Value} (w:World) (h:Rd B p w s st es dep mv cv) (hlt:st.pos < s.size) (hq:(chAt s.data.toList st.pos 36 && AC s.data.toList (st.pos+1))=false) (A:ReRes (ReSt × Nd))
  (hat:∀ n,Calls Tryz.prog 154 #[.pointer (some ⟨p,0,none⟩)] (w.drewN n) fun e w'=>BJ A B p s dep mv cv (w.drewN n) e w') :
  Calls Tryz.prog 142 #[.pointer (some ⟨p,0,none⟩)] w fun e w'=>BJ (Ka s.data.toList A) B p s dep mv cv w e w':=by
 have hsm:=h.small;have hsl:s.data.toList.length=s.size:=by simp
 obtain ⟨R,hR0⟩:∃ R:ReRes (ReSt × Nd),R=Ka s.data.toList A:=⟨_,rfl⟩;rw [←hR0];have HR0:=Ad5 hR0;have HSL:=Ad5 hsl;clear hR0 hsl;have hst:=fun n=>Fm ⟨#[36]⟩ (w.drewN n) (h.below (below_drewN (Aeh _ _) n))
 rw [show AQ s.data.toList st.pos (ByteArray.mk #[36]).data.toList=chAt s.data.toList st.pos 36 from D6 _ _ 36 (by decide)] at hst;have hbe:=fun w=>Gi s (st.pos+1) w
 obtain ⟨c0,c1,c2,c3,c4,z1,z2,z3,z4⟩:=h.cells;have hk0:(0:Int)≤((st.pos+1:Nat):Int):=by omega
 have hk1:((st.pos+1:Nat):Int)≤(s.size:Int):=by omega
 have Wn:IntKind.i64.wrap ((st.pos:Int)+1)=((st.pos+1:Nat):Int):=by rw [Aej _ (by omega)];omega
 have HST:=Ad5 (fun n=>RStep.of_below (p:=p) (mv:=mv) (cv:=cv) (below_drewN (Aeh w.heap.size w) n));have hq':chAt s.data.toList st.pos 36=false∨(chAt s.data.toList st.pos 36=true∧AC s.data.toList (st.pos+1)=false):=by
  cases h1:chAt s.data.toList st.pos 36
  ·exact .inl rfl
  ·rw [h1] at hq;exact .inr ⟨rfl,hq⟩
 clear h hq;have Hq:=Ad5 hq';clear hq';go_enter Tryz.func142,Tryz.ntmps142;go_wp2_with fail
 go_cut [21] (fun s21 wx=>s21=.bool false∧∃ n,wx=w.drewN n)
 case first=>
  rcases Hq.out with hq1 | ⟨hq1,hq2⟩
  ·rw [hq1] at hst;clear hbe hq1
   go_quiet (first | (go_at_call 153;exact Calls.quiet_of (hst _)))
   go_wp2_with fail
   go_meet;exact ⟨rfl,_,rfl⟩
  ·rw [hq1] at hst;rw [hq2] at hbe;clear hq1 hq2
   go_quiet (first | (go_at_call 153;exact Calls.quiet_of (hst _)) | (go_at_call 141;exact Calls.quiet_of_same ((hbe _).mono fun _ _ h=>⟨h.1,h.2.symm⟩)))
   go_wp2_with fail
   go_meet;exact ⟨rfl,_,rfl⟩
 case rest=>
  obtain ⟨rfl,n,rfl⟩:=hcut;have ha:=hat n;have hS0:=HST.out n;have HS0:=Ad5 hS0;clear hat hst hbe c0 c1 c2 c3 c4 z1 z2 z3 z4 Wn hk0 hk1 HST hS0;go_wp2_with fail
  refine ha.mono ?_;intro e w1 hA;obtain ⟨mv1,cv1,hS1,hr⟩:=hA.from HS0.out
  have HS1:=Ad5 hS1;clear hS1 hA ha;cases A with
  | error q=>
   obtain rfl:e=_:=hr;go_wp2_with fail
   exact ⟨rfl,A1 HR0.out HS1.out rfl⟩
  | ok q=>
   obtain ⟨es1,v1,rfl,hR1,hN1⟩:=hr;have HR1:=Ad5 hR1;have HN1:=Ad5 hN1;clear hR1 hN1;go_wp2_with fail
   go_loopw [3] (fun v wr=>∃ (m:Nat) (st':ReSt) (d':Nd) (es':List Bool) (mv' cv':Value),R=DI false s.data.toList m st' d'∧s.size < m+st'.pos∧Rd B p wr s st' es' dep mv' cv'∧RStep p w mv cv wr mv' cv'∧Cz w.heap.size p mv' cv' wr d' v) (fun _ wr=>s.size - (intOf ((wr.cell? ⟨p,1,none⟩).getD undef)).toNat)
   case atStart=>
    exact ⟨_,_,_,_,_,_,HR0.out,by rw [HSL.out];omega,HR1.out,HS1.out,HN1.out⟩
   case round=>
    obtain ⟨m,st',d',es',mv',cv',hRm,hm,hR,hS,hN⟩:=hrel;have hb:=Qd wr hR;have hm0:0 < m:=by have:=hR.pos;omega
    rw [Tv _ _ _ _ hm0] at hRm;have HR:=Ad5 hR;have HS:=Ad5 hS;have HN:=Ad5 hN;clear hR hS hN;have hrm:=Wr s.data.toList st'.pos;have HSZ:=Ad5 HSL.out;cases hrp:repAt false s.data.toList st'.pos with
    | none=>
     rw [hrp] at hb hRm;have HRm:=Ad5 hRm;clear hRm hrm hrp;go_wp2_with fail
     refine hb.mono ?_;intro e w3 ⟨mv3,hS3,he3,hR3⟩;subst he3;have HS3:=Ad5 hS3;have HR3:=Ad5 hR3;clear hS3 hR3 hb;go_wp2_with fail
     go_ret;exact AM HRm.out (HS.out.trans HS3.out) HR3.out (HN.out.step HS3.out)
    | bad=>
     rw [hrp] at hb hRm;have HRm:=Ad5 hRm;clear hRm hrm hrp;go_wp2_with fail
     refine hb.mono ?_;intro e w3 ⟨mv3,hS3,he3⟩;obtain rfl:e=_:=he3;have HS3:=Ad5 hS3;clear hS3 hb;go_wp2_with fail
     exact ⟨rfl,A1 HRm.out (HS.out.trans HS3.out) rfl⟩
    | some a b c j=>
     rw [hrp] at hb hRm;have hj:=hrm _ _ _ _ hrp;rw [HSZ.out] at hj;have HRm:=Ad5 hRm;have HJ:=Ad5 hj;have HM:=Ad5 hm;have HM0:=Ad5 hm0;clear hRm hrm hrp hj hm hm0;obtain ⟨nn,hnn⟩:=HN.out;rcases Ax hnn with ⟨T,x,rfl⟩ | rfl
     all_goals
      clear hnn;go_wp2_with fail
      refine hb.mono ?_;intro e w3 ⟨mv3,hS3,he3,hR3⟩;subst he3;have HS3:=Ad5 hS3;have HR3:=Ad5 hR3;clear hS3 hR3 hb;go_wp2_with fail
      go_roundw
      case rel=>
       refine ⟨m - 1,_,_,_,_,_,HRm.out,?_,HR3.out,HS.out.trans HS3.out,Th (HN.out.step HS3.out) _ _⟩;have h1:=HJ.out;have h2:=HM.out;have h3:=HM0.out;show s.size < m - 1+j;omega
      case measure=>
       have h1:=HR3.out.cells.c1;have h2:=HR.out.cells.c1;rw [h1,h2];have h3:=HJ.out;simp only [Option.getD_some,intOf];show s.size - (((j:Nat):Int)).toNat < _;omega
theorem IQ (s:List UInt8) (sub:Option (ReSt→ReRes (ReSt × Nd))) (begin n:Nat) (st:ReSt) (parts:List Nd) (front:Bool) (h:AC s st.pos=false) (h94:(chAt s st.pos 94 && decide (st.pos=begin))=false) :
  branchM false s sub false begin (n+1) st parts front=match FN s sub front st with
   | .error e=>.error e
   | .ok q=>branchM false s sub false begin n q.1 (parts++[q.2]) (chAt s st.pos 36 && AC s (st.pos+1)):=by
 rw [branchM];have h':=h;unfold AC at h';simp only [A2,Bool.false_eq_true,if_false,Bool.not_false,Bool.and_true,Bool.false_or];rw [h',h94];simp only [Bool.false_eq_true,if_false];unfold FN;cases hq:(chAt s st.pos 36 && AC s (st.pos+1)) with
 | true=>simp
 | false=>
  simp only [Bool.false_eq_true,if_false];unfold Ka D8;simp only [A2,Bool.false_eq_true,if_false,Bool.false_and,Bool.or_false];cases hf:(front && (BM s st.pos 123 || BM s st.pos 43 || BM s st.pos 63)) with
  | true=>simp
  | false=>
   simp only [Bool.false_eq_true,if_false];cases Bc false s sub st with
   | error e=>rfl
   | ok q=>
    obtain ⟨st1,d⟩:=q;simp only;cases DI false s (s.length+1) st1 d with
    | error e=>rfl
    | ok q2=>rfl
theorem DR:∃ i,Tryz.prog.info? 38=some i∧i.zero=some .nilIface∧i.size=1∧i.bytes=16:=by
 have h:(Tryz.prog.info? 38).map (fun i=>(i.zero,i.size,i.bytes))=some (some .nilIface,1,16):=by kernel_rfl
 obtain ⟨i,hi,he⟩:=Option.map_eq_some_iff.1 h;injection he with h1 h2;injection h2 with h2 h3;exact ⟨i,hi,h1,h2,h3⟩
structure NdOw (F:Nat→Prop) (B:Nat) (w:World) (l:List Nd) (v:Value) (us:List Value):Prop where
 len:us.length=l.length
 row:w.ownsRow B 38 1 v l.length us
 nd:∀ i (h:i < l.length) (h2:i < us.length),NdX (fun k=>k < B∧F k) w l[i] us[i]
 one:∀ u∈us,u.oneCell'=true
theorem NdOw.nil (F:Nat→Prop) (B:Nat) (w:World):NdOw F B w [] (.slice none 0 0) []:=⟨rfl,World.ownsRow_nil _ _ _ _,fun i h=>absurd h (by simp),fun u h=>absurd h (by simp)⟩
theorem FO {F:Nat→Prop} {B:Nat} {w w':World} (hb:Below B w w') {d:Nd} {v:Value} (h:NdX (fun k=>k < B∧F k) w d v):NdX (fun k=>k < B∧F k) w' d v:=
 h.keep hb.size (fun _ hf _=>⟨hf,fun o=>hb.cell (p:=⟨_,o,none⟩) hf.1⟩)
theorem NdOw.mem {F:Nat→Prop} {B:Nat} {w w':World} {l:List Nd} {v:Value} {us:List Value} (h:NdOw F B w l v us) (hb:Below w.heap.size w w') (hB:B≤w.heap.size):NdOw F B w' l v us:=
 ⟨h.len,h.row.kept ⟨hb.os,hb.tape,hb.output,hb.size,fun k hk _=>hb.block k hk⟩ (by
  rcases hv:v.ownBlock with _ | g
  ·exact .inl rfl
  ·exact .inr (by simp:some g≠none)),fun i h1 h2=>FO (hb.mono hB) (h.nd i h1 h2),h.one⟩
theorem NdOw.push {F:Nat→Prop} {B:Nat} {w w':World} {l m:List Nd} {v v':Value} {us news:List Value} (h:NdOw F B w l v us) (hb:Below B w w') (hl:news.length=m.length) (hn:∀ i (h1:i < m.length) (h2:i < news.length),NdX (fun k=>k < B∧F k) w m[i] news[i]) (h1:∀ u∈news,u.oneCell'=true)
  (hown:w'.ownsRow B 38 1 v' (l.length+m.length) (us++news)):NdOw F B w' (l++m) v' (us++news):=by
 refine ⟨by simp [h.len,hl],by rw [Aee];exact hown,fun i g1 g2=>?_,fun u hu=>(Aem.1 hu).elim (h.one u) (h1 u)⟩;by_cases hi:i < l.length
 ·rw [List.getElem_append_left hi,List.getElem_append_left (by rw [h.len];exact hi)];exact FO hb (h.nd i hi (by rw [h.len];exact hi))
 ·rw [List.getElem_append_right (by omega),List.getElem_append_right (by rw [h.len];omega)];simp only [h.len];exact FO hb (hn _ (by simp at g1;omega) (by simp at g1;omega))
theorem NdOw.parts {F:Nat→Prop} {B:Nat} {w:World} {l:List Nd} {v:Value} {us:List Value} (h:NdOw F B w l v us):∃ a cap,v=.slice a l.length cap∧AW (fun k=>(k < B∧F k)∨B≤k) w l a cap:=by
 have hr:=h.row;obtain ⟨_,h2⟩:=h.row;rcases h2 with ⟨rfl,h0⟩ | ⟨g,cap,cur,rfl,hg,hh,hn,hcap,hcs,htk⟩
 ·exact ⟨none,0,by rw [h0],by omega,by decide,fun h=>by omega⟩
 ·refine ⟨_,_,rfl,hn,hcap,fun h0=>⟨g,0,rfl,.inr hg,(Array.getElem?_eq_some_iff.1 hh).1,fun i hi=>?_⟩⟩;have hiu:i < us.length:=by rw [h.len];exact hi
  refine ⟨us[i],?_,(h.nd i hi hiu).keep (Aec _) (fun _ hf _=>⟨.inl hf,fun _=>rfl⟩)⟩;rw [Nat.zero_add,hr.cellAt i (by omega),List.getElem?_eq_getElem hiu]
theorem Kb {F:Nat→Prop} {w:World} {l:List Nd} {a:Option Addr} {cap:Nat} (h:AW F w l a cap):∃ news:List Value,news.length=l.length∧(∀ i (h1:i < l.length) (h2:i < news.length),NdX F w l[i] news[i])∧(∀ u∈news,u.oneCell'=true)∧
  (0 < l.length→∃ ad,a=some ad∧∃ b o,ad=⟨b,o,none⟩∧F b∧b < w.heap.size∧∀ j u,news[j]?=some u→w.cell? ⟨b,o+j,none⟩=some u):=by
 by_cases h0:0 < l.length
 ·obtain ⟨b,o,rfl,hf,hb,hx⟩:=h.2.2 h0;have hone:∀ i,i < l.length→∃ u,w.cell? ⟨b,o+i,none⟩=some u∧∀ h:i < l.length,NdX F w l[i] u:=fun i hi=>by
   obtain ⟨u,h1,h2⟩:=hx i hi;exact ⟨u,h1,fun _=>h2⟩
  obtain ⟨Q,hQ⟩:=Go.Deep.choose_lt hone;refine ⟨(List.range l.length).map Q,by simp,fun i h1 h2=>?_,fun u hu=>?_,fun _=>⟨_,rfl,b,o,rfl,hf,hb,fun j u hj=>?_⟩⟩
  ·rw [List.getElem_map,List.getElem_range];exact (hQ i h1).2 h1
  ·obtain ⟨i,hi,rfl⟩:=List.mem_map.1 hu;have hi:=List.mem_range.1 hi;obtain ⟨_,hn⟩:=(hQ i hi).2 hi;rcases Ax hn with ⟨T,p,e⟩ | e <;> rw [e] <;> rfl
  ·rw [List.getElem?_map] at hj;obtain ⟨i,hi,he⟩:=Option.map_eq_some_iff.1 hj;obtain ⟨hlt,he2⟩:=List.getElem?_eq_some_iff.1 hi;simp at hlt he2;subst he2;rw [←he];exact (hQ j hlt).1
 ·obtain rfl:l=[]:=List.eq_nil_of_length_eq_zero (by omega);exact ⟨[],rfl,fun i h1=>absurd h1 (by simp),fun u hu=>absurd hu (by simp),fun h=>absurd h (by simp)⟩
theorem Au {w:World} {k:Nat} (hk:w.heap.size=k) (v:Value) (t:TypeId):∀ j u,[v][j]?=some u→(w.alloc (.cells #[v] t)).cell? ((⟨k,0,none⟩:Addr).add j)=some u:=by
 subst hk;exact cell_one_new w v t
theorem Bk {w:World} {base:Nat} {e:TypeId} {size:Nat} {v:Value} {n:Nat} {xs:List Value} (h:w.ownsRow base e size v n xs):∀ k,v.ownBlock=some k→base≤k:=fun k hk=>(h.lt k hk).1
theorem Og {F:Nat→Prop} {w:World} {l:List Nd} {a:Option Addr} {cap:Nat} (h:AW F w l a cap):∃ n,Aac F n w l a cap:=by
 have hone:∀ i,i < l.length→∃ n:Nat,∀ (h:i < l.length) (b o:Nat),a=some ⟨b,o,none⟩→∃ u,w.cell? ⟨b,o+i,none⟩=some u∧Ep F n w l[i] u:=fun i hi=>by
  obtain ⟨b,o,rfl,_,_,hx⟩:=h.2.2 (by omega);obtain ⟨u,hu,n,hn⟩:=hx i hi;exact ⟨n,fun _ b' o' e=>by cases e;exact ⟨u,hu,hn⟩⟩
 obtain ⟨Q,hQ⟩:=Go.Deep.choose_lt hone;obtain ⟨N,hN⟩:∃ N,∀ i,i < l.length→Q i≤N:=Go.Deep.fuel_lt (q:=fun i N=>Q i≤N) (fun _ _ _ h h2=>Aed h2 h) fun i _=>⟨_,Aec _⟩
 refine ⟨N,h.1,h.2.1,fun h0=>?_⟩;obtain ⟨b,o,rfl,hf,hb,_⟩:=h.2.2 h0;refine ⟨b,o,rfl,hf,hb,fun i hi=>?_⟩;obtain ⟨u,hu,hn⟩:=hQ i hi hi b o rfl;exact ⟨u,hu,Ep.more _ _ _ _ (hN i hi) hn⟩
theorem Zm {F:Nat→Prop} {w:World} {l:List Nd} {a:Option Addr} {cap:Nat} (h:AW F w l a cap):NdX F w (.cat l) (.iface 98 (.agg #[.slice a l.length cap])):=by
 obtain ⟨n,hn⟩:=Og h;exact ⟨n+1,a,cap,rfl,hn⟩
theorem Zn {F:Nat→Prop} {w:World} {l:List Nd} {a:Option Addr} {cap:Nat} (h:AW F w l a cap):NdX F w (.alt l) (.iface 99 (.agg #[.slice a l.length cap])):=by
 obtain ⟨n,hn⟩:=Og h;exact ⟨n+1,a,cap,rfl,hn⟩
def Oh (G F:Nat→Prop) (w:World) (l:List Nd) (a:Option Addr) (cap:Nat):Prop:=
 l.length≤cap∧cap≤maxLen∧(0 < l.length→∃ b o,a=some ⟨b,o,none⟩∧G b∧b < w.heap.size∧∀ i (h:i < l.length),∃ u,w.cell? ⟨b,o+i,none⟩=some u∧NdX F w l[i] u)
theorem Oi {G F:Nat→Prop} {w:World} {l:List Nd} {a:Option Addr} {cap:Nat} (h:Oh G F w l a cap):Oh G (fun k=>k < w.heap.size∧F k) w l a cap:=
 ⟨h.1,h.2.1,fun h0=>by
  obtain ⟨b,o,e,hG,hl,hx⟩:=h.2.2 h0;exact ⟨b,o,e,hG,hl,fun i hi=>by obtain ⟨u,hu,hn⟩:=hx i hi;exact ⟨u,hu,hn.keep (Aec _) (fun _ hf hlt=>⟨⟨hlt,hf⟩,fun _=>rfl⟩)⟩⟩⟩
theorem RW {G F:Nat→Prop} (l:List Nd) (a:Option Addr) (cap:Nat) (w:World) (h:Oh G F w l a cap) (hsz:(AI l).length≤4000000) :
  Calls Tryz.prog 143 #[.slice a l.length cap] w fun e w'=>∃ v,e=.returned v∧NdX (fun k=>(k < w.heap.size∧F k)∨w.heap.size≤k) w' (Bu l) v∧Below w.heap.size w w':=by
 obtain ⟨i0,hi,hz0,hz1,hz2⟩:=DR;have hin:=Oi h;have hlen:=hin.1;have hl2:=hin.2.1;unfold maxLen at hl2;have Hh:=Ad5 hin.2.2;clear h hin;obtain ⟨J,hJ⟩:∃ J,J=Bu l:=⟨_,rfl⟩;rw [←hJ];have HJ:=Ad5 hJ;clear hJ;go_enter Tryz.func143,Tryz.ntmps143;go_wp2_with fail
 go_loopw [3,11] (fun av i wr=>∃ (k:Nat) (us:List Value) (pv:Value),k≤l.length∧i=.int .i64 k∧pv=av∧NdOw F w.heap.size wr (AI (l.take k)) pv us∧Below w.heap.size w wr) (fun _ i _=>l.length - (intOf i).toNat)
 case atStart=>exact ⟨0,[],_,by omega,rfl,rfl,NdOw.nil _ _ _,Aeh _ _⟩
 case round=>
  obtain ⟨k,us,pv,hk,rfl,hpv,hN,hW⟩:=hrel;subst hpv;by_cases hlt:k < l.length
  ·obtain ⟨b,o,rfl,hfb,hbl,hx⟩:=Hh.out (by omega);obtain ⟨u0,hu0,hxk⟩:=hx k hlt;replace hu0:=(hW.cell (p:=⟨b,o+k,none⟩) hbl).trans hu0;replace hxk:=FO hW hxk;have Htk:=Ad5 (KZ Bm l k hlt);have hm:=Rq Bm l (k+1);rw [Htk.out,Aee] at hm
   change (AI (l.take k)).length+(Bm l[k]).length≤(AI l).length at hm
   clear hx;generalize l[k]=x at *;rcases Ch hxk with ⟨rfl,rfl | rfl⟩ | ⟨s,rfl,rfl⟩ | ⟨l',a',cap',rfl,rfl,hr⟩ | ⟨l',a',cap',rfl,rfl,hr⟩ | ⟨d',mn,mx,u,rfl,rfl,hu⟩ | ⟨num,d',u,rfl,rfl,hu⟩ | ⟨num,rfl,rfl⟩ | ⟨rfl,rfl⟩ | ⟨rfl,rfl⟩
   ·go_wp2_with fail
    go_roundw
    case rel=>exact ⟨k+1,us,_,by omega,by go_num,rfl,by rw [show AI (l.take (k+1))=AI (l.take k) from Htk.out.trans (List.append_nil _)];exact hN,hW⟩
    case measure=>simp [intOf];omega
   ·go_wp2_with fail
    go_roundw
    case rel=>exact ⟨k+1,us,_,by omega,by go_num,rfl,by rw [show AI (l.take (k+1))=AI (l.take k) from Htk.out.trans (List.append_nil _)];exact hN,hW⟩
    case measure=>simp [intOf];omega
   ·have hm1:(AI (l.take k)).length+1≤maxLen:=by unfold maxLen;simp [Bm] at hm;omega
    have hm2:((AI (l.take k)).length+1) * 16≤140737488355328:=by simp [Bm] at hm;omega
    clear hm;go_wp2_with (at_builtin;refine Af _ rfl _ _ 84 rfl w.heap.size 38 i0 .nilIface 1 16 Tryz.underlying84 hi hz0 hz1 hz2 rfl (by decide) _ _ _ rfl (hN.row.alloc _) (some ⟨wr.heap.size,0,none⟩) 1 1 [_] rfl rfl (fun _=>⟨_,rfl,Au (by simp) _ _⟩) (by intro y hy;simp at hy;subst hy;rfl) hm1 hm2 (by have:=hW.size;simp;omega) ?_;intro v3 w3 hown hgrow hat)
    go_roundw
    case rel=>
     have hb3:Below w.heap.size wr w3:=((Aeh _ wr).alloc hW.size _).grown hgrow (by have:=hW.size;simp;omega) (Bk hN.row);exact ⟨k+1,_,_,by omega,by go_num,rfl,by rw [show AI (l.take (k+1))=_ from Htk.out];exact hN.push hb3 rfl (fun i h1 h2=>by simp [Bm] at h1;subst h1;exact hxk) (by intro y hy;simp at hy;subst hy;rfl) hown,hW.trans hb3⟩
    case measure=>simp [intOf];omega
   ·have hm1:(AI (l.take k)).length+l'.length≤maxLen:=by unfold maxLen;simp [Bm] at hm;omega
    have hm2:((AI (l.take k)).length+l'.length) * 16≤140737488355328:=by simp [Bm] at hm;omega
    have hA:=(Aeh wr.heap.size wr).alloc (Aec _) (.cells #[.slice a' l'.length cap'] 98);obtain ⟨news,hnl,hnd,hn1,hnc⟩:=Kb hr;have hnc2:0 < l'.length→∃ ad,a'=some ad∧∀ j u,news[j]?=some u→(wr.alloc (.cells #[.slice a' l'.length cap'] 98)).cell? (ad.add j)=some u:=fun h0=>by
     obtain ⟨ad,h1,b2,o2,rfl,_,hlt2,h2⟩:=hnc h0;exact ⟨_,h1,fun j u hj=>by rw [Go.WideShapes.add_plain];exact (hA.cell (p:=⟨b2,o2+j,none⟩) hlt2).trans (h2 j u hj)⟩
    clear hm hnc;go_wp2_with (at_builtin;refine Af _ rfl _ _ 84 rfl w.heap.size 38 i0 .nilIface 1 16 Tryz.underlying84 hi hz0 hz1 hz2 rfl (by decide) _ _ _ rfl (hN.row.alloc _) a' l'.length cap' news rfl (by omega) hnc2 hn1 hm1 hm2 (by have:=hW.size;simp;omega) ?_;intro v3 w3 hown hgrow hat)
    go_roundw
    case rel=>
     have hb3:Below w.heap.size wr w3:=((Aeh _ wr).alloc hW.size _).grown hgrow (by have:=hW.size;simp;omega) (Bk hN.row);exact ⟨k+1,_,_,by omega,by go_num,rfl,by rw [show AI (l.take (k+1))=_ from Htk.out];exact hN.push hb3 hnl hnd hn1 hown,hW.trans hb3⟩
    case measure=>simp [intOf];omega
   ·have hm1:(AI (l.take k)).length+1≤maxLen:=by unfold maxLen;simp [Bm] at hm;omega
    have hm2:((AI (l.take k)).length+1) * 16≤140737488355328:=by simp [Bm] at hm;omega
    clear hm;go_wp2_with (at_builtin;refine Af _ rfl _ _ 84 rfl w.heap.size 38 i0 .nilIface 1 16 Tryz.underlying84 hi hz0 hz1 hz2 rfl (by decide) _ _ _ rfl (hN.row.alloc _) (some ⟨wr.heap.size,0,none⟩) 1 1 [_] rfl rfl (fun _=>⟨_,rfl,Au (by simp) _ _⟩) (by intro y hy;simp at hy;subst hy;rfl) hm1 hm2 (by have:=hW.size;simp;omega) ?_;intro v3 w3 hown hgrow hat)
    go_roundw
    case rel=>
     have hb3:Below w.heap.size wr w3:=((Aeh _ wr).alloc hW.size _).grown hgrow (by have:=hW.size;simp;omega) (Bk hN.row);exact ⟨k+1,_,_,by omega,by go_num,rfl,by rw [show AI (l.take (k+1))=_ from Htk.out];exact hN.push hb3 rfl (fun i h1 h2=>by simp [Bm] at h1;subst h1;exact hxk) (by intro y hy;simp at hy;subst hy;rfl) hown,hW.trans hb3⟩
    case measure=>simp [intOf];omega
   ·have hm1:(AI (l.take k)).length+1≤maxLen:=by unfold maxLen;simp [Bm] at hm;omega
    have hm2:((AI (l.take k)).length+1) * 16≤140737488355328:=by simp [Bm] at hm;omega
    clear hm;go_wp2_with (at_builtin;refine Af _ rfl _ _ 84 rfl w.heap.size 38 i0 .nilIface 1 16 Tryz.underlying84 hi hz0 hz1 hz2 rfl (by decide) _ _ _ rfl (hN.row.alloc _) (some ⟨wr.heap.size,0,none⟩) 1 1 [_] rfl rfl (fun _=>⟨_,rfl,Au (by simp) _ _⟩) (by intro y hy;simp at hy;subst hy;rfl) hm1 hm2 (by have:=hW.size;simp;omega) ?_;intro v3 w3 hown hgrow hat)
    go_roundw
    case rel=>
     have hb3:Below w.heap.size wr w3:=((Aeh _ wr).alloc hW.size _).grown hgrow (by have:=hW.size;simp;omega) (Bk hN.row);exact ⟨k+1,_,_,by omega,by go_num,rfl,by rw [show AI (l.take (k+1))=_ from Htk.out];exact hN.push hb3 rfl (fun i h1 h2=>by simp [Bm] at h1;subst h1;exact hxk) (by intro y hy;simp at hy;subst hy;rfl) hown,hW.trans hb3⟩
    case measure=>simp [intOf];omega
   ·have hm1:(AI (l.take k)).length+1≤maxLen:=by unfold maxLen;simp [Bm] at hm;omega
    have hm2:((AI (l.take k)).length+1) * 16≤140737488355328:=by simp [Bm] at hm;omega
    clear hm;go_wp2_with (at_builtin;refine Af _ rfl _ _ 84 rfl w.heap.size 38 i0 .nilIface 1 16 Tryz.underlying84 hi hz0 hz1 hz2 rfl (by decide) _ _ _ rfl (hN.row.alloc _) (some ⟨wr.heap.size,0,none⟩) 1 1 [_] rfl rfl (fun _=>⟨_,rfl,Au (by simp) _ _⟩) (by intro y hy;simp at hy;subst hy;rfl) hm1 hm2 (by have:=hW.size;simp;omega) ?_;intro v3 w3 hown hgrow hat)
    go_roundw
    case rel=>
     have hb3:Below w.heap.size wr w3:=((Aeh _ wr).alloc hW.size _).grown hgrow (by have:=hW.size;simp;omega) (Bk hN.row);exact ⟨k+1,_,_,by omega,by go_num,rfl,by rw [show AI (l.take (k+1))=_ from Htk.out];exact hN.push hb3 rfl (fun i h1 h2=>by simp [Bm] at h1;subst h1;exact hxk) (by intro y hy;simp at hy;subst hy;rfl) hown,hW.trans hb3⟩
    case measure=>simp [intOf];omega
   ·have hm1:(AI (l.take k)).length+1≤maxLen:=by unfold maxLen;simp [Bm] at hm;omega
    have hm2:((AI (l.take k)).length+1) * 16≤140737488355328:=by simp [Bm] at hm;omega
    clear hm;go_wp2_with (at_builtin;refine Af _ rfl _ _ 84 rfl w.heap.size 38 i0 .nilIface 1 16 Tryz.underlying84 hi hz0 hz1 hz2 rfl (by decide) _ _ _ rfl (hN.row.alloc _) (some ⟨wr.heap.size,0,none⟩) 1 1 [_] rfl rfl (fun _=>⟨_,rfl,Au (by simp) _ _⟩) (by intro y hy;simp at hy;subst hy;rfl) hm1 hm2 (by have:=hW.size;simp;omega) ?_;intro v3 w3 hown hgrow hat)
    go_roundw
    case rel=>
     have hb3:Below w.heap.size wr w3:=((Aeh _ wr).alloc hW.size _).grown hgrow (by have:=hW.size;simp;omega) (Bk hN.row);exact ⟨k+1,_,_,by omega,by go_num,rfl,by rw [show AI (l.take (k+1))=_ from Htk.out];exact hN.push hb3 rfl (fun i h1 h2=>by simp [Bm] at h1;subst h1;exact hxk) (by intro y hy;simp at hy;subst hy;rfl) hown,hW.trans hb3⟩
    case measure=>simp [intOf];omega
   ·have hm1:(AI (l.take k)).length+1≤maxLen:=by unfold maxLen;simp [Bm] at hm;omega
    have hm2:((AI (l.take k)).length+1) * 16≤140737488355328:=by simp [Bm] at hm;omega
    clear hm;go_wp2_with (at_builtin;refine Af _ rfl _ _ 84 rfl w.heap.size 38 i0 .nilIface 1 16 Tryz.underlying84 hi hz0 hz1 hz2 rfl (by decide) _ _ _ rfl (hN.row.alloc _) (some ⟨wr.heap.size,0,none⟩) 1 1 [_] rfl rfl (fun _=>⟨_,rfl,Au (by simp) _ _⟩) (by intro y hy;simp at hy;subst hy;rfl) hm1 hm2 (by have:=hW.size;simp;omega) ?_;intro v3 w3 hown hgrow hat)
    go_roundw
    case rel=>
     have hb3:Below w.heap.size wr w3:=((Aeh _ wr).alloc hW.size _).grown hgrow (by have:=hW.size;simp;omega) (Bk hN.row);exact ⟨k+1,_,_,by omega,by go_num,rfl,by rw [show AI (l.take (k+1))=_ from Htk.out];exact hN.push hb3 rfl (fun i h1 h2=>by simp [Bm] at h1;subst h1;exact hxk) (by intro y hy;simp at hy;subst hy;rfl) hown,hW.trans hb3⟩
    case measure=>simp [intOf];omega
   ·have hm1:(AI (l.take k)).length+1≤maxLen:=by unfold maxLen;simp [Bm] at hm;omega
    have hm2:((AI (l.take k)).length+1) * 16≤140737488355328:=by simp [Bm] at hm;omega
    clear hm;go_wp2_with (at_builtin;refine Af _ rfl _ _ 84 rfl w.heap.size 38 i0 .nilIface 1 16 Tryz.underlying84 hi hz0 hz1 hz2 rfl (by decide) _ _ _ rfl (hN.row.alloc _) (some ⟨wr.heap.size,0,none⟩) 1 1 [_] rfl rfl (fun _=>⟨_,rfl,Au (by simp) _ _⟩) (by intro y hy;simp at hy;subst hy;rfl) hm1 hm2 (by have:=hW.size;simp;omega) ?_;intro v3 w3 hown hgrow hat)
    go_roundw
    case rel=>
     have hb3:Below w.heap.size wr w3:=((Aeh _ wr).alloc hW.size _).grown hgrow (by have:=hW.size;simp;omega) (Bk hN.row);exact ⟨k+1,_,_,by omega,by go_num,rfl,by rw [show AI (l.take (k+1))=_ from Htk.out];exact hN.push hb3 rfl (fun i h1 h2=>by simp [Bm] at h1;subst h1;exact hxk) (by intro y hy;simp at hy;subst hy;rfl) hown,hW.trans hb3⟩
    case measure=>simp [intOf];omega
  ·obtain rfl:k=l.length:=by omega
   rw [List.take_length] at hN;clear Hh hlt;clear hsz;generalize hm:AI l=m at hN;have hJm:∀ m',m=m'→J=(match m' with | []=>.empty | [d]=>d | ds=>.cat ds):=fun m' e=>by rw [HJ.out,←e,←hm];rfl
   clear HJ hm
   match m,hN with
   | [],hN=>
    obtain rfl:J=.empty:=hJm _ rfl;clear hJm;obtain ⟨a3,c3,rfl,_⟩:=hN.parts;go_wp2_with fail
    go_ret;exact ⟨_,rfl,⟨1,.inl rfl⟩,hW⟩
   | [d],hN=>
    obtain rfl:J=d:=hJm _ rfl;clear hJm;obtain ⟨a3,c3,rfl,hp⟩:=hN.parts;obtain ⟨b3,o3,rfl,_,hb3,hx3⟩:=hp.2.2 (by simp);obtain ⟨u3,hu3,hd3⟩:=hx3 0 (by simp);rw [Nat.add_zero] at hu3;clear hN hx3;go_wp2_with fail
    go_ret;exact ⟨_,rfl,hd3,hW⟩
   | d :: d2 :: ds,hN=>
    have hJ3:J=.cat (d :: d2 :: ds):=hJm _ rfl;clear hJm;obtain ⟨a3,c3,rfl,hp⟩:=hN.parts;have e0:((((d :: d2 :: ds).length:Nat):Int) == 0)=false:=by rw [beq_eq_false_iff_ne];simp;omega
    have e1:((((d :: d2 :: ds).length:Nat):Int) == 1)=false:=by rw [beq_eq_false_iff_ne];simp;omega
    generalize d :: d2 :: ds=m at *;have HJ3:=Ad5 hJ3;clear hN hJ3;go_wp2_with fail
    go_ret;exact ⟨_,rfl,by rw [HJ3.out];exact Zm hp,hW⟩
theorem RX {F:Nat→Prop} (l:List Nd) (a:Option Addr) (cap:Nat) (w:World) (h:AW F w l a cap) (hsz:(AI l).length≤4000000) :
  Calls Tryz.prog 143 #[.slice a l.length cap] w fun e w'=>∃ v,e=.returned v∧NdX (fun k=>(k < w.heap.size∧F k)∨w.heap.size≤k) w' (Bu l) v∧Below w.heap.size w w':=RW (G:=F) l a cap w h hsz
theorem L3 {G F:Nat→Prop} (l:List Nd) (a:Option Addr) (cap:Nat) (w:World) (h:Oh G F w l a cap) (hsz:(AJ l).length≤4000000) :
  Calls Tryz.prog 128 #[.slice a l.length cap] w fun e w'=>∃ v,e=.returned v∧NdX (fun k=>(k < w.heap.size∧F k)∨w.heap.size≤k) w' (Cl l) v∧Below w.heap.size w w':=by
 obtain ⟨i0,hi,hz0,hz1,hz2⟩:=DR;have hin:=Oi h;have hlen:=hin.1;have hl2:=hin.2.1;unfold maxLen at hl2;have Hh:=Ad5 hin.2.2;clear h hin;obtain ⟨J,hJ⟩:∃ J,J=Cl l:=⟨_,rfl⟩;rw [←hJ];have HJ:=Ad5 hJ;clear hJ;go_enter Tryz.func128,Tryz.ntmps128;go_wp2_with fail
 go_loopw [3,10] (fun av i wr=>∃ (k:Nat) (us:List Value) (pv:Value),k≤l.length∧i=.int .i64 k∧pv=av∧NdOw F w.heap.size wr (AJ (l.take k)) pv us∧Below w.heap.size w wr) (fun _ i _=>l.length - (intOf i).toNat)
 case atStart=>exact ⟨0,[],_,by omega,rfl,rfl,NdOw.nil _ _ _,Aeh _ _⟩
 case round=>
  obtain ⟨k,us,pv,hk,rfl,hpv,hN,hW⟩:=hrel;subst hpv;by_cases hlt:k < l.length
  ·obtain ⟨b,o,rfl,hfb,hbl,hx⟩:=Hh.out (by omega);obtain ⟨u0,hu0,hxk⟩:=hx k hlt;replace hu0:=(hW.cell (p:=⟨b,o+k,none⟩) hbl).trans hu0;replace hxk:=FO hW hxk;have Htk:=Ad5 (KZ AP l k hlt);have hm:=Rq AP l (k+1);rw [Htk.out,Aee] at hm
   change (AJ (l.take k)).length+(AP l[k]).length≤(AJ l).length at hm
   clear hx;generalize l[k]=x at *;rcases Ch hxk with ⟨rfl,rfl | rfl⟩ | ⟨s,rfl,rfl⟩ | ⟨l',a',cap',rfl,rfl,hr⟩ | ⟨l',a',cap',rfl,rfl,hr⟩ | ⟨d',mn,mx,u,rfl,rfl,hu⟩ | ⟨num,d',u,rfl,rfl,hu⟩ | ⟨num,rfl,rfl⟩ | ⟨rfl,rfl⟩ | ⟨rfl,rfl⟩
   ·have hm1:(AJ (l.take k)).length+1≤maxLen:=by unfold maxLen;simp [AP] at hm;omega
    have hm2:((AJ (l.take k)).length+1) * 16≤140737488355328:=by simp [AP] at hm;omega
    clear hm;go_wp2_with (at_builtin;refine Af _ rfl _ _ 84 rfl w.heap.size 38 i0 .nilIface 1 16 Tryz.underlying84 hi hz0 hz1 hz2 rfl (by decide) _ _ _ rfl ((hN.row.alloc _).alloc _) (some ⟨wr.heap.size+1,0,none⟩) 1 1 [_] rfl rfl (fun _=>⟨_,rfl,Au (by simp) _ _⟩) (by intro y hy;simp at hy;subst hy;rfl) hm1 hm2 (by have:=hW.size;simp;omega) ?_;intro v3 w3 hown hgrow hat)
    go_roundw
    case rel=>
     have hb3:Below w.heap.size wr w3:=(((Aeh _ wr).alloc hW.size _).alloc (by have:=hW.size;simp;omega) _).grown hgrow (by have:=hW.size;simp;omega) (Bk hN.row);exact ⟨k+1,_,_,by omega,by go_num,rfl,by rw [show AJ (l.take (k+1))=_ from Htk.out];exact hN.push hb3 rfl (fun i h1 h2=>by simp [AP] at h1;subst h1;exact hxk) (by intro y hy;simp at hy;subst hy;rfl) hown,hW.trans hb3⟩
    case measure=>simp [intOf];omega
   ·have hm1:(AJ (l.take k)).length+1≤maxLen:=by unfold maxLen;simp [AP] at hm;omega
    have hm2:((AJ (l.take k)).length+1) * 16≤140737488355328:=by simp [AP] at hm;omega
    clear hm;go_wp2_with (at_builtin;refine Af _ rfl _ _ 84 rfl w.heap.size 38 i0 .nilIface 1 16 Tryz.underlying84 hi hz0 hz1 hz2 rfl (by decide) _ _ _ rfl ((hN.row.alloc _).alloc _) (some ⟨wr.heap.size+1,0,none⟩) 1 1 [_] rfl rfl (fun _=>⟨_,rfl,Au (by simp) _ _⟩) (by intro y hy;simp at hy;subst hy;rfl) hm1 hm2 (by have:=hW.size;simp;omega) ?_;intro v3 w3 hown hgrow hat)
    go_roundw
    case rel=>
     have hb3:Below w.heap.size wr w3:=(((Aeh _ wr).alloc hW.size _).alloc (by have:=hW.size;simp;omega) _).grown hgrow (by have:=hW.size;simp;omega) (Bk hN.row);exact ⟨k+1,_,_,by omega,by go_num,rfl,by rw [show AJ (l.take (k+1))=_ from Htk.out];exact hN.push hb3 rfl (fun i h1 h2=>by simp [AP] at h1;subst h1;exact hxk) (by intro y hy;simp at hy;subst hy;rfl) hown,hW.trans hb3⟩
    case measure=>simp [intOf];omega
   ·have hm1:(AJ (l.take k)).length+1≤maxLen:=by unfold maxLen;simp [AP] at hm;omega
    have hm2:((AJ (l.take k)).length+1) * 16≤140737488355328:=by simp [AP] at hm;omega
    clear hm;go_wp2_with (at_builtin;refine Af _ rfl _ _ 84 rfl w.heap.size 38 i0 .nilIface 1 16 Tryz.underlying84 hi hz0 hz1 hz2 rfl (by decide) _ _ _ rfl ((hN.row.alloc _).alloc _) (some ⟨wr.heap.size+1,0,none⟩) 1 1 [_] rfl rfl (fun _=>⟨_,rfl,Au (by simp) _ _⟩) (by intro y hy;simp at hy;subst hy;rfl) hm1 hm2 (by have:=hW.size;simp;omega) ?_;intro v3 w3 hown hgrow hat)
    go_roundw
    case rel=>
     have hb3:Below w.heap.size wr w3:=(((Aeh _ wr).alloc hW.size _).alloc (by have:=hW.size;simp;omega) _).grown hgrow (by have:=hW.size;simp;omega) (Bk hN.row);exact ⟨k+1,_,_,by omega,by go_num,rfl,by rw [show AJ (l.take (k+1))=_ from Htk.out];exact hN.push hb3 rfl (fun i h1 h2=>by simp [AP] at h1;subst h1;exact hxk) (by intro y hy;simp at hy;subst hy;rfl) hown,hW.trans hb3⟩
    case measure=>simp [intOf];omega
   ·have hm1:(AJ (l.take k)).length+1≤maxLen:=by unfold maxLen;simp [AP] at hm;omega
    have hm2:((AJ (l.take k)).length+1) * 16≤140737488355328:=by simp [AP] at hm;omega
    clear hm;go_wp2_with (at_builtin;refine Af _ rfl _ _ 84 rfl w.heap.size 38 i0 .nilIface 1 16 Tryz.underlying84 hi hz0 hz1 hz2 rfl (by decide) _ _ _ rfl ((hN.row.alloc _).alloc _) (some ⟨wr.heap.size+1,0,none⟩) 1 1 [_] rfl rfl (fun _=>⟨_,rfl,Au (by simp) _ _⟩) (by intro y hy;simp at hy;subst hy;rfl) hm1 hm2 (by have:=hW.size;simp;omega) ?_;intro v3 w3 hown hgrow hat)
    go_roundw
    case rel=>
     have hb3:Below w.heap.size wr w3:=(((Aeh _ wr).alloc hW.size _).alloc (by have:=hW.size;simp;omega) _).grown hgrow (by have:=hW.size;simp;omega) (Bk hN.row);exact ⟨k+1,_,_,by omega,by go_num,rfl,by rw [show AJ (l.take (k+1))=_ from Htk.out];exact hN.push hb3 rfl (fun i h1 h2=>by simp [AP] at h1;subst h1;exact hxk) (by intro y hy;simp at hy;subst hy;rfl) hown,hW.trans hb3⟩
    case measure=>simp [intOf];omega
   ·have hm1:(AJ (l.take k)).length+l'.length≤maxLen:=by unfold maxLen;simp [AP] at hm;omega
    have hm2:((AJ (l.take k)).length+l'.length) * 16≤140737488355328:=by simp [AP] at hm;omega
    have hA:=(Aeh wr.heap.size wr).alloc (Aec _) (.cells #[.slice a' l'.length cap'] 99);obtain ⟨news,hnl,hnd,hn1,hnc⟩:=Kb hr;have hnc2:0 < l'.length→∃ ad,a'=some ad∧∀ j u,news[j]?=some u→(wr.alloc (.cells #[.slice a' l'.length cap'] 99)).cell? (ad.add j)=some u:=fun h0=>by
     obtain ⟨ad,h1,b2,o2,rfl,_,hlt2,h2⟩:=hnc h0;exact ⟨_,h1,fun j u hj=>by rw [Go.WideShapes.add_plain];exact (hA.cell (p:=⟨b2,o2+j,none⟩) hlt2).trans (h2 j u hj)⟩
    clear hm hnc;go_wp2_with (at_builtin;refine Af _ rfl _ _ 84 rfl w.heap.size 38 i0 .nilIface 1 16 Tryz.underlying84 hi hz0 hz1 hz2 rfl (by decide) _ _ _ rfl (hN.row.alloc _) a' l'.length cap' news rfl (by omega) hnc2 hn1 hm1 hm2 (by have:=hW.size;simp;omega) ?_;intro v3 w3 hown hgrow hat)
    go_roundw
    case rel=>
     have hb3:Below w.heap.size wr w3:=((Aeh _ wr).alloc hW.size _).grown hgrow (by have:=hW.size;simp;omega) (Bk hN.row);exact ⟨k+1,_,_,by omega,by go_num,rfl,by rw [show AJ (l.take (k+1))=_ from Htk.out];exact hN.push hb3 hnl hnd hn1 hown,hW.trans hb3⟩
    case measure=>simp [intOf];omega
   ·have hm1:(AJ (l.take k)).length+1≤maxLen:=by unfold maxLen;simp [AP] at hm;omega
    have hm2:((AJ (l.take k)).length+1) * 16≤140737488355328:=by simp [AP] at hm;omega
    clear hm;go_wp2_with (at_builtin;refine Af _ rfl _ _ 84 rfl w.heap.size 38 i0 .nilIface 1 16 Tryz.underlying84 hi hz0 hz1 hz2 rfl (by decide) _ _ _ rfl ((hN.row.alloc _).alloc _) (some ⟨wr.heap.size+1,0,none⟩) 1 1 [_] rfl rfl (fun _=>⟨_,rfl,Au (by simp) _ _⟩) (by intro y hy;simp at hy;subst hy;rfl) hm1 hm2 (by have:=hW.size;simp;omega) ?_;intro v3 w3 hown hgrow hat)
    go_roundw
    case rel=>
     have hb3:Below w.heap.size wr w3:=(((Aeh _ wr).alloc hW.size _).alloc (by have:=hW.size;simp;omega) _).grown hgrow (by have:=hW.size;simp;omega) (Bk hN.row);exact ⟨k+1,_,_,by omega,by go_num,rfl,by rw [show AJ (l.take (k+1))=_ from Htk.out];exact hN.push hb3 rfl (fun i h1 h2=>by simp [AP] at h1;subst h1;exact hxk) (by intro y hy;simp at hy;subst hy;rfl) hown,hW.trans hb3⟩
    case measure=>simp [intOf];omega
   ·have hm1:(AJ (l.take k)).length+1≤maxLen:=by unfold maxLen;simp [AP] at hm;omega
    have hm2:((AJ (l.take k)).length+1) * 16≤140737488355328:=by simp [AP] at hm;omega
    clear hm;go_wp2_with (at_builtin;refine Af _ rfl _ _ 84 rfl w.heap.size 38 i0 .nilIface 1 16 Tryz.underlying84 hi hz0 hz1 hz2 rfl (by decide) _ _ _ rfl ((hN.row.alloc _).alloc _) (some ⟨wr.heap.size+1,0,none⟩) 1 1 [_] rfl rfl (fun _=>⟨_,rfl,Au (by simp) _ _⟩) (by intro y hy;simp at hy;subst hy;rfl) hm1 hm2 (by have:=hW.size;simp;omega) ?_;intro v3 w3 hown hgrow hat)
    go_roundw
    case rel=>
     have hb3:Below w.heap.size wr w3:=(((Aeh _ wr).alloc hW.size _).alloc (by have:=hW.size;simp;omega) _).grown hgrow (by have:=hW.size;simp;omega) (Bk hN.row);exact ⟨k+1,_,_,by omega,by go_num,rfl,by rw [show AJ (l.take (k+1))=_ from Htk.out];exact hN.push hb3 rfl (fun i h1 h2=>by simp [AP] at h1;subst h1;exact hxk) (by intro y hy;simp at hy;subst hy;rfl) hown,hW.trans hb3⟩
    case measure=>simp [intOf];omega
   ·have hm1:(AJ (l.take k)).length+1≤maxLen:=by unfold maxLen;simp [AP] at hm;omega
    have hm2:((AJ (l.take k)).length+1) * 16≤140737488355328:=by simp [AP] at hm;omega
    clear hm;go_wp2_with (at_builtin;refine Af _ rfl _ _ 84 rfl w.heap.size 38 i0 .nilIface 1 16 Tryz.underlying84 hi hz0 hz1 hz2 rfl (by decide) _ _ _ rfl ((hN.row.alloc _).alloc _) (some ⟨wr.heap.size+1,0,none⟩) 1 1 [_] rfl rfl (fun _=>⟨_,rfl,Au (by simp) _ _⟩) (by intro y hy;simp at hy;subst hy;rfl) hm1 hm2 (by have:=hW.size;simp;omega) ?_;intro v3 w3 hown hgrow hat)
    go_roundw
    case rel=>
     have hb3:Below w.heap.size wr w3:=(((Aeh _ wr).alloc hW.size _).alloc (by have:=hW.size;simp;omega) _).grown hgrow (by have:=hW.size;simp;omega) (Bk hN.row);exact ⟨k+1,_,_,by omega,by go_num,rfl,by rw [show AJ (l.take (k+1))=_ from Htk.out];exact hN.push hb3 rfl (fun i h1 h2=>by simp [AP] at h1;subst h1;exact hxk) (by intro y hy;simp at hy;subst hy;rfl) hown,hW.trans hb3⟩
    case measure=>simp [intOf];omega
   ·have hm1:(AJ (l.take k)).length+1≤maxLen:=by unfold maxLen;simp [AP] at hm;omega
    have hm2:((AJ (l.take k)).length+1) * 16≤140737488355328:=by simp [AP] at hm;omega
    clear hm;go_wp2_with (at_builtin;refine Af _ rfl _ _ 84 rfl w.heap.size 38 i0 .nilIface 1 16 Tryz.underlying84 hi hz0 hz1 hz2 rfl (by decide) _ _ _ rfl ((hN.row.alloc _).alloc _) (some ⟨wr.heap.size+1,0,none⟩) 1 1 [_] rfl rfl (fun _=>⟨_,rfl,Au (by simp) _ _⟩) (by intro y hy;simp at hy;subst hy;rfl) hm1 hm2 (by have:=hW.size;simp;omega) ?_;intro v3 w3 hown hgrow hat)
    go_roundw
    case rel=>
     have hb3:Below w.heap.size wr w3:=(((Aeh _ wr).alloc hW.size _).alloc (by have:=hW.size;simp;omega) _).grown hgrow (by have:=hW.size;simp;omega) (Bk hN.row);exact ⟨k+1,_,_,by omega,by go_num,rfl,by rw [show AJ (l.take (k+1))=_ from Htk.out];exact hN.push hb3 rfl (fun i h1 h2=>by simp [AP] at h1;subst h1;exact hxk) (by intro y hy;simp at hy;subst hy;rfl) hown,hW.trans hb3⟩
    case measure=>simp [intOf];omega
   ·have hm1:(AJ (l.take k)).length+1≤maxLen:=by unfold maxLen;simp [AP] at hm;omega
    have hm2:((AJ (l.take k)).length+1) * 16≤140737488355328:=by simp [AP] at hm;omega
    clear hm;go_wp2_with (at_builtin;refine Af _ rfl _ _ 84 rfl w.heap.size 38 i0 .nilIface 1 16 Tryz.underlying84 hi hz0 hz1 hz2 rfl (by decide) _ _ _ rfl ((hN.row.alloc _).alloc _) (some ⟨wr.heap.size+1,0,none⟩) 1 1 [_] rfl rfl (fun _=>⟨_,rfl,Au (by simp) _ _⟩) (by intro y hy;simp at hy;subst hy;rfl) hm1 hm2 (by have:=hW.size;simp;omega) ?_;intro v3 w3 hown hgrow hat)
    go_roundw
    case rel=>
     have hb3:Below w.heap.size wr w3:=(((Aeh _ wr).alloc hW.size _).alloc (by have:=hW.size;simp;omega) _).grown hgrow (by have:=hW.size;simp;omega) (Bk hN.row);exact ⟨k+1,_,_,by omega,by go_num,rfl,by rw [show AJ (l.take (k+1))=_ from Htk.out];exact hN.push hb3 rfl (fun i h1 h2=>by simp [AP] at h1;subst h1;exact hxk) (by intro y hy;simp at hy;subst hy;rfl) hown,hW.trans hb3⟩
    case measure=>simp [intOf];omega
  ·obtain rfl:k=l.length:=by omega
   rw [List.take_length] at hN;clear Hh hlt;clear hsz;generalize hm:AJ l=m at hN;have hJm:∀ m',m=m'→J=(match m' with | []=>.empty | [d]=>d | ds=>.alt ds):=fun m' e=>by rw [HJ.out,←e,←hm];rfl
   clear HJ hm
   match m,hN with
   | [],hN=>
    obtain rfl:J=.empty:=hJm _ rfl;clear hJm;obtain ⟨a3,c3,rfl,_⟩:=hN.parts;go_wp2_with fail
    go_ret;exact ⟨_,rfl,⟨1,.inl rfl⟩,hW⟩
   | [d],hN=>
    obtain rfl:J=d:=hJm _ rfl;clear hJm;obtain ⟨a3,c3,rfl,hp⟩:=hN.parts;obtain ⟨b3,o3,rfl,_,hb3,hx3⟩:=hp.2.2 (by simp);obtain ⟨u3,hu3,hd3⟩:=hx3 0 (by simp);rw [Nat.add_zero] at hu3;clear hN hx3;go_wp2_with fail
    go_ret;exact ⟨_,rfl,hd3,hW⟩
   | d :: d2 :: ds,hN=>
    have hJ3:J=.alt (d :: d2 :: ds):=hJm _ rfl;clear hJm;obtain ⟨a3,c3,rfl,hp⟩:=hN.parts;have e0:((((d :: d2 :: ds).length:Nat):Int) == 0)=false:=by rw [beq_eq_false_iff_ne];simp;omega
    have e1:((((d :: d2 :: ds).length:Nat):Int) == 1)=false:=by rw [beq_eq_false_iff_ne];simp;omega
    generalize d :: d2 :: ds=m at *;have HJ3:=Ad5 hJ3;clear hN hJ3;go_wp2_with fail
    go_ret;exact ⟨_,rfl,by rw [HJ3.out];exact Zn hp,hW⟩
theorem Tx {F:Nat→Prop} (l:List Nd) (a:Option Addr) (cap:Nat) (w:World) (h:AW F w l a cap) (hsz:(AJ l).length≤4000000) :
  Calls Tryz.prog 128 #[.slice a l.length cap] w fun e w'=>∃ v,e=.returned v∧NdX (fun k=>(k < w.heap.size∧F k)∨w.heap.size≤k) w' (Cl l) v∧Below w.heap.size w w':=L3 (G:=F) l a cap w h hsz
theorem Ji {s:List UInt8} {k:Nat} (h:AC s k=false):k < s.length:=by
 unfold AC at h;simp only [Bool.or_eq_false_iff,decide_eq_false_iff_not] at h;omega
theorem Wt {B p:Nat} {s:ByteArray} {st:ReSt} {es:List Bool} {dep:Nat} {mv cv:Value} (w:World) (h:Rd B p w s st es dep mv cv) (hen:AC s.data.toList st.pos=false) (front:Bool) (hfr:front=true∨repAt false s.data.toList st.pos=.none)
  (sub:Option (ReSt→ReRes (ReSt × Nd))) (hG:Gl w) (hB:glN≤B) (hgr:E6 B p s st es dep sub) :
  Calls Tryz.prog 154 #[.pointer (some ⟨p,0,none⟩)] w fun e w'=>BJ (D8 s.data.toList sub front st) B p s dep mv cv w e w':=by
 have hsl:s.data.toList.length=s.size:=by simp
 have hlt:=Ji hen;rw [hsl] at hlt;by_cases h92:byt s.data.toList st.pos=92
 ·exact Tt w h hlt h92 front hfr hen sub hG hB hgr
 ·rw [Oe h92];by_cases h91:byt s.data.toList st.pos=91
  ·rw [MQ (by omega) h91,if_pos rfl];exact Wq w h hlt h91 hG hB
  ·rw [BD h91];simp only [Bool.false_eq_true,if_false];by_cases h46:byt s.data.toList st.pos=46
   ·rw [MQ (by omega) h46,if_pos rfl];exact Wo w h hlt h46
   ·rw [BD h46];simp only [Bool.false_eq_true,if_false];exact Qj w h hlt h46 h91 h92
theorem L4 {B p:Nat} {s:ByteArray} {st:ReSt} {es:List Bool} {dep:Nat} {mv cv:Value} (w:World) (h:Rd B p w s st es dep mv cv) (hen:AC s.data.toList st.pos=false) (front:Bool) (hfr:front=true∨repAt false s.data.toList st.pos=.none)
  (sub:Option (ReSt→ReRes (ReSt × Nd))) (hG:Gl w) (hB:glN≤B) (hgr:E6 B p s st es dep sub) :
  Calls Tryz.prog 142 #[.pointer (some ⟨p,0,none⟩)] w fun e w'=>BJ (FN s.data.toList sub front st) B p s dep mv cv w e w':=by
 have hsl:s.data.toList.length=s.size:=by simp
 have hlt:=Ji hen;rw [hsl] at hlt;unfold FN;cases hq:(chAt s.data.toList st.pos 36 && AC s.data.toList (st.pos+1)) with
 | true=>exact Tw w h hlt hq
 | false=>
  exact Qk w h hlt hq _ (fun n=>Wt (w.drewN n) (h.below (below_drewN (Aeh _ _) n)) hen front hfr sub (hG.up (below_drewN (Aeh _ _) n)) hB hgr)
theorem Kc (s:List UInt8) (sub:Option (ReSt→ReRes (ReSt × Nd))) (hmv:D7 s sub) (hok:GX sub) (front:Bool) (st st':ReSt) (d:Nd) (hl:st.pos < s.length) (h:FN s sub front st=.ok (st',d)) :
  st.pos < st'.pos∧inCat d=true∧((chAt s st.pos 36 && AC s (st.pos+1))=true∨repAt false s st'.pos=.none):=by
 unfold FN at h;split at h
 ·rename_i hq;injection h with h;injection h with h1 h2;subst h1 h2;exact ⟨show st.pos < st.pos+1 by omega,rfl,.inl hq⟩
 ·unfold Ka at h;split at h
  ·cases h
  ·rename_i q hq;obtain ⟨st1,d1⟩:=q;unfold D8 at hq;split at hq
   ·cases hq
   ·have h1:=DJ _ _ _ hmv _ _ _ hl hq;have h2:=Fe _ _ _ hok _ _ _ hq;have h3:=Gd _ _ _ _ _ _ _ h1.2 h;have h4:=JC _ _ _ _ _ _ _ st h2.1 h2.2.1 h2.2.2 h;exact ⟨by omega,h4.2,.inr (Nx _ _ _ _ _ _ _ h)⟩
theorem MR (s:List UInt8) (sub:Option (ReSt→ReRes (ReSt × Nd))) (n:Nat) (st:ReSt) (h:AC s st.pos=false) (h94:chAt s st.pos 94=true):branchM false s sub false st.pos (n+1) st [] true=branchM false s sub false st.pos n (st.to (st.pos+1)) [.start] true:=by
 rw [branchM];unfold AC at h;simp only [A2,Bool.false_eq_true,if_false,Bool.not_false,Bool.and_true];rw [h,h94];simp
structure NdRO (lo p:Nat) (mv cv:Value) (w:World) (l:List Nd) (v:Value) (us:List Value):Prop where
 len:us.length=l.length
 row:w.ownsRow lo 38 1 v l.length us
 nd:∀ i (h:i < l.length) (h2:i < us.length),NdX (fun b=>lo≤b∧OffR p mv cv b∧v.ownBlock≠some b) w l[i] us[i]
 one:∀ u∈us,u.oneCell'=true
 off:∀ b,v.ownBlock=some b→OffR p mv cv b
theorem NdRO.nil (lo p:Nat) (mv cv:Value) (w:World):NdRO lo p mv cv w [] (.slice none 0 0) []:=
 ⟨rfl,World.ownsRow_nil _ _ _ _,fun i h=>absurd h (by simp),fun u h=>absurd h (by simp),fun b h=>by simp [Value.ownBlock] at h⟩
theorem NdRO.step {lo p:Nat} {mv cv mv' cv':Value} {w w':World} {l:List Nd} {v:Value} {us:List Value} (h:NdRO lo p mv cv w l v us) (hS:RStep p w mv cv w' mv' cv'):NdRO lo p mv' cv' w' l v us:=by
 have hoff:=h.off;refine ⟨h.len,?_,fun i h1 h2=>(h.nd i h1 h2).keep hS.size (fun b hb hlt=>⟨⟨hb.1,(hS.keep b hb.2.1 hlt).1,hb.2.2⟩,(hS.keep b hb.2.1 hlt).2⟩),h.one,fun b hb=>?_⟩
 ·obtain ⟨h1,h2⟩:=h.row;refine ⟨h1,?_⟩;rcases h2 with h2 | ⟨g,cap,cur,a,b,c,d⟩
  ·exact .inl h2
  ·have ho:=hoff g (by rw [a];rfl);exact .inr ⟨g,cap,cur,a,b,by rw [(hS.block g (Array.getElem?_eq_some_iff.1 c).1 ho.1 ho.2.1 ho.2.2).1];exact c,d⟩
 ·exact (hS.keep b (h.off b hb) (h.row.lt b hb).2).1
theorem Rd.grown {B p:Nat} {w w':World} {s:ByteArray} {st:ReSt} {es:List Bool} {dep:Nat} {mv cv:Value} {row:Option Nat} (h:Rd B p w s st es dep mv cv) (hg:w.grownBy w' row) (hrow:∀ b,row=some b→OffR p mv cv b):Rd B p w' s st es dep mv cv:=by
 have hne:∀ v:Value,(∀ b,row=some b→v.ownBlock≠some b)→v.ownBlock=none∨v.ownBlock≠row:=fun v hv=>by
  rcases hr:v.ownBlock with _ | b
  ·exact .inl rfl
  ·refine .inr (fun e=>?_);exact hv b e.symm hr
 refine { h with blk:=?_,mo:=h.mo.kept hg (hne _ fun b hb=>(hrow b hb).2.1),co:=h.co.kept hg (hne _ fun b hb=>(hrow b hb).2.2) };have h1:=h.blk;unfold Blk at h1 ⊢;rw [hg.block p h.blk.lt (fun e=>(hrow p e.symm).1 rfl)];exact h1
theorem RStep.after {p:Nat} {w w1 w2:World} {mv cv mv1 cv1:Value} (h:RStep p w mv cv w1 mv1 cv1) (hb:Below w.heap.size w1 w2):RStep p w mv cv w2 mv1 cv1:=
 ⟨hb.os.trans h.os,hb.tape.trans h.tape,hb.output.trans h.output,Aed h.size hb.size,fun b hlt h1 h2 h3=>by
  obtain ⟨e1,e2,e3⟩:=h.block b hlt h1 h2 h3;exact ⟨(hb.block b hlt).trans e1,e2,e3⟩⟩
theorem NdRO.push {B lo p:Nat} {mv cv:Value} {w w':World} {l:List Nd} {v v':Value} {us:List Value} {d:Nd} {u:Value} {s:ByteArray} {st:ReSt} {es:List Bool} {dep:Nat} (h:NdRO lo p mv cv w l v us) (hR:Rd B p w s st es dep mv cv)
  (hu:NdX (fun b=>lo≤b∧OffR p mv cv b∧v.ownBlock≠some b) w d u) (hu1:u.oneCell'=true) (hown:w'.ownsRow lo 38 1 v' (l.length+1) (us++[u])) (hg:w.grownBy w' v.ownBlock) (hat:v'.ownBlock=v.ownBlock∨v'.ownBlock=some w.heap.size):NdRO lo p mv cv w' (l++[d]) v' (us++[u]):=by
 have hpl:=hR.blk.lt;have hml:=fun b hb=>AB hR.mo b hb
 have hcl:=fun b hb=>AB hR.co b hb
 have hk:∀ d u,NdX (fun b=>lo≤b∧OffR p mv cv b∧v.ownBlock≠some b) w d u→NdX (fun b=>lo≤b∧OffR p mv cv b∧v'.ownBlock≠some b) w' d u:=fun d u hd=>
  hd.keep hg.size (fun b hf hlt=>⟨⟨hf.1,hf.2.1,by
   rcases hat with e | e
   ·rw [e];exact hf.2.2
   ·rw [e];intro he;injection he with he;omega⟩,fun o=>Aek (w:=w) (a:=⟨b,o,none⟩) (hg.block b hlt (fun e=>hf.2.2 e.symm))⟩)
 refine ⟨by simp [h.len],by rw [Aee];exact hown,fun i h1 h2=>?_,fun x hx=>?_,fun b hb=>?_⟩
 ·by_cases hi:i < l.length
  ·rw [List.getElem_append_left hi,List.getElem_append_left (by rw [h.len];exact hi)];exact hk _ _ (h.nd i hi (by rw [h.len];exact hi))
  ·have hie:i=l.length:=by simp at h1;omega
   subst hie;rw [List.getElem_append_right (Aec _),List.getElem_append_right (by rw [h.len];exact Aec _)];simp [h.len];exact hk _ _ hu
 ·rcases Aem.1 hx with hx | hx
  ·exact h.one x hx
  ·simp at hx;subst hx;exact hu1
 ·rcases hat with e | e
  ·exact h.off b (e▸hb)
  ·rw [e] at hb;injection hb with hb;subst hb;exact ⟨by omega,fun hm=>by have:=hml _ hm;omega,fun hm=>by have:=hcl _ hm;omega⟩
theorem NdRO.parts {lo p:Nat} {mv cv:Value} {w:World} {l:List Nd} {v:Value} {us:List Value} (h:NdRO lo p mv cv w l v us):∃ a cap,v=.slice a l.length cap∧AW (fun b=>lo≤b∧OffR p mv cv b) w l a cap:=by
 have hr:=h.row;have hoff:=h.off;obtain ⟨_,h2⟩:=h.row;rcases h2 with ⟨rfl,h0⟩ | ⟨g,cap,cur,rfl,hg,hh,hn,hcap,hcs,htk⟩
 ·exact ⟨none,0,by rw [h0],by omega,by decide,fun h=>by omega⟩
 ·refine ⟨_,_,rfl,hn,hcap,fun h0=>⟨g,0,rfl,⟨hg,hoff g rfl⟩,(Array.getElem?_eq_some_iff.1 hh).1,fun i hi=>?_⟩⟩;have hiu:i < us.length:=by rw [h.len];exact hi
  refine ⟨us[i],?_,(h.nd i hi hiu).keep (Aec _) (fun b hb _=>⟨⟨hb.1,hb.2.1⟩,fun _=>rfl⟩)⟩;rw [Nat.zero_add,hr.cellAt i (by omega),List.getElem?_eq_getElem hiu]
theorem Ql {B lo p:Nat} {mv cv:Value} {w w':World} {d:Nd} {v:Value} {s:ByteArray} {st:ReSt} {es:List Bool} {dep:Nat} (hR:Rd B p w s st es dep mv cv) (hlo:lo≤w.heap.size) (h:NdX (fun b=>(b < w.heap.size∧lo≤b∧OffR p mv cv b)∨w.heap.size≤b) w' d v):Cz lo p mv cv w' d v:=
 h.keep (Aec _) (fun b hb _=>⟨by
  rcases hb with hb | hb
  ·exact hb.2
  ·have hpl:=hR.blk.lt;exact ⟨by omega,by omega,fun hm=>by have:=AB hR.mo _ hm;omega,fun hm=>by have:=AB hR.co _ hm;omega⟩,fun _=>rfl⟩)
structure BrLoop (B p:Nat) (s:ByteArray) (dep:Nat) (mv cv:Value) (w:World) (sub:Option (ReSt→ReRes (ReSt × Nd))) (begin:Nat) (R:ReRes (ReSt × Nd)) (v:Value) (wr:World) (st':ReSt) (mv' cv':Value) (us:List Value) (parts:List Nd) (m:Nat) (front:Bool) (es':List Bool):Prop where
 r:R=branchM false s.data.toList sub false begin m st' parts front
 m:s.size < m+st'.pos
 fr:front=true∨repAt false s.data.toList st'.pos=.none
 n94:(chAt s.data.toList st'.pos 94 && decide (st'.pos=begin))=false
 rd:Rd B p wr s st' es' dep mv' cv'
 st:RStep p w mv cv wr mv' cv'
 row:NdRO w.heap.size p mv' cv' wr parts v us
 few:parts.length≤st'.pos
 all:parts.all inCat=true
 beg:begin≤st'.pos
theorem FP {B lo p:Nat} {mv cv:Value} {w w':World} {d:Nd} {v:Value} {s:ByteArray} {st:ReSt} {es:List Bool} {dep:Nat} (hR:Rd B p w s st es dep mv cv) (hlo:lo≤w.heap.size) (_:Below w.heap.size w w') (h:NdX (fun b=>(b < w.heap.size∧lo≤b∧OffR p mv cv b)∨w.heap.size≤b) w' d v):Cz lo p mv cv w' d v:=Ql hR hlo h
theorem FQ {w1 w2:World} {lo:Nat} {v:Value} {e:TypeId} {n:Nat} {us:List Value} {o:Obj} (hlo:lo≤w1.heap.size) (hown:w1.ownsRow lo e 1 v n us) (hg:(w1.alloc o).grownBy w2 v.ownBlock):Below lo w1 w2:=
 ((Aeh lo w1).alloc hlo _).grown hg (by simp;omega) (Bk hown)
theorem Jj {B p:Nat} {s:ByteArray} {dep:Nat} {mv cv:Value} {w:World} {sub:Option (ReSt→ReRes (ReSt × Nd))} {begin:Nat} {R:ReRes (ReSt × Nd)} {v:Value} {wr:World} {st':ReSt} {mv' cv':Value} {us:List Value} {parts:List Nd} {m':Nat} {front:Bool} {es':List Bool} {nq:Nat}
  (hL:BrLoop B p s dep mv cv w sub begin R v wr st' mv' cv' us parts (m'+1) front es') (hS9:RStep p w mv cv (wr.drewN nq) mv' cv') (hSn:RStep p wr mv' cv' (wr.drewN nq) mv' cv')
  {w2 w3:World} {mv2 cv2 v2 v3:Value} {q:ReSt × Nd} {es2:List Bool} (hS2:RStep p (wr.drewN nq) mv' cv' w2 mv2 cv2) (hR2:Rd B p w2 s q.1 es2 dep mv2 cv2) (hrow2:NdRO w.heap.size p mv2 cv2 w2 parts v us) (hN2:Cz (wr.drewN nq).heap.size p mv2 cv2 w2 q.2 v2) (hv2:v2.oneCell'=true)
  (hown:w3.ownsRow w.heap.size 38 1 v3 (parts.length+1) (us++[v2])) (hgrow:(w2.alloc (.cells #[v2] 38)).grownBy w3 v.ownBlock) (hat:v3.ownBlock=v.ownBlock∨v3.ownBlock=some (w2.alloc (.cells #[v2] 38)).heap.size)
  (hF:R=branchM false s.data.toList sub false begin m' q.1 (parts++[q.2]) (chAt s.data.toList st'.pos 36 && AC s.data.toList (st'.pos+1)))
  (hM:st'.pos < q.1.pos∧inCat q.2=true∧((chAt s.data.toList st'.pos 36 && AC s.data.toList (st'.pos+1))=true∨repAt false s.data.toList q.1.pos=.none)) :
  BrLoop B p s dep mv cv w sub begin R v3 w3 q.1 mv2 cv2 (us++[v2]) (parts++[q.2]) m' (chAt s.data.toList st'.pos 36 && AC s.data.toList (st'.pos+1)) es2:=by
 have hsz2:w.heap.size≤w2.heap.size:=Aed hS9.size hS2.size;have hA:=(Aeh w2.heap.size w2).alloc (Aec _) (.cells #[v2] 38);have hRA:=hR2.below hA;have hrowA:=hrow2.step (RStep.of_below hA);have hlt:=fun b hb=>(hL.row.row.lt b hb).2
 have hbg:=hL.beg;have hm:=hL.m;have hfw:=hL.few;have hM1:=hM.1;refine ⟨hF,by omega,hM.2.2,?_,hRA.grown hgrow hrowA.off,(hS9.trans hS2).after (FQ hsz2 hrow2.row hgrow),?_,by rw [Aee];simp;omega,BO hL.all hM.2.1,by omega⟩
 ·rw [decide_eq_false (show ¬ q.1.pos=begin by omega),Bool.and_false]
 ·refine hrowA.push hRA ?_ hv2 hown hgrow hat
  refine hN2.keep hA.size (fun b hb hlt2=>⟨⟨Aed hS9.size hb.1,hb.2,fun hv=>?_⟩,fun o=>hA.cell (p:=⟨b,o,none⟩) hlt2⟩);have h1:=hlt b hv;have h2:=hSn.size;have h3:=hb.1;simp at h3;omega
theorem Wu {B p:Nat} {s:ByteArray} {st:ReSt} {es:List Bool} {dep:Nat} {mv cv:Value} {w:World} {sub:Option (ReSt→ReRes (ReSt × Nd))} {R:ReRes (ReSt × Nd)} (hR0:R=branchM false s.data.toList sub false st.pos (s.data.toList.length+1) st [] true) (hsl:s.data.toList.length=s.size) (h94:chAt s.data.toList st.pos 94=true) (_:Rd B p w s st es dep mv cv)
  {w1 w3:World} {v3:Value} (hR1:Rd B p w1 s (st.to (st.pos+1)) es dep mv cv) (hS1:RStep p w mv cv w1 mv cv)
  (hown:w3.ownsRow w.heap.size 38 1 v3 (0+1) ([]++[.iface 119 (.agg #[])])) (hgrow:(w1.alloc (.cells #[.iface 119 (.agg #[])] 38)).grownBy w3 (Value.slice none 0 0).ownBlock) (hat:v3.ownBlock=(Value.slice none 0 0).ownBlock∨v3.ownBlock=some (w1.alloc (.cells #[.iface 119 (.agg #[])] 38)).heap.size) :
  BrLoop B p s dep mv cv w sub st.pos R v3 w3 (st.to (st.pos+1)) mv cv ([]++[.iface 119 (.agg #[])]) ([]++[.start]) s.data.toList.length true es:=by
 have hen:AC s.data.toList st.pos=false:=by
  have h1:=BI h94;unfold AC;rw [Et (.inl (by omega)),Et (.inl (by omega)),decide_eq_false (by omega)];rfl
 have hA:=(Aeh w1.heap.size w1).alloc (Aec _) (.cells #[.iface 119 (.agg #[])] 38);have hRA:=hR1.below hA;have hrow:=NdRO.nil w.heap.size p mv cv (w1.alloc (.cells #[.iface 119 (.agg #[])] 38));refine ⟨hR0.trans (MR _ _ _ _ hen h94),?_,.inl rfl,?_,hRA.grown hgrow hrow.off,hS1.after (FQ hS1.size (World.ownsRow_nil _ _ _ _:w1.ownsRow w.heap.size 38 1 (.slice none 0 0) 0 []) hgrow),?_,?_,rfl,?_⟩
 ·show s.size < s.data.toList.length+(st.pos+1);omega
 ·show (chAt s.data.toList (st.pos+1) 94 && decide (st.pos+1=st.pos))=false;rw [decide_eq_false (by omega),Bool.and_false]
 ·exact hrow.push hRA ⟨1,rfl⟩ rfl hown hgrow hat
 ·show 0+1≤st.pos+1;omega
 ·show st.pos≤st.pos+1;omega
theorem Kd {B p:Nat} {s:ByteArray} {st:ReSt} {es:List Bool} {dep:Nat} {mv cv:Value} (w:World) (h:Rd B p w s st es dep mv cv)
  (sub:Option (ReSt→ReRes (ReSt × Nd))) (hmv:D7 s.data.toList sub) (hok:GX sub) (hG:Gl w) (hB:glN≤B) (hgr:∀ st es,E6 B p s st es dep sub) :
  Calls Tryz.prog 126 #[.pointer (some ⟨p,0,none⟩)] w fun e w'=>BJ (branchM false s.data.toList sub false st.pos (s.data.toList.length+1) st [] true) B p s dep mv cv w e w':=by
 have hsm:=h.small;have hps:=h.pos;have hsl:s.data.toList.length=s.size:=by simp
 obtain ⟨i0,hi,hz0,hz1,hz2⟩:=DR;obtain ⟨R,hR0⟩:∃ R,R=branchM false s.data.toList sub false st.pos (s.data.toList.length+1) st [] true:=⟨_,rfl⟩;rw [←hR0];have HR0:=Ad5 hR0;have HSL:=Ad5 hsl;have HGl:=Ad5 hG;have H:=Ad5 h;have hwB:B≤w.heap.size:=Aed h.bp (Aeg h.blk.lt);clear hR0 hsl hG;go_enter Tryz.func126,Tryz.ntmps126;cases h94:chAt s.data.toList st.pos 94 with
 | false=>
  have hsk:=Ib ⟨#[94]⟩ w h ((D6 _ _ 94 (by decide)).trans h94);have H94:=Ad5 h94;clear h h94;go_wp2_with fail
  refine hsk.mono ?_;rintro e w1 ⟨rfl,n,rfl⟩;clear hsk;go_wp2_with fail
  go_loopw [3] (fun v wr=>∃ (st':ReSt) (mv' cv':Value) (us:List Value) (parts:List Nd) (m:Nat) (front:Bool) (es':List Bool),BrLoop B p s dep mv cv w sub st.pos R v wr st' mv' cv' us parts m front es') (fun _ wr=>s.size - (intOf ((wr.cell? ⟨p,1,none⟩).getD undef)).toNat)
  case atStart=>exact ⟨st,mv,cv,[],[],_,true,es,⟨HR0.out,by rw [HSL.out];omega,.inl rfl,by rw [H94.out];rfl,H.out.below (below_drewN (Aeh _ _) n),RStep.of_below (below_drewN (Aeh _ _) n),NdRO.nil _ _ _ _ _,by simp,rfl,Aec _⟩⟩
  case round=>
   obtain ⟨st',mv',cv',us,parts,m,front,es',hL⟩:=hrel;have hR:=hL.rd;obtain ⟨c0,c1,c2,c3,c4,z1,z2,z3,z4⟩:=hR.cells;have hp1:(st'.pos:Int)≤(s.size:Int):=by have:=hR.pos;omega
   have hbe:=fun w=>Gi s st'.pos w
   have HL:=Ad5 hL;have hm0:0 < m:=by have:=hL.m;have:=hR.pos;omega
   obtain ⟨m',rfl⟩:∃ m',m=m'+1:=⟨m - 1,by omega⟩;clear hm0 hL hR;cases hen:AC s.data.toList st'.pos with
   | true=>
    rw [hen] at hbe;have HE:=Ad5 hen;clear hen;go_wp2_with fail
    go_quiet (first | (go_at_call 141;exact Calls.quiet_of_same ((hbe _).mono fun _ _ h=>⟨h.1,h.2.symm⟩)))
    have hbn:=below_drewN (Aeh wr.heap.size wr) nq;have hSn:=RStep.of_below (p:=p) (mv:=mv') (cv:=cv') hbn;have hRn:=HL.out.rd.below hbn;have hrow:=HL.out.row.step hSn;obtain ⟨a,cap,hv,hrw⟩:=hrow.parts;subst hv;have hjf:(AI parts).length≤4000000:=by
     rw [EO _ HL.out.all];have:=HL.out.few;have:=hRn.pos;omega
    have hj:=RX parts a cap (wr.drewN nq) hrw hjf;have HRn:=Ad5 hRn;have HS9:=Ad5 (HL.out.st.trans hSn);clear hbn hSn hRn hrow hrw hjf hbe c0 c1 c2 c3 c4 z1 z2 z3 z4;go_wp2_with fail
    refine hj.mono ?_;rintro e w5 ⟨v5,rfl,hn5,b5⟩;have HN5:=Ad5 hn5;have HB5:=Ad5 b5;clear hn5 b5 hj;go_wp2_with fail
    go_ret;have hlo:w.heap.size≤(wr.drewN nq).heap.size:=HS9.out.size;have hB5:Below w.heap.size (wr.drewN nq) w5:=HB5.out.mono hlo;exact AM (HL.out.r.trans (JD _ _ _ _ _ _ _ HE.out)) (HS9.out.after hB5) (HRn.out.below HB5.out) (FP HRn.out hlo HB5.out HN5.out)
   | false=>
    rw [hen] at hbe;have HE:=Ad5 hen;have hlt:=Ji hen;rw [HSL.out] at hlt;have HLT:=Ad5 hlt;clear hen hlt;go_wp2_with fail
    go_quiet (first | (go_at_call 141;exact Calls.quiet_of_same ((hbe _).mono fun _ _ h=>⟨h.1,h.2.symm⟩)))
    have hbn:=below_drewN (Aeh wr.heap.size wr) nq;have hSn:=RStep.of_below (p:=p) (mv:=mv') (cv:=cv') hbn;have hRn:=HL.out.rd.below hbn;have hGn:=HGl.out.step (HL.out.st.trans hSn) H.out hB;have hpc:=L4 (wr.drewN nq) hRn HE.out front HL.out.fr sub hGn hB (hgr _ _);have HRow:=Ad5 (HL.out.row.step hSn);have HS9:=Ad5 (HL.out.st.trans hSn);have HSn:=Ad5 hSn;clear hbn hSn hRn hGn hbe c0 c1 c2 c3 c4 z1 z2 z3 z4;go_wp2_with fail
    refine hpc.mono ?_;intro e w2 hA;obtain ⟨mv2,cv2,hS2,hr⟩:=hA;have HS2:=Ad5 hS2;have hstep:=HL.out.r.trans (IQ _ _ _ _ _ _ _ HE.out HL.out.n94);have hpm:=Kc s.data.toList sub hmv hok front st';have HPM:=Ad5 hpm;clear hS2 hpc hpm;cases hP:FN s.data.toList sub front st' with
    | error q=>
     rw [hP] at hr hstep;obtain rfl:e=_:=hr;have HF:=Ad5 hstep;clear hstep hP;go_wp2_with fail
     exact ⟨rfl,A1 HF.out (HS9.out.trans HS2.out) rfl⟩
    | ok q=>
     rw [hP] at hr hstep;obtain ⟨es2,v2,rfl,hR2,hN2⟩:=hr;have hmm:=HPM.out q.1 q.2 (by rw [HSL.out];exact HLT.out) hP;have HF:=Ad5 hstep;have HMM:=Ad5 hmm;have HR2:=Ad5 hR2;have hrow2:=HRow.out.step HS2.out;have HRow2:=Ad5 hrow2;have hq2:=hR2.pos;have hfw:=HL.out.few;have hm1:parts.length+1≤maxLen:=by unfold maxLen;omega
     have hm2:(parts.length+1) * 16≤140737488355328:=by omega
     have hown2:=hrow2.row;have hsz2:w.heap.size≤w2.heap.size:=Aed HS9.out.size HS2.out.size;have HN2:=Ad5 hN2;obtain ⟨nn,hnn⟩:=hN2;clear hstep hP hmm hR2 hrow2 hq2 hfw;rcases Ax hnn with ⟨T,x,rfl⟩ | rfl
     all_goals
      clear hnn;go_wp2_with (at_builtin;refine Af _ rfl _ _ 84 rfl w.heap.size 38 i0 .nilIface 1 16 Tryz.underlying84 hi hz0 hz1 hz2 rfl (by decide) _ _ _ rfl (hown2.alloc _) (some ⟨w2.heap.size,0,none⟩) 1 1 [_] rfl rfl (fun _=>⟨_,rfl,Au (by simp) _ _⟩) (by intro y hy;simp at hy;subst hy;rfl) hm1 hm2 (by simp;omega) ?_;intro v3 w3 hown hgrow hat)
      have HO:=Ad5 hown;have HGr:=Ad5 hgrow;have HAt:=Ad5 hat
      clear hown hgrow hat;go_roundw
      case rel=>
       refine ⟨q.1,mv2,cv2,_,_,m',_,es2,Jj HL.out HS9.out HSn.out HS2.out HR2.out HRow2.out HN2.out rfl HO.out HGr.out HAt.out HF.out HMM.out⟩
      case measure=>
       have h1:=(Jj HL.out HS9.out HSn.out HS2.out HR2.out HRow2.out HN2.out rfl HO.out HGr.out HAt.out HF.out HMM.out).rd.cells.c1;have h2:=HL.out.rd.cells.c1;rw [h1,h2];have h3:=HMM.out.1;have h4:=HR2.out.pos;simp only [Option.getD_some,intOf];omega
 | true=>
  have hsk:=FL ⟨#[94]⟩ w h ((D6 _ _ 94 (by decide)).trans h94) (by simp);rw [show (ByteArray.mk #[94]).size=1 from rfl] at hsk;have H94:=Ad5 h94;clear h h94;go_wp2_with fail
  refine hsk.mono ?_;rintro e w1 ⟨rfl,hR1,hS1⟩;have HR1:=Ad5 hR1;have HS1:=Ad5 hS1;have hsz1:=hS1.size;have hown1:w1.ownsRow w.heap.size 38 1 (.slice none 0 0) 0 []:=World.ownsRow_nil _ _ _ _;clear hsk hR1 hS1;go_wp2_with (at_builtin;refine Af _ rfl _ _ 84 rfl w.heap.size 38 i0 .nilIface 1 16 Tryz.underlying84 hi hz0 hz1 hz2 rfl (by decide) _ _ _ rfl (hown1.alloc _) (some ⟨w1.heap.size,0,none⟩) 1 1 [_] rfl rfl (fun _=>⟨_,rfl,Au (by simp) _ _⟩) (by intro y hy;simp at hy;subst hy;rfl) (by decide) (by decide) (by simp;omega) ?_;intro v3 w3 hown hgrow hat)
  have HO:=Ad5 hown;have HGr:=Ad5 hgrow;have HAt:=Ad5 hat
  clear hown hgrow hat;go_loopw [3] (fun v wr=>∃ (st':ReSt) (mv' cv':Value) (us:List Value) (parts:List Nd) (m:Nat) (front:Bool) (es':List Bool),BrLoop B p s dep mv cv w sub st.pos R v wr st' mv' cv' us parts m front es') (fun _ wr=>s.size - (intOf ((wr.cell? ⟨p,1,none⟩).getD undef)).toNat)
  case atStart=>exact ⟨st.to (st.pos+1),mv,cv,_,_,_,true,es,Wu HR0.out HSL.out H94.out H.out HR1.out HS1.out HO.out HGr.out HAt.out⟩
  case round=>
   obtain ⟨st',mv',cv',us,parts,m,front,es',hL⟩:=hrel;have hR:=hL.rd;obtain ⟨c0,c1,c2,c3,c4,z1,z2,z3,z4⟩:=hR.cells;have hp1:(st'.pos:Int)≤(s.size:Int):=by have:=hR.pos;omega
   have hbe:=fun w=>Gi s st'.pos w
   have HL:=Ad5 hL;have hm0:0 < m:=by have:=hL.m;have:=hR.pos;omega
   obtain ⟨m',rfl⟩:∃ m',m=m'+1:=⟨m - 1,by omega⟩;clear hm0 hL hR;cases hen:AC s.data.toList st'.pos with
   | true=>
    rw [hen] at hbe;have HE:=Ad5 hen;clear hen;go_wp2_with fail
    go_quiet (first | (go_at_call 141;exact Calls.quiet_of_same ((hbe _).mono fun _ _ h=>⟨h.1,h.2.symm⟩)))
    have hbn:=below_drewN (Aeh wr.heap.size wr) nq;have hSn:=RStep.of_below (p:=p) (mv:=mv') (cv:=cv') hbn;have hRn:=HL.out.rd.below hbn;have hrow:=HL.out.row.step hSn;obtain ⟨a,cap,hv,hrw⟩:=hrow.parts;subst hv;have hjf:(AI parts).length≤4000000:=by
     rw [EO _ HL.out.all];have:=HL.out.few;have:=hRn.pos;omega
    have hj:=RX parts a cap (wr.drewN nq) hrw hjf;have HRn:=Ad5 hRn;have HS9:=Ad5 (HL.out.st.trans hSn);clear hbn hSn hRn hrow hrw hjf hbe c0 c1 c2 c3 c4 z1 z2 z3 z4;go_wp2_with fail
    refine hj.mono ?_;rintro e w5 ⟨v5,rfl,hn5,b5⟩;have HN5:=Ad5 hn5;have HB5:=Ad5 b5;clear hn5 b5 hj;go_wp2_with fail
    go_ret;have hlo:w.heap.size≤(wr.drewN nq).heap.size:=HS9.out.size;have hB5:Below w.heap.size (wr.drewN nq) w5:=HB5.out.mono hlo;exact AM (HL.out.r.trans (JD _ _ _ _ _ _ _ HE.out)) (HS9.out.after hB5) (HRn.out.below HB5.out) (FP HRn.out hlo HB5.out HN5.out)
   | false=>
    rw [hen] at hbe;have HE:=Ad5 hen;have hlt:=Ji hen;rw [HSL.out] at hlt;have HLT:=Ad5 hlt;clear hen hlt;go_wp2_with fail
    go_quiet (first | (go_at_call 141;exact Calls.quiet_of_same ((hbe _).mono fun _ _ h=>⟨h.1,h.2.symm⟩)))
    have hbn:=below_drewN (Aeh wr.heap.size wr) nq;have hSn:=RStep.of_below (p:=p) (mv:=mv') (cv:=cv') hbn;have hRn:=HL.out.rd.below hbn;have hGn:=HGl.out.step (HL.out.st.trans hSn) H.out hB;have hpc:=L4 (wr.drewN nq) hRn HE.out front HL.out.fr sub hGn hB (hgr _ _);have HRow:=Ad5 (HL.out.row.step hSn);have HS9:=Ad5 (HL.out.st.trans hSn);have HSn:=Ad5 hSn;clear hbn hSn hRn hGn hbe c0 c1 c2 c3 c4 z1 z2 z3 z4;go_wp2_with fail
    refine hpc.mono ?_;intro e w2 hA;obtain ⟨mv2,cv2,hS2,hr⟩:=hA;have HS2:=Ad5 hS2;have hstep:=HL.out.r.trans (IQ _ _ _ _ _ _ _ HE.out HL.out.n94);have hpm:=Kc s.data.toList sub hmv hok front st';have HPM:=Ad5 hpm;clear hS2 hpc hpm;cases hP:FN s.data.toList sub front st' with
    | error q=>
     rw [hP] at hr hstep;obtain rfl:e=_:=hr;have HF:=Ad5 hstep;clear hstep hP;go_wp2_with fail
     exact ⟨rfl,A1 HF.out (HS9.out.trans HS2.out) rfl⟩
    | ok q=>
     rw [hP] at hr hstep;obtain ⟨es2,v2,rfl,hR2,hN2⟩:=hr;have hmm:=HPM.out q.1 q.2 (by rw [HSL.out];exact HLT.out) hP;have HF:=Ad5 hstep;have HMM:=Ad5 hmm;have HR2:=Ad5 hR2;have hrow2:=HRow.out.step HS2.out;have HRow2:=Ad5 hrow2;have hq2:=hR2.pos;have hfw:=HL.out.few;have hm1:parts.length+1≤maxLen:=by unfold maxLen;omega
     have hm2:(parts.length+1) * 16≤140737488355328:=by omega
     have hown2:=hrow2.row;have hsz2:w.heap.size≤w2.heap.size:=Aed HS9.out.size HS2.out.size;have HN2:=Ad5 hN2;obtain ⟨nn,hnn⟩:=hN2;clear hstep hP hmm hR2 hrow2 hq2 hfw;rcases Ax hnn with ⟨T,x,rfl⟩ | rfl
     all_goals
      clear hnn;go_wp2_with (at_builtin;refine Af _ rfl _ _ 84 rfl w.heap.size 38 i0 .nilIface 1 16 Tryz.underlying84 hi hz0 hz1 hz2 rfl (by decide) _ _ _ rfl (hown2.alloc _) (some ⟨w2.heap.size,0,none⟩) 1 1 [_] rfl rfl (fun _=>⟨_,rfl,Au (by simp) _ _⟩) (by intro y hy;simp at hy;subst hy;rfl) hm1 hm2 (by simp;omega) ?_;intro v3 w3 hown hgrow hat)
      have HO:=Ad5 hown;have HGr:=Ad5 hgrow;have HAt:=Ad5 hat
      clear hown hgrow hat;go_roundw
      case rel=>
       refine ⟨q.1,mv2,cv2,_,_,m',_,es2,Jj HL.out HS9.out HSn.out HS2.out HR2.out HRow2.out HN2.out rfl HO.out HGr.out HAt.out HF.out HMM.out⟩
      case measure=>
       have h1:=(Jj HL.out HS9.out HSn.out HS2.out HR2.out HRow2.out HN2.out rfl HO.out HGr.out HAt.out HF.out HMM.out).rd.cells.c1;have h2:=HL.out.rd.cells.c1;rw [h1,h2];have h3:=HMM.out.1;have h4:=HR2.out.pos;simp only [Option.getD_some,intOf];omega
end
end Go.Proofs.YteilldmmihiijaaGreatDoor
