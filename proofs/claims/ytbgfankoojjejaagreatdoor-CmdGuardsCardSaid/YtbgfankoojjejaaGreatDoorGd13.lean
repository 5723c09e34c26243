/- The proof's texts RdFH: what the claim reaches of them. -/
import Derived.Test.YtbgfankoojjejaaGreatDoorGd10
import Derived.Test.YtbgfankoojjejaaGreatDoorGd09
import Derived.Test.YtbgfankoojjejaaGreatDoorGd11
import Derived.Test.YtbgfankoojjejaaGreatDoorGd12
import Derived.Deep.RegionLaw
import Derived.Test.YtbgfankoojjejaaGreatDoorGd04
set_option linter.unusedSimpArgs false
set_option linter.unusedVariables false
set_option maxHeartbeats 8000000
set_option maxRecDepth 1000000
namespace Go.Proofs.YtbgfankoojjejaaGreatDoor
open Go Go.RowKit
def NdOff (lo p:Nat) (mv cv:Value) (w:World) (d:Nd) (v:Value):Prop:=NdX (fun b=>lo≤b∧OffR p mv cv b) w d v
def NdAns (r:ReRes (ReSt × Nd)) (B p:Nat) (s:ByteArray) (dep:Nat) (mv cv:Value) (w:World) (e:Ending) (w':World):Prop:=
 ∃ mv' cv',RStep p w mv cv w' mv' cv'∧match r with
  | .error q=>Thrown q.2 q.1 e
  | .ok q=>∃ es' v,e=.returned v∧Rd B p w' s q.1 es' dep mv' cv'∧NdOff w.heap.size p mv' cv' w' q.2 v
theorem ndans_err {r:ReRes (ReSt × Nd)} {B p:Nat} {s:ByteArray} {dep:Nat} {mv cv mv' cv':Value} {w w':World} {e:Ending} {a b:Nat} (h:r=.error (a,b)) (hS:RStep p w mv cv w' mv' cv') (hE:Thrown b a e):NdAns r B p s dep mv cv w e w':=by
 subst h;exact ⟨_,_,hS,hE⟩
theorem ndans_ok {r:ReRes (ReSt × Nd)} {B p:Nat} {s:ByteArray} {dep:Nat} {mv cv mv' cv':Value} {w w':World} {v:Value} {st:ReSt} {d:Nd} {es:List Bool} (h:r=.ok (st,d)) (hS:RStep p w mv cv w' mv' cv') (hR:Rd B p w' s st es dep mv' cv') (hN:NdOff w.heap.size p mv' cv' w' d v):NdAns r B p s dep mv cv w (.returned v) w':=by
 subst h;exact ⟨_,_,hS,es,v,rfl,hR,hN⟩
theorem NdAns.from {r:ReRes (ReSt × Nd)} {B p:Nat} {s:ByteArray} {dep:Nat} {mv cv mv1 cv1:Value} {w w1 w':World} {e:Ending} (h:NdAns r B p s dep mv1 cv1 w1 e w') (hS:RStep p w mv cv w1 mv1 cv1):NdAns r B p s dep mv cv w e w':=by
 obtain ⟨mv',cv',hS',hr⟩:=h
 refine ⟨mv',cv',hS.trans hS',?_⟩
 cases r with
 | error q=>exact hr
 | ok q=>
  obtain ⟨es',v,h1,h2,h3⟩:=hr
  exact ⟨es',v,h1,h2,h3.keep (Nat.le_refl _) (fun b hb _=>⟨⟨Nat.le_trans hS.size hb.1,hb.2⟩,fun _=>rfl⟩)⟩
theorem ndoff_one (lo p:Nat) (mv cv:Value) (w:World) (t:OSet):NdOff lo p mv cv w (.one t) (.iface 134 (.agg #[.int .u64 (ow t 0),.int .u64 (ow t 1),.int .u64 (ow t 2),.int .u64 (ow t 3)])):=⟨1,rfl⟩
theorem ndoff_back (lo p:Nat) (mv cv:Value) (w:World) (n:Int):NdOff lo p mv cv w (.back n) (.iface 140 (.agg #[.int .i64 n])):=⟨1,rfl⟩
theorem ndoff_fin (lo p:Nat) (mv cv:Value) (w:World):NdOff lo p mv cv w .fin (.iface 144 (.agg #[])):=⟨1,rfl⟩
theorem ndoff_rep {lo p:Nat} {mv cv:Value} {w:World} {d:Nd} {u:Value} (h:NdOff lo p mv cv w d u) (a b:Int):NdOff lo p mv cv w (.rep d a b) (.iface 124 (.agg #[u,.int .i64 a,.int .i64 b])):=by
 obtain ⟨n,h⟩:=h
 exact ⟨n+1,u,rfl,h⟩
theorem ndoff_group {lo p:Nat} {mv cv:Value} {w:World} {d:Nd} {u:Value} (h:NdOff lo p mv cv w d u) (a:Int):NdOff lo p mv cv w (.group a d) (.iface 126 (.agg #[.int .i64 a,u])):=by
 obtain ⟨n,h⟩:=h
 exact ⟨n+1,u,rfl,h⟩
theorem NdOff.step {lo p:Nat} {mv cv mv' cv':Value} {w w':World} {d:Nd} {u:Value} (h:NdOff lo p mv cv w d u) (hS:RStep p w mv cv w' mv' cv'):NdOff lo p mv' cv' w' d u:=
 h.keep hS.size (fun b hb hlt=>⟨⟨hb.1,(hS.keep b hb.2 hlt).1⟩,(hS.keep b hb.2 hlt).2⟩)
theorem own_base {B:Nat} {w:World} {e:TypeId} {size n:Nat} {v:Value} {us:List Value} (h:w.ownsRow B e size v n us) (b:Nat) (hb:b < B):v.ownBlock≠some b:=fun hv=>by
 have:=(h.lt b hv).1
 omega
theorem RStep.low {B p:Nat} {w w':World} {s:ByteArray} {st:ReSt} {es:List Bool} {dep:Nat} {mv cv mv' cv':Value} (hS:RStep p w mv cv w' mv' cv') (h:Rd B p w s st es dep mv cv):Below B w w':=
 ⟨hS.os,hS.tape,hS.output,hS.size,fun b hb=>(hS.block b (Nat.lt_of_lt_of_le hb (Nat.le_trans h.bp (Nat.le_of_lt h.blk.lt))) (by have:=h.bp;omega) (own_base h.mo b hb) (own_base h.co b hb)).1⟩
theorem Gl.step {B p:Nat} {w w':World} {s:ByteArray} {st:ReSt} {es:List Bool} {dep:Nat} {mv cv mv' cv':Value} (hG:Gl w) (hS:RStep p w mv cv w' mv' cv') (h:Rd B p w s st es dep mv cv) (hB:glN≤B):Gl w':=hG.below (hS.low h) hB
def GroupOk (B p:Nat) (s:ByteArray) (st:ReSt) (es:List Bool) (dep:Nat) (sub:Option (ReSt→ReRes (ReSt × Nd))):Prop:=∀ (w2:World) (mv cv:Value),Gl w2→es.length≤st.pos→Rd B p w2 s (st.to (st.pos+2)) es dep mv cv→
 Calls Tryz.prog 151 #[.pointer (some ⟨p,0,none⟩),.int .i64 (st.pos:Int)] w2 fun e w'=>NdAns (grpM false s.data.toList sub st) B p s dep mv cv w2 e w'
theorem escd_tail {B p:Nat} {s:ByteArray} {st:ReSt} {es:List Bool} {dep:Nat} {mv cv:Value} (w:World) (h:Rd B p w s (st.to (st.pos+1)) es dep mv cv) (hlt:s.size=st.pos+1):Calls Tryz.prog 145 #[.pointer (some ⟨p,0,none⟩),.int .i64 (st.pos:Int)] w fun e w'=>NdAns (.error (11,st.pos)) B p s dep mv cv w e w':=by
 obtain ⟨c0,c1,c2,c3,c4,z1,z2,z3,z4⟩:=h.cells
 have hk:(st.to (st.pos+1)).pos=s.size:=hlt.symm
 rw [hk] at c1
 have e0:((s.size:Int) == (s.size:Int))=true:=by rw [beq_iff_eq]
 have hstp:=fun n=>RStep.of_below (p:=p) (mv:=mv) (cv:=cv) (below_drewN (Below.refl w.heap.size w) n)
 clear hk hlt h
 go_enter Tryz.func145,Tryz.ntmps145
 go_wp2_with fail
 go_quiet (fail)
 go_wp2_with fail
 exact ⟨rfl,ndans_err rfl (hstp _) rfl⟩
theorem escd_grp {B p:Nat} {s:ByteArray} {st:ReSt} {es:List Bool} {dep:Nat} {mv cv:Value} (w:World) (h:Rd B p w s (st.to (st.pos+1)) es dep mv cv) (hlt:st.pos+1 < s.size) (hc:byt s.data.toList (st.pos+1)=40) (sub:Option (ReSt→ReRes (ReSt × Nd))) (hG:Gl w) (hB:glN≤B) (hfe:es.length≤st.pos) (hgr:GroupOk B p s st es dep sub) :
  Calls Tryz.prog 145 #[.pointer (some ⟨p,0,none⟩),.int .i64 (st.pos:Int)] w fun e w'=>NdAns (grpM false s.data.toList sub st) B p s dep mv cv w e w':=by
 have hps:st.pos+1≤s.size:=h.pos;have hsm:=h.small;obtain ⟨k,hk⟩:∃ k,k=st.pos+1:=⟨_,rfl⟩;rw [←hk] at h hps hlt;have hk1:(k:Int) < (s.size:Int):=(by omega);have hb0:=pbyt_at s k hlt;have Wn:IntKind.i64.wrap ((k:Int)+1)=((k+1:Nat):Int):=(by rw [IntWalk.i64_in _ (by omega)];omega);have hgo:∀ n,Rd B p ((w.drewN n).setCell ⟨p,1,none⟩ (.int .i64 ((k:Int)+1))) s (st.to (k+1)) es dep mv cv∧RStep p w mv cv ((w.drewN n).setCell ⟨p,1,none⟩ (.int .i64 ((k:Int)+1))) mv cv:=fun n=>⟨((h.below (below_drewN (Below.refl w.heap.size w) n)).goto (k+1) (show k≤k+1 by omega) (show k+1≤s.size by omega)).1,(RStep.of_below (below_drewN (Below.refl w.heap.size w) n)).trans ((h.below (below_drewN (Below.refl w.heap.size w) n)).goto (k+1) (show k≤k+1 by omega) (show k+1≤s.size by omega)).2⟩;obtain ⟨c0,c1,c2,c3,c4,z1,z2,z3,z4⟩:=h.cells;replace c1:w.cell? ⟨p,1,none⟩=some (.int .i64 (k:Int)):=c1;have e0:((k:Int) == (s.size:Int))=false:=(by rw [beq_eq_false_iff_ne];omega);have HK:=Lib.hid hk;have HGO:=Lib.hid hgo;have H:=Lib.hid h;clear hk hgo h hps
 rw [←HK.out,hb0] at hc
 have e40:((s[k].toNat:Int) == 40)=true:=by rw [hc];decide
 have e49:((s[k].toNat:Int) == 49)=false:=by rw [hc];decide
 have e50:((s[k].toNat:Int) == 50)=false:=by rw [hc];decide
 have e51:((s[k].toNat:Int) == 51)=false:=by rw [hc];decide
 have e52:((s[k].toNat:Int) == 52)=false:=by rw [hc];decide
 have e53:((s[k].toNat:Int) == 53)=false:=by rw [hc];decide
 have e54:((s[k].toNat:Int) == 54)=false:=by rw [hc];decide
 have e55:((s[k].toNat:Int) == 55)=false:=by rw [hc];decide
 have e56:((s[k].toNat:Int) == 56)=false:=by rw [hc];decide
 have e57:((s[k].toNat:Int) == 57)=false:=by rw [hc];decide
 have e123:((s[k].toNat:Int) == 123)=false:=by rw [hc];decide
 have e43:((s[k].toNat:Int) == 43)=false:=by rw [hc];decide
 have e63:((s[k].toNat:Int) == 63)=false:=by rw [hc];decide
 have Hc:=Lib.hid hc
 clear hc hb0
 have HGl:=Lib.hid hG
 clear hG
 go_enter Tryz.func145,Tryz.ntmps145;go_wp2_with fail;go_quiet (fail);generalize nq=n1;go_wp2_with fail;go_quiet (fail);go_wp2_with fail
 obtain ⟨hR,hS⟩:=HGO.out (n1+nq)
 rw [show k+1=st.pos+2 by rw [HK.out]] at hR
 refine (hgr _ _ _ (HGl.out.step hS H.out hB) hfe hR).mono ?_
 intro e w' hA
 replace hA:=hA.from hS
 obtain ⟨mv',cv',hS',hr⟩:=hA
 have HS':=Lib.hid hS'
 clear hS'
 cases hg:grpM false s.data.toList sub st with
 | error q=>
  rw [hg] at hr
  obtain rfl:e=_:=hr
  go_wp2_with fail
  exact ⟨rfl,_,_,HS'.out,by rw [hg];exact rfl⟩
 | ok q=>
  rw [hg] at hr
  obtain ⟨es',v,rfl,hR',hN'⟩:=hr
  go_wp2_with fail
  go_ret
  exact ⟨_,_,HS'.out,by rw [hg];exact ⟨es',v,rfl,hR',hN'⟩⟩
theorem escd_rep {B p:Nat} {s:ByteArray} {st:ReSt} {es:List Bool} {dep:Nat} {mv cv:Value} (w:World) (h:Rd B p w s (st.to (st.pos+1)) es dep mv cv) (hlt:st.pos+1 < s.size) (hc:byt s.data.toList (st.pos+1)=43∨byt s.data.toList (st.pos+1)=63∨byt s.data.toList (st.pos+1)=123) :
  Calls Tryz.prog 145 #[.pointer (some ⟨p,0,none⟩),.int .i64 (st.pos:Int)] w fun e w'=>NdAns (.error (10,st.pos)) B p s dep mv cv w e w':=by
 have hps:st.pos+1≤s.size:=h.pos;have hsm:=h.small;obtain ⟨k,hk⟩:∃ k,k=st.pos+1:=⟨_,rfl⟩;rw [←hk] at h hps hlt;have hk1:(k:Int) < (s.size:Int):=(by omega);have hb0:=pbyt_at s k hlt;have Wn:IntKind.i64.wrap ((k:Int)+1)=((k+1:Nat):Int):=(by rw [IntWalk.i64_in _ (by omega)];omega);have hgo:∀ n,Rd B p ((w.drewN n).setCell ⟨p,1,none⟩ (.int .i64 ((k:Int)+1))) s (st.to (k+1)) es dep mv cv∧RStep p w mv cv ((w.drewN n).setCell ⟨p,1,none⟩ (.int .i64 ((k:Int)+1))) mv cv:=fun n=>⟨((h.below (below_drewN (Below.refl w.heap.size w) n)).goto (k+1) (show k≤k+1 by omega) (show k+1≤s.size by omega)).1,(RStep.of_below (below_drewN (Below.refl w.heap.size w) n)).trans ((h.below (below_drewN (Below.refl w.heap.size w) n)).goto (k+1) (show k≤k+1 by omega) (show k+1≤s.size by omega)).2⟩;obtain ⟨c0,c1,c2,c3,c4,z1,z2,z3,z4⟩:=h.cells;replace c1:w.cell? ⟨p,1,none⟩=some (.int .i64 (k:Int)):=c1;have e0:((k:Int) == (s.size:Int))=false:=(by rw [beq_eq_false_iff_ne];omega);have HK:=Lib.hid hk;have HGO:=Lib.hid hgo;have H:=Lib.hid h;clear hk hgo h hps
 rw [←HK.out,hb0] at hc
 rcases hc with hc | hc | hc
 ·have e40:((s[k].toNat:Int) == 40)=false:=by rw [hc];decide
  have e49:((s[k].toNat:Int) == 49)=false:=by rw [hc];decide
  have e50:((s[k].toNat:Int) == 50)=false:=by rw [hc];decide
  have e51:((s[k].toNat:Int) == 51)=false:=by rw [hc];decide
  have e52:((s[k].toNat:Int) == 52)=false:=by rw [hc];decide
  have e53:((s[k].toNat:Int) == 53)=false:=by rw [hc];decide
  have e54:((s[k].toNat:Int) == 54)=false:=by rw [hc];decide
  have e55:((s[k].toNat:Int) == 55)=false:=by rw [hc];decide
  have e56:((s[k].toNat:Int) == 56)=false:=by rw [hc];decide
  have e57:((s[k].toNat:Int) == 57)=false:=by rw [hc];decide
  have e123:((s[k].toNat:Int) == 123)=false:=by rw [hc];decide
  have e43:((s[k].toNat:Int) == 43)=true:=by rw [hc];decide
  have e63:((s[k].toNat:Int) == 63)=false:=by rw [hc];decide
  clear hc hb0
  go_enter Tryz.func145,Tryz.ntmps145;go_wp2_with fail;go_quiet (fail);generalize nq=n1;go_wp2_with fail;go_quiet (fail);go_wp2_with fail
  exact ⟨rfl,ndans_err rfl (HGO.out (n1+nq)).2 rfl⟩
 ·have e40:((s[k].toNat:Int) == 40)=false:=by rw [hc];decide
  have e49:((s[k].toNat:Int) == 49)=false:=by rw [hc];decide
  have e50:((s[k].toNat:Int) == 50)=false:=by rw [hc];decide
  have e51:((s[k].toNat:Int) == 51)=false:=by rw [hc];decide
  have e52:((s[k].toNat:Int) == 52)=false:=by rw [hc];decide
  have e53:((s[k].toNat:Int) == 53)=false:=by rw [hc];decide
  have e54:((s[k].toNat:Int) == 54)=false:=by rw [hc];decide
  have e55:((s[k].toNat:Int) == 55)=false:=by rw [hc];decide
  have e56:((s[k].toNat:Int) == 56)=false:=by rw [hc];decide
  have e57:((s[k].toNat:Int) == 57)=false:=by rw [hc];decide
  have e123:((s[k].toNat:Int) == 123)=false:=by rw [hc];decide
  have e43:((s[k].toNat:Int) == 43)=false:=by rw [hc];decide
  have e63:((s[k].toNat:Int) == 63)=true:=by rw [hc];decide
  clear hc hb0
  go_enter Tryz.func145,Tryz.ntmps145;go_wp2_with fail;go_quiet (fail);generalize nq=n1;go_wp2_with fail;go_quiet (fail);go_wp2_with fail
  exact ⟨rfl,ndans_err rfl (HGO.out (n1+nq)).2 rfl⟩
 ·have e40:((s[k].toNat:Int) == 40)=false:=by rw [hc];decide
  have e49:((s[k].toNat:Int) == 49)=false:=by rw [hc];decide
  have e50:((s[k].toNat:Int) == 50)=false:=by rw [hc];decide
  have e51:((s[k].toNat:Int) == 51)=false:=by rw [hc];decide
  have e52:((s[k].toNat:Int) == 52)=false:=by rw [hc];decide
  have e53:((s[k].toNat:Int) == 53)=false:=by rw [hc];decide
  have e54:((s[k].toNat:Int) == 54)=false:=by rw [hc];decide
  have e55:((s[k].toNat:Int) == 55)=false:=by rw [hc];decide
  have e56:((s[k].toNat:Int) == 56)=false:=by rw [hc];decide
  have e57:((s[k].toNat:Int) == 57)=false:=by rw [hc];decide
  have e123:((s[k].toNat:Int) == 123)=true:=by rw [hc];decide
  have e43:((s[k].toNat:Int) == 43)=false:=by rw [hc];decide
  have e63:((s[k].toNat:Int) == 63)=false:=by rw [hc];decide
  clear hc hb0
  go_enter Tryz.func145,Tryz.ntmps145;go_wp2_with fail;go_quiet (fail);generalize nq=n1;go_wp2_with fail;go_quiet (fail);go_wp2_with fail
  exact ⟨rfl,ndans_err rfl (HGO.out (n1+nq)).2 rfl⟩
theorem escd_dig {B p:Nat} {s:ByteArray} {st:ReSt} {es:List Bool} {dep:Nat} {mv cv:Value} (w:World) (h:Rd B p w s (st.to (st.pos+1)) es dep mv cv) (hlt:st.pos+1 < s.size) (c:Nat) (hc0:byt s.data.toList (st.pos+1)=c) (h49:49≤c) (h57:c≤57) :
  Calls Tryz.prog 145 #[.pointer (some ⟨p,0,none⟩),.int .i64 (st.pos:Int)] w fun e w'=>NdAns (escM false st c) B p s dep mv cv w e w':=by
 have he:escM false st c=if st.closed.contains ((c:Int) - 48) then .ok (st.to (st.pos+2),.back ((c:Int) - 48)) else .error (9,st.pos):=by
  unfold escM
  rw [if_pos ⟨h49,h57⟩]
  rfl
 obtain ⟨R,hR0⟩:∃ R,R=escM false st c:=⟨_,rfl⟩
 rw [←hR0]
 have HR0:=Lib.hid (hR0.trans he)
 clear he hR0
 have hcc:=hc0
 have hps:st.pos+1≤s.size:=h.pos;have hsm:=h.small;obtain ⟨k,hk⟩:∃ k,k=st.pos+1:=⟨_,rfl⟩;rw [←hk] at h hps hlt;have hk1:(k:Int) < (s.size:Int):=(by omega);have hb0:=pbyt_at s k hlt;have Wn:IntKind.i64.wrap ((k:Int)+1)=((k+1:Nat):Int):=(by rw [IntWalk.i64_in _ (by omega)];omega);have hgo:∀ n,Rd B p ((w.drewN n).setCell ⟨p,1,none⟩ (.int .i64 ((k:Int)+1))) s (st.to (k+1)) es dep mv cv∧RStep p w mv cv ((w.drewN n).setCell ⟨p,1,none⟩ (.int .i64 ((k:Int)+1))) mv cv:=fun n=>⟨((h.below (below_drewN (Below.refl w.heap.size w) n)).goto (k+1) (show k≤k+1 by omega) (show k+1≤s.size by omega)).1,(RStep.of_below (below_drewN (Below.refl w.heap.size w) n)).trans ((h.below (below_drewN (Below.refl w.heap.size w) n)).goto (k+1) (show k≤k+1 by omega) (show k+1≤s.size by omega)).2⟩;obtain ⟨c0,c1,c2,c3,c4,z1,z2,z3,z4⟩:=h.cells;replace c1:w.cell? ⟨p,1,none⟩=some (.int .i64 (k:Int)):=c1;have e0:((k:Int) == (s.size:Int))=false:=(by rw [beq_eq_false_iff_ne];omega);have HK:=Lib.hid hk;have HGO:=Lib.hid hgo;have H:=Lib.hid h;clear hk hgo h hps
 rw [←HK.out,hb0] at hc0
 have hcs:c=49∨c=50∨c=51∨c=52∨c=53∨c=54∨c=55∨c=56∨c=57:=by omega
 clear h49 h57 hcc
 rcases hcs with hcs | hcs | hcs | hcs | hcs | hcs | hcs | hcs | hcs
 ·have hc:s[k].toNat=49:=hc0.trans hcs
  have e40:((s[k].toNat:Int) == 40)=false:=by rw [hc];decide
  have e49:((s[k].toNat:Int) == 49)=true:=by rw [hc];decide
  have e50:((s[k].toNat:Int) == 50)=false:=by rw [hc];decide
  have e51:((s[k].toNat:Int) == 51)=false:=by rw [hc];decide
  have e52:((s[k].toNat:Int) == 52)=false:=by rw [hc];decide
  have e53:((s[k].toNat:Int) == 53)=false:=by rw [hc];decide
  have e54:((s[k].toNat:Int) == 54)=false:=by rw [hc];decide
  have e55:((s[k].toNat:Int) == 55)=false:=by rw [hc];decide
  have e56:((s[k].toNat:Int) == 56)=false:=by rw [hc];decide
  have e57:((s[k].toNat:Int) == 57)=false:=by rw [hc];decide
  have e123:((s[k].toNat:Int) == 123)=false:=by rw [hc];decide
  have e43:((s[k].toNat:Int) == 43)=false:=by rw [hc];decide
  have e63:((s[k].toNat:Int) == 63)=false:=by rw [hc];decide
  have Ws:IntKind.u8.wrap ((s[k].toNat:Int) - 48)=1:=by rw [hc];decide
  have HR1:=Lib.hid (HR0.out.trans (by rw [show ((c:Int) - 48)=((1:Nat):Int) by rw [hcs];rfl]))
  clear hc hc0 hcs hb0
  go_enter Tryz.func145,Tryz.ntmps145;go_wp2_with fail;go_quiet (fail);generalize nq=n1;go_wp2_with fail;go_quiet (fail);go_wp2_with fail
  obtain ⟨hR,hS⟩:=HGO.out (n1+nq)
  cases hq:st.closed.contains ((1:Nat):Int) with
  | false=>
   refine (back_no 1 st.pos _ hR (by decide) hq).mono ?_
   rintro e w' ⟨hE,rfl⟩
   obtain rfl:e=_:=hE
   go_wp2_with fail
   exact ⟨rfl,ndans_err (HR1.out.trans (by rw [hq];rfl)) hS rfl⟩
  | true=>
   refine (back_yes 1 st.pos _ hR (by decide) hq).mono ?_
   rintro e w' ⟨rfl,rfl⟩
   go_wp2_with fail
   go_ret
   exact ndans_ok (HR1.out.trans (by rw [hq];rfl)) hS (by rw [show k+1=st.pos+2 by rw [HK.out]] at hR;exact hR) (ndoff_back _ _ _ _ _ _)
 ·have hc:s[k].toNat=50:=hc0.trans hcs
  have e40:((s[k].toNat:Int) == 40)=false:=by rw [hc];decide
  have e49:((s[k].toNat:Int) == 49)=false:=by rw [hc];decide
  have e50:((s[k].toNat:Int) == 50)=true:=by rw [hc];decide
  have e51:((s[k].toNat:Int) == 51)=false:=by rw [hc];decide
  have e52:((s[k].toNat:Int) == 52)=false:=by rw [hc];decide
  have e53:((s[k].toNat:Int) == 53)=false:=by rw [hc];decide
  have e54:((s[k].toNat:Int) == 54)=false:=by rw [hc];decide
  have e55:((s[k].toNat:Int) == 55)=false:=by rw [hc];decide
  have e56:((s[k].toNat:Int) == 56)=false:=by rw [hc];decide
  have e57:((s[k].toNat:Int) == 57)=false:=by rw [hc];decide
  have e123:((s[k].toNat:Int) == 123)=false:=by rw [hc];decide
  have e43:((s[k].toNat:Int) == 43)=false:=by rw [hc];decide
  have e63:((s[k].toNat:Int) == 63)=false:=by rw [hc];decide
  have Ws:IntKind.u8.wrap ((s[k].toNat:Int) - 48)=2:=by rw [hc];decide
  have HR1:=Lib.hid (HR0.out.trans (by rw [show ((c:Int) - 48)=((2:Nat):Int) by rw [hcs];rfl]))
  clear hc hc0 hcs hb0
  go_enter Tryz.func145,Tryz.ntmps145;go_wp2_with fail;go_quiet (fail);generalize nq=n1;go_wp2_with fail;go_quiet (fail);go_wp2_with fail
  obtain ⟨hR,hS⟩:=HGO.out (n1+nq)
  cases hq:st.closed.contains ((2:Nat):Int) with
  | false=>
   refine (back_no 2 st.pos _ hR (by decide) hq).mono ?_
   rintro e w' ⟨hE,rfl⟩
   obtain rfl:e=_:=hE
   go_wp2_with fail
   exact ⟨rfl,ndans_err (HR1.out.trans (by rw [hq];rfl)) hS rfl⟩
  | true=>
   refine (back_yes 2 st.pos _ hR (by decide) hq).mono ?_
   rintro e w' ⟨rfl,rfl⟩
   go_wp2_with fail
   go_ret
   exact ndans_ok (HR1.out.trans (by rw [hq];rfl)) hS (by rw [show k+1=st.pos+2 by rw [HK.out]] at hR;exact hR) (ndoff_back _ _ _ _ _ _)
 ·have hc:s[k].toNat=51:=hc0.trans hcs
  have e40:((s[k].toNat:Int) == 40)=false:=by rw [hc];decide
  have e49:((s[k].toNat:Int) == 49)=false:=by rw [hc];decide
  have e50:((s[k].toNat:Int) == 50)=false:=by rw [hc];decide
  have e51:((s[k].toNat:Int) == 51)=true:=by rw [hc];decide
  have e52:((s[k].toNat:Int) == 52)=false:=by rw [hc];decide
  have e53:((s[k].toNat:Int) == 53)=false:=by rw [hc];decide
  have e54:((s[k].toNat:Int) == 54)=false:=by rw [hc];decide
  have e55:((s[k].toNat:Int) == 55)=false:=by rw [hc];decide
  have e56:((s[k].toNat:Int) == 56)=false:=by rw [hc];decide
  have e57:((s[k].toNat:Int) == 57)=false:=by rw [hc];decide
  have e123:((s[k].toNat:Int) == 123)=false:=by rw [hc];decide
  have e43:((s[k].toNat:Int) == 43)=false:=by rw [hc];decide
  have e63:((s[k].toNat:Int) == 63)=false:=by rw [hc];decide
  have Ws:IntKind.u8.wrap ((s[k].toNat:Int) - 48)=3:=by rw [hc];decide
  have HR1:=Lib.hid (HR0.out.trans (by rw [show ((c:Int) - 48)=((3:Nat):Int) by rw [hcs];rfl]))
  clear hc hc0 hcs hb0
  go_enter Tryz.func145,Tryz.ntmps145;go_wp2_with fail;go_quiet (fail);generalize nq=n1;go_wp2_with fail;go_quiet (fail);go_wp2_with fail
  obtain ⟨hR,hS⟩:=HGO.out (n1+nq)
  cases hq:st.closed.contains ((3:Nat):Int) with
  | false=>
   refine (back_no 3 st.pos _ hR (by decide) hq).mono ?_
   rintro e w' ⟨hE,rfl⟩
   obtain rfl:e=_:=hE
   go_wp2_with fail
   exact ⟨rfl,ndans_err (HR1.out.trans (by rw [hq];rfl)) hS rfl⟩
  | true=>
   refine (back_yes 3 st.pos _ hR (by decide) hq).mono ?_
   rintro e w' ⟨rfl,rfl⟩
   go_wp2_with fail
   go_ret
   exact ndans_ok (HR1.out.trans (by rw [hq];rfl)) hS (by rw [show k+1=st.pos+2 by rw [HK.out]] at hR;exact hR) (ndoff_back _ _ _ _ _ _)
 ·have hc:s[k].toNat=52:=hc0.trans hcs
  have e40:((s[k].toNat:Int) == 40)=false:=by rw [hc];decide
  have e49:((s[k].toNat:Int) == 49)=false:=by rw [hc];decide
  have e50:((s[k].toNat:Int) == 50)=false:=by rw [hc];decide
  have e51:((s[k].toNat:Int) == 51)=false:=by rw [hc];decide
  have e52:((s[k].toNat:Int) == 52)=true:=by rw [hc];decide
  have e53:((s[k].toNat:Int) == 53)=false:=by rw [hc];decide
  have e54:((s[k].toNat:Int) == 54)=false:=by rw [hc];decide
  have e55:((s[k].toNat:Int) == 55)=false:=by rw [hc];decide
  have e56:((s[k].toNat:Int) == 56)=false:=by rw [hc];decide
  have e57:((s[k].toNat:Int) == 57)=false:=by rw [hc];decide
  have e123:((s[k].toNat:Int) == 123)=false:=by rw [hc];decide
  have e43:((s[k].toNat:Int) == 43)=false:=by rw [hc];decide
  have e63:((s[k].toNat:Int) == 63)=false:=by rw [hc];decide
  have Ws:IntKind.u8.wrap ((s[k].toNat:Int) - 48)=4:=by rw [hc];decide
  have HR1:=Lib.hid (HR0.out.trans (by rw [show ((c:Int) - 48)=((4:Nat):Int) by rw [hcs];rfl]))
  clear hc hc0 hcs hb0
  go_enter Tryz.func145,Tryz.ntmps145;go_wp2_with fail;go_quiet (fail);generalize nq=n1;go_wp2_with fail;go_quiet (fail);go_wp2_with fail
  obtain ⟨hR,hS⟩:=HGO.out (n1+nq)
  cases hq:st.closed.contains ((4:Nat):Int) with
  | false=>
   refine (back_no 4 st.pos _ hR (by decide) hq).mono ?_
   rintro e w' ⟨hE,rfl⟩
   obtain rfl:e=_:=hE
   go_wp2_with fail
   exact ⟨rfl,ndans_err (HR1.out.trans (by rw [hq];rfl)) hS rfl⟩
  | true=>
   refine (back_yes 4 st.pos _ hR (by decide) hq).mono ?_
   rintro e w' ⟨rfl,rfl⟩
   go_wp2_with fail
   go_ret
   exact ndans_ok (HR1.out.trans (by rw [hq];rfl)) hS (by rw [show k+1=st.pos+2 by rw [HK.out]] at hR;exact hR) (ndoff_back _ _ _ _ _ _)
 ·have hc:s[k].toNat=53:=hc0.trans hcs
  have e40:((s[k].toNat:Int) == 40)=false:=by rw [hc];decide
  have e49:((s[k].toNat:Int) == 49)=false:=by rw [hc];decide
  have e50:((s[k].toNat:Int) == 50)=false:=by rw [hc];decide
  have e51:((s[k].toNat:Int) == 51)=false:=by rw [hc];decide
  have e52:((s[k].toNat:Int) == 52)=false:=by rw [hc];decide
  have e53:((s[k].toNat:Int) == 53)=true:=by rw [hc];decide
  have e54:((s[k].toNat:Int) == 54)=false:=by rw [hc];decide
  have e55:((s[k].toNat:Int) == 55)=false:=by rw [hc];decide
  have e56:((s[k].toNat:Int) == 56)=false:=by rw [hc];decide
  have e57:((s[k].toNat:Int) == 57)=false:=by rw [hc];decide
  have e123:((s[k].toNat:Int) == 123)=false:=by rw [hc];decide
  have e43:((s[k].toNat:Int) == 43)=false:=by rw [hc];decide
  have e63:((s[k].toNat:Int) == 63)=false:=by rw [hc];decide
  have Ws:IntKind.u8.wrap ((s[k].toNat:Int) - 48)=5:=by rw [hc];decide
  have HR1:=Lib.hid (HR0.out.trans (by rw [show ((c:Int) - 48)=((5:Nat):Int) by rw [hcs];rfl]))
  clear hc hc0 hcs hb0
  go_enter Tryz.func145,Tryz.ntmps145;go_wp2_with fail;go_quiet (fail);generalize nq=n1;go_wp2_with fail;go_quiet (fail);go_wp2_with fail
  obtain ⟨hR,hS⟩:=HGO.out (n1+nq)
  cases hq:st.closed.contains ((5:Nat):Int) with
  | false=>
   refine (back_no 5 st.pos _ hR (by decide) hq).mono ?_
   rintro e w' ⟨hE,rfl⟩
   obtain rfl:e=_:=hE
   go_wp2_with fail
   exact ⟨rfl,ndans_err (HR1.out.trans (by rw [hq];rfl)) hS rfl⟩
  | true=>
   refine (back_yes 5 st.pos _ hR (by decide) hq).mono ?_
   rintro e w' ⟨rfl,rfl⟩
   go_wp2_with fail
   go_ret
   exact ndans_ok (HR1.out.trans (by rw [hq];rfl)) hS (by rw [show k+1=st.pos+2 by rw [HK.out]] at hR;exact hR) (ndoff_back _ _ _ _ _ _)
 ·have hc:s[k].toNat=54:=hc0.trans hcs
  have e40:((s[k].toNat:Int) == 40)=false:=by rw [hc];decide
  have e49:((s[k].toNat:Int) == 49)=false:=by rw [hc];decide
  have e50:((s[k].toNat:Int) == 50)=false:=by rw [hc];decide
  have e51:((s[k].toNat:Int) == 51)=false:=by rw [hc];decide
  have e52:((s[k].toNat:Int) == 52)=false:=by rw [hc];decide
  have e53:((s[k].toNat:Int) == 53)=false:=by rw [hc];decide
  have e54:((s[k].toNat:Int) == 54)=true:=by rw [hc];decide
  have e55:((s[k].toNat:Int) == 55)=false:=by rw [hc];decide
  have e56:((s[k].toNat:Int) == 56)=false:=by rw [hc];decide
  have e57:((s[k].toNat:Int) == 57)=false:=by rw [hc];decide
  have e123:((s[k].toNat:Int) == 123)=false:=by rw [hc];decide
  have e43:((s[k].toNat:Int) == 43)=false:=by rw [hc];decide
  have e63:((s[k].toNat:Int) == 63)=false:=by rw [hc];decide
  have Ws:IntKind.u8.wrap ((s[k].toNat:Int) - 48)=6:=by rw [hc];decide
  have HR1:=Lib.hid (HR0.out.trans (by rw [show ((c:Int) - 48)=((6:Nat):Int) by rw [hcs];rfl]))
  clear hc hc0 hcs hb0
  go_enter Tryz.func145,Tryz.ntmps145;go_wp2_with fail;go_quiet (fail);generalize nq=n1;go_wp2_with fail;go_quiet (fail);go_wp2_with fail
  obtain ⟨hR,hS⟩:=HGO.out (n1+nq)
  cases hq:st.closed.contains ((6:Nat):Int) with
  | false=>
   refine (back_no 6 st.pos _ hR (by decide) hq).mono ?_
   rintro e w' ⟨hE,rfl⟩
   obtain rfl:e=_:=hE
   go_wp2_with fail
   exact ⟨rfl,ndans_err (HR1.out.trans (by rw [hq];rfl)) hS rfl⟩
  | true=>
   refine (back_yes 6 st.pos _ hR (by decide) hq).mono ?_
   rintro e w' ⟨rfl,rfl⟩
   go_wp2_with fail
   go_ret
   exact ndans_ok (HR1.out.trans (by rw [hq];rfl)) hS (by rw [show k+1=st.pos+2 by rw [HK.out]] at hR;exact hR) (ndoff_back _ _ _ _ _ _)
 ·have hc:s[k].toNat=55:=hc0.trans hcs
  have e40:((s[k].toNat:Int) == 40)=false:=by rw [hc];decide
  have e49:((s[k].toNat:Int) == 49)=false:=by rw [hc];decide
  have e50:((s[k].toNat:Int) == 50)=false:=by rw [hc];decide
  have e51:((s[k].toNat:Int) == 51)=false:=by rw [hc];decide
  have e52:((s[k].toNat:Int) == 52)=false:=by rw [hc];decide
  have e53:((s[k].toNat:Int) == 53)=false:=by rw [hc];decide
  have e54:((s[k].toNat:Int) == 54)=false:=by rw [hc];decide
  have e55:((s[k].toNat:Int) == 55)=true:=by rw [hc];decide
  have e56:((s[k].toNat:Int) == 56)=false:=by rw [hc];decide
  have e57:((s[k].toNat:Int) == 57)=false:=by rw [hc];decide
  have e123:((s[k].toNat:Int) == 123)=false:=by rw [hc];decide
  have e43:((s[k].toNat:Int) == 43)=false:=by rw [hc];decide
  have e63:((s[k].toNat:Int) == 63)=false:=by rw [hc];decide
  have Ws:IntKind.u8.wrap ((s[k].toNat:Int) - 48)=7:=by rw [hc];decide
  have HR1:=Lib.hid (HR0.out.trans (by rw [show ((c:Int) - 48)=((7:Nat):Int) by rw [hcs];rfl]))
  clear hc hc0 hcs hb0
  go_enter Tryz.func145,Tryz.ntmps145;go_wp2_with fail;go_quiet (fail);generalize nq=n1;go_wp2_with fail;go_quiet (fail);go_wp2_with fail
  obtain ⟨hR,hS⟩:=HGO.out (n1+nq)
  cases hq:st.closed.contains ((7:Nat):Int) with
  | false=>
   refine (back_no 7 st.pos _ hR (by decide) hq).mono ?_
   rintro e w' ⟨hE,rfl⟩
   obtain rfl:e=_:=hE
   go_wp2_with fail
   exact ⟨rfl,ndans_err (HR1.out.trans (by rw [hq];rfl)) hS rfl⟩
  | true=>
   refine (back_yes 7 st.pos _ hR (by decide) hq).mono ?_
   rintro e w' ⟨rfl,rfl⟩
   go_wp2_with fail
   go_ret
   exact ndans_ok (HR1.out.trans (by rw [hq];rfl)) hS (by rw [show k+1=st.pos+2 by rw [HK.out]] at hR;exact hR) (ndoff_back _ _ _ _ _ _)
 ·have hc:s[k].toNat=56:=hc0.trans hcs
  have e40:((s[k].toNat:Int) == 40)=false:=by rw [hc];decide
  have e49:((s[k].toNat:Int) == 49)=false:=by rw [hc];decide
  have e50:((s[k].toNat:Int) == 50)=false:=by rw [hc];decide
  have e51:((s[k].toNat:Int) == 51)=false:=by rw [hc];decide
  have e52:((s[k].toNat:Int) == 52)=false:=by rw [hc];decide
  have e53:((s[k].toNat:Int) == 53)=false:=by rw [hc];decide
  have e54:((s[k].toNat:Int) == 54)=false:=by rw [hc];decide
  have e55:((s[k].toNat:Int) == 55)=false:=by rw [hc];decide
  have e56:((s[k].toNat:Int) == 56)=true:=by rw [hc];decide
  have e57:((s[k].toNat:Int) == 57)=false:=by rw [hc];decide
  have e123:((s[k].toNat:Int) == 123)=false:=by rw [hc];decide
  have e43:((s[k].toNat:Int) == 43)=false:=by rw [hc];decide
  have e63:((s[k].toNat:Int) == 63)=false:=by rw [hc];decide
  have Ws:IntKind.u8.wrap ((s[k].toNat:Int) - 48)=8:=by rw [hc];decide
  have HR1:=Lib.hid (HR0.out.trans (by rw [show ((c:Int) - 48)=((8:Nat):Int) by rw [hcs];rfl]))
  clear hc hc0 hcs hb0
  go_enter Tryz.func145,Tryz.ntmps145;go_wp2_with fail;go_quiet (fail);generalize nq=n1;go_wp2_with fail;go_quiet (fail);go_wp2_with fail
  obtain ⟨hR,hS⟩:=HGO.out (n1+nq)
  cases hq:st.closed.contains ((8:Nat):Int) with
  | false=>
   refine (back_no 8 st.pos _ hR (by decide) hq).mono ?_
   rintro e w' ⟨hE,rfl⟩
   obtain rfl:e=_:=hE
   go_wp2_with fail
   exact ⟨rfl,ndans_err (HR1.out.trans (by rw [hq];rfl)) hS rfl⟩
  | true=>
   refine (back_yes 8 st.pos _ hR (by decide) hq).mono ?_
   rintro e w' ⟨rfl,rfl⟩
   go_wp2_with fail
   go_ret
   exact ndans_ok (HR1.out.trans (by rw [hq];rfl)) hS (by rw [show k+1=st.pos+2 by rw [HK.out]] at hR;exact hR) (ndoff_back _ _ _ _ _ _)
 ·have hc:s[k].toNat=57:=hc0.trans hcs
  have e40:((s[k].toNat:Int) == 40)=false:=by rw [hc];decide
  have e49:((s[k].toNat:Int) == 49)=false:=by rw [hc];decide
  have e50:((s[k].toNat:Int) == 50)=false:=by rw [hc];decide
  have e51:((s[k].toNat:Int) == 51)=false:=by rw [hc];decide
  have e52:((s[k].toNat:Int) == 52)=false:=by rw [hc];decide
  have e53:((s[k].toNat:Int) == 53)=false:=by rw [hc];decide
  have e54:((s[k].toNat:Int) == 54)=false:=by rw [hc];decide
  have e55:((s[k].toNat:Int) == 55)=false:=by rw [hc];decide
  have e56:((s[k].toNat:Int) == 56)=false:=by rw [hc];decide
  have e57:((s[k].toNat:Int) == 57)=true:=by rw [hc];decide
  have e123:((s[k].toNat:Int) == 123)=false:=by rw [hc];decide
  have e43:((s[k].toNat:Int) == 43)=false:=by rw [hc];decide
  have e63:((s[k].toNat:Int) == 63)=false:=by rw [hc];decide
  have Ws:IntKind.u8.wrap ((s[k].toNat:Int) - 48)=9:=by rw [hc];decide
  have HR1:=Lib.hid (HR0.out.trans (by rw [show ((c:Int) - 48)=((9:Nat):Int) by rw [hcs];rfl]))
  clear hc hc0 hcs hb0
  go_enter Tryz.func145,Tryz.ntmps145;go_wp2_with fail;go_quiet (fail);generalize nq=n1;go_wp2_with fail;go_quiet (fail);go_wp2_with fail
  obtain ⟨hR,hS⟩:=HGO.out (n1+nq)
  cases hq:st.closed.contains ((9:Nat):Int) with
  | false=>
   refine (back_no 9 st.pos _ hR (by decide) hq).mono ?_
   rintro e w' ⟨hE,rfl⟩
   obtain rfl:e=_:=hE
   go_wp2_with fail
   exact ⟨rfl,ndans_err (HR1.out.trans (by rw [hq];rfl)) hS rfl⟩
  | true=>
   refine (back_yes 9 st.pos _ hR (by decide) hq).mono ?_
   rintro e w' ⟨rfl,rfl⟩
   go_wp2_with fail
   go_ret
   exact ndans_ok (HR1.out.trans (by rw [hq];rfl)) hS (by rw [show k+1=st.pos+2 by rw [HK.out]] at hR;exact hR) (ndoff_back _ _ _ _ _ _)
end Go.Proofs.YtbgfankoojjejaaGreatDoor
namespace Go.Proofs.YtbgfankoojjejaaGreatDoor
open Go Go.RowKit
theorem mark_news (W:World) (m:Nat × Nat) (g:Nat) (hg:W.heap.size=g):∀ j u,(markC m)[j]?=some u→(W.alloc (.cells #[.int .i64 (m.1:Int),.string ⟨#[92,UInt8.ofNat m.2]⟩] 77)).cell? ((⟨g,0,none⟩:Addr).add j)=some u:=by
 have hb:=Blk.new W #[.int .i64 (m.1:Int),.string ⟨#[92,UInt8.ofNat m.2]⟩] 77 g hg.symm
 intro j u hu
 rw [Go.WideShapes.add_plain,Nat.zero_add,hb.cell j,←Array.getElem?_toList]
 exact hu
def PlainEsc (c:Nat):Prop:=c≠40∧¬ (49≤c∧c≤57)∧c≠43∧c≠63∧c≠123
theorem escd_form {B p:Nat} {s:ByteArray} {st:ReSt} {es:List Bool} {dep:Nat} {mv cv:Value} (w:World) (h:Rd B p w s (st.to (st.pos+1)) es dep mv cv) (hlt:st.pos+1 < s.size) (c:Nat) (hc0:byt s.data.toList (st.pos+1)=c) (hno:PlainEsc c) (hes:escSet c=none) :
  Calls Tryz.prog 145 #[.pointer (some ⟨p,0,none⟩),.int .i64 (st.pos:Int)] w fun e w'=>NdAns (.error (2,st.pos)) B p s dep mv cv w e w':=by
 have hps:st.pos+1≤s.size:=h.pos;have hsm:=h.small;obtain ⟨k,hk⟩:∃ k,k=st.pos+1:=⟨_,rfl⟩;rw [←hk] at h hps hlt;have hk1:(k:Int) < (s.size:Int):=(by omega);have hb0:=pbyt_at s k hlt;have Wn:IntKind.i64.wrap ((k:Int)+1)=((k+1:Nat):Int):=(by rw [IntWalk.i64_in _ (by omega)];omega);have hgo:∀ n,Rd B p ((w.drewN n).setCell ⟨p,1,none⟩ (.int .i64 ((k:Int)+1))) s (st.to (k+1)) es dep mv cv∧RStep p w mv cv ((w.drewN n).setCell ⟨p,1,none⟩ (.int .i64 ((k:Int)+1))) mv cv:=fun n=>⟨((h.below (below_drewN (Below.refl w.heap.size w) n)).goto (k+1) (show k≤k+1 by omega) (show k+1≤s.size by omega)).1,(RStep.of_below (below_drewN (Below.refl w.heap.size w) n)).trans ((h.below (below_drewN (Below.refl w.heap.size w) n)).goto (k+1) (show k≤k+1 by omega) (show k+1≤s.size by omega)).2⟩;obtain ⟨c0,c1,c2,c3,c4,z1,z2,z3,z4⟩:=h.cells;replace c1:w.cell? ⟨p,1,none⟩=some (.int .i64 (k:Int)):=c1;have e0:((k:Int) == (s.size:Int))=false:=(by rw [beq_eq_false_iff_ne];omega);have HK:=Lib.hid hk;have HGO:=Lib.hid hgo;have H:=Lib.hid h;clear hk hgo h hps
 rw [←HK.out,hb0] at hc0
 obtain ⟨n1',n2',n3',n4',n5'⟩:=hno;have hc:s[k].toNat=c:=hc0;have hc256:c < 256:=(by rw [←hc];exact UInt8.toNat_lt _)
 have e40:((s[k].toNat:Int) == 40)=false:=by rw [hc,beq_eq_false_iff_ne];omega
 have e49:((s[k].toNat:Int) == 49)=false:=by rw [hc,beq_eq_false_iff_ne];omega
 have e50:((s[k].toNat:Int) == 50)=false:=by rw [hc,beq_eq_false_iff_ne];omega
 have e51:((s[k].toNat:Int) == 51)=false:=by rw [hc,beq_eq_false_iff_ne];omega
 have e52:((s[k].toNat:Int) == 52)=false:=by rw [hc,beq_eq_false_iff_ne];omega
 have e53:((s[k].toNat:Int) == 53)=false:=by rw [hc,beq_eq_false_iff_ne];omega
 have e54:((s[k].toNat:Int) == 54)=false:=by rw [hc,beq_eq_false_iff_ne];omega
 have e55:((s[k].toNat:Int) == 55)=false:=by rw [hc,beq_eq_false_iff_ne];omega
 have e56:((s[k].toNat:Int) == 56)=false:=by rw [hc,beq_eq_false_iff_ne];omega
 have e57:((s[k].toNat:Int) == 57)=false:=by rw [hc,beq_eq_false_iff_ne];omega
 have e123:((s[k].toNat:Int) == 123)=false:=by rw [hc,beq_eq_false_iff_ne];omega
 have e43:((s[k].toNat:Int) == 43)=false:=by rw [hc,beq_eq_false_iff_ne];omega
 have e63:((s[k].toNat:Int) == 63)=false:=by rw [hc,beq_eq_false_iff_ne];omega
 have he:=fun w=>esc_any s[k].toNat (UInt8.toNat_lt _) w
 rw [hc] at he
 rw [hes,←hc,show escV none=.tuple #[.agg #[.int .u64 0,.int .u64 0,.int .u64 0,.int .u64 0],.bool false,.bool false] from rfl] at he
 clear hc hc0 hes hb0 n1' n2' n3' n4' n5' hc256
 go_enter Tryz.func145,Tryz.ntmps145;go_wp2_with fail;go_quiet (fail);generalize nq=n1;go_wp2_with fail;go_quiet (fail);go_wp2_with fail
 refine (he _).mono ?_
 rintro e w1 ⟨rfl,b1⟩
 have hS1:=((HGO.out (n1+nq)).2.trans (RStep.of_below (p:=p) (mv:=mv) (cv:=cv) b1))
 have hS2:=hS1.trans (RStep.of_below (p:=p) (mv:=mv) (cv:=cv) ((Below.refl w1.heap.size w1).alloc (Nat.le_refl _) (.cells #[.int .u64 0,.int .u64 0,.int .u64 0,.int .u64 0] 132)))
 have HS2:=Lib.hid hS2
 clear hS1 hS2 b1
 go_wp2_with fail
 exact ⟨rfl,ndans_err rfl HS2.out rfl⟩
theorem escd_set {B p:Nat} {s:ByteArray} {st:ReSt} {es:List Bool} {dep:Nat} {mv cv:Value} (w:World) (h:Rd B p w s (st.to (st.pos+1)) es dep mv cv) (hlt:st.pos+1 < s.size) (c:Nat) (hc0:byt s.data.toList (st.pos+1)=c) (hno:PlainEsc c) (t:OSet) (hes:escSet c=some (t,false)) :
  Calls Tryz.prog 145 #[.pointer (some ⟨p,0,none⟩),.int .i64 (st.pos:Int)] w fun e w'=>NdAns (.ok (st.to (st.pos+2),.one t)) B p s dep mv cv w e w':=by
 have hps:st.pos+1≤s.size:=h.pos;have hsm:=h.small;obtain ⟨k,hk⟩:∃ k,k=st.pos+1:=⟨_,rfl⟩;rw [←hk] at h hps hlt;have hk1:(k:Int) < (s.size:Int):=(by omega);have hb0:=pbyt_at s k hlt;have Wn:IntKind.i64.wrap ((k:Int)+1)=((k+1:Nat):Int):=(by rw [IntWalk.i64_in _ (by omega)];omega);have hgo:∀ n,Rd B p ((w.drewN n).setCell ⟨p,1,none⟩ (.int .i64 ((k:Int)+1))) s (st.to (k+1)) es dep mv cv∧RStep p w mv cv ((w.drewN n).setCell ⟨p,1,none⟩ (.int .i64 ((k:Int)+1))) mv cv:=fun n=>⟨((h.below (below_drewN (Below.refl w.heap.size w) n)).goto (k+1) (show k≤k+1 by omega) (show k+1≤s.size by omega)).1,(RStep.of_below (below_drewN (Below.refl w.heap.size w) n)).trans ((h.below (below_drewN (Below.refl w.heap.size w) n)).goto (k+1) (show k≤k+1 by omega) (show k+1≤s.size by omega)).2⟩;obtain ⟨c0,c1,c2,c3,c4,z1,z2,z3,z4⟩:=h.cells;replace c1:w.cell? ⟨p,1,none⟩=some (.int .i64 (k:Int)):=c1;have e0:((k:Int) == (s.size:Int))=false:=(by rw [beq_eq_false_iff_ne];omega);have HK:=Lib.hid hk;have HGO:=Lib.hid hgo;have H:=Lib.hid h;clear hk hgo h hps
 rw [←HK.out,hb0] at hc0
 obtain ⟨n1',n2',n3',n4',n5'⟩:=hno;have hc:s[k].toNat=c:=hc0;have hc256:c < 256:=(by rw [←hc];exact UInt8.toNat_lt _)
 have e40:((s[k].toNat:Int) == 40)=false:=by rw [hc,beq_eq_false_iff_ne];omega
 have e49:((s[k].toNat:Int) == 49)=false:=by rw [hc,beq_eq_false_iff_ne];omega
 have e50:((s[k].toNat:Int) == 50)=false:=by rw [hc,beq_eq_false_iff_ne];omega
 have e51:((s[k].toNat:Int) == 51)=false:=by rw [hc,beq_eq_false_iff_ne];omega
 have e52:((s[k].toNat:Int) == 52)=false:=by rw [hc,beq_eq_false_iff_ne];omega
 have e53:((s[k].toNat:Int) == 53)=false:=by rw [hc,beq_eq_false_iff_ne];omega
 have e54:((s[k].toNat:Int) == 54)=false:=by rw [hc,beq_eq_false_iff_ne];omega
 have e55:((s[k].toNat:Int) == 55)=false:=by rw [hc,beq_eq_false_iff_ne];omega
 have e56:((s[k].toNat:Int) == 56)=false:=by rw [hc,beq_eq_false_iff_ne];omega
 have e57:((s[k].toNat:Int) == 57)=false:=by rw [hc,beq_eq_false_iff_ne];omega
 have e123:((s[k].toNat:Int) == 123)=false:=by rw [hc,beq_eq_false_iff_ne];omega
 have e43:((s[k].toNat:Int) == 43)=false:=by rw [hc,beq_eq_false_iff_ne];omega
 have e63:((s[k].toNat:Int) == 63)=false:=by rw [hc,beq_eq_false_iff_ne];omega
 have he:=fun w=>esc_any s[k].toNat (UInt8.toNat_lt _) w
 rw [hc] at he
 rw [hes,←hc,show escV (some (t,false))=.tuple #[.agg #[.int .u64 (ow t 0),.int .u64 (ow t 1),.int .u64 (ow t 2),.int .u64 (ow t 3)],.bool false,.bool true] from rfl] at he
 clear hc hc0 hes hb0 n1' n2' n3' n4' n5' hc256
 go_enter Tryz.func145,Tryz.ntmps145;go_wp2_with fail;go_quiet (fail);generalize nq=n1;go_wp2_with fail;go_quiet (fail);go_wp2_with fail
 refine (he _).mono ?_
 rintro e w1 ⟨rfl,b1⟩
 have hR:=(HGO.out (n1+nq)).1
 rw [show k+1=st.pos+2 by rw [HK.out]] at hR
 have hA:=(Below.refl w1.heap.size w1).alloc (Nat.le_refl _) (.cells #[.int .u64 (ow t 0),.int .u64 (ow t 1),.int .u64 (ow t 2),.int .u64 (ow t 3)] 132)
 have HR:=Lib.hid ((hR.below b1).below hA)
 have HS2:=Lib.hid (((HGO.out (n1+nq)).2.trans (RStep.of_below (p:=p) (mv:=mv) (cv:=cv) b1)).trans (RStep.of_below (p:=p) (mv:=mv) (cv:=cv) hA))
 clear b1 hA hR
 go_wp2_with fail
 go_ret
 exact ndans_ok rfl HS2.out HR.out (ndoff_one _ _ _ _ _ _)
theorem escd_mark {B p:Nat} {s:ByteArray} {st:ReSt} {es:List Bool} {dep:Nat} {mv cv:Value} (w:World) (h:Rd B p w s (st.to (st.pos+1)) es dep mv cv) (hlt:st.pos+1 < s.size) (c:Nat) (hc0:byt s.data.toList (st.pos+1)=c) (hno:PlainEsc c) (t:OSet) (hes:escSet c=some (t,true)) :
  Calls Tryz.prog 145 #[.pointer (some ⟨p,0,none⟩),.int .i64 (st.pos:Int)] w fun e w'=>NdAns (.ok ((st.mark c).to (st.pos+2),.one t)) B p s dep mv cv w e w':=by
 have hps:st.pos+1≤s.size:=h.pos;have hsm:=h.small;obtain ⟨k,hk⟩:∃ k,k=st.pos+1:=⟨_,rfl⟩;rw [←hk] at h hps hlt;have hk1:(k:Int) < (s.size:Int):=(by omega);have hb0:=pbyt_at s k hlt;have Wn:IntKind.i64.wrap ((k:Int)+1)=((k+1:Nat):Int):=(by rw [IntWalk.i64_in _ (by omega)];omega);have hgo:∀ n,Rd B p ((w.drewN n).setCell ⟨p,1,none⟩ (.int .i64 ((k:Int)+1))) s (st.to (k+1)) es dep mv cv∧RStep p w mv cv ((w.drewN n).setCell ⟨p,1,none⟩ (.int .i64 ((k:Int)+1))) mv cv:=fun n=>⟨((h.below (below_drewN (Below.refl w.heap.size w) n)).goto (k+1) (show k≤k+1 by omega) (show k+1≤s.size by omega)).1,(RStep.of_below (below_drewN (Below.refl w.heap.size w) n)).trans ((h.below (below_drewN (Below.refl w.heap.size w) n)).goto (k+1) (show k≤k+1 by omega) (show k+1≤s.size by omega)).2⟩;obtain ⟨c0,c1,c2,c3,c4,z1,z2,z3,z4⟩:=h.cells;replace c1:w.cell? ⟨p,1,none⟩=some (.int .i64 (k:Int)):=c1;have e0:((k:Int) == (s.size:Int))=false:=(by rw [beq_eq_false_iff_ne];omega);have HK:=Lib.hid hk;have HGO:=Lib.hid hgo;have H:=Lib.hid h;clear hk hgo h hps
 rw [←HK.out,hb0] at hc0
 obtain ⟨n1',n2',n3',n4',n5'⟩:=hno;have hc:s[k].toNat=c:=hc0;have hc256:c < 256:=(by rw [←hc];exact UInt8.toNat_lt _)
 have e40:((s[k].toNat:Int) == 40)=false:=by rw [hc,beq_eq_false_iff_ne];omega
 have e49:((s[k].toNat:Int) == 49)=false:=by rw [hc,beq_eq_false_iff_ne];omega
 have e50:((s[k].toNat:Int) == 50)=false:=by rw [hc,beq_eq_false_iff_ne];omega
 have e51:((s[k].toNat:Int) == 51)=false:=by rw [hc,beq_eq_false_iff_ne];omega
 have e52:((s[k].toNat:Int) == 52)=false:=by rw [hc,beq_eq_false_iff_ne];omega
 have e53:((s[k].toNat:Int) == 53)=false:=by rw [hc,beq_eq_false_iff_ne];omega
 have e54:((s[k].toNat:Int) == 54)=false:=by rw [hc,beq_eq_false_iff_ne];omega
 have e55:((s[k].toNat:Int) == 55)=false:=by rw [hc,beq_eq_false_iff_ne];omega
 have e56:((s[k].toNat:Int) == 56)=false:=by rw [hc,beq_eq_false_iff_ne];omega
 have e57:((s[k].toNat:Int) == 57)=false:=by rw [hc,beq_eq_false_iff_ne];omega
 have e123:((s[k].toNat:Int) == 123)=false:=by rw [hc,beq_eq_false_iff_ne];omega
 have e43:((s[k].toNat:Int) == 43)=false:=by rw [hc,beq_eq_false_iff_ne];omega
 have e63:((s[k].toNat:Int) == 63)=false:=by rw [hc,beq_eq_false_iff_ne];omega
 have he:=fun w=>esc_any s[k].toNat (UInt8.toNat_lt _) w
 rw [hc] at he
 have hcv:∀ W:World,(convert 22 9 (.slice (some ⟨W.heap.size,0,none⟩) 2 2)).run Tryz.prog (W.alloc (.cells #[.int .u8 92,.int .u8 (s[k].toNat:Int)] 5)).drew=.ok (.string ⟨#[92,UInt8.ofNat c]⟩) (W.alloc (.cells #[.int .u8 92,.int .u8 (s[k].toNat:Int)] 5)).drew:=fun W=>by
  rw [pconv2d W 92 (s[k].toNat:Int),hc]
  rfl
 obtain ⟨i0,hi,hz0,hz1,hz2⟩:=mark_info
 rw [hes,←hc,show escV (some (t,true))=.tuple #[.agg #[.int .u64 (ow t 0),.int .u64 (ow t 1),.int .u64 (ow t 2),.int .u64 (ow t 3)],.bool true,.bool true] from rfl] at he
 have hfew:=H.out.few.1
 have hfew2:st.marks.length≤k:=hfew
 clear hc hc0 hes hb0 n1' n2' n3' n4' n5' hfew
 go_enter Tryz.func145,Tryz.ntmps145;go_wp2_with fail;go_quiet (fail);generalize nq=n1;go_wp2_with fail;go_quiet (fail);go_wp2_with fail
 refine (he _).mono ?_
 rintro e w1 ⟨rfl,b1⟩
 have hR:=(HGO.out (n1+nq)).1
 have HS1:=Lib.hid ((HGO.out (n1+nq)).2.trans (RStep.of_below (p:=p) (mv:=mv) (cv:=cv) b1))
 have hR1:=hR.below b1
 clear hR b1 c0 c1 c2 c3 c4 z1 z2 z3 z4
 have hA:=(Below.refl w1.heap.size w1).alloc (Nat.le_refl _) (.cells #[.int .u64 (ow t 0),.int .u64 (ow t 1),.int .u64 (ow t 2),.int .u64 (ow t 3)] 132)
 have hRA:=hR1.below hA
 have hPA:=Blk.new w1 #[.int .u64 (ow t 0),.int .u64 (ow t 1),.int .u64 (ow t 2),.int .u64 (ow t 3)] 132 w1.heap.size rfl
 have HSA:=Lib.hid (HS1.out.trans (RStep.of_below (p:=p) (mv:=mv) (cv:=cv) hA))
 have hmq:mv.ownBlock≠some w1.heap.size:=fun hv=>by have:=own_lt' hR1.mo _ hv;omega
 have hq2:w1.heap.size < (w1.alloc (.cells #[.int .u64 (ow t 0),.int .u64 (ow t 1),.int .u64 (ow t 2),.int .u64 (ow t 3)] 132)).heap.size:=by simp
 have hpq:w1.heap.size≠p:=fun e=>by have:=hR1.blk.lt;omega
 have hpq2:p≠w1.heap.size:=fun e=>hpq e.symm
 clear hA hR1
 go_upto_region 26 with fail
 generalize hw2:w1.alloc (.cells #[.int .u64 (ow t 0),.int .u64 (ow t 1),.int .u64 (ow t 2),.int .u64 (ow t 3)] 132)=w2 at *
 generalize hq:w1.heap.size=q at *
 clear hw2 hq
 have hpl:=hRA.blk.lt
 have hBp:=hRA.bp
 obtain ⟨c0,c1,c2,c3,c4,z1,z2,z3,z4⟩:=hRA.cells
 have hcv2:=hcv w2
 have hv1:∀ u∈markC (st.pos,c),u.oneCell'=true:=by intro u hu;simp [markC] at hu;rcases hu with rfl | rfl <;> rfl
 have hm1:st.marks.length+1≤maxLen:=by unfold maxLen;omega
 have hm2:(st.marks.length+1) * 24≤140737488355328:=by omega
 have HRA:=Lib.hid hRA
 have HPA:=Lib.hid hPA
 clear hcv
 clear hRA hPA
 go_region_law (first
  | (refine step_append_any rfl _ _ 36 rfl B 77 i0 (.agg #[.int .i64 0,.string ⟨#[]⟩]) 2 24 Tryz.underlying36 hi hz0 hz1 hz2 rfl (by decide) mv st.marks.length (marksC st.marks) rfl (nd_own_below HRA.out.mo (by repeat (first | (with_reducible exact Below.refl _ _) | refine Below.drew ?_ | refine below_drewN ?_ _ | refine Below.alloc ?_ (by first | omega | (simp;omega) | simp) _))) (some ⟨w2.heap.size+1,0,none⟩) 1 1 (markC (st.pos,c)) rfl rfl (fun _=>⟨_,rfl,mark_news _ _ _ (by simp)⟩) hv1 hm1 hm2 (by simp;omega) ?_;intro v6 w6 hown6 hgrow6 hat6;have HM:=Lib.hid ((HRA.out.below (by repeat (first | (with_reducible exact Below.refl _ _) | refine Below.drew ?_ | refine below_drewN ?_ _ | refine Below.alloc ?_ (by first | omega | (simp;omega) | simp) _))).mark (m:=(st.pos,c)) hown6 hgrow6 hat6 (by show st.marks.length+1≤k+1;omega));have hfz:w6.frozen? ⟨p,2,none⟩=false:=(hgrow6.frozen_far ⟨p,2,none⟩ (by simp;omega) (fun e=>HRA.out.mp e.symm)).trans ((HRA.out.below (by repeat (first | (with_reducible exact Below.refl _ _) | refine Below.drew ?_ | refine below_drewN ?_ _ | refine Below.alloc ?_ (by first | omega | (simp;omega) | simp) _))).blk.frozen 2);have hce:w6.cell? ⟨p,2,none⟩=some mv:=(hgrow6.cell_far ⟨p,2,none⟩ (by simp;omega) (fun e=>HRA.out.mp e.symm)).trans (((HRA.out.below (by repeat (first | (with_reducible exact Below.refl _ _) | refine Below.drew ?_ | refine below_drewN ?_ _ | refine Below.alloc ?_ (by first | omega | (simp;omega) | simp) _))).blk.cell 2).trans rfl);have hs0:w6.cell? ⟨q,0,none⟩=some (.int .u64 (ow t 0)):=(hgrow6.cell_far ⟨q,0,none⟩ (by simp;omega) (fun e=>hmq e.symm)).trans (((HPA.out.below (by repeat (first | (with_reducible exact Below.refl _ _) | refine Below.drew ?_ | refine below_drewN ?_ _ | refine Below.alloc ?_ (by first | omega | (simp;omega) | simp) _)) hq2).cell 0).trans rfl);have hs1:w6.cell? ⟨q,1,none⟩=some (.int .u64 (ow t 1)):=(hgrow6.cell_far ⟨q,1,none⟩ (by simp;omega) (fun e=>hmq e.symm)).trans (((HPA.out.below (by repeat (first | (with_reducible exact Below.refl _ _) | refine Below.drew ?_ | refine below_drewN ?_ _ | refine Below.alloc ?_ (by first | omega | (simp;omega) | simp) _)) hq2).cell 1).trans rfl);have hs2:w6.cell? ⟨q,2,none⟩=some (.int .u64 (ow t 2)):=(hgrow6.cell_far ⟨q,2,none⟩ (by simp;omega) (fun e=>hmq e.symm)).trans (((HPA.out.below (by repeat (first | (with_reducible exact Below.refl _ _) | refine Below.drew ?_ | refine below_drewN ?_ _ | refine Below.alloc ?_ (by first | omega | (simp;omega) | simp) _)) hq2).cell 2).trans rfl);have hs3:w6.cell? ⟨q,3,none⟩=some (.int .u64 (ow t 3)):=(hgrow6.cell_far ⟨q,3,none⟩ (by simp;omega) (fun e=>hmq e.symm)).trans (((HPA.out.below (by repeat (first | (with_reducible exact Below.refl _ _) | refine Below.drew ?_ | refine below_drewN ?_ _ | refine Below.alloc ?_ (by first | omega | (simp;omega) | simp) _)) hq2).cell 3).trans rfl);obtain ⟨g,gcap,hv6,_,_⟩:=World.ownsRow.form hown6 (Nat.succ_pos _);subst hv6;clear hown6 hgrow6 hat6))
 all_goals
  go_wp2_with fail
  go_ret
  exact ndans_ok rfl ((HSA.out.trans (RStep.of_below (p:=p) (mv:=mv) (cv:=cv) (by repeat (first | (with_reducible exact Below.refl _ _) | refine Below.drew ?_ | refine below_drewN ?_ _ | refine Below.alloc ?_ (by first | omega | (simp;omega) | simp) _)))).trans HM.out.2) (by have h9:=HM.out.1;rw [show st.to (k+1)=st.to (st.pos+2) by rw [HK.out]] at h9;exact h9) (ndoff_one _ _ _ _ _ _)
end Go.Proofs.YtbgfankoojjejaaGreatDoor
namespace Go.Proofs.YtbgfankoojjejaaGreatDoor
open Go Go.RowKit
def atomF (s:List UInt8) (sub:Option (ReSt→ReRes (ReSt × Nd))) (front:Bool) (st:ReSt):ReRes (ReSt × Nd):=
 if front && (opAt false s st.pos 123 || opAt false s st.pos 43 || opAt false s st.pos 63) then .error (10,st.pos) else atomM false s sub st
theorem es_yes {s:List UInt8} {k c:Nat} (h:k+1 < s.length) (h1:byt s k=92) (h2:byt s (k+1)=c):esAt s k c=true:=by
 unfold esAt;rw [decide_eq_true h,decide_eq_true h1,decide_eq_true h2];rfl
theorem es_no {s:List UInt8} {k c:Nat} (h:byt s k≠92∨byt s (k+1)≠c∨¬ k+1 < s.length):esAt s k c=false:=by
 unfold esAt
 rcases h with h | h | h
 ·rw [decide_eq_false h];simp
 ·rw [decide_eq_false h];simp
 ·rw [decide_eq_false h];simp
theorem ch_yes {s:List UInt8} {k c:Nat} (h:k < s.length) (h1:byt s k=c):chAt s k c=true:=by
 unfold chAt;rw [decide_eq_true h,decide_eq_true h1];rfl
theorem atomF_plain {s:List UInt8} {sub:Option (ReSt→ReRes (ReSt × Nd))} {front:Bool} {st:ReSt} (h:byt s st.pos≠92):atomF s sub front st =
  if chAt s st.pos 91 then (if (prs s ((st.pos:Int)+1)).2.2=0 then .ok (st.to (prs s ((st.pos:Int)+1)).2.1.toNat,.one (prs s ((st.pos:Int)+1)).1) else .error ((prs s ((st.pos:Int)+1)).2.2,(prs s ((st.pos:Int)+1)).2.1.toNat))
  else if chAt s st.pos 46 then .ok (st.to (st.pos+1),.one (oSpan 0 255)) else .ok (st.to (st.pos+1),.one (oSpan (byt s st.pos) (byt s st.pos))):=by
 unfold atomF atomM opAt
 simp only [Bool.false_eq_true,if_false,es_no (.inl h),Bool.or_self,Bool.and_false,ch_no h]
theorem atomF_tail {s:List UInt8} {sub:Option (ReSt→ReRes (ReSt × Nd))} {front:Bool} {st:ReSt} (h:byt s st.pos=92) (hl:st.pos < s.length) (h2:¬ st.pos+1 < s.length):atomF s sub front st=.error (11,st.pos):=by
 unfold atomF atomM opAt
 simp only [Bool.false_eq_true,if_false,es_no (.inr (.inr h2)),Bool.or_self,Bool.and_false,ch_yes hl h,ch_no (show byt s st.pos≠91 by omega),ch_no (show byt s st.pos≠46 by omega),if_true]
 rw [if_neg h2]
theorem atomF_grp {s:List UInt8} {sub:Option (ReSt→ReRes (ReSt × Nd))} {front:Bool} {st:ReSt} (h:byt s st.pos=92) (h2:st.pos+1 < s.length) (hc:byt s (st.pos+1)=40):atomF s sub front st=grpM false s sub st:=by
 unfold atomF atomM opAt
 simp only [Bool.false_eq_true,if_false,es_yes h2 h hc,es_no (c:=123) (.inr (.inl (by omega:byt s (st.pos+1)≠123))),es_no (c:=43) (.inr (.inl (by omega:byt s (st.pos+1)≠43))),es_no (c:=63) (.inr (.inl (by omega:byt s (st.pos+1)≠63))),Bool.or_self,Bool.and_false,if_true]
theorem atomF_rep {s:List UInt8} {sub:Option (ReSt→ReRes (ReSt × Nd))} {st:ReSt} (h:byt s st.pos=92) (h2:st.pos+1 < s.length) (hc:byt s (st.pos+1)=43∨byt s (st.pos+1)=63∨byt s (st.pos+1)=123):atomF s sub true st=.error (10,st.pos):=by
 unfold atomF opAt
 simp only [Bool.false_eq_true,if_false]
 rcases hc with hc | hc | hc
 ·rw [es_yes h2 h hc];simp
 ·rw [es_yes h2 h hc];simp
 ·rw [es_yes h2 h hc];simp
theorem rep_found {s:List UInt8} {k:Nat} (h:byt s k=92) (h2:k+1 < s.length) (hc:byt s (k+1)=43∨byt s (k+1)=63∨byt s (k+1)=123):repAt false s k≠.none:=by
 unfold repAt opAt
 simp only [Bool.false_eq_true,if_false,ch_no (show byt s k≠42 by omega)]
 rcases hc with hc | hc | hc
 ·rw [es_yes h2 h hc];simp
 ·rw [es_no (.inr (.inl (show byt s (k+1)≠43 by omega))),es_yes h2 h hc];simp
 ·rw [es_no (.inr (.inl (show byt s (k+1)≠43 by omega))),es_no (.inr (.inl (show byt s (k+1)≠63 by omega))),es_yes h2 h hc]
  simp only [Bool.false_eq_true,if_false,if_true]
  split <;> simp
theorem atomF_esc {s:List UInt8} {sub:Option (ReSt→ReRes (ReSt × Nd))} {front:Bool} {st:ReSt} {c:Nat} (h:byt s st.pos=92) (h2:st.pos+1 < s.length) (hc:byt s (st.pos+1)=c) (h40:c≠40) (h41:c≠41) (h43:c≠43) (h63:c≠63) (h123:c≠123):atomF s sub front st=escM false st c:=by
 have hl:st.pos < s.length:=by omega
 unfold atomF atomM opAt
 simp only [Bool.false_eq_true,if_false,es_no (c:=123) (.inr (.inl (by rw [hc];exact h123:byt s (st.pos+1)≠123))),es_no (c:=43) (.inr (.inl (by rw [hc];exact h43:byt s (st.pos+1)≠43))),es_no (c:=63) (.inr (.inl (by rw [hc];exact h63:byt s (st.pos+1)≠63))),es_no (c:=40) (.inr (.inl (by rw [hc];exact h40:byt s (st.pos+1)≠40))),es_no (c:=41) (.inr (.inl (by rw [hc];exact h41:byt s (st.pos+1)≠41))),Bool.or_self,Bool.and_false,ch_yes hl h,ch_no (show byt s st.pos≠91 by omega),ch_no (show byt s st.pos≠46 by omega),if_true]
 rw [if_pos h2,hc]
theorem escaped_any {B p:Nat} {s:ByteArray} {st:ReSt} {es:List Bool} {dep:Nat} {mv cv:Value} (w:World) (h:Rd B p w s (st.to (st.pos+1)) es dep mv cv) (hb:byt s.data.toList st.pos=92) (front:Bool) (hfr:front=true∨repAt false s.data.toList st.pos=.none) (hen:endsAt s.data.toList st.pos=false)
  (sub:Option (ReSt→ReRes (ReSt × Nd))) (hG:Gl w) (hB:glN≤B) (hfe:es.length≤st.pos) (hgr:GroupOk B p s st es dep sub) :
  Calls Tryz.prog 145 #[.pointer (some ⟨p,0,none⟩),.int .i64 (st.pos:Int)] w fun e w'=>NdAns (atomF s.data.toList sub front st) B p s dep mv cv w e w':=by
 have hsl:s.data.toList.length=s.size:=by simp
 have hps:st.pos+1≤s.size:=h.pos
 by_cases hlt:st.pos+1 < s.size
 ·have hl2:st.pos+1 < s.data.toList.length:=by omega
  have h41:byt s.data.toList (st.pos+1)≠41:=fun e=>by
   unfold endsAt at hen
   rw [es_yes hl2 hb e] at hen
   simp at hen
  by_cases hg:byt s.data.toList (st.pos+1)=40
  ·rw [atomF_grp hb hl2 hg]
   exact escd_grp w h hlt hg sub hG hB hfe hgr
  by_cases hr:byt s.data.toList (st.pos+1)=43∨byt s.data.toList (st.pos+1)=63∨byt s.data.toList (st.pos+1)=123
  ·rcases hfr with rfl | hfr
   ·rw [atomF_rep hb hl2 hr]
    exact escd_rep w h hlt hr
   ·exact (rep_found hb hl2 hr hfr).elim
  ·obtain ⟨c,hc⟩:∃ c,byt s.data.toList (st.pos+1)=c:=⟨_,rfl⟩
   rw [hc] at h41 hg hr
   rw [atomF_esc hb hl2 hc hg h41 (by omega) (by omega) (by omega)]
   by_cases hd:49≤c∧c≤57
   ·exact escd_dig w h hlt c hc hd.1 hd.2
   ·have hp:PlainEsc c:=⟨hg,hd,by omega,by omega,by omega⟩
    have he:escM false st c=match escSet c with
      | none=>.error (2,st.pos)
      | some (t,m)=>.ok ((if m then st.mark c else st).to (st.pos+2),.one t):=by
     unfold escM
     rw [if_neg hd]
     cases escSet c with
     | none=>rfl
     | some q=>obtain ⟨t,m⟩:=q;rfl
    rw [he]
    cases hs:escSet c with
    | none=>exact escd_form w h hlt c hc hp hs
    | some q=>
     obtain ⟨t,m⟩:=q
     cases m with
     | false=>exact escd_set w h hlt c hc hp t hs
     | true=>exact escd_mark w h hlt c hc hp t hs
 ·rw [atomF_tail hb (by omega) (by omega)]
  exact escd_tail w h (by omega)
end Go.Proofs.YtbgfankoojjejaaGreatDoor
