/- Texts. -/
import Derived.Test.YteilldmmihiijaaGreatDoorQt06
import Derived.Test.YteilldmmihiijaaGreatDoorQt02
import Derived.Deep.RegionHeld3
import Derived.ChangeKeysEq
import Derived.Test.YteilldmmihiijaaGreatDoorQt03
import Derived.Test.YteilldmmihiijaaGreatDoorQt05
import Derived.Test.YteilldmmihiijaaGreatDoorQt01
import Derived.WalkKit
import Derived.Deep.QuietTactic
set_option linter.unusedSimpArgs false
set_option linter.unusedVariables false
set_option maxHeartbeats 8000000
set_option maxRecDepth 1000000
namespace Go.Proofs.YteilldmmihiijaaGreatDoor
open Go.Lib renaming hid→Ac8
open Nat renaming le_refl→Adf,lt_of_lt_of_le→Adi
open Go.RowKit.Below renaming refl→Adk
open Go.IntWalk renaming i64_in→Adm
section
open Go Go.RowKit
def Iq (k e:Nat) (r:Ending):Prop:=r=.panicked [{ v:=.iface 198 (.agg #[.int .i64 (k:Int),.int .i64 (e:Int)]),recovered:=false }]
def BdR (r:ReRep) (B p:Nat) (s:ByteArray) (st:ReSt) (es:List Bool) (dep:Nat) (mv cv:Value) (w:World) (e:Ending) (w':World):Prop:=∃ mv',RStep p w mv cv w' mv' cv∧match r with
 | .none=>e=.returned (.tuple #[.int .i64 0,.int .i64 0,.bool false])∧Rd B p w' s st es dep mv' cv
 | .bad=>Iq st.pos 7 e
 | .some mn mx c j=>e=.returned (.tuple #[.int .i64 mn,.int .i64 mx,.bool true])∧Rd B p w' s ((if c=0 then st else st.mark c).to j) es dep mv' cv
theorem Hw {r:ReRep} {B p:Nat} {s:ByteArray} {st:ReSt} {es:List Bool} {dep:Nat} {mv cv mv':Value} {w w':World} {a b:Int} {c j:Nat} (h:r=.some a b c j) (hS:RStep p w mv cv w' mv' cv) (hR:Rd B p w' s ((if c=0 then st else st.mark c).to j) es dep mv' cv) :
  BdR r B p s st es dep mv cv w (.returned (.tuple #[.int .i64 a,.int .i64 b,.bool true])) w':=by subst h;exact ⟨mv',hS,rfl,hR⟩
theorem Vt {r:ReRep} {B p:Nat} {s:ByteArray} {st:ReSt} {es:List Bool} {dep:Nat} {mv cv:Value} {w w':World} (h:r=.none) (hS:RStep p w mv cv w' mv cv) (hR:Rd B p w' s st es dep mv cv) :
  BdR r B p s st es dep mv cv w (.returned (.tuple #[.int .i64 0,.int .i64 0,.bool false])) w':=by subst h;exact ⟨mv,hS,rfl,hR⟩
theorem Y7 {r:ReRep} {B p:Nat} {s:ByteArray} {st:ReSt} {es:List Bool} {dep:Nat} {mv cv:Value} {w w':World} {e:Ending} (h:r=.bad) (hS:RStep p w mv cv w' mv cv) (hE:Iq st.pos 7 e) :
  BdR r B p s st es dep mv cv w e w':=by subst h;exact ⟨mv,hS,hE⟩
structure RdH (W:World) (B p:Nat) (s:ByteArray) (st:ReSt) (es:List Bool) (dep:Nat) (mv cv:Value) (w':World):Prop where
 b:Below W.heap.size W w'
 r:Rd B p w' s st es dep mv cv
abbrev JO (W:World) (B p:Nat) (s:ByteArray) (st:ReSt) (es:List Bool) (dep:Nat) (mv cv:Value) (w':World):Prop:=
 w'.cell? ⟨p,0,none⟩=some (.string s)∧w'.cell? ⟨p,1,none⟩=some (.int .i64 (st.pos:Int))∧RdH W B p s st es dep mv cv w'
theorem RdH.all {W:World} {B p:Nat} {s:ByteArray} {st:ReSt} {es:List Bool} {dep:Nat} {mv cv:Value} {w':World} (h:RdH W B p s st es dep mv cv w'):JO W B p s st es dep mv cv w':=⟨h.r.cells.c0,h.r.cells.c1,h⟩
theorem JP {W:World} {B p:Nat} {s:ByteArray} {st:ReSt} {es:List Bool} {dep:Nat} {mv cv:Value} {w' w'':World} (hb:Below w'.heap.size w' w'') (h:JO W B p s st es dep mv cv w'):JO W B p s st es dep mv cv w'':=
 RdH.all ⟨h.2.2.b.trans (hb.mono h.2.2.b.size),h.2.2.r.below hb⟩
theorem PA {W:World} {B p:Nat} {s:ByteArray} {st:ReSt} {es:List Bool} {dep:Nat} {mv cv:Value} {w':World} (h:JO W B p s st es dep mv cv w'):JO W B p s st es dep mv cv w'.drew:=
 JP (Below.drew (Adk _ _)) h
theorem IF {W:World} {B p k:Nat} {s:ByteArray} {st:ReSt} {es:List Bool} {dep:Nat} {mv cv:Value} {w' w'':World} (hk:st.pos=k) (hb:Below w'.heap.size w' w'') (h:w'.cell? ⟨p,0,none⟩=some (.string s)∧w'.cell? ⟨p,1,none⟩=some (.int .i64 (k:Int))∧RdH W B p s st es dep mv cv w'):w''.cell? ⟨p,0,none⟩=some (.string s)∧w''.cell? ⟨p,1,none⟩=some (.int .i64 (k:Int))∧RdH W B p s st es dep mv cv w'':=by
 subst hk;exact JP hb h
theorem IG {W:World} {B p k:Nat} {s:ByteArray} {st:ReSt} {es:List Bool} {dep:Nat} {mv cv:Value} {w':World} (hk:st.pos=k) (h:w'.cell? ⟨p,0,none⟩=some (.string s)∧w'.cell? ⟨p,1,none⟩=some (.int .i64 (k:Int))∧RdH W B p s st es dep mv cv w'):w'.drew.cell? ⟨p,0,none⟩=some (.string s)∧w'.drew.cell? ⟨p,1,none⟩=some (.int .i64 (k:Int))∧RdH W B p s st es dep mv cv w'.drew:=by
 subst hk;exact PA h
theorem Lk {B p:Nat} {W:World} {s:ByteArray} {st:ReSt} {es:List Bool} {dep:Nat} {mv cv:Value} (h:Rd B p W s st es dep mv cv):JO W B p s st es dep mv cv W:=RdH.all ⟨Adk _ _,h⟩
theorem Acg (s:ByteArray) (k:Nat):KZ (ByteArray.mk #[92,125]).data.toList (s.extract k s.size).data.toList=KZ (CC false) (s.data.toList.drop k):=by rw [BL];rfl
theorem Y8 (s:List UInt8) (k:Nat) (h:KZ (CC false) (s.drop k)=none):Gx false s k=none:=by rw [GN,h];rfl
theorem Y9 (s:List UInt8) (k:Nat) (q:Int × Int × Nat) (h:KZ (CC false) (s.drop k)=some q):Gx false s k=some (q.1,q.2.1,k+q.2.2):=by rw [GN,h];rfl
theorem PB {B p:Nat} {s:ByteArray} {st:ReSt} {es:List Bool} {dep:Nat} {mv cv:Value} (w:World) (h:Rd B p w s st es dep mv cv) :
  Calls Tryz.prog 155 #[.pointer (some ⟨p,0,none⟩)] w fun e w'=>BdR (repAt false s.data.toList st.pos) B p s st es dep mv cv w e w':=by
 obtain ⟨R,hR⟩:∃ R,R=repAt false s.data.toList st.pos:=⟨_,rfl⟩;rw [←hR];have HR:=Ac8 hR;clear hR;have hst:∀ n,Rd B p (w.drewN n) s st es dep mv cv:=fun n=>h.below (below_drewN (Adk w.heap.size w) n)
 have hsn:∀ n,RStep p w mv cv (w.drewN n) mv cv:=fun n=>RStep.of_below (below_drewN (Adk w.heap.size w) n)
 have HST:=Ac8 hst;have HSN:=Ac8 hsn;obtain ⟨c0,c1,c2,c3,c4,z1,z2,z3,z4⟩:=h.cells;clear hst hsn;go_enter Tryz.func155,Tryz.ntmps155;cases q1:chAt s.data.toList st.pos 42
 ·have g1:=Hj ⟨#[42]⟩ w h ((Dw _ _ 42 (by decide)).trans q1)
  go_wp2_with fail
  refine g1.mono ?_;rintro e w2 ⟨rfl,n1,rfl⟩;clear g1;cases q2:BI s.data.toList st.pos 43
  ·have g2:=JL ⟨#[92,43]⟩ _ (HST.out n1) ((BJ _ _ 43 (by decide)).trans q2)
   go_wp2_with fail
   refine g2.mono ?_;rintro e w2 ⟨rfl,n2,rfl⟩;clear g2;rw [show (w.drewN n1).drewN n2=w.drewN (n1+n2) by simp];generalize n1+n2=n3;cases q3:BI s.data.toList st.pos 63
   ·have g3:=JL ⟨#[92,63]⟩ _ (HST.out n3) ((BJ _ _ 63 (by decide)).trans q3)
    go_wp2_with fail
    refine g3.mono ?_;rintro e w2 ⟨rfl,n4,rfl⟩;clear g3;rw [show (w.drewN n3).drewN n4=w.drewN (n3+n4) by simp];generalize n3+n4=n5;cases q4:BI s.data.toList st.pos 123
    ·have g4:=Hj ⟨#[92,123]⟩ _ (HST.out n5) ((BJ _ _ 123 (by decide)).trans q4)
     have HF:=Ac8 (HR.out.trans (Vj q1 q2 q3 q4));clear q1 q2 q3 q4;go_wp2_with fail
     refine g4.mono ?_;rintro e w2 ⟨rfl,n6,rfl⟩;go_wp2_with fail
     go_ret3
     exact Vt HF.out (HSN.out _) (HST.out _)
    ·have g4:=FC ⟨#[92,123]⟩ _ (HST.out n5) ((BJ _ _ 123 (by decide)).trans q4) (by simp)
     go_wp2_with fail
     refine g4.mono ?_;rintro e w2 ⟨rfl,hR2,hS2⟩;replace hS2:=(HSN.out n5).trans hS2;clear g4;have hall:=Lk hR2;obtain ⟨c0,c1,c2,c3,c4,z1,z2,z3,z4⟩:=hR2.cells;have hp2:(st.to (st.pos+(ByteArray.mk #[92,123]).size)).pos=st.pos+2:=rfl;rw [hp2] at c1;have hlen:st.pos+2≤s.size:=hR2.pos;have hlen2:((st.pos+2:Nat):Int)≤(s.size:Int):=by omega
     have hsm:=hR2.small;have g5:=fun w=>Lj (s.extract (st.pos+2) s.size) ⟨#[92,125]⟩ w (by rw [EH];omega) (by simp)
     rw [Acg] at g5;generalize hst2:st.to (st.pos+(ByteArray.mk #[92,123]).size)=st2 at *;have hk2:st2.pos=st.pos+2:=by rw [←hst2];rfl
     unfold JO at hall;rw [hk2] at hall;have HK2:=Ac8 hk2;have HST2:=Ac8 hst2;clear hk2 hst2 hp2;cases hiv:KZ (CC false) (s.data.toList.drop (st.pos+2)) with
     | none=>
      rw [hiv,show JM none=.returned (.tuple #[.int .i64 0,.int .i64 0,.int .i64 0,.bool false]) from rfl] at g5;have HF:=Ac8 (HR.out.trans (Yu q1 q2 q3 q4 (Y8 _ _ hiv)));clear q1 q2 q3 q4 hiv;generalize st.pos+2=k2 at *;go_wp2_with fail
      go_region_held3 (fun w'=>(w'.cell? ⟨p,0,none⟩=some (.string s)∧w'.cell? ⟨p,1,none⟩=some (.int .i64 ((k2:Nat):Int))∧RdH w2 B p s st2 es dep mv cv w'))
       (first | (with_reducible exact hall) | (with_reducible exact IF HK2.out hbX (by assumption)) | (with_reducible exact IG HK2.out (by assumption)))
       (first | (go_at_call 147;refine (g5 _).mono ?_;rintro e w' ⟨rfl,hbX⟩))
      go_wp2_with fail
      go_split_ands
      exact ⟨rfl,Y7 HF.out (hS2.trans (RStep.of_below (RdH.b (by assumption)))) rfl⟩
     | some q=>
      rw [hiv,show JM (some q)=.returned (.tuple #[.int .i64 q.1,.int .i64 q.2.1,.int .i64 (q.2.2:Int),.bool true]) from rfl] at g5;have HF:=Ac8 (HR.out.trans (Vm (m:=q.1) (n:=q.2.1) (j:=st.pos+2+q.2.2) q1 q2 q3 q4 (Y9 _ _ _ hiv)));have hql:=Vi _ _ _ (by simp [CC]) hiv;rw [List.length_drop] at hql;have hsl:s.data.toList.length=s.size:=by simp
      have Wn:IntKind.i64.wrap (((st.pos+2:Nat):Int)+(q.2.2:Int))=((st.pos+2+q.2.2:Nat):Int):=by rw [Adm _ (by omega)];omega
      have hqs:st.pos+2+q.2.2≤s.size:=by omega
      have HQ:=Ac8 hqs;generalize q.1=qa at *;generalize q.2.1=qb at *;generalize q.2.2=qc at *;clear q1 q2 q3 q4 hiv hql hsl hqs;generalize st.pos+2=k2 at *;go_wp2_with fail
      go_region_held3 (fun w'=>(w'.cell? ⟨p,0,none⟩=some (.string s)∧w'.cell? ⟨p,1,none⟩=some (.int .i64 ((k2:Nat):Int))∧RdH w2 B p s st2 es dep mv cv w'))
       (first | (with_reducible exact hall) | (with_reducible exact IF HK2.out hbX (by assumption)) | (with_reducible exact IG HK2.out (by assumption)))
       (first | (go_at_call 147;refine (g5 _).mono ?_;rintro e w' ⟨rfl,hbX⟩))
      go_split_ands
      rename_i w5 _ _ hX;clear c0 c1 c2 c3 c4 z1 z2 z3 z4;obtain ⟨hb5,hR5⟩:=hX;obtain ⟨c0,c1,c2,c3,c4,z1,z2,z3,z4⟩:=hR5.cells;rw [HK2.out] at c1;have hg:=Ac8 (hR5.goto (k2+qc) (by rw [HK2.out];omega) HQ.out);have hS5:=hS2.trans (RStep.of_below (p:=p) (mv:=mv) (cv:=cv) hb5);go_wp2_with fail
      go_ret3
      exact Hw HF.out (hS5.trans hg.out.2) (by have:=hg.out.1;rw [←HST2.out] at this;exact this)
   ·have g3:=Ip 63 _ (HST.out n3) ((BJ _ _ 63 (by decide)).trans q3)
    have HF:=Ac8 (HR.out.trans (Yt q1 q2 q3));clear q1 q2 q3;go_wp2_with fail
    refine g3.mono ?_;rintro e w2 ⟨rfl,mv',hR2,hS2⟩;go_wp2_with fail
    go_ret3
    exact Hw HF.out ((HSN.out n3).trans hS2) hR2
  ·have g2:=Ip 43 _ (HST.out n1) ((BJ _ _ 43 (by decide)).trans q2)
   have HF:=Ac8 (HR.out.trans (Vl q1 q2));clear q1 q2;go_wp2_with fail
   refine g2.mono ?_;rintro e w2 ⟨rfl,mv',hR2,hS2⟩;go_wp2_with fail
   go_ret3
   exact Hw HF.out ((HSN.out n1).trans hS2) hR2
 ·have g1:=FC ⟨#[42]⟩ w h ((Dw _ _ 42 (by decide)).trans q1) (by simp)
  have HF:=Ac8 (HR.out.trans (Vk q1));clear q1;go_wp2_with fail
  refine g1.mono ?_;rintro e w2 ⟨rfl,hR2,hS2⟩;go_wp2_with fail
  go_ret3
  exact Hw HF.out hS2 hR2
end
section
open Go Go.RowKit
theorem DI {B p:Nat} {s:ByteArray} {st:ReSt} {es:List Bool} {dep:Nat} {mv cv:Value} (n k:Nat) (w:World) (h:Rd B p w s st es dep mv cv) (h1:1≤n) (hn:st.closed.contains (n:Int)=false) :
  Calls Tryz.prog 170 #[.pointer (some ⟨p,0,none⟩),.int .i64 (k:Int),.int .i64 (n:Int)] w fun e w'=>Iq k 9 e∧w=w':=by
 obtain ⟨c0,c1,c2,c3,c4,z1,z2,z3,z4⟩:=h.cells;have hr:=h.rr.2 (n:Int);rw [hn,decide_eq_true (show (1:Int)≤(n:Int) by omega),Bool.true_and] at hr;obtain ⟨a,cap,rfl,hl1,hl2,hx⟩:=FY h.co (by simp);unfold maxLen at hl2;have hes:=h.few.2;have hsm:=h.small;have hps:=h.pos;clear h;unfold Iq;by_cases hlen:n≤es.length
 ·rw [decide_eq_true (show (n:Int)≤(es.length:Int) by omega),Bool.true_and] at hr
  obtain ⟨g,rfl,_,hg,hc⟩:=hx (by omega);have hcn:=hc (n - 1) (by simp;omega);have he:es.getD (n - 1) false=false:=by
   rw [show ((n:Int) - 1).toNat=n - 1 by omega] at hr;exact hr.symm
  have hcb:w.cell? ⟨g,n - 1,none⟩=some (.bool false):=by
   rw [Nat.zero_add] at hcn;rw [hcn,List.getElem_map];rw [List.getD_eq_getElem?_getD,List.getElem?_eq_getElem (by omega),Option.getD_some] at he;rw [he]
  have e1:decide ((es.length:Int) < (n:Int))=false:=by simp;omega
  have e2:decide (es.length < n)=false:=by simp;omega
  have Wn:IntKind.i64.wrap ((n:Int) - 1)=((n - 1:Nat):Int):=by rw [Adm _ (by omega)];omega
  have hlt:((n - 1:Nat):Int) < (es.length:Int):=by omega
  clear hr hc hx hcn he;generalize n - 1=m at *;go_enter Tryz.func170,Tryz.ntmps170;go_wp2_with fail
  exact ⟨rfl,rfl,rfl⟩
 ·have e1:decide ((es.length:Int) < (n:Int))=true:=by simp;omega
  have e2:decide (es.length < n)=true:=by simp;omega
  clear hr hx;go_enter Tryz.func170,Tryz.ntmps170;go_wp2_with fail
  exact ⟨rfl,rfl,rfl⟩
theorem CY {B p:Nat} {s:ByteArray} {st:ReSt} {es:List Bool} {dep:Nat} {mv cv:Value} (n k:Nat) (w:World) (h:Rd B p w s st es dep mv cv) (h1:1≤n) (hn:st.closed.contains (n:Int)=true) :
  Calls Tryz.prog 170 #[.pointer (some ⟨p,0,none⟩),.int .i64 (k:Int),.int .i64 (n:Int)] w fun e w'=>e=.returned (.iface 117 (.agg #[.int .i64 (n:Int)]))∧w=w':=by
 obtain ⟨c0,c1,c2,c3,c4,z1,z2,z3,z4⟩:=h.cells;have hr:=h.rr.2 (n:Int);rw [hn,decide_eq_true (show (1:Int)≤(n:Int) by omega),Bool.true_and] at hr;obtain ⟨a,cap,rfl,hl1,hl2,hx⟩:=FY h.co (by simp);unfold maxLen at hl2;have hes:=h.few.2;have hsm:=h.small;have hps:=h.pos;clear h;have hr2:=(Bool.and_eq_true_iff.1 hr.symm)
 have hlen:n≤es.length:=by have:=of_decide_eq_true hr2.1;omega
 obtain ⟨g,rfl,_,hg,hc⟩:=hx (by omega);have hcn:=hc (n - 1) (by simp;omega);have he:es.getD (n - 1) false=true:=by
  have:=hr2.2;rw [show ((n:Int) - 1).toNat=n - 1 by omega] at this;exact this
 have hcb:w.cell? ⟨g,n - 1,none⟩=some (.bool true):=by
  rw [Nat.zero_add] at hcn;rw [hcn,List.getElem_map];rw [List.getD_eq_getElem?_getD,List.getElem?_eq_getElem (by omega),Option.getD_some] at he;rw [he]
 have e1:decide ((es.length:Int) < (n:Int))=false:=by simp;omega
 have e2:decide (es.length < n)=false:=by simp;omega
 have Wn:IntKind.i64.wrap ((n:Int) - 1)=((n - 1:Nat):Int):=by rw [Adm _ (by omega)];omega
 have hlt:((n - 1:Nat):Int) < (es.length:Int):=by omega
 clear hr hr2 hc hx hcn he;generalize n - 1=m at *;go_enter Tryz.func170,Tryz.ntmps170;go_wp2_with fail
 go_ret;exact ⟨rfl,rfl⟩
end
section
open Go.RowKit
theorem Aba (a b c d:Int) (w:World):(part 107 #[.int .u64 a,.int .u64 b,.int .u64 c,.int .u64 d] (0 * 1)).run Tryz.prog w=.ok (.int .u64 a) w:=by kernel_rfl
theorem YA (a b c d:Int) (w:World):(part 107 #[.int .u64 a,.int .u64 b,.int .u64 c,.int .u64 d] 1).run Tryz.prog w=.ok (.int .u64 b) w:=by kernel_rfl
theorem YB (a b c d:Int) (w:World):(part 107 #[.int .u64 a,.int .u64 b,.int .u64 c,.int .u64 d] 2).run Tryz.prog w=.ok (.int .u64 c) w:=by kernel_rfl
theorem YC (a b c d:Int) (w:World):(part 107 #[.int .u64 a,.int .u64 b,.int .u64 c,.int .u64 d] 3).run Tryz.prog w=.ok (.int .u64 d) w:=by kernel_rfl
theorem Ss (a b c d a' b' c' d':Int) (w:World):(Op.eqItems 9999 107 1 #[.int .u64 a,.int .u64 b,.int .u64 c,.int .u64 d] #[.int .u64 a',.int .u64 b',.int .u64 c',.int .u64 d'] [0,1,2,3]).run Tryz.prog w=.ok (a == a' && (b == b' && (c == c' && d == d'))) w:=by
 have h:=fun (x y:Int) (w:World)=>(run_equalIn_int (P:=Tryz.prog) w 9998 107 .u64 .u64 x y Tryz.underlying107:(Op.equalIn 9999 107 (.int .u64 x) (.int .u64 y)).run Tryz.prog w=_)
 simp only [Op.eqItems,Sem.run_bind,Aba,h,Result.andThen_ok];cases ha:a == a' <;> cases hb:b == b' <;> cases hc:c == c' <;> cases hd:d == d' <;> simp [ha,hb,hc,hd,h,YA,YB,YC]
theorem Vu (s t:OSet):(ow s 0 == ow t 0 && (ow s 1 == ow t 1 && (ow s 2 == ow t 2 && ow s 3 == ow t 3)))=decide (s=t):=by
 by_cases h:s=t
 ·subst h;simp
 ·have h2:=QJ h
  rw [decide_eq_false h];cases hx:(ow s 0 == ow t 0 && (ow s 1 == ow t 1 && (ow s 2 == ow t 2 && ow s 3 == ow t 3)))
  ·rfl
  ·exfalso
   simp only [Bool.and_eq_true,beq_iff_eq] at hx;exact h2 hx
theorem Vv (s t:OSet) (w:World):(Op.equalIn 10000 109 (.agg #[.int .u64 (ow s 0),.int .u64 (ow s 1),.int .u64 (ow s 2),.int .u64 (ow s 3)]) (.agg #[.int .u64 (ow t 0),.int .u64 (ow t 1),.int .u64 (ow t 2),.int .u64 (ow t 3)])).run Tryz.prog w=.ok (decide (s=t)) w:=by
 have hc:Tryz.prog.cellsOf 107=1:=by kernel_rfl
 have hi0:(Tryz.prog.info? 107).isSome=true:=by kernel_rfl
 obtain ⟨i,hi⟩:=Option.isSome_iff_exists.1 hi0;rw [run_equalIn_array w 9999 (e:=107) (n:=4) _ _ Tryz.underlying109 hi];rw [hc,show List.range 4=[0,1,2,3] from rfl,Ss,Vu]
end
section
open Go.RowKit
theorem PC (s:ByteArray) (i j:Nat):(s.extract i j).toList=sub s.data.toList i j:=by
 rw [ByteArray.toList_eq,ByteArray.data_extract,Array.toList_extract,List.extract_eq_take_drop];rfl
theorem YD (s:ByteArray) (i j:Nat) (h:i < j):byt (s.extract i j).data.toList 0=byt s.data.toList i:=by
 rw [ByteArray.data_extract,Array.toList_extract,List.extract_eq_take_drop];unfold byt;rw [List.getD_eq_getElem?_getD,List.getD_eq_getElem?_getD,List.getElem?_take_of_lt (by omega),List.getElem?_drop];rfl
def St (s:List UInt8) (k o:Nat):Bool:=decide (k+1 < s.length) && decide (byt s k=91) && decide (byt s (k+1)=o)
theorem Ll (s:List UInt8) (k:Nat):opens s k=(St s k 58 || St s k 61 || St s k 46):=by
 unfold opens St;cases decide (k+1 < s.length) <;> cases decide (byt s k=91) <;> cases decide (byt s (k+1)=58) <;> cases decide (byt s (k+1)=61) <;> rfl
theorem Su (s:ByteArray) (k o:Nat) (w:World) (ho:o < 256) :
  Calls Tryz.prog 23 #[.string (s.extract k s.size),.string (strOfNums [91,(o:Int)])] w fun e w'=>e=.returned (.bool (St s.data.toList k o))∧w=w':=by
 have h:=Ck (s.extract k s.size) (strOfNums [((91:Nat):Int),(o:Int)]) w;rw [BL,Nj,show UInt8.ofNat 91=91 from rfl,XJ,show (UInt8.ofNat o).toNat=o by simp;omega] at h;exact h
def Vw (a:Itm):Value:=GD a.set a.may (if a.err=0 then a.next else a.place) a.err
theorem G6 (s:ByteArray) (k o:Nat) (w:World) (hs:s.size≤1000000) (hp:St s.data.toList k o=true) (ho:o=58∨o=61∨o=46) (hG:Gl w) :
  Calls Tryz.prog 183 #[.string s,.int .i64 (k:Int),.int .u8 (o:Int)] w fun e w'=>e=.returned (Vw (ET s.data.toList k))∧Below w.heap.size w w':=by
 have hop:opens s.data.toList k=true:=by
  rw [Ll];rcases ho with rfl | rfl | rfl <;> rw [hp] <;> simp
 unfold St at hp;simp only [Bool.and_eq_true,decide_eq_true_eq,Ar] at hp;obtain ⟨⟨hk,h91⟩,hb⟩:=hp;have hi:ET s.data.toList k=(match Ng s.data.toList o (Gj s.data.toList k) with
   | some e=>KX s.data.toList k e
   | none=>⟨oz,false,0,5,s.data.toList.length⟩):=by
  unfold ET;rw [if_neg (by rw [Ar];omega),if_pos hop,hb];rfl
 have hf:Gj s.data.toList k=if o=58 then k+2 else k+3:=by unfold Gj;rw [hb]
 have hcl:∀ w,Gl w→Calls Tryz.prog 185 #[.string s,.int .i64 ((k:Int)+2),.int .u8 (o:Int)] w fun e w'=>e=.returned (.int .i64 (Sf s.data.toList o (Gj s.data.toList k)))∧Below w.heap.size w w':=by
  intro w hG;obtain ⟨m,hm⟩:=hG.ml;rw [hf];by_cases h58:o=58
  ·rw [if_pos h58]
   exact Uy s (k+2) o w m hs (by omega) (by omega) h58 hm (Adi (by decide) hG.lt)
  ·rw [if_neg h58]
   exact OY s (k+2) o w m hs (by omega) (by omega) h58 hm (Adi (by decide) hG.lt)
 cases hx:Ng s.data.toList o (Gj s.data.toList k) with
 | none=>
  rw [hx] at hi;simp only at hi;rw [hi];have hc0:Sf s.data.toList o (Gj s.data.toList k)=-1:=by unfold Sf;rw [hx]
  refine (Nk s k o w hs (by omega) hG (fun w hG=>by have:=hcl w hG;rw [hc0] at this;exact this)).mono ?_;rintro e w' ⟨rfl,b⟩;refine ⟨?_,b⟩;unfold Vw;rw [Ar];rfl
 | some x=>
  rw [hx] at hi;simp only at hi;rw [hi];have hge:=J1 _ _ _ _ hx;rw [Ar] at hge;have hc0:Sf s.data.toList o (Gj s.data.toList k)=(x:Int):=by unfold Sf;rw [hx]
  have hcl2:∀ w,Gl w→Calls Tryz.prog 185 #[.string s,.int .i64 ((k:Int)+2),.int .u8 (o:Int)] w fun e w'=>e=.returned (.int .i64 (x:Int))∧Below w.heap.size w w':=fun w hG=>by
   have:=hcl w hG;rw [hc0] at this;exact this
  unfold KX;rw [hb];by_cases h58:o=58
  ·rw [if_pos h58] at hf ⊢
   refine (F3 s k o x (A4 (sub s.data.toList (k+2) x)) false (CA (sub s.data.toList (k+2) x)) w hs (by omega) hG (by omega) (by omega) hcl2 (fun w=>?_)).mono ?_
   ·have:=XP (s.extract (k+2) x) w
    rw [PC] at this;rw [h58];exact this
   ·rintro e w' ⟨rfl,b⟩
    refine ⟨?_,b⟩;cases CA (sub s.data.toList (k+2) x) <;> rfl
  ·rw [if_neg h58] at hf ⊢
   by_cases hx3:x=k+3
   ·rw [if_pos hx3]
    refine (F3 s k o x (Ab (byt s.data.toList (k+2)) (byt s.data.toList (k+2))) (decide (o=46)) true w hs (by omega) hG (by omega) (by omega) hcl2 (fun w=>?_)).mono ?_
    ·have:=Se (s.extract (k+2) x) (o:Int) w (by omega) (by simp;omega)
     rw [YD s (k+2) x (by omega)] at this;rw [show decide (o=46)=((o:Int) == 46) by rcases ho with rfl | rfl | rfl <;> rfl];exact this
    ·rintro e w' ⟨rfl,b⟩
     exact ⟨rfl,b⟩
   ·rw [if_neg hx3]
    refine (F3 s k o x oz false false w hs (by omega) hG (by omega) (by omega) hcl2 (fun w=>OX (s.extract (k+2) x) (o:Int) w (by omega) (by simp;omega))).mono ?_;rintro e w' ⟨rfl,b⟩;exact ⟨rfl,b⟩
theorem PD (a b c:Int) (w:World):(Instr.index 266 (.agg #[.int .u8 a,.int .u8 b,.int .u8 c]) (.int .i64 0)).run Tryz.prog w=.ok (.int .u8 a) w:=by kernel_rfl
theorem PE (a b c:Int) (w:World):(Instr.index 266 (.agg #[.int .u8 a,.int .u8 b,.int .u8 c]) (.int .i64 1)).run Tryz.prog w=.ok (.int .u8 b) w:=by kernel_rfl
theorem PF (a b c:Int) (w:World):(Instr.index 266 (.agg #[.int .u8 a,.int .u8 b,.int .u8 c]) (.int .i64 2)).run Tryz.prog w=.ok (.int .u8 c) w:=by kernel_rfl
theorem Ir (s:ByteArray) (k:Nat) (w:World) (hs:s.size≤1000000) (hk:k < s.size) (hG:Gl w) :
  Calls Tryz.prog 171 #[.string s,.int .i64 (k:Int)] w fun e w'=>e=.returned (Vw (ET s.data.toList k))∧Below w.heap.size w w':=by
 obtain ⟨cs,may,pl,er,hv⟩:∃ cs m pl er,Vw (ET s.data.toList k)=GD cs m pl er:=⟨_,_,_,_,rfl⟩;rw [hv];have Hv:=Ac8 hv;clear hv;have hB:=Blk.new w #[.int .u64 0,.int .u64 0,.int .u64 0,.int .u64 0,.bool false] 261 _ rfl;have hW:=(Adk w.heap.size w).alloc (Adf _) (.cells #[.int .u64 0,.int .u64 0,.int .u64 0,.int .u64 0,.bool false] 261);have hG1:=hG.up hW;obtain ⟨_,o0,o1,o2,_,_⟩:=hG1;have i0:=PD 58 61 46;have i1:=PE 58 61 46;have i2:=PF 58 61 46;go_enter Tryz.func171,Tryz.ntmps171;go_wp2_with fail
 clear o0 o1 o2;go_loopw [10] (fun i wr=>∃ j:Nat,j≤3∧i=.int .i64 j∧(0 < j→St s.data.toList k 58=false)∧(1 < j→St s.data.toList k 61=false)∧(2 < j→St s.data.toList k 46=false)∧Below w.heap.size w wr∧Blk wr w.heap.size #[.int .u64 0,.int .u64 0,.int .u64 0,.int .u64 0,.bool false] 261) (fun i _=>4 - (intOf i).toNat)
 case atStart=>exact ⟨0,by omega,rfl,fun h=>by omega,fun h=>by omega,fun h=>by omega,hW,hB⟩
 case round=>
  clear hW hB;obtain ⟨j,hj,rfl,p0,p1,p2,hW,hB⟩:=hrel;have hG1:=hG.up hW;obtain rfl | rfl | rfl | rfl:j=0∨j=1∨j=2∨j=3:=by omega
  ·have kc:=FW wr 91 58
   have hGd:Gl (wr.alloc (.cells #[.int .u8 91,.int .u8 58] 5)).drew:=hG.up (hW.alloc hW.size _).drew;cases hp:St s.data.toList k 58
   ·go_wp2_with fail
    go_region_with (go_at_call 23;refine (Su s k 58 _ (by decide)).mono ?_;rintro e w1 ⟨rfl,rfl⟩)
    go_wp2_with fail
    all_goals exact ⟨⟨1,by decide,rfl,(by first | exact fun _=>hp | exact fun _=>trivial | exact fun h=>absurd h (by decide)),(by first | exact fun _=>hp | exact fun _=>trivial | exact fun h=>absurd h (by decide)),(by first | exact fun _=>hp | exact fun _=>trivial | exact fun h=>absurd h (by decide)),(hW.alloc hW.size _).drew,(hB.alloc _).drew⟩,by simp [intOf]⟩
   ·go_wp2_with fail
    go_region_with (go_at_call 23;refine (Su s k 58 _ (by decide)).mono ?_;rintro e w1 ⟨rfl,rfl⟩)
    go_wp2_with fail
    all_goals
     refine (G6 s k 58 _ hs hp (by decide) hGd).mono ?_;rintro e w1 ⟨he,b1⟩;rw [Hv.out] at he;subst he;replace hW:=(hW.alloc hW.size _).drew.trans (b1.mono (hW.alloc hW.size _).size);replace hB:=(hB.alloc _).drew.below b1 (hB.alloc _).lt;clear b1 hGd kc;obtain ⟨d0,d1,d2,d3,d4⟩:=BQ hB;have f0:=hB.frozen 0;have f1:=hB.frozen 1;have f2:=hB.frozen 2;have f3:=hB.frozen 3;have f4:=hB.frozen 4;have hlB:=hB.lt;unfold GD;go_wp2_with fail
     refine bodyPost_ret (v:=GD cs may pl er) (by simp [results,Tryz.results171,go_sem,d0,d1,d2,d3,d4,GD,hlB]) rfl ⟨rfl,?_⟩
     repeat (first | (with_reducible exact hW) | refine Below.setCell ?_ (by first | omega | (simp;omega) | simp) _ | refine Below.alloc ?_ (by first | omega | (simp;omega) | simp) _)
  ·have kc:=FW wr 91 61
   have hGd:Gl (wr.alloc (.cells #[.int .u8 91,.int .u8 61] 5)).drew:=hG.up (hW.alloc hW.size _).drew;have q0:=p0 (by decide);cases hp:St s.data.toList k 61
   ·go_wp2_with fail
    go_region_with (go_at_call 23;refine (Su s k 61 _ (by decide)).mono ?_;rintro e w1 ⟨rfl,rfl⟩)
    go_wp2_with fail
    all_goals exact ⟨⟨2,by decide,rfl,(by first | exact fun _=>hp | exact fun _=>trivial | exact fun h=>absurd h (by decide) | exact fun _=>q0),(by first | exact fun _=>hp | exact fun _=>trivial | exact fun h=>absurd h (by decide) | exact fun _=>q0),(by first | exact fun _=>hp | exact fun _=>trivial | exact fun h=>absurd h (by decide) | exact fun _=>q0),(hW.alloc hW.size _).drew,(hB.alloc _).drew⟩,by simp [intOf]⟩
   ·go_wp2_with fail
    go_region_with (go_at_call 23;refine (Su s k 61 _ (by decide)).mono ?_;rintro e w1 ⟨rfl,rfl⟩)
    go_wp2_with fail
    all_goals
     refine (G6 s k 61 _ hs hp (by decide) hGd).mono ?_;rintro e w1 ⟨he,b1⟩;rw [Hv.out] at he;subst he;replace hW:=(hW.alloc hW.size _).drew.trans (b1.mono (hW.alloc hW.size _).size);replace hB:=(hB.alloc _).drew.below b1 (hB.alloc _).lt;clear b1 hGd kc;obtain ⟨d0,d1,d2,d3,d4⟩:=BQ hB;have f0:=hB.frozen 0;have f1:=hB.frozen 1;have f2:=hB.frozen 2;have f3:=hB.frozen 3;have f4:=hB.frozen 4;have hlB:=hB.lt;unfold GD;go_wp2_with fail
     refine bodyPost_ret (v:=GD cs may pl er) (by simp [results,Tryz.results171,go_sem,d0,d1,d2,d3,d4,GD,hlB]) rfl ⟨rfl,?_⟩
     repeat (first | (with_reducible exact hW) | refine Below.setCell ?_ (by first | omega | (simp;omega) | simp) _ | refine Below.alloc ?_ (by first | omega | (simp;omega) | simp) _)
  ·have kc:=FW wr 91 46
   have hGd:Gl (wr.alloc (.cells #[.int .u8 91,.int .u8 46] 5)).drew:=hG.up (hW.alloc hW.size _).drew;have q0:=p0 (by decide);have q1:=p1 (by decide);cases hp:St s.data.toList k 46
   ·go_wp2_with fail
    go_region_with (go_at_call 23;refine (Su s k 46 _ (by decide)).mono ?_;rintro e w1 ⟨rfl,rfl⟩)
    go_wp2_with fail
    all_goals exact ⟨⟨3,by decide,rfl,(by first | exact fun _=>hp | exact fun _=>trivial | exact fun h=>absurd h (by decide) | exact fun _=>q0 | exact fun _=>q1),(by first | exact fun _=>hp | exact fun _=>trivial | exact fun h=>absurd h (by decide) | exact fun _=>q0 | exact fun _=>q1),(by first | exact fun _=>hp | exact fun _=>trivial | exact fun h=>absurd h (by decide) | exact fun _=>q0 | exact fun _=>q1),(hW.alloc hW.size _).drew,(hB.alloc _).drew⟩,by simp [intOf]⟩
   ·go_wp2_with fail
    go_region_with (go_at_call 23;refine (Su s k 46 _ (by decide)).mono ?_;rintro e w1 ⟨rfl,rfl⟩)
    go_wp2_with fail
    all_goals
     refine (G6 s k 46 _ hs hp (by decide) hGd).mono ?_;rintro e w1 ⟨he,b1⟩;rw [Hv.out] at he;subst he;replace hW:=(hW.alloc hW.size _).drew.trans (b1.mono (hW.alloc hW.size _).size);replace hB:=(hB.alloc _).drew.below b1 (hB.alloc _).lt;clear b1 hGd kc;obtain ⟨d0,d1,d2,d3,d4⟩:=BQ hB;have f0:=hB.frozen 0;have f1:=hB.frozen 1;have f2:=hB.frozen 2;have f3:=hB.frozen 3;have f4:=hB.frozen 4;have hlB:=hB.lt;unfold GD;go_wp2_with fail
     refine bodyPost_ret (v:=GD cs may pl er) (by simp [results,Tryz.results171,go_sem,d0,d1,d2,d3,d4,GD,hlB]) rfl ⟨rfl,?_⟩
     repeat (first | (with_reducible exact hW) | refine Below.setCell ?_ (by first | omega | (simp;omega) | simp) _ | refine Below.alloc ?_ (by first | omega | (simp;omega) | simp) _)
  ·have hop:opens s.data.toList k=false:=by rw [Ll,p0 (by decide),p1 (by decide),p2 (by decide)];rfl
   have Hi:=Ac8 (show ET s.data.toList k=⟨Ab (s[k].toNat:Int) (s[k].toNat:Int),true,k+1,0,0⟩ by
    unfold ET;rw [if_neg (by rw [Ar];omega),hop,if_neg (by decide),BH s k hk])
   have Wk:IntKind.i64.wrap ((k:Int)+1)=(k:Int)+1:=Adm _ (by omega);clear hop p0 p1 p2;go_wp2_with fail
   refine (C8 (s[k].toNat:Int) (ZU _) (ZV _) _ _ (by simp)).mono ?_;rintro e w1 ⟨rfl,b1⟩;rw [DE];replace hW:=hW.trans (b1.mono hW.size);replace hB:=hB.below b1 hB.lt;clear b1;obtain ⟨d0,d1,d2,d3,d4⟩:=BQ hB;have f0:=hB.frozen 0;have f1:=hB.frozen 1;have f2:=hB.frozen 2;have f3:=hB.frozen 3;have f4:=hB.frozen 4;have hlB:=hB.lt;go_wp2_with fail
   refine bodyPost_ret (v:=GD (Ab (s[k].toNat:Int) (s[k].toNat:Int)) true (k+1) 0) (by simp [results,Tryz.results171,go_sem,d0,d1,d2,d3,d4,GD,hlB]) rfl ⟨?_,?_⟩
   ·rw [←Hv.out,Hi.out];rfl
   ·repeat (first | (with_reducible exact hW) | refine Below.setCell ?_ (by first | omega | (simp;omega) | simp) _ | refine Below.alloc ?_ (by first | omega | (simp;omega) | simp) _)
end
section
open Go.RowKit
theorem YE (s:List UInt8) (k:Nat) (h:(ET s k).err≠0):(ET s k).set=oz:=by
 unfold ET at h ⊢;split
 ·rfl
 ·rename_i hk
  rw [if_neg hk] at h;split
  ·rename_i ho
   rw [if_pos ho] at h;split
   ·rename_i e he
    rw [he] at h;simp only at h;unfold KX at h ⊢;split
    ·rename_i h1
     rw [if_pos h1] at h;split
     ·rename_i h2
      rw [if_pos h2] at h;simp at h
     ·rfl
    ·rename_i h1
     rw [if_neg h1] at h;split
     ·rename_i h2
      rw [if_pos h2] at h;simp at h
     ·rfl
   ·rfl
  ·rename_i ho
   rw [if_neg ho] at h;simp at h
def Gb (t:OSet) (j er:Nat):Value:=.tuple #[.agg #[.int .u64 (ow t 0),.int .u64 (ow t 1),.int .u64 (ow t 2),.int .u64 (ow t 3)],.int .i64 (j:Int),.int .i64 (er:Int)]
theorem Vx (s:OSet) (w:World):(Op.equalIn 10000 109 (.agg #[.int .u64 (ow s 0),.int .u64 (ow s 1),.int .u64 (ow s 2),.int .u64 (ow s 3)]) (.agg #[.int .u64 0,.int .u64 0,.int .u64 0,.int .u64 0])).run Tryz.prog w=.ok (decide (s=oz)) w:=by
 have h:=Vv s oz w;rw [Al,Al,Al,Al] at h;exact h
/-- What the first item alone decides: an error, or no range behind it. -/
theorem NI (s:ByteArray) (k:Nat) (w:World) (hs:s.size≤1000000) (hk:k < s.size) (hG:Gl w) (A:OSet) (ma:Bool) (nx er:Nat)
  (hv:Vw (ET s.data.toList k)=GD A ma nx er) (hd:er≠0∨(nx≤s.size∧Xz s.data.toList nx=false)) :
  Calls Tryz.prog 167 #[.string s,.int .i64 (k:Int)] w fun e w'=>e=.returned (Gb A nx er)∧Below w.heap.size w w':=by
 have hB:=Blk.new w #[.int .u64 0,.int .u64 0,.int .u64 0,.int .u64 0] 109 _ rfl;have hW:=(Adk w.heap.size w).alloc (Adf _) (.cells #[.int .u64 0,.int .u64 0,.int .u64 0,.int .u64 0] 109);have hG1:=hG.up hW;go_enter Tryz.func167,Tryz.ntmps167;go_wp2_with fail
 refine (Ir s k _ hs hk hG1).mono ?_;rintro e w1 ⟨he,b1⟩;rw [hv] at he;subst he;clear hv hG1;replace hW:=hW.trans (b1.mono hW.size);replace hB:=hB.below b1 hB.lt;clear b1;obtain ⟨d0,d1,d2,d3⟩:=Ah hB;have f0:=hB.frozen 0;have f1:=hB.frozen 1;have f2:=hB.frozen 2;have f3:=hB.frozen 3;have hlB:=hB.lt;unfold GD;by_cases her:er=0
 ·subst her
  obtain ⟨hnx,hdd⟩:=hd.resolve_left (by simp);clear hd;go_wp2_with fail
  refine (Ni s nx _ (by omega) hnx).mono ?_;rintro e w2 ⟨he,b2⟩;rw [hdd] at he;subst he;have hF:=(Blk.new w1 #[.int .u64 (ow A 0),.int .u64 (ow A 1),.int .u64 (ow A 2),.int .u64 (ow A 3),.bool ma] 261 _ rfl).below b2 (by simp);replace hW:=(hW.alloc hW.size (.cells #[.int .u64 (ow A 0),.int .u64 (ow A 1),.int .u64 (ow A 2),.int .u64 (ow A 3),.bool ma] 261)).trans (b2.mono (hW.alloc hW.size _).size);replace hB:=(hB.alloc (.cells #[.int .u64 (ow A 0),.int .u64 (ow A 1),.int .u64 (ow A 2),.int .u64 (ow A 3),.bool ma] 261)).below b2 (hB.alloc _).lt;clear b2 d0 d1 d2 d3 f0 f1 f2 f3 hlB;obtain ⟨d0,d1,d2,d3⟩:=Ah hB;have f0:=hB.frozen 0;have f1:=hB.frozen 1;have f2:=hB.frozen 2;have f3:=hB.frozen 3;have hlB:=hB.lt;obtain ⟨c0,c1,c2,c3,c4⟩:=G0 hF;have hlF:=hF.lt;go_wp2_with fail
  refine bodyPost_ret (v:=Gb A nx 0) (by simp [results,Tryz.results167,go_sem,d0,d1,d2,d3,Gb,hlB,Al]) rfl ⟨rfl,?_⟩
  repeat (first | (with_reducible exact hW) | refine Below.setCell ?_ (by first | omega | (simp;omega) | simp) _ | refine Below.alloc ?_ (by first | omega | (simp;omega) | simp) _)
 ·have r1:((er:Int) != 0)=true:=by simp;omega
  go_wp2_with fail
  refine bodyPost_ret (v:=Gb A nx er) (by simp [results,Tryz.results167,go_sem,d0,d1,d2,d3,Gb,hlB,Al]) rfl ⟨rfl,?_⟩
  repeat (first | (with_reducible exact hW) | refine Below.setCell ?_ (by first | omega | (simp;omega) | simp) _ | refine Below.alloc ?_ (by first | omega | (simp;omega) | simp) _)
/-- A range: both items. -/
theorem Vy (s:ByteArray) (k:Nat) (w:World) (hs:s.size≤1000000) (hk:k < s.size) (hG:Gl w) (A B:OSet) (ma mb:Bool) (nx n2 er:Nat)
  (hv:Vw (ET s.data.toList k)=GD A ma nx 0) (hnx:nx+1 < s.size) (hdd:Xz s.data.toList nx=true) (hv2:Vw (ET s.data.toList (nx+1))=GD B mb n2 er)
  (hA:ma=true→∃ b:Nat,b < 256∧A=Ab b b) (hBb:mb=true→∃ b:Nat,b < 256∧B=Ab b b) :
  Calls Tryz.prog 167 #[.string s,.int .i64 (k:Int)] w fun e w'=>e=.returned (if er≠0 then Gb oz n2 er else if Rf A B ma mb=oz then Gb oz k 1 else Gb (Rf A B ma mb) n2 0)∧Below w.heap.size w w':=by
 generalize hR:(if er≠0 then Gb oz n2 er else if Rf A B ma mb=oz then Gb oz k 1 else Gb (Rf A B ma mb) n2 0)=R;have HR:=Ac8 hR;clear hR;have hB:=Blk.new w #[.int .u64 0,.int .u64 0,.int .u64 0,.int .u64 0] 109 _ rfl;have hW:=(Adk w.heap.size w).alloc (Adf _) (.cells #[.int .u64 0,.int .u64 0,.int .u64 0,.int .u64 0] 109);have hG1:=hG.up hW;have Wn:IntKind.i64.wrap ((nx:Int)+1)=((nx+1:Nat):Int):=by rw [Adm _ (by omega)];omega
 go_enter Tryz.func167,Tryz.ntmps167;go_wp2_with fail
 refine (Ir s k _ hs hk hG1).mono ?_;rintro e w1 ⟨he,b1⟩;rw [hv] at he;subst he;clear hv hG1;replace hW:=hW.trans (b1.mono hW.size);replace hB:=hB.below b1 hB.lt;clear b1;unfold GD;go_wp2_with fail
 refine (Ni s nx _ (by omega) (by omega)).mono ?_;rintro e w2 ⟨he,b2⟩;rw [hdd] at he;subst he;have hF:=(Blk.new w1 #[.int .u64 (ow A 0),.int .u64 (ow A 1),.int .u64 (ow A 2),.int .u64 (ow A 3),.bool ma] 261 _ rfl).below b2 (by simp);replace hW:=(hW.alloc hW.size (.cells #[.int .u64 (ow A 0),.int .u64 (ow A 1),.int .u64 (ow A 2),.int .u64 (ow A 3),.bool ma] 261)).trans (b2.mono (hW.alloc hW.size _).size);replace hB:=(hB.alloc (.cells #[.int .u64 (ow A 0),.int .u64 (ow A 1),.int .u64 (ow A 2),.int .u64 (ow A 3),.bool ma] 261)).below b2 (hB.alloc _).lt;clear b2;have hlB:=hB.lt;have hlF:=hF.lt;have hG2:=hG.up hW;go_wp2_with fail
 refine (Ir s (nx+1) _ hs hnx hG2).mono ?_;rintro e w3 ⟨he,b3⟩;rw [hv2] at he;subst he;clear hv2 hG2 hlB hlF;replace hW:=hW.trans (b3.mono hW.size);replace hB:=hB.below b3 hB.lt;replace hF:=hF.below b3 hF.lt;clear b3;obtain ⟨d0,d1,d2,d3⟩:=Ah hB;have f0:=hB.frozen 0;have f1:=hB.frozen 1;have f2:=hB.frozen 2;have f3:=hB.frozen 3;have hlB:=hB.lt;obtain ⟨c0,c1,c2,c3,c4⟩:=G0 hF;have hlF:=hF.lt;unfold GD;by_cases her:er=0
 ·subst her
  have hG3:=hG.up (hW.alloc hW.size (.cells #[.int .u64 (ow B 0),.int .u64 (ow B 1),.int .u64 (ow B 2),.int .u64 (ow B 3),.bool mb] 261));go_wp2_with fail
  refine (Sc A B ma mb hA hBb _ hG3.tab (Adi (by decide) hG3.lt)).mono ?_;clear hG3;rintro e w4 ⟨rfl,b4⟩;replace hW:=(hW.alloc hW.size (.cells #[.int .u64 (ow B 0),.int .u64 (ow B 1),.int .u64 (ow B 2),.int .u64 (ow B 3),.bool mb] 261)).trans (b4.mono (hW.alloc hW.size _).size);replace hB:=(hB.alloc (.cells #[.int .u64 (ow B 0),.int .u64 (ow B 1),.int .u64 (ow B 2),.int .u64 (ow B 3),.bool mb] 261)).below b4 (hB.alloc _).lt;clear b4 d0 d1 d2 d3 f0 f1 f2 f3 hlB c0 c1 c2 c3 c4 hlF hF;obtain ⟨d0,d1,d2,d3⟩:=Ah hB;have f0:=hB.frozen 0;have f1:=hB.frozen 1;have f2:=hB.frozen 2;have f3:=hB.frozen 3;have hlB:=hB.lt;generalize hX:Rf A B ma mb=X;have HX:=Ac8 hX;clear hX;have hz:=Vx X;by_cases hq:X=oz
  ·have hdq:decide (X=oz)=true:=decide_eq_true hq
   have Hq:=Ac8 hq;clear hq;go_wp2_with fail
   refine bodyPost_ret (v:=Gb oz k 1) (by simp [results,Tryz.results167,go_sem,d0,d1,d2,d3,Gb,hlB,Al]) rfl ⟨by rw [←HR.out,if_neg (by simp),HX.out,if_pos Hq.out],?_⟩
   repeat (first | (with_reducible exact hW) | refine Below.setCell ?_ (by first | omega | (simp;omega) | simp) _ | refine Below.alloc ?_ (by first | omega | (simp;omega) | simp) _)
  ·have hdq:decide (X=oz)=false:=decide_eq_false hq
   have Hq:=Ac8 hq;clear hq;go_wp2_with fail
   refine bodyPost_ret (v:=Gb X n2 0) (by simp [results,Tryz.results167,go_sem,d0,d1,d2,d3,Gb,hlB,Al]) rfl ⟨by rw [←HR.out,if_neg (by simp),HX.out,if_neg Hq.out],?_⟩
   repeat (first | (with_reducible exact hW) | refine Below.setCell ?_ (by first | omega | (simp;omega) | simp) _ | refine Below.alloc ?_ (by first | omega | (simp;omega) | simp) _)
 ·have r1:((er:Int) != 0)=true:=by simp;omega
  go_wp2_with fail
  refine bodyPost_ret (v:=Gb oz n2 er) (by simp [results,Tryz.results167,go_sem,d0,d1,d2,d3,Gb,hlB,Al]) rfl ⟨by rw [←HR.out,if_pos her],?_⟩
  repeat (first | (with_reducible exact hW) | refine Below.setCell ?_ (by first | omega | (simp;omega) | simp) _ | refine Below.alloc ?_ (by first | omega | (simp;omega) | simp) _)
def TW:Except (Nat × Nat) (OSet × Nat)→Value
 | .ok (t,j)=>Gb t j 0
 | .error (e,p)=>Gb oz p e
theorem Rq (s:List UInt8) (k:Nat):Xz s k=true ↔ (k+1 < s.length∧byt s k=45∧byt s (k+1)≠93):=by
 unfold Xz;simp only [Bool.and_eq_true,decide_eq_true_eq,Bool.not_eq_true',decide_eq_false_iff_not,and_assoc,ne_eq]
theorem Vz (s:ByteArray) (k:Nat) (w:World) (hs:s.size≤1000000) (hk:k < s.size) (hG:Gl w) :
  Calls Tryz.prog 167 #[.string s,.int .i64 (k:Int)] w fun e w'=>e=.returned (TW (TU s.data.toList k))∧Below w.heap.size w w':=by
 unfold TU;simp only;by_cases h1:(ET s.data.toList k).err=0
 ·obtain ⟨hn1,hn2⟩:=J2 _ _ h1
  rw [Ar] at hn2;have hv:Vw (ET s.data.toList k)=GD (ET s.data.toList k).set (ET s.data.toList k).may (ET s.data.toList k).next 0:=by
   unfold Vw;rw [if_pos h1,h1]
  rw [if_neg (by rw [h1];simp)];cases hd:Xz s.data.toList (ET s.data.toList k).next
  ·rw [if_neg (by rw [←Rq,hd];simp)]
   exact NI s k w hs hk hG _ _ _ _ hv (Or.inr ⟨hn2,hd⟩)
  ·have hd2:=(Rq _ _).1 hd
   rw [if_pos hd2,Ar] at *;generalize hb:ET s.data.toList ((ET s.data.toList k).next+1)=b;have hm:=QT s.data.toList ((ET s.data.toList k).next+1);rw [hb] at hm;refine (Vy s k w hs hk hG _ b.set _ b.may _ (if b.err=0 then b.next else b.place) b.err hv hd2.1 hd (by rw [hb];rfl) (QT s.data.toList k) hm).mono ?_;rintro e w' ⟨rfl,bl⟩;refine ⟨congrArg _ ?_,bl⟩;by_cases h2:b.err=0
   ·simp only [h2,ne_eq,not_true_eq_false,if_false,if_true]
    unfold Rf;cases hA:(ET s.data.toList k).may
    ·simp only [Bool.false_and,Bool.false_eq_true,if_false,if_true]
     rfl
    ·cases hB:b.may
     ·simp only [Bool.and_false,Bool.false_and,Bool.false_eq_true,if_false,if_true]
      rfl
     ·obtain ⟨y,hy,hy2⟩:=hm hB
      have hl:Ui b.set < 256:=by rw [hy2,(LQ y hy).2];exact hy
      rw [Bool.and_self,Bool.true_and,if_pos rfl];by_cases hle:Ui (ET s.data.toList k).set≤Ui b.set
      ·rw [if_neg (RW _ _ hl hle),if_pos (decide_eq_true hle)]
       rfl
      ·rw [if_pos (RU _ _ (by omega)),if_neg (by rw [decide_eq_false hle];decide)]
       rfl
   ·rw [if_pos h2,if_pos h2,if_neg h2]
    rfl
 ·rw [if_pos h1]
  have hv:Vw (ET s.data.toList k)=GD oz (ET s.data.toList k).may (ET s.data.toList k).place (ET s.data.toList k).err:=by
   unfold Vw;rw [if_neg h1,YE _ _ h1]
  exact NI s k w hs hk hG _ _ _ _ hv (Or.inl h1)
end
section
open Go.RowKit
theorem Lm (s:ByteArray) (n:Nat) (w:World) (hs:s.size≤1000000) (hn:n≤s.size) (hG:Gl w) :
  Calls Tryz.prog 159 #[.string s,.int .i64 (n:Int)] w fun e w'=>e=.returned (TW (IB s.data.toList true n oz))∧Below w.heap.size w w':=by
 generalize hR:TW (IB s.data.toList true n oz)=R;have HR:=Ac8 hR;clear hR;have hz:oc oz=#[.int .u64 0,.int .u64 0,.int .u64 0,.int .u64 0]:=by unfold oc;rw [Al,Al,Al,Al]
 have hW:=((Adk w.heap.size w).alloc (Adf _) (.cells #[.int .u64 0,.int .u64 0,.int .u64 0,.int .u64 0] 109)).alloc (by simp) (.cells #[.int .u64 0,.int .u64 0,.int .u64 0,.int .u64 0] 109);have hB:=(Blk.new w #[.int .u64 0,.int .u64 0,.int .u64 0,.int .u64 0] 109 _ rfl).alloc (.cells #[.int .u64 0,.int .u64 0,.int .u64 0,.int .u64 0] 109);have hO:Blk ((w.alloc (.cells #[.int .u64 0,.int .u64 0,.int .u64 0,.int .u64 0] 109)).alloc (.cells #[.int .u64 0,.int .u64 0,.int .u64 0,.int .u64 0] 109)) (w.heap.size+1) (oc oz) 109:=by rw [hz];exact Blk.new _ _ _ _ (by simp)
 clear hz;go_enter Tryz.func159,Tryz.ntmps159;go_wp2_with fail
 go_loopw [8] (fun i wr=>∃ (k:Nat) (fl:Bool) (acc:OSet),k≤s.size∧n≤k∧i=.int .i64 k∧(fl=false ↔ n < k)∧IB s.data.toList fl k acc=IB s.data.toList true n oz∧Below w.heap.size w wr∧Blk wr w.heap.size #[.int .u64 0,.int .u64 0,.int .u64 0,.int .u64 0] 109∧Blk wr (w.heap.size+1) (oc acc) 109) (fun i _=>s.size+1 - (intOf i).toNat)
 case atStart=>exact ⟨n,true,oz,hn,Adf _,rfl,by simp,rfl,hW,hB,hO⟩
 case round=>
  clear hW hB hO;obtain ⟨k,fl,acc,hk,hnk,rfl,hfl,hq,hW,hB,hO⟩:=hrel;have Hq:=Ac8 hq;have Hfl:=Ac8 hfl;clear hq hfl;obtain ⟨d0,d1,d2,d3⟩:=Ah hB;have f0:=hB.frozen 0;have f1:=hB.frozen 1;have f2:=hB.frozen 2;have f3:=hB.frozen 3;have hlB:=hB.lt;obtain ⟨c0,c1,c2,c3⟩:=DX hO;have g0:=hO.frozen 0;have g1:=hO.frozen 1;have g2:=hO.frozen 2;have g3:=hO.frozen 3;have hlO:=hO.lt;by_cases hlt:k < s.size
  ·have e0:decide ((k:Int) < (s.size:Int))=true:=by simp;omega
   have e1:decide (k < s.size)=true:=decide_eq_true hlt;by_cases hend:n < k∧s[k].toNat=93
   ·obtain ⟨hnk2,h93⟩:=hend
    have Hx:=Ac8 (show TW (IB s.data.toList fl k acc)=Gb acc (k+1) 0 by
     rw [Hfl.out.2 hnk2,IB,if_pos ⟨rfl,by rw [Ar];exact hlt,by rw [BH s k hlt];exact h93⟩];rfl)
    have e2:((s[k].toNat:Int) == 93)=true:=by simp;omega
    have e3:decide ((n:Int) < (k:Int))=true:=by simp;omega
    have e4:decide (n < k)=true:=decide_eq_true hnk2;have Wk:IntKind.i64.wrap ((k:Int)+1)=(k:Int)+1:=Adm _ (by omega);clear h93;go_wp2_with fail
    refine bodyPost_ret (v:=Gb acc (k+1) 0) (by simp [results,Tryz.results159,go_sem,d0,d1,d2,d3,Gb,hlB]) rfl ⟨by rw [←HR.out,←Hq.out,Hx.out],?_⟩
    repeat (first | (with_reducible exact hW) | refine Below.setCell ?_ (by first | omega | (simp;omega) | simp) _ | refine Below.alloc ?_ (by first | omega | (simp;omega) | simp) _)
   ·have hno:¬ (fl=false∧k < s.data.toList.length∧byt s.data.toList k=93):=by
     rintro ⟨h1,_,h3⟩;rw [BH s k hlt] at h3;exact hend ⟨Hfl.out.1 h1,h3⟩
    have Hno:=Ac8 hno;clear hno;go_upto_region 4 with fail;go_cut [25] from 17 to 26 (fun b wx=>b=.bool false∧wx=wr)
    case first=>
     by_cases h93:s[k].toNat=93
     ·have e2:((s[k].toNat:Int) == 93)=true:=by simp;omega
      have e3:decide ((n:Int) < (k:Int))=false:=by simp;omega
      have e4:decide (n < k)=false:=decide_eq_false (fun h=>hend ⟨h,h93⟩);clear h93 hend;go_wp2_with fail
      go_meet;exact ⟨rfl,rfl⟩
     ·have e2:((s[k].toNat:Int) == 93)=false:=by simp;omega
      clear h93 hend;go_wp2_with fail
      go_meet;exact ⟨rfl,rfl⟩
    case rest=>
     obtain ⟨rfl,rfl⟩:=hcut;clear hend;have hG1:=hG.up hW;go_wp2_with fail
     refine (Vz s k _ hs hlt hG1).mono ?_;rintro e w1 ⟨he,b1⟩;replace hW:=hW.trans (b1.mono hW.size);replace hB:=hB.below b1 hB.lt;replace hO:=hO.below b1 hO.lt;clear b1 hG1 d0 d1 d2 d3 f0 f1 f2 f3 hlB c0 c1 c2 c3 g0 g1 g2 g3 hlO;cases hel:TU s.data.toList k with
     | error x=>
      obtain ⟨er,pl⟩:=x;rw [hel] at he;have Hx:=Ac8 (show TW (IB s.data.toList fl k acc)=Gb oz pl er by rw [QU _ _ _ _ _ Hno.out hel];rfl);have her:er≠0:=LS _ _ _ _ hel;have e5:((er:Int) != 0)=true:=by simp;omega
      clear hel;subst he;unfold TW Gb;obtain ⟨d0,d1,d2,d3⟩:=Ah hB;have f0:=hB.frozen 0;have f1:=hB.frozen 1;have f2:=hB.frozen 2;have f3:=hB.frozen 3;have hlB:=hB.lt;go_wp2_with fail
      refine bodyPost_ret (v:=Gb oz pl er) (by simp [results,Tryz.results159,go_sem,d0,d1,d2,d3,Gb,hlB,Al]) rfl ⟨by rw [←HR.out,←Hq.out,Hx.out],?_⟩
      repeat (first | (with_reducible exact hW) | refine Below.setCell ?_ (by first | omega | (simp;omega) | simp) _ | refine Below.alloc ?_ (by first | omega | (simp;omega) | simp) _)
     | ok x=>
      obtain ⟨t,j⟩:=x;rw [hel] at he;have hnx:=J3 _ _ _ _ hel;rw [Ar] at hnx;have Hx:=Ac8 (ZS _ _ _ acc _ _ Hno.out hel);clear hel;subst he;unfold TW Gb;obtain ⟨d0,d1,d2,d3⟩:=Ah hB;have f0:=hB.frozen 0;have f1:=hB.frozen 1;have f2:=hB.frozen 2;have f3:=hB.frozen 3;have hlB:=hB.lt;obtain ⟨c0,c1,c2,c3⟩:=DX hO;have g0:=hO.frozen 0;have g1:=hO.frozen 1;have g2:=hO.frozen 2;have g3:=hO.frozen 3;have hlO:=hO.lt;go_wp2_with fail
      refine (D0 acc t _).mono ?_;rintro e w2 ⟨rfl,b2⟩;replace hW:=(hW.alloc hW.size (.cells (oc t) 109)).trans (b2.mono (hW.alloc hW.size _).size);replace hB:=(hB.alloc (.cells (oc t) 109)).below b2 (hB.alloc _).lt;replace hO:=(hO.alloc (.cells (oc t) 109)).below b2 (hO.alloc _).lt;clear b2 d0 d1 d2 d3 f0 f1 f2 f3 hlB c0 c1 c2 c3 g0 g1 g2 g3 hlO;obtain ⟨c0,c1,c2,c3⟩:=DX hO;have g0:=hO.frozen 0;have g1:=hO.frozen 1;have g2:=hO.frozen 2;have g3:=hO.frozen 3;have hlO:=hO.lt;go_wp2_with fail
      go_roundw
      case rel=>
       refine ⟨j,false,acc ||| t,hnx.2,by omega,rfl,by simp;omega,by rw [←Hx.out,Hq.out],?_,?_,J0 hO _⟩
       ·repeat (first | (with_reducible exact hW) | refine Below.setCell ?_ (by first | omega | (simp;omega) | simp) _ | refine Below.alloc ?_ (by first | omega | (simp;omega) | simp) _)
       ·repeat (first | exact hB | refine Blk.set_other ?_ _ (by simp) _)
      case measure=>simp [intOf];omega
  ·have e0:decide ((k:Int) < (s.size:Int))=false:=by simp;omega
   have e1:decide (k < s.size)=false:=decide_eq_false hlt;have Hx:=Ac8 (show TW (IB s.data.toList fl k acc)=Gb oz s.size 5 by
    have he:TU s.data.toList k=.error (5,s.size):=by
     have hi:ET s.data.toList k=⟨oz,false,0,5,s.size⟩:=by unfold ET;rw [if_pos (by rw [Ar];omega),Ar]
     unfold TU;rw [hi];rfl
    rw [QU _ _ _ _ _ (by rw [Ar];omega) he];rfl)
   go_wp2_with fail
   refine bodyPost_ret (v:=Gb oz s.size 5) (by simp [results,Tryz.results159,go_sem,d0,d1,d2,d3,Gb,hlB,Al]) rfl ⟨by rw [←HR.out,←Hq.out,Hx.out],?_⟩
   repeat (first | (with_reducible exact hW) | refine Below.setCell ?_ (by first | omega | (simp;omega) | simp) _ | refine Below.alloc ?_ (by first | omega | (simp;omega) | simp) _)
theorem Ach (s:ByteArray) (n:Nat) (w:World) :
  Calls Tryz.prog 23 #[.string (s.extract n s.size),.string ⟨#[94]⟩] w fun e w'=>e=.returned (.bool (Uj s.data.toList n))∧w=w':=by
 have h:=Ck (s.extract n s.size) ⟨#[94]⟩ w;rw [BL,show (⟨#[94]⟩:ByteArray).data.toList=[94] from rfl,QW] at h;exact h
theorem Sv (s:ByteArray) (k:Int) (w:World) (h:k < 0∨(s.size:Int) < k) :
  Calls Tryz.prog 148 #[.string s,.int .i64 k] w fun e w'=>e=.returned (K8 (Fo s.data.toList k))∧Below w.heap.size w w':=by
 have Hp:=Ac8 (XK s.data.toList k (by rw [Ar];exact h));have hW:=(Adk w.heap.size w).alloc (Adf _) (.cells #[.int .u64 0,.int .u64 0,.int .u64 0,.int .u64 0] 109);by_cases h0:k < 0
 ·have e0:decide (k < 0)=true:=decide_eq_true h0
  go_enter Tryz.func148,Tryz.ntmps148;go_wp2_with fail
  refine bodyPost_ret (v:=K8 (oz,0,1)) (by simp [results,Tryz.results148,go_sem,K8,Al]) rfl ⟨by rw [Hp.out],?_⟩
  repeat (first | (with_reducible exact hW) | refine Below.setCell ?_ (by first | omega | (simp;omega) | simp) _ | refine Below.alloc ?_ (by first | omega | (simp;omega) | simp) _)
 ·have e0:decide (k < 0)=false:=decide_eq_false h0
  have e1:decide ((s.size:Int) < k)=true:=decide_eq_true (by omega);go_enter Tryz.func148,Tryz.ntmps148;go_wp2_with fail
  refine bodyPost_ret (v:=K8 (oz,0,1)) (by simp [results,Tryz.results148,go_sem,K8,Al]) rfl ⟨by rw [Hp.out],?_⟩
  repeat (first | (with_reducible exact hW) | refine Below.setCell ?_ (by first | omega | (simp;omega) | simp) _ | refine Below.alloc ?_ (by first | omega | (simp;omega) | simp) _)
theorem NJ (s:ByteArray) (n:Nat) (w:World) (hs:s.size≤1000000) (hn:n≤s.size) (hG:Gl w) (hc:Uj s.data.toList n=false) :
  Calls Tryz.prog 148 #[.string s,.int .i64 (n:Int)] w fun e w'=>e=.returned (K8 (Fo s.data.toList (n:Int)))∧Below w.heap.size w w':=by
 generalize hR:K8 (Fo s.data.toList (n:Int))=R;have HR:=Ac8 hR;clear hR;have e1:decide ((s.size:Int) < (n:Int))=false:=decide_eq_false (by omega);have e2:decide (s.size < n)=false:=decide_eq_false (by omega);have Wn:IntKind.i64.wrap ((n:Int)+1)=((n+1:Nat):Int):=by rw [Adm _ (by omega)];omega
 have hW:=(Adk w.heap.size w).alloc (Adf _) (.cells #[.int .u64 0,.int .u64 0,.int .u64 0,.int .u64 0] 109);have hB:=Blk.new w #[.int .u64 0,.int .u64 0,.int .u64 0,.int .u64 0] 109 _ rfl;have hG1:=hG.up hW;have Hok:=Ac8 (OR s.data.toList n (by rw [Ar];exact hn));have Her:=Ac8 (LR s.data.toList n (by rw [Ar];exact hn));rw [hc] at Hok Her;go_enter Tryz.func148,Tryz.ntmps148;go_wp2_with fail
 refine (Ach s n _).mono ?_;rintro e w1 ⟨he,rfl⟩;rw [hc] at he;subst he;go_wp2_with fail
 refine (Lm s n _ hs hn hG1).mono ?_;rintro e w2 ⟨he,b2⟩;replace hW:=hW.trans (b2.mono hW.size);replace hB:=hB.below b2 hB.lt;clear b2 hG1;cases hr:IB s.data.toList true n oz with
 | error x=>
  obtain ⟨er,pl⟩:=x;rw [hr] at he;have Hx:=Ac8 (Her.out er pl (by simpa using hr));have her:er≠0:=QX _ _ _ _ _ _ hr;have e5:((er:Int) == 0)=false:=by simp;omega
  clear hr;subst he;unfold TW Gb;obtain ⟨d0,d1,d2,d3⟩:=Ah hB;have f0:=hB.frozen 0;have f1:=hB.frozen 1;have f2:=hB.frozen 2;have f3:=hB.frozen 3;have hlB:=hB.lt;go_wp2_with fail
  refine bodyPost_ret (v:=K8 (oz,(pl:Int),er)) (by simp [results,Tryz.results148,go_sem,d0,d1,d2,d3,K8,hlB,Al]) rfl ⟨by rw [←HR.out,Hx.out],?_⟩
  repeat (first | (with_reducible exact hW) | refine Below.setCell ?_ (by first | omega | (simp;omega) | simp) _ | refine Below.alloc ?_ (by first | omega | (simp;omega) | simp) _)
 | ok x=>
  obtain ⟨t,j⟩:=x;rw [hr] at he;have Hx:=Ac8 (Hok.out t j (by simpa using hr));clear hr;subst he;unfold TW Gb;obtain ⟨d0,d1,d2,d3⟩:=Ah hB;have f0:=hB.frozen 0;have f1:=hB.frozen 1;have f2:=hB.frozen 2;have f3:=hB.frozen 3;have hlB:=hB.lt;go_wp2_with fail
  refine bodyPost_ret (v:=K8 (t,(j:Int),0)) (by simp [results,Tryz.results148,go_sem,d0,d1,d2,d3,K8,hlB]) rfl ⟨by rw [←HR.out,Hx.out];rfl,?_⟩
  repeat (first | (with_reducible exact hW) | refine Below.setCell ?_ (by first | omega | (simp;omega) | simp) _ | refine Below.alloc ?_ (by first | omega | (simp;omega) | simp) _)
theorem Sw (s:ByteArray) (n:Nat) (w:World) (hs:s.size≤1000000) (hn:n≤s.size) (hG:Gl w) (hc:Uj s.data.toList n=true) (hn1:n+1≤s.size) :
  Calls Tryz.prog 148 #[.string s,.int .i64 (n:Int)] w fun e w'=>e=.returned (K8 (Fo s.data.toList (n:Int)))∧Below w.heap.size w w':=by
 generalize hR:K8 (Fo s.data.toList (n:Int))=R;have HR:=Ac8 hR;clear hR;have e1:decide ((s.size:Int) < (n:Int))=false:=decide_eq_false (by omega);have e2:decide (s.size < n)=false:=decide_eq_false (by omega);have Wn:IntKind.i64.wrap ((n:Int)+1)=((n+1:Nat):Int):=by rw [Adm _ (by omega)];omega
 have hW:=(Adk w.heap.size w).alloc (Adf _) (.cells #[.int .u64 0,.int .u64 0,.int .u64 0,.int .u64 0] 109);have hB:=Blk.new w #[.int .u64 0,.int .u64 0,.int .u64 0,.int .u64 0] 109 _ rfl;have hG1:=hG.up hW;have Hok:=Ac8 (OR s.data.toList n (by rw [Ar];exact hn));have Her:=Ac8 (LR s.data.toList n (by rw [Ar];exact hn));rw [hc] at Hok Her;go_enter Tryz.func148,Tryz.ntmps148;go_wp2_with fail
 refine (Ach s n _).mono ?_;rintro e w1 ⟨he,rfl⟩;rw [hc] at he;subst he;go_wp2_with fail
 refine (Lm s (n+1) _ hs hn1 hG1).mono ?_;rintro e w2 ⟨he,b2⟩;replace hW:=hW.trans (b2.mono hW.size);replace hB:=hB.below b2 hB.lt;clear b2 hG1;cases hr:IB s.data.toList true (n+1) oz with
 | error x=>
  obtain ⟨er,pl⟩:=x;rw [hr] at he;have Hx:=Ac8 (Her.out er pl (by simpa using hr));have her:er≠0:=QX _ _ _ _ _ _ hr;have e5:((er:Int) == 0)=false:=by simp;omega
  clear hr;subst he;unfold TW Gb;obtain ⟨d0,d1,d2,d3⟩:=Ah hB;have f0:=hB.frozen 0;have f1:=hB.frozen 1;have f2:=hB.frozen 2;have f3:=hB.frozen 3;have hlB:=hB.lt;go_wp2_with fail
  refine bodyPost_ret (v:=K8 (oz,(pl:Int),er)) (by simp [results,Tryz.results148,go_sem,d0,d1,d2,d3,K8,hlB,Al]) rfl ⟨by rw [←HR.out,Hx.out],?_⟩
  repeat (first | (with_reducible exact hW) | refine Below.setCell ?_ (by first | omega | (simp;omega) | simp) _ | refine Below.alloc ?_ (by first | omega | (simp;omega) | simp) _)
 | ok x=>
  obtain ⟨t,j⟩:=x;rw [hr] at he;have Hx:=Ac8 (Hok.out t j (by simpa using hr));clear hr;subst he;unfold TW Gb;obtain ⟨d0,d1,d2,d3⟩:=Ah hB;have f0:=hB.frozen 0;have f1:=hB.frozen 1;have f2:=hB.frozen 2;have f3:=hB.frozen 3;have hlB:=hB.lt;go_wp2_with fail
  obtain ⟨nt,hnt⟩:∃ nt,~~~t=nt:=⟨_,rfl⟩;have hna:=FR t;rw [hnt] at Hx hna;clear hnt;refine (hna _).mono ?_;rintro e w3 ⟨rfl,b3⟩;replace hW:=(hW.alloc hW.size (.cells (oc t) 109)).trans (b3.mono (hW.alloc hW.size _).size);replace hB:=(hB.alloc (.cells (oc t) 109)).below b3 (hB.alloc _).lt;have hne:=hlB;have hne2:¬ w.heap.size=w2.heap.size:=by omega
  have hne3:¬ w2.heap.size=w.heap.size:=by omega
  have hS:=(Blk.new w2 (oc t) 109 _ rfl).below b3 (by simp);have hlS:=hS.lt;have g0:=hS.frozen 0;have g1:=hS.frozen 1;have g2:=hS.frozen 2;have g3:=hS.frozen 3;obtain ⟨c0,c1,c2,c3⟩:=DX hS;clear b3 d0 d1 d2 d3 f0 f1 f2 f3 hlB;obtain ⟨d0,d1,d2,d3⟩:=Ah hB;have f0:=hB.frozen 0;have f1:=hB.frozen 1;have f2:=hB.frozen 2;have f3:=hB.frozen 3;have hlB:=hB.lt;go_wp2_with fail
  have hz:oc oz=#[.int .u64 0,.int .u64 0,.int .u64 0,.int .u64 0]:=by unfold oc;rw [Al,Al,Al,Al]
  have hB0:Blk w3 w.heap.size (oc oz) 109:=by rw [hz];exact hB
  have hB1:Blk ((((w3.setCell ⟨w2.heap.size,0,none⟩ (.int .u64 (ow nt 0))).setCell ⟨w2.heap.size,1,none⟩ (.int .u64 (ow nt 1))).setCell ⟨w2.heap.size,2,none⟩ (.int .u64 (ow nt 2))).setCell ⟨w2.heap.size,3,none⟩ (.int .u64 (ow nt 3))) w.heap.size (oc oz) 109:=(((hB0.set_other _ hne3 _).set_other _ hne3 _).set_other _ hne3 _).set_other _ hne3 _;have hB2:Blk ((((((((w3.setCell ⟨w2.heap.size,0,none⟩ (.int .u64 (ow nt 0))).setCell ⟨w2.heap.size,1,none⟩ (.int .u64 (ow nt 1))).setCell ⟨w2.heap.size,2,none⟩ (.int .u64 (ow nt 2))).setCell ⟨w2.heap.size,3,none⟩ (.int .u64 (ow nt 3))).setCell ⟨w.heap.size,0,none⟩ (.int .u64 (ow nt 0))).setCell ⟨w.heap.size,1,none⟩ (.int .u64 (ow nt 1))).setCell ⟨w.heap.size,2,none⟩ (.int .u64 (ow nt 2))).setCell ⟨w.heap.size,3,none⟩ (.int .u64 (ow nt 3))) w.heap.size (oc nt) 109:=J0 hB1 nt;have hWf:Below w.heap.size w ((((((((w3.setCell ⟨w2.heap.size,0,none⟩ (.int .u64 (ow nt 0))).setCell ⟨w2.heap.size,1,none⟩ (.int .u64 (ow nt 1))).setCell ⟨w2.heap.size,2,none⟩ (.int .u64 (ow nt 2))).setCell ⟨w2.heap.size,3,none⟩ (.int .u64 (ow nt 3))).setCell ⟨w.heap.size,0,none⟩ (.int .u64 (ow nt 0))).setCell ⟨w.heap.size,1,none⟩ (.int .u64 (ow nt 1))).setCell ⟨w.heap.size,2,none⟩ (.int .u64 (ow nt 2))).setCell ⟨w.heap.size,3,none⟩ (.int .u64 (ow nt 3))):=by
   repeat (first | (with_reducible exact hW) | refine Below.setCell ?_ (by first | omega | (simp;omega) | simp) _ | refine Below.alloc ?_ (by first | omega | (simp;omega) | simp) _)
  generalize ((((((((w3.setCell ⟨w2.heap.size,0,none⟩ (.int .u64 (ow nt 0))).setCell ⟨w2.heap.size,1,none⟩ (.int .u64 (ow nt 1))).setCell ⟨w2.heap.size,2,none⟩ (.int .u64 (ow nt 2))).setCell ⟨w2.heap.size,3,none⟩ (.int .u64 (ow nt 3))).setCell ⟨w.heap.size,0,none⟩ (.int .u64 (ow nt 0))).setCell ⟨w.heap.size,1,none⟩ (.int .u64 (ow nt 1))).setCell ⟨w.heap.size,2,none⟩ (.int .u64 (ow nt 2))).setCell ⟨w.heap.size,3,none⟩ (.int .u64 (ow nt 3)))=wf at hB2 hWf ⊢;clear hB1 hB0 hB hz hS c0 c1 c2 c3 g0 g1 g2 g3 d0 d1 d2 d3 f0 f1 f2 f3;obtain ⟨r0,r1,r2,r3⟩:=DX hB2;refine bodyPost_ret (v:=K8 (nt,(j:Int),0)) (by simp [results,Tryz.results148,go_sem,r0,r1,r2,r3,K8]) rfl ⟨by rw [←HR.out,Hx.out];rfl,hWf⟩
theorem V0 (s:ByteArray) (n:Nat) (w:World) (hs:s.size≤1000000) (hn:n≤s.size) (hG:Gl w) :
  Calls Tryz.prog 148 #[.string s,.int .i64 (n:Int)] w fun e w'=>e=.returned (K8 (Fo s.data.toList (n:Int)))∧Below w.heap.size w w':=by
 cases hc:Uj s.data.toList n
 ·exact NJ s n w hs hn hG hc
 ·refine Sw s n w hs hn hG hc ?_
  unfold Uj at hc;rw [Ar] at hc;simp only [Bool.and_eq_true,decide_eq_true_eq] at hc;omega
theorem Ln (s:ByteArray) (k:Int) (w:World) (hs:s.size≤1000000) (hG:Gl w) :
  Calls Tryz.prog 148 #[.string s,.int .i64 k] w fun e w'=>e=.returned (K8 (Fo s.data.toList k))∧Below w.heap.size w w':=by
 by_cases h:k < 0∨(s.size:Int) < k
 ·exact Sv s k w h
 ·obtain ⟨n,rfl⟩:∃ n:Nat,k=(n:Int):=⟨k.toNat,by omega⟩
  exact V0 s n w hs (by omega) hG
end
section
open Go Go.RowKit
theorem Cb {F:Nat→Prop} {w:World} {d:Nd} {v:Value} (h:NdX F w d v) :
  (d=.empty∧(v=.iface 105 (.agg #[])∨v=.nilIface))∨(∃ s:OSet,d=.one s∧v=.iface 111 (.agg #[.int .u64 (ow s 0),.int .u64 (ow s 1),.int .u64 (ow s 2),.int .u64 (ow s 3)]))∨
  (∃ l a cap,d=.cat l∧v=.iface 98 (.agg #[.slice a l.length cap])∧AW F w l a cap)∨(∃ l a cap,d=.alt l∧v=.iface 99 (.agg #[.slice a l.length cap])∧AW F w l a cap)∨
  (∃ d' mn mx u,d=.rep d' mn mx∧v=.iface 101 (.agg #[u,.int .i64 mn,.int .i64 mx])∧NdX F w d' u)∨(∃ num d' u,d=.group num d'∧v=.iface 103 (.agg #[.int .i64 num,u])∧NdX F w d' u)∨
  (∃ num,d=.back num∧v=.iface 117 (.agg #[.int .i64 num]))∨(d=.start∧v=.iface 119 (.agg #[]))∨(d=.fin∧v=.iface 121 (.agg #[])):=by
 obtain ⟨n,h⟩:=h;cases n with
 | zero=>exact h.elim
 | succ n=>
  cases d with
  | empty=>exact .inl ⟨rfl,h⟩
  | one s=>exact .inr (.inl ⟨s,rfl,h⟩)
  | cat l=>obtain ⟨a,cap,h1,h2⟩:=h;exact .inr (.inr (.inl ⟨l,a,cap,rfl,h1,AW.of (n:=n) h2⟩))
  | alt l=>obtain ⟨a,cap,h1,h2⟩:=h;exact .inr (.inr (.inr (.inl ⟨l,a,cap,rfl,h1,AW.of (n:=n) h2⟩)))
  | rep d mn mx=>obtain ⟨u,h1,h2⟩:=h;exact .inr (.inr (.inr (.inr (.inl ⟨d,mn,mx,u,rfl,h1,n,h2⟩))))
  | group num d=>obtain ⟨u,h1,h2⟩:=h;exact .inr (.inr (.inr (.inr (.inr (.inl ⟨num,d,u,rfl,h1,n,h2⟩)))))
  | back num=>exact .inr (.inr (.inr (.inr (.inr (.inr (.inl ⟨num,rfl,h⟩))))))
  | start=>exact .inr (.inr (.inr (.inr (.inr (.inr (.inr (.inl ⟨rfl,h⟩)))))))
  | fin=>exact .inr (.inr (.inr (.inr (.inr (.inr (.inr (.inr ⟨rfl,h⟩)))))))
theorem IH {a b:Bool} (h:a=b):Ending.returned (.bool a)=.returned (.bool b):=by rw [h]
theorem Sx {F:Nat→Prop} (d:Nd) (v:Value) (w:World) (h:NdX F w d v):Calls Tryz.prog 53 #[v] w fun e w'=>e=.returned (.bool (!inAlt d))∧Below w.heap.size w w':=by
 rcases Cb h with ⟨rfl,rfl | rfl⟩ | ⟨s,rfl,rfl⟩ | ⟨l,a,cap,rfl,rfl,hr⟩ | ⟨l,a,cap,rfl,rfl,hr⟩ | ⟨d',mn,mx,u,rfl,rfl,hu⟩ | ⟨num,d',u,rfl,rfl,hu⟩ | ⟨num,rfl,rfl⟩ | ⟨rfl,rfl⟩ | ⟨rfl,rfl⟩
 all_goals
  go_enter Tryz.func53,Tryz.ntmps53;go_wp2_with fail
  go_ret;refine ⟨rfl,?_⟩
  repeat (first | (with_reducible exact hW) | (with_reducible exact Adk _ _) | refine Below.drew ?_ | refine Below.setCell ?_ (by first | omega | (simp;omega) | simp) _ | refine Below.alloc ?_ (by first | omega | (simp;omega) | simp) _)
end
end Go.Proofs.YteilldmmihiijaaGreatDoor
