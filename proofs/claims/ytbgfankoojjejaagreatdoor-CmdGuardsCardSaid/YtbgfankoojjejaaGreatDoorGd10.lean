/- The proof's texts RdDE, OctHeld: what the claim reaches of them. -/
import Derived.Test.YtbgfankoojjejaaGreatDoorGd06
import Derived.Test.YtbgfankoojjejaaGreatDoorGd07
import Derived.Test.YtbgfankoojjejaaGreatDoorGd09
import Derived.Test.YtbgfankoojjejaaGreatDoorGd03
import Derived.Deep.RegionHeld3
import Derived.ChangeKeysEq
set_option linter.unusedSimpArgs false
set_option linter.unusedVariables false
set_option maxHeartbeats 8000000
set_option maxRecDepth 1000000
namespace Go.Proofs.YtbgfankoojjejaaGreatDoor
open Go Go.RowKit
def Thrown (k e:Nat) (r:Ending):Prop:=r=.panicked [{ v:=.iface 167 (.agg #[.int .i64 (k:Int),.int .i64 (e:Int)]),recovered:=false }]
def BdR (r:ReRep) (B p:Nat) (s:ByteArray) (st:ReSt) (es:List Bool) (dep:Nat) (mv cv:Value) (w:World) (e:Ending) (w':World):Prop:=∃ mv',RStep p w mv cv w' mv' cv∧match r with
 | .none=>e=.returned (.tuple #[.int .i64 0,.int .i64 0,.bool false])∧Rd B p w' s st es dep mv' cv
 | .bad=>Thrown st.pos 7 e
 | .some mn mx c j=>e=.returned (.tuple #[.int .i64 mn,.int .i64 mx,.bool true])∧Rd B p w' s ((if c=0 then st else st.mark c).to j) es dep mv' cv
theorem bdr_some {r:ReRep} {B p:Nat} {s:ByteArray} {st:ReSt} {es:List Bool} {dep:Nat} {mv cv mv':Value} {w w':World} {a b:Int} {c j:Nat} (h:r=.some a b c j) (hS:RStep p w mv cv w' mv' cv) (hR:Rd B p w' s ((if c=0 then st else st.mark c).to j) es dep mv' cv) :
  BdR r B p s st es dep mv cv w (.returned (.tuple #[.int .i64 a,.int .i64 b,.bool true])) w':=by subst h;exact ⟨mv',hS,rfl,hR⟩
theorem bdr_none {r:ReRep} {B p:Nat} {s:ByteArray} {st:ReSt} {es:List Bool} {dep:Nat} {mv cv:Value} {w w':World} (h:r=.none) (hS:RStep p w mv cv w' mv cv) (hR:Rd B p w' s st es dep mv cv) :
  BdR r B p s st es dep mv cv w (.returned (.tuple #[.int .i64 0,.int .i64 0,.bool false])) w':=by subst h;exact ⟨mv,hS,rfl,hR⟩
theorem bdr_bad {r:ReRep} {B p:Nat} {s:ByteArray} {st:ReSt} {es:List Bool} {dep:Nat} {mv cv:Value} {w w':World} {e:Ending} (h:r=.bad) (hS:RStep p w mv cv w' mv cv) (hE:Thrown st.pos 7 e) :
  BdR r B p s st es dep mv cv w e w':=by subst h;exact ⟨mv,hS,hE⟩
structure RdH (W:World) (B p:Nat) (s:ByteArray) (st:ReSt) (es:List Bool) (dep:Nat) (mv cv:Value) (w':World):Prop where
 b:Below W.heap.size W w'
 r:Rd B p w' s st es dep mv cv
abbrev ReadR (W:World) (B p:Nat) (s:ByteArray) (st:ReSt) (es:List Bool) (dep:Nat) (mv cv:Value) (w':World):Prop:=
 w'.cell? ⟨p,0,none⟩=some (.string s)∧w'.cell? ⟨p,1,none⟩=some (.int .i64 (st.pos:Int))∧RdH W B p s st es dep mv cv w'
theorem RdH.all {W:World} {B p:Nat} {s:ByteArray} {st:ReSt} {es:List Bool} {dep:Nat} {mv cv:Value} {w':World} (h:RdH W B p s st es dep mv cv w'):ReadR W B p s st es dep mv cv w':=⟨h.r.cells.c0,h.r.cells.c1,h⟩
theorem readr_step {W:World} {B p:Nat} {s:ByteArray} {st:ReSt} {es:List Bool} {dep:Nat} {mv cv:Value} {w' w'':World} (hb:Below w'.heap.size w' w'') (h:ReadR W B p s st es dep mv cv w'):ReadR W B p s st es dep mv cv w'':=
 RdH.all ⟨h.2.2.b.trans (hb.mono h.2.2.b.size),h.2.2.r.below hb⟩
theorem readr_drew {W:World} {B p:Nat} {s:ByteArray} {st:ReSt} {es:List Bool} {dep:Nat} {mv cv:Value} {w':World} (h:ReadR W B p s st es dep mv cv w'):ReadR W B p s st es dep mv cv w'.drew:=
 readr_step (Below.drew (Below.refl _ _)) h
theorem readr2_step {W:World} {B p k:Nat} {s:ByteArray} {st:ReSt} {es:List Bool} {dep:Nat} {mv cv:Value} {w' w'':World} (hk:st.pos=k) (hb:Below w'.heap.size w' w'') (h:w'.cell? ⟨p,0,none⟩=some (.string s)∧w'.cell? ⟨p,1,none⟩=some (.int .i64 (k:Int))∧RdH W B p s st es dep mv cv w'):w''.cell? ⟨p,0,none⟩=some (.string s)∧w''.cell? ⟨p,1,none⟩=some (.int .i64 (k:Int))∧RdH W B p s st es dep mv cv w'':=by
 subst hk;exact readr_step hb h
theorem readr2_drew {W:World} {B p k:Nat} {s:ByteArray} {st:ReSt} {es:List Bool} {dep:Nat} {mv cv:Value} {w':World} (hk:st.pos=k) (h:w'.cell? ⟨p,0,none⟩=some (.string s)∧w'.cell? ⟨p,1,none⟩=some (.int .i64 (k:Int))∧RdH W B p s st es dep mv cv w'):w'.drew.cell? ⟨p,0,none⟩=some (.string s)∧w'.drew.cell? ⟨p,1,none⟩=some (.int .i64 (k:Int))∧RdH W B p s st es dep mv cv w'.drew:=by
 subst hk;exact readr_drew h
theorem read_refl {B p:Nat} {W:World} {s:ByteArray} {st:ReSt} {es:List Bool} {dep:Nat} {mv cv:Value} (h:Rd B p W s st es dep mv cv):ReadR W B p s st es dep mv cv W:=RdH.all ⟨Below.refl _ _,h⟩
theorem xi_at (s:ByteArray) (k:Nat):ivl (ByteArray.mk #[92,125]).data.toList (s.extract k s.size).data.toList=ivl (ivclo false) (s.data.toList.drop k):=by rw [ext_list];rfl
theorem xi_none (s:List UInt8) (k:Nat) (h:ivl (ivclo false) (s.drop k)=none):intv false s k=none:=by rw [intv_at,h];rfl
theorem xi_some (s:List UInt8) (k:Nat) (q:Int × Int × Nat) (h:ivl (ivclo false) (s.drop k)=some q):intv false s k=some (q.1,q.2.1,k+q.2.2):=by rw [intv_at,h];rfl
theorem bounds_any {B p:Nat} {s:ByteArray} {st:ReSt} {es:List Bool} {dep:Nat} {mv cv:Value} (w:World) (h:Rd B p w s st es dep mv cv) :
  Calls Tryz.prog 137 #[.pointer (some ⟨p,0,none⟩)] w fun e w'=>BdR (repAt false s.data.toList st.pos) B p s st es dep mv cv w e w':=by
 obtain ⟨R,hR⟩:∃ R,R=repAt false s.data.toList st.pos:=⟨_,rfl⟩
 rw [←hR]
 have HR:=Lib.hid hR
 clear hR
 have hst:∀ n,Rd B p (w.drewN n) s st es dep mv cv:=fun n=>h.below (below_drewN (Below.refl w.heap.size w) n)
 have hsn:∀ n,RStep p w mv cv (w.drewN n) mv cv:=fun n=>RStep.of_below (below_drewN (Below.refl w.heap.size w) n)
 have HST:=Lib.hid hst
 have HSN:=Lib.hid hsn
 obtain ⟨c0,c1,c2,c3,c4,z1,z2,z3,z4⟩:=h.cells
 clear hst hsn
 go_enter Tryz.func137,Tryz.ntmps137
 cases q1:chAt s.data.toList st.pos 42
 ·have g1:=skip_no ⟨#[42]⟩ w h ((word_one _ _ 42 (by decide)).trans q1)
  go_wp2_with fail
  refine g1.mono ?_
  rintro e w2 ⟨rfl,n1,rfl⟩
  clear g1
  cases q2:esAt s.data.toList st.pos 43
  ·have g2:=skipm_no ⟨#[92,43]⟩ _ (HST.out n1) ((word_two _ _ 43 (by decide)).trans q2)
   go_wp2_with fail
   refine g2.mono ?_
   rintro e w2 ⟨rfl,n2,rfl⟩
   clear g2
   rw [show (w.drewN n1).drewN n2=w.drewN (n1+n2) by simp]
   generalize n1+n2=n3
   cases q3:esAt s.data.toList st.pos 63
   ·have g3:=skipm_no ⟨#[92,63]⟩ _ (HST.out n3) ((word_two _ _ 63 (by decide)).trans q3)
    go_wp2_with fail
    refine g3.mono ?_
    rintro e w2 ⟨rfl,n4,rfl⟩
    clear g3
    rw [show (w.drewN n3).drewN n4=w.drewN (n3+n4) by simp]
    generalize n3+n4=n5
    cases q4:esAt s.data.toList st.pos 123
    ·have g4:=skip_no ⟨#[92,123]⟩ _ (HST.out n5) ((word_two _ _ 123 (by decide)).trans q4)
     have HF:=Lib.hid (HR.out.trans (rep_none q1 q2 q3 q4))
     clear q1 q2 q3 q4
     go_wp2_with fail
     refine g4.mono ?_
     rintro e w2 ⟨rfl,n6,rfl⟩
     go_wp2_with fail
     go_ret3
     exact bdr_none HF.out (HSN.out _) (HST.out _)
    ·have g4:=skip_yes ⟨#[92,123]⟩ _ (HST.out n5) ((word_two _ _ 123 (by decide)).trans q4) (by simp)
     go_wp2_with fail
     refine g4.mono ?_
     rintro e w2 ⟨rfl,hR2,hS2⟩
     replace hS2:=(HSN.out n5).trans hS2
     clear g4
     have hall:=read_refl hR2
     obtain ⟨c0,c1,c2,c3,c4,z1,z2,z3,z4⟩:=hR2.cells
     have hp2:(st.to (st.pos+(ByteArray.mk #[92,123]).size)).pos=st.pos+2:=rfl
     rw [hp2] at c1
     have hlen:st.pos+2≤s.size:=hR2.pos
     have hlen2:((st.pos+2:Nat):Int)≤(s.size:Int):=by omega
     have hsm:=hR2.small
     have g5:=fun w=>xintv_any (s.extract (st.pos+2) s.size) ⟨#[92,125]⟩ w (by rw [ext_size];omega) (by simp)
     rw [xi_at] at g5
     generalize hst2:st.to (st.pos+(ByteArray.mk #[92,123]).size)=st2 at *
     have hk2:st2.pos=st.pos+2:=by rw [←hst2];rfl
     unfold ReadR at hall
     rw [hk2] at hall
     have HK2:=Lib.hid hk2
     have HST2:=Lib.hid hst2
     clear hk2 hst2 hp2
     cases hiv:ivl (ivclo false) (s.data.toList.drop (st.pos+2)) with
     | none=>
      rw [hiv,show ivAns none=.returned (.tuple #[.int .i64 0,.int .i64 0,.int .i64 0,.bool false]) from rfl] at g5
      have HF:=Lib.hid (HR.out.trans (rep_bad q1 q2 q3 q4 (xi_none _ _ hiv)))
      clear q1 q2 q3 q4 hiv
      generalize st.pos+2=k2 at *
      go_wp2_with fail
      go_region_held3 (fun w'=>(w'.cell? ⟨p,0,none⟩=some (.string s)∧w'.cell? ⟨p,1,none⟩=some (.int .i64 ((k2:Nat):Int))∧RdH w2 B p s st2 es dep mv cv w'))
       (first | (with_reducible exact hall) | (with_reducible exact readr2_step HK2.out hbX (by assumption)) | (with_reducible exact readr2_drew HK2.out (by assumption)))
       (first | (go_at_call 129;refine (g5 _).mono ?_;rintro e w' ⟨rfl,hbX⟩))
      go_wp2_with fail
      go_split_ands
      exact ⟨rfl,bdr_bad HF.out (hS2.trans (RStep.of_below (RdH.b (by assumption)))) rfl⟩
     | some q=>
      rw [hiv,show ivAns (some q)=.returned (.tuple #[.int .i64 q.1,.int .i64 q.2.1,.int .i64 (q.2.2:Int),.bool true]) from rfl] at g5
      have HF:=Lib.hid (HR.out.trans (rep_intv (m:=q.1) (n:=q.2.1) (j:=st.pos+2+q.2.2) q1 q2 q3 q4 (xi_some _ _ _ hiv)))
      have hql:=xi_len _ _ _ (by simp [ivclo]) hiv
      rw [List.length_drop] at hql
      have hsl:s.data.toList.length=s.size:=by simp
      have Wn:IntKind.i64.wrap (((st.pos+2:Nat):Int)+(q.2.2:Int))=((st.pos+2+q.2.2:Nat):Int):=by rw [IntWalk.i64_in _ (by omega)];omega
      have hqs:st.pos+2+q.2.2≤s.size:=by omega
      have HQ:=Lib.hid hqs
      generalize q.1=qa at *
      generalize q.2.1=qb at *
      generalize q.2.2=qc at *
      clear q1 q2 q3 q4 hiv hql hsl hqs
      generalize st.pos+2=k2 at *
      go_wp2_with fail
      go_region_held3 (fun w'=>(w'.cell? ⟨p,0,none⟩=some (.string s)∧w'.cell? ⟨p,1,none⟩=some (.int .i64 ((k2:Nat):Int))∧RdH w2 B p s st2 es dep mv cv w'))
       (first | (with_reducible exact hall) | (with_reducible exact readr2_step HK2.out hbX (by assumption)) | (with_reducible exact readr2_drew HK2.out (by assumption)))
       (first | (go_at_call 129;refine (g5 _).mono ?_;rintro e w' ⟨rfl,hbX⟩))
      go_split_ands
      rename_i w5 _ _ hX
      clear c0 c1 c2 c3 c4 z1 z2 z3 z4
      obtain ⟨hb5,hR5⟩:=hX
      obtain ⟨c0,c1,c2,c3,c4,z1,z2,z3,z4⟩:=hR5.cells
      rw [HK2.out] at c1
      have hg:=Lib.hid (hR5.goto (k2+qc) (by rw [HK2.out];omega) HQ.out)
      have hS5:=hS2.trans (RStep.of_below (p:=p) (mv:=mv) (cv:=cv) hb5)
      go_wp2_with fail
      go_ret3
      exact bdr_some HF.out (hS5.trans hg.out.2) (by have:=hg.out.1;rw [←HST2.out] at this;exact this)
   ·have g3:=skipm_yes 63 _ (HST.out n3) ((word_two _ _ 63 (by decide)).trans q3)
    have HF:=Lib.hid (HR.out.trans (rep_ask q1 q2 q3))
    clear q1 q2 q3
    go_wp2_with fail
    refine g3.mono ?_
    rintro e w2 ⟨rfl,mv',hR2,hS2⟩
    go_wp2_with fail
    go_ret3
    exact bdr_some HF.out ((HSN.out n3).trans hS2) hR2
  ·have g2:=skipm_yes 43 _ (HST.out n1) ((word_two _ _ 43 (by decide)).trans q2)
   have HF:=Lib.hid (HR.out.trans (rep_plus q1 q2))
   clear q1 q2
   go_wp2_with fail
   refine g2.mono ?_
   rintro e w2 ⟨rfl,mv',hR2,hS2⟩
   go_wp2_with fail
   go_ret3
   exact bdr_some HF.out ((HSN.out n1).trans hS2) hR2
 ·have g1:=skip_yes ⟨#[42]⟩ w h ((word_one _ _ 42 (by decide)).trans q1) (by simp)
  have HF:=Lib.hid (HR.out.trans (rep_star q1))
  clear q1
  go_wp2_with fail
  refine g1.mono ?_
  rintro e w2 ⟨rfl,hR2,hS2⟩
  go_wp2_with fail
  go_ret3
  exact bdr_some HF.out hS2 hR2
end Go.Proofs.YtbgfankoojjejaaGreatDoor
namespace Go.Proofs.YtbgfankoojjejaaGreatDoor
open Go Go.RowKit
theorem back_no {B p:Nat} {s:ByteArray} {st:ReSt} {es:List Bool} {dep:Nat} {mv cv:Value} (n k:Nat) (w:World) (h:Rd B p w s st es dep mv cv) (h1:1≤n) (hn:st.closed.contains (n:Int)=false) :
  Calls Tryz.prog 152 #[.pointer (some ⟨p,0,none⟩),.int .i64 (k:Int),.int .i64 (n:Int)] w fun e w'=>Thrown k 9 e∧w=w':=by
 obtain ⟨c0,c1,c2,c3,c4,z1,z2,z3,z4⟩:=h.cells
 have hr:=h.rr.2 (n:Int)
 rw [hn,decide_eq_true (show (1:Int)≤(n:Int) by omega),Bool.true_and] at hr
 obtain ⟨a,cap,rfl,hl1,hl2,hx⟩:=own_row h.co (by simp)
 unfold maxLen at hl2
 have hes:=h.few.2
 have hsm:=h.small
 have hps:=h.pos
 clear h
 unfold Thrown
 by_cases hlen:n≤es.length
 ·rw [decide_eq_true (show (n:Int)≤(es.length:Int) by omega),Bool.true_and] at hr
  obtain ⟨g,rfl,_,hg,hc⟩:=hx (by omega)
  have hcn:=hc (n - 1) (by simp;omega)
  have he:es.getD (n - 1) false=false:=by
   rw [show ((n:Int) - 1).toNat=n - 1 by omega] at hr
   exact hr.symm
  have hcb:w.cell? ⟨g,n - 1,none⟩=some (.bool false):=by
   rw [Nat.zero_add] at hcn
   rw [hcn,List.getElem_map]
   rw [List.getD_eq_getElem?_getD,List.getElem?_eq_getElem (by omega),Option.getD_some] at he
   rw [he]
  have e1:decide ((es.length:Int) < (n:Int))=false:=by simp;omega
  have e2:decide (es.length < n)=false:=by simp;omega
  have Wn:IntKind.i64.wrap ((n:Int) - 1)=((n - 1:Nat):Int):=by rw [IntWalk.i64_in _ (by omega)];omega
  have hlt:((n - 1:Nat):Int) < (es.length:Int):=by omega
  clear hr hc hx hcn he
  generalize n - 1=m at *
  go_enter Tryz.func152,Tryz.ntmps152
  go_wp2_with fail
  exact ⟨rfl,rfl,rfl⟩
 ·have e1:decide ((es.length:Int) < (n:Int))=true:=by simp;omega
  have e2:decide (es.length < n)=true:=by simp;omega
  clear hr hx
  go_enter Tryz.func152,Tryz.ntmps152
  go_wp2_with fail
  exact ⟨rfl,rfl,rfl⟩
theorem back_yes {B p:Nat} {s:ByteArray} {st:ReSt} {es:List Bool} {dep:Nat} {mv cv:Value} (n k:Nat) (w:World) (h:Rd B p w s st es dep mv cv) (h1:1≤n) (hn:st.closed.contains (n:Int)=true) :
  Calls Tryz.prog 152 #[.pointer (some ⟨p,0,none⟩),.int .i64 (k:Int),.int .i64 (n:Int)] w fun e w'=>e=.returned (.iface 140 (.agg #[.int .i64 (n:Int)]))∧w=w':=by
 obtain ⟨c0,c1,c2,c3,c4,z1,z2,z3,z4⟩:=h.cells
 have hr:=h.rr.2 (n:Int)
 rw [hn,decide_eq_true (show (1:Int)≤(n:Int) by omega),Bool.true_and] at hr
 obtain ⟨a,cap,rfl,hl1,hl2,hx⟩:=own_row h.co (by simp)
 unfold maxLen at hl2
 have hes:=h.few.2
 have hsm:=h.small
 have hps:=h.pos
 clear h
 have hr2:=(Bool.and_eq_true_iff.1 hr.symm)
 have hlen:n≤es.length:=by have:=of_decide_eq_true hr2.1;omega
 obtain ⟨g,rfl,_,hg,hc⟩:=hx (by omega)
 have hcn:=hc (n - 1) (by simp;omega)
 have he:es.getD (n - 1) false=true:=by
  have:=hr2.2
  rw [show ((n:Int) - 1).toNat=n - 1 by omega] at this
  exact this
 have hcb:w.cell? ⟨g,n - 1,none⟩=some (.bool true):=by
  rw [Nat.zero_add] at hcn
  rw [hcn,List.getElem_map]
  rw [List.getD_eq_getElem?_getD,List.getElem?_eq_getElem (by omega),Option.getD_some] at he
  rw [he]
 have e1:decide ((es.length:Int) < (n:Int))=false:=by simp;omega
 have e2:decide (es.length < n)=false:=by simp;omega
 have Wn:IntKind.i64.wrap ((n:Int) - 1)=((n - 1:Nat):Int):=by rw [IntWalk.i64_in _ (by omega)];omega
 have hlt:((n - 1:Nat):Int) < (es.length:Int):=by omega
 clear hr hr2 hc hx hcn he
 generalize n - 1=m at *
 go_enter Tryz.func152,Tryz.ntmps152
 go_wp2_with fail
 go_ret
 exact ⟨rfl,rfl⟩
end Go.Proofs.YtbgfankoojjejaaGreatDoor
namespace Go.Proofs.YtbgfankoojjejaaGreatDoor
open Go.RowKit
theorem opart0 (a b c d:Int) (w:World):(part 130 #[.int .u64 a,.int .u64 b,.int .u64 c,.int .u64 d] (0 * 1)).run Tryz.prog w=.ok (.int .u64 a) w:=by kernel_rfl
theorem opart1' (a b c d:Int) (w:World):(part 130 #[.int .u64 a,.int .u64 b,.int .u64 c,.int .u64 d] 1).run Tryz.prog w=.ok (.int .u64 b) w:=by kernel_rfl
theorem opart2' (a b c d:Int) (w:World):(part 130 #[.int .u64 a,.int .u64 b,.int .u64 c,.int .u64 d] 2).run Tryz.prog w=.ok (.int .u64 c) w:=by kernel_rfl
theorem opart3' (a b c d:Int) (w:World):(part 130 #[.int .u64 a,.int .u64 b,.int .u64 c,.int .u64 d] 3).run Tryz.prog w=.ok (.int .u64 d) w:=by kernel_rfl
theorem oeq_items (a b c d a' b' c' d':Int) (w:World):(Op.eqItems 9999 130 1 #[.int .u64 a,.int .u64 b,.int .u64 c,.int .u64 d] #[.int .u64 a',.int .u64 b',.int .u64 c',.int .u64 d'] [0,1,2,3]).run Tryz.prog w=.ok (a == a' && (b == b' && (c == c' && d == d'))) w:=by
 have h:=fun (x y:Int) (w:World)=>(run_equalIn_int (P:=Tryz.prog) w 9998 130 .u64 .u64 x y Tryz.underlying130:(Op.equalIn 9999 130 (.int .u64 x) (.int .u64 y)).run Tryz.prog w=_)
 simp only [Op.eqItems,Sem.run_bind,opart0,h,Result.andThen_ok]
 cases ha:a == a' <;> cases hb:b == b' <;> cases hc:c == c' <;> cases hd:d == d' <;> simp [ha,hb,hc,hd,h,opart1',opart2',opart3']
theorem oset_beq (s t:OSet):(ow s 0 == ow t 0 && (ow s 1 == ow t 1 && (ow s 2 == ow t 2 && ow s 3 == ow t 3)))=decide (s=t):=by
 by_cases h:s=t
 ·subst h;simp
 ·have h2:=oset_ne h
  rw [decide_eq_false h]
  cases hx:(ow s 0 == ow t 0 && (ow s 1 == ow t 1 && (ow s 2 == ow t 2 && ow s 3 == ow t 3)))
  ·rfl
  ·exfalso
   simp only [Bool.and_eq_true,beq_iff_eq] at hx
   exact h2 hx
theorem oset_eql (s t:OSet) (w:World):(Op.equalIn 10000 132 (.agg #[.int .u64 (ow s 0),.int .u64 (ow s 1),.int .u64 (ow s 2),.int .u64 (ow s 3)]) (.agg #[.int .u64 (ow t 0),.int .u64 (ow t 1),.int .u64 (ow t 2),.int .u64 (ow t 3)])).run Tryz.prog w=.ok (decide (s=t)) w:=by
 have hc:Tryz.prog.cellsOf 130=1:=by kernel_rfl
 have hi0:(Tryz.prog.info? 130).isSome=true:=by kernel_rfl
 obtain ⟨i,hi⟩:=Option.isSome_iff_exists.1 hi0
 rw [run_equalIn_array w 9999 (e:=130) (n:=4) _ _ Tryz.underlying132 hi]
 rw [hc,show List.range 4=[0,1,2,3] from rfl,oeq_items,oset_beq]
end Go.Proofs.YtbgfankoojjejaaGreatDoor
