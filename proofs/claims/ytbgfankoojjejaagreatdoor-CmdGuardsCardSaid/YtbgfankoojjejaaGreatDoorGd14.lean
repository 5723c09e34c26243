/- The proof's texts RdIJ: what the claim reaches of them. -/
import Derived.Test.YtbgfankoojjejaaGreatDoorGd06
import Derived.Test.YtbgfankoojjejaaGreatDoorGd13
import Derived.Test.YtbgfankoojjejaaGreatDoorGd04
set_option linter.unusedSimpArgs false
set_option linter.unusedVariables false
set_option maxHeartbeats 8000000
set_option maxRecDepth 1000000
namespace Go.Proofs.YtbgfankoojjejaaGreatDoor
open Go Go.RowKit
theorem atom_dot {B p:Nat} {s:ByteArray} {st:ReSt} {es:List Bool} {dep:Nat} {mv cv:Value} (w:World) (h:Rd B p w s st es dep mv cv) (hlt:st.pos < s.size) (hb:byt s.data.toList st.pos=46):Calls Tryz.prog 136 #[.pointer (some ⟨p,0,none⟩)] w fun e w'=>NdAns (.ok (st.to (st.pos+1),.one (oSpan 0 255))) B p s dep mv cv w e w':=by
 have hsm:=h.small;obtain ⟨k,hk⟩:∃ k,k=st.pos:=⟨_,rfl⟩;rw [←hk] at hlt;have hk1:(k:Int) < (s.size:Int):=(by omega);have hb0:=pbyt_at s k hlt;have Wn:IntKind.i64.wrap ((k:Int)+1)=((k+1:Nat):Int):=(by rw [IntWalk.i64_in _ (by omega)];omega);have hgo:Rd B p (w.setCell ⟨p,1,none⟩ (.int .i64 ((k:Int)+1))) s (st.to (k+1)) es dep mv cv∧RStep p w mv cv (w.setCell ⟨p,1,none⟩ (.int .i64 ((k:Int)+1))) mv cv:=h.goto (k+1) (show st.pos≤k+1 by omega) (show k+1≤s.size by omega);obtain ⟨c0,c1,c2,c3,c4,z1,z2,z3,z4⟩:=h.cells;rw [←hk] at c1;have HK:=Lib.hid hk;have HGO:=Lib.hid hgo;have H:=Lib.hid h;clear hk hgo h
 rw [←HK.out,hb0] at hb
 have e46:((s[k].toNat:Int) == 46)=true:=by rw [hb];rfl
 clear hb hb0
 have hn:=fun w=>not_any oz w
 rw [not_oz,ow_zero,ow_zero,ow_zero,ow_zero] at hn
 go_enter Tryz.func136,Tryz.ntmps136
 go_wp2_with fail
 refine (hn _).mono ?_
 rintro e w1 ⟨rfl,b1⟩
 have hR:=HGO.out.1.below b1
 have HS:=Lib.hid (HGO.out.2.trans (RStep.of_below (p:=p) (mv:=mv) (cv:=cv) b1))
 rw [show k+1=st.pos+1 by rw [HK.out]] at hR
 have HR:=Lib.hid hR
 clear hR b1
 go_wp2_with fail
 go_ret
 exact ndans_ok rfl HS.out HR.out (ndoff_one _ _ _ _ _ _)
theorem atom_plain {B p:Nat} {s:ByteArray} {st:ReSt} {es:List Bool} {dep:Nat} {mv cv:Value} (w:World) (h:Rd B p w s st es dep mv cv) (hlt:st.pos < s.size) (h46:byt s.data.toList st.pos≠46) (h91:byt s.data.toList st.pos≠91) (h92:byt s.data.toList st.pos≠92) :
  Calls Tryz.prog 136 #[.pointer (some ⟨p,0,none⟩)] w fun e w'=>NdAns (.ok (st.to (st.pos+1),.one (oSpan (byt s.data.toList st.pos) (byt s.data.toList st.pos)))) B p s dep mv cv w e w':=by
 obtain ⟨R,hR0⟩:∃ R:ReRes (ReSt × Nd),R=.ok (st.to (st.pos+1),.one (oSpan (byt s.data.toList st.pos) (byt s.data.toList st.pos))):=⟨_,rfl⟩
 rw [←hR0]
 have hsm:=h.small;obtain ⟨k,hk⟩:∃ k,k=st.pos:=⟨_,rfl⟩;rw [←hk] at hlt;have hk1:(k:Int) < (s.size:Int):=(by omega);have hb0:=pbyt_at s k hlt;have Wn:IntKind.i64.wrap ((k:Int)+1)=((k+1:Nat):Int):=(by rw [IntWalk.i64_in _ (by omega)];omega);have hgo:Rd B p (w.setCell ⟨p,1,none⟩ (.int .i64 ((k:Int)+1))) s (st.to (k+1)) es dep mv cv∧RStep p w mv cv (w.setCell ⟨p,1,none⟩ (.int .i64 ((k:Int)+1))) mv cv:=h.goto (k+1) (show st.pos≤k+1 by omega) (show k+1≤s.size by omega);obtain ⟨c0,c1,c2,c3,c4,z1,z2,z3,z4⟩:=h.cells;rw [←hk] at c1;have HK:=Lib.hid hk;have HGO:=Lib.hid hgo;have H:=Lib.hid h;clear hk hgo h
 rw [←HK.out,hb0] at h46 h91 h92 hR0
 have HR0:=Lib.hid hR0
 have e46:((s[k].toNat:Int) == 46)=false:=by rw [beq_eq_false_iff_ne];omega
 have e91:((s[k].toNat:Int) == 91)=false:=by rw [beq_eq_false_iff_ne];omega
 have e92:((s[k].toNat:Int) == 92)=false:=by rw [beq_eq_false_iff_ne];omega
 clear h46 h91 h92 hb0 hR0
 go_enter Tryz.func136,Tryz.ntmps136
 go_wp2_with fail
 refine (of_one (s[k].toNat:Int) (pu8a _) (pu8b _) _ _ (by simp [World.setCell])).mono ?_
 rintro e w1 ⟨rfl,b1⟩
 rw [ofl_one]
 have hR:=HGO.out.1.below b1
 have HS:=Lib.hid (HGO.out.2.trans (RStep.of_below (p:=p) (mv:=mv) (cv:=cv) b1))
 have HR:=Lib.hid hR
 clear hR b1
 go_wp2_with fail
 go_ret
 exact ndans_ok HR0.out HS.out HR.out (ndoff_one _ _ _ _ _ _)
theorem atom_back {B p:Nat} {s:ByteArray} {st:ReSt} {es:List Bool} {dep:Nat} {mv cv:Value} (w:World) (h:Rd B p w s st es dep mv cv) (hlt:st.pos < s.size) (hb:byt s.data.toList st.pos=92) (front:Bool) (hfr:front=true∨repAt false s.data.toList st.pos=.none) (hen:endsAt s.data.toList st.pos=false)
  (sub:Option (ReSt→ReRes (ReSt × Nd))) (hG:Gl w) (hB:glN≤B) (hgr:GroupOk B p s st es dep sub) :
  Calls Tryz.prog 136 #[.pointer (some ⟨p,0,none⟩)] w fun e w'=>NdAns (atomF s.data.toList sub front st) B p s dep mv cv w e w':=by
 obtain ⟨R,hR0⟩:∃ R:ReRes (ReSt × Nd),R=atomF s.data.toList sub front st:=⟨_,rfl⟩
 have hesc:=fun (w2:World) (h2:Rd B p w2 s (st.to (st.pos+1)) es dep mv cv) (hG2:Gl w2)=>escaped_any w2 h2 hb front hfr hen sub hG2 hB h.few.2 hgr
 rw [←hR0] at hesc ⊢
 clear hR0
 have hsm:=h.small;obtain ⟨k,hk⟩:∃ k,k=st.pos:=⟨_,rfl⟩;rw [←hk] at hlt;have hk1:(k:Int) < (s.size:Int):=(by omega);have hb0:=pbyt_at s k hlt;have Wn:IntKind.i64.wrap ((k:Int)+1)=((k+1:Nat):Int):=(by rw [IntWalk.i64_in _ (by omega)];omega);have hgo:Rd B p (w.setCell ⟨p,1,none⟩ (.int .i64 ((k:Int)+1))) s (st.to (k+1)) es dep mv cv∧RStep p w mv cv (w.setCell ⟨p,1,none⟩ (.int .i64 ((k:Int)+1))) mv cv:=h.goto (k+1) (show st.pos≤k+1 by omega) (show k+1≤s.size by omega);obtain ⟨c0,c1,c2,c3,c4,z1,z2,z3,z4⟩:=h.cells;rw [←hk] at c1;have HK:=Lib.hid hk;have HGO:=Lib.hid hgo;have H:=Lib.hid h;clear hk hgo h
 rw [←HK.out,hb0] at hb
 have e46:((s[k].toNat:Int) == 46)=false:=by rw [hb];rfl
 have e91:((s[k].toNat:Int) == 91)=false:=by rw [hb];rfl
 have e92:((s[k].toNat:Int) == 92)=true:=by rw [hb];rfl
 have HGl:=Lib.hid hG
 have HE:=Lib.hid hesc
 clear hb hb0 hfr hen hgr hG hesc
 go_enter Tryz.func136,Tryz.ntmps136
 go_wp2_with fail
 obtain ⟨hR,hS⟩:=HGO.out
 have hkp:k+1=st.pos+1:=by rw [HK.out]
 rw [hkp] at hR
 have hA:=HE.out _ hR (HGl.out.step hS H.out hB)
 rw [←HK.out] at hA
 refine hA.mono ?_
 intro e w' hA
 replace hA:=hA.from hS
 obtain ⟨mv',cv',hS',hr⟩:=hA
 have HS':=Lib.hid hS'
 clear hS' hkp
 cases R with
 | error q=>
  obtain rfl:e=_:=hr
  go_wp2_with fail
  exact ⟨rfl,_,_,HS'.out,rfl⟩
 | ok q=>
  obtain ⟨es',v,rfl,hR',hN'⟩:=hr
  go_wp2_with fail
  go_ret
  exact ⟨_,_,HS'.out,es',v,rfl,hR',hN'⟩
theorem atom_set {B p:Nat} {s:ByteArray} {st:ReSt} {es:List Bool} {dep:Nat} {mv cv:Value} (w:World) (h:Rd B p w s st es dep mv cv) (hlt:st.pos < s.size) (hb:byt s.data.toList st.pos=91) (hG:Gl w) (hB:glN≤B) :
  Calls Tryz.prog 136 #[.pointer (some ⟨p,0,none⟩)] w fun e w'=>NdAns (if (prs s.data.toList ((st.pos:Int)+1)).2.2=0 then .ok (st.to (prs s.data.toList ((st.pos:Int)+1)).2.1.toNat,.one (prs s.data.toList ((st.pos:Int)+1)).1) else .error ((prs s.data.toList ((st.pos:Int)+1)).2.2,(prs s.data.toList ((st.pos:Int)+1)).2.1.toNat)) B p s dep mv cv w e w':=by
 have hsl:s.data.toList.length=s.size:=by simp
 obtain ⟨t,j,er,hprs,hj⟩:=prs_form s.data.toList (st.pos+1) (by omega)
 rw [hsl] at hj
 have hpa:=fun (w:World) (hG:Gl w)=>parse_any s ((st.pos+1:Nat):Int) w (by have:=h.small;omega) hG
 rw [hprs,show prV (t,(j:Int),er)=.tuple #[.agg #[.int .u64 (ow t 0),.int .u64 (ow t 1),.int .u64 (ow t 2),.int .u64 (ow t 3)],.int .i64 (j:Int),.int .i64 (er:Int)] from rfl] at hpa
 obtain ⟨R,hR0⟩:∃ R:ReRes (ReSt × Nd),R=if er=0 then .ok (st.to j,.one t) else .error (er,j):=⟨_,rfl⟩
 rw [show ((st.pos:Int)+1)=((st.pos+1:Nat):Int) by omega,hprs]
 simp only [Int.toNat_natCast]
 rw [←hR0]
 have HR0:=Lib.hid hR0
 have HGl:=Lib.hid hG
 clear hprs hR0 hsl hG
 have hsm:=h.small;obtain ⟨k,hk⟩:∃ k,k=st.pos:=⟨_,rfl⟩;rw [←hk] at hlt;have hk1:(k:Int) < (s.size:Int):=(by omega);have hb0:=pbyt_at s k hlt;have Wn:IntKind.i64.wrap ((k:Int)+1)=((k+1:Nat):Int):=(by rw [IntWalk.i64_in _ (by omega)];omega);have hgo:Rd B p (w.setCell ⟨p,1,none⟩ (.int .i64 ((k:Int)+1))) s (st.to (k+1)) es dep mv cv∧RStep p w mv cv (w.setCell ⟨p,1,none⟩ (.int .i64 ((k:Int)+1))) mv cv:=h.goto (k+1) (show st.pos≤k+1 by omega) (show k+1≤s.size by omega);obtain ⟨c0,c1,c2,c3,c4,z1,z2,z3,z4⟩:=h.cells;rw [←hk] at c1;have HK:=Lib.hid hk;have HGO:=Lib.hid hgo;have H:=Lib.hid h;clear hk hgo h
 rw [←HK.out,hb0] at hb
 have e46:((s[k].toNat:Int) == 46)=false:=by rw [hb];rfl
 have e91:((s[k].toNat:Int) == 91)=true:=by rw [hb];rfl
 clear hb hb0
 have hkp:st.pos+1=k+1:=by rw [HK.out]
 rw [hkp] at hpa hj
 clear hkp
 have HJ:=Lib.hid hj
 clear hj
 go_enter Tryz.func136,Tryz.ntmps136
 go_upto_region 9 with fail
 obtain ⟨hR,hS⟩:=HGO.out
 have hG2:=HGl.out.step hS H.out hB
 clear c0 c1 c2 c3 c4 z1 z2 z3 z4 Wn
 generalize hw2:w.setCell ⟨p,1,none⟩ (.int .i64 ((k:Int)+1))=w2 at *
 have HW2:=Lib.hid hw2
 clear hw2
 generalize hk2:k+1=k2 at *
 have hall:w2.cell? ⟨p,0,none⟩=some (.string s)∧w2.cell? ⟨p,1,none⟩=some (.int .i64 (k2:Int))∧RdH w2 B p s (st.to k2) es dep mv cv w2:=read_refl hR
 have HR:=Lib.hid hR
 have HS:=Lib.hid hS
 have HK2:=Lib.hid hk2
 clear hR hS hk2
 obtain ⟨c0,c1,c2,c3,c4,z1,z2,z3,z4⟩:=HR.out.cells
 replace c1:w2.cell? ⟨p,1,none⟩=some (.int .i64 (k2:Int)):=c1
 have hpl:=HR.out.blk.lt
 have hkk:(st.to k2).pos=k2:=rfl
 go_cut [5,6,7] (fun s5 s6 s7 wx=>∃ a:Nat,s5=.pointer (some ⟨a,0,none⟩)∧s6=.int .i64 (j:Int)∧s7=.int .i64 (er:Int)∧AtSet w2 a t wx)
 case first=>
  go_region_with (go_at_call 130;refine (hpa _ (hG2.up (by repeat (first | (with_reducible exact Below.refl _ _) | refine Below.drew ?_ | refine below_drewN ?_ _ | refine Below.alloc ?_ (by first | omega | (simp;omega) | simp) _)))).mono ?_;rintro e w' ⟨rfl,hbX⟩;have hbQ:Below w2.heap.size w2 w':=Below.trans (by repeat (first | (with_reducible exact Below.refl _ _) | refine Below.drew ?_ | refine below_drewN ?_ _ | refine Below.alloc ?_ (by first | omega | (simp;omega) | simp) _)) (hbX.mono (by simp));(try (have hPz:=((Blk.new w2 #[.int .u64 0,.int .u64 0,.int .u64 0,.int .u64 0] 132 w2.heap.size rfl).drew).below hbX (by simp);obtain ⟨y0,y1,y2,y3,x0,x1,x2,x3,xl⟩:=blk_four hPz)))
  all_goals go_wp2_with fail
  all_goals go_meet
  all_goals first
   | exact ⟨_,rfl,rfl,rfl,⟨hbQ.alloc hbQ.size _,Blk.new _ _ _ _ rfl,hbQ.size⟩⟩
   | exact ⟨_,rfl,rfl,rfl,⟨(((hbQ.setCell (p:=⟨w2.heap.size,0,none⟩) (Nat.le_refl _) _).setCell (p:=⟨w2.heap.size,1,none⟩) (Nat.le_refl _) _).setCell (p:=⟨w2.heap.size,2,none⟩) (Nat.le_refl _) _).setCell (p:=⟨w2.heap.size,3,none⟩) (Nat.le_refl _) _,(((hPz.set 0 _).set 1 _).set 2 _).set 3 _,Nat.le_refl _⟩⟩
 case rest=>
  obtain ⟨a,rfl,rfl,rfl,hA⟩:=hcut
  clear c0 c1 c2 c3 c4 z1 z2 z3 z4 hpa hall hG2
  have hS2:=HS.out.trans (RStep.of_below (p:=p) (mv:=mv) (cv:=cv) hA.b)
  have hR2:=HR.out.below hA.b
  have HS2:=Lib.hid hS2
  clear hS2
  by_cases her:er=0
  ·subst her
   have hj:=HJ.out rfl
   have HF:=Lib.hid (HR0.out.trans (if_pos rfl))
   have hg:=hR2.goto j (show k2≤j by omega) hj.2
   have HG:=Lib.hid hg
   obtain ⟨c0,c1,c2,c3,c4,z1,z2,z3,z4⟩:=hR2.cells
   obtain ⟨y0,y1,y2,y3,x0,x1,x2,x3,xl⟩:=blk_four hA.s
   have hap:a≠p:=fun e=>by have:=hA.lo;omega
   have hap2:p≠a:=fun e=>hap e.symm
   clear hg hR2 hA hj
   go_wp2_with fail
   go_ret
   exact ndans_ok HF.out (HS2.out.trans HG.out.2) HG.out.1 (ndoff_one _ _ _ _ _ _)
  ·have HF:=Lib.hid (HR0.out.trans (if_neg her))
   have e9:((er:Int) != 0)=true:=by simp;omega
   clear her hR2 hA
   go_wp2_with fail
   exact ⟨rfl,ndans_err HF.out HS2.out rfl⟩
end Go.Proofs.YtbgfankoojjejaaGreatDoor
namespace Go.Proofs.YtbgfankoojjejaaGreatDoor
open Go Go.RowKit
def repsOf (s:List UInt8) (A:ReRes (ReSt × Nd)):ReRes (ReSt × Nd):=match A with
 | .error e=>.error e
 | .ok q=>repM false s (s.length+1) q.1 q.2
def pieceM (s:List UInt8) (sub:Option (ReSt→ReRes (ReSt × Nd))) (front:Bool) (st:ReSt):ReRes (ReSt × Nd):=
 if chAt s st.pos 36 && endsAt s (st.pos+1) then .ok (st.to (st.pos+1),.fin)
 else repsOf s (atomF s sub front st)
theorem intv_move (ere:Bool) (s:List UInt8) (k:Nat) (m n:Int) (j:Nat) (h:intv ere s k=some (m,n,j)):k < j∧j≤s.length:=by
 rw [intv_at] at h
 obtain ⟨q,hq,he⟩:=Option.map_eq_some_iff.1 h
 have h0:ivclo ere≠[]:=by cases ere <;> simp [ivclo]
 have h1:q.2.2≤(s.drop k).length:=by
  unfold ivl at hq
  split at hq
  ·rename_i hc
   injection hq with hq
   subst hq
   rw [Bool.and_eq_true] at hc
   exact word_len _ _ _ hc.2 h0
  ·cases hq
 have h2:0 < q.2.2:=by
  unfold ivl at hq
  split at hq
  ·injection hq with hq
   subst hq
   have:0 < (ivclo ere).length:=List.length_pos_iff.2 h0
   simp only
   omega
  ·cases hq
 rw [List.length_drop] at h1
 injection he with he1 he2
 injection he2 with he2 he3
 omega
theorem rep_move (s:List UInt8) (k:Nat) (a b:Int) (c j:Nat) (h:repAt false s k=.some a b c j):k < j∧j≤s.length:=by
 unfold repAt at h
 split at h
 ·rename_i h1
  injection h with _ _ _ h
  have:=(ch_byt h1).1
  omega
 split at h
 ·rename_i _ h1
  injection h with _ _ _ h
  have:=(es_byt h1).1
  simp [opLen] at h
  omega
 split at h
 ·rename_i _ _ h1
  injection h with _ _ _ h
  have:=(es_byt h1).1
  simp [opLen] at h
  omega
 split at h
 ·rename_i _ _ _ h1
  split at h
  ·cases h
  ·rename_i m n j' hi
   injection h with _ _ _ h
   have h3:=intv_move _ _ _ _ _ _ hi
   simp [opLen] at h3
   omega
 ·cases h
theorem repM_succ (s:List UInt8) (m:Nat) (st:ReSt) (d:Nd) (h:0 < m):repM false s m st d=match repAt false s st.pos with
  | .none=>.ok (st,d)
  | .bad=>.error (7,st.pos)
  | .some mn mx c j=>repM false s (m - 1) ((if c=0 then st else st.mark c).to j) (.rep d mn mx):=by
 obtain ⟨n,rfl⟩:∃ n,m=n+1:=⟨m - 1,by omega⟩
 rw [repM]
 rfl
theorem piece_fin {B p:Nat} {s:ByteArray} {st:ReSt} {es:List Bool} {dep:Nat} {mv cv:Value} (w:World) (h:Rd B p w s st es dep mv cv) (hlt:st.pos < s.size) (hq:(chAt s.data.toList st.pos 36 && endsAt s.data.toList (st.pos+1))=true) :
  Calls Tryz.prog 124 #[.pointer (some ⟨p,0,none⟩)] w fun e w'=>NdAns (.ok (st.to (st.pos+1),.fin)) B p s dep mv cv w e w':=by
 have hsm:=h.small
 rw [Bool.and_eq_true] at hq
 obtain ⟨hq1,hq2⟩:=hq
 have hst:=fun n=>stands_any ⟨#[36]⟩ (w.drewN n) (h.below (below_drewN (Below.refl _ _) n))
 rw [show wordAt s.data.toList st.pos (ByteArray.mk #[36]).data.toList=true from (word_one _ _ 36 (by decide)).trans hq1] at hst
 have hbe:=fun w=>bends_any s (st.pos+1) w
 rw [hq2] at hbe
 have hgo:∀ n,Rd B p ((w.drewN n).setCell ⟨p,1,none⟩ (.int .i64 ((st.pos:Int)+1))) s (st.to (st.pos+1)) es dep mv cv∧RStep p w mv cv ((w.drewN n).setCell ⟨p,1,none⟩ (.int .i64 ((st.pos:Int)+1))) mv cv:=fun n=>⟨((h.below (below_drewN (Below.refl w.heap.size w) n)).goto (st.pos+1) (show st.pos≤st.pos+1 by omega) (show st.pos+1≤s.size by omega)).1,(RStep.of_below (below_drewN (Below.refl w.heap.size w) n)).trans ((h.below (below_drewN (Below.refl w.heap.size w) n)).goto (st.pos+1) (show st.pos≤st.pos+1 by omega) (show st.pos+1≤s.size by omega)).2⟩
 have HGO:=Lib.hid hgo
 obtain ⟨c0,c1,c2,c3,c4,z1,z2,z3,z4⟩:=h.cells
 have hk0:(0:Int)≤((st.pos+1:Nat):Int):=by omega
 have hk1:((st.pos+1:Nat):Int)≤(s.size:Int):=by omega
 have Wn:IntKind.i64.wrap ((st.pos:Int)+1)=((st.pos+1:Nat):Int):=by rw [IntWalk.i64_in _ (by omega)];omega
 clear h hgo hq1 hq2
 go_enter Tryz.func124,Tryz.ntmps124
 go_wp2_with fail
 go_quiet (first | (go_at_call 135;exact Calls.quiet_of (hst _)) | (go_at_call 123;exact Calls.quiet_of_same ((hbe _).mono fun _ _ h=>⟨h.1,h.2.symm⟩)))
 go_wp2_with fail
 go_ret
 exact ndans_ok rfl (HGO.out nq).2 (HGO.out nq).1 (ndoff_fin _ _ _ _ _)
theorem piece_atom {B p:Nat} {s:ByteArray} {st:ReSt} {es:List Bool} {dep:Nat} {mv cv:Value} (w:World) (h:Rd B p w s st es dep mv cv) (hlt:st.pos < s.size) (hq:(chAt s.data.toList st.pos 36 && endsAt s.data.toList (st.pos+1))=false) (A:ReRes (ReSt × Nd))
  (hat:∀ n,Calls Tryz.prog 136 #[.pointer (some ⟨p,0,none⟩)] (w.drewN n) fun e w'=>NdAns A B p s dep mv cv (w.drewN n) e w') :
  Calls Tryz.prog 124 #[.pointer (some ⟨p,0,none⟩)] w fun e w'=>NdAns (repsOf s.data.toList A) B p s dep mv cv w e w':=by
 have hsm:=h.small
 have hsl:s.data.toList.length=s.size:=by simp
 obtain ⟨R,hR0⟩:∃ R:ReRes (ReSt × Nd),R=repsOf s.data.toList A:=⟨_,rfl⟩
 rw [←hR0]
 have HR0:=Lib.hid hR0
 have HSL:=Lib.hid hsl
 clear hR0 hsl
 have hst:=fun n=>stands_any ⟨#[36]⟩ (w.drewN n) (h.below (below_drewN (Below.refl _ _) n))
 rw [show wordAt s.data.toList st.pos (ByteArray.mk #[36]).data.toList=chAt s.data.toList st.pos 36 from word_one _ _ 36 (by decide)] at hst
 have hbe:=fun w=>bends_any s (st.pos+1) w
 obtain ⟨c0,c1,c2,c3,c4,z1,z2,z3,z4⟩:=h.cells
 have hk0:(0:Int)≤((st.pos+1:Nat):Int):=by omega
 have hk1:((st.pos+1:Nat):Int)≤(s.size:Int):=by omega
 have Wn:IntKind.i64.wrap ((st.pos:Int)+1)=((st.pos+1:Nat):Int):=by rw [IntWalk.i64_in _ (by omega)];omega
 have HST:=Lib.hid (fun n=>RStep.of_below (p:=p) (mv:=mv) (cv:=cv) (below_drewN (Below.refl w.heap.size w) n))
 have hq':chAt s.data.toList st.pos 36=false∨(chAt s.data.toList st.pos 36=true∧endsAt s.data.toList (st.pos+1)=false):=by
  cases h1:chAt s.data.toList st.pos 36
  ·exact .inl rfl
  ·rw [h1] at hq;exact .inr ⟨rfl,hq⟩
 clear h hq
 have Hq:=Lib.hid hq'
 clear hq'
 go_enter Tryz.func124,Tryz.ntmps124
 go_wp2_with fail
 go_cut [21] (fun s21 wx=>s21=.bool false∧∃ n,wx=w.drewN n)
 case first=>
  rcases Hq.out with hq1 | ⟨hq1,hq2⟩
  ·rw [hq1] at hst
   clear hbe hq1
   go_quiet (first | (go_at_call 135;exact Calls.quiet_of (hst _)))
   go_wp2_with fail
   go_meet
   exact ⟨rfl,_,rfl⟩
  ·rw [hq1] at hst
   rw [hq2] at hbe
   clear hq1 hq2
   go_quiet (first | (go_at_call 135;exact Calls.quiet_of (hst _)) | (go_at_call 123;exact Calls.quiet_of_same ((hbe _).mono fun _ _ h=>⟨h.1,h.2.symm⟩)))
   go_wp2_with fail
   go_meet
   exact ⟨rfl,_,rfl⟩
 case rest=>
  obtain ⟨rfl,n,rfl⟩:=hcut
  have ha:=hat n
  have hS0:=HST.out n
  have HS0:=Lib.hid hS0
  clear hat hst hbe c0 c1 c2 c3 c4 z1 z2 z3 z4 Wn hk0 hk1 HST hS0
  go_wp2_with fail
  refine ha.mono ?_
  intro e w1 hA
  obtain ⟨mv1,cv1,hS1,hr⟩:=hA.from HS0.out
  have HS1:=Lib.hid hS1
  clear hS1 hA ha
  cases A with
  | error q=>
   obtain rfl:e=_:=hr
   go_wp2_with fail
   exact ⟨rfl,ndans_err HR0.out HS1.out rfl⟩
  | ok q=>
   obtain ⟨es1,v1,rfl,hR1,hN1⟩:=hr
   have HR1:=Lib.hid hR1
   have HN1:=Lib.hid hN1
   clear hR1 hN1
   go_wp2_with fail
   go_loopw [3] (fun v wr=>∃ (m:Nat) (st':ReSt) (d':Nd) (es':List Bool) (mv' cv':Value),R=repM false s.data.toList m st' d'∧s.size < m+st'.pos∧Rd B p wr s st' es' dep mv' cv'∧RStep p w mv cv wr mv' cv'∧NdOff w.heap.size p mv' cv' wr d' v) (fun _ wr=>s.size - (intOf ((wr.cell? ⟨p,1,none⟩).getD undef)).toNat)
   case atStart=>
    exact ⟨_,_,_,_,_,_,HR0.out,by rw [HSL.out];omega,HR1.out,HS1.out,HN1.out⟩
   case round=>
    obtain ⟨m,st',d',es',mv',cv',hRm,hm,hR,hS,hN⟩:=hrel
    have hb:=bounds_any wr hR
    have hm0:0 < m:=by have:=hR.pos;omega
    rw [repM_succ _ _ _ _ hm0] at hRm
    have HR:=Lib.hid hR
    have HS:=Lib.hid hS
    have HN:=Lib.hid hN
    clear hR hS hN
    have hrm:=rep_move s.data.toList st'.pos
    have HSZ:=Lib.hid HSL.out
    cases hrp:repAt false s.data.toList st'.pos with
    | none=>
     rw [hrp] at hb hRm
     have HRm:=Lib.hid hRm
     clear hRm hrm hrp
     go_wp2_with fail
     refine hb.mono ?_
     intro e w3 ⟨mv3,hS3,he3,hR3⟩
     subst he3
     have HS3:=Lib.hid hS3
     have HR3:=Lib.hid hR3
     clear hS3 hR3 hb
     go_wp2_with fail
     go_ret
     exact ndans_ok HRm.out (HS.out.trans HS3.out) HR3.out (HN.out.step HS3.out)
    | bad=>
     rw [hrp] at hb hRm
     have HRm:=Lib.hid hRm
     clear hRm hrm hrp
     go_wp2_with fail
     refine hb.mono ?_
     intro e w3 ⟨mv3,hS3,he3⟩
     obtain rfl:e=_:=he3
     have HS3:=Lib.hid hS3
     clear hS3 hb
     go_wp2_with fail
     exact ⟨rfl,ndans_err HRm.out (HS.out.trans HS3.out) rfl⟩
    | some a b c j=>
     rw [hrp] at hb hRm
     have hj:=hrm _ _ _ _ hrp
     rw [HSZ.out] at hj
     have HRm:=Lib.hid hRm
     have HJ:=Lib.hid hj
     have HM:=Lib.hid hm
     have HM0:=Lib.hid hm0
     clear hRm hrm hrp hj hm hm0
     obtain ⟨nn,hnn⟩:=HN.out
     rcases nd_shape hnn with ⟨T,x,rfl⟩ | rfl
     all_goals
      clear hnn
      go_wp2_with fail
      refine hb.mono ?_
      intro e w3 ⟨mv3,hS3,he3,hR3⟩
      subst he3
      have HS3:=Lib.hid hS3
      have HR3:=Lib.hid hR3
      clear hS3 hR3 hb
      go_wp2_with fail
      go_roundw
      case rel=>
       refine ⟨m - 1,_,_,_,_,_,HRm.out,?_,HR3.out,HS.out.trans HS3.out,ndoff_rep (HN.out.step HS3.out) _ _⟩
       have h1:=HJ.out
       have h2:=HM.out
       have h3:=HM0.out
       show s.size < m - 1+j
       omega
      case measure=>
       have h1:=HR3.out.cells.c1
       have h2:=HR.out.cells.c1
       rw [h1,h2]
       have h3:=HJ.out
       simp only [Option.getD_some,intOf]
       show s.size - (((j:Nat):Int)).toNat < _
       omega
theorem branch_step (s:List UInt8) (sub:Option (ReSt→ReRes (ReSt × Nd))) (begin n:Nat) (st:ReSt) (parts:List Nd) (front:Bool) (h:endsAt s st.pos=false) (h94:(chAt s st.pos 94 && decide (st.pos=begin))=false) :
  branchM false s sub false begin (n+1) st parts front=match pieceM s sub front st with
   | .error e=>.error e
   | .ok q=>branchM false s sub false begin n q.1 (parts++[q.2]) (chAt s st.pos 36 && endsAt s (st.pos+1)):=by
 rw [branchM]
 have h':=h
 unfold endsAt at h'
 simp only [opAt,Bool.false_eq_true,if_false,Bool.not_false,Bool.and_true,Bool.false_or]
 rw [h',h94]
 simp only [Bool.false_eq_true,if_false]
 unfold pieceM
 cases hq:(chAt s st.pos 36 && endsAt s (st.pos+1)) with
 | true=>simp
 | false=>
  simp only [Bool.false_eq_true,if_false]
  unfold repsOf atomF
  simp only [opAt,Bool.false_eq_true,if_false,Bool.false_and,Bool.or_false]
  cases hf:(front && (esAt s st.pos 123 || esAt s st.pos 43 || esAt s st.pos 63)) with
  | true=>simp
  | false=>
   simp only [Bool.false_eq_true,if_false]
   cases atomM false s sub st with
   | error e=>rfl
   | ok q=>
    obtain ⟨st1,d⟩:=q
    simp only
    cases repM false s (s.length+1) st1 d with
    | error e=>rfl
    | ok q2=>rfl
end Go.Proofs.YtbgfankoojjejaaGreatDoor
