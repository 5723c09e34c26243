/- Texts. -/
import Derived.Test.YteilldmmihiijaaGreatDoorQt20
import Derived.Test.YteilldmmihiijaaGreatDoorQt15
import Derived.BigQuiet
import Derived.Deep.DeepCutAuto
import Derived.Deep.LoopGhost
import Derived.Deep.RegionLaw
import Derived.Maps.OwnOps
import Derived.Deep.DeepMust
import Derived.Test.YteilldmmihiijaaGreatDoorQt04
import Derived.Test.YteilldmmihiijaaGreatDoorQt19
import Derived.Deep.MidRow
set_option linter.unusedSimpArgs false
set_option linter.unusedVariables false
set_option maxHeartbeats 8000000
set_option maxRecDepth 1000000
namespace Go.Proofs.YteilldmmihiijaaGreatDoor
open Go.Lib renaming hid→Ac8
open List renaming setIfInBounds_toArray→Ac9,getElem_cons_zero→Ada,getElem_cons_succ→Adb,getElem_toArray→Adc,set_cons_zero→Zz0,set_cons_succ→Ade,mem_cons→Ado
open Nat renaming le_refl→Adf,le_trans→Adg,lt_of_lt_of_le→Adi
open Go.RowKit.Below renaming refl→Adk,heap_setCell→Adl
open Go.IntWalk renaming i64_in→Adm
section
open Go Go.RowKit
def RV.go (r:RV) (k:Nat):RV:={ r with st:=r.st.go k }
structure ScS (W:World) (p mp:Nat) (q:Bool) (s:ByteArray) (ext:Bool) (r:RV) (w:World):Prop where
 h:ScR W p mp r w
 b:Blk w p (scC q r.cv s ext r.st.k r.mv r.ov (.map (some mp))) 53
section
variable {W w w':World} {p mp:Nat} {q:Bool} {s:ByteArray} {ext:Bool} {r:RV}
theorem ScR.go (h:ScR W p mp r w) (k:Nat):ScR W p mp (r.go k) w:=⟨h.b0,h.pB,h.mB,h.pl,h.ap,h.cs,h.cr,h.mr,h.or,h.la,h.ok⟩
theorem ScS.step (h:ScS W p mp q s ext r w) (hb:Below w.heap.size w w'):ScS W p mp q s ext r w':=⟨h.h.step hb,h.b.below hb h.b.lt⟩
theorem ScS.drew (h:ScS W p mp q s ext r w):ScS W p mp q s ext r w.drew:=h.step (Adk _ _).drew
theorem ScS.drewN (h:ScS W p mp q s ext r w) (n:Nat):ScS W p mp q s ext r (w.drewN n):=h.step (below_drewN (Adk _ _) n)
theorem ScS.go (h:ScS W p mp q s ext r w) (k:Nat):ScS W p mp q s ext (r.go k) (w.setCell ⟨p,4,none⟩ (.int .i64 (k:Int))):=⟨(h.h.setp 4 _).go k,h.b.set 4 _⟩
theorem ScS.gl (h:ScS W p mp q s ext r w) (hG:Gl W):Gl w:=hG.up h.h.b0
theorem ScS.t (h:ScS W p mp q s ext r w):w.cell? ⟨p,2,none⟩=some (.string s):=(h.b.cell 2).trans rfl
theorem ScS.k (h:ScS W p mp q s ext r w):w.cell? ⟨p,4,none⟩=some (.int .i64 (r.st.k:Int)):=(h.b.cell 4).trans rfl
end
theorem Z9 (s:ByteArray) (k:Nat) (hs:s.size≤4000) (hk:k≤s.size) (w:World):Calls Tryz.prog 22 #[.string s,.int .i64 (k:Int)] w fun e w'=>e=.returned (.int .i64 (FA s.data.toList k:Int))∧Below w.heap.size w w':=by
 have e:=ON s k w (by omega);rw [Du _ _ _ (by rw [←Ad];exact hk)] at e;exact e
theorem QA (W:World) (p mp:Nat) (q:Bool) (s:ByteArray) (ext:Bool) (r:RV) (w:World) (h:ScS W p mp q s ext r w) (hs:s.size≤4000) (hk:r.st.k≤s.size) (hG:Gl W) :
  Calls Tryz.prog 16 #[.pointer (some ⟨p,0,none⟩)] w fun e w'=>e=.returned (.tuple #[])∧ScS W p mp q s ext (r.go (AJ s.data.toList r.st.k)) w':=by
 have hB:=Z9 s r.st.k hs hk;have hsp:=Mc (L:=s.data.toList) (k:=r.st.k) (by simpa using hk);obtain ⟨R,hR⟩:∃ R,AJ s.data.toList r.st.k=R:=⟨_,rfl⟩;rw [hR];unfold AJ at hR;obtain ⟨K,hK⟩:∃ K,FA s.data.toList r.st.k=K:=⟨_,rfl⟩;rw [hK] at hB hR hsp;rw [←Ad] at hsp hR;have HH:=Ac8 h;have HR:=Ac8 hR;have k2:=h.t;have k4:=h.k;clear h hK hk hR;go_enter Tryz.func16,Tryz.ntmps16;go_upto_region 0 with fail;go_cut [] (fun wx=>ScS W p mp q s ext (r.go K) wx)
 case first=>
  go_region_law (first | (go_simp;go_at_call 22;refine (hB _).mono ?_;rintro e w1 ⟨rfl,b1⟩;have H1:=Ac8 (by first | exact HH.out.step b1 | exact HH.out.drew.step b1:ScS W p mp q s ext r w1);have f4:=H1.out.b.frozen 4;have g4:=H1.out.k;clear b1))
  all_goals
   (try go_wp2_with fail)
   go_meet;exact H1.out.go K
 case rest=>
  have H2:=Ac8 hcut;clear hcut k2 k4 hB HH;go_wp2_with fail
  go_loopg [] (s.size+1) (fun gk wr=>∃ k,ScS W p mp q s ext (r.go k) wr∧C3 s.data.toList gk k=R∧s.size - k < gk∧k≤s.size)
  case atStart=>exact ⟨K,H2.out,HR.out,by omega,hsp⟩
  case round=>
   obtain ⟨k,hc,hf,hgk,hk⟩:=hrel;obtain ⟨m,rfl⟩:∃ m,gk=m+1:=⟨gk - 1,by omega⟩;clear HR H2 hsp;rw [Nz] at hf;have hpf:=fun w=>MH s k 35 w
   have k2:=hc.t;have k4:wr.cell? ⟨p,4,none⟩=some (.int .i64 (k:Int)):=hc.k;have h0:(0:Int)≤(k:Int):=by omega
   have h1:(k:Int)≤(s.size:Int):=by omega
   have HC:=Ac8 hc;clear hc;by_cases hh:(s.data.toList.drop k).head?=some 35
   ·rw [if_pos hh] at hf
    rw [decide_eq_true hh] at hpf;have Hf:=Ac8 hf;have hln:=fun w1 (H:ScS W p mp q s ext (r.go k) w1)=>Lh s k p w1 hs hk (H.gl hG) H.b.lt H.t H.k
    have hle:=UU (L:=s.data.toList) (k:=k) (by simpa using hk);have hsp:=Mc (L:=s.data.toList) hle;have hadv:=(UD hh).1;have hge:=Zz s.data.toList (k+D2 s.data.toList k);rw [←Ad] at hle hsp;have hlz:(txt ((s.data.toList.drop k).take (D2 s.data.toList k))).size=D2 s.data.toList k:=by
     rw [CJ,List.length_take,List.length_drop,←Ad];omega
    generalize txt ((s.data.toList.drop k).take (D2 s.data.toList k))=T at hln hlz;generalize D2 s.data.toList k=n at *;have Wn:IntKind.i64.wrap ((k:Int)+(T.size:Int))=((k+n:Nat):Int):=by rw [Adm _ (by omega)];omega
    have hB:=Z9 s (k+n) hs hle;generalize FA s.data.toList (k+n)=K2 at *;clear hf hh hlz;go_upto_region 1 with fail;go_cut [23] (fun s23 wx=>s23=.bool true∧ScS W p mp q s ext (r.go k) wx)
    case first=>
     go_region_law (first | (go_simp;go_at_call 23;refine (hpf _).mono ?_;rintro e w1 ⟨rfl,hw⟩;have hw2:=hw.symm;subst hw2))
     all_goals
      (try go_wp2_with fail)
      go_meet;exact ⟨rfl,by first | exact HC.out.drew | exact HC.out⟩
    case rest=>
     obtain ⟨rfl,hx⟩:=hcut;have HX:=Ac8 hx;have k2:=hx.t;have k4:wc.cell? ⟨p,4,none⟩=some (.int .i64 (k:Int)):=hx.k;have hln2:=hln _ hx.drew;clear hx hpf hln HC;go_upto_region 2 with fail
     go_region_law (first
      | (go_simp;go_at_call 15;refine hln2.mono ?_;clear hln2;rintro e w1 ⟨rfl,b1⟩;have H1:=Ac8 (HX.out.drew.step b1);have y2:=H1.out.t;have y4:w1.cell? ⟨p,4,none⟩=some (.int .i64 (k:Int)):=H1.out.k;clear b1)
      | (go_simp;go_at_call 22;refine (hB _).mono ?_;rintro e w2 ⟨rfl,b2⟩;have H2:=Ac8 (H1.out.step b2);have f4:=H2.out.b.frozen 4;have g4:w2.cell? ⟨p,4,none⟩=some (.int .i64 (k:Int)):=H2.out.k;clear b2))
     all_goals
      (try go_wp2_with fail)
      go_roundg m
      case rel=>exact ⟨K2,H2.out.go K2,Hf.out,by omega,by omega⟩
      case measure=>omega
   ·rw [if_neg hh] at hf
    rw [decide_eq_false hh] at hpf;subst hf;go_upto_region 1 with fail
    go_region_law (first | (go_simp;go_at_call 23;refine (hpf _).mono ?_;rintro e w1 ⟨rfl,hw⟩;have hw2:=hw.symm;subst hw2))
    all_goals
     go_wp2_with fail
     go_end0;exact ⟨rfl,by first | exact HC.out.drew | exact HC.out⟩
end
section
open Go Go.RowKit
theorem GA {a b:UInt8} (h:a≠b):((a.toNat:Int) == (b.toNat:Int))=false:=by
 have:¬ (a.toNat:Int)=(b.toNat:Int):=fun e=>h (UInt8.toNat_inj.1 (by omega))
 simpa using this
theorem GB {w:World} {b:Nat} {T:TypeId} {c:Cmd} {ta tb ts pv:Value} (h:Blk w b (E1 c ta tb ts pv) T) :
  w.cell? ⟨b,0,none⟩=some (.int .i64 (c.pl:Int))∧w.cell? ⟨b,10,none⟩=some (.int .u8 c.name.toNat)∧w.cell? ⟨b,11,none⟩=some (.string (txt c.arg)):=
 ⟨(h.cell 0).trans rfl,(h.cell 10).trans rfl,(h.cell 11).trans rfl⟩
theorem WU:∃ i,Tryz.prog.info? 3=some i∧i.zero=some (.int .i64 0)∧i.size=1∧i.bytes=8:=by
 have h:(Tryz.prog.info? 3).map (fun i=>(i.zero,i.size,i.bytes))=some (some (.int .i64 0),1,8):=by kernel_rfl
 obtain ⟨i,hi,he⟩:=Option.map_eq_some_iff.1 h;injection he with h1 h2;injection h2 with h2 h3;exact ⟨i,hi,h1,h2,h3⟩
def RV.fit (r:RV) (c:Cmd) (oa:Option Addr) (oc:Nat):RV:={ r with st:={ r.st with op:=(AQ r.st c).2 },oa:=oa,oc:=oc,ls:=if c.name=58 then r.ls++[c.arg] else r.ls }
def Ie (W:World) (p mp:Nat) (q:Bool) (s:ByteArray) (ext:Bool) (r:RV) (c:Cmd) (w:World) (e:Ending) (w':World):Prop:=
 e=.returned (.int .i64 ((AQ r.st c).1:Int))∧Below W.heap.size W w'∧(w.heap.size≤w'.heap.size∧((AQ r.st c).1≠0→Below w.heap.size w w'))∧((AQ r.st c).1=0→∃ oa oc,ScS W p mp q s ext (r.fit c oa oc) w'∧∀ b,W.heap.size≤b→b < w.heap.size→some b ∉ r.own p mp→w'.heap[b]?=w.heap[b]?∧some b ∉ (r.fit c oa oc).own p mp)
theorem Ie.bad {W w w':World} {p mp:Nat} {q:Bool} {s:ByteArray} {ext:Bool} {r:RV} {c:Cmd} {n:Nat} {l:List Nat} (hF:AQ r.st c=(n,l)) (hn:n≠0) (hb:Below W.heap.size W w') (hz:Below w.heap.size w w'):Ie W p mp q s ext r c w (.returned (.int .i64 (n:Int))) w':=by
 unfold Ie;rw [hF];exact ⟨rfl,hb,⟨hz.size,fun _=>hz⟩,fun e=>absurd e hn⟩
theorem Ie.fine {W w w':World} {p mp:Nat} {q:Bool} {s:ByteArray} {ext:Bool} {r r':RV} {c:Cmd} {l:List Nat} {oa:Option Addr} {oc:Nat} (hF:AQ r.st c=(0,l)) (hr:r.fit c oa oc=r') (h:ScS W p mp q s ext r' w') (hz:w.heap.size≤w'.heap.size) (hk:∀ b,W.heap.size≤b→b < w.heap.size→some b ∉ r.own p mp→w'.heap[b]?=w.heap[b]?∧some b ∉ r'.own p mp):Ie W p mp q s ext r c w (.returned (.int .i64 0)) w':=by
 subst hr;unfold Ie;rw [hF];exact ⟨rfl,h.h.b0,⟨hz,fun e=>absurd rfl e⟩,fun _=>⟨oa,oc,h,hk⟩⟩
theorem WV {w wx w6:World} {r r':RV} {p mp n oc:Nat} {oa:Option Addr} (hb:Below w.heap.size w wx) (hg:wx.grownBy w6 r.ov.ownBlock) (hat:(Value.slice oa n oc).ownBlock=r.ov.ownBlock∨(Value.slice oa n oc).ownBlock=some wx.heap.size) (e1:r'.cv.ownBlock=r.cv.ownBlock) (e2:r'.mv.ownBlock=r.mv.ownBlock) (e3:r'.ov.ownBlock=(Value.slice oa n oc).ownBlock) (v:Value) :
  w.heap.size≤(w6.setCell ⟨p,6,none⟩ v).heap.size∧∀ b,b < w.heap.size→some b ∉ r.own p mp→(w6.setCell ⟨p,6,none⟩ v).heap[b]?=w.heap[b]?∧some b ∉ r'.own p mp:=by
 have hz:=hb.size;have hz6:=hg.size;refine ⟨by rw [show (w6.setCell ⟨p,6,none⟩ v).heap.size=w6.heap.size by simp [World.setCell]];omega,fun b hl h=>?_⟩;unfold RV.own at h ⊢;simp only [Ado,List.not_mem_nil,or_false,not_or] at h ⊢;obtain ⟨h1,h2,h3,h4,h5⟩:=h;refine ⟨?_,h1,h2,by rw [e1];exact h3,by rw [e2];exact h4,?_⟩
 ·rw [Adl _ _ _ _ (show b≠p from fun e=>h1 (by rw [e])),hg.block b (by omega) (fun e=>h5 e),hb.block b hl]
 ·rw [e3]
  rcases hat with e | e
  ·rw [e];exact h5
  ·rw [e];intro e;injection e with e;omega
theorem R7 (x:List UInt8) (h:x.length≤40):keyOf Tryz.prog 9 (.string (txt x))=some (.string x):=by
 have:=WideMaps.keyOf_string_mk (P:=Tryz.prog) (k:=9) Tryz.underlying9 (s:=txt x) (by rw [CJ];unfold maxLen;omega);exact this
theorem Kv (w:World):(zeroValue 3).run Tryz.prog w=.ok (.int .i64 0) w:=by kernel_rfl
theorem TM (W:World) (p mp:Nat) (q:Bool) (s:ByteArray) (ext:Bool) (r:RV) (w:World) (c:Cmd) (ta tb ts pv:Value) (h:ScS W p mp q s ext r w) (hop:r.st.op.length≤12) (hls:r.ls=scLabels r.st.cs) (hcs:r.st.cs.length≤100) (har:c.name=58→c.arg.length≤40) :
  Calls Tryz.prog 25 #[.pointer (some ⟨p,0,none⟩),.agg (E1 c ta tb ts pv)] w (Ie W p mp q s ext r c w):=by
 unfold E1;have hk6:=fun W1 (H:ScS W p mp q s ext r W1)=>((H.b.cell 6).trans rfl:World.cell? W1 ⟨p,6,none⟩=some (.slice r.oa r.st.op.length r.oc))
 have hk7:=fun W1 (H:ScS W p mp q s ext r W1)=>((H.b.cell 7).trans rfl:World.cell? W1 ⟨p,7,none⟩=some (.map (some mp)))
 have hf6:=fun W1 (H:ScS W p mp q s ext r W1)=>H.b.frozen 6
 have H0:=Ac8 h;clear h;go_enter Tryz.func25,Tryz.ntmps25;go_upto_region 1 with fail;generalize hW1:w.alloc _=W1;have b1:=Ac hW1;obtain ⟨x0,x10,x11⟩:=GB (c:=c) (ta:=ta) (tb:=tb) (ts:=ts) (pv:=pv) (Ae hW1);have H1:=Ac8 (H0.out.step b1);have B1:=Ac8 b1;have k6:=hk6 W1 H1.out;have k7:=hk7 W1 H1.out;have f6:=hf6 W1 H1.out;obtain ⟨g,hg⟩:∃ g,w.heap.size=g:=⟨_,rfl⟩;rw [hg] at x0 x10 x11 ⊢;have HG:=Ac8 hg;have HL:=Ac8 hls;have HA:=Ac8 har;clear hW1 b1 hk6 hk7 hf6 hg hls har;have BB:=Ac8 (H1.out.h.b0);have HZ:=Ac8 B1.out.size;by_cases h123:c.name=123
 ·have q1:((c.name.toNat:Int) == 123)=true:=by rw [h123];rfl
  by_cases h12:r.st.op.length=12
  ·have q2:((r.st.op.length:Int) == 12)=true:=by rw [h12];rfl
   have HFF:=Ac8 (show AQ r.st c=(4,r.st.op) by unfold AQ;rw [if_pos h123,if_pos h12]);clear h12 h123;go_wp2_with fail
   go_ret;exact Ie.bad HFF.out (by decide) BB.out B1.out
  ·have hF:AQ r.st c=(0,r.st.op++[c.pl]):=by unfold AQ;rw [if_pos h123,if_neg h12]
   have q2:((r.st.op.length:Int) == 12)=false:=beq_eq_false_iff_ne.2 (by omega);obtain ⟨i0,hi,hz0,hz1,hz2⟩:=WU;have hm1:r.st.op.length+1≤maxLen:=by unfold maxLen;omega
   have hm2:(r.st.op.length+1) * 8≤140737488355328:=by omega
   have hlo:W.heap.size≤W1.heap.size:=BB.out.size;have hplt:=H1.out.b.lt;have H58:=Ac8 (show ¬ c.name=58 by rw [h123];decide);have HFF:=Ac8 hF;clear h12 hF h123 hcs hop;go_upto_region 5 with fail
   go_region_law (first
    | (refine A1 rfl _ _ 51 rfl W.heap.size 3 i0 (.int .i64 0) 1 8 Tryz.underlying51 hi hz0 hz1 hz2 rfl (by decide) (.slice r.oa r.st.op.length r.oc) r.st.op.length (opC r.st.op) rfl (Ag H1.out.h.or (by repeat (first | (with_reducible exact Adk _ _) | refine Below.drew ?_ | refine Below.alloc ?_ (Adf _) _))) (some ⟨W1.heap.size,0,none⟩) 1 1 [.int .i64 (c.pl:Int)] rfl rfl (fun _=>⟨_,rfl,cell_one_new _ _ _⟩) (fun u hu=>by rw [List.mem_singleton.1 hu];rfl) hm1 hm2 (by simp;omega) ?_;intro v6 w6 hown6 hgrow6 hat6;obtain ⟨a6,c6,rfl⟩:=A7 hown6;have hb6:Below W1.heap.size W1 (W1.drew.alloc (.cells #[.int .i64 (c.pl:Int)] 3)):=(Adk _ _).drew.alloc (Adf _) _;have HP:=Ac8 ((H1.out.h.step hb6).open hgrow6 hown6 hat6);have HQ:=Ac8 (AE (H1.out.b.below hb6 H1.out.b.lt) hgrow6 (Zh H1.out.h.ap).2.1.2.2);have HK:=Ac8 (WV (p:=p) (mp:=mp) (r':={ r with st:={ r.st with op:=r.st.op++[c.pl] },oa:=a6,oc:=c6 }) hb6 hgrow6 hat6 rfl rfl (by cases a6 <;> rfl) (.slice a6 (r.st.op.length+1) c6));have f6:=HQ.out.frozen 6;have g6:w6.cell? ⟨p,6,none⟩=some (.slice r.oa r.st.op.length r.oc):=(HQ.out.cell 6).trans rfl;clear hown6 hgrow6 hat6 hb6))
   all_goals
    (try go_wp2_with fail)
    go_ret;refine Ie.fine (oa:=a6) (oc:=c6) HFF.out (show _={ r with st:={ r.st with op:=r.st.op++[c.pl] },oa:=a6,oc:=c6 } by unfold RV.fit;rw [HFF.out,if_neg H58.out]) ⟨HP.out.setp 6 _,?_⟩ (Adg HZ.out HK.out.1) fun b _ hl hb=>?_
    ·have h9:=HQ.out.set 6 (.slice a6 (r.st.op.length+1) c6)
     show Blk _ p (scC q r.cv s ext r.st.k r.mv (.slice a6 (r.st.op++[c.pl]).length c6) (.map (some mp))) _;rw [show (r.st.op++[c.pl]).length=r.st.op.length+1 by simp];exact h9
    ·obtain ⟨y1,y2⟩:=HK.out.2 b (Adi hl HZ.out) hb
     exact ⟨y1.trans (B1.out.block b hl),y2⟩
 have q1:((c.name.toNat:Int) == 123)=false:=GA (b:=123) h123;by_cases h125:c.name=125
 ·have q2:((c.name.toNat:Int) == 125)=true:=by rw [h125];rfl
  by_cases h0:r.st.op.length=0
  ·have q3:((r.st.op.length:Int) == 0)=true:=by rw [h0];rfl
   have HFF:=Ac8 (show AQ r.st c=(16,r.st.op) by unfold AQ;rw [if_neg h123,if_pos h125,if_pos h0]);clear h0 h123 h125;go_wp2_with fail
   go_ret;exact Ie.bad HFF.out (by decide) BB.out B1.out
  ·have hF:AQ r.st c=(0,r.st.op.dropLast):=by unfold AQ;rw [if_neg h123,if_pos h125,if_neg h0]
   have q3:((r.st.op.length:Int) == 0)=false:=beq_eq_false_iff_ne.2 (by omega);have hd:r.st.op.dropLast.length=r.st.op.length - 1:=List.length_dropLast;obtain ⟨n,hn⟩:∃ n,r.st.op.dropLast.length=n:=⟨_,rfl⟩;have Wn:IntKind.i64.wrap ((r.st.op.length:Int) - 1)=(n:Int):=by rw [Adm _ (by omega)];omega
   have hcap:r.st.op.length≤r.oc:=by
    rcases H1.out.h.or.2 with ⟨e1,e2⟩ | ⟨g,cap,cur,e1,_,_,e2,_⟩
    ·omega
    ·injection e1 with _ _ e3;omega
   have hn2:n≤r.oc:=by omega
   have H58:=Ac8 (show ¬ c.name=58 by rw [h125];decide);have HFF:=Ac8 hF;have HN:=Ac8 hn;clear hF h123 h125 hd hn hcs hop;go_upto_region 9 with fail
   go_region_law (fail)
   all_goals
    (try go_wp2_with fail)
    go_ret;refine Ie.fine (oa:=r.oa) (oc:=r.oc) HFF.out (show _={ r with st:={ r.st with op:=r.st.op.dropLast } } by unfold RV.fit;rw [HFF.out,if_neg H58.out]) ⟨(H1.out.drew.h.pop).setp 6 _,?_⟩ (by simp [World.setCell];exact HZ.out) fun b _ hl hb=>⟨?_,?_⟩
    ·have h9:=H1.out.drew.b.set 6 (.slice r.oa n r.oc)
     rw [←HN.out] at h9 ⊢;exact h9
    ·exact (Adl _ _ _ _ (show b≠p from fun e=>hb (by rw [e];simp [RV.own]))).trans (B1.out.block b hl)
    ·simp only [RV.own,RV.cv,RV.mv,RV.ov] at hb ⊢
     cases hoa:r.oa <;> (rw [hoa] at hb;exact hb)
 have q2:((c.name.toNat:Int) == 125)=false:=GA (b:=125) h125;by_cases h58:c.name=58
 ·have q3:((c.name.toNat:Int) == 58)=true:=by rw [h58];rfl
  obtain ⟨n,D,hn,hown,hat⟩:=H1.out.h.la;have hkey:=R7 c.arg (HA.out h58);obtain ⟨cc,hrun,hcc,_⟩:=hown.drew.lookup_int (Go.Maps.string_keyed Tryz.underlying9) Tryz.underlying50 Tryz.underlying3 (Kv _) hkey;rw [hat c.arg] at hcc;injection hcc with hcc;injection hcc with _ hcc;by_cases hin:c.arg∈r.ls
  ·rw [if_pos hin] at hcc
   have HFF:=Ac8 (show AQ r.st c=(15,r.st.op) by unfold AQ;rw [if_neg h123,if_neg h125,if_pos h58,if_pos (by rw [←HL.out];exact hin)]);subst hcc;clear hat hkey hown h123 h125 h58 hin;go_upto_region 11 with fail
   go_region_law (fail)
   all_goals
    (try go_wp2_with fail)
    go_ret;exact Ie.bad HFF.out (by decide) BB.out.drew B1.out.drew
  ·rw [if_neg hin] at hcc
   have HFF:=Ac8 (show AQ r.st c=(0,r.st.op) by unfold AQ;rw [if_neg h123,if_neg h125,if_pos h58,if_neg (by rw [←HL.out];exact hin)]);subst hcc;obtain ⟨c2,hrun2,hcc2,_⟩:=hown.drew.drew.lookup_int (Go.Maps.string_keyed Tryz.underlying9) Tryz.underlying50 Tryz.underlying3 (Kv _) hkey;rw [hat c.arg,if_neg hin] at hcc2;injection hcc2 with hcc2;injection hcc2 with _ hcc2;subst hcc2;have hn98:r.ls.length≤100:=by rw [HL.out];unfold scLabels;rw [List.length_map];exact Adg (List.length_filter_le _ _) hcs
   have hn99:n < maxLen:=by unfold maxLen;omega
   obtain ⟨w6,hup,hown6,hg6⟩:=hown.drew.drew.update (val:=.int .i64 1) (Go.Maps.string_keyed Tryz.underlying9) Tryz.underlying50 hn99 hkey (plainElem_int Tryz.underlying3 (by decide));have W01:IntKind.i64.wrap 1=1:=by decide
   have HLa:=Ac8 (LabAt.put hn hown.isMap hat hown6);have H6:=Ac8 hg6;have H58:=Ac8 h58;clear hat hkey hown h123 h125 h58 hin hn hn98 hn99 hown6 hg6;go_upto_region 11 with fail
   go_region_law (fail)
   all_goals
    go_upto_region 13 with fail
    go_region_law (fail)
   all_goals
    (try go_wp2_with fail)
    go_ret;have hx:=H1.out.drew.drew;refine Ie.fine (oa:=r.oa) (oc:=r.oc) HFF.out (show _={ r with ls:=r.ls++[c.arg] } by unfold RV.fit;rw [HFF.out,if_pos H58.out]) ⟨hx.h.label H6.out HLa.out,AE hx.b H6.out (fun e=>(Zh hx.h.ap).1 (by injection e with e;exact e.symm))⟩ (Adg HZ.out H6.out.size) fun b _ hl hb=>⟨?_,hb⟩
    exact (H6.out.block b (Adi hl HZ.out) (fun e=>hb (by rw [e];simp [RV.own]))).trans (B1.out.block b hl)
 have q3:((c.name.toNat:Int) == 58)=false:=GA (b:=58) h58;have hF:AQ r.st c=(0,r.st.op):=by unfold AQ;rw [if_neg h123,if_neg h125,if_neg h58]
 have H58:=Ac8 h58;have HFF:=Ac8 hF;clear hF h123 h125 h58;go_wp2_with fail
 go_ret;exact Ie.fine (oa:=r.oa) (oc:=r.oc) HFF.out (by unfold RV.fit;rw [HFF.out,if_neg H58.out]) H1.out HZ.out fun b _ hl hb=>⟨B1.out.block b hl,hb⟩
end
section
set_option linter.unusedVariables false
def kept (st:CS):UInt8 × Grd:=(st.c.name,st.c.g)
def GC (n:Nat) (st:CS) (r:CO):Prop:=r.1=0→r.2.ms.length≤st.ms.length+n∧kept r.2=kept st
theorem GC.of {st:CS} {r:CO} (h:r.2.ms=st.ms∧kept r.2=kept st):GC 0 st r:=fun _=>⟨by rw [h.1];exact Adf _,h.2⟩
theorem GC.then {n m:Nat} {st:CS} {r:CO} {f:CS→CO} (h:GC n st r) (k:r.1=0→GC m r.2 (f r.2)):GC (n+m) st (r.then f):=fun h0=>by
 unfold CO.then at h0 ⊢
 by_cases h1:r.1=0
 ·rw [if_pos h1] at h0 ⊢
  obtain ⟨a,b⟩:=h h1;obtain ⟨c,d⟩:=k h1 h0;exact ⟨by omega,d.trans b⟩
 ·rw [if_neg h1] at h0;exact absurd h0 h1
theorem GC.mono {n m:Nat} {st:CS} {r:CO} (h:GC n st r) (hn:n≤m):GC m st r:=fun h0=>⟨by have:=(h h0).1;omega,(h h0).2⟩
theorem WW (L:List UInt8) (st:CS):GC 1 st (BZ L st):=fun _=>by
 unfold BZ
 repeat' split
 all_goals simp [CS.go,CS.mark,kept]
theorem Abr {L:List UInt8} {b:UInt8} {st:CS} {r:CO} (h:AI L b st=some r):r.2.ms=st.ms∧kept r.2=kept st:=by
 unfold AI De Df CU C0 at h
 repeat' split at h
 all_goals first | (injection h with h;subst h;exact ⟨rfl,rfl⟩) | cases h
theorem R8 (L:List UInt8):∀ (n:Nat) (st:CS),GC 1 st (A9 L n st)
 | 0,st=>fun _=>⟨Nat.le_add_right _ _,rfl⟩
 | n+1,st=>by
  unfold A9;cases L.drop st.k with
  | nil=>exact fun _=>⟨Nat.le_add_right _ _,rfl⟩
  | cons b t=>
   simp only;cases hf:AI L b st with
   | some r=>
    have e:=Abr hf;simp only;split
    ·intro h0
     obtain ⟨a,b⟩:=R8 L n r.2 h0;rw [e.1] at a;exact ⟨a,b.trans e.2⟩
    ·exact (GC.of e).mono (Nat.zero_le _)
   | none=>
    simp only;split
    ·unfold Bz
     split <;> exact (GC.of ⟨rfl,rfl⟩).mono (Nat.zero_le _)
    ·exact WW L st
theorem ZA (L:List UInt8) (st:CS):kept (A6 L st).2.2=kept st:=by
 unfold A6
 repeat' split
 all_goals rfl
theorem Acm {ext:Bool} {L:List UInt8} {st:CS} (hk:st.k≤L.length):GC 251 st (Cx ext L st):=by
 unfold Cx;refine (GC.then (n:=0) (m:=251) (GC.of ⟨GT L st,ZA L st⟩) fun h0=>GC.then (n:=250) (m:=1) (fun h1=>⟨(Z6 (EZ hk) h1).2.1,?_⟩) fun h1=>(GC.then (n:=0) (m:=1) (GC.of ⟨Va L _ _,?_⟩) fun _=>R8 L _ _).mono (Adf 1)).mono (by omega)
 ·unfold DF LW;split <;> rfl
 ·unfold CE DG
  repeat' split
  all_goals rfl
theorem Acn (L:List UInt8) (st:CS):GC 1 st (Cq L st):=by
 unfold Cq;refine (GC.then (n:=0) (m:=1) (GC.of ⟨GT L st,ZA L st⟩) fun _=>?_).mono (by omega);unfold F8 F7
 repeat' split
 all_goals first | exact (GC.of ⟨rfl,rfl⟩).mono (Nat.zero_le _) | exact WW L _
theorem Zj {ext:Bool} {L:List UInt8} {st:CS} (hk:st.k≤L.length):GC 251 st (B0 ext L st):=by
 unfold B0;simp only;split
 ·exact (GC.of ⟨rfl,rfl⟩).mono (Nat.zero_le _)
 split
 ·exact (GC.of ⟨rfl,rfl⟩).mono (Nat.zero_le _)
 split
 ·unfold Dd
  split <;> exact (GC.of ⟨rfl,rfl⟩).mono (Nat.zero_le _)
 split
 ·unfold Ct
  split
  ·exact (GC.of ⟨rfl,rfl⟩).mono (Nat.zero_le _)
  ·split
   ·exact (GC.of ⟨rfl,rfl⟩).mono (Nat.zero_le _)
   ·split
    ·exact (GC.of ⟨rfl,rfl⟩).mono (Nat.zero_le _)
    ·exact fun _=>⟨by
      show (st.ms++[_]).length≤_;simp,rfl⟩
 split
 ·unfold BC
  split <;> exact (GC.of ⟨rfl,rfl⟩).mono (Nat.zero_le _)
 split
 ·exact Acm hk
 split
 ·exact (Acn L st).mono (by omega)
 ·exact (WW L st).mono (by omega)
def WX (b:UInt8):Prop:=b=58∨b=98∨b=116∨b=84
theorem Zk (L:List UInt8) (k:Nat):(Bm L k true).1.length≤40:=by
 unfold Bm DV
 repeat' split
 ·simp
 ·simp
 ·rename_i h1 h2;exact Nat.le_of_not_lt h2
theorem Aco {ext:Bool} {L:List UInt8} {st:CS} (h:WX st.c.name):(B0 ext L st).2.c.arg.length≤40:=by
 have h9:=Zk L st.k;unfold B0;simp only;rcases h with h | h
 ·rw [h,if_neg (by decide),if_pos rfl];exact h9
 ·rw [if_neg (by rcases h with h | h | h <;> rw [h] <;> decide),if_neg (by rcases h with h | h | h <;> rw [h] <;> decide),if_pos h]
  unfold Dd;split <;> exact h9
theorem Abs (L:List UInt8) (st:CS):(Bf L st).2.c.g=st.c.g:=by
 unfold Bf;split
 ·rfl
 ·unfold BA
  repeat' split
  all_goals rfl
theorem Acp {ext:Bool} (s:ByteArray) {k:Nat} {q:Cmd × List Wm × Nat} (hk:k≤s.size) (h:MV ext s.data.toList k=.ok q):(q.2.2≤s.size∧q.2.1.length≤900)∧(WX q.1.name→q.1.arg.length≤40)∧Bp q.1.g.a∧Bp q.1.g.b:=by
 have hp:q.2.2≤s.size:=by
  obtain ⟨c,ms,p⟩:=q;obtain ⟨_,_,_,h3⟩:=Ace [] (L:=s.data.toList) (by simpa using hk) (fun _ _ _ h=>EL h) h;simpa using h3
 unfold MV at h;cases hG:IW ext s.data.toList k with
 | error q=>rw [hG] at h;cases h
 | ok g=>
  obtain ⟨g1,g2⟩:=WP s hk hG;rw [hG] at h;unfold Uz F9 at h;simp only at h;split at h
  ·rename_i h0
   injection h with h;subst h;simp only at hp ⊢;unfold AM at h0 ⊢;unfold CO.then at h0 ⊢
   by_cases h1:(Bf s.data.toList (Bc g.1 g.2.1 g.2.2)).1=0
   ·rw [if_pos h1] at h0
    rw [if_pos h1];obtain ⟨n1,n2,n3⟩:=R6 h1;obtain ⟨t1,t2⟩:=Zj (by rw [n1];exact n2) h0;have e:(Bc g.1 g.2.1 g.2.2).ms=g.2.1:=rfl;rw [e] at n3;refine ⟨⟨?_,by omega⟩,fun hl=>Aco (by rw [show (B0 ext s.data.toList _).2.c.name=_ from congrArg Prod.fst t2] at hl;exact hl),?_⟩
    ·unfold AM CO.then at hp
     rw [if_pos h1] at hp;exact hp
    ·rw [show (B0 ext s.data.toList _).2.c.g=_ from congrArg Prod.snd t2]
     show Bp (Bf s.data.toList _).2.c.g.a∧Bp (Bf s.data.toList _).2.c.g.b;rw [Abs];exact WG hG
   ·rw [if_neg h1] at h0;exact absurd h0 h1
  ·cases h
def CFine (c:Cmd):Prop:=Au (c.sub.tree.getD .empty)≤4000000∧Bp c.g.a∧Bp c.g.b∧(WX c.name→c.arg.length≤40)
end
section
set_option linter.unusedVariables false
def Ft (st r:CS):Prop:=r.c.sub.tree=st.c.sub.tree
theorem Ft.refl (st:CS):Ft st st:=rfl
theorem Ft.trans {a b c:CS} (h:Ft a b) (k:Ft b c):Ft a c:=Eq.trans k h
theorem Zl {st:CS} {r:CO} {f:CS→CO} (h:Ft st r.2) (hf:Ft r.2 (f r.2).2):Ft st (r.then f).2:=by
 unfold CO.then
 split
 ·exact h.trans hf
 ·exact h
theorem O4 (L:List UInt8) (st:CS):Ft st (By L st).2:=rfl
theorem Abt (L:List UInt8) (st:CS):Ft st (Dd L st).2:=by
 unfold Dd;split
 ·exact rfl
 ·exact O4 L st
theorem Zm (L:List UInt8) (st:CS):Ft st (Ct L st).2:=by
 unfold Ct;split
 ·exact rfl
 ·split
  ·exact rfl
  ·split <;> exact rfl
theorem WY (L:List UInt8) (st:CS):Ft st (BC L st).2:=by
 unfold BC;split <;> exact rfl
theorem WZ (L:List UInt8) (st:CS):Ft st (Bz L st).2:=by
 unfold Bz;split <;> exact rfl
theorem Xa (L:List UInt8) (st:CS):Ft st (A6 L st).2.2:=by
 unfold A6;split
 ·exact rfl
 ·split <;> exact rfl
theorem QB (L:List UInt8) (st:CS):Ft st (BZ L st).2:=by
 unfold BZ;split
 ·exact rfl
 ·split
  ·exact rfl
  ·split <;> exact rfl
theorem Abu (L:List UInt8) (d:UInt8) (st:CS):Ft st (CE L d st).2:=by
 unfold CE DG;split
 ·split <;> exact rfl
 ·exact rfl
theorem R9 {L:List UInt8} {b:UInt8} {st:CS} {r:CO} (h:AI L b st=some r):Ft st r.2:=by
 unfold AI at h;split at h
 ·injection h with h
  subst h;unfold De;split <;> exact rfl
 ·split at h
  ·injection h with h
   subst h;unfold Df;split <;> exact rfl
  ·split at h
   ·injection h with h
    subst h;unfold CU C0;split
    ·split
     ·split <;> exact rfl
     ·exact rfl
    ·exact rfl
   ·cases h
theorem O5 (L:List UInt8):∀ (n:Nat) (st:CS),Ft st (A9 L n st).2
 | 0,st=>Ft.refl st
 | n+1,st=>by
  unfold A9;split
  ·exact Ft.refl st
  ·split
   ·rename_i hf
    split
    ·exact (R9 hf).trans (O5 L n _)
    ·exact R9 hf
   ·split
    ·exact Ft.trans (b:=st.go (st.k+1)) rfl (WZ L _)
    ·exact QB L st
theorem Abv (L:List UInt8) (st:CS):Ft st (Cq L st).2:=by
 unfold Cq;refine Zl (Xa L st) ?_;unfold F8;split
 ·unfold F7
  split
  ·split
   ·exact Ft.trans (b:=(A6 L st).2.2.table _ _) rfl (QB L _)
   ·exact rfl
  ·exact rfl
 ·exact rfl
def TN (st:CS):Prop:=Au (st.c.sub.tree.getD .empty)≤4000000
theorem TN.ft {a b:CS} (h:TN a) (k:Ft a b):TN b:=by unfold TN;rw [k];exact h
theorem Acq {ext:Bool} {L:List UInt8} {d:UInt8} {st:CS}:TN (DF ext L d st).2:=by
 unfold DF;cases hR:At ext L st.k d with
 | error q=>show Au .empty≤_;decide
 | ok q=>exact G9 hR
theorem Jk {r:CO} {f:CS→CO} (h:TN r.2) (hf:TN r.2→TN (f r.2).2):TN (r.then f).2:=by
 unfold CO.then
 split
 ·exact hf h
 ·exact h
theorem Xb {ext:Bool} {L:List UInt8} {st:CS} (h:TN st):TN (B0 ext L st).2:=by
 unfold B0;simp only;split
 ·exact h
 ·split
  ·exact h.ft (O4 L st)
  ·split
   ·exact h.ft (Abt L st)
   ·split
    ·exact h.ft (Zm L st)
    ·split
     ·exact h.ft (WY L st)
     ·split
      ·unfold Cx
       exact Jk (h.ft (Xa L st)) fun _=>Jk Acq fun h2=>Jk (h2.ft (Abu L _ _)) fun h3=>h3.ft (O5 L _ _)
      ·split
       ·exact h.ft (Abv L st)
       ·exact h.ft (QB L st)
theorem Zn {ext:Bool} {L:List UInt8} {k:Nat} {c:Cmd} {ms:List Wm} {p:Nat} (h:MV ext L k=.ok (c,ms,p)):Au (c.sub.tree.getD .empty)≤4000000:=by
 unfold MV at h;cases hG:IW ext L k with
 | error q=>rw [hG] at h;cases h
 | ok q=>
  rw [hG] at h;unfold Uz F9 at h;simp only at h;split at h
  ·injection h with h
   injection h with h1 h2;rw [←h1];show TN _;unfold AM;refine Jk ?_ fun h=>Xb h
   have h0:TN (Bc q.1 q.2.1 q.2.2):=by show Au .empty≤_;decide
   refine h0.ft ?_;unfold Bf;split
   ·rfl
   ·unfold BA
    split
    ·rfl
    ·split
     ·rfl
     ·show (CS.name _ _).c.sub.tree=_
      split <;> rfl
  ·cases h
theorem Xc {ext:Bool} {L:List UInt8} {k:Nat} {q:Nat × Nat} (h:MV ext L k=.error q):q.1≠0:=by
 unfold MV at h;cases hG:IW ext L k with
 | error r=>
  rw [hG] at h;injection h with h;rw [←h];exact R4 hG
 | ok r=>
  rw [hG] at h;unfold Uz F9 at h;simp only at h;split at h
  ·cases h
  ·rename_i h1
   injection h with h;rw [←h];exact h1
end
section
open Go Go.RowKit
theorem I4 {w:World} {b:Nat} {T:TypeId} {v0 v1 v2 v3 v4 v5 v6 v7 v8 v9 v10 v11 v12 v13 v14 v15 v16 v17 v18 v19:Value} (h:Blk w b #[v0,v1,v2,v3,v4,v5,v6,v7,v8,v9,v10,v11,v12,v13,v14,v15,v16,v17,v18,v19] T):(w.cell? ⟨b,0,none⟩=some v0∧w.cell? ⟨b,1,none⟩=some v1∧w.cell? ⟨b,2,none⟩=some v2∧w.cell? ⟨b,3,none⟩=some v3∧w.cell? ⟨b,4,none⟩=some v4∧w.cell? ⟨b,5,none⟩=some v5∧w.cell? ⟨b,6,none⟩=some v6∧w.cell? ⟨b,7,none⟩=some v7∧w.cell? ⟨b,8,none⟩=some v8∧w.cell? ⟨b,9,none⟩=some v9∧w.cell? ⟨b,10,none⟩=some v10∧w.cell? ⟨b,11,none⟩=some v11∧w.cell? ⟨b,12,none⟩=some v12∧w.cell? ⟨b,13,none⟩=some v13∧w.cell? ⟨b,14,none⟩=some v14∧w.cell? ⟨b,15,none⟩=some v15∧w.cell? ⟨b,16,none⟩=some v16∧w.cell? ⟨b,17,none⟩=some v17∧w.cell? ⟨b,18,none⟩=some v18∧w.cell? ⟨b,19,none⟩=some v19)∧b < w.heap.size:=
 ⟨⟨(h.cell 0).trans rfl,(h.cell 1).trans rfl,(h.cell 2).trans rfl,(h.cell 3).trans rfl,(h.cell 4).trans rfl,(h.cell 5).trans rfl,(h.cell 6).trans rfl,(h.cell 7).trans rfl,(h.cell 8).trans rfl,(h.cell 9).trans rfl,(h.cell 10).trans rfl,(h.cell 11).trans rfl,(h.cell 12).trans rfl,(h.cell 13).trans rfl,(h.cell 14).trans rfl,(h.cell 15).trans rfl,(h.cell 16).trans rfl,(h.cell 17).trans rfl,(h.cell 18).trans rfl,(h.cell 19).trans rfl⟩,h.lt⟩
end
section
open Go Go.RowKit
theorem Xd (c:Cmd) (pl:Nat) (ta tb ts ua ub tu:Value) (pa pb:Option Addr) (c1 c2:Nat) (w:World) (ka:Bp c.g.a) (kb:Bp c.g.b) (hta:TrO (fun b=>b < w.heap.size) w c.g.a.tree ta) (htb:TrO (fun b=>b < w.heap.size) w c.g.b.tree tb) (hua:TrO (fun b=>b < w.heap.size) w c.g.a.tree ua) (hub:TrO (fun b=>b < w.heap.size) w c.g.b.tree ub) (hts:TrO (fun b=>b < w.heap.size) w c.sub.tree ts) (htu:TrO (fun b=>b < w.heap.size) w c.sub.tree tu) (hf:Au (c.sub.tree.getD .empty)≤4000000) (h1:KM w pa c.sub.parts) (h2:KM w pb c.sub.parts) :
  Calls Tryz.prog 12 #[.agg (E1 c ta tb ts (.slice pa c.sub.parts.length c1)),.agg (E1 { c with pl:=pl } ua ub tu (.slice pb c.sub.parts.length c2))] w fun e w'=>e=.returned (.bool true)∧Below w.heap.size w w':=by
 have hS:=fun W (hB:Below w.heap.size w W)=>WT c.sub ts tu pa pb c1 c2 W (D6 hB hts) (D6 hB htu) hf (h1.below hB) (h2.below hB)
 have hG:=fun W (hB:Below w.heap.size w W)=>Q6 c.g c.g ta tb ua ub W ⟨D6 hB hta,D6 hB htb,D6 hB hua,D6 hB hub⟩ ka kb ka kb
 rw [show Q0 c.g c.g=true by unfold Q0;rw [IL,IL];simp] at hG;have o1:=AL hta.shape;have o2:=AL htb.shape;have o3:=AL hts.shape;have o4:=AL hua.shape;have o5:=AL hub.shape;have o6:=AL htu.shape;clear hta htb hua hub hts htu hf h1 h2 ka kb;unfold E1;simp only;all_goals
  go_enter Tryz.func12,Tryz.ntmps12;go_upto_region 1 with fail;generalize hW1:w.alloc _=W1;generalize hW2:W1.alloc _=W2;have hX:=(Ae hW1).below (Ac hW2) (Ae hW1).lt;have hY:=Ae hW2;have B2:=Ac8 ((Ac hW1).trans ((Ac hW2).mono (Ac hW1).size));have hp:W1.heap.size=w.heap.size+1:=by rw [←hW1];exact World.size_alloc _ _
  rw [hp] at hY;clear hp;generalize w.heap.size+1=p at hY ⊢;have HX:=Ac8 hX;have HY:=Ac8 hY;obtain ⟨⟨x0,x1,x2,x3,x4,x5,x6,x7,x8,x9,x10,x11,x12,x13,x14,x15,x16,x17,x18,x19⟩,hxl⟩:=I4 hX;obtain ⟨⟨y0,y1,y2,y3,y4,y5,y6,y7,y8,y9,y10,y11,y12,y13,y14,y15,y16,y17,y18,y19⟩,hyl⟩:=I4 hY;clear hX hY hW1 hW2;go_wp2_with (first
   | (go_at_call 19;refine (hG _ B2.out).mono ?_;rintro e w3 ⟨rfl,b3⟩;have B3:=Ac8 (B2.out.trans (b3.mono B2.out.size));have HX3:=Ac8 (HX.out.below b3 hxl);have HY3:=Ac8 (HY.out.below b3 hyl);clear b3 hG x0 x1 x2 x3 x4 x5 x6 x7 x8 x9 x10 x11 x12 x13 x14 x15 x16 x17 x18 x19 hxl y0 y1 y2 y3 y4 y5 y6 y7 y8 y9 y10 y11 y12 y13 y14 y15 y16 y17 y18 y19 hyl;obtain ⟨⟨x0,x1,x2,x3,x4,x5,x6,x7,x8,x9,x10,x11,x12,x13,x14,x15,x16,x17,x18,x19⟩,hxl⟩:=I4 HX3.out;obtain ⟨⟨y0,y1,y2,y3,y4,y5,y6,y7,y8,y9,y10,y11,y12,y13,y14,y15,y16,y17,y18,y19⟩,hyl⟩:=I4 HY3.out)
   | (go_at_call 20;refine (hS _ B3.out).mono ?_;rintro e w4 ⟨rfl,b4⟩;have HX4:=Ac8 (HX3.out.below b4 hxl);have HY4:=Ac8 (HY3.out.below b4 hyl);have B4:=Ac8 (B3.out.trans (b4.mono B3.out.size));clear b4 hS x0 x1 x2 x3 x4 x5 x6 x7 x8 x9 x10 x11 x12 x13 x14 x15 x16 x17 x18 x19 hxl y0 y1 y2 y3 y4 y5 y6 y7 y8 y9 y10 y11 y12 y13 y14 y15 y16 y17 y18 y19 hyl;obtain ⟨⟨x0,x1,x2,x3,x4,x5,x6,x7,x8,x9,x10,x11,x12,x13,x14,x15,x16,x17,x18,x19⟩,hxl⟩:=I4 HX4.out;obtain ⟨⟨y0,y1,y2,y3,y4,y5,y6,y7,y8,y9,y10,y11,y12,y13,y14,y15,y16,y17,y18,y19⟩,hyl⟩:=I4 HY4.out))
  go_ret;exact ⟨rfl,B4.out⟩
end
section
open Go Go.RowKit
theorem CV.len (v:CV):v.cells.toList.length=20:=rfl
theorem CV.one {F:Nat→Prop} {w:World} {v:CV} (h:v.ok F w):v.cells.all (·.oneCell')=true:=MS _ _ _ _ _ (AL h.a.shape) (AL h.b.shape) (AL h.s.shape) rfl
def Kw (w:World) (a:Option Addr) (vs:List CV):Prop:=0 < vs.length→∃ g,a=some ⟨g,0,none⟩∧g < w.heap.size∧∀ i (h:i < vs.length),w.rangeAt g (i * 20) vs[i].cells.toList
theorem Kw.below {w w':World} {a:Option Addr} {vs:List CV} (h:Kw w a vs) (hb:Below w.heap.size w w'):Kw w' a vs:=fun h0=>by
 obtain ⟨g,ha,hl,hc⟩:=h h0;exact ⟨g,ha,Adi hl hb.size,fun i hi j v hj=>(hb.cell (p:=⟨g,i * 20+j,none⟩) hl).trans (hc i hi j v hj)⟩
theorem Xe:∀ (vs:List CV) (i:Nat) (h:i < vs.length) (j:Nat) (v:Value),vs[i].cells.toList[j]?=some v→(vs.flatMap fun v=>v.cells.toList)[i * 20+j]?=some v
 | x :: vs,0,h,j,v,hj=>by
  rw [List.flatMap_cons,List.getElem?_append_left (by rw [Nat.zero_mul,Nat.zero_add];exact (List.getElem?_eq_some_iff.1 hj).1),Nat.zero_mul,Nat.zero_add];exact hj
 | x :: vs,i+1,h,j,v,hj=>by
  rw [List.flatMap_cons,List.getElem?_append_right (by rw [x.len];omega),x.len,show (i+1) * 20+j - 20=i * 20+j by omega];exact Xe vs i (by simpa using h) j v hj
theorem O6 {w:World} {B:Nat} {T:TypeId} {a:Option Addr} {c:Nat} {vs:List CV} (h:w.ownsRow B T 20 (.slice a vs.length c) vs.length (vs.flatMap fun v=>v.cells.toList)):Kw w a vs:=fun h0=>by
 rcases h.2 with ⟨_,h2⟩ | ⟨g,cap,cur,h1,_,hg,_,_,_,ht⟩
 ·omega
 ·injection h1 with h1 _ _
  refine ⟨g,h1,(Array.getElem?_eq_some_iff.1 hg).1,fun i hi j v hj=>?_⟩;have h9:=Xe vs i hi j v hj;rw [←ht,List.getElem?_take] at h9;split at h9
  ·simp only [World.cell?,hg]
   rw [Array.getElem?_toList] at h9;simpa using h9
  ·cases h9
def RC (c d:Cmd):Prop:=∃ pl,d={ c with pl:=pl }
theorem IM {w w':World} (hb:Below w.heap.size w w') {v:CV} (h:v.ok (fun b=>b < w.heap.size) w):v.ok (fun b=>b < w'.heap.size) w':=h.keep hb.size fun b hl _=>⟨Adi hl hb.size,hb.block b hl⟩
theorem Zo {va vb:CV} {w:World} (hl:RC va.c vb.c) (hf:CFine va.c) (ha:va.ok (fun b=>b < w.heap.size) w) (hb:vb.ok (fun b=>b < w.heap.size) w):Calls Tryz.prog 12 #[.agg va.cells,.agg vb.cells] w fun e w'=>e=.returned (.bool true)∧Below w.heap.size w w':=by
 obtain ⟨c,ta,tb,ts,pa,pc⟩:=va;obtain ⟨d,ua,ub,us,qa,qc⟩:=vb;obtain ⟨pl,e⟩:=hl;simp only at e;subst e;exact Xd c pl ta tb ts ua ub us pa qa pc qc w hf.2.1 hf.2.2.1 ha.a ha.b hb.a hb.b ha.s hb.s hf.1 ha.prow hb.prow
theorem Xf (va vb:List CV) (ca cb:Option Addr) (oa ob:Nat) (w:World) (hlen:va.length=vb.length) (hn:va.length≤1000) (hc:∀ i (h:i < va.length) (h2:i < vb.length),RC va[i].c vb[i].c) (hf:∀ v∈va,CFine v.c) (ka:∀ v∈va,v.ok (fun b=>b < w.heap.size) w) (kb:∀ v∈vb,v.ok (fun b=>b < w.heap.size) w) (ra:Kw w ca va) (rb:Kw w cb vb) :
  Calls Tryz.prog 11 #[.slice ca va.length oa,.slice cb vb.length ob,.func (.func 12) #[] #[]] w fun e w'=>e=.returned (.bool true)∧Below w.heap.size w w':=by
 rw [←hlen];obtain ⟨n,hv⟩:∃ n,va.length=n:=⟨_,rfl⟩;have hS:=fun (i:Nat) (h:i < va.length) (h2:i < vb.length) W (hB:Below w.heap.size w W)=>Zo (hc i h h2) (hf _ (List.getElem_mem h)) (IM hB (ka _ (List.getElem_mem h))) (IM hB (kb _ (List.getElem_mem h2)))
 have hone:=fun (i:Nat) (h:i < va.length) (h2:i < vb.length)=>And.intro (CV.one (ka _ (List.getElem_mem h))) (CV.one (kb _ (List.getElem_mem h2)))
 have HS:=Ac8 hS;have HO:=Ac8 hone;have RA:=Ac8 ra;have RB:=Ac8 rb;have HL:=Ac8 hlen;have HV:=Ac8 hv;rw [hv] at hn ⊢;clear hS hone hc hf ka kb ra rb hlen hv;go_enter Tryz.func11,Tryz.ntmps11;go_upto_region 4 with fail;go_loopw [17] (fun i wr=>∃ j:Nat,j≤n∧i=.int .i64 j∧Below w.heap.size w wr) (fun i _=>n - (intOf i).toNat)
 case atStart=>exact ⟨0,by omega,rfl,Adk _ _⟩
 case round=>
  obtain ⟨j,hj,rfl,hb⟩:=hrel;have HB:=Ac8 hb;clear hb;by_cases hlt:j < n
  ·have hji:(j:Int) < (n:Int):=by omega
   have hy0:(0:Int)≤(j:Int):=by omega
   have Wj:IntKind.i64.wrap ((j:Int)+1)=(j:Int)+1:=Adm _ (by omega);have j1:j < va.length:=by rw [HV.out];exact hlt
   have j2:j < vb.length:=by rw [←HL.out];exact j1
   obtain ⟨g1,rfl,_,hc1⟩:=(RA.out.below HB.out) (by omega);obtain ⟨g2,rfl,hg2,hc2⟩:=(RB.out.below HB.out) (by omega);have r1:=hc1 j j1;have r2:=hc2 j j2;have hS:=HS.out j j1 j2;obtain ⟨o1,o2⟩:=HO.out j j1 j2;clear hc1 hc2;generalize va[j]=x at r1 hS o1;generalize vb[j]=y at r2 hS o2;go_upto_region 5 with fail;refine wp_region_list ?_
   iterate 2 (refine wpList_plain rfl (fun K hK=>?_);go_simp;refine hK _ _ ?_;clear hK K;(try simp only [Adc,Adb,Ada,Act.put,Ac9,Zz0,Ade]))
   refine wpList_load_mid rfl 47 _ rfl g1 (j * 20) (by simp [Act.eval]) x.cells.toList _ r1 Tryz.underlying47 rfl (by kernel_rfl) ?_;rw [Array.toArray_toList]
   (try simp only [Adc,Adb,Ada,Act.put,Ac9,Zz0,Ade])
   refine wpList_plain rfl (fun K hK=>?_);go_simp;generalize hA:(wr).alloc _=wy;refine hK _ _ ?_;clear hK K;(try simp only [Adc,Adb,Ada,Act.put,Ac9,Zz0,Ade]);refine wpList_plain rfl (fun K hK=>?_);go_simp;refine hK _ _ ?_;clear hK K;(try simp only [Adc,Adb,Ada,Act.put,Ac9,Zz0,Ade]);refine wpList_store_row rfl 47 _ _ rfl (World.heap wr).size (x.cells) rfl rfl 47 D7 (Ae hA) (by kernel_rfl) rfl (o1) ?_;(try simp only [Adc,Adb,Ada,Act.put,Ac9,Zz0,Ade]);have hbx:=WQ (cs:=x.cells) hA;generalize wy.setRow (World.heap wr).size _=w1 at hbx ⊢;clear hA;refine wpList_nil ?_;obtain ⟨b1,q1⟩:=hbx;have B1:=Ac8 (HB.out.trans (b1.mono HB.out.size));have s2:w1.rangeAt g2 (j * 20) y.cells.toList:=fun i v hv=>(b1.cell (p:=⟨g2,j * 20+i,none⟩) hg2).trans (r2 i v hv)
   obtain ⟨c1,hc1⟩:∃ c1,wr.heap.size=c1:=⟨_,rfl⟩;rw [hc1] at q1 ⊢;have Q1:=Ac8 q1;clear b1 q1 hc1 r1 r2;go_upto_region 6 with fail;refine wp_region_list ?_
   iterate 3 (refine wpList_plain rfl (fun K hK=>?_);go_simp;refine hK _ _ ?_;clear hK K;(try simp only [Adc,Adb,Ada,Act.put,Ac9,Zz0,Ade]))
   refine wpList_load_mid rfl 47 _ rfl g2 (j * 20) (by simp [Act.eval]) y.cells.toList _ s2 Tryz.underlying47 rfl (by kernel_rfl) ?_;rw [Array.toArray_toList]
   (try simp only [Adc,Adb,Ada,Act.put,Ac9,Zz0,Ade])
   refine wpList_plain rfl (fun K hK=>?_);go_simp;generalize hA:(w1).alloc _=wy;refine hK _ _ ?_;clear hK K;(try simp only [Adc,Adb,Ada,Act.put,Ac9,Zz0,Ade]);refine wpList_store_row rfl 47 _ _ rfl (World.heap w1).size (y.cells) rfl rfl 47 D7 (Ae hA) (by kernel_rfl) rfl (o2) ?_;(try simp only [Adc,Adb,Ada,Act.put,Ac9,Zz0,Ade]);have hbx:=WQ (cs:=y.cells) hA;generalize wy.setRow (World.heap w1).size _=w2 at hbx ⊢;clear hA;refine wpList_nil ?_;obtain ⟨b2,q2⟩:=hbx;have B2:=Ac8 (B1.out.trans (b2.mono B1.out.size));have Q1':=Ac8 (Q1.out.below b2 Q1.out.lt);obtain ⟨c2,hc2⟩:∃ c2,w1.heap.size=c2:=⟨_,rfl⟩;rw [hc2] at q2 ⊢;have Q2:=Ac8 q2;have hS2:=hS w2 B2.out;clear b2 q2 hc2 s2 hS;go_upto_region 7 with fail;refine wp_region_list ?_;refine wpList_plain rfl (fun K hK=>?_);go_simp;refine hK _ _ ?_;clear hK K;(try simp only [Adc,Adb,Ada,Act.put,Ac9,Zz0,Ade]);refine wpList_load_row rfl 47 _ rfl c1 rfl 47 x.cells _ _ Q1'.out Tryz.underlying47 rfl (by kernel_rfl) ?_
   (try simp only [Adc,Adb,Ada,Act.put,Ac9,Zz0,Ade])
   refine wpList_load_row rfl 47 _ rfl c2 rfl 47 y.cells _ _ Q2.out Tryz.underlying47 rfl (by kernel_rfl) ?_
   (try simp only [Adc,Adb,Ada,Act.put,Ac9,Zz0,Ade])
   refine wpList_plain rfl (fun K hK=>?_);go_simp
   go_at_call 12
   refine hS2.mono ?_;clear hS2;rintro e w3 ⟨rfl,b3⟩;refine hK _ _ ?_;clear hK K
   (try simp only [Adc,Adb,Ada,Act.put,Ac9,Zz0,Ade])
   refine wpList_plain rfl (fun K hK=>?_);go_simp;refine hK _ _ ?_;clear hK K;(try simp only [Adc,Adb,Ada,Act.put,Ac9,Zz0,Ade]);refine wpList_nil ?_;have B3:=Ac8 (B2.out.trans (b3.mono B2.out.size));clear b3;go_wp2_with fail
   go_roundw
   case rel=>exact ⟨j+1,by omega,by go_num,B3.out⟩
   case measure=>simp [intOf];omega
  ·obtain rfl:j=n:=by omega
   go_wp2_with fail
   go_ret;exact ⟨rfl,HB.out⟩
end
end Go.Proofs.YteilldmmihiijaaGreatDoor
