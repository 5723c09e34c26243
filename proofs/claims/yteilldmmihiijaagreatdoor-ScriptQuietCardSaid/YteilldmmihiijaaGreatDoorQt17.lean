/- Texts. -/
import Derived.Test.YteilldmmihiijaaGreatDoorQt16
import Derived.Deep.RegionHeld3
import Derived.Test.YteilldmmihiijaaGreatDoorQt01
import Derived.Laws.Runes
import Derived.Shelf.Small.Utf8
import Derived.Deep.LoopGhost
import Derived.WalkMore
import Derived.Test.YteilldmmihiijaaGreatDoorQt06
import Derived.Shelf.Strings.BuilderK
import Derived.Deep.DeepCutAuto
set_option linter.unusedSimpArgs false
set_option linter.unusedVariables false
set_option maxHeartbeats 8000000
set_option maxRecDepth 1000000
namespace Go.Proofs.YteilldmmihiijaaGreatDoor
open Go.Lib renaming hid→Ac8
open Nat renaming le_refl→Adf
open List renaming length_append→Adh,mem_cons→Ado
open Go.RowKit.Below renaming refl→Adk,heap_setCell→Adl
open Go.IntWalk renaming i64_in→Adm
section
open Go Go.RowKit
theorem An {b c:UInt8} (h:¬ b=c):((b.toNat:Int) == (c.toNat:Int))=false:=by
 have:¬ (b.toNat:Int)=(c.toNat:Int):=fun e=>h (UInt8.toNat_inj.1 (by omega))
 simpa using this
theorem Oq (w:World) (p:Nat) (s:ByteArray) (ext:Bool) (st:CS) (W:World) (h:Dg w p s ext st W) (hs:s.size≤4000000) (hk:st.k≤s.size) :
  Calls Tryz.prog 72 #[.pointer (some ⟨p,0,none⟩)] W fun e W'=>e=.returned (.tuple #[.int .u8 ((A6 s.data.toList st).1.toNat:Int),.int .i64 ((A6 s.data.toList st).2.1:Int)])∧Dg w p s ext (A6 s.data.toList st).2.2 W':=by
 obtain ⟨ta,tb,ts,pa,pc,ma,mc,h⟩:=h;unfold A6;have HH:=Ac8 h;have k0:W.cell? ⟨p,0,none⟩=some (.string s):=(h.q.cell 0).trans rfl;have k2:W.cell? ⟨p,2,none⟩=some (.int .i64 (st.k:Int)):=(h.q.cell 2).trans rfl;have f2:=h.q.frozen 2;clear h;by_cases hz:st.k=s.size
 ·rw [Bl s st.k (by omega)]
  have hE:((st.k:Int) == (s.size:Int))=true:=by simp [hz]
  clear hz;simp only;go_enter Tryz.func72,Tryz.ntmps72;go_upto_region 1 with fail
  go_quiet (fail)
  generalize nq=n1;go_wp2_with fail
  go_ret2
  exact ⟨rfl,(HH.out.drewN n1).R⟩
 ·have hlt:st.k < s.size:=by omega
  rw [Bh s st.k hlt];have hE:((st.k:Int) == (s.size:Int))=false:=by simp;omega
  have hy0:(0:Int)≤(st.k:Int):=by omega
  have hy1:(st.k:Int) < (s.size:Int):=by omega
  clear hz;simp only;by_cases h1:s[st.k]=92∨s[st.k]=10
  ·rw [if_pos h1]
   rcases h1 with h1 | h1
   all_goals
    have e1:s[st.k].toNat=_:=congrArg UInt8.toNat h1;clear h1;go_enter Tryz.func72,Tryz.ntmps72;go_upto_region 1 with fail;go_quiet (fail);generalize nq=n1;go_upto_region 3 with fail;go_quiet (fail);have H4:=Ac8 (HH.out.drewN (n1+nq));generalize nq=n2 at H4 ⊢;go_wp2_with fail
    go_ret2
    exact ⟨rfl,H4.out.R⟩
  ·rw [if_neg h1]
   have c1:((s[st.k].toNat:Int) == 92)=false:=An (c:=92) fun e=>h1 (.inl e)
   have c2:((s[st.k].toNat:Int) == 10)=false:=An (c:=10) fun e=>h1 (.inr e)
   have Wk:IntKind.i64.wrap ((st.k:Int)+1)=((st.k+1:Nat):Int):=by rw [Adm _ (by omega)];omega
   clear h1;go_enter Tryz.func72,Tryz.ntmps72;go_upto_region 1 with fail;go_quiet (fail);generalize nq=n1;go_upto_region 3 with fail;go_quiet (fail);have H4:=Ac8 (HH.out.drewN (n1+nq));generalize nq=n2 at H4 ⊢;have H5:=Ac8 (H4.out.go (st.k+1));clear H4;go_wp2_with fail
   go_ret2
   exact ⟨rfl,H5.out.R⟩
theorem CmSt.all {w:World} {p:Nat} {s:ByteArray} {ext:Bool} {st:CS} {ta tb ts:Value} {pa:Option Addr} {pc:Nat} {ma:Option Addr} {mc:Nat} {W:World} (h:CmSt w p s ext st ta tb ts pa pc ma mc W):CmSt w p s ext st.all ta tb ts pa pc ma mc ((W.setCell ⟨p,19,none⟩ (.bool true)).setCell ⟨p,2,none⟩ (.int .i64 ((st.k+1:Nat):Int))):=
 (h.put 19 (.bool true) { st with c:={ st.c with sub:={ st.c.sub with all:=true } } } rfl rfl rfl rfl fun _ _=>rfl).go (st.k+1)
theorem CmSt.prt {w:World} {p:Nat} {s:ByteArray} {ext:Bool} {st:CS} {ta tb ts:Value} {pa:Option Addr} {pc:Nat} {ma:Option Addr} {mc:Nat} {W:World} (h:CmSt w p s ext st ta tb ts pa pc ma mc W):CmSt w p s ext st.prt ta tb ts pa pc ma mc ((W.setCell ⟨p,20,none⟩ (.bool true)).setCell ⟨p,2,none⟩ (.int .i64 ((st.k+1:Nat):Int))):=
 (h.put 20 (.bool true) { st with c:={ st.c with sub:={ st.c.sub with prt:=true } } } rfl rfl rfl rfl fun _ _=>rfl).go (st.k+1)
theorem VY (w:World) (p:Nat) (s:ByteArray) (ext:Bool) (st:CS) (W:World) (h:Dg w p s ext st W) (hs:s.size≤4000000) (hk:st.k≤s.size) :
  Calls Tryz.prog 91 #[.pointer (some ⟨p,0,none⟩),.pointer (some ⟨p,19,none⟩)] W fun e W'=>e=.returned (.int .i64 ((De st).1:Int))∧Dg w p s ext (De st).2 W':=by
 obtain ⟨ta,tb,ts,pa,pc,ma,mc,h⟩:=h;unfold De;have HH:=Ac8 h;have k2:W.cell? ⟨p,2,none⟩=some (.int .i64 (st.k:Int)):=(h.q.cell 2).trans rfl;have kf:W.cell? ⟨p,19,none⟩=some (.bool st.c.sub.all):=(h.q.cell 19).trans rfl;have f2:=h.q.frozen 2;have ff:=h.q.frozen 19;have Wk:IntKind.i64.wrap ((st.k:Int)+1)=((st.k+1:Nat):Int):=by rw [Adm _ (by omega)];omega
 clear h;obtain ⟨b,hb⟩:∃ b,st.c.sub.all=b:=⟨_,rfl⟩;rw [hb] at kf ⊢;clear hb;cases b
 ·rw [if_neg (by decide)]
  have H5:=Ac8 HH.out.all;go_enter Tryz.func91,Tryz.ntmps91;go_wp2_with fail
  go_ret;exact ⟨rfl,H5.out.R⟩
 ·rw [if_pos rfl]
  go_enter Tryz.func91,Tryz.ntmps91;go_wp2_with fail
  go_ret;exact ⟨rfl,HH.out.R⟩
theorem VZ (w:World) (p:Nat) (s:ByteArray) (ext:Bool) (st:CS) (W:World) (h:Dg w p s ext st W) (hs:s.size≤4000000) (hk:st.k≤s.size) :
  Calls Tryz.prog 91 #[.pointer (some ⟨p,0,none⟩),.pointer (some ⟨p,20,none⟩)] W fun e W'=>e=.returned (.int .i64 ((Df st).1:Int))∧Dg w p s ext (Df st).2 W':=by
 obtain ⟨ta,tb,ts,pa,pc,ma,mc,h⟩:=h;unfold Df;have HH:=Ac8 h;have k2:W.cell? ⟨p,2,none⟩=some (.int .i64 (st.k:Int)):=(h.q.cell 2).trans rfl;have kf:W.cell? ⟨p,20,none⟩=some (.bool st.c.sub.prt):=(h.q.cell 20).trans rfl;have f2:=h.q.frozen 2;have ff:=h.q.frozen 20;have Wk:IntKind.i64.wrap ((st.k:Int)+1)=((st.k+1:Nat):Int):=by rw [Adm _ (by omega)];omega
 clear h;obtain ⟨b,hb⟩:∃ b,st.c.sub.prt=b:=⟨_,rfl⟩;rw [hb] at kf ⊢;clear hb;cases b
 ·rw [if_neg (by decide)]
  have H5:=Ac8 HH.out.prt;go_enter Tryz.func91,Tryz.ntmps91;go_wp2_with fail
  go_ret;exact ⟨rfl,H5.out.R⟩
 ·rw [if_pos rfl]
  go_enter Tryz.func91,Tryz.ntmps91;go_wp2_with fail
  go_ret;exact ⟨rfl,HH.out.R⟩
theorem AT (b:UInt8) (w:World):Calls Tryz.prog 92 #[.int .u8 (b.toNat:Int)] w fun e w'=>e=.returned (.bool (A2.contains b))∧w'=w:=by
 rw [DB];by_cases h1:48≤b.toNat
 ·have d1:(48:Int)≤(b.toNat:Int):=by omega
  rw [decide_eq_true h1,Bool.true_and];by_cases h2:b.toNat≤57
  ·have d2:(b.toNat:Int)≤57:=by omega
   rw [decide_eq_true h2];go_enter Tryz.func92,Tryz.ntmps92;go_wp2_with fail
   go_ret;exact ⟨rfl,rfl⟩
  ·have d2:¬ (b.toNat:Int)≤57:=by omega
   rw [decide_eq_false h2];go_enter Tryz.func92,Tryz.ntmps92;go_wp2_with fail
   go_ret;exact ⟨rfl,rfl⟩
 ·have d1:¬ (48:Int)≤(b.toNat:Int):=by omega
  rw [decide_eq_false h1,Bool.false_and];go_enter Tryz.func92,Tryz.ntmps92;go_wp2_with fail
  go_ret;exact ⟨rfl,rfl⟩
def YT (m:Option Nat):Value:=match m with
 | some n=>.tuple #[.int .i64 (n:Int),.bool true]
 | none=>.tuple #[.int .i64 0,.bool false]
theorem Tz (b:UInt8) (w:World):Calls Tryz.prog 67 #[.int .u8 (b.toNat:Int)] w fun e w'=>e=.returned (YT (Ey b))∧w'=w:=by
 by_cases h:b∈[125,58,61,113,81,97,105,114,123,100,68,103,71,104,72,108,110,78,112,80,120,122,98,116,84,99,119,115,121]
 ·simp only [Ado,List.not_mem_nil,or_false] at h
  rcases h with rfl | rfl | rfl | rfl | rfl | rfl | rfl | rfl | rfl | rfl | rfl | rfl | rfl | rfl | rfl | rfl | rfl | rfl | rfl | rfl | rfl | rfl | rfl | rfl | rfl | rfl | rfl | rfl | rfl
  all_goals
   go_enter Tryz.func67,Tryz.ntmps67;go_wp2_with fail
   go_ret2
   exact ⟨rfl,rfl⟩
 ·simp only [Ado,List.not_mem_nil,or_false,not_or] at h
  obtain ⟨q125,q58,q61,q113,q81,q97,q105,q114,q123,q100,q68,q103,q71,q104,q72,q108,q110,q78,q112,q80,q120,q122,q98,q116,q84,q99,q119,q115,q121⟩:=h;have c125:((b.toNat:Int) == 125)=false:=An (c:=125) q125;have c58:((b.toNat:Int) == 58)=false:=An (c:=58) q58;have c61:((b.toNat:Int) == 61)=false:=An (c:=61) q61;have c113:((b.toNat:Int) == 113)=false:=An (c:=113) q113;have c81:((b.toNat:Int) == 81)=false:=An (c:=81) q81;have c97:((b.toNat:Int) == 97)=false:=An (c:=97) q97;have c105:((b.toNat:Int) == 105)=false:=An (c:=105) q105;have c114:((b.toNat:Int) == 114)=false:=An (c:=114) q114;have c123:((b.toNat:Int) == 123)=false:=An (c:=123) q123;have c100:((b.toNat:Int) == 100)=false:=An (c:=100) q100;have c68:((b.toNat:Int) == 68)=false:=An (c:=68) q68;have c103:((b.toNat:Int) == 103)=false:=An (c:=103) q103;have c71:((b.toNat:Int) == 71)=false:=An (c:=71) q71;have c104:((b.toNat:Int) == 104)=false:=An (c:=104) q104;have c72:((b.toNat:Int) == 72)=false:=An (c:=72) q72;have c108:((b.toNat:Int) == 108)=false:=An (c:=108) q108;have c110:((b.toNat:Int) == 110)=false:=An (c:=110) q110;have c78:((b.toNat:Int) == 78)=false:=An (c:=78) q78;have c112:((b.toNat:Int) == 112)=false:=An (c:=112) q112;have c80:((b.toNat:Int) == 80)=false:=An (c:=80) q80;have c120:((b.toNat:Int) == 120)=false:=An (c:=120) q120;have c122:((b.toNat:Int) == 122)=false:=An (c:=122) q122;have c98:((b.toNat:Int) == 98)=false:=An (c:=98) q98;have c116:((b.toNat:Int) == 116)=false:=An (c:=116) q116;have c84:((b.toNat:Int) == 84)=false:=An (c:=84) q84;have c99:((b.toNat:Int) == 99)=false:=An (c:=99) q99;have c119:((b.toNat:Int) == 119)=false:=An (c:=119) q119;have c115:((b.toNat:Int) == 115)=false:=An (c:=115) q115;have c121:((b.toNat:Int) == 121)=false:=An (c:=121) q121;have hm:Ey b=none:=by
   unfold Ey;rw [if_neg (by simp [q125,q58]),if_neg (by simp [q61,q113,q81,q97,q105,q114]),if_neg (by simp [q123,q100,q68,q103,q71,q104,q72,q108,q110,q78,q112,q80,q120,q122,q98,q116,q84,q99,q119,q115,q121])]
  rw [hm];clear hm q125 q58 q61 q113 q81 q97 q105 q114 q123 q100 q68 q103 q71 q104 q72 q108 q110 q78 q112 q80 q120 q122 q98 q116 q84 q99 q119 q115 q121;go_enter Tryz.func67,Tryz.ntmps67;go_wp2_with fail
  go_ret2
  exact ⟨rfl,rfl⟩
theorem T0 (g:Grd) (la lb:Int) (sa sb:ByteArray) (ta tb:Value) (w:World) (hx:(∃ T q,ta=.iface T q)∨ta=.nilIface) (hy:(∃ T q,tb=.iface T q)∨tb=.nilIface):Calls Tryz.prog 68 #[.agg #[.int .i64 (g.a.kind:Int),.int .i64 la,.string sa,ta,.int .i64 (g.b.kind:Int),.int .i64 lb,.string sb,tb,.bool g.no]] w fun e w'=>e=.returned (.int .i64 (Il g:Int))∧Below w.heap.size w w':=by
 obtain ⟨W1,hW1⟩:∃ W1,w.alloc (.cells #[.int .i64 (g.a.kind:Int),.int .i64 la,.string sa,ta,.int .i64 (g.b.kind:Int),.int .i64 lb,.string sb,tb,.bool g.no] 42)=W1:=⟨_,rfl⟩;have hb1:=Ac hW1;obtain ⟨⟨x0,x1,x2,x3,x4,x5,x6,x7,x8⟩,_,_,_,_,_,_,_,_,_,hxl⟩:=BO (Ae hW1);unfold Il;by_cases h1:g.a.kind=0
 ·rw [if_pos h1]
  have c1:((g.a.kind:Int) == 0)=true:=by simp [h1]
  clear h1;rcases hx with ⟨T8,q8,rfl⟩ | rfl <;> rcases hy with ⟨T9,q9,rfl⟩ | rfl
  all_goals
   go_enter Tryz.func68,Tryz.ntmps68;go_wp2_with fail
   go_ret;exact ⟨rfl,hb1⟩
 ·rw [if_neg h1]
  have c1:((g.a.kind:Int) == 0)=false:=by simpa using h1
  clear h1;by_cases h2:g.b.kind=0
  ·rw [if_pos h2]
   have c2:((g.b.kind:Int) == 0)=true:=by simp [h2]
   clear h2;rcases hx with ⟨T8,q8,rfl⟩ | rfl <;> rcases hy with ⟨T9,q9,rfl⟩ | rfl
   all_goals
    go_enter Tryz.func68,Tryz.ntmps68;go_wp2_with fail
    go_ret;exact ⟨rfl,hb1⟩
  ·rw [if_neg h2]
   have c2:((g.b.kind:Int) == 0)=false:=by simpa using h2
   clear h2;rcases hx with ⟨T8,q8,rfl⟩ | rfl <;> rcases hy with ⟨T9,q9,rfl⟩ | rfl
   all_goals
    go_enter Tryz.func68,Tryz.ntmps68;go_wp2_with fail
    go_ret;exact ⟨rfl,hb1⟩
end
section
open Go Go.RowKit
theorem CmSt.nth {w:World} {p:Nat} {s:ByteArray} {ext:Bool} {st:CS} {ta tb ts:Value} {pa:Option Addr} {pc:Nat} {ma:Option Addr} {mc:Nat} {W:World} (h:CmSt w p s ext st ta tb ts pa pc ma mc W) (n k:Nat):CmSt w p s ext (st.nth n k) ta tb ts pa pc ma mc ((W.setCell ⟨p,18,none⟩ (.int .i64 (n:Int))).setCell ⟨p,2,none⟩ (.int .i64 (k:Int))):=
 (h.put 18 (.int .i64 (n:Int)) { st with c:={ st.c with sub:={ st.c.sub with nth:=n } } } rfl rfl rfl rfl fun _ _=>rfl).go k
theorem We (w:World) (p:Nat) (s:ByteArray) (ext:Bool) (st:CS) (W:World) (h:Dg w p s ext st W) (hs:s.size≤4000000) (hk:st.k≤s.size) :
  Calls Tryz.prog 93 #[.pointer (some ⟨p,0,none⟩)] W fun e W'=>e=.returned (.int .i64 ((CU s.data.toList st).1:Int))∧Dg w p s ext (CU s.data.toList st).2 W':=by
 obtain ⟨ta,tb,ts,pa,pc,ma,mc,h⟩:=h;have hN:=fun w1=>Gv s st.k w1 hs hk
 unfold CU;obtain ⟨⟨n,q,e0⟩,hR⟩:∃ R,Bu s.data.toList st.k=R:=⟨_,rfl⟩;rw [hR] at hN ⊢;have hN:∀ w1,Calls Tryz.prog 83 #[.string s,.int .i64 (st.k:Int)] w1 fun e w'=>e=.returned (.tuple #[.int .i64 (n:Int),.int .i64 (q:Int),.int .i64 (e0:Int)])∧Below w1.heap.size w1 w':=hN
 have HH:=Ac8 h;have k0:W.cell? ⟨p,0,none⟩=some (.string s):=(h.q.cell 0).trans rfl;have k2:W.cell? ⟨p,2,none⟩=some (.int .i64 (st.k:Int)):=(h.q.cell 2).trans rfl;clear h hR;obtain ⟨Z,hZ⟩:∃ Z,C0 st (n,q,e0)=Z:=⟨_,rfl⟩;rw [hZ];have HZ:=Ac8 hZ;clear hZ;go_enter Tryz.func93,Tryz.ntmps93;go_upto_region 1 with fail;go_cut [3,4,5] (fun s3 s4 s5 wx=>s3=.int .i64 (n:Int)∧s4=.int .i64 (q:Int)∧s5=.int .i64 (e0:Int)∧CmSt w p s ext st ta tb ts pa pc ma mc wx)
 case first=>
  go_region_held3 (fun w'=>w'.cell? ⟨p,0,none⟩=some (.string s)∧w'.cell? ⟨p,2,none⟩=some (.int .i64 (st.k:Int))) (first | exact ⟨k0,k2⟩ | (refine ⟨?_,?_⟩ <;> assumption)) (first | (go_at_call 83;refine (hN _).mono ?_;rintro e w1 ⟨rfl,b1⟩;have H1:=Ac8 (by first | exact HH.out.step b1 | exact HH.out.drew.step b1:CmSt w p s ext st ta tb ts pa pc ma mc w1);have m0:w1.cell? ⟨p,0,none⟩=some (.string s):=(H1.out.q.cell 0).trans rfl;have m2:w1.cell? ⟨p,2,none⟩=some (.int .i64 (st.k:Int)):=(H1.out.q.cell 2).trans rfl;clear b1))
  all_goals ((try go_wp2_with fail);go_meet;exact ⟨rfl,rfl,rfl,H1.out⟩)
 case rest=>
  obtain ⟨rfl,rfl,rfl,h2⟩:=hcut;have H2:=Ac8 h2;clear h2 k0 k2;have k2:World.cell? wc ⟨p,2,none⟩=some (.int .i64 (st.k:Int)):=(H2.out.q.cell 2).trans rfl;have k18:World.cell? wc ⟨p,18,none⟩=some (.int .i64 (st.c.sub.nth:Int)):=(H2.out.q.cell 18).trans rfl;have f2:=H2.out.q.frozen 2;have f18:=H2.out.q.frozen 18;by_cases he:e0=0
  ·subst he
   by_cases h18:st.c.sub.nth=0
   ·have c18:((st.c.sub.nth:Int) != 0)=false:=by simp [h18]
    by_cases hn:n=0
    ·subst hn
     obtain rfl:(1,st)=Z:=by rw [←HZ.out];unfold C0;simp [h18]
     clear h18;go_wp2_with fail
     go_ret;exact ⟨rfl,H2.out.R⟩
    ·obtain rfl:(0,st.nth n q)=Z:=by rw [←HZ.out];unfold C0;simp [h18,hn]
     have cn:((n:Int) == 0)=false:=by simpa using hn
     have H3:=Ac8 (H2.out.nth n q);clear h18 hn;go_wp2_with fail
     go_ret;exact ⟨rfl,H3.out.R⟩
   ·obtain rfl:(15,st)=Z:=by rw [←HZ.out];unfold C0;simp [h18]
    have c18:((st.c.sub.nth:Int) != 0)=true:=by simpa using h18
    clear h18;go_wp2_with fail
    go_ret;exact ⟨rfl,H2.out.R⟩
  ·obtain rfl:(e0,st)=Z:=by rw [←HZ.out];unfold C0;simp [he]
   have ce:((e0:Int) != 0)=true:=by simpa using he
   clear he;go_wp2_with fail
   go_ret;exact ⟨rfl,H2.out.R⟩
theorem CmSt.name {w:World} {p:Nat} {s:ByteArray} {ext:Bool} {st:CS} {ta tb ts:Value} {pa:Option Addr} {pc:Nat} {ma:Option Addr} {mc:Nat} {W:World} (h:CmSt w p s ext st ta tb ts pa pc ma mc W) (b:UInt8) {k1:Nat} (hk:st.k+1=k1):CmSt w p s ext (st.name b) ta tb ts pa pc ma mc ((W.setCell ⟨p,13,none⟩ (.int .u8 (b.toNat:Int))).setCell ⟨p,2,none⟩ (.int .i64 (k1:Int))):=by
 subst hk;exact (h.put 13 (.int .u8 (b.toNat:Int)) { st with c:={ st.c with name:=b } } rfl rfl rfl rfl fun _ _=>rfl).go (st.k+1)
theorem Wf (s:ByteArray) (k:Nat) (h:k < s.size):(s.extract k (k+1)).data.toList=[s[k]]:=by
 rw [ByteArray.data_extract,Array.toList_extract,List.extract_eq_take_drop,Bh s k h];rw [show k+1 - k=1 by omega];rfl
theorem Qg {b:UInt8} (h:G3 b=false):¬ b=81∧¬ b=84∧¬ b=122:=by
 simpa [G3,and_assoc] using h
theorem Qh {b:UInt8} (h:G3 b=true):b=81∨b=84∨b=122:=by
 simpa [G3,or_assoc] using h
theorem T3 (w:World) (p:Nat) (s:ByteArray) (ext:Bool) (st:CS) (W:World) (h:Dg w p s ext st W) (hs:s.size≤4000000) (hk:st.k≤s.size) (hl:st.ms.length≤100000) :
  Calls Tryz.prog 43 #[.pointer (some ⟨p,0,none⟩)] W fun e W'=>e=.returned (.int .i64 ((Bf s.data.toList st).1:Int))∧Dg w p s ext (Bf s.data.toList st).2 W':=by
 obtain ⟨ta,tb,ts,pa,pc,ma,mc,h⟩:=h;unfold Bf;have HH:=Ac8 h;have Hl:=Ac8 hl;have k0:W.cell? ⟨p,0,none⟩=some (.string s):=(h.q.cell 0).trans rfl;have k2:W.cell? ⟨p,2,none⟩=some (.int .i64 (st.k:Int)):=(h.q.cell 2).trans rfl;clear h hl;by_cases hz:st.k=s.size
 ·rw [Bl s st.k (by omega)]
  have hE:((st.k:Int) == (s.size:Int))=true:=by simp [hz]
  clear hz;simp only;go_enter Tryz.func43,Tryz.ntmps43;go_upto_region 1 with fail
  go_quiet (fail)
  generalize nq=n1;go_wp2_with fail
  go_ret;exact ⟨rfl,(HH.out.drewN n1).R⟩
 ·have hlt:st.k < s.size:=by omega
  rw [Bh s st.k hlt];have hE:((st.k:Int) == (s.size:Int))=false:=by simp;omega
  have hy0:(0:Int)≤(st.k:Int):=by omega
  have hy1:(st.k:Int) < (s.size:Int):=by omega
  obtain ⟨K1,hK1⟩:∃ K1,st.k+1=K1:=⟨_,rfl⟩;have Wk:IntKind.i64.wrap ((st.k:Int)+1)=(K1:Int):=by rw [Adm _ (by omega)];omega
  have hs1:(st.k:Int)≤(K1:Int):=by omega
  have hs2:(K1:Int)≤(s.size:Int):=by omega
  have hs3:st.k≤K1:=by omega
  have hs4:K1≤s.size:=by omega
  have HK1:=Ac8 hK1;clear hz;simp only;have hMo:=fun w1=>Tz s[st.k] w1
  have hO:=Wf s st.k hlt;rw [hK1] at hO;clear hK1;obtain ⟨b,hb⟩:∃ b,s[st.k]=b:=⟨_,rfl⟩;rw [hb] at hMo hO ⊢;have hsx:s[st.k]'hlt=b:=hb;obtain ⟨M,hM⟩:∃ M,Ey b=M:=⟨_,rfl⟩;rw [hM] at hMo ⊢;clear hM hb;obtain ⟨Z,hZ⟩:∃ Z,BA st b M=Z:=⟨_,rfl⟩;rw [hZ];have HZ:=Ac8 hZ;clear hZ;have hA:=fun w1=>T0 st.c.g (st.c.g.a.line:Int) (st.c.g.b.line:Int) (txt st.c.g.a.text) (txt st.c.g.b.text) ta tb w1 HH.out.ha.shape HH.out.hb.shape
  have hsa:=HH.out.ha.shape;have hsb:=HH.out.hb.shape;go_enter Tryz.func43,Tryz.ntmps43;go_upto_region 1 with fail
  go_quiet (fail)
  generalize nq=n1;go_upto_region 3 with fail
  go_quiet (fail)
  have H4:=Ac8 (HH.out.drewN (n1+nq));generalize nq=n2 at H4 ⊢;cases M with
  | none=>
   have hMo:∀ w1,Calls Tryz.prog 67 #[.int .u8 (b.toNat:Int)] w1 fun e w'=>e=.returned (.tuple #[.int .i64 0,.bool false])∧w'=w1:=hMo
   obtain rfl:(13,st)=Z:=HZ.out;go_wp2_with (go_at_call 67;refine (hMo _).mono ?_;rintro e w4 ⟨rfl,rfl⟩)
   go_ret;exact ⟨rfl,H4.out.R⟩
  | some n=>
   have hMo:∀ w1,Calls Tryz.prog 67 #[.int .u8 (b.toNat:Int)] w1 fun e w'=>e=.returned (.tuple #[.int .i64 (n:Int),.bool true])∧w'=w1:=hMo
   obtain ⟨_,⟨k3,k4,k5,k6,k7,k8,k9,k10,k11,k12⟩,_,hpl⟩:=Abg HH.out.q;obtain ⟨m,hm⟩:∃ m,Il st.c.g=m:=⟨_,rfl⟩;rw [hm] at hA;by_cases hx:n < m
   ·obtain rfl:(19,st)=Z:=by rw [←HZ.out];unfold BA;simp [hm,hx]
    have hxi:(n:Int) < (m:Int):=by omega
    clear hx hm;go_wp2_with (first
     | (go_at_call 67;refine (hMo _).mono ?_;rintro e w4 ⟨rfl,rfl⟩)
     | (go_at_call 68;refine (hA _).mono ?_;clear hA;rintro e w5 ⟨rfl,b5⟩))
    go_ret;exact ⟨rfl,(H4.out.step b5).R⟩
   ·have hxi:¬ (n:Int) < (m:Int):=by omega
    go_upto_region 9 with (first
     | (go_at_call 67;refine (hMo _).mono ?_;rintro e w4 ⟨rfl,rfl⟩)
     | (go_at_call 68;refine (hA _).mono ?_;rintro e w5 ⟨rfl,b5⟩))
    have H5:=Ac8 (H4.out.step b5);clear H4 b5 k0 k2 k3 k4 k5 k6 k7 k8 k9 k10 k11 k12 hpl hA hMo;have k0:w5.cell? ⟨p,0,none⟩=some (.string s):=(H5.out.q.cell 0).trans rfl;have k2:w5.cell? ⟨p,2,none⟩=some (.int .i64 (st.k:Int)):=(H5.out.q.cell 2).trans rfl;have k13:w5.cell? ⟨p,13,none⟩=some (.int .u8 (st.c.name.toNat:Int)):=(H5.out.q.cell 13).trans rfl;have f2:=H5.out.q.frozen 2;have f13:=H5.out.q.frozen 13;obtain ⟨T,hT⟩:∃ T,G3 b=T:=⟨_,rfl⟩;cases T with
    | false=>
     obtain rfl:(0,st.name b)=Z:=by rw [←HZ.out];unfold BA;simp [hm,hx,hT]
     obtain ⟨q1,q2,q3⟩:=Qg hT;have c1:((b.toNat:Int) == 81)=false:=An (c:=81) q1;have c2:((b.toNat:Int) == 84)=false:=An (c:=84) q2;have c3:((b.toNat:Int) == 122)=false:=An (c:=122) q3;have H6:=Ac8 (H5.out.name b HK1.out);clear q1 q2 q3 hT hm hx;go_wp2_with fail
     go_ret;exact ⟨rfl,H6.out.R⟩
    | true=>
     obtain rfl:(0,(st.mark st.k [b]).name b)=Z:=by rw [←HZ.out];unfold BA;simp [hm,hx,hT]
     have hMk:=fun w1 (h1:CmSt w p s ext st ta tb ts pa pc ma mc w1)=>L1 w p s ext st ta tb ts pa pc ma mc (s.extract st.k K1) w1 h1 Hl.out
     rw [hO] at hMk;rcases Qh hT with rfl | rfl | rfl
     all_goals
      clear hT hm hx;go_upto_region 13 with fail
      go_region_held3 (fun w'=>w'.cell? ⟨p,0,none⟩=some (.string s)∧w'.cell? ⟨p,2,none⟩=some (.int .i64 (st.k:Int))) (first | exact ⟨k0,k2⟩ | (refine ⟨?_,?_⟩ <;> assumption)) (first | (go_at_call 69;refine (hMk _ (by first | exact H5.out | exact H5.out.drew)).mono ?_;rintro e w6 ⟨rfl,a6,c6,h6⟩;have H6:=Ac8 h6;have m0:w6.cell? ⟨p,0,none⟩=some (.string s):=(h6.q.cell 0).trans rfl;have m2:w6.cell? ⟨p,2,none⟩=some (.int .i64 (st.k:Int)):=(h6.q.cell 2).trans rfl;clear h6))
      all_goals
       clear k0 k2 k13 f2 f13;have k13:w6.cell? ⟨p,13,none⟩=some (.int .u8 (st.c.name.toNat:Int)):=(H6.out.q.cell 13).trans rfl;have f2:=H6.out.q.frozen 2;have f13:=H6.out.q.frozen 13;have H7:=Ac8 (fun b=>H6.out.name b HK1.out);go_wp2_with fail
       go_ret;exact ⟨rfl,(H7.out _).R⟩
end
section
open Go.RowKit
/-- The rune that is no rune: none of the two. -/
theorem KJ (t:ByteArray) (ht:t.size=2) (ha:∀ i (h:i < t.size),t[i].toNat < 128) (w:World) :
  Calls Tryz.prog 98 #[.string t,.int .i32 65533] w fun e w'=>e=.returned (.int .i64 (-1))∧Below w.heap.size w w':=by
 go_enter Tryz.func98,Tryz.ntmps98;have HA:=Ac8 ha;clear ha
 go_wp2
 go_loopg [5,6] 2 (fun g _ _ wx=>∃ i:Nat,i+g=2∧wx=w.iter t i)
 case atStart=>exact ⟨0,by omega,rfl⟩
 case round=>
  obtain ⟨i,hig,rfl⟩:=hrel;cases gk with
  | zero=>
   obtain rfl:i=2:=by omega
   have hnx:=fun ty=>run_next_end (P:=Tryz.prog) w t 2 ty (by omega)
   go_wp2
   go_ret;exact ⟨rfl,(Adk _ w).alloc (Adf _) _⟩
  | succ g=>
   have hi:i < t.size:=by omega
   have h128:=HA.out i hi;have hnx:=fun ty=>run_next_ascii (P:=Tryz.prog) w t i ty hi h128
   have hq:((t[i].toNat:Int) == 65533)=false:=beq_eq_false_iff_ne.2 (by omega)
   go_wp2
   go_roundg g
   case measure=>omega
   case rel=>exact ⟨i+1,by omega,rfl⟩
/-- Any other rune beyond ASCII. -/
theorem MJ (t:ByteArray) (ht:t.size=2) (ha:∀ i (h:i < t.size),t[i].toNat < 128) (r:Int) (hv:Utf8.valid r=true) (h128:128≤r) (hm:r≤1114111) (hne:¬ r=65533) (w:World) :
  Calls Tryz.prog 98 #[.string t,.int .i32 r] w fun e w'=>e=.returned (.int .i64 (-1))∧Below w.heap.size w w':=by
 obtain ⟨e2,e4,elast⟩:=encode_facts r hv h128;have hq:(r == 65533)=false:=beq_eq_false_iff_ne.2 hne;have hV:Calls Tryz.prog 113 #[.int .i32 r] w fun e w'=>e=.returned (.bool true)∧w'=w:=by
  have:=Any.utf8_ValidRune (P:=Tryz.prog) (ρ:=QO) { QP with } r w;rw [show Lib.validRune r=true from by rw [←hv,validRune_eq];rfl] at this;exact this
 generalize hE:Utf8.encode r=E at e2 e4 elast;have hc1:(r < 128)=False:=eq_false (by omega);have h0:(0:Int)≤r:=by omega
 have hL1:IntKind.i64.wrap ((E.size:Int) - 1)=(E.size:Int) - 1:=Adm _ (by omega);clear hne hv;have hcv:∀ w,(convert 21 9 (.int .i32 r)).run Tryz.prog w=.ok (.string E) w:=fun w=>by
  rw [←hE];exact run_convert_int_string w 21 9 .i32 r (by rw [Tryz.underlying21];rfl) Tryz.underlying9
 go_enter Tryz.func98,Tryz.ntmps98;by_cases hs2:E.size=2
 ·have hlast:=elast (by omega)
  have hL2:IntKind.i64.wrap ((E.size:Int) - 1)=1:=by rw [hL1];omega
  have h1a:=ha 1 (by omega);have hq59:((t[1]'(by omega)).toNat:Int) != (E[1]'(by omega)).toNat:=bne_iff_ne.2 (by
   have:(E[E.size - 1]'(by omega))=E[1]'(by omega):=by congr 1;omega
   rw [this] at hlast;omega)
  have hlt1:(1:Int) < (E.size:Int):=by omega
  have htt:(t.size:Int)=2:=by omega
  have hw2:IntKind.i64.wrap 2=2:=by decide
  have hle2:(2:Int)≤(t.size:Int):=by omega
  have hIB:∀ (c:UInt8) w,Calls Tryz.prog 112 #[.string ByteArray.empty,.int .u8 c.toNat] w fun e w'=>e=.returned (.int .i64 (-1))∧w'=w:=fun c w=>
   Fv ByteArray.empty c w
  clear hlast elast hE ha h1a;go_wp2_with (go_at_call 113;refine hV.mono ?_;rintro e w' ⟨rfl,rfl⟩)
  go_step3
  go_wp2
  refine wp_loop_rounds 1 ?_;rw [rounds_succ]
  go_wp2
  go_step3
  go_wp2
  go_quiet (fail)
  generalize hW1:w'.drewN _=W1
  go_wp2
  go_quiet (first | (go_at_call 112;exact Calls.quiet_of_same (hIB _ _)))
  go_wp2
  simp only [Exit.inBlock,Exit.then,Exit.noGoto];go_ret;refine ⟨rfl,below_drewN ?_ _⟩;rw [←hW1];exact below_drewN (Adk _ _) _
 ·have hge:¬ ((E.size:Int) - 1 < (t.size:Int)):=by omega
  clear elast hE ha;go_wp2_with (go_at_call 113;refine hV.mono ?_;rintro e w' ⟨rfl,rfl⟩)
  go_step3
  go_wp2
  refine wp_loop_rounds 1 ?_;rw [rounds_succ]
  go_wp2
  try rw [Exit.noGoto_ret]
  go_ret;exact ⟨rfl,Adk _ _⟩
theorem Ot (n b c d e:Nat) (hn:1≤n) (h:¬ b < 128) (hb:b < 256) :
  128≤(Lib.decodeN n b c d e).1∧(Lib.decodeN n b c d e).1≤1114111∧((Lib.decodeN n b c d e).1 < 55296∨57343 < (Lib.decodeN n b c d e).1)∧1≤(Lib.decodeN n b c d e).2∧(Lib.decodeN n b c d e).2≤n∧(Lib.decodeN n b c d e).2≤4∧
   (2≤(Lib.decodeN n b c d e).2→128≤c)∧(3≤(Lib.decodeN n b c d e).2→128≤d)∧(4≤(Lib.decodeN n b c d e).2→128≤e):=by
 unfold Lib.decodeN;rw [if_neg h]
 repeat' split
 all_goals (simp only;omega)
theorem Qi (s:ByteArray) (pos:Nat) (hp:pos < s.size) (h:¬ s[pos].toNat < 128) :
  128≤(Utf8.decode s pos).1∧(Utf8.decode s pos).1≤1114111∧Utf8.valid ((Utf8.decode s pos).1:Int)=true∧1≤(Utf8.decode s pos).2∧pos+(Utf8.decode s pos).2≤s.size∧
   ∀ (j:Nat) b,pos≤j→j < pos+(Utf8.decode s pos).2→s.data.toList[j]?=some b→128≤b.toNat:=by
 have hx:s.data.toList[pos]?=some s[pos]:=Lib.data_getElem? s pos hp;have h0:(s.data.toList.getD pos 0)=s[pos]:=by rw [List.getD_eq_getElem?_getD,hx];rfl
 have H:=Ot (s.data.toList.length - pos) (s.data.toList.getD pos 0).toNat (s.data.toList.getD (pos+1) 0).toNat (s.data.toList.getD (pos+2) 0).toNat (s.data.toList.getD (pos+3) 0).toNat (by rw [←Ad];omega) (by rw [h0];exact h) (UInt8.toNat_lt _)
 rw [←Ep] at H;obtain ⟨h1,h2,h3,h4,h5,h6,h7,h8,h9⟩:=H;rw [←Ad] at h5;refine ⟨h1,h2,?_,h4,by omega,fun j b hj1 hj2 hb=>?_⟩
 ·simp only [Utf8.valid,Bool.or_eq_true,Bool.and_eq_true,decide_eq_true_eq];omega
 ·have hg:∀ k,j=k→(s.data.toList.getD k 0)=b:=fun k hk=>by rw [List.getD_eq_getElem?_getD,←hk,hb];rfl
  by_cases c0:j=pos
  ·rw [←hg pos c0,h0];omega
  by_cases c1:j=pos+1
  ·rw [←hg (pos+1) c1];exact h7 (by omega)
  by_cases c2:j=pos+2
  ·rw [←hg (pos+2) c2];exact h8 (by omega)
  ·rw [←hg (pos+3) (by omega)];exact h9 (by omega)
theorem Rx:∀ i (h:i < (⟨#[10,59]⟩:ByteArray).size),(⟨#[10,59]⟩:ByteArray)[i].toNat < 128:=fun i h=>by
 match i,h with
 | 0,_=>exact of_decide_eq_true rfl
 | 1,_=>exact of_decide_eq_true rfl
theorem Wh:∀ (j:Nat) b,(⟨#[10,59]⟩:ByteArray).data.toList[j]?=some b→b.toNat < 128:=ascii_of_all (by decide)
theorem Wo:∀ (j:Nat) b,(⟨#[10]⟩:ByteArray).data.toList[j]?=some b→b.toNat < 128:=ascii_of_all (by decide)
theorem Kn (s:ByteArray) (w:World) (h8:s.size≤8) :
  Calls Tryz.prog 102 #[.string s,.string ⟨#[10,59]⟩] w fun e w'=>e=.returned (.int .i64 (Lib.indexAny s.data.toList [10,59]))∧Below w.heap.size w w':=by
 have h8z:decide ((8:Int) < (s.size:Int))=false:=decide_eq_false (by omega);have hU:=Any.strings_shouldUseASCIISet (P:=Tryz.prog) (ρ:=IT) { IU with } (s.size:Int) w;rw [h8z] at hU;have hA:∀ (x:UInt8) w,x.toNat < 128→Calls Tryz.prog 98 #[.string ⟨#[10,59]⟩,.int .i32 x.toNat] w fun e w'=>e=.returned (.int .i64 (Lib.indexByte [10,59] x))∧w'=w:=fun x w h=>by
  have:=Any.strings_IndexRune_ascii (P:=Tryz.prog) (ρ:=IT) { IU with } ⟨#[10,59]⟩ (x.toNat:Int) w (by omega) (by omega);rw [Lib.byte_back'] at this;exact this
 have hH:∀ (r:Int) w,Utf8.valid r=true→128≤r→r≤1114111→Calls Tryz.prog 98 #[.string ⟨#[10,59]⟩,.int .i32 r] w fun e w'=>e=.returned (.int .i64 (-1))∧Below w.heap.size w w':=fun r w hv h1 h2=>by
  by_cases h:r=65533
  ·rw [h];exact KJ ⟨#[10,59]⟩ rfl Rx w
  ·exact MJ ⟨#[10,59]⟩ rfl Rx r hv h1 h2 h w
 go_enter Tryz.func102,Tryz.ntmps102;go_wp2_with (go_at_call 119;refine hU.mono ?_;rintro e w' ⟨rfl,rfl⟩)
 go_loopw [9,10] (fun _ _ wr=>∃ pos:Nat,wr.heap[w'.heap.size]?=some (.stringIter s pos)∧Below w'.heap.size w' wr∧pos≤s.size∧Lib.NoAny s.data.toList [10,59] pos) (fun _ _ wr=>s.size - wr.iterPos w'.heap.size)
 case atStart=>
  refine ⟨0,?_,(Adk _ w').alloc (Adf _) _,by omega,Lib.NoAny.zero _ _⟩;have:=World.iter_heap w' s 0;simpa using this
 case round=>
  obtain ⟨pos,hit,hbw,hple,hno⟩:=hrel;have HN:=Ac8 hno;clear hno;have hsz:w'.heap.size < wr.heap.size:=(Array.getElem?_eq_some_iff.1 hit).1;by_cases hp:pos < s.size
  ·obtain ⟨x,hx⟩:∃ x,s[pos]=x:=⟨_,rfl⟩
   have hxl:s.data.toList[pos]?=some x:=by rw [←hx];exact Lib.data_getElem? s pos hp
   by_cases h128:x.toNat < 128
   ·have hnx:∀ ty,(Instr.next (.pointer (some ⟨w'.heap.size,0,none⟩)) true ty).run Tryz.prog wr=_:=fun ty=>Lib.run_next_ascii_at wr w'.heap.size s pos ty hit hp (by rw [hx];exact h128)
    rw [hx] at hnx;have Hx:=Ac8 hxl;have hA1:=hA x (wr.iterAt w'.heap.size s (pos+1)) h128;have hit2:=Lib.iterAt_heap wr w'.heap.size s pos (pos+1) hit;have hbw2:=Lib.below_iterAt hbw (k:=w'.heap.size) (by omega) s (pos+1);clear hxl hx hA hH;cases hin:([10,59]:List UInt8).contains x with
    | true=>
     have hge:(0:Int)≤Lib.indexByte [10,59] x:=of_decide_eq_true ((Lib.contains_iff_indexByte _ _).symm.trans hin);have Hin:=Ac8 hin;clear hin;generalize Lib.indexByte [10,59] x=ix at *;go_wp2_with (go_at_call 98;refine hA1.mono ?_;rintro e w' ⟨rfl,rfl⟩)
     go_ret;exact ⟨by rw [Lib.indexAny_hit HN.out Hx.out Hin.out];rfl,hbw2⟩
    | false=>
     have hlt:¬ (0:Int)≤Lib.indexByte [10,59] x:=of_decide_eq_false ((Lib.contains_iff_indexByte _ _).symm.trans hin);have Hin:=Ac8 hin;clear hin;generalize Lib.indexByte [10,59] x=ix at *;go_wp2_with (go_at_call 98;refine hA1.mono ?_;rintro e w' ⟨rfl,rfl⟩)
     go_roundw
     case rel=>exact ⟨pos+1,hit2,hbw2,by omega,HN.out.succ Hx.out Hin.out⟩
     case measure=>simp only [World.iterPos,hit2,hit];omega
   ·have hnx:∀ ty,(Instr.next (.pointer (some ⟨w'.heap.size,0,none⟩)) true ty).run Tryz.prog wr=_:=fun ty=>Lib.run_next_any_at wr w'.heap.size s pos ty hit hp
    obtain ⟨d1,d2,d3,d4,d5,d6⟩:=Qi s pos hp (by rw [hx];exact h128);have hH1:=hH ((Utf8.decode s pos).1:Int) (wr.iterAt w'.heap.size s (pos+(Utf8.decode s pos).2)) d3 (by omega) (by omega);have hit2:=Lib.iterAt_heap wr w'.heap.size s pos (pos+(Utf8.decode s pos).2) hit;have hbw2:=Lib.below_iterAt hbw (k:=w'.heap.size) (by omega) s (pos+(Utf8.decode s pos).2);have hsz2:w'.heap.size < (wr.iterAt w'.heap.size s (pos+(Utf8.decode s pos).2)).heap.size:=by rw [Lib.iterAt_size];exact hsz
    have Hno:=Ac8 (show Lib.NoAny s.data.toList [10,59] (pos+(Utf8.decode s pos).2) from fun j b hj hb=>by
     by_cases hjp:j < pos
     ·exact HN.out j b hjp hb
     ·have:=d6 j b (by omega) hj hb
      cases hc:([10,59]:List UInt8).contains b with
      | false=>rfl
      | true=>
       simp at hc;rcases hc with rfl | rfl <;> simp at this)
    clear d1 d2 d3 d6 hxl hx hA hH h128 HN;generalize (Utf8.decode s pos).1=dr at *;generalize (Utf8.decode s pos).2=dn at *;go_wp2_with (go_at_call 98;refine hH1.mono ?_;rintro e w1 ⟨rfl,hb1⟩)
    have hit3:w1.heap[w'.heap.size]?=some (.stringIter s (pos+dn)):=by rw [hb1.block _ hsz2];exact hit2
    go_roundw
    case rel=>exact ⟨pos+dn,hit3,hbw2.trans (hb1.mono (by omega)),d5,Hno.out⟩
    case measure=>simp only [World.iterPos,hit3,hit];omega
  ·have hnx:∀ ty,(Instr.next (.pointer (some ⟨w'.heap.size,0,none⟩)) true ty).run Tryz.prog wr=_:=fun ty=>Lib.run_next_end_at wr w'.heap.size s pos ty hit hp
   clear hA hH
   go_wp2
   go_ret;refine ⟨?_,hbw⟩;rw [Lib.indexAny_none (by rw [←Lib.size_eq,show s.size=pos by omega];exact HN.out)];rfl
theorem MK (s:ByteArray) (label:Bool) (w:World) (hs:s.size≤4000000) :
  Calls Tryz.prog 102 #[.string s,.string (if label then ⟨#[10,59]⟩ else ⟨#[10]⟩)] w fun e w'=>e=.returned (.int .i64 (Lib.indexAny s.data.toList (if label then [10,59] else [10])))∧Below w.heap.size w w':=by
 cases label with
 | false=>exact (LL s ⟨#[10]⟩ w rfl Wo).mono fun e w' ⟨h1,h2⟩=>⟨h1,h2▸Adk _ _⟩
 | true=>
  by_cases h8:s.size≤8
  ·exact Kn s w h8
  ·exact K0 s ⟨#[10,59]⟩ w (by decide) (by omega) (by omega) (by decide) Wh
end
section
open Go.RowKit
theorem Qj (label:Bool) (b:UInt8):(if label then [10,59] else [10]:List UInt8).contains b=ER label b:=by
 cases label with
 | false=>
  show List.elem b [10]=(b == 10 || (false && b == 59))
  cases h:(b == 10) <;> simp only [List.elem,h,Bool.false_and,Bool.or_false]
 | true=>
  show List.elem b [10,59]=(b == 10 || (true && b == 59))
  cases h:(b == 10) <;> cases h2:(b == 59) <;> simp only [List.elem,h,h2,Bool.true_and,Bool.or_false,Bool.or_true]
theorem Ou (s:ByteArray) (k:Nat) (label:Bool) (w:World) (hs:s.size≤4000000) (hk:k≤s.size) :
  Calls Tryz.prog 85 #[.string s,.int .i64 k,.bool label] w fun e w'=>e=.returned (.int .i64 ((k+DU label (s.data.toList.drop k):Nat):Int))∧Below w.heap.size w w':=by
 have hI:=MK (s.extract k s.size) label w (by simp;omega);rw [BX,GK] at hI;have hf:(fun b=>!(if label then [10,59] else [10]:List UInt8).contains b)=fun b=>!ER label b:=funext fun b=>by rw [Qj]
 rw [hf] at hI;have hle:=Bt (fun b=>!ER label b) (s.data.toList.drop k);rw [List.length_drop,←Ad] at hI hle;unfold DU;generalize AH (fun b=>!ER label b) (s.data.toList.drop k)=m at hI hle ⊢;clear hf;by_cases hm:m < s.size - k
 ·rw [if_pos hm] at hI
  have h0:(0:Int)≤(m:Int):=by omega
  have hW:IntKind.i64.wrap ((k:Int)+(m:Int))=((k+m:Nat):Int):=by rw [Adm _ (by omega)];omega
  go_enter Tryz.func85,Tryz.ntmps85;cases label
  ·go_wp2_with (go_at_call 102;refine hI.mono ?_;rintro e w1 ⟨rfl,hb⟩)
   go_ret;exact ⟨by go_num,hb⟩
  ·go_wp2_with (go_at_call 102;refine hI.mono ?_;rintro e w1 ⟨rfl,hb⟩)
   go_ret;exact ⟨by go_num,hb⟩
 ·rw [if_neg hm] at hI
  have hE:((k+m:Nat):Int)=(s.size:Int):=by omega
  rw [hE];go_enter Tryz.func85,Tryz.ntmps85;cases label
  ·go_wp2_with (go_at_call 102;refine hI.mono ?_;rintro e w1 ⟨rfl,hb⟩)
   go_ret;exact ⟨rfl,hb⟩
  ·go_wp2_with (go_at_call 102;refine hI.mono ?_;rintro e w1 ⟨rfl,hb⟩)
   go_ret;exact ⟨rfl,hb⟩
theorem Ko (s:ByteArray) (k:Nat) (label:Bool) (w:World) (hs:s.size≤4000000) (hk:k≤s.size) :
  Calls Tryz.prog 70 #[.string s,.int .i64 k,.bool label] w fun e w'=>e=pcA (Bm s.data.toList k label)∧Below w.heap.size w w':=by
 have hP:=E9 s k w hk;have hE:=Ou s k label w hs hk;have hle:=GI (fun b=>!ER label b) s k hk;have hR:Bm s.data.toList k label=DV (Lib.trimS ((s.data.toList.drop k).take (DU label (s.data.toList.drop k))) [32,9]) k (k+DU label (s.data.toList.drop k)):=rfl;rw [hR];clear hR;have hle':k+DU label (s.data.toList.drop k)≤s.size:=hle;clear hle;generalize DU label (s.data.toList.drop k)=m at hE hle' ⊢;have hT:=fun w=>ZJ (s.extract k (k+m)) ⟨#[32,9]⟩ w (by simp;omega) (by decide) Jz
 rw [Cd,show k+m - k=m by omega] at hT;rw [show (⟨#[32,9]⟩:ByteArray).data.toList=[32,9] from rfl] at hT;generalize Lib.trimS ((s.data.toList.drop k).take m) [32,9]=n at hT ⊢;have hns:=CJ n;obtain ⟨E,hEE⟩:∃ E:Nat,k+m=E:=⟨_,rfl⟩;rw [hEE] at hE hT hle' ⊢;have hE0:(k:Int)≤(E:Int):=by omega
 have hE1:(E:Int)≤(s.size:Int):=by omega
 have hE2:k≤E:=by omega
 obtain ⟨R,hRR⟩:∃ R,DV n k E=R:=⟨_,rfl⟩;rw [hRR];unfold DV at hRR;have HR:=Ac8 hRR;clear hRR hEE;have hb0:((txt n).toList == [])=n.isEmpty:=by rw [ByteArray.toList_eq,DR];cases n <;> rfl
 have hb1:(txt n).toList.isEmpty=n.isEmpty:=by rw [ByteArray.toList_eq,DR]
 obtain ⟨r,hr⟩:∃ r,txt n=r:=⟨_,rfl⟩;rw [hr] at hT hns hb0 hb1;have Hr:=Ac8 hr;clear hr;go_enter Tryz.func70,Tryz.ntmps70;by_cases hn:n=[]
 ·have c0:(r.toList == [])=true:=by rw [hb0,hn];rfl
  have c1:r.toList.isEmpty=true:=by rw [hb1,hn];rfl
  have c2:r.toList=[]:=List.isEmpty_iff.1 c1;have Hn:=Ac8 hn;clear hb0 hb1 hn;go_wp2_with (first
   | (go_at_call 38;refine hP.mono ?_;rintro e w' ⟨rfl,rfl⟩)
   | (go_at_call 85;refine hE.mono ?_;rintro e w1 ⟨rfl,hb⟩)
   | (go_at_call 86;refine (hT _).mono ?_;rintro e w2 ⟨rfl,hb2⟩))
  go_ret3
  refine ⟨?_,hb.trans (hb2.mono hb.size)⟩;rw [←HR.out,if_pos Hn.out];rfl
 ·have c1:r.toList.isEmpty=false:=by rw [hb1];cases n <;> simp_all
  have c0:(r.toList == [])=false:=by rw [hb0,←hb1];exact c1
  have c2:¬ r.toList=[]:=fun h=>by rw [h] at c1;cases c1
  have Hn:=Ac8 hn;clear hb0 hb1 hn;by_cases h40:40 < n.length
  ·have h40':(40:Int) < (r.size:Int):=by omega
   go_wp2_with (first
    | (go_at_call 38;refine hP.mono ?_;rintro e w' ⟨rfl,rfl⟩)
    | (go_at_call 85;refine hE.mono ?_;rintro e w1 ⟨rfl,hb⟩)
    | (go_at_call 86;refine (hT _).mono ?_;rintro e w2 ⟨rfl,hb2⟩))
   go_ret3
   refine ⟨?_,hb.trans (hb2.mono hb.size)⟩;rw [←HR.out,if_neg Hn.out,if_pos h40];rfl
  ·have h40':¬ (40:Int) < (r.size:Int):=by omega
   go_wp2_with (first
    | (go_at_call 38;refine hP.mono ?_;rintro e w' ⟨rfl,rfl⟩)
    | (go_at_call 85;refine hE.mono ?_;rintro e w1 ⟨rfl,hb⟩)
    | (go_at_call 86;refine (hT _).mono ?_;rintro e w2 ⟨rfl,hb2⟩))
   go_ret3
   refine ⟨?_,hb.trans (hb2.mono hb.size)⟩;rw [←HR.out,if_neg Hn.out,if_neg h40];exact CK Hr.out.symm rfl rfl
end
section
open Go Go.RowKit
theorem CmSt.arg {w:World} {p:Nat} {s:ByteArray} {ext:Bool} {st:CS} {ta tb ts:Value} {pa:Option Addr} {pc:Nat} {ma:Option Addr} {mc:Nat} {W:World} (h:CmSt w p s ext st ta tb ts pa pc ma mc W) (t:List UInt8) (k:Nat):CmSt w p s ext (st.arg t k) ta tb ts pa pc ma mc ((W.setCell ⟨p,14,none⟩ (.string (txt t))).setCell ⟨p,2,none⟩ (.int .i64 (k:Int))):=
 (h.put 14 (.string (txt t)) { st with c:={ st.c with arg:=t } } rfl rfl rfl rfl fun _ _=>rfl).go k
theorem CmSt.file {w:World} {p:Nat} {s:ByteArray} {ext:Bool} {st:CS} {ta tb ts:Value} {pa:Option Addr} {pc:Nat} {ma:Option Addr} {mc:Nat} {W:World} (h:CmSt w p s ext st ta tb ts pa pc ma mc W) (t:List UInt8) (k:Nat):CmSt w p s ext (st.file t k) ta tb ts pa pc ma mc ((W.setCell ⟨p,21,none⟩ (.string (txt t))).setCell ⟨p,2,none⟩ (.int .i64 (k:Int))):=
 (h.put 21 (.string (txt t)) { st with c:={ st.c with sub:={ st.c.sub with file:=t } } } rfl rfl rfl rfl fun _ _=>rfl).go k
theorem Kq (w:World) (p:Nat) (s:ByteArray) (ext:Bool) (st:CS) (W:World) (h:Dg w p s ext st W) (hs:s.size≤4000000) (hk:st.k≤s.size) :
  Calls Tryz.prog 44 #[.pointer (some ⟨p,0,none⟩)] W fun e W'=>e=.returned (.int .i64 ((By s.data.toList st).1:Int))∧Dg w p s ext (By s.data.toList st).2 W':=by
 obtain ⟨ta,tb,ts,pa,pc,ma,mc,h⟩:=h;have hN:=fun w1=>Ko s st.k true w1 hs hk
 unfold By;obtain ⟨⟨t,q,e0⟩,hR⟩:∃ R,Bm s.data.toList st.k true=R:=⟨_,rfl⟩;rw [hR] at hN ⊢;have hN:∀ w1,Calls Tryz.prog 70 #[.string s,.int .i64 (st.k:Int),.bool true] w1 fun e w'=>e=.returned (.tuple #[.string (txt t),.int .i64 (q:Int),.int .i64 (e0:Int)])∧Below w1.heap.size w1 w':=hN
 have HH:=Ac8 h;have k0:W.cell? ⟨p,0,none⟩=some (.string s):=(h.q.cell 0).trans rfl;have k2:W.cell? ⟨p,2,none⟩=some (.int .i64 (st.k:Int)):=(h.q.cell 2).trans rfl;clear h hR;simp only;go_enter Tryz.func44,Tryz.ntmps44;go_upto_region 1 with fail
 go_region_held3 (fun w'=>w'.cell? ⟨p,0,none⟩=some (.string s)∧w'.cell? ⟨p,2,none⟩=some (.int .i64 (st.k:Int))) (first | exact ⟨k0,k2⟩ | (refine ⟨?_,?_⟩ <;> assumption)) (first | (go_at_call 70;refine (hN _).mono ?_;rintro e w1 ⟨rfl,b1⟩;have H1:=Ac8 (by first | exact HH.out.step b1 | exact HH.out.drew.step b1:CmSt w p s ext st ta tb ts pa pc ma mc w1);have m0:(w1).cell? ⟨p,0,none⟩=some (.string s):=(H1.out.q.cell 0).trans rfl;have m2:(w1).cell? ⟨p,2,none⟩=some (.int .i64 (st.k:Int)):=(H1.out.q.cell 2).trans rfl;clear b1))
 all_goals
  clear k0 k2 m0;have k14:w1.cell? ⟨p,14,none⟩=some (.string (txt st.c.arg)):=(H1.out.q.cell 14).trans rfl;have f2:=H1.out.q.frozen 2;have f14:=H1.out.q.frozen 14;have H2:=Ac8 (H1.out.arg t q);go_wp2_with fail
  go_ret;exact ⟨rfl,H2.out.R⟩
theorem Kr (w:World) (p:Nat) (s:ByteArray) (ext:Bool) (st:CS) (W:World) (h:Dg w p s ext st W) (hs:s.size≤4000000) (hk:st.k≤s.size) :
  Calls Tryz.prog 45 #[.pointer (some ⟨p,0,none⟩)] W fun e W'=>e=.returned (.int .i64 ((Dd s.data.toList st).1:Int))∧Dg w p s ext (Dd s.data.toList st).2 W':=by
 have hL:=Kq w p s ext st W h hs hk;have hB:=H9 s st.k hs hk;obtain ⟨ta,tb,ts,pa,pc,ma,mc,h⟩:=h;have k2:W.cell? ⟨p,2,none⟩=some (.int .i64 (st.k:Int)):=(h.q.cell 2).trans rfl;unfold Dd;obtain ⟨⟨e0,st1⟩,hR⟩:∃ R,By s.data.toList st=R:=⟨_,rfl⟩;rw [hR] at hL ⊢;obtain ⟨K,hK⟩:∃ K,Ak s.data.toList st.k=K:=⟨_,rfl⟩;rw [hK] at hB ⊢;clear h hR hK;simp only at hL ⊢;by_cases he:e0=14
 ·rw [if_pos he]
  have ce:((e0:Int) == 14)=true:=by simp [he]
  clear he;go_enter Tryz.func45,Tryz.ntmps45;go_upto_region 4 with (go_at_call 44;refine hL.mono ?_;clear hL;rintro e w1 ⟨rfl,h1⟩)
  obtain ⟨ta,tb,ts,pa,pc,ma,mc,h1⟩:=h1;have H1:=Ac8 h1;have j0:w1.cell? ⟨p,0,none⟩=some (.string s):=(h1.q.cell 0).trans rfl;clear k2 h1;go_wp2_with (go_at_call 66;refine (hB _).mono ?_;rintro e w2 ⟨rfl,b2⟩;have H2:=Ac8 (H1.out.step b2);have j2:w2.cell? ⟨p,2,none⟩=some (.int .i64 (st1.k:Int)):=(H2.out.q.cell 2).trans rfl;have f2:=H2.out.q.frozen 2;have H3:=Ac8 (H2.out.go K);clear b2)
  go_ret;exact ⟨rfl,H3.out.R⟩
 ·rw [if_neg he]
  have ce:((e0:Int) == 14)=false:=by simp;omega
  clear he;go_enter Tryz.func45,Tryz.ntmps45;go_wp2_with (go_at_call 44;refine hL.mono ?_;clear hL;rintro e w1 ⟨rfl,h1⟩)
  go_ret;exact ⟨rfl,h1⟩
theorem Ks (w:World) (p:Nat) (s:ByteArray) (ext:Bool) (st:CS) (W:World) (h:Dg w p s ext st W) (hs:s.size≤4000000) (hk:st.k≤s.size) :
  Calls Tryz.prog 47 #[.pointer (some ⟨p,0,none⟩),.pointer (some ⟨p,14,none⟩)] W fun e W'=>e=.returned (.int .i64 ((BC s.data.toList st).1:Int))∧Dg w p s ext (BC s.data.toList st).2 W':=by
 obtain ⟨ta,tb,ts,pa,pc,ma,mc,h⟩:=h;have hN:=fun w1=>Ko s st.k false w1 hs hk
 have hB:=H9 s st.k hs hk;unfold BC;obtain ⟨⟨t,q,e0⟩,hR⟩:∃ R,Bm s.data.toList st.k false=R:=⟨_,rfl⟩;rw [hR] at hN ⊢;obtain ⟨K,hK⟩:∃ K,Ak s.data.toList st.k=K:=⟨_,rfl⟩;rw [hK] at hB ⊢;have hN:∀ w1,Calls Tryz.prog 70 #[.string s,.int .i64 (st.k:Int),.bool false] w1 fun e w'=>e=.returned (.tuple #[.string (txt t),.int .i64 (q:Int),.int .i64 (e0:Int)])∧Below w1.heap.size w1 w':=hN
 have HH:=Ac8 h;have k0:W.cell? ⟨p,0,none⟩=some (.string s):=(h.q.cell 0).trans rfl;have k2:W.cell? ⟨p,2,none⟩=some (.int .i64 (st.k:Int)):=(h.q.cell 2).trans rfl;clear h hR hK;simp only;by_cases he:K=st.k
 ·rw [if_pos he]
  have ce:((K:Int) == (st.k:Int))=true:=by simp [he]
  clear he;go_enter Tryz.func47,Tryz.ntmps47;go_upto_region 1 with fail
  go_region_held3 (fun w'=>w'.cell? ⟨p,0,none⟩=some (.string s)∧w'.cell? ⟨p,2,none⟩=some (.int .i64 (st.k:Int))) (first | exact ⟨k0,k2⟩ | (refine ⟨?_,?_⟩ <;> assumption)) (first | (go_at_call 66;refine (hB _).mono ?_;rintro e w1 ⟨rfl,b1⟩;have H1:=Ac8 (by first | exact HH.out.step b1 | exact HH.out.drew.step b1:CmSt w p s ext st ta tb ts pa pc ma mc w1);have m0:(w1).cell? ⟨p,0,none⟩=some (.string s):=(H1.out.q.cell 0).trans rfl;have m2:(w1).cell? ⟨p,2,none⟩=some (.int .i64 (st.k:Int)):=(H1.out.q.cell 2).trans rfl;clear b1))
  all_goals
   go_wp2_with fail
   go_ret;exact ⟨rfl,H1.out.R⟩
 ·rw [if_neg he]
  have ce:((K:Int) == (st.k:Int))=false:=by simp;omega
  clear he;go_enter Tryz.func47,Tryz.ntmps47;go_upto_region 1 with fail
  go_region_held3 (fun w'=>w'.cell? ⟨p,0,none⟩=some (.string s)∧w'.cell? ⟨p,2,none⟩=some (.int .i64 (st.k:Int))) (first | exact ⟨k0,k2⟩ | (refine ⟨?_,?_⟩ <;> assumption)) (first | (go_at_call 66;refine (hB _).mono ?_;rintro e w1 ⟨rfl,b1⟩;have H1:=Ac8 (by first | exact HH.out.step b1 | exact HH.out.drew.step b1:CmSt w p s ext st ta tb ts pa pc ma mc w1);have m0:(w1).cell? ⟨p,0,none⟩=some (.string s):=(H1.out.q.cell 0).trans rfl;have m2:(w1).cell? ⟨p,2,none⟩=some (.int .i64 (st.k:Int)):=(H1.out.q.cell 2).trans rfl;clear b1))
  all_goals
   go_upto_region 3 with fail;clear k0 k2;have k0:=m0;have k2:=m2;clear m0 m2
   go_region_held3 (fun w'=>w'.cell? ⟨p,0,none⟩=some (.string s)∧w'.cell? ⟨p,2,none⟩=some (.int .i64 (st.k:Int))) (first | exact ⟨k0,k2⟩ | (refine ⟨?_,?_⟩ <;> assumption)) (first | (go_at_call 70;refine (hN _).mono ?_;rintro e w2 ⟨rfl,b1⟩;have H2:=Ac8 (by first | exact H1.out.step b1 | exact H1.out.drew.step b1:CmSt w p s ext st ta tb ts pa pc ma mc w2);have m0:(w2).cell? ⟨p,0,none⟩=some (.string s):=(H2.out.q.cell 0).trans rfl;have m2:(w2).cell? ⟨p,2,none⟩=some (.int .i64 (st.k:Int)):=(H2.out.q.cell 2).trans rfl;clear b1))
   all_goals
    clear k0 k2 m0;have k14:w2.cell? ⟨p,14,none⟩=some (.string (txt st.c.arg)):=(H2.out.q.cell 14).trans rfl;have f2:=H2.out.q.frozen 2;have f14:=H2.out.q.frozen 14;have H3:=Ac8 (H2.out.arg t q);go_wp2_with fail
    go_ret;exact ⟨rfl,H3.out.R⟩
theorem Qk (w:World) (p:Nat) (s:ByteArray) (ext:Bool) (st:CS) (W:World) (h:Dg w p s ext st W) (hs:s.size≤4000000) (hk:st.k≤s.size) :
  Calls Tryz.prog 47 #[.pointer (some ⟨p,0,none⟩),.pointer (some ⟨p,21,none⟩)] W fun e W'=>e=.returned (.int .i64 ((Bz s.data.toList st).1:Int))∧Dg w p s ext (Bz s.data.toList st).2 W':=by
 obtain ⟨ta,tb,ts,pa,pc,ma,mc,h⟩:=h;have hN:=fun w1=>Ko s st.k false w1 hs hk
 have hB:=H9 s st.k hs hk;unfold Bz;obtain ⟨⟨t,q,e0⟩,hR⟩:∃ R,Bm s.data.toList st.k false=R:=⟨_,rfl⟩;rw [hR] at hN ⊢;obtain ⟨K,hK⟩:∃ K,Ak s.data.toList st.k=K:=⟨_,rfl⟩;rw [hK] at hB ⊢;have hN:∀ w1,Calls Tryz.prog 70 #[.string s,.int .i64 (st.k:Int),.bool false] w1 fun e w'=>e=.returned (.tuple #[.string (txt t),.int .i64 (q:Int),.int .i64 (e0:Int)])∧Below w1.heap.size w1 w':=hN
 have HH:=Ac8 h;have k0:W.cell? ⟨p,0,none⟩=some (.string s):=(h.q.cell 0).trans rfl;have k2:W.cell? ⟨p,2,none⟩=some (.int .i64 (st.k:Int)):=(h.q.cell 2).trans rfl;clear h hR hK;simp only;by_cases he:K=st.k
 ·rw [if_pos he]
  have ce:((K:Int) == (st.k:Int))=true:=by simp [he]
  clear he;go_enter Tryz.func47,Tryz.ntmps47;go_upto_region 1 with fail
  go_region_held3 (fun w'=>w'.cell? ⟨p,0,none⟩=some (.string s)∧w'.cell? ⟨p,2,none⟩=some (.int .i64 (st.k:Int))) (first | exact ⟨k0,k2⟩ | (refine ⟨?_,?_⟩ <;> assumption)) (first | (go_at_call 66;refine (hB _).mono ?_;rintro e w1 ⟨rfl,b1⟩;have H1:=Ac8 (by first | exact HH.out.step b1 | exact HH.out.drew.step b1:CmSt w p s ext st ta tb ts pa pc ma mc w1);have m0:(w1).cell? ⟨p,0,none⟩=some (.string s):=(H1.out.q.cell 0).trans rfl;have m2:(w1).cell? ⟨p,2,none⟩=some (.int .i64 (st.k:Int)):=(H1.out.q.cell 2).trans rfl;clear b1))
  all_goals
   go_wp2_with fail
   go_ret;exact ⟨rfl,H1.out.R⟩
 ·rw [if_neg he]
  have ce:((K:Int) == (st.k:Int))=false:=by simp;omega
  clear he;go_enter Tryz.func47,Tryz.ntmps47;go_upto_region 1 with fail
  go_region_held3 (fun w'=>w'.cell? ⟨p,0,none⟩=some (.string s)∧w'.cell? ⟨p,2,none⟩=some (.int .i64 (st.k:Int))) (first | exact ⟨k0,k2⟩ | (refine ⟨?_,?_⟩ <;> assumption)) (first | (go_at_call 66;refine (hB _).mono ?_;rintro e w1 ⟨rfl,b1⟩;have H1:=Ac8 (by first | exact HH.out.step b1 | exact HH.out.drew.step b1:CmSt w p s ext st ta tb ts pa pc ma mc w1);have m0:(w1).cell? ⟨p,0,none⟩=some (.string s):=(H1.out.q.cell 0).trans rfl;have m2:(w1).cell? ⟨p,2,none⟩=some (.int .i64 (st.k:Int)):=(H1.out.q.cell 2).trans rfl;clear b1))
  all_goals
   go_upto_region 3 with fail;clear k0 k2;have k0:=m0;have k2:=m2;clear m0 m2
   go_region_held3 (fun w'=>w'.cell? ⟨p,0,none⟩=some (.string s)∧w'.cell? ⟨p,2,none⟩=some (.int .i64 (st.k:Int))) (first | exact ⟨k0,k2⟩ | (refine ⟨?_,?_⟩ <;> assumption)) (first | (go_at_call 70;refine (hN _).mono ?_;rintro e w2 ⟨rfl,b1⟩;have H2:=Ac8 (by first | exact H1.out.step b1 | exact H1.out.drew.step b1:CmSt w p s ext st ta tb ts pa pc ma mc w2);have m0:(w2).cell? ⟨p,0,none⟩=some (.string s):=(H2.out.q.cell 0).trans rfl;have m2:(w2).cell? ⟨p,2,none⟩=some (.int .i64 (st.k:Int)):=(H2.out.q.cell 2).trans rfl;clear b1))
   all_goals
    clear k0 k2 m0;have k14:w2.cell? ⟨p,21,none⟩=some (.string (txt st.c.sub.file)):=(H2.out.q.cell 21).trans rfl;have f2:=H2.out.q.frozen 2;have f14:=H2.out.q.frozen 21;have H3:=Ac8 (H2.out.file t q);go_wp2_with fail
    go_ret;exact ⟨rfl,H3.out.R⟩
end
section
open Go Go.RowKit
theorem Wq {L:List UInt8} {k:Nat} (h:(Bu L k).2.2=0):k < (Bu L k).2.1:=by
 unfold Bu at h ⊢;simp only at h ⊢;split at h
 ·cases h
 ·split at h
  ·cases h
  ·rename_i h1 h2
   rw [if_neg h1,if_neg h2];simp only;omega
theorem T4 {L:List UInt8} {n:Nat} {st:CS} (h:L.drop st.k=[]):A9 L (n+1) st=(0,st):=by
 rw [A9,h]
theorem Iz {L t:List UInt8} {n:Nat} {st:CS} {b:UInt8} {r:CO} (h:L.drop st.k=b :: t) (hf:AI L b st=some r):A9 L (n+1) st=if r.1=0 then A9 L n r.2 else r:=by
 rw [A9,h];simp only [hf]
theorem Wr {L t:List UInt8} {n:Nat} {st:CS} {b:UInt8} (h:L.drop st.k=b :: t) (hf:AI L b st=none):A9 L (n+1) st=if b=119 then Bz L (st.go (st.k+1)) else BZ L st:=by
 rw [A9,h];simp only [hf]
theorem Ql (w:World) (p:Nat) (s:ByteArray) (ext:Bool) (st:CS) (W:World) (h:Dg w p s ext st W) (hs:s.size≤4000000) (hk:st.k≤s.size) (hl:st.ms.length≤100000) :
  Calls Tryz.prog 75 #[.pointer (some ⟨p,0,none⟩)] W fun e W'=>e=.returned (.int .i64 ((A9 s.data.toList (s.size+1) st).1:Int))∧Dg w p s ext (A9 s.data.toList (s.size+1) st).2 W':=by
 obtain ⟨R,hR⟩:∃ R,A9 s.data.toList (s.size+1) st=R:=⟨_,rfl⟩;rw [hR];have HR:=Ac8 hR;have H0:=Ac8 h;clear hR h;go_enter Tryz.func75,Tryz.ntmps75;go_wp2_with fail
 go_loopg [] (s.size+1) (fun gk wr=>∃ st':CS,Dg w p s ext st' wr∧A9 s.data.toList gk st'=R∧s.size - st'.k < gk∧st'.k≤s.size∧st'.ms.length≤100000)
 case atStart=>exact ⟨st,H0.out,HR.out,by omega,hk,hl⟩
 case round=>
  obtain ⟨st',hc,hf,hgk,hk',hl'⟩:=hrel;clear HR H0;obtain ⟨m,rfl⟩:∃ m,gk=m+1:=⟨gk - 1,by omega⟩;have HC:=Ac8 hc;obtain ⟨ta,tb,ts,pa,pc,ma,mc,h1⟩:=hc;have HH:=Ac8 h1;have k0:wr.cell? ⟨p,0,none⟩=some (.string s):=(h1.q.cell 0).trans rfl;have k2:wr.cell? ⟨p,2,none⟩=some (.int .i64 (st'.k:Int)):=(h1.q.cell 2).trans rfl;clear h1;by_cases hz:st'.k=s.size
  ·rw [T4 (Bl s st'.k (by omega))] at hf
   have hE:¬ (st'.k:Int) < (s.size:Int):=by omega
   have HF:=Ac8 hf;clear hz hf;go_upto_region 2 with fail
   go_quiet (fail)
   generalize nq=n1;go_wp2_with fail
   go_ret;rw [←HF.out];exact ⟨rfl,(HH.out.drewN n1).R⟩
  ·have hlt:st'.k < s.size:=by omega
   have hE:(st'.k:Int) < (s.size:Int):=by omega
   have hy0:(0:Int)≤(st'.k:Int):=by omega
   have hd:=Bh s st'.k hlt;obtain ⟨b,hb⟩:∃ b,s[st'.k]=b:=⟨_,rfl⟩;have hsx:s[st'.k]'hlt=b:=hb;rw [hb] at hd;have Hd:=Ac8 hd;clear hz hd hb;go_upto_region 2 with fail
   go_quiet (fail)
   generalize nq=n1;go_upto_region 4 with fail
   go_quiet (fail)
   have H4:=Ac8 (HH.out.drewN (n1+nq));generalize nq=n2 at H4 ⊢;by_cases h103:b=103
   ·have q103:((b.toNat:Int) == 103)=true:=by rw [h103];rfl
    have hX:=VY w p s ext st' _ H4.out.R hs hk';rw [Iz Hd.out (show AI s.data.toList b st'=some (De st') by unfold AI;rw [if_pos h103])] at hf;have hg:(De st').1=0→st'.k < (De st').2.k∧(De st').2.k≤s.size∧(De st').2.ms=st'.ms:=fun h=>by
     unfold De at h ⊢;split at h
     ·cases h
     ·rename_i h1;rw [if_neg h1];exact ⟨Nat.lt_succ_self _,by show st'.k+1≤s.size;omega,rfl⟩
    have hdc:A2.contains b=false:=by rw [h103];rfl
    clear h103;obtain ⟨⟨e1,s1⟩,hr⟩:∃ r,De st'=r:=⟨_,rfl⟩;rw [hr] at hX hf hg;simp only at hX hf hg;by_cases he:e1=0
    ·subst he
     rw [if_pos rfl] at hf;obtain ⟨g1,g2,g3⟩:=hg rfl;have HF:=Ac8 hf;have HG:=Ac8 (And.intro g1 (And.intro g2 g3));clear hf hg hr g1 g2 g3;go_wp2_with (first | (go_at_call 92;refine (AT _ _).mono ?_;rintro e w5 ⟨rfl,hw5⟩;have hw5':=hw5.symm;subst hw5';rw [hdc]) | (go_at_call 91;refine hX.mono ?_;clear hX;rintro e w6 ⟨rfl,h6⟩))
     go_roundg m
     case rel=>exact ⟨s1,h6,HF.out,by have:=HG.out;omega,HG.out.2.1,by rw [HG.out.2.2];exact hl'⟩
     case measure=>omega
    ·rw [if_neg he] at hf
     have ce:((e1:Int) != 0)=true:=by simpa using he
     have HF:=Ac8 hf;clear hf hg hr he;go_wp2_with (first | (go_at_call 92;refine (AT _ _).mono ?_;rintro e w5 ⟨rfl,hw5⟩;have hw5':=hw5.symm;subst hw5';rw [hdc]) | (go_at_call 91;refine hX.mono ?_;clear hX;rintro e w6 ⟨rfl,h6⟩))
     go_ret;rw [←HF.out];exact ⟨rfl,h6⟩
   ·have q103:((b.toNat:Int) == 103)=false:=An (c:=103) h103
    by_cases h112:b=112
    ·have q112:((b.toNat:Int) == 112)=true:=by rw [h112];rfl
     have hX:=VZ w p s ext st' _ H4.out.R hs hk';rw [Iz Hd.out (show AI s.data.toList b st'=some (Df st') by unfold AI;rw [if_neg h103,if_pos h112])] at hf;have hg:(Df st').1=0→st'.k < (Df st').2.k∧(Df st').2.k≤s.size∧(Df st').2.ms=st'.ms:=fun h=>by
      unfold Df at h ⊢;split at h
      ·cases h
      ·rename_i h1;rw [if_neg h1];exact ⟨Nat.lt_succ_self _,by show st'.k+1≤s.size;omega,rfl⟩
     have hdc:A2.contains b=false:=by rw [h112];rfl
     clear h103 h112;obtain ⟨⟨e1,s1⟩,hr⟩:∃ r,Df st'=r:=⟨_,rfl⟩;rw [hr] at hX hf hg;simp only at hX hf hg;by_cases he:e1=0
     ·subst he
      rw [if_pos rfl] at hf;obtain ⟨g1,g2,g3⟩:=hg rfl;have HF:=Ac8 hf;have HG:=Ac8 (And.intro g1 (And.intro g2 g3));clear hf hg hr g1 g2 g3;go_wp2_with (first | (go_at_call 92;refine (AT _ _).mono ?_;rintro e w5 ⟨rfl,hw5⟩;have hw5':=hw5.symm;subst hw5';rw [hdc]) | (go_at_call 91;refine hX.mono ?_;clear hX;rintro e w6 ⟨rfl,h6⟩))
      go_roundg m
      case rel=>exact ⟨s1,h6,HF.out,by have:=HG.out;omega,HG.out.2.1,by rw [HG.out.2.2];exact hl'⟩
      case measure=>omega
     ·rw [if_neg he] at hf
      have ce:((e1:Int) != 0)=true:=by simpa using he
      have HF:=Ac8 hf;clear hf hg hr he;go_wp2_with (first | (go_at_call 92;refine (AT _ _).mono ?_;rintro e w5 ⟨rfl,hw5⟩;have hw5':=hw5.symm;subst hw5';rw [hdc]) | (go_at_call 91;refine hX.mono ?_;clear hX;rintro e w6 ⟨rfl,h6⟩))
      go_ret;rw [←HF.out];exact ⟨rfl,h6⟩
    ·have q112:((b.toNat:Int) == 112)=false:=An (c:=112) h112
     by_cases hdg:A2.contains b=true
     ·have hdc:=hdg
      have hX:=We w p s ext st' _ H4.out.R hs hk';rw [Iz Hd.out (show AI s.data.toList b st'=some (CU s.data.toList st') by unfold AI;rw [if_neg h103,if_neg h112,if_pos hdg])] at hf;have hg:(CU s.data.toList st').1=0→st'.k < (CU s.data.toList st').2.k∧(CU s.data.toList st').2.k≤s.size∧(CU s.data.toList st').2.ms=st'.ms:=fun h=>by
       have hle:=EF s.data.toList st'.k (by rw [←Ad];exact hk');have hgt:=Wq (L:=s.data.toList) (k:=st'.k);unfold CU C0 at h ⊢;split at h
       ·rename_i h1
        rw [if_pos h1];split at h
        ·rename_i h2
         rw [if_pos h2];split at h
         ·cases h
         ·rename_i h3
          rw [if_neg h3];exact ⟨hgt h1,by rw [Ad];exact hle.2,rfl⟩
        ·cases h
       ·rename_i h1
        exact absurd h h1
      clear h103 h112 hdg;obtain ⟨⟨e1,s1⟩,hr⟩:∃ r,CU s.data.toList st'=r:=⟨_,rfl⟩;rw [hr] at hX hf hg;simp only at hX hf hg;by_cases he:e1=0
      ·subst he
       rw [if_pos rfl] at hf;obtain ⟨g1,g2,g3⟩:=hg rfl;have HF:=Ac8 hf;have HG:=Ac8 (And.intro g1 (And.intro g2 g3));clear hf hg hr g1 g2 g3;go_wp2_with (first | (go_at_call 92;refine (AT _ _).mono ?_;rintro e w5 ⟨rfl,hw5⟩;have hw5':=hw5.symm;subst hw5';rw [hdc]) | (go_at_call 93;refine hX.mono ?_;clear hX;rintro e w6 ⟨rfl,h6⟩))
       go_roundg m
       case rel=>exact ⟨s1,h6,HF.out,by have:=HG.out;omega,HG.out.2.1,by rw [HG.out.2.2];exact hl'⟩
       case measure=>omega
      ·rw [if_neg he] at hf
       have ce:((e1:Int) != 0)=true:=by simpa using he
       have HF:=Ac8 hf;clear hf hg hr he;go_wp2_with (first | (go_at_call 92;refine (AT _ _).mono ?_;rintro e w5 ⟨rfl,hw5⟩;have hw5':=hw5.symm;subst hw5';rw [hdc]) | (go_at_call 93;refine hX.mono ?_;clear hX;rintro e w6 ⟨rfl,h6⟩))
       go_ret;rw [←HF.out];exact ⟨rfl,h6⟩
     ·have hdc:A2.contains b=false:=by simpa using hdg
      rw [Wr Hd.out (show AI s.data.toList b st'=none by unfold AI;rw [if_neg h103,if_neg h112,if_neg hdg])] at hf;by_cases h119:b=119
      ·have q119:((b.toNat:Int) == 119)=true:=by rw [h119];rfl
       rw [if_pos h119] at hf;have Wk:IntKind.i64.wrap ((st'.k:Int)+1)=((st'.k+1:Nat):Int):=by rw [Adm _ (by omega)];omega
       have f2:=HH.out.q.frozen 2;have hX:=Qk w p s ext (st'.go (st'.k+1)) _ (H4.out.go (st'.k+1)).R hs (by show st'.k+1≤s.size;omega);have HF:=Ac8 hf;clear h103 h112 hdg h119 hf;go_wp2_with (first | (go_at_call 92;refine (AT _ _).mono ?_;rintro e w5 ⟨rfl,hw5⟩;have hw5':=hw5.symm;subst hw5';rw [hdc]) | (go_at_call 47;refine hX.mono ?_;clear hX;rintro e w6 ⟨rfl,h6⟩))
       go_ret;rw [←HF.out];exact ⟨rfl,h6⟩
      ·have q119:((b.toNat:Int) == 119)=false:=An (c:=119) h119
       rw [if_neg h119] at hf;have hX:=Km w p s ext st' _ H4.out.R hs hk' hl';have HF:=Ac8 hf;clear h103 h112 hdg h119 hf;go_wp2_with (first | (go_at_call 92;refine (AT _ _).mono ?_;rintro e w5 ⟨rfl,hw5⟩;have hw5':=hw5.symm;subst hw5';rw [hdc]) | (go_at_call 50;refine hX.mono ?_;clear hX;rintro e w6 ⟨rfl,h6⟩))
       go_ret;rw [←HF.out];exact ⟨rfl,h6⟩
end
section
open Go Go.RowKit
structure MkS (B b:Nat) (ps:List Cp) (t:List UInt8) (pv av bv:Value) (W:World):Prop where
 q:Blk W b #[pv,av,bv] 188
 bb:B≤b
 a:av=.pointer none∨av=.pointer (some ⟨b,1,none⟩)
 pr:W.ownsRow B 74 2 pv ps.length (cpC ps)
 br:W.ownsRowF B 5 1 bv t.length (Lib.byteCells t)
theorem Gf {w w':World} {base:Nat} {e:TypeId} {size n:Nat} {v:Value} {xs:List Value} (h:w.ownsRowF base e size v n xs) (hb:∀ g,v.ownBlock=some g→w'.heap[g]?=w.heap[g]?):w'.ownsRowF base e size v n xs:=by
 refine ⟨h.1,?_⟩;rcases h.2 with hn | ⟨g,cap,cur,fz,rfl,hb0,hg,rest⟩
 ·exact .inl hn
 ·exact .inr ⟨g,cap,cur,fz,rfl,hb0,(hb g rfl).trans hg,rest⟩
theorem ML {w:World} {B:Nat} {e T:TypeId} {v:Value} {size n:Nat} {xs:List Value} {b:Nat} {cs:Array Value} {fr:Nat × Nat} (hown:w.ownsRow B e size v n xs) (hb:w.heap[b]?=some (.cells cs T fr)) (hTe:T≠e):v.ownBlock≠some b:=by
 rcases hown.2 with ⟨rfl,_⟩ | ⟨g,cap,cur,rfl,_,hg,_⟩
 ·simp [Value.ownBlock]
 ·intro h
  simp only [Value.ownBlock,Option.some.injEq] at h;subst h;rw [hg] at hb;simp only [Option.some.injEq,Obj.cells.injEq] at hb;exact hTe hb.2.1.symm
theorem MkS.np {B b:Nat} {ps:List Cp} {t:List UInt8} {pv av bv:Value} {W:World} (h:MkS B b ps t pv av bv W):pv.ownBlock≠some b:=ML h.pr h.q (by decide)
theorem MkS.nb {B b:Nat} {ps:List Cp} {t:List UInt8} {pv av bv:Value} {W:World} (h:MkS B b ps t pv av bv W):bv.ownBlock≠some b:=Lib.ownBlock_neF h.br h.q (by decide)
theorem MkS.npb {B b:Nat} {ps:List Cp} {t:List UInt8} {pv av bv:Value} {W:World} (h:MkS B b ps t pv av bv W):∀ g,pv.ownBlock=some g→bv.ownBlock≠some g:=fun g hg=>by
 rcases h.pr.2 with ⟨h1,_⟩ | ⟨g',cap,cur,h1,_,hg',_⟩
 ·rw [h1] at hg;simp [Value.ownBlock] at hg
 ·rw [h1] at hg
  simp only [Value.ownBlock,Option.some.injEq] at hg;subst hg;exact Lib.ownBlock_neF h.br hg' (by decide)
theorem MkS.own {B b:Nat} {ps:List Cp} {t:List UInt8} {pv av bv:Value} {W W':World} (h:MkS B b ps t pv av bv W) {av':Value} (ha:av'=.pointer none∨av'=.pointer (some ⟨b,1,none⟩)) (hq:Blk W' b #[pv,av',bv] 188) (hk:∀ k,k≠b→W'.heap[k]?=W.heap[k]?):MkS B b ps t pv av' bv W':=
 ⟨hq,h.bb,ha,Aa h.pr fun g hg=>hk g fun e=>h.np (by rw [hg,e]),Gf h.br fun g hg=>hk g fun e=>h.nb (by rw [hg,e])⟩
theorem KK:(Tryz.prog.info? 167).map (·.size)=some 2:=by kernel_rfl
theorem Qm:liesAt Tryz.prog Tryz.prog.depth 188 (3 / Tryz.prog.cellsOf 188) 1 167 1=true:=by kernel_rfl
theorem Qn {w:World} {b:Nat} {T:TypeId} {v0 v1 v2:Value} (h:Blk w b #[v0,v1,v2] T):w.shape? b=some (T,3):=by
 unfold Blk at h;simp [World.shape?,h]
theorem Ev (W:World) (b j:Nat) (v:Value):∀ k,k≠b→(W.setCell ⟨b,j,none⟩ v).heap[k]?=W.heap[k]?:=fun _ hk=>Adl _ _ _ _ (fun e=>hk e)
theorem T7 {B b:Nat} {ps:List Cp} {t:List UInt8} {pv av bv:Value} {W:World} (h:MkS B b ps t pv av bv W) :
  Calls Tryz.prog 106 #[.pointer (some ⟨b,1,none⟩)] W fun e W'=>e=.returned (.tuple #[])∧MkS B b ps t pv (.pointer (some ⟨b,1,none⟩)) bv W'∧Below B W W'∧W'.heap.size=W.heap.size:=by
 obtain ⟨j,hj,hjs⟩:=Option.map_eq_some_iff.1 KK;have hf:=h.q.frozen 1;have hsh:=Qn h.q;rcases h.a with rfl | rfl
 ·have h0:W.cell? ⟨b,1,none⟩=some (.pointer none):=(h.q.cell 1).trans rfl
  have hF:=Ac8 (h.own (W':=W.setCell ⟨b,1,none⟩ (.pointer (some ⟨b,1,none⟩))) (.inr rfl) (h.q.set 1 _) (Ev _ _ _ _));have hB:=Ac8 ((Adk B W).setCell (p:=⟨b,1,none⟩) h.bb (.pointer (some ⟨b,1,none⟩)));clear h;go_enter Tryz.func106,Tryz.ntmps106
  go_wp2
  rw [Lib.run_to_unsafe W ⟨b,1,none⟩ Tryz.underlying164 Tryz.underlying213 hj (by rw [hjs];decide) hsh (Nat.succ_lt_succ (Nat.zero_lt_succ 1))];simp only [Result.andThen];rw [Oper.upon_value]
  go_wp2
  rw [run_callFunc_extern Tryz.func121 (by kernel_rfl) (by kernel_rfl) (by kernel_rfl) (e:=Extern.AbiNoEscape.same) (by kernel_rfl)];rw [Lib.run_noEscape];simp only [Result.andThen];rw [Oper.upon_value]
  go_wp2
  rw [Lib.run_from_unsafe W ⟨b,1,none⟩ Tryz.underlying213 Tryz.underlying164 hj hsh Qm];simp only [Result.andThen];rw [Oper.upon_value]
  go_wp2
  go_end0;exact ⟨rfl,hF.out,hB.out,by simp [World.setCell]⟩
 ·have h0:W.cell? ⟨b,1,none⟩=some (.pointer (some ⟨b,1,none⟩)):=(h.q.cell 1).trans rfl
  have hF:=Ac8 h;clear h;go_enter Tryz.func106,Tryz.ntmps106
  go_wp2
  rw [Lib.run_neq_ptr_same W _ Tryz.underlying164 hj]
  go_wp2
  go_end0;exact ⟨rfl,hF.out,Adk B _,rfl⟩
theorem Ov:∃ i,Tryz.prog.info? 5=some i∧i.zero=some (.int .u8 0)∧i.size=1∧i.bytes=1:=by
 have h:(Tryz.prog.info? 5).map (fun i=>(i.zero,i.size,i.bytes))=some (some (.int .u8 0),1,1):=by kernel_rfl
 obtain ⟨i,hi,he⟩:=Option.map_eq_some_iff.1 h;injection he with h1 h2;injection h2 with h2 h3;exact ⟨i,hi,h1,h2,h3⟩
theorem Jh (w:World) (v:Value) (t:TypeId):∀ j u,[v][j]?=some u→(w.alloc (.cells #[v] t)).cell? ((⟨w.heap.size,0,none⟩:Addr).add j)=some u:=by
 intro j u hu;cases j with
 | zero=>
  have e:v=u:=by simpa using hu
  subst e;rw [Go.WideShapes.add_plain,Nat.add_zero];have hb:=Blk.new w #[v] t w.heap.size rfl;exact (hb.cell 0).trans rfl
 | succ j=>simp at hu
theorem CZ (t:List UInt8) (c:UInt8):Lib.byteCells (t++[c])=Lib.byteCells t++[.int .u8 (c.toNat:Int)]:=by simp [Lib.byteCells]
/-- A byte is written. -/
theorem G8 {B b:Nat} {ps:List Cp} {t:List UInt8} {pv av bv:Value} {W:World} (c:UInt8) (h:MkS B b ps t pv av bv W) (hl:t.length≤4000000) (hBw:B≤W.heap.size) :
  Calls Tryz.prog 87 #[.pointer (some ⟨b,1,none⟩),.int .u8 (c.toNat:Int)] W fun e W'=>e=.returned .nilIface∧(∃ bv',MkS B b ps (t++[c]) pv (.pointer (some ⟨b,1,none⟩)) bv' W')∧Below B W W':=by
 obtain ⟨i0,hi,hz0,hz1,hz2⟩:=Ov;have hcp:=T7 h;clear h;go_enter Tryz.func87,Tryz.ntmps87;go_wp2_with fail
 refine hcp.mono ?_;rintro e w1 ⟨rfl,h1,hb1,hs1⟩;have H1:=Ac8 h1;have HB1:=Ac8 hb1;have hbs:B≤w1.heap.size:=by omega
 clear hs1;have hlt:=h1.q.lt;have c2:w1.cell? ⟨b,2,none⟩=some bv:=(h1.q.cell 2).trans rfl;have hm1:t.length+1≤maxLen:=by unfold maxLen;omega
 have hnw:∀ j u,[Value.int .u8 (c.toNat:Int)][j]?=some u→(w1.alloc (.cells #[.int .u8 (c.toNat:Int)] 5)).cell? ((⟨w1.heap.size,0,none⟩:Addr).add j)=some u:=Jh w1 _ _;have hbl:=(Adk w1.heap.size w1).alloc (Adf _) (.cells #[.int .u8 (c.toNat:Int)] 5);have hbr:=Gf h1.br (fun g hg=>hbl.block g (h1.br.lt g hg).2);have HBL:=Ac8 hbl;clear h1 hb1 hcp hbl;go_wp2_with (at_builtin;refine wpList_append_ownF _ rfl _ _ 165 rfl B 5 i0 (.int .u8 0) 1 1 Tryz.underlying165 hi hz0 hz1 hz2 rfl (by decide) _ _ _ rfl hbr ⟨w1.heap.size,0,none⟩ 1 1 [.int .u8 (c.toNat:Int)] rfl rfl hnw (by intro u hu;simp at hu;subst hu;rfl) hm1 (by omega) (by simp;omega) ?_)
 intro v' w2 hown' hgrow _;have hne:=H1.out.nb;have hq2:=AE (H1.out.q.below HBL.out H1.out.q.lt) hgrow hne;have d2:w2.cell? ⟨b,2,none⟩=some bv:=(hq2.cell 2).trans rfl;have f2:=hq2.frozen 2;obtain ⟨g,cap,rfl⟩:∃ g cap,v'=.slice (some ⟨g,0,none⟩) (t.length+1) cap:=by
  rcases hown'.2 with ⟨_,h0⟩ | ⟨g,cap,cur,fz,hv,_⟩
  ·omega
  ·exact ⟨g,cap,hv⟩
 have hpr2:w2.ownsRow B 74 2 pv ps.length (cpC ps):=Aa H1.out.pr (fun k hk=>(hgrow.block k (by have:=AA H1.out.pr k hk;have:=HBL.out.size;omega) (fun e=>H1.out.npb k hk e.symm)).trans (HBL.out.block k (AA H1.out.pr k hk)));have hnp:=H1.out.np;have hB2:Below B W w2:=(HB1.out.trans (HBL.out.mono (by omega))).grown hgrow (by simp;omega) (fun k hk=>(H1.out.br.lt k hk).1);have hnb':(Value.slice (some ⟨g,0,none⟩) (t.length+1) cap).ownBlock≠some b:=Lib.ownBlock_neF hown' hq2 (by decide);have HF:=Ac8 (show MkS B b ps (t++[c]) pv (.pointer (some ⟨b,1,none⟩)) (.slice (some ⟨g,0,none⟩) (t.length+1) cap) (w2.setCell ⟨b,2,none⟩ (.slice (some ⟨g,0,none⟩) (t.length+1) cap)) from
  ⟨hq2.set 2 _,H1.out.bb,.inr rfl,Aa hpr2 fun k hk=>Ev _ _ _ _ k fun e=>hnp (by rw [hk,e]),by
   rw [CZ,Adh];exact Gf hown' fun k hk=>Ev _ _ _ _ k fun e=>hnb' (by rw [hk,e])⟩)
 have HB2:=Ac8 (hB2.setCell (p:=⟨b,2,none⟩) H1.out.bb (.slice (some ⟨g,0,none⟩) (t.length+1) cap));clear hown' hgrow hq2 hpr2 hB2
 go_wp2
 go_ret;exact ⟨rfl,⟨_,HF.out⟩,HB2.out⟩
theorem Wt {B b:Nat} {ps:List Cp} {t:List UInt8} {pv av bv:Value} {W:World} (h:MkS B b ps t pv av bv W) :
  Calls Tryz.prog 122 #[.pointer (some ⟨b,1,none⟩)] W fun e W'=>e=.returned (.int .i64 (t.length:Int))∧W'=W:=by
 have c2:W.cell? ⟨b,2,none⟩=some bv:=(h.q.cell 2).trans rfl;obtain ⟨a,k,rfl⟩:∃ a k,bv=.slice a t.length k:=by
  rcases h.br.2 with ⟨rfl,h0⟩ | ⟨g,cap,cur,fz,hv,_⟩
  ·exact ⟨none,0,by rw [h0]⟩
  ·exact ⟨_,cap,hv⟩
 clear h;go_enter Tryz.func122,Tryz.ntmps122;go_wp2_with fail
 go_ret;exact ⟨rfl,rfl⟩
theorem Qo {B b:Nat} {ps:List Cp} {pv av bv:Value} {W:World} (hq:Blk W b #[pv,av,bv] 188) (hb:B≤b) (hp:W.ownsRow B 74 2 pv ps.length (cpC ps)) :
  Calls Tryz.prog 123 #[.pointer (some ⟨b,1,none⟩)] W fun e W'=>e=.returned (.tuple #[])∧MkS B b ps [] pv (.pointer none) (.slice none 0 0) W'∧Below B W W':=by
 have c1:W.cell? ⟨b,1,none⟩=some av:=(hq.cell 1).trans rfl;have c2:W.cell? ⟨b,2,none⟩=some bv:=(hq.cell 2).trans rfl;have f1:=hq.frozen 1;have f2:=hq.frozen 2;have hnp:=ML hp hq (by decide);have HF:=Ac8 (show MkS B b ps [] pv (.pointer none) (.slice none 0 0) ((W.setCell ⟨b,1,none⟩ (.pointer none)).setCell ⟨b,2,none⟩ (.slice none 0 0)) from
  ⟨(hq.set 1 _).set 2 _,hb,.inl rfl,Aa hp fun k hk=>(Ev _ _ _ _ k fun e=>hnp (by rw [hk,e])).trans (Ev _ _ _ _ k fun e=>hnp (by rw [hk,e])),World.ownsRowF_nil _ _ _ _⟩)
 have HB:=Ac8 (((Adk B W).setCell (p:=⟨b,1,none⟩) hb (.pointer none)).setCell (p:=⟨b,2,none⟩) hb (.slice none 0 0));clear hq hp hnp;go_enter Tryz.func123,Tryz.ntmps123;go_wp2_with fail
 go_end0;exact ⟨rfl,HF.out,HB.out⟩
end
end Go.Proofs.YteilldmmihiijaaGreatDoor
