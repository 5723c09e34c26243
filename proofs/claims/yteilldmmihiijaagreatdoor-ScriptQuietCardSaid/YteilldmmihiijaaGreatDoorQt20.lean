/- Texts. -/
import Derived.Test.YteilldmmihiijaaGreatDoorQt17
import Derived.Test.YteilldmmihiijaaGreatDoorQt04
import Derived.Test.YteilldmmihiijaaGreatDoorQt19
import Derived.Test.YteilldmmihiijaaGreatDoorQt15
import Derived.Laws.Rows
import Derived.Deep.MidRow
import Derived.Laws.Tables
import Derived.Laws.CopyOwn
import Derived.BigQuiet
import Derived.Test.YteilldmmihiijaaGreatDoorQt05
import Derived.Maps.OwnSet
import Derived.Maps.OwnOps
import Derived.Maps.Views
set_option linter.unusedSimpArgs false
set_option linter.unusedVariables false
set_option maxHeartbeats 8000000
set_option maxRecDepth 1000000
namespace Go.Proofs.YteilldmmihiijaaGreatDoor
open Go.Lib renaming hid→Ac8
open List renaming setIfInBounds_toArray→Ac9,getElem_cons_zero→Ada,getElem_cons_succ→Adb,getElem_toArray→Adc,set_cons_zero→Zz0,set_cons_succ→Ade,length_append→Adh,mem_cons→Ado,mem_append→Adp
open Nat renaming le_refl→Adf,lt_of_lt_of_le→Adi,le_of_lt→Adj
open Go.RowKit.Below renaming refl→Adk,heap_setCell→Adl
open Go.IntWalk renaming i64_in→Adm
open Go.World renaming cell?_of_block→Adn
section
open Go Go.RowKit
theorem Zc (c:UInt8) (t:List UInt8):Lib.hasPrefix (c :: t) [92,10]=decide (c=92∧t.head?=some 10):=by
 unfold Lib.hasPrefix;cases t with
 | nil=>
  show ((92:UInt8) == c && false)=_;rw [Bool.and_false];simp
 | cons x u=>
  show ((92:UInt8) == c && ((10:UInt8) == x && List.isPrefixOf [] u))=_;by_cases h:c=92
  ·subst h
   by_cases h2:x=10
   ·subst h2;simp
   ·have:((10:UInt8) == x)=false:=beq_eq_false_iff_ne.2 (Ne.symm h2)
    rw [this];simp [h2]
  ·have:((92:UInt8) == c)=false:=beq_eq_false_iff_ne.2 (Ne.symm h)
   rw [this];simp [h]
theorem I1 (w:World) (p:Nat) (s:ByteArray) (ext:Bool) (st:CS) (W:World) (h:Dg w p s ext st W) (hs:s.size≤4000000) (hk:st.k≤s.size) (hl:st.ms.length≤100000) :
  Calls Tryz.prog 46 #[.pointer (some ⟨p,0,none⟩)] W fun e W'=>e=.returned (.int .i64 ((Ct s.data.toList st).1:Int))∧Dg w p s ext (Ct s.data.toList st).2 W':=by
 obtain ⟨ta,tb,ts,pa,pc,ma,mc,h⟩:=h;have hB:=H9 s st.k hs hk;obtain ⟨K,hK⟩:∃ K,Ak s.data.toList st.k=K:=⟨_,rfl⟩;have hKl:K≤s.size:=by rw [←hK,Ad];exact (F6 _ _ (by rw [←Ad];exact hk)).2
 unfold Ct;rw [hK] at hB ⊢;have HH:=Ac8 h;have k0:W.cell? ⟨p,0,none⟩=some (.string s):=(h.q.cell 0).trans rfl;have k2:W.cell? ⟨p,2,none⟩=some (.int .i64 (st.k:Int)):=(h.q.cell 2).trans rfl;have Hl:=Ac8 hl;have hx0:(0:Int)≤(K:Int):=by omega
 have hx1:(K:Int)≤(s.size:Int):=by omega
 obtain ⟨E,hEx⟩:∃ E,s.extract K s.size=E:=⟨_,rfl⟩;have hEl:E.data.toList=s.data.toList.drop K:=by rw [←hEx];exact BX s K
 have hEs:E.size=s.size - K:=by rw [←hEx,ByteArray.size_extract];omega
 clear h hK hk hl;by_cases hz:K=s.size
 ·rw [Bl s K (by omega)]
  have c1:E.toList.isEmpty=true:=by rw [ByteArray.toList_eq,hEl,Bl s K (by omega)];rfl
  have c2:E.toList=[]:=List.isEmpty_iff.1 c1;clear hz hEl hEs;simp only;go_enter Tryz.func46,Tryz.ntmps46;go_upto_region 1 with fail;go_cut [] (fun wx=>CmSt w p s ext (st.go K) ta tb ts pa pc ma mc wx);(case first=>((go_region_law (first | (go_simp;go_at_call 66;refine (hB _).mono ?_;rintro e w1 ⟨rfl,b1⟩;have H1:=Ac8 (by first | exact HH.out.step b1 | exact HH.out.drew.step b1:CmSt w p s ext st ta tb ts pa pc ma mc w1);have f2:=H1.out.q.frozen 2;have g2:w1.cell? ⟨p,2,none⟩=some (.int .i64 (st.k:Int)):=(H1.out.q.cell 2).trans rfl;clear b1)));all_goals ((try go_wp2_with fail);go_meet;exact H1.out.go K)));have H2:=Ac8 hcut;clear hcut k0 k2;have k0:World.cell? wc ⟨p,0,none⟩=some (.string s):=(H2.out.q.cell 0).trans rfl;have k2:World.cell? wc ⟨p,2,none⟩=some (.int .i64 (K:Int)):=(H2.out.q.cell 2).trans rfl;go_upto_region 2 with fail;go_quiet (fail);generalize nq=n1;have H3:=Ac8 (H2.out.drewN n1);go_wp2_with fail
  go_ret;exact ⟨rfl,H3.out.R⟩
 ·have hlt:K < s.size:=by omega
  have hd:=Bh s K hlt;have c1:E.toList.isEmpty=false:=by rw [ByteArray.toList_eq,hEl,hd];rfl
  have c2:¬ E.toList=[]:=fun h=>by rw [h] at c1;cases c1
  have hE0:0 < E.size:=by omega
  have hEi:(0:Int) < (E.size:Int):=by omega
  have hEh:E[0]'hE0=s[K]:=by
   have h1:=Bh E 0 hE0;rw [List.drop_zero,hEl,hd] at h1;injection h1 with h1;exact h1.symm
  have hpf:=fun w=>Ck E ⟨#[92,10]⟩ w
  rw [hEl,hd,show (⟨#[92,10]⟩:ByteArray).data.toList=[92,10] from rfl,Zc] at hpf;rw [hd];obtain ⟨b,hb⟩:∃ b,s[K]=b:=⟨_,rfl⟩;rw [hb] at hEh hpf ⊢;simp only;clear hz hb hEl hEs;by_cases h10:b=10
  ·rw [if_pos h10]
   have q10:((b.toNat:Int) == 10)=true:=by rw [h10];rfl
   clear h10 hpf;go_enter Tryz.func46,Tryz.ntmps46;go_upto_region 1 with fail;go_cut [] (fun wx=>CmSt w p s ext (st.go K) ta tb ts pa pc ma mc wx);(case first=>((go_region_law (first | (go_simp;go_at_call 66;refine (hB _).mono ?_;rintro e w1 ⟨rfl,b1⟩;have H1:=Ac8 (by first | exact HH.out.step b1 | exact HH.out.drew.step b1:CmSt w p s ext st ta tb ts pa pc ma mc w1);have f2:=H1.out.q.frozen 2;have g2:w1.cell? ⟨p,2,none⟩=some (.int .i64 (st.k:Int)):=(H1.out.q.cell 2).trans rfl;clear b1)));all_goals ((try go_wp2_with fail);go_meet;exact H1.out.go K)));have H2:=Ac8 hcut;clear hcut k0 k2;have k0:World.cell? wc ⟨p,0,none⟩=some (.string s):=(H2.out.q.cell 0).trans rfl;have k2:World.cell? wc ⟨p,2,none⟩=some (.int .i64 (K:Int)):=(H2.out.q.cell 2).trans rfl;go_upto_region 2 with fail;go_quiet (fail);generalize nq=n1;have H3:=Ac8 (H2.out.drewN n1);go_wp2_with fail
   go_ret;exact ⟨rfl,H3.out.R⟩
  ·rw [if_neg h10]
   have q10:((b.toNat:Int) == 10)=false:=Kj (n:=10) (by decide) h10;by_cases h2:b=92∧(s.data.toList.drop (K+1)).head?=some 10
   ·rw [if_pos h2]
    rw [decide_eq_true h2] at hpf;obtain ⟨K2,hK2⟩:∃ K2,K+2=K2:=⟨_,rfl⟩;have h1:K+1 < s.size:=Gd h2.2;have hK2l:K2≤s.size:=by omega
    have Wk:IntKind.i64.wrap ((K:Int)+2)=(K2:Int):=by rw [Adm _ (by omega)];omega
    rw [hK2];have hN:=fun w1=>LF s K2 w1 hs hK2l
    obtain ⟨st5,hst5⟩:∃ st5,(st.go K).go K2=st5:=⟨_,rfl⟩;have hgo:(st.go K2)=st5:=hst5;rw [hgo];have HK5:=Ac8 (show st5.k=K2 by rw [←hst5];rfl);unfold CT;rw [HK5.out];obtain ⟨⟨t,q,e0⟩,hR⟩:∃ R,Bw (s.data.toList.drop K2) K2 []=R:=⟨_,rfl⟩;rw [hR] at hN ⊢;have hN:∀ w1,Calls Tryz.prog 71 #[.string s,.int .i64 (K2:Int)] w1 fun e w'=>e=.returned (.tuple #[.string (txt t),.int .i64 (q:Int),.int .i64 (e0:Int)])∧Below w1.heap.size w1 w':=hN
    clear h10 h2 hK2 hR hgo h1 hd;simp only;go_enter Tryz.func46,Tryz.ntmps46;go_upto_region 1 with fail;go_cut [] (fun wx=>CmSt w p s ext (st.go K) ta tb ts pa pc ma mc wx);(case first=>((go_region_law (first | (go_simp;go_at_call 66;refine (hB _).mono ?_;rintro e w1 ⟨rfl,b1⟩;have H1:=Ac8 (by first | exact HH.out.step b1 | exact HH.out.drew.step b1:CmSt w p s ext st ta tb ts pa pc ma mc w1);have f2:=H1.out.q.frozen 2;have g2:w1.cell? ⟨p,2,none⟩=some (.int .i64 (st.k:Int)):=(H1.out.q.cell 2).trans rfl;clear b1)));all_goals ((try go_wp2_with fail);go_meet;exact H1.out.go K)));have H2:=Ac8 hcut;clear hcut k0 k2;have k0:World.cell? wc ⟨p,0,none⟩=some (.string s):=(H2.out.q.cell 0).trans rfl;have k2:World.cell? wc ⟨p,2,none⟩=some (.int .i64 (K:Int)):=(H2.out.q.cell 2).trans rfl;go_upto_region 2 with fail;go_quiet (fail);generalize nq=n1;have H3:=Ac8 (H2.out.drewN n1);clear k0 k2;have k2:(wc.drewN n1).cell? ⟨p,2,none⟩=some (.int .i64 (K:Int)):=(H3.out.q.cell 2).trans rfl;have f2:=H3.out.q.frozen 2;have H5:=Ac8 (by have h9:=H3.out.go K2;rw [hst5] at h9;exact h9);go_upto_region 10 with (go_at_call 23;refine (hpf _).mono ?_;clear hpf;rintro e w4 ⟨rfl,rfl⟩)
    clear k2 f2;generalize (wc.drewN n1).setCell ⟨p,2,none⟩ (.int .i64 (K2:Int))=w5 at H5 ⊢
    (have k0:w5.cell? ⟨p,0,none⟩=some (.string s):=(H5.out.q.cell 0).trans rfl);(have k2:w5.cell? ⟨p,2,none⟩=some (.int .i64 (K2:Int)):=(H5.out.q.cell 2).trans (by rw [←HK5.out];rfl));go_region_held3 (fun w'=>w'.cell? ⟨p,0,none⟩=some (.string s)∧w'.cell? ⟨p,2,none⟩=some (.int .i64 (K2:Int))) (first | exact ⟨k0,k2⟩ | (refine ⟨?_,?_⟩ <;> assumption)) (first | (go_at_call 71;refine (hN _).mono ?_;rintro e w6 ⟨rfl,b6⟩;have H6:=Ac8 (by first | exact H5.out.step b6 | exact H5.out.drew.step b6:CmSt w p s ext st5 ta tb ts pa pc ma mc w6);have m0:w6.cell? ⟨p,0,none⟩=some (.string s):=(H6.out.q.cell 0).trans rfl;have m2:w6.cell? ⟨p,2,none⟩=some (.int .i64 (K2:Int)):=(H6.out.q.cell 2).trans (by rw [←HK5.out];rfl);clear b6));(all_goals (clear k0 k2 m0;have k14:w6.cell? ⟨p,14,none⟩=some (.string (txt st5.c.arg)):=(H6.out.q.cell 14).trans rfl;have f2:=H6.out.q.frozen 2;have f14:=H6.out.q.frozen 14;have H7:=Ac8 (H6.out.arg t q);go_wp2_with fail;go_ret;exact ⟨rfl,H7.out.R⟩))
   ·rw [if_neg h2]
    rw [decide_eq_false h2] at hpf;have hN:=fun w1=>LF s K w1 hs hKl
    obtain ⟨st5,hst5⟩:∃ st5,(st.go K).mark st.c.pl [116,101,120,116]=st5:=⟨_,rfl⟩;rw [hst5];have HK5:=Ac8 (show st5.k=K by rw [←hst5];rfl);have HS5:=Ac8 hst5;unfold CT;rw [HK5.out];obtain ⟨⟨t,q,e0⟩,hR⟩:∃ R,Bw (s.data.toList.drop K) K []=R:=⟨_,rfl⟩;rw [hR] at hN ⊢;have hN:∀ w1,Calls Tryz.prog 71 #[.string s,.int .i64 (K:Int)] w1 fun e w'=>e=.returned (.tuple #[.string (txt t),.int .i64 (q:Int),.int .i64 (e0:Int)])∧Below w1.heap.size w1 w':=hN
    clear h10 h2 hR hd hst5;simp only;go_enter Tryz.func46,Tryz.ntmps46;go_upto_region 1 with fail;go_cut [] (fun wx=>CmSt w p s ext (st.go K) ta tb ts pa pc ma mc wx);(case first=>((go_region_law (first | (go_simp;go_at_call 66;refine (hB _).mono ?_;rintro e w1 ⟨rfl,b1⟩;have H1:=Ac8 (by first | exact HH.out.step b1 | exact HH.out.drew.step b1:CmSt w p s ext st ta tb ts pa pc ma mc w1);have f2:=H1.out.q.frozen 2;have g2:w1.cell? ⟨p,2,none⟩=some (.int .i64 (st.k:Int)):=(H1.out.q.cell 2).trans rfl;clear b1)));all_goals ((try go_wp2_with fail);go_meet;exact H1.out.go K)));have H2:=Ac8 hcut;clear hcut k0 k2;have k0:World.cell? wc ⟨p,0,none⟩=some (.string s):=(H2.out.q.cell 0).trans rfl;have k2:World.cell? wc ⟨p,2,none⟩=some (.int .i64 (K:Int)):=(H2.out.q.cell 2).trans rfl;go_upto_region 2 with fail;go_quiet (fail);generalize nq=n1;have H3:=Ac8 (H2.out.drewN n1);clear k0 k2;generalize wc.drewN n1=w4 at H3 ⊢;have k3:w4.cell? ⟨p,3,none⟩=some (.int .i64 (st.c.pl:Int)):=(H3.out.q.cell 3).trans rfl;have k23:w4.cell? ⟨p,23,none⟩=some (.slice ma st.ms.length mc):=(H3.out.q.cell 23).trans rfl;obtain ⟨i0,hi,hz0,hz1,hz2⟩:=Co;have hlm:=Hl.out;have hm1:st.ms.length+1≤maxLen:=by unfold maxLen;omega
    have hm2:(st.ms.length+1) * 24≤140737488355328:=by omega
    have hlo:w.heap.size≤w4.heap.size:=H3.out.b0.size;have hplt:=H3.out.q.lt;clear hlm;go_upto_region 3 with (go_at_call 23;refine (hpf _).mono ?_;clear hpf;rintro e w9 ⟨rfl,rfl⟩)
    go_region_law (first
     | (refine A1 rfl _ _ 26 rfl w.heap.size 33 i0 (.agg #[.int .i64 0,.string ⟨#[]⟩]) 2 24 Tryz.underlying26 hi hz0 hz1 hz2 rfl (by decide) (.slice ma st.ms.length mc) st.ms.length (wmC st.ms) rfl (Ag H3.out.r (by repeat (first | (with_reducible exact Adk _ _) | refine Below.drew ?_ | refine Below.alloc ?_ (Adf _) _))) (some ⟨w4.heap.size,0,none⟩) 1 1 (JI ((st.c.pl:Int),⟨#[116,101,120,116]⟩)) rfl rfl (fun _=>⟨_,rfl,JJ w4 ((st.c.pl:Int),⟨#[116,101,120,116]⟩) _⟩) (Ha _) hm1 hm2 (by simp;omega) ?_;intro v6 w6 hown6 hgrow6 hat6;obtain ⟨a6,c6,rfl⟩:=A7 hown6;have HP:=Ac8 (H3.out.push (n:=1) (ms2:=[((st.c.pl:Int),⟨#[116,101,120,116]⟩)]) (((Adk w4.heap.size w4).alloc (Adf _) _).drew) rfl hgrow6 (show w6.ownsRow w.heap.size 33 2 (.slice a6 (st.ms.length+1) c6) (st.ms.length+1) (wmC st.ms++wmC [((st.c.pl:Int),⟨#[116,101,120,116]⟩)]) by simpa [wmC] using hown6) hat6);have f23:=(AE (H3.out.q.below (((Adk w4.heap.size w4).alloc (Adf _) _).drew) H3.out.q.lt) hgrow6 H3.out.rg).frozen 23;have g23:w6.cell? ⟨p,23,none⟩=some (.slice ma st.ms.length mc):=((AE (H3.out.q.below (((Adk w4.heap.size w4).alloc (Adf _) _).drew) H3.out.q.lt) hgrow6 H3.out.rg).cell 23).trans rfl;clear hown6 hgrow6 hat6))
    all_goals
     have H5:=Ac8 (show CmSt w p s ext st5 ta tb ts pa pc a6 c6 (w6.setCell ⟨p,23,none⟩ (.slice a6 (st.ms.length+1) c6)) by rw [←HS5.out];exact HP.out);clear HP;go_upto_region 10 with fail;clear k3 k23 f23 g23 hplt;generalize w6.setCell ⟨p,23,none⟩ (.slice a6 (st.ms.length+1) c6)=w5 at H5 ⊢
     (have k0:w5.cell? ⟨p,0,none⟩=some (.string s):=(H5.out.q.cell 0).trans rfl);(have k2:w5.cell? ⟨p,2,none⟩=some (.int .i64 (K:Int)):=(H5.out.q.cell 2).trans (by rw [←HK5.out];rfl));go_region_held3 (fun w'=>w'.cell? ⟨p,0,none⟩=some (.string s)∧w'.cell? ⟨p,2,none⟩=some (.int .i64 (K:Int))) (first | exact ⟨k0,k2⟩ | (refine ⟨?_,?_⟩ <;> assumption)) (first | (go_at_call 71;refine (hN _).mono ?_;rintro e w6 ⟨rfl,b6⟩;have H6:=Ac8 (by first | exact H5.out.step b6 | exact H5.out.drew.step b6:CmSt w p s ext st5 ta tb ts pa pc a6 c6 w6);have m0:w6.cell? ⟨p,0,none⟩=some (.string s):=(H6.out.q.cell 0).trans rfl;have m2:w6.cell? ⟨p,2,none⟩=some (.int .i64 (K:Int)):=(H6.out.q.cell 2).trans (by rw [←HK5.out];rfl);clear b6));(all_goals (clear k0 k2 m0;have k14:w6.cell? ⟨p,14,none⟩=some (.string (txt st5.c.arg)):=(H6.out.q.cell 14).trans rfl;have f2:=H6.out.q.frozen 2;have f14:=H6.out.q.frozen 14;have H7:=Ac8 (H6.out.arg t q);go_wp2_with fail;go_ret;exact ⟨rfl,H7.out.R⟩))
end
section
open Go Go.RowKit
theorem R6 {L:List UInt8} {st:CS} (h0:(Bf L st).1=0):(Bf L st).2.k=st.k+1∧st.k < L.length∧(Bf L st).2.ms.length≤st.ms.length+1:=by
 unfold Bf at h0 ⊢;cases hd:L.drop st.k with
 | nil=>rw [hd] at h0;cases h0
 | cons b t=>
  have hlt:=Bg hd;rw [hd] at h0;simp only at h0 ⊢;cases hM:Ey b with
  | none=>rw [hM] at h0;cases h0
  | some n=>
   rw [hM] at h0;unfold BA at h0 ⊢;simp only at h0 ⊢;by_cases hx:n < Il st.c.g
   ·rw [if_pos hx] at h0;cases h0
   ·rw [if_neg hx]
    split
    ·exact ⟨rfl,hlt,by show (st.ms++_).length≤_;simp⟩
    ·exact ⟨rfl,hlt,Nat.le_succ _⟩
theorem WN {ext:Bool} {L:List UInt8} {st:CS} {b:UInt8} (hb:st.c.name=b):B0 ext L st=if b=123∨b=125 then (0,st) else if b=58 then By L st else if b=98∨b=116∨b=84 then Dd L st else if b=97∨b=105∨b=99 then Ct L st else if b=114∨b=119 then BC L st else if b=115 then Cx ext L st else if b=121 then Cq L st else BZ L st:=by
 subst hb;rfl
theorem WO (w:World) (p:Nat) (s:ByteArray) (ext:Bool) (st:CS) (W:World) (h:Dg w p s ext st W) (hs:s.size≤4000) (hk:st.k≤s.size) (hl:st.ms.length≤80000) (hG:Gl w) (hP:GP w) :
  Calls Tryz.prog 34 #[.pointer (some ⟨p,0,none⟩)] W fun e W'=>e=.returned (.int .i64 ((AM ext s.data.toList st).1:Int))∧Dg w p s ext (AM ext s.data.toList st).2 W':=by
 have hs4:s.size≤4000000:=by omega
 have hA:=T3 w p s ext st W h hs4 hk (by omega);have hok:=R6 (L:=s.data.toList) (st:=st);rw [←Ad] at hok;unfold AM CO.then
 obtain ⟨⟨e1,s1⟩,hR1⟩:∃ R,Bf s.data.toList st=R:=⟨_,rfl⟩;rw [hR1] at hA hok ⊢;simp only at hA hok ⊢;clear hR1 h;by_cases h1:e1=0
 ·subst h1
  rw [if_pos rfl];obtain ⟨hk1,hkl,hm1⟩:=hok rfl;have hk2:s1.k≤s.size:=by omega
  have hm2:s1.ms.length≤90000:=by omega
  have hm3:s1.ms.length≤100000:=by omega
  obtain ⟨b,hb⟩:∃ b,s1.c.name=b:=⟨_,rfl⟩;rw [WN hb];have HB:=Ac8 hb;clear hb hk1 hkl hm1 hok hl hk;by_cases h123:b=123∨b=125
  ·rw [if_pos h123]
   rcases h123 with hx | hx
   ·have q123:((b.toNat:Int) == 123)=true:=by rw [hx];rfl
    clear hx;go_enter Tryz.func34,Tryz.ntmps34;go_wp2_with (go_at_call 43;refine hA.mono ?_;clear hA;rintro e w1 ⟨rfl,h1⟩;have H1:=Ac8 h1;obtain ⟨ta,tb,ts,pa,pc,ma,mc,h1⟩:=h1;have c13:w1.cell? ⟨p,13,none⟩=some (.int .u8 (b.toNat:Int)):=(h1.q.cell 13).trans (by rw [←HB.out];rfl);clear h1)
    go_ret;exact ⟨rfl,H1.out⟩
   ·have q125:((b.toNat:Int) == 125)=true:=by rw [hx];rfl
    have q123:((b.toNat:Int) == 123)=false:=by rw [hx];rfl
    clear hx;go_enter Tryz.func34,Tryz.ntmps34;go_wp2_with (go_at_call 43;refine hA.mono ?_;clear hA;rintro e w1 ⟨rfl,h1⟩;have H1:=Ac8 h1;obtain ⟨ta,tb,ts,pa,pc,ma,mc,h1⟩:=h1;have c13:w1.cell? ⟨p,13,none⟩=some (.int .u8 (b.toNat:Int)):=(h1.q.cell 13).trans (by rw [←HB.out];rfl);clear h1)
    go_ret;exact ⟨rfl,H1.out⟩
  rw [if_neg h123];have q123:((b.toNat:Int) == 123)=false:=An (c:=123) (fun e=>h123 (.inl e));have q125:((b.toNat:Int) == 125)=false:=An (c:=125) (fun e=>h123 (.inr e));clear h123;by_cases h58:b=58
  ·rw [if_pos h58]
   have q58:((b.toNat:Int) == 58)=true:=by rw [h58];rfl
   clear h58;have hX:=fun W1 (h:Dg w p s ext s1 W1)=>Kq w p s ext s1 W1 h hs4 hk2
   clear hG hP hm2 hm3 hk2 hs hs4;go_enter Tryz.func34,Tryz.ntmps34;go_wp2_with (first | (go_at_call 43;refine hA.mono ?_;clear hA;rintro e w1 ⟨rfl,h1⟩;have H1:=Ac8 h1;obtain ⟨ta,tb,ts,pa,pc,ma,mc,h1⟩:=h1;have c13:w1.cell? ⟨p,13,none⟩=some (.int .u8 (b.toNat:Int)):=(h1.q.cell 13).trans (by rw [←HB.out];rfl);clear h1) | (go_at_call 44;refine (hX _ H1.out).mono ?_;clear hX;rintro e w2 ⟨rfl,h2⟩))
   go_ret;exact ⟨rfl,h2⟩
  rw [if_neg h58];have q58:((b.toNat:Int) == 58)=false:=An (c:=58) (h58);clear h58;by_cases h98:b=98∨b=116∨b=84
  ·rw [if_pos h98]
   rcases h98 with hx | hx | hx
   ·have q98:((b.toNat:Int) == 98)=true:=by rw [hx];rfl
    clear hx;have hX:=fun W1 (h:Dg w p s ext s1 W1)=>Kr w p s ext s1 W1 h hs4 hk2
    clear hG hP hm2 hm3 hk2 hs hs4;go_enter Tryz.func34,Tryz.ntmps34;go_wp2_with (first | (go_at_call 43;refine hA.mono ?_;clear hA;rintro e w1 ⟨rfl,h1⟩;have H1:=Ac8 h1;obtain ⟨ta,tb,ts,pa,pc,ma,mc,h1⟩:=h1;have c13:w1.cell? ⟨p,13,none⟩=some (.int .u8 (b.toNat:Int)):=(h1.q.cell 13).trans (by rw [←HB.out];rfl);clear h1) | (go_at_call 45;refine (hX _ H1.out).mono ?_;clear hX;rintro e w2 ⟨rfl,h2⟩))
    go_ret;exact ⟨rfl,h2⟩
   ·have q116:((b.toNat:Int) == 116)=true:=by rw [hx];rfl
    have q98:((b.toNat:Int) == 98)=false:=by rw [hx];rfl
    clear hx;have hX:=fun W1 (h:Dg w p s ext s1 W1)=>Kr w p s ext s1 W1 h hs4 hk2
    clear hG hP hm2 hm3 hk2 hs hs4;go_enter Tryz.func34,Tryz.ntmps34;go_wp2_with (first | (go_at_call 43;refine hA.mono ?_;clear hA;rintro e w1 ⟨rfl,h1⟩;have H1:=Ac8 h1;obtain ⟨ta,tb,ts,pa,pc,ma,mc,h1⟩:=h1;have c13:w1.cell? ⟨p,13,none⟩=some (.int .u8 (b.toNat:Int)):=(h1.q.cell 13).trans (by rw [←HB.out];rfl);clear h1) | (go_at_call 45;refine (hX _ H1.out).mono ?_;clear hX;rintro e w2 ⟨rfl,h2⟩))
    go_ret;exact ⟨rfl,h2⟩
   ·have q84:((b.toNat:Int) == 84)=true:=by rw [hx];rfl
    have q98:((b.toNat:Int) == 98)=false:=by rw [hx];rfl
    have q116:((b.toNat:Int) == 116)=false:=by rw [hx];rfl
    clear hx;have hX:=fun W1 (h:Dg w p s ext s1 W1)=>Kr w p s ext s1 W1 h hs4 hk2
    clear hG hP hm2 hm3 hk2 hs hs4;go_enter Tryz.func34,Tryz.ntmps34;go_wp2_with (first | (go_at_call 43;refine hA.mono ?_;clear hA;rintro e w1 ⟨rfl,h1⟩;have H1:=Ac8 h1;obtain ⟨ta,tb,ts,pa,pc,ma,mc,h1⟩:=h1;have c13:w1.cell? ⟨p,13,none⟩=some (.int .u8 (b.toNat:Int)):=(h1.q.cell 13).trans (by rw [←HB.out];rfl);clear h1) | (go_at_call 45;refine (hX _ H1.out).mono ?_;clear hX;rintro e w2 ⟨rfl,h2⟩))
    go_ret;exact ⟨rfl,h2⟩
  rw [if_neg h98];have q98:((b.toNat:Int) == 98)=false:=An (c:=98) (fun e=>h98 (.inl e));have q116:((b.toNat:Int) == 116)=false:=An (c:=116) (fun e=>h98 (.inr (.inl e)));have q84:((b.toNat:Int) == 84)=false:=An (c:=84) (fun e=>h98 (.inr (.inr e)));clear h98;by_cases h97:b=97∨b=105∨b=99
  ·rw [if_pos h97]
   rcases h97 with hx | hx | hx
   ·have q97:((b.toNat:Int) == 97)=true:=by rw [hx];rfl
    clear hx;have hX:=fun W1 (h:Dg w p s ext s1 W1)=>I1 w p s ext s1 W1 h hs4 hk2 hm3
    clear hG hP hm2 hm3 hk2 hs hs4;go_enter Tryz.func34,Tryz.ntmps34;go_wp2_with (first | (go_at_call 43;refine hA.mono ?_;clear hA;rintro e w1 ⟨rfl,h1⟩;have H1:=Ac8 h1;obtain ⟨ta,tb,ts,pa,pc,ma,mc,h1⟩:=h1;have c13:w1.cell? ⟨p,13,none⟩=some (.int .u8 (b.toNat:Int)):=(h1.q.cell 13).trans (by rw [←HB.out];rfl);clear h1) | (go_at_call 46;refine (hX _ H1.out).mono ?_;clear hX;rintro e w2 ⟨rfl,h2⟩))
    go_ret;exact ⟨rfl,h2⟩
   ·have q105:((b.toNat:Int) == 105)=true:=by rw [hx];rfl
    have q97:((b.toNat:Int) == 97)=false:=by rw [hx];rfl
    clear hx;have hX:=fun W1 (h:Dg w p s ext s1 W1)=>I1 w p s ext s1 W1 h hs4 hk2 hm3
    clear hG hP hm2 hm3 hk2 hs hs4;go_enter Tryz.func34,Tryz.ntmps34;go_wp2_with (first | (go_at_call 43;refine hA.mono ?_;clear hA;rintro e w1 ⟨rfl,h1⟩;have H1:=Ac8 h1;obtain ⟨ta,tb,ts,pa,pc,ma,mc,h1⟩:=h1;have c13:w1.cell? ⟨p,13,none⟩=some (.int .u8 (b.toNat:Int)):=(h1.q.cell 13).trans (by rw [←HB.out];rfl);clear h1) | (go_at_call 46;refine (hX _ H1.out).mono ?_;clear hX;rintro e w2 ⟨rfl,h2⟩))
    go_ret;exact ⟨rfl,h2⟩
   ·have q99:((b.toNat:Int) == 99)=true:=by rw [hx];rfl
    have q97:((b.toNat:Int) == 97)=false:=by rw [hx];rfl
    have q105:((b.toNat:Int) == 105)=false:=by rw [hx];rfl
    clear hx;have hX:=fun W1 (h:Dg w p s ext s1 W1)=>I1 w p s ext s1 W1 h hs4 hk2 hm3
    clear hG hP hm2 hm3 hk2 hs hs4;go_enter Tryz.func34,Tryz.ntmps34;go_wp2_with (first | (go_at_call 43;refine hA.mono ?_;clear hA;rintro e w1 ⟨rfl,h1⟩;have H1:=Ac8 h1;obtain ⟨ta,tb,ts,pa,pc,ma,mc,h1⟩:=h1;have c13:w1.cell? ⟨p,13,none⟩=some (.int .u8 (b.toNat:Int)):=(h1.q.cell 13).trans (by rw [←HB.out];rfl);clear h1) | (go_at_call 46;refine (hX _ H1.out).mono ?_;clear hX;rintro e w2 ⟨rfl,h2⟩))
    go_ret;exact ⟨rfl,h2⟩
  rw [if_neg h97];have q97:((b.toNat:Int) == 97)=false:=An (c:=97) (fun e=>h97 (.inl e));have q105:((b.toNat:Int) == 105)=false:=An (c:=105) (fun e=>h97 (.inr (.inl e)));have q99:((b.toNat:Int) == 99)=false:=An (c:=99) (fun e=>h97 (.inr (.inr e)));clear h97;by_cases h114:b=114∨b=119
  ·rw [if_pos h114]
   rcases h114 with hx | hx
   ·have q114:((b.toNat:Int) == 114)=true:=by rw [hx];rfl
    clear hx;have hX:=fun W1 (h:Dg w p s ext s1 W1)=>Ks w p s ext s1 W1 h hs4 hk2
    clear hG hP hm2 hm3 hk2 hs hs4;go_enter Tryz.func34,Tryz.ntmps34;go_wp2_with (first | (go_at_call 43;refine hA.mono ?_;clear hA;rintro e w1 ⟨rfl,h1⟩;have H1:=Ac8 h1;obtain ⟨ta,tb,ts,pa,pc,ma,mc,h1⟩:=h1;have c13:w1.cell? ⟨p,13,none⟩=some (.int .u8 (b.toNat:Int)):=(h1.q.cell 13).trans (by rw [←HB.out];rfl);clear h1) | (go_at_call 47;refine (hX _ H1.out).mono ?_;clear hX;rintro e w2 ⟨rfl,h2⟩))
    go_ret;exact ⟨rfl,h2⟩
   ·have q119:((b.toNat:Int) == 119)=true:=by rw [hx];rfl
    have q114:((b.toNat:Int) == 114)=false:=by rw [hx];rfl
    clear hx;have hX:=fun W1 (h:Dg w p s ext s1 W1)=>Ks w p s ext s1 W1 h hs4 hk2
    clear hG hP hm2 hm3 hk2 hs hs4;go_enter Tryz.func34,Tryz.ntmps34;go_wp2_with (first | (go_at_call 43;refine hA.mono ?_;clear hA;rintro e w1 ⟨rfl,h1⟩;have H1:=Ac8 h1;obtain ⟨ta,tb,ts,pa,pc,ma,mc,h1⟩:=h1;have c13:w1.cell? ⟨p,13,none⟩=some (.int .u8 (b.toNat:Int)):=(h1.q.cell 13).trans (by rw [←HB.out];rfl);clear h1) | (go_at_call 47;refine (hX _ H1.out).mono ?_;clear hX;rintro e w2 ⟨rfl,h2⟩))
    go_ret;exact ⟨rfl,h2⟩
  rw [if_neg h114];have q114:((b.toNat:Int) == 114)=false:=An (c:=114) (fun e=>h114 (.inl e));have q119:((b.toNat:Int) == 119)=false:=An (c:=119) (fun e=>h114 (.inr e));clear h114;by_cases h115:b=115
  ·rw [if_pos h115]
   have q115:((b.toNat:Int) == 115)=true:=by rw [h115];rfl
   clear h115;have hX:=fun W1 (h:Dg w p s ext s1 W1)=>WH w p s ext s1 W1 h hs hk2 hm2 hG hP
   clear hG hP hm2 hm3 hk2 hs hs4;go_enter Tryz.func34,Tryz.ntmps34;go_wp2_with (first | (go_at_call 43;refine hA.mono ?_;clear hA;rintro e w1 ⟨rfl,h1⟩;have H1:=Ac8 h1;obtain ⟨ta,tb,ts,pa,pc,ma,mc,h1⟩:=h1;have c13:w1.cell? ⟨p,13,none⟩=some (.int .u8 (b.toNat:Int)):=(h1.q.cell 13).trans (by rw [←HB.out];rfl);clear h1) | (go_at_call 48;refine (hX _ H1.out).mono ?_;clear hX;rintro e w2 ⟨rfl,h2⟩))
   go_ret;exact ⟨rfl,h2⟩
  rw [if_neg h115];have q115:((b.toNat:Int) == 115)=false:=An (c:=115) (h115);clear h115;by_cases h121:b=121
  ·rw [if_pos h121]
   have q121:((b.toNat:Int) == 121)=true:=by rw [h121];rfl
   clear h121;have hX:=fun W1 (h:Dg w p s ext s1 W1)=>WM w p s ext s1 W1 h hs hk2 hm3 hP
   clear hG hP hm2 hm3 hk2 hs hs4;go_enter Tryz.func34,Tryz.ntmps34;go_wp2_with (first | (go_at_call 43;refine hA.mono ?_;clear hA;rintro e w1 ⟨rfl,h1⟩;have H1:=Ac8 h1;obtain ⟨ta,tb,ts,pa,pc,ma,mc,h1⟩:=h1;have c13:w1.cell? ⟨p,13,none⟩=some (.int .u8 (b.toNat:Int)):=(h1.q.cell 13).trans (by rw [←HB.out];rfl);clear h1) | (go_at_call 49;refine (hX _ H1.out).mono ?_;clear hX;rintro e w2 ⟨rfl,h2⟩))
   go_ret;exact ⟨rfl,h2⟩
  rw [if_neg h121];have q121:((b.toNat:Int) == 121)=false:=An (c:=121) (h121);clear h121;have hX:=fun W1 (h:Dg w p s ext s1 W1)=>Km w p s ext s1 W1 h hs4 hk2 hm3
  clear hG hP hm2 hm3 hk2 hs hs4;go_enter Tryz.func34,Tryz.ntmps34;go_wp2_with (first | (go_at_call 43;refine hA.mono ?_;clear hA;rintro e w1 ⟨rfl,h1⟩;have H1:=Ac8 h1;obtain ⟨ta,tb,ts,pa,pc,ma,mc,h1⟩:=h1;have c13:w1.cell? ⟨p,13,none⟩=some (.int .u8 (b.toNat:Int)):=(h1.q.cell 13).trans (by rw [←HB.out];rfl);clear h1) | (go_at_call 50;refine (hX _ H1.out).mono ?_;clear hX;rintro e w2 ⟨rfl,h2⟩))
  go_ret;exact ⟨rfl,h2⟩
 ·rw [if_neg h1]
  have ce:((e1:Int) != 0)=true:=by simpa using h1
  clear hok hl hk h1 hG hP;go_enter Tryz.func34,Tryz.ntmps34;go_wp2_with (go_at_call 43;refine hA.mono ?_;clear hA;rintro e w1 ⟨rfl,h1⟩)
  go_ret;exact ⟨rfl,h1⟩
end
section
open Go Go.RowKit
theorem WP {ext:Bool} {k:Nat} {q:Grd × List Wm × Nat} (s:ByteArray) (hk:k≤s.size) (h:IW ext s.data.toList k=.ok q):q.2.2≤s.size∧q.2.1.length≤600:=by
 have hnk:∀ {j:Nat} {r:Bool × Nat},j≤s.size→Cw s.data.toList j=.ok r→r.2≤s.size:=fun {j r} hj h=>by
  have h1:=E0 s j hj;unfold Cw at h;split at h
  ·rename_i hh
   have h2:=Gd hh;have h3:=E0 s (Ak s.data.toList j+1) (by omega);split at h
   ·cases h
   ·injection h with h;subst h;exact h3
  ·injection h with h;subst h;exact h1
 unfold IW at h;cases h1:EN ext false s.data.toList k with
 | error q=>rw [h1] at h;cases h
 | ok r=>
  rw [h1] at h;obtain ⟨f1,g1⟩:=MI s hk h1;unfold Ed at h;simp only at h;split at h
  ·unfold G2 F5 at h
   simp only at h;split at h
   ·cases h
   ·rename_i h5
    injection h with h;subst h;exact ⟨hnk f1 h5,by show r.2.1.length≤_;omega⟩
  ·cases h2:BY ext s.data.toList r.2.2 with
   | error q=>rw [h2] at h;cases h
   | ok r2=>
    rw [h2] at h;have hj:r2.2.2≤s.size∧r2.2.1.length≤251:=by
     have hb:=E0 s r.2.2 f1;unfold BY at h2;split at h2
     ·rename_i hh
      have hlt:=Gd hh;have hb2:=E0 s (Ak s.data.toList r.2.2+1) (by omega);unfold Et at h2;split at h2
      ·cases h2
      ·rename_i h3
       split at h2
       ·cases h2
       ·injection h2 with h2
        subst h2;exact MI s hb2 h3
     ·injection h2 with h2
      subst h2;exact ⟨f1,by simp⟩
    unfold F4 G2 F5 at h;simp only at h;split at h
    ·cases h
    ·rename_i h5
     injection h with h;subst h;exact ⟨hnk hj.1 h5,by show (r.2.1++r2.2.1).length≤_;rw [Adh];omega⟩
abbrev E1 (c:Cmd) (ta tb ts pv:Value):Array Value:=
 #[.int .i64 (c.pl:Int),.int .i64 (c.g.a.kind:Int),.int .i64 (c.g.a.line:Int),.string (txt c.g.a.text),ta,.int .i64 (c.g.b.kind:Int),.int .i64 (c.g.b.line:Int),.string (txt c.g.b.text),tb,.bool c.g.no,.int .u8 c.name.toNat,.string (txt c.arg),.string (txt c.sub.text),ts,pv,.int .i64 (c.sub.nth:Int),.bool c.sub.all,.bool c.sub.prt,.string (txt c.sub.file),.string (txt c.table)]
abbrev D7:Array Value:=
 #[.int .i64 0,.int .i64 0,.int .i64 0,.string ⟨#[]⟩,.nilIface,.int .i64 0,.int .i64 0,.string ⟨#[]⟩,.nilIface,.bool false,.int .u8 0,.string ⟨#[]⟩,.string ⟨#[]⟩,.nilIface,.slice none 0 0,.int .i64 0,.bool false,.bool false,.string ⟨#[]⟩,.string ⟨#[]⟩]
def TK (w:World) (r:BG Cmd) (e:Ending) (w':World):Prop:=Below w.heap.size w w'∧match r with
 | .error q=>e=.returned (.tuple #[.agg D7,.slice none 0 0,.int .i64 (q.2:Int),.int .i64 (q.1:Int)])
 | .ok q=>∃ ta tb ts pa pc ma mc,e=.returned (.tuple #[.agg (E1 q.1 ta tb ts (.slice pa q.1.sub.parts.length pc)),.slice ma q.2.1.length mc,.int .i64 (q.2.2:Int),.int .i64 0])∧
  TrO (fun b=>w.heap.size≤b) w' q.1.g.a.tree ta∧TrO (fun b=>w.heap.size≤b) w' q.1.g.b.tree tb∧TrO (fun b=>w.heap.size≤b) w' q.1.sub.tree ts∧
  w'.ownsRow w.heap.size 74 2 (.slice pa q.1.sub.parts.length pc) q.1.sub.parts.length (cpC q.1.sub.parts)∧
  w'.ownsRow w.heap.size 33 2 (.slice ma q.2.1.length mc) q.2.1.length (wmC q.2.1)
theorem CmSt.fin {w W:World} {p:Nat} {s:ByteArray} {ext:Bool} {st:CS} {ta tb ts:Value} {pa:Option Addr} {pc:Nat} {ma:Option Addr} {mc:Nat} {w5 W9:World} (h:CmSt W p s ext st ta tb ts pa pc ma mc w5) (hw:w.heap.size < W.heap.size) (hb:Below w.heap.size w W9) (hs:∀ b,b≠w.heap.size→W9.heap[b]?=w5.heap[b]?) (hz:W9.heap.size=w5.heap.size) :
  TK w (.ok (st.c,st.ms,st.k)) (.returned (.tuple #[.agg (E1 st.c ta tb ts (.slice pa st.c.sub.parts.length pc)),.slice ma st.ms.length mc,.int .i64 (st.k:Int),.int .i64 0])) W9:=by
 have hk:∀ {t v},TrO (fun b=>W.heap.size≤b∧b≠p∧(Value.slice ma st.ms.length mc).ownBlock≠some b) w5 t v→TrO (fun b=>w.heap.size≤b) W9 t v:=fun hk=>TrO.keep (by omega) (fun b hb _=>⟨by have:=hb.1;omega,fun o=>Adn (w:=w5) (a:=⟨b,o,none⟩) (hs b (by have:=hb.1;omega))⟩) hk
 exact ⟨hb,ta,tb,ts,pa,pc,ma,mc,rfl,hk h.ha,hk h.hb,hk h.hs,BN (Adj hw) (Aa h.pr fun b e=>hs b (by have:=AN h.pr b e;omega)),BN (Adj hw) (Aa h.r fun b e=>hs b (by have:=AN h.r b e;omega))⟩
theorem I3 {tmps:Array Value} {W:World} {r:Nat} {cs:Array Value} {v7 v8 v9:Value} (h6:tmps.getD 6 undef=.pointer (some ⟨r,0,none⟩)) (h7:tmps.getD 7 undef=v7) (h8:tmps.getD 8 undef=v8) (h9:tmps.getD 9 undef=v9) (hl:(loadVar 47 ⟨r,0,none⟩).run Tryz.prog W=.ok (.agg cs) W) :
  (results Tryz.f24 tmps).run Tryz.prog W=.ok (.tuple #[.agg cs,v7,v8,v9]) W:=by
 have ha:(asAddr (.pointer (some ⟨r,0,none⟩))).run Tryz.prog W=.ok ⟨r,0,none⟩ W:=rfl;simp only [Array.getD_eq_getD_getElem?] at h6 h7 h8 h9;unfold results;rw [Tryz.results24];simp [Sem.run_bind,h6,h7,h8,h9,hl,ha]
theorem Gm {P:Program} {op:Oper} {a:Act} {W:World} (ty:TypeId) (x:Operand) (ho:op.op=.load ty x) (g:Nat) (hx:a.eval x=.pointer (some ⟨g,0,none⟩)) {cs:Array Value} {T:TypeId} (h:Blk W g cs T) {fs:_} (hu:P.underlying ty=some (.struct fs)) (hi:(P.info? ty).map (·.size)=some cs.size) :
  Sem.run P (execOp a.eval op) W=.ok (.value (.agg cs)) W:=by
 unfold execOp;simp only [ho,hx,Instr.loadAt,Instr.sureAddr,Sem.run_bind,Sem.run_pure,Result.andThen_ok,run_loadVar_row W g _ ty cs _ (.struct fs) h hu rfl hi]
theorem Gn {P:Program} {op:Oper} {a:Act} {W:World} (ty:TypeId) (x:Operand) (ho:op.op=.load ty x) (g o n:Nat) (hx:a.eval x=.pointer (some ⟨g,o,none⟩)) {cs:Array Value} {T:TypeId} (h:Blk W g cs T) {fs:_} (hu:P.underlying ty=some (.struct fs)) (hi:(P.info? ty).map (·.size)=some ((cs.toList.drop o).take n).length) :
  Sem.run P (execOp a.eval op) W=.ok (.value (.agg ((cs.toList.drop o).take n).toArray)) W:=by
 have hc:W.rangeAt g o ((cs.toList.drop o).take n):=fun j v hj=>by
  rw [List.getElem?_take] at hj;split at hj
  ·rw [List.getElem?_drop] at hj
   rw [h.cell (o+j),←Array.getElem?_toList];exact hj
  ·cases hj
 unfold execOp;simp only [ho,hx,Instr.loadAt,Instr.sureAddr,Sem.run_bind,Sem.run_pure,Result.andThen_ok,run_loadVar_mid W g o ty _ (.struct fs) hc hu rfl hi]
abbrev gdC (g:Grd) (ta tb:Value):Array Value:=#[.int .i64 (g.a.kind:Int),.int .i64 (g.a.line:Int),.string (txt g.a.text),ta,.int .i64 (g.b.kind:Int),.int .i64 (g.b.line:Int),.string (txt g.b.text),tb,.bool g.no]
structure GxS (W:World) (gx:Nat) (g:Grd) (ms:List Wm) (ta tb:Value) (ma:Option Addr) (mc:Nat) (wx:World):Prop where
 b:Below W.heap.size W wx
 q:Blk wx gx (gdC g ta tb) 42
 ha:TrO (fun b=>W.heap.size≤b∧b < wx.heap.size∧(Value.slice ma ms.length mc).ownBlock≠some b) wx g.a.tree ta
 hb:TrO (fun b=>W.heap.size≤b∧b < wx.heap.size∧(Value.slice ma ms.length mc).ownBlock≠some b) wx g.b.tree tb
 r:wx.ownsRow W.heap.size 33 2 (.slice ma ms.length mc) ms.length (wmC ms)
theorem GxS.mk' {W w1 w2:World} {g:Grd} {ms:List Wm} {ta tb:Value} {ma:Option Addr} {mc:Nat} (b1:Below W.heap.size W w1) (ha:TrO (fun b=>W.heap.size < b∧(Value.slice ma ms.length mc).ownBlock≠some b) w1 g.a.tree ta) (hb:TrO (fun b=>W.heap.size < b∧(Value.slice ma ms.length mc).ownBlock≠some b) w1 g.b.tree tb) (hr:w1.ownsRow (W.heap.size+1) 33 2 (.slice ma ms.length mc) ms.length (wmC ms)) (hW:w1.alloc (.cells (gdC g ta tb) 42)=w2):GxS W w1.heap.size g ms ta tb ma mc w2:=by
 have b2:=Ac hW;have hs:=b2.size;have hk:∀ {t v},TrO (fun b=>W.heap.size < b∧(Value.slice ma ms.length mc).ownBlock≠some b) w1 t v→TrO (fun b=>W.heap.size≤b∧b < w2.heap.size∧(Value.slice ma ms.length mc).ownBlock≠some b) w2 t v:=fun h=>TrO.keep hs (fun b h1 hl=>⟨⟨Adj h1.1,Adi hl hs,h1.2⟩,fun o=>b2.cell (p:=⟨b,o,none⟩) hl⟩) h
 exact ⟨b1.trans (b2.mono b1.size),Ae hW,hk ha,hk hb,Ag (BN (Nat.le_succ _) hr) b2⟩
theorem Zd (s:ByteArray) (ext:Bool) (st:CS) (ta tb ts pv mv:Value) (h1:ta.oneCell'=true) (h2:tb.oneCell'=true) (h3:ts.oneCell'=true) (h4:pv.oneCell'=true) (h5:mv.oneCell'=true):(cmC s ext st ta tb ts pv mv).all (·.oneCell')=true:=by
 unfold cmC;simp only [List.all_toArray,List.all_cons,List.all_nil,h1,h2,h3,h4,h5];rfl
theorem MS (c:Cmd) (ta tb ts pv:Value) (h1:ta.oneCell'=true) (h2:tb.oneCell'=true) (h3:ts.oneCell'=true) (h4:pv.oneCell'=true):(E1 c ta tb ts pv).all (·.oneCell')=true:=by
 simp only [List.all_toArray,List.all_cons,List.all_nil,h1,h2,h3,h4];rfl
theorem AL {v:Value} (h:(∃ T q,v=.iface T q)∨v=.nilIface):v.oneCell'=true:=by
 rcases h with ⟨T,q,rfl⟩ | rfl <;> rfl
theorem GxS.reader {W:World} {gx:Nat} {g:Grd} {ms:List Wm} {ta tb:Value} {ma:Option Addr} {mc:Nat} {wx wy:World} (h:GxS W gx g ms ta tb ma mc wx) (s:ByteArray) (ext:Bool) (k:Nat) {z:Array Value} (hy:wx.alloc (.cells z 79)=wy) :
  CmSt W wx.heap.size s ext (Bc g ms k) ta tb .nilIface none 0 ma mc (wy.setRow wx.heap.size (cmC s ext (Bc g ms k) ta tb .nilIface (.slice none 0 0) (.slice ma ms.length mc))):=by
 have b2:=Ac hy;have q2:=Ae hy;have hs:=b2.size;have hbs:=h.b.size;have o1:∀ b,b≠wx.heap.size→(wy.setRow wx.heap.size (cmC s ext (Bc g ms k) ta tb .nilIface (.slice none 0 0) (.slice ma ms.length mc))).heap[b]?=wy.heap[b]?:=fun b hb=>setRow_other wy _ b _ hb
 have hk:∀ {t v},TrO (fun b=>W.heap.size≤b∧b < wx.heap.size∧(Value.slice ma ms.length mc).ownBlock≠some b) wx t v→TrO (fun b=>W.heap.size≤b∧b≠wx.heap.size∧(Value.slice ma ms.length mc).ownBlock≠some b) (wy.setRow wx.heap.size (cmC s ext (Bc g ms k) ta tb .nilIface (.slice none 0 0) (.slice ma ms.length mc))) t v:=fun h=>TrO.keep (by simp;omega) (fun b h1 hl=>⟨⟨h1.1,by omega,h1.2.2⟩,fun o=>Adn (w:=wx) (a:=⟨b,o,none⟩) ((o1 b (by omega)).trans (b2.block b hl))⟩) h
 have hne:∀ q,(Value.slice ma ms.length mc).ownBlock=some q→q≠wx.heap.size:=fun q e=>Nat.ne_of_lt (AA h.r q e)
 refine ⟨below_setRow (h.b.trans (b2.mono hbs)) hbs _,setRow_heap wy _ _ _ _ _ q2,hbs,hk h.ha,hk h.hb,rfl,Aa (Ag h.r b2) fun b e=>o1 b (hne b e),fun e=>hne _ e rfl,World.ownsRow_nil _ _ _ _,fun b e=>?_⟩;simp [Value.ownBlock] at e
theorem Q8 (ext:Bool) (s:ByteArray) (k:Nat) (w:World) (hs:s.size≤4000) (hk:k≤s.size) (hG:Gl w) (hP:GP w) :
  Calls Tryz.prog 24 #[.string s,.int .i64 (k:Int),.bool ext] w (TK w (MV ext s.data.toList k)):=by
 obtain ⟨W,hW⟩:∃ W,w.alloc (.cells D7 47)=W:=⟨_,rfl⟩;have HA:=Ac8 (Ac hW);have HR0:=Ac8 (Ae hW);have hs4:s.size≤4000000:=by omega
 have hg:=Ty ext s k W hs4 hk (hG.up HA.out) (hP.up HA.out);have hgle:∀ q,IW ext s.data.toList k=.ok q→q.2.2≤s.size∧q.2.1.length≤600:=fun q h=>WP s hk h
 have hgne:∀ q,IW ext s.data.toList k=.error q→q.1≠0:=fun q h=>R4 h
 have HG:=Ac8 (hG.up HA.out);have HP:=Ac8 (hP.up HA.out);unfold MV;generalize IW ext s.data.toList k=R at hg hgle hgne ⊢;unfold D7 at hW;clear hG hP;cases R with
 | error q=>
  obtain ⟨n,p⟩:=q;have hn:n≠0:=hgne _ rfl;have hnn:((n:Int) != 0)=true:=by simp;omega
  show Calls _ _ _ _ (TK w (.error (n,p)));replace hg:Calls Tryz.prog 33 #[.string s,.int .i64 (k:Int),.bool ext] W fun e w'=>GdA W (.error (n,p)) e w':=hg
  simp only [GdA] at hg;clear hgle hgne hn;go_enter Tryz.func24,Tryz.ntmps24;go_upto_region 2 with (go_at_call 33;refine hg.mono ?_;clear hg;rintro e w1 ⟨b1,rfl⟩)
  generalize hW2:w1.alloc _=w2;have b2:=b1.trans ((Ac hW2).mono b1.size);have B2:=Ac8 (HA.out.trans (b2.mono HA.out.size));have K2:=Ac8 (HR0.out.below b2 HR0.out.lt);clear b1 b2 hW2;go_upto_region 3 with fail;have hbz:∀ f:Nat × Operand→Nat × Value,((Tryz.prog.built 47 (Array.map f #[]).toList).getD #[])=D7:=fun f=>by kernel_rfl
  refine wp_region_list ?_;refine wpList_build rfl 47 #[] rfl (by kernel_rfl) ?_;rw [hbz]
  (try simp only [Adc,Adb,Ada,Act.put,Ac9,Zz0,Ade])
  iterate 2 (refine wpList_plain rfl (fun K hK=>?_);go_simp;refine hK _ _ ?_;clear hK K;(try simp only [Adc,Adb,Ada,Act.put,Ac9,Zz0,Ade]))
  refine wpList_store_row rfl 47 _ _ rfl w.heap.size D7 rfl rfl 47 D7 K2.out (by kernel_rfl) rfl (by kernel_rfl) ?_
  (try simp only [Adc,Adb,Ada,Act.put,Ac9,Zz0,Ade])
  have B3:=Ac8 (below_setRow B2.out (Adf w.heap.size) D7);have K3:=Ac8 (setRow_heap w2 w.heap.size _ D7 _ _ K2.out);generalize w2.setRow w.heap.size D7=w3 at B3 K3 ⊢
  iterate 3 (refine wpList_plain rfl (fun K hK=>?_);go_simp;refine hK _ _ ?_;clear hK K;(try simp only [Adc,Adb,Ada,Act.put,Ac9,Zz0,Ade]))
  refine wpList_nil ?_;go_wp2_with fail
  have hl:=run_loadVar_row (P:=Tryz.prog) w3 w.heap.size 47 47 D7 _ _ K3.out Tryz.underlying47 rfl (by kernel_rfl);refine bodyPost_ret (v:=.tuple #[.agg D7,.slice none 0 0,.int .i64 (p:Int),.int .i64 (n:Int)]) (I3 rfl rfl rfl rfl hl) rfl ?_;exact ⟨B3.out,rfl⟩
 | ok q=>
  obtain ⟨g,ms,p⟩:=q;obtain ⟨hpl,hml⟩:=hgle _ rfl;simp only at hpl hml;clear hgle hgne;replace hg:Calls Tryz.prog 33 #[.string s,.int .i64 (k:Int),.bool ext] W fun e w'=>GdA W (.ok (g,ms,p)) e w':=hg
  simp only [GdA] at hg;show Calls _ _ _ _ (TK w (F9 (AM ext s.data.toList (Bc g ms p))));have hC:=fun wx r (h:Dg W r s ext (Bc g ms p) wx)=>WO W r s ext (Bc g ms p) wx h hs hpl (show ms.length≤80000 by omega) HG.out HP.out
  obtain ⟨⟨e1,st1⟩,hR⟩:∃ R,AM ext s.data.toList (Bc g ms p)=R:=⟨_,rfl⟩;rw [hR] at hC ⊢;simp only at hC;obtain ⟨A,hA⟩:∃ A,F9 (e1,st1)=A:=⟨_,rfl⟩;rw [hA];have HANS:=Ac8 hA;clear hA hR hpl hml;go_enter Tryz.func24,Tryz.ntmps24;go_upto_region 1 with fail;go_cut [1,10,11,12] (fun s1 s10 s11 s12 wx=>∃ gx ta tb ma mc,s1=.int .i64 (p:Int)∧s10=.pointer (some ⟨gx,0,none⟩)∧s11=.slice ma ms.length mc∧s12=.int .i64 0∧GxS W gx g ms ta tb ma mc wx)
  case first=>
   go_upto_region 2 with (go_at_call 33;refine hg.mono ?_;clear hg;rintro e w1 ⟨b1,ta,tb,ma,mc,rfl,hta,htb,hr⟩;have hsa:=hta.shape;have hsb:=htb.shape;have HTA:=Ac8 hta;have HTB:=Ac8 htb;have HR:=Ac8 hr;have B1:=Ac8 b1;clear hta htb hr b1;rcases hsa with ⟨T8,q8,rfl⟩ | rfl <;> rcases hsb with ⟨T9,q9,rfl⟩ | rfl)
   all_goals
    go_meet;exact ⟨_,_,_,ma,mc,rfl,rfl,rfl,rfl,GxS.mk' B1.out HTA.out HTB.out HR.out rfl⟩
  case rest=>
   obtain ⟨gx,ta,tb,ma,mc,rfl,rfl,rfl,rfl,hx⟩:=hcut;have HX:=Ac8 hx;clear hx hg;go_upto_region 4 with fail;refine wp_region_list ?_
   iterate 4 (refine wpList_plain rfl (fun K hK=>?_);go_simp;refine hK _ _ ?_;clear hK K;(try simp only [Adc,Adb,Ada,Act.put,Ac9,Zz0,Ade]))
   refine wpList_load_row rfl 42 _ rfl gx rfl 42 (gdC g ta tb) _ _ HX.out.q Tryz.underlying42 rfl (by kernel_rfl) ?_
   (try simp only [Adc,Adb,Ada,Act.put,Ac9,Zz0,Ade])
   refine wpList_build rfl 47 _ rfl (by kernel_rfl) ?_;generalize hB:Option.getD _ #[]=B;have hB2:B=E1 (Bc g ms p).c ta tb .nilIface (.slice none 0 0):=by rw [←hB];kernel_rfl
   subst hB2;clear hB
   (try simp only [Adc,Adb,Ada,Act.put,Ac9,Zz0,Ade])
   refine wpList_plain rfl (fun K hK=>?_);go_simp;refine hK _ _ ?_;clear hK K;(try simp only [Adc,Adb,Ada,Act.put,Ac9,Zz0,Ade]);refine wpList_build rfl 79 _ rfl (by kernel_rfl) ?_;generalize hB:Option.getD _ #[]=B;have hB2:B=cmC s ext (Bc g ms p) ta tb .nilIface (.slice none 0 0) (.slice ma ms.length mc):=by rw [←hB];kernel_rfl
   subst hB2;clear hB
   (try simp only [Adc,Adb,Ada,Act.put,Ac9,Zz0,Ade])
   refine wpList_plain rfl (fun K hK=>?_);go_simp;generalize hA:wc.alloc _=wy;refine hK _ _ ?_;clear hK K
   (try simp only [Adc,Adb,Ada,Act.put,Ac9,Zz0,Ade])
   refine wpList_store_row rfl 79 _ _ rfl (World.heap wc).size (cmC s ext (Bc g ms p) ta tb .nilIface (.slice none 0 0) (.slice ma ms.length mc)) rfl rfl 79 _ (Ae hA) (by kernel_rfl) rfl (Zd _ _ _ _ _ _ _ _ (AL HX.out.ha.shape) (AL HX.out.hb.shape) rfl rfl rfl) ?_
   (try simp only [Adc,Adb,Ada,Act.put,Ac9,Zz0,Ade])
   refine wpList_nil ?_;have H4:=Ac8 (HX.out.reader s ext p hA);have hne:(World.heap wc).size≠w.heap.size:=by have:=HA.out.size;have:=HX.out.b.size;have:=HR0.out.lt;omega
   have Hne:=Ac8 hne;obtain ⟨r,hr⟩:∃ r,(World.heap wc).size=r:=⟨_,rfl⟩;rw [hr] at H4 Hne ⊢;generalize wy.setRow r _=wz at H4 ⊢;clear hA hr hne HX;have hC2:=hC wz r H4.out.R;go_upto_region 6 with (go_at_call 34;refine hC2.mono ?_;clear hC2;rintro e w5 ⟨rfl,h5⟩)
   obtain ⟨ta,tb,ts,pa,pc,ma,mc,h5⟩:=h5;have H5:=Ac8 h5;clear h5 H4 hC;have hmix:Tryz.prog.follows .mixedOrders=true:=by kernel_rfl
   have hgw:w.heap.size < W.heap.size:=HR0.out.lt;have K5:=HR0.out.below H5.out.b0 hgw;have B5:=Ac8 (HA.out.trans (H5.out.b0.mono (Adj hgw)));by_cases he:e1=0
   ·subst he
    obtain rfl:(.ok (st1.c,st1.ms,st1.k):BG Cmd)=A:=HANS.out;go_upto_region 8 with fail;refine wp_region_held_drew (S:=fun W':World=>Blk W' r (cmC s ext st1 ta tb ts (.slice pa st1.c.sub.parts.length pc) (.slice ma st1.ms.length mc)) 79) hmix H5.out.q (fun hHeld=>?_);refine AD 0 (.pointer (some ⟨r,3,none⟩)) rfl hHeld (Or.inl ⟨by rfl,?_⟩) ?_;(focus (intro W' hSw;go_simp));(try simp only [Adc,Adb,Ada,Act.put,Ac9,Zz0,Ade]);refine AD 1 (.agg (E1 st1.c ta tb ts (.slice pa st1.c.sub.parts.length pc))) rfl hHeld (Or.inl ⟨by rfl,?_⟩) ?_
    ·intro W' hSw
     exact Gn 47 _ rfl r 3 20 rfl hSw Tryz.underlying47 (by kernel_rfl)
    (try simp only [Adc,Adb,Ada,Act.put,Ac9,Zz0,Ade])
    refine AD 2 (.pointer (some ⟨r,23,none⟩)) rfl hHeld (Or.inl ⟨by rfl,?_⟩) ?_;(focus (intro W' hSw;go_simp));(try simp only [Adc,Adb,Ada,Act.put,Ac9,Zz0,Ade]);refine AD 3 (.slice ma st1.ms.length mc) rfl hHeld (Or.inl ⟨by rfl,?_⟩) ?_;(focus (intro W' hSw;(have c23:W'.cell? ⟨r,23,none⟩=some (.slice ma st1.ms.length mc):=(hSw.cell 23).trans rfl);clear hSw;go_simp));(try simp only [Adc,Adb,Ada,Act.put,Ac9,Zz0,Ade]);refine AD 4 (.pointer (some ⟨r,2,none⟩)) rfl hHeld (Or.inl ⟨by rfl,?_⟩) ?_;(focus (intro W' hSw;go_simp));(try simp only [Adc,Adb,Ada,Act.put,Ac9,Zz0,Ade]);refine AD 5 (.int .i64 (st1.k:Int)) rfl hHeld (Or.inl ⟨by rfl,?_⟩) ?_;(focus (intro W' hSw;(have c2:W'.cell? ⟨r,2,none⟩=some (.int .i64 (st1.k:Int)):=(hSw.cell 2).trans rfl);clear hSw;go_simp));(try simp only [Adc,Adb,Ada,Act.put,Ac9,Zz0,Ade]);refine wpAnyH_ready (rs:=[6]) (by kernel_rfl) (by simp) ?_;refine AllReadyH.cons rfl (fun K hK=>?_) AllReadyH.nil;rw [if_pos (by rfl)];refine wp_store_row 47 _ _ rfl w.heap.size (E1 st1.c ta tb ts (.slice pa st1.c.sub.parts.length pc)) rfl rfl 47 D7 K5 (by kernel_rfl) rfl (MS _ _ _ _ _ (AL H5.out.ha.shape) (AL H5.out.hb.shape) (AL H5.out.hs.shape) rfl) ?_;refine hK.out _ _ ((setRow_other _ w.heap.size r _ Hne.out).trans H5.out.q) (fun hHeld=>?_);clear hK K
    (try simp only [Adc,Adb,Ada,Act.put,Ac9,Zz0,Ade])
    refine AD 7 (.slice ma st1.ms.length mc) rfl hHeld (Or.inl ⟨by rfl,?_⟩) ?_;(focus (intro W' hSw;go_simp));(try simp only [Adc,Adb,Ada,Act.put,Ac9,Zz0,Ade]);refine AD 8 (.int .i64 (st1.k:Int)) rfl hHeld (Or.inl ⟨by rfl,?_⟩) ?_;(focus (intro W' hSw;go_simp));(try simp only [Adc,Adb,Ada,Act.put,Ac9,Zz0,Ade]);refine AD 9 (.int .i64 0) rfl hHeld (Or.inl ⟨by rfl,?_⟩) ?_;(focus (intro W' hSw;go_simp));(try simp only [Adc,Adb,Ada,Act.put,Ac9,Zz0,Ade]);refine wpAnyH_done (by kernel_rfl) ?_ _
    (try go_wp2_with fail)
    have hl:=run_loadVar_row (P:=Tryz.prog) _ w.heap.size 47 47 _ _ _ (setRow_heap w5.drew w.heap.size _ (E1 st1.c ta tb ts (.slice pa st1.c.sub.parts.length pc)) _ _ K5) Tryz.underlying47 rfl (by kernel_rfl);refine bodyPost_ret (I3 rfl rfl rfl rfl hl) rfl ?_;exact H5.out.fin hgw (below_setRow (Below.drew B5.out) (Adf _) _) (fun b hb=>setRow_other w5.drew _ b _ hb) (by simp)
   ·have ce:((e1:Int) != 0)=true:=by simpa using he
    obtain rfl:(.error (e1,st1.k):BG Cmd)=A:=by rw [←HANS.out];unfold F9;rw [if_neg he]
    clear he;go_upto_region 7 with fail;refine wp_region_held_drew (S:=fun W':World=>Blk W' r (cmC s ext st1 ta tb ts (.slice pa st1.c.sub.parts.length pc) (.slice ma st1.ms.length mc)) 79) hmix H5.out.q (fun hHeld=>?_);refine AD 0 (.agg D7) rfl hHeld (Or.inl ⟨by rfl,?_⟩) ?_;(focus (intro W' hSw;kernel_rfl));(try simp only [Adc,Adb,Ada,Act.put,Ac9,Zz0,Ade]);refine AD 1 (.pointer (some ⟨r,2,none⟩)) rfl hHeld (Or.inl ⟨by rfl,?_⟩) ?_;(focus (intro W' hSw;go_simp));(try simp only [Adc,Adb,Ada,Act.put,Ac9,Zz0,Ade]);refine AD 2 (.int .i64 (st1.k:Int)) rfl hHeld (Or.inl ⟨by rfl,?_⟩) ?_;(focus (intro W' hSw;(have c2:W'.cell? ⟨r,2,none⟩=some (.int .i64 (st1.k:Int)):=(hSw.cell 2).trans rfl);clear hSw;go_simp));(try simp only [Adc,Adb,Ada,Act.put,Ac9,Zz0,Ade]);refine AD 3 (.int .i64 (e1:Int)) rfl hHeld (Or.inl ⟨by rfl,?_⟩) ?_;(focus (intro W' hSw;go_simp));(try simp only [Adc,Adb,Ada,Act.put,Ac9,Zz0,Ade]);refine wpAnyH_ready (rs:=[4]) (by kernel_rfl) (by simp) ?_;refine AllReadyH.cons rfl (fun K hK=>?_) AllReadyH.nil;rw [if_pos (by rfl)];refine wp_store_row 47 _ _ rfl w.heap.size D7 rfl rfl 47 D7 K5 (by kernel_rfl) rfl (by kernel_rfl) ?_;refine hK.out _ _ ((setRow_other _ w.heap.size r _ Hne.out).trans H5.out.q) (fun hHeld=>?_);clear hK K
    (try simp only [Adc,Adb,Ada,Act.put,Ac9,Zz0,Ade])
    refine AD 5 (.slice none 0 0) rfl hHeld (Or.inl ⟨by rfl,?_⟩) ?_;(focus (intro W' hSw;go_simp));(try simp only [Adc,Adb,Ada,Act.put,Ac9,Zz0,Ade]);refine AD 6 (.int .i64 (st1.k:Int)) rfl hHeld (Or.inl ⟨by rfl,?_⟩) ?_;(focus (intro W' hSw;go_simp));(try simp only [Adc,Adb,Ada,Act.put,Ac9,Zz0,Ade]);refine AD 7 (.int .i64 (e1:Int)) rfl hHeld (Or.inl ⟨by rfl,?_⟩) ?_;(focus (intro W' hSw;go_simp));(try simp only [Adc,Adb,Ada,Act.put,Ac9,Zz0,Ade]);refine wpAnyH_done (by kernel_rfl) ?_ _
    (try go_wp2_with fail)
    have hl:=run_loadVar_row (P:=Tryz.prog) _ w.heap.size 47 47 _ _ _ (setRow_heap w5.drew w.heap.size _ D7 _ _ K5) Tryz.underlying47 rfl (by kernel_rfl);refine bodyPost_ret (I3 rfl rfl rfl rfl hl) rfl ?_;exact ⟨below_setRow (Below.drew B5.out) (Adf _) _,rfl⟩
end
section
open Go Go.RowKit
theorem Ze {w:World} {B n c:Nat} {T:TypeId} {a:Option Addr} {l:List Cp} (h:w.ownsRow B T 2 (.slice a n c) n (cpC l)) (h0:0 < l.length):∃ q,a=some ⟨q,0,none⟩∧B≤q∧q < w.heap.size∧∀ j v,(cpC l)[j]?=some v→w.cell? ⟨q,j,none⟩=some v:=by
 have hl:∀ l:List Cp,(cpC l).length=2 * l.length:=fun l=>by
  induction l with
  | nil=>rfl
  | cons c l ih=>rw [show cpC (c :: l)=[.int .i64 c.1,.string (txt c.2)]++cpC l from rfl,Adh,ih,List.length_cons];simp;omega
 have hn:n=l.length:=by have:=h.1;rw [hl] at this;omega
 rcases h.2 with ⟨h1,h2⟩ | ⟨g,cap,cur,h1,hB,hg,hc1,hc2,_,ht⟩
 ·omega
 ·injection h1 with h1 h2 h3
  refine ⟨g,h1,hB,(Array.getElem?_eq_some_iff.1 hg).1,fun j v hh=>?_⟩;rw [←ht,List.getElem?_take] at hh;split at hh
  ·simp only [World.cell?,hg]
   rw [Array.getElem?_toList] at hh;simpa using hh
  ·cases hh
theorem WQ {w1 wy:World} {cs:Array Value} (hA:w1.alloc (.cells D7 47)=wy):Below w1.heap.size w1 (wy.setRow w1.heap.size cs)∧Blk (wy.setRow w1.heap.size cs) w1.heap.size cs 47:=
 ⟨below_setRow (Ac hA) (Adf _) _,setRow_heap wy _ _ _ _ _ (Ae hA)⟩
end
section
open Go Go.RowKit
def KM (w:World) (a:Option Addr) (ps:List Cp):Prop:=0 < ps.length→ps.length≤maxLen∧∃ q,a=some ⟨q,0,none⟩∧q < w.heap.size∧∀ j v,(cpC ps)[j]?=some v→w.cell? ⟨q,j,none⟩=some v
theorem KM.below {w w':World} {a:Option Addr} {ps:List Cp} (h:KM w a ps) (hb:Below w.heap.size w w'):KM w' a ps:=fun h0=>by
 obtain ⟨hm,q,ha,hl,hc⟩:=h h0;exact ⟨hm,q,ha,Adi hl hb.size,fun j v hj=>(hb.cell (p:=⟨q,j,none⟩) hl).trans (hc j v hj)⟩
theorem Zf {w:World} {B n c:Nat} {T:TypeId} {a:Option Addr} {l:List Cp} (h:w.ownsRow B T 2 (.slice a n c) n (cpC l)) (h0:0 < l.length):l.length≤maxLen:=by
 have hl:∀ l:List Cp,(cpC l).length=2 * l.length:=fun l=>by
  induction l with
  | nil=>rfl
  | cons c l ih=>rw [show cpC (c :: l)=[.int .i64 c.1,.string (txt c.2)]++cpC l from rfl,Adh,ih,List.length_cons];simp;omega
 have hn:n=l.length:=by have:=h.1;rw [hl] at this;omega
 rcases h.2 with ⟨_,h2⟩ | ⟨g,cap,cur,h1,_,_,hc1,hc2,_⟩
 ·omega
 ·omega
theorem WR:∀ (ps:List Cp) (j:Nat) (h:j < ps.length),(cpC ps)[j * 2]?=some (.int .i64 ps[j].1)∧(cpC ps)[j * 2+1]?=some (.string (txt ps[j].2))
 | c :: ps,0,h=>⟨rfl,rfl⟩
 | c :: ps,j+1,h=>by
  have ih:=WR ps j (by simpa using h);rw [show cpC (c :: ps)=.int .i64 c.1 :: .string (txt c.2) :: cpC ps from rfl,show (j+1) * 2=j * 2+1+1 by omega];exact ih
theorem Zg (ps:List Cp) (pa pb:Option Addr) (c1 c2:Nat) (w:World) (h1:KM w pa ps) (h2:KM w pb ps) :
  Calls Tryz.prog 29 #[.slice pa ps.length c1,.slice pb ps.length c2] w fun e w'=>e=.returned (.bool true)∧Below w.heap.size w w':=by
 have H1:=Ac8 h1;have H2:=Ac8 h2;clear h1 h2;go_enter Tryz.func29,Tryz.ntmps29;go_wp2_with fail
 go_loopw [13] (fun i wr=>∃ j:Nat,j≤ps.length∧i=.int .i64 j∧Below w.heap.size w wr) (fun i _=>ps.length - (intOf i).toNat)
 case atStart=>exact ⟨0,by omega,rfl,Adk _ _⟩
 case round=>
  obtain ⟨j,hj,rfl,hb⟩:=hrel;have HB:=Ac8 hb;clear hb;by_cases hlt:j < ps.length
  ·have hji:(j:Int) < (ps.length:Int):=by omega
   have hy0:(0:Int)≤(j:Int):=by omega
   obtain ⟨hmx,q1,rfl,_,k1⟩:=(H1.out.below HB.out) (by omega);have Wj:IntKind.i64.wrap ((j:Int)+1)=(j:Int)+1:=Adm _ (by unfold maxLen at hmx;omega);obtain ⟨_,q2,rfl,_,k2⟩:=(H2.out.below HB.out) (by omega);obtain ⟨e1,e2⟩:=WR ps j hlt;have a1:=k1 _ _ e1;have a2:=k1 _ _ e2;have b1:=k2 _ _ e1;have b2:=k2 _ _ e2;generalize txt ps[j].2=S at a2 b2;generalize ps[j].1=N at a1 b1;clear k1 k2 e1 e2;go_upto_region 6 with fail
   go_quiet (fail)
   generalize nq=n1;have HB2:=Ac8 (below_drewN HB.out n1);clear a1 a2 b1 b2;go_wp2_with fail
   go_roundw
   case rel=>exact ⟨j+1,by omega,by go_num,HB2.out⟩
   case measure=>simp [intOf];omega
  ·obtain rfl:j=ps.length:=by omega
   go_wp2_with fail
   go_ret;exact ⟨rfl,HB.out⟩
theorem WS {F:Nat→Prop} {w:World}:∀ {t:Option Nd} {v:Value},TrO F w t v→NdX F w (t.getD .empty) v
 | none,_,h=>⟨1,.inr h⟩
 | some _,_,h=>h
theorem Z8 {w:World} {b:Nat} {T:TypeId} {v0 v1 v2 v3 v4 v5 v6:Value} (h:Blk w b #[v0,v1,v2,v3,v4,v5,v6] T) :
  (w.cell? ⟨b,1,none⟩=some v1∧w.cell? ⟨b,2,none⟩=some v2∧w.cell? ⟨b,3,none⟩=some v3∧w.cell? ⟨b,4,none⟩=some v4∧w.cell? ⟨b,5,none⟩=some v5∧w.cell? ⟨b,6,none⟩=some v6)∧b < w.heap.size:=
 ⟨⟨(h.cell 1).trans rfl,(h.cell 2).trans rfl,(h.cell 3).trans rfl,(h.cell 4).trans rfl,(h.cell 5).trans rfl,(h.cell 6).trans rfl⟩,h.lt⟩
theorem WT (b:Sb) (ts tu:Value) (pa pb:Option Addr) (c1 c2:Nat) (w:World) (hts:TrO (fun b=>b < w.heap.size) w b.tree ts) (htu:TrO (fun b=>b < w.heap.size) w b.tree tu) (hf:Au (b.tree.getD .empty)≤4000000) (h1:KM w pa b.parts) (h2:KM w pb b.parts) :
  Calls Tryz.prog 20 #[.agg #[.string (txt b.text),ts,.slice pa b.parts.length c1,.int .i64 (b.nth:Int),.bool b.all,.bool b.prt,.string (txt b.file)],.agg #[.string (txt b.text),tu,.slice pb b.parts.length c2,.int .i64 (b.nth:Int),.bool b.all,.bool b.prt,.string (txt b.file)]] w fun e w'=>e=.returned (.bool true)∧Below w.heap.size w w':=by
 have hE:=fun W (hb:Below w.heap.size w W)=>Zg b.parts pa pb c1 c2 W (h1.below hb) (h2.below hb)
 have hS:=fun W (hb:Below w.heap.size w W)=>LC (b.tree.getD .empty) (b.tree.getD .empty) ts tu W (WS (D6 hb hts)) (WS (D6 hb htu)) hf
 rw [DQ] at hS;have s1:=hts.shape;have s2:=htu.shape;clear hts htu hf h1 h2;generalize txt b.text=T at hE hS ⊢;generalize txt b.file=U at hE hS ⊢;generalize b.parts.length=n at hE ⊢;generalize (b.nth:Int)=k;generalize b.all=x1;generalize b.prt=x2;rcases s1 with ⟨T8,q8,rfl⟩ | rfl <;> rcases s2 with ⟨T9,q9,rfl⟩ | rfl
 all_goals
  go_enter Tryz.func20,Tryz.ntmps20;go_upto_region 1 with fail;generalize hW1:w.alloc _=W1;generalize hW2:W1.alloc _=W2;have hX:=(Ae hW1).below (Ac hW2) (Ae hW1).lt;have hY:=Ae hW2;have B2:=Ac8 ((Ac hW1).trans ((Ac hW2).mono (Ac hW1).size));have hp:W1.heap.size=w.heap.size+1:=by rw [←hW1];exact World.size_alloc _ _
  rw [hp] at hY;clear hp;generalize w.heap.size+1=p at hY ⊢;obtain ⟨⟨x1',x2',x3',x4',x5',x6'⟩,hxl⟩:=Z8 hX;obtain ⟨⟨y1',y2',y3',y4',y5',y6'⟩,hyl⟩:=Z8 hY;have HX:=Ac8 hX;have HY:=Ac8 hY;clear hX hY hW1 hW2;go_wp2_with (first
   | (go_at_call 28;refine (hS _ B2.out).mono ?_;rintro e w3 ⟨rfl,b3⟩;have B3:=Ac8 (B2.out.trans (b3.mono B2.out.size));(have u2:=(b3.cell (p:=⟨w.heap.size,2,none⟩) hxl).trans x2');(have v2:=(b3.cell (p:=⟨p,2,none⟩) hyl).trans y2');clear b3 hS)
   | (go_at_call 29;refine (hE _ B3.out).mono ?_;rintro e w4 ⟨rfl,b4⟩))
  go_ret;exact ⟨rfl,B3.out.trans (b4.mono B3.out.size)⟩
end
section
open Go Go.RowKit
structure CV where
 c:Cmd
 ta:Value
 tb:Value
 ts:Value
 pa:Option Addr
 pc:Nat
def CV.cells (v:CV):Array Value:=E1 v.c v.ta v.tb v.ts (.slice v.pa v.c.sub.parts.length v.pc)
structure CV.ok (F:Nat→Prop) (w:World) (v:CV):Prop where
 a:TrO F w v.c.g.a.tree v.ta
 b:TrO F w v.c.g.b.tree v.tb
 s:TrO F w v.c.sub.tree v.ts
 p:0 < v.c.sub.parts.length→v.c.sub.parts.length≤maxLen∧∃ q,v.pa=some ⟨q,0,none⟩∧F q∧q < w.heap.size∧∀ j u,(cpC v.c.sub.parts)[j]?=some u→w.cell? ⟨q,j,none⟩=some u
theorem CV.ok.keep {F G:Nat→Prop} {w w':World} {v:CV} (h:v.ok F w) (hz:w.heap.size≤w'.heap.size) (hk:∀ b,F b→b < w.heap.size→G b∧w'.heap[b]?=w.heap[b]?):v.ok G w':=by
 have ht:∀ {t:Option Nd} {x:Value},TrO F w t x→TrO G w' t x:=fun k=>TrO.keep hz (fun b hb hl=>⟨(hk b hb hl).1,fun o=>Adn (w:=w) (a:=⟨b,o,none⟩) (hk b hb hl).2⟩) k
 refine ⟨ht h.a,ht h.b,ht h.s,fun h0=>?_⟩;obtain ⟨hm,q,ha,hf,hl,hc⟩:=h.p h0;exact ⟨hm,q,ha,(hk q hf hl).1,Adi hl hz,fun j u hj=>(Adn (w:=w) (a:=⟨q,j,none⟩) (hk q hf hl).2).trans (hc j u hj)⟩
theorem CV.ok.prow {F:Nat→Prop} {w:World} {v:CV} (h:v.ok F w):KM w v.pa v.c.sub.parts:=fun h0=>by
 obtain ⟨hm,q,ha,_,hl,hc⟩:=h.p h0;exact ⟨hm,q,ha,hl,hc⟩
def opC (l:List Nat):List Value:=l.map fun (n:Nat)=>.int .i64 (n:Int)
structure RV where
 st:SS
 ls:List (List UInt8)
 vs:List CV
 ca:Option Addr
 cc:Nat
 ma:Option Addr
 mc:Nat
 oa:Option Addr
 oc:Nat
abbrev RV.cv (r:RV):Value:=.slice r.ca r.vs.length r.cc
abbrev RV.mv (r:RV):Value:=.slice r.ma r.st.ms.length r.mc
abbrev RV.ov (r:RV):Value:=.slice r.oa r.st.op.length r.oc
def RV.own (r:RV) (p mp:Nat):List (Option Nat):=[some p,some mp,r.cv.ownBlock,r.mv.ownBlock,r.ov.ownBlock]
def Apart (l:List (Option Nat)):Prop:=l.Pairwise fun a b=>a=none∨a≠b
def RV.fr (r:RV) (B p mp b:Nat):Prop:=B≤b∧some b ∉ r.own p mp
theorem Apart.put {l k:List (Option Nat)} {x y:Option Nat} (h:Apart (l++x :: k)) (n:Nat) (hy:y=x∨y=some n) (hn:∀ b,some b∈l++k→b < n):Apart (l++y :: k):=by
 rcases hy with rfl | rfl
 ·exact h
 unfold Apart at h ⊢;rw [List.pairwise_append,List.pairwise_cons] at h ⊢;obtain ⟨h1,⟨h2,h3⟩,h4⟩:=h;refine ⟨h1,⟨fun b hb=>.inr fun e=>?_,h3⟩,fun a ha b hb=>?_⟩
 ·have:=hn n (by rw [e];exact List.mem_append_right _ hb)
  omega
 ·rcases Ado.1 hb with rfl | hb
  ·cases a with
   | none=>exact .inl rfl
   | some a=>exact .inr fun e=>by injection e with e;have:=hn a (List.mem_append_left _ ha);omega
  ·exact h4 a ha b (List.mem_cons_of_mem _ hb)
def LabAt (w:World) (b:Nat) (ls:List (List UInt8)):Prop:=∃ (n:Nat) (D:DataW Unit),n≤ls.length∧w.ownsMap Tryz.prog 9 (plainElem Tryz.prog 3) b n D∧∀ x:List UInt8,D.atKey (.string x) (.lit (.int .i64 0))=.lit (.int .i64 (if x∈ls then 1 else 0))
theorem LabAt.same {w w':World} {b:Nat} {ls:List (List UInt8)} (h:LabAt w b ls) (hs:w'.heap[b]?=w.heap[b]?):LabAt w' b ls:=by
 obtain ⟨n,D,hn,⟨es,clock,hb,F,hz,hD⟩,ha⟩:=h;exact ⟨n,D,hn,⟨es,clock,hs.trans hb,F,hz,hD⟩,ha⟩
theorem LabAt.put {w':World} {b n:Nat} {ls:List (List UInt8)} {D:DataW Unit} {x:List UInt8} (hn:n≤ls.length) (hD:Go.Maps.IsMap D) (ha:∀ x:List UInt8,D.atKey (.string x) (.lit (.int .i64 0))=.lit (.int .i64 (if x∈ls then 1 else 0))) (h:w'.ownsMap Tryz.prog 9 (plainElem Tryz.prog 3) b (n+1) (D.put (.string x) (.lit (.int .i64 1)))):LabAt w' b (ls++[x]):=by
 refine ⟨n+1,_,by simp;omega,h,fun y=>?_⟩;by_cases e:y=x
 ·subst e
  rw [Maps.atKey_put_same hD (by simp [WideAt.IsKeyLit])];simp
 ·rw [Maps.atKey_put_other (by intro h;injection h with h;exact e h),ha y]
  simp [e]
structure ScR (W:World) (p mp:Nat) (r:RV) (w:World):Prop where
 b0:Below W.heap.size W w
 pB:W.heap.size≤p
 mB:W.heap.size≤mp
 pl:p < w.heap.size
 ap:Apart (r.own p mp)
 cs:r.vs.map (·.c)=r.st.cs
 cr:w.ownsRow W.heap.size 47 20 r.cv r.vs.length (r.vs.flatMap fun v=>v.cells.toList)
 mr:w.ownsRow W.heap.size 33 2 r.mv r.st.ms.length (wmC r.st.ms)
 or:w.ownsRow W.heap.size 3 1 r.ov r.st.op.length (opC r.st.op)
 la:LabAt w mp r.ls
 ok:∀ v∈r.vs,v.ok (r.fr W.heap.size p mp) w
variable {W w w':World} {p mp:Nat} {r r':RV}
theorem ScR.lt (h:ScR W p mp r w) {b:Nat} (hb:some b∈r.own p mp):W.heap.size≤b∧b < w.heap.size:=by
 simp only [RV.own,Ado,Option.some.injEq,List.not_mem_nil,or_false] at hb;rcases hb with rfl | rfl | hb | hb | hb
 ·exact ⟨h.pB,h.pl⟩
 ·exact ⟨h.mB,by obtain ⟨n,D,_,h1,_⟩:=h.la;exact h1.lt⟩
 ·exact ⟨AN h.cr _ hb.symm,AA h.cr _ hb.symm⟩
 ·exact ⟨AN h.mr _ hb.symm,AA h.mr _ hb.symm⟩
 ·exact ⟨AN h.or _ hb.symm,AA h.or _ hb.symm⟩
theorem ScR.turn (h:ScR W p mp r w) {x:Option Nat} (hg:w.grownBy w' x) (hx:∀ b,x=some b→some b∈r.own p mp) (ap:Apart (r'.own p mp)) (hn:∀ b,some b∈r'.own p mp→some b∈r.own p mp∨w.heap.size≤b)
  (cs:r'.vs.map (·.c)=r'.st.cs) (cr:w'.ownsRow W.heap.size 47 20 r'.cv r'.vs.length (r'.vs.flatMap fun v=>v.cells.toList)) (mr:w'.ownsRow W.heap.size 33 2 r'.mv r'.st.ms.length (wmC r'.st.ms))
  (or:w'.ownsRow W.heap.size 3 1 r'.ov r'.st.op.length (opC r'.st.op)) (la:LabAt w' mp r'.ls) (ok:∀ v∈r'.vs,v∈r.vs∨v.ok (r.fr W.heap.size p mp) w):ScR W p mp r' w':=by
 refine ⟨h.b0.grown hg h.b0.size fun b hb=>(h.lt (hx b hb)).1,h.pB,h.mB,Adi h.pl hg.size,ap,cs,cr,mr,or,la,fun v hv=>?_⟩;have hk:v.ok (r.fr W.heap.size p mp) w:=(ok v hv).elim (h.ok v) id;exact hk.keep hg.size fun b hb hl=>⟨⟨hb.1,fun hm=>(hn b hm).elim hb.2 fun e=>by omega⟩,hg.block b hl fun e=>hb.2 (hx b e.symm)⟩
theorem Zh {a b:Nat} {c d e:Option Nat} (h:Apart [some a,some b,c,d,e]):a≠b∧(c≠some a∧d≠some a∧e≠some a)∧(c≠some b∧d≠some b∧e≠some b)∧(∀ x,c=some x→d≠some x∧e≠some x)∧∀ x,d=some x→e≠some x:=by
 simp only [Apart,List.pairwise_cons,Ado,List.not_mem_nil,or_false,forall_eq_or_imp,forall_eq,reduceCtorEq,false_or] at h;obtain ⟨⟨h1,h2,h3,h4⟩,⟨h5,h6,h7⟩,⟨h8,h9⟩,h10,_⟩:=h;refine ⟨fun e=>h1 (by rw [e]),⟨fun e=>h2 e.symm,fun e=>h3 e.symm,fun e=>h4 e.symm⟩,⟨fun e=>h5 e.symm,fun e=>h6 e.symm,fun e=>h7 e.symm⟩,fun x e=>?_,fun x e f=>?_⟩
 ·subst e;simp at h8 h9;exact ⟨fun e=>h8 e.symm,fun e=>h9 e.symm⟩
 ·subst e f;simp at h10
theorem Q9 (hb:Below w.heap.size w w'):w.grownBy w' none:=⟨hb.os,hb.tape,hb.output,hb.size,fun i hi _=>hb.block i hi⟩
theorem TL (w:World) (p j:Nat) (v:Value):w.grownBy (w.setCell ⟨p,j,none⟩ v) (some p):=⟨rfl,rfl,rfl,by simp [World.setCell],fun i _ hi=>Adl _ _ _ _ fun e=>hi (by rw [e])⟩
theorem BP {B:Nat} {e:TypeId} {size n:Nat} {v:Value} {us:List Value} {x:Option Nat} (h:w.ownsRow B e size v n us) (hg:w.grownBy w' x) (hx:∀ b,v.ownBlock=some b→x≠some b):w'.ownsRow B e size v n us:=
 Aa h fun b hb=>hg.block b (AA h b hb) fun e=>hx b hb e.symm
theorem ScR.step (h:ScR W p mp r w) (hb:Below w.heap.size w w'):ScR W p mp r w':=
 h.turn (Q9 hb) (fun _ e=>by cases e) h.ap (fun _ hb=>.inl hb) h.cs (Ag h.cr hb) (Ag h.mr hb) (Ag h.or hb) (h.la.same (hb.block mp (h.lt (by simp [RV.own])).2)) fun v hv=>.inl hv
theorem ScR.setp (h:ScR W p mp r w) (j:Nat) (v:Value):ScR W p mp r (w.setCell ⟨p,j,none⟩ v):=by
 obtain ⟨a1,⟨a2,a3,a4⟩,_⟩:=Zh h.ap;have hg:=TL w p j v;refine h.turn hg (fun _ e=>by rw [←e];simp [RV.own]) h.ap (fun _ hb=>.inl hb) h.cs (BP h.cr hg fun b hb e=>a2 (hb.trans e.symm)) (BP h.mr hg fun b hb e=>a3 (hb.trans e.symm)) (BP h.or hg fun b hb e=>a4 (hb.trans e.symm)) (h.la.same (hg.block mp (h.lt (by simp [RV.own])).2 fun e=>a1 (by injection e with e;exact e.symm))) fun v hv=>.inl hv
theorem ScR.open (h:ScR W p mp r w) {n:Nat} {oa:Option Addr} {oc:Nat} (hg:w.grownBy w' r.ov.ownBlock) (ho:w'.ownsRow W.heap.size 3 1 (.slice oa (r.st.op.length+1) oc) (r.st.op.length+1) (opC r.st.op++[.int .i64 (n:Int)])) (hat:(Value.slice oa (r.st.op.length+1) oc).ownBlock=r.ov.ownBlock∨(Value.slice oa (r.st.op.length+1) oc).ownBlock=some w.heap.size) :
  ScR W p mp { r with st:={ r.st with op:=r.st.op++[n] },oa:=oa,oc:=oc } w':=by
 obtain ⟨_,⟨_,_,a4⟩,⟨_,_,b4⟩,c1,d1⟩:=Zh h.ap;have hl:(r.st.op++[n]).length=r.st.op.length+1:=by simp
 have ha:Apart (RV.own { r with st:={ r.st with op:=r.st.op++[n] },oa:=oa,oc:=oc } p mp):=by
  unfold RV.own;simp only [RV.cv,RV.mv,RV.ov];rw [hl];exact Apart.put (l:=[some p,some mp,r.cv.ownBlock,r.mv.ownBlock]) (k:=[]) h.ap w.heap.size hat fun b hb=>(h.lt (by rw [List.append_nil] at hb;exact List.mem_append_left [r.ov.ownBlock] hb)).2
 refine h.turn hg (fun b e=>by simp [RV.own,e]) ha (fun b hb=>?_) h.cs (BP h.cr hg fun b hb e=>(c1 b hb).2 e) (BP h.mr hg fun b hb e=>d1 b hb e) ?_ (h.la.same (hg.block mp (h.lt (by simp [RV.own])).2 fun e=>b4 e.symm)) fun v hv=>.inl hv
 ·simp only [RV.own,RV.cv,RV.mv,RV.ov,hl,Ado,List.not_mem_nil,or_false] at hb ⊢
  rcases hb with hb | hb | hb | hb | hb
  ·exact .inl (.inl hb)
  ·exact .inl (.inr (.inl hb))
  ·exact .inl (.inr (.inr (.inl hb)))
  ·exact .inl (.inr (.inr (.inr (.inl hb))))
  ·rcases hat with e | e
   ·exact .inl (.inr (.inr (.inr (.inr (hb.trans e)))))
   ·rw [e] at hb;injection hb with hb;exact .inr (by omega)
 ·show World.ownsRow _ _ _ 1 (.slice oa (r.st.op++[n]).length oc) (r.st.op++[n]).length (opC (r.st.op++[n]))
  rw [hl,opC,List.map_append];exact ho
theorem Zi {B:Nat} {e:TypeId} {a:Option Addr} {n c k:Nat} {us:List Value} (h:w.ownsRow B e 1 (.slice a n c) n us) (hk:k≤n):w.ownsRow B e 1 (.slice a k c) k (us.take k):=by
 obtain ⟨h1,h2⟩:=h;refine ⟨by rw [List.length_take];omega,?_⟩;rcases h2 with ⟨h2,h3⟩ | ⟨g,cap,cur,h2,h3,h4,h5,h6,h7,h8⟩
 ·injection h2 with e1 e2 e3
  subst e1 e3;exact .inl ⟨by rw [show k=0 by omega],by omega⟩
 ·injection h2 with e1 e2 e3
  subst e1 e3;exact .inr ⟨g,c,cur,rfl,h3,h4,by omega,h6,h7,by rw [←h8,List.take_take];congr 1;omega⟩
theorem ScR.pop (h:ScR W p mp r w):ScR W p mp { r with st:={ r.st with op:=r.st.op.dropLast } } w:=by
 have ho:RV.own { r with st:={ r.st with op:=r.st.op.dropLast } } p mp=r.own p mp:=by
  unfold RV.own;simp only [RV.cv,RV.mv,RV.ov];cases r.oa <;> rfl
 refine h.turn (x:=none) ⟨rfl,rfl,rfl,Adf _,fun _ _ _=>rfl⟩ (fun _ e=>by cases e) (by rw [ho];exact h.ap) (fun b hb=>.inl (by rw [ho] at hb;exact hb)) h.cs h.cr h.mr ?_ h.la fun v hv=>.inl hv
 have h9:=Zi h.or (k:=r.st.op.dropLast.length) (by rw [List.length_dropLast];omega);rw [opC,←List.map_take,show r.st.op.take r.st.op.dropLast.length=r.st.op.dropLast by rw [List.length_dropLast,List.dropLast_eq_take]] at h9;exact h9
theorem ScR.label (h:ScR W p mp r w) {ls:List (List UInt8)} (hg:w.grownBy w' (some mp)) (hl:LabAt w' mp ls):ScR W p mp { r with ls:=ls } w':=by
 obtain ⟨_,_,⟨b2,b3,b4⟩,_⟩:=Zh h.ap;exact h.turn hg (fun _ e=>by rw [←e];simp [RV.own]) h.ap (fun _ hb=>.inl hb) h.cs (BP h.cr hg fun b hb e=>b2 (hb.trans e.symm)) (BP h.mr hg fun b hb e=>b3 (hb.trans e.symm)) (BP h.or hg fun b hb e=>b4 (hb.trans e.symm)) hl fun v hv=>.inl hv
theorem ScR.cmd (h:ScR W p mp r w) {v:CV} {ca:Option Addr} {cc:Nat} (hg:w.grownBy w' r.cv.ownBlock) (ho:w'.ownsRow W.heap.size 47 20 (.slice ca (r.vs.length+1) cc) (r.vs.length+1) ((r.vs.flatMap fun v=>v.cells.toList)++v.cells.toList)) (hat:(Value.slice ca (r.vs.length+1) cc).ownBlock=r.cv.ownBlock∨(Value.slice ca (r.vs.length+1) cc).ownBlock=some w.heap.size) (hv:v.ok (r.fr W.heap.size p mp) w) :
  ScR W p mp { r with st:={ r.st with cs:=r.st.cs++[v.c] },vs:=r.vs++[v],ca:=ca,cc:=cc } w':=by
 obtain ⟨_,⟨a2,_,_⟩,⟨b2,_,_⟩,c1,d1⟩:=Zh h.ap;have hl:(r.vs++[v]).length=r.vs.length+1:=by simp
 have ha:Apart (RV.own { r with st:={ r.st with cs:=r.st.cs++[v.c] },vs:=r.vs++[v],ca:=ca,cc:=cc } p mp):=by
  unfold RV.own;simp only [RV.cv,RV.mv,RV.ov];rw [hl];exact Apart.put (l:=[some p,some mp]) (k:=[r.mv.ownBlock,r.ov.ownBlock]) h.ap w.heap.size hat fun b hb=>(h.lt (by simp only [RV.own,List.cons_append,List.nil_append,Ado] at hb ⊢;rcases hb with hb | hb | hb | hb | hb;exact .inl hb;exact .inr (.inl hb);exact .inr (.inr (.inr (.inl hb)));exact .inr (.inr (.inr (.inr (.inl hb))));cases hb)).2
 refine h.turn hg (fun b e=>by simp [RV.own,e]) ha (fun b hb=>?_) ?_ ?_ (BP h.mr hg fun b hb e=>(c1 b e).1 hb) (BP h.or hg fun b hb e=>(c1 b e).2 hb) (h.la.same (hg.block mp (h.lt (by simp [RV.own])).2 fun e=>b2 e.symm)) fun u hu=>?_
 ·simp only [RV.own,RV.cv,RV.mv,RV.ov,hl,Ado,List.not_mem_nil,or_false] at hb ⊢
  rcases hb with hb | hb | hb | hb | hb
  ·exact .inl (.inl hb)
  ·exact .inl (.inr (.inl hb))
  ·rcases hat with e | e
   ·exact .inl (.inr (.inr (.inl (hb.trans e))))
   ·rw [e] at hb;injection hb with hb;exact .inr (by omega)
  ·exact .inl (.inr (.inr (.inr (.inl hb))))
  ·exact .inl (.inr (.inr (.inr (.inr hb))))
 ·simp [h.cs]
 ·show World.ownsRow _ _ _ 20 (.slice ca (r.vs++[v]).length cc) (r.vs++[v]).length _
  rw [hl,List.flatMap_append];simpa using ho
 ·rcases Adp.1 hu with hu | hu
  ·exact .inl hu
  ·rw [List.mem_singleton.1 hu];exact .inr hv
theorem ScR.mark (h:ScR W p mp r w) {ms:List Wm} {n:Nat} (hn:ms.length=n) {ma:Option Addr} {mc:Nat} (hg:w.grownBy w' r.mv.ownBlock) (ho:w'.ownsRow W.heap.size 33 2 (.slice ma (r.st.ms.length+n) mc) (r.st.ms.length+n) (wmC r.st.ms++wmC ms)) (hat:(Value.slice ma (r.st.ms.length+n) mc).ownBlock=r.mv.ownBlock∨(Value.slice ma (r.st.ms.length+n) mc).ownBlock=some w.heap.size) :
  ScR W p mp { r with st:={ r.st with ms:=r.st.ms++ms },ma:=ma,mc:=mc } w':=by
 subst hn;obtain ⟨_,⟨_,a3,_⟩,⟨_,b3,_⟩,c1,d1⟩:=Zh h.ap;have hl:(r.st.ms++ms).length=r.st.ms.length+ms.length:=Adh;have ha:Apart (RV.own { r with st:={ r.st with ms:=r.st.ms++ms },ma:=ma,mc:=mc } p mp):=by
  unfold RV.own;simp only [RV.cv,RV.mv,RV.ov];rw [hl];exact Apart.put (l:=[some p,some mp,r.cv.ownBlock]) (k:=[r.ov.ownBlock]) h.ap w.heap.size hat fun b hb=>(h.lt (by simp only [RV.own,List.cons_append,List.nil_append,Ado] at hb ⊢;rcases hb with hb | hb | hb | hb | hb;exact .inl hb;exact .inr (.inl hb);exact .inr (.inr (.inl hb));exact .inr (.inr (.inr (.inr (.inl hb))));cases hb)).2
 refine h.turn hg (fun b e=>by simp [RV.own,e]) ha (fun b hb=>?_) h.cs (BP h.cr hg fun b hb e=>(c1 b hb).1 e) ?_ (BP h.or hg fun b hb e=>d1 b e hb) (h.la.same (hg.block mp (h.lt (by simp [RV.own])).2 fun e=>b3 e.symm)) fun v hv=>.inl hv
 ·simp only [RV.own,RV.cv,RV.mv,RV.ov,hl,Ado,List.not_mem_nil,or_false] at hb ⊢
  rcases hb with hb | hb | hb | hb | hb
  ·exact .inl (.inl hb)
  ·exact .inl (.inr (.inl hb))
  ·exact .inl (.inr (.inr (.inl hb)))
  ·rcases hat with e | e
   ·exact .inl (.inr (.inr (.inr (.inl (hb.trans e)))))
   ·rw [e] at hb;injection hb with hb;exact .inr (by omega)
  ·exact .inl (.inr (.inr (.inr (.inr hb))))
 ·show World.ownsRow _ _ _ 2 (.slice ma (r.st.ms++ms).length mc) (r.st.ms++ms).length _
  rw [hl,M0];exact ho
end
end Go.Proofs.YteilldmmihiijaaGreatDoor
