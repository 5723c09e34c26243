/- The proof's texts CmWm, CmWn: what the claim reaches of them. -/
import Derived.Test.YtbgfankoojjejaaGreatDoorGd30
import Derived.Test.YtbgfankoojjejaaGreatDoorGd33
import Derived.Test.YtbgfankoojjejaaGreatDoorGd35
import Derived.Test.YtbgfankoojjejaaGreatDoorGd26
set_option linter.unusedSimpArgs false
set_option linter.unusedVariables false
set_option maxHeartbeats 8000000
set_option maxRecDepth 1000000
namespace Go.Proofs.YtbgfankoojjejaaGreatDoor
open Go Go.RowKit
theorem pfx_two (c:UInt8) (t:List UInt8):Lib.hasPrefix (c :: t) [92,10]=decide (c=92∧t.head?=some 10):=by
 unfold Lib.hasPrefix
 cases t with
 | nil=>
  show ((92:UInt8) == c && false)=_
  rw [Bool.and_false]
  simp
 | cons x u=>
  show ((92:UInt8) == c && ((10:UInt8) == x && List.isPrefixOf [] u))=_
  by_cases h:c=92
  ·subst h
   by_cases h2:x=10
   ·subst h2;simp
   ·have:((10:UInt8) == x)=false:=beq_eq_false_iff_ne.2 (Ne.symm h2)
    rw [this]
    simp [h2]
  ·have:((92:UInt8) == c)=false:=beq_eq_false_iff_ne.2 (Ne.symm h)
   rw [this]
   simp [h]
theorem ktext_any (w:World) (p:Nat) (s:ByteArray) (ext:Bool) (st:CS) (W:World) (h:CmR w p s ext st W) (hs:s.size≤4000000) (hk:st.k≤s.size) (hl:st.ms.length≤100000) :
  Calls Tryz.prog 20 #[.pointer (some ⟨p,0,none⟩)] W fun e W'=>e=.returned (.int .i64 ((cmText s.data.toList st).1:Int))∧CmR w p s ext (cmText s.data.toList st).2 W':=by
 obtain ⟨ta,tb,ts,pa,pc,ma,mc,h⟩:=h
 have hB:=pblk_of s st.k hs hk
 obtain ⟨K,hK⟩:∃ K,pcBlk s.data.toList st.k=K:=⟨_,rfl⟩
 have hKl:K≤s.size:=by rw [←hK,size_list];exact (pcBlk_le _ _ (by rw [←size_list];exact hk)).2
 unfold cmText
 rw [hK] at hB ⊢
 have HH:=Lib.hid h
 have k0:W.cell? ⟨p,0,none⟩=some (.string s):=(h.q.cell 0).trans rfl
 have k2:W.cell? ⟨p,2,none⟩=some (.int .i64 (st.k:Int)):=(h.q.cell 2).trans rfl
 have Hl:=Lib.hid hl
 have hx0:(0:Int)≤(K:Int):=by omega
 have hx1:(K:Int)≤(s.size:Int):=by omega
 obtain ⟨E,hEx⟩:∃ E,s.extract K s.size=E:=⟨_,rfl⟩
 have hEl:E.data.toList=s.data.toList.drop K:=by rw [←hEx];exact extractEnd_list s K
 have hEs:E.size=s.size - K:=by rw [←hEx,ByteArray.size_extract];omega
 clear h hK hk hl
 by_cases hz:K=s.size
 ·rw [drop_end s K (by omega)]
  have c1:E.toList.isEmpty=true:=by rw [ByteArray.toList_eq,hEl,drop_end s K (by omega)];rfl
  have c2:E.toList=[]:=List.isEmpty_iff.1 c1
  clear hz hEl hEs
  simp only
  go_enter Tryz.func20,Tryz.ntmps20;go_upto_region 1 with fail;go_cut [] (fun wx=>CmSt w p s ext (st.go K) ta tb ts pa pc ma mc wx);(case first=>((go_region_law (first | (go_simp;go_at_call 32;refine (hB _).mono ?_;rintro e w1 ⟨rfl,b1⟩;have H1:=Lib.hid (by first | exact HH.out.step b1 | exact HH.out.drew.step b1:CmSt w p s ext st ta tb ts pa pc ma mc w1);have f2:=H1.out.q.frozen 2;have g2:w1.cell? ⟨p,2,none⟩=some (.int .i64 (st.k:Int)):=(H1.out.q.cell 2).trans rfl;clear b1)));all_goals ((try go_wp2_with fail);go_meet;exact H1.out.go K)));have H2:=Lib.hid hcut;clear hcut k0 k2;have k0:World.cell? wc ⟨p,0,none⟩=some (.string s):=(H2.out.q.cell 0).trans rfl;have k2:World.cell? wc ⟨p,2,none⟩=some (.int .i64 (K:Int)):=(H2.out.q.cell 2).trans rfl;go_upto_region 2 with fail;go_quiet (fail);generalize nq=n1;have H3:=Lib.hid (H2.out.drewN n1)
  go_wp2_with fail
  go_ret
  exact ⟨rfl,H3.out.R⟩
 ·have hlt:K < s.size:=by omega
  have hd:=drop_at s K hlt
  have c1:E.toList.isEmpty=false:=by rw [ByteArray.toList_eq,hEl,hd];rfl
  have c2:¬ E.toList=[]:=fun h=>by rw [h] at c1;cases c1
  have hE0:0 < E.size:=by omega
  have hEi:(0:Int) < (E.size:Int):=by omega
  have hEh:E[0]'hE0=s[K]:=by
   have h1:=drop_at E 0 hE0
   rw [List.drop_zero,hEl,hd] at h1
   injection h1 with h1
   exact h1.symm
  have hpf:=fun w=>prefix_any E ⟨#[92,10]⟩ w
  rw [hEl,hd,show (⟨#[92,10]⟩:ByteArray).data.toList=[92,10] from rfl,pfx_two] at hpf
  rw [hd]
  obtain ⟨b,hb⟩:∃ b,s[K]=b:=⟨_,rfl⟩
  rw [hb] at hEh hpf ⊢
  simp only
  clear hz hb hEl hEs
  by_cases h10:b=10
  ·rw [if_pos h10]
   have q10:((b.toNat:Int) == 10)=true:=by rw [h10];rfl
   clear h10 hpf
   go_enter Tryz.func20,Tryz.ntmps20;go_upto_region 1 with fail;go_cut [] (fun wx=>CmSt w p s ext (st.go K) ta tb ts pa pc ma mc wx);(case first=>((go_region_law (first | (go_simp;go_at_call 32;refine (hB _).mono ?_;rintro e w1 ⟨rfl,b1⟩;have H1:=Lib.hid (by first | exact HH.out.step b1 | exact HH.out.drew.step b1:CmSt w p s ext st ta tb ts pa pc ma mc w1);have f2:=H1.out.q.frozen 2;have g2:w1.cell? ⟨p,2,none⟩=some (.int .i64 (st.k:Int)):=(H1.out.q.cell 2).trans rfl;clear b1)));all_goals ((try go_wp2_with fail);go_meet;exact H1.out.go K)));have H2:=Lib.hid hcut;clear hcut k0 k2;have k0:World.cell? wc ⟨p,0,none⟩=some (.string s):=(H2.out.q.cell 0).trans rfl;have k2:World.cell? wc ⟨p,2,none⟩=some (.int .i64 (K:Int)):=(H2.out.q.cell 2).trans rfl;go_upto_region 2 with fail;go_quiet (fail);generalize nq=n1;have H3:=Lib.hid (H2.out.drewN n1)
   go_wp2_with fail
   go_ret
   exact ⟨rfl,H3.out.R⟩
  ·rw [if_neg h10]
   have q10:((b.toNat:Int) == 10)=false:=u8_ne (n:=10) (by decide) h10
   by_cases h2:b=92∧(s.data.toList.drop (K+1)).head?=some 10
   ·rw [if_pos h2]
    rw [decide_eq_true h2] at hpf
    obtain ⟨K2,hK2⟩:∃ K2,K+2=K2:=⟨_,rfl⟩
    have h1:K+1 < s.size:=head_lt h2.2
    have hK2l:K2≤s.size:=by omega
    have Wk:IntKind.i64.wrap ((K:Int)+2)=(K2:Int):=by rw [IntWalk.i64_in _ (by omega)];omega
    rw [hK2]
    have hN:=fun w1=>plines_at s K2 w1 hs hK2l
    obtain ⟨st5,hst5⟩:∃ st5,(st.go K).go K2=st5:=⟨_,rfl⟩
    have hgo:(st.go K2)=st5:=hst5
    rw [hgo]
    have HK5:=Lib.hid (show st5.k=K2 by rw [←hst5];rfl)
    unfold cmLines
    rw [HK5.out]
    obtain ⟨⟨t,q,e0⟩,hR⟩:∃ R,pcLin (s.data.toList.drop K2) K2 []=R:=⟨_,rfl⟩
    rw [hR] at hN ⊢
    have hN:∀ w1,Calls Tryz.prog 38 #[.string s,.int .i64 (K2:Int)] w1 fun e w'=>e=.returned (.tuple #[.string (txt t),.int .i64 (q:Int),.int .i64 (e0:Int)])∧Below w1.heap.size w1 w':=hN
    clear h10 h2 hK2 hR hgo h1 hd
    simp only
    go_enter Tryz.func20,Tryz.ntmps20;go_upto_region 1 with fail;go_cut [] (fun wx=>CmSt w p s ext (st.go K) ta tb ts pa pc ma mc wx);(case first=>((go_region_law (first | (go_simp;go_at_call 32;refine (hB _).mono ?_;rintro e w1 ⟨rfl,b1⟩;have H1:=Lib.hid (by first | exact HH.out.step b1 | exact HH.out.drew.step b1:CmSt w p s ext st ta tb ts pa pc ma mc w1);have f2:=H1.out.q.frozen 2;have g2:w1.cell? ⟨p,2,none⟩=some (.int .i64 (st.k:Int)):=(H1.out.q.cell 2).trans rfl;clear b1)));all_goals ((try go_wp2_with fail);go_meet;exact H1.out.go K)));have H2:=Lib.hid hcut;clear hcut k0 k2;have k0:World.cell? wc ⟨p,0,none⟩=some (.string s):=(H2.out.q.cell 0).trans rfl;have k2:World.cell? wc ⟨p,2,none⟩=some (.int .i64 (K:Int)):=(H2.out.q.cell 2).trans rfl;go_upto_region 2 with fail;go_quiet (fail);generalize nq=n1;have H3:=Lib.hid (H2.out.drewN n1)
    clear k0 k2
    have k2:(wc.drewN n1).cell? ⟨p,2,none⟩=some (.int .i64 (K:Int)):=(H3.out.q.cell 2).trans rfl
    have f2:=H3.out.q.frozen 2
    have H5:=Lib.hid (by have h9:=H3.out.go K2;rw [hst5] at h9;exact h9)
    go_upto_region 10 with (go_at_call 33;refine (hpf _).mono ?_;clear hpf;rintro e w4 ⟨rfl,rfl⟩)
    clear k2 f2
    generalize (wc.drewN n1).setCell ⟨p,2,none⟩ (.int .i64 (K2:Int))=w5 at H5 ⊢
    (have k0:w5.cell? ⟨p,0,none⟩=some (.string s):=(H5.out.q.cell 0).trans rfl);(have k2:w5.cell? ⟨p,2,none⟩=some (.int .i64 (K2:Int)):=(H5.out.q.cell 2).trans (by rw [←HK5.out];rfl));go_region_held3 (fun w'=>w'.cell? ⟨p,0,none⟩=some (.string s)∧w'.cell? ⟨p,2,none⟩=some (.int .i64 (K2:Int))) (first | exact ⟨k0,k2⟩ | (refine ⟨?_,?_⟩ <;> assumption)) (first | (go_at_call 38;refine (hN _).mono ?_;rintro e w6 ⟨rfl,b6⟩;have H6:=Lib.hid (by first | exact H5.out.step b6 | exact H5.out.drew.step b6:CmSt w p s ext st5 ta tb ts pa pc ma mc w6);have m0:w6.cell? ⟨p,0,none⟩=some (.string s):=(H6.out.q.cell 0).trans rfl;have m2:w6.cell? ⟨p,2,none⟩=some (.int .i64 (K2:Int)):=(H6.out.q.cell 2).trans (by rw [←HK5.out];rfl);clear b6));(all_goals (clear k0 k2 m0;have k14:w6.cell? ⟨p,14,none⟩=some (.string (txt st5.c.arg)):=(H6.out.q.cell 14).trans rfl;have f2:=H6.out.q.frozen 2;have f14:=H6.out.q.frozen 14;have H7:=Lib.hid (H6.out.arg t q);go_wp2_with fail;go_ret;exact ⟨rfl,H7.out.R⟩))
   ·rw [if_neg h2]
    rw [decide_eq_false h2] at hpf
    have hN:=fun w1=>plines_at s K w1 hs hKl
    obtain ⟨st5,hst5⟩:∃ st5,(st.go K).mark st.c.pl [116,101,120,116]=st5:=⟨_,rfl⟩
    rw [hst5]
    have HK5:=Lib.hid (show st5.k=K by rw [←hst5];rfl)
    have HS5:=Lib.hid hst5
    unfold cmLines
    rw [HK5.out]
    obtain ⟨⟨t,q,e0⟩,hR⟩:∃ R,pcLin (s.data.toList.drop K) K []=R:=⟨_,rfl⟩
    rw [hR] at hN ⊢
    have hN:∀ w1,Calls Tryz.prog 38 #[.string s,.int .i64 (K:Int)] w1 fun e w'=>e=.returned (.tuple #[.string (txt t),.int .i64 (q:Int),.int .i64 (e0:Int)])∧Below w1.heap.size w1 w':=hN
    clear h10 h2 hR hd hst5
    simp only
    go_enter Tryz.func20,Tryz.ntmps20;go_upto_region 1 with fail;go_cut [] (fun wx=>CmSt w p s ext (st.go K) ta tb ts pa pc ma mc wx);(case first=>((go_region_law (first | (go_simp;go_at_call 32;refine (hB _).mono ?_;rintro e w1 ⟨rfl,b1⟩;have H1:=Lib.hid (by first | exact HH.out.step b1 | exact HH.out.drew.step b1:CmSt w p s ext st ta tb ts pa pc ma mc w1);have f2:=H1.out.q.frozen 2;have g2:w1.cell? ⟨p,2,none⟩=some (.int .i64 (st.k:Int)):=(H1.out.q.cell 2).trans rfl;clear b1)));all_goals ((try go_wp2_with fail);go_meet;exact H1.out.go K)));have H2:=Lib.hid hcut;clear hcut k0 k2;have k0:World.cell? wc ⟨p,0,none⟩=some (.string s):=(H2.out.q.cell 0).trans rfl;have k2:World.cell? wc ⟨p,2,none⟩=some (.int .i64 (K:Int)):=(H2.out.q.cell 2).trans rfl;go_upto_region 2 with fail;go_quiet (fail);generalize nq=n1;have H3:=Lib.hid (H2.out.drewN n1)
    clear k0 k2
    generalize wc.drewN n1=w4 at H3 ⊢
    have k3:w4.cell? ⟨p,3,none⟩=some (.int .i64 (st.c.pl:Int)):=(H3.out.q.cell 3).trans rfl
    have k23:w4.cell? ⟨p,23,none⟩=some (.slice ma st.ms.length mc):=(H3.out.q.cell 23).trans rfl
    obtain ⟨i0,hi,hz0,hz1,hz2⟩:=mark_info
    have hlm:=Hl.out
    have hm1:st.ms.length+1≤maxLen:=by unfold maxLen;omega
    have hm2:(st.ms.length+1) * 24≤140737488355328:=by omega
    have hlo:w.heap.size≤w4.heap.size:=H3.out.b0.size
    have hplt:=H3.out.q.lt
    clear hlm
    go_upto_region 3 with (go_at_call 33;refine (hpf _).mono ?_;clear hpf;rintro e w9 ⟨rfl,rfl⟩)
    go_region_law (first
     | (refine step_append_any rfl _ _ 36 rfl w.heap.size 77 i0 (.agg #[.int .i64 0,.string ⟨#[]⟩]) 2 24 Tryz.underlying36 hi hz0 hz1 hz2 rfl (by decide) (.slice ma st.ms.length mc) st.ms.length (wmC st.ms) rfl (nd_own_below H3.out.r (by repeat (first | (with_reducible exact Below.refl _ _) | refine Below.drew ?_ | refine Below.alloc ?_ (Nat.le_refl _) _))) (some ⟨w4.heap.size,0,none⟩) 1 1 (wmC1 ((st.c.pl:Int),⟨#[116,101,120,116]⟩)) rfl rfl (fun _=>⟨_,rfl,wmC1_new w4 ((st.c.pl:Int),⟨#[116,101,120,116]⟩) _⟩) (wmC1_one _) hm1 hm2 (by simp;omega) ?_;intro v6 w6 hown6 hgrow6 hat6;obtain ⟨a6,c6,rfl⟩:=own_form' hown6;have HP:=Lib.hid (H3.out.push (n:=1) (ms2:=[((st.c.pl:Int),⟨#[116,101,120,116]⟩)]) (((Below.refl w4.heap.size w4).alloc (Nat.le_refl _) _).drew) rfl hgrow6 (show w6.ownsRow w.heap.size 77 2 (.slice a6 (st.ms.length+1) c6) (st.ms.length+1) (wmC st.ms++wmC [((st.c.pl:Int),⟨#[116,101,120,116]⟩)]) by simpa [wmC] using hown6) hat6);have f23:=(blkGrownR (H3.out.q.below (((Below.refl w4.heap.size w4).alloc (Nat.le_refl _) _).drew) H3.out.q.lt) hgrow6 H3.out.rg).frozen 23;have g23:w6.cell? ⟨p,23,none⟩=some (.slice ma st.ms.length mc):=((blkGrownR (H3.out.q.below (((Below.refl w4.heap.size w4).alloc (Nat.le_refl _) _).drew) H3.out.q.lt) hgrow6 H3.out.rg).cell 23).trans rfl;clear hown6 hgrow6 hat6))
    all_goals
     have H5:=Lib.hid (show CmSt w p s ext st5 ta tb ts pa pc a6 c6 (w6.setCell ⟨p,23,none⟩ (.slice a6 (st.ms.length+1) c6)) by rw [←HS5.out];exact HP.out)
     clear HP
     go_upto_region 10 with fail
     clear k3 k23 f23 g23 hplt
     generalize w6.setCell ⟨p,23,none⟩ (.slice a6 (st.ms.length+1) c6)=w5 at H5 ⊢
     (have k0:w5.cell? ⟨p,0,none⟩=some (.string s):=(H5.out.q.cell 0).trans rfl);(have k2:w5.cell? ⟨p,2,none⟩=some (.int .i64 (K:Int)):=(H5.out.q.cell 2).trans (by rw [←HK5.out];rfl));go_region_held3 (fun w'=>w'.cell? ⟨p,0,none⟩=some (.string s)∧w'.cell? ⟨p,2,none⟩=some (.int .i64 (K:Int))) (first | exact ⟨k0,k2⟩ | (refine ⟨?_,?_⟩ <;> assumption)) (first | (go_at_call 38;refine (hN _).mono ?_;rintro e w6 ⟨rfl,b6⟩;have H6:=Lib.hid (by first | exact H5.out.step b6 | exact H5.out.drew.step b6:CmSt w p s ext st5 ta tb ts pa pc a6 c6 w6);have m0:w6.cell? ⟨p,0,none⟩=some (.string s):=(H6.out.q.cell 0).trans rfl;have m2:w6.cell? ⟨p,2,none⟩=some (.int .i64 (K:Int)):=(H6.out.q.cell 2).trans (by rw [←HK5.out];rfl);clear b6));(all_goals (clear k0 k2 m0;have k14:w6.cell? ⟨p,14,none⟩=some (.string (txt st5.c.arg)):=(H6.out.q.cell 14).trans rfl;have f2:=H6.out.q.frozen 2;have f14:=H6.out.q.frozen 14;have H7:=Lib.hid (H6.out.arg t q);go_wp2_with fail;go_ret;exact ⟨rfl,H7.out.R⟩))
end Go.Proofs.YtbgfankoojjejaaGreatDoor
namespace Go.Proofs.YtbgfankoojjejaaGreatDoor
open Go Go.RowKit
theorem name_ok {L:List UInt8} {st:CS} (h0:(cmName L st).1=0):(cmName L st).2.k=st.k+1∧st.k < L.length∧(cmName L st).2.ms.length≤st.ms.length+1:=by
 unfold cmName at h0 ⊢
 cases hd:L.drop st.k with
 | nil=>rw [hd] at h0;cases h0
 | cons b t=>
  have hlt:=drop_ltk hd
  rw [hd] at h0
  simp only at h0 ⊢
  cases hM:cmMost b with
  | none=>rw [hM] at h0;cases h0
  | some n=>
   rw [hM] at h0
   unfold cmNameOf at h0 ⊢
   simp only at h0 ⊢
   by_cases hx:n < cmAdds st.c.g
   ·rw [if_pos hx] at h0;cases h0
   ·rw [if_neg hx]
    split
    ·exact ⟨rfl,hlt,by show (st.ms++_).length≤_;simp⟩
    ·exact ⟨rfl,hlt,Nat.le_succ _⟩
theorem takes_at {ext:Bool} {L:List UInt8} {st:CS} {b:UInt8} (hb:st.c.name=b):cmTakes ext L st=if b=123∨b=125 then (0,st) else if b=58 then cmLabel L st else if b=98∨b=116∨b=84 then cmPer L st else if b=97∨b=105∨b=99 then cmText L st else if b=114∨b=119 then cmFileA L st else if b=115 then cmSub ext L st else if b=121 then cmTbl L st else cmEnd L st:=by
 subst hb
 rfl
theorem kcmd_any (w:World) (p:Nat) (s:ByteArray) (ext:Bool) (st:CS) (W:World) (h:CmR w p s ext st W) (hs:s.size≤4000) (hk:st.k≤s.size) (hl:st.ms.length≤80000) (hG:Gl w) (hP:GP w) :
  Calls Tryz.prog 11 #[.pointer (some ⟨p,0,none⟩)] W fun e W'=>e=.returned (.int .i64 ((cmWhole ext s.data.toList st).1:Int))∧CmR w p s ext (cmWhole ext s.data.toList st).2 W':=by
 have hs4:s.size≤4000000:=by omega
 have hA:=kname_any w p s ext st W h hs4 hk (by omega)
 have hok:=name_ok (L:=s.data.toList) (st:=st)
 rw [←size_list] at hok
 unfold cmWhole CO.then
 obtain ⟨⟨e1,s1⟩,hR1⟩:∃ R,cmName s.data.toList st=R:=⟨_,rfl⟩
 rw [hR1] at hA hok ⊢
 simp only at hA hok ⊢
 clear hR1 h
 by_cases h1:e1=0
 ·subst h1
  rw [if_pos rfl]
  obtain ⟨hk1,hkl,hm1⟩:=hok rfl
  have hk2:s1.k≤s.size:=by omega
  have hm2:s1.ms.length≤90000:=by omega
  have hm3:s1.ms.length≤100000:=by omega
  obtain ⟨b,hb⟩:∃ b,s1.c.name=b:=⟨_,rfl⟩
  rw [takes_at hb]
  have HB:=Lib.hid hb
  clear hb hk1 hkl hm1 hok hl hk
  by_cases h123:b=123∨b=125
  ·rw [if_pos h123]
   rcases h123 with hx | hx
   ·have q123:((b.toNat:Int) == 123)=true:=by rw [hx];rfl
    clear hx
    go_enter Tryz.func11,Tryz.ntmps11
    go_wp2_with (go_at_call 17;refine hA.mono ?_;clear hA;rintro e w1 ⟨rfl,h1⟩;have H1:=Lib.hid h1;obtain ⟨ta,tb,ts,pa,pc,ma,mc,h1⟩:=h1;have c13:w1.cell? ⟨p,13,none⟩=some (.int .u8 (b.toNat:Int)):=(h1.q.cell 13).trans (by rw [←HB.out];rfl);clear h1)
    go_ret
    exact ⟨rfl,H1.out⟩
   ·have q125:((b.toNat:Int) == 125)=true:=by rw [hx];rfl
    have q123:((b.toNat:Int) == 123)=false:=by rw [hx];rfl
    clear hx
    go_enter Tryz.func11,Tryz.ntmps11
    go_wp2_with (go_at_call 17;refine hA.mono ?_;clear hA;rintro e w1 ⟨rfl,h1⟩;have H1:=Lib.hid h1;obtain ⟨ta,tb,ts,pa,pc,ma,mc,h1⟩:=h1;have c13:w1.cell? ⟨p,13,none⟩=some (.int .u8 (b.toNat:Int)):=(h1.q.cell 13).trans (by rw [←HB.out];rfl);clear h1)
    go_ret
    exact ⟨rfl,H1.out⟩
  rw [if_neg h123]
  have q123:((b.toNat:Int) == 123)=false:=cmu_ne (c:=123) (fun e=>h123 (.inl e))
  have q125:((b.toNat:Int) == 125)=false:=cmu_ne (c:=125) (fun e=>h123 (.inr e))
  clear h123
  by_cases h58:b=58
  ·rw [if_pos h58]
   have q58:((b.toNat:Int) == 58)=true:=by rw [h58];rfl
   clear h58
   have hX:=fun W1 (h:CmR w p s ext s1 W1)=>klabel_any w p s ext s1 W1 h hs4 hk2
   clear hG hP hm2 hm3 hk2 hs hs4
   go_enter Tryz.func11,Tryz.ntmps11
   go_wp2_with (first | (go_at_call 17;refine hA.mono ?_;clear hA;rintro e w1 ⟨rfl,h1⟩;have H1:=Lib.hid h1;obtain ⟨ta,tb,ts,pa,pc,ma,mc,h1⟩:=h1;have c13:w1.cell? ⟨p,13,none⟩=some (.int .u8 (b.toNat:Int)):=(h1.q.cell 13).trans (by rw [←HB.out];rfl);clear h1) | (go_at_call 18;refine (hX _ H1.out).mono ?_;clear hX;rintro e w2 ⟨rfl,h2⟩))
   go_ret
   exact ⟨rfl,h2⟩
  rw [if_neg h58]
  have q58:((b.toNat:Int) == 58)=false:=cmu_ne (c:=58) (h58)
  clear h58
  by_cases h98:b=98∨b=116∨b=84
  ·rw [if_pos h98]
   rcases h98 with hx | hx | hx
   ·have q98:((b.toNat:Int) == 98)=true:=by rw [hx];rfl
    clear hx
    have hX:=fun W1 (h:CmR w p s ext s1 W1)=>kper_any w p s ext s1 W1 h hs4 hk2
    clear hG hP hm2 hm3 hk2 hs hs4
    go_enter Tryz.func11,Tryz.ntmps11
    go_wp2_with (first | (go_at_call 17;refine hA.mono ?_;clear hA;rintro e w1 ⟨rfl,h1⟩;have H1:=Lib.hid h1;obtain ⟨ta,tb,ts,pa,pc,ma,mc,h1⟩:=h1;have c13:w1.cell? ⟨p,13,none⟩=some (.int .u8 (b.toNat:Int)):=(h1.q.cell 13).trans (by rw [←HB.out];rfl);clear h1) | (go_at_call 19;refine (hX _ H1.out).mono ?_;clear hX;rintro e w2 ⟨rfl,h2⟩))
    go_ret
    exact ⟨rfl,h2⟩
   ·have q116:((b.toNat:Int) == 116)=true:=by rw [hx];rfl
    have q98:((b.toNat:Int) == 98)=false:=by rw [hx];rfl
    clear hx
    have hX:=fun W1 (h:CmR w p s ext s1 W1)=>kper_any w p s ext s1 W1 h hs4 hk2
    clear hG hP hm2 hm3 hk2 hs hs4
    go_enter Tryz.func11,Tryz.ntmps11
    go_wp2_with (first | (go_at_call 17;refine hA.mono ?_;clear hA;rintro e w1 ⟨rfl,h1⟩;have H1:=Lib.hid h1;obtain ⟨ta,tb,ts,pa,pc,ma,mc,h1⟩:=h1;have c13:w1.cell? ⟨p,13,none⟩=some (.int .u8 (b.toNat:Int)):=(h1.q.cell 13).trans (by rw [←HB.out];rfl);clear h1) | (go_at_call 19;refine (hX _ H1.out).mono ?_;clear hX;rintro e w2 ⟨rfl,h2⟩))
    go_ret
    exact ⟨rfl,h2⟩
   ·have q84:((b.toNat:Int) == 84)=true:=by rw [hx];rfl
    have q98:((b.toNat:Int) == 98)=false:=by rw [hx];rfl
    have q116:((b.toNat:Int) == 116)=false:=by rw [hx];rfl
    clear hx
    have hX:=fun W1 (h:CmR w p s ext s1 W1)=>kper_any w p s ext s1 W1 h hs4 hk2
    clear hG hP hm2 hm3 hk2 hs hs4
    go_enter Tryz.func11,Tryz.ntmps11
    go_wp2_with (first | (go_at_call 17;refine hA.mono ?_;clear hA;rintro e w1 ⟨rfl,h1⟩;have H1:=Lib.hid h1;obtain ⟨ta,tb,ts,pa,pc,ma,mc,h1⟩:=h1;have c13:w1.cell? ⟨p,13,none⟩=some (.int .u8 (b.toNat:Int)):=(h1.q.cell 13).trans (by rw [←HB.out];rfl);clear h1) | (go_at_call 19;refine (hX _ H1.out).mono ?_;clear hX;rintro e w2 ⟨rfl,h2⟩))
    go_ret
    exact ⟨rfl,h2⟩
  rw [if_neg h98]
  have q98:((b.toNat:Int) == 98)=false:=cmu_ne (c:=98) (fun e=>h98 (.inl e))
  have q116:((b.toNat:Int) == 116)=false:=cmu_ne (c:=116) (fun e=>h98 (.inr (.inl e)))
  have q84:((b.toNat:Int) == 84)=false:=cmu_ne (c:=84) (fun e=>h98 (.inr (.inr e)))
  clear h98
  by_cases h97:b=97∨b=105∨b=99
  ·rw [if_pos h97]
   rcases h97 with hx | hx | hx
   ·have q97:((b.toNat:Int) == 97)=true:=by rw [hx];rfl
    clear hx
    have hX:=fun W1 (h:CmR w p s ext s1 W1)=>ktext_any w p s ext s1 W1 h hs4 hk2 hm3
    clear hG hP hm2 hm3 hk2 hs hs4
    go_enter Tryz.func11,Tryz.ntmps11
    go_wp2_with (first | (go_at_call 17;refine hA.mono ?_;clear hA;rintro e w1 ⟨rfl,h1⟩;have H1:=Lib.hid h1;obtain ⟨ta,tb,ts,pa,pc,ma,mc,h1⟩:=h1;have c13:w1.cell? ⟨p,13,none⟩=some (.int .u8 (b.toNat:Int)):=(h1.q.cell 13).trans (by rw [←HB.out];rfl);clear h1) | (go_at_call 20;refine (hX _ H1.out).mono ?_;clear hX;rintro e w2 ⟨rfl,h2⟩))
    go_ret
    exact ⟨rfl,h2⟩
   ·have q105:((b.toNat:Int) == 105)=true:=by rw [hx];rfl
    have q97:((b.toNat:Int) == 97)=false:=by rw [hx];rfl
    clear hx
    have hX:=fun W1 (h:CmR w p s ext s1 W1)=>ktext_any w p s ext s1 W1 h hs4 hk2 hm3
    clear hG hP hm2 hm3 hk2 hs hs4
    go_enter Tryz.func11,Tryz.ntmps11
    go_wp2_with (first | (go_at_call 17;refine hA.mono ?_;clear hA;rintro e w1 ⟨rfl,h1⟩;have H1:=Lib.hid h1;obtain ⟨ta,tb,ts,pa,pc,ma,mc,h1⟩:=h1;have c13:w1.cell? ⟨p,13,none⟩=some (.int .u8 (b.toNat:Int)):=(h1.q.cell 13).trans (by rw [←HB.out];rfl);clear h1) | (go_at_call 20;refine (hX _ H1.out).mono ?_;clear hX;rintro e w2 ⟨rfl,h2⟩))
    go_ret
    exact ⟨rfl,h2⟩
   ·have q99:((b.toNat:Int) == 99)=true:=by rw [hx];rfl
    have q97:((b.toNat:Int) == 97)=false:=by rw [hx];rfl
    have q105:((b.toNat:Int) == 105)=false:=by rw [hx];rfl
    clear hx
    have hX:=fun W1 (h:CmR w p s ext s1 W1)=>ktext_any w p s ext s1 W1 h hs4 hk2 hm3
    clear hG hP hm2 hm3 hk2 hs hs4
    go_enter Tryz.func11,Tryz.ntmps11
    go_wp2_with (first | (go_at_call 17;refine hA.mono ?_;clear hA;rintro e w1 ⟨rfl,h1⟩;have H1:=Lib.hid h1;obtain ⟨ta,tb,ts,pa,pc,ma,mc,h1⟩:=h1;have c13:w1.cell? ⟨p,13,none⟩=some (.int .u8 (b.toNat:Int)):=(h1.q.cell 13).trans (by rw [←HB.out];rfl);clear h1) | (go_at_call 20;refine (hX _ H1.out).mono ?_;clear hX;rintro e w2 ⟨rfl,h2⟩))
    go_ret
    exact ⟨rfl,h2⟩
  rw [if_neg h97]
  have q97:((b.toNat:Int) == 97)=false:=cmu_ne (c:=97) (fun e=>h97 (.inl e))
  have q105:((b.toNat:Int) == 105)=false:=cmu_ne (c:=105) (fun e=>h97 (.inr (.inl e)))
  have q99:((b.toNat:Int) == 99)=false:=cmu_ne (c:=99) (fun e=>h97 (.inr (.inr e)))
  clear h97
  by_cases h114:b=114∨b=119
  ·rw [if_pos h114]
   rcases h114 with hx | hx
   ·have q114:((b.toNat:Int) == 114)=true:=by rw [hx];rfl
    clear hx
    have hX:=fun W1 (h:CmR w p s ext s1 W1)=>kfileA_any w p s ext s1 W1 h hs4 hk2
    clear hG hP hm2 hm3 hk2 hs hs4
    go_enter Tryz.func11,Tryz.ntmps11
    go_wp2_with (first | (go_at_call 17;refine hA.mono ?_;clear hA;rintro e w1 ⟨rfl,h1⟩;have H1:=Lib.hid h1;obtain ⟨ta,tb,ts,pa,pc,ma,mc,h1⟩:=h1;have c13:w1.cell? ⟨p,13,none⟩=some (.int .u8 (b.toNat:Int)):=(h1.q.cell 13).trans (by rw [←HB.out];rfl);clear h1) | (go_at_call 21;refine (hX _ H1.out).mono ?_;clear hX;rintro e w2 ⟨rfl,h2⟩))
    go_ret
    exact ⟨rfl,h2⟩
   ·have q119:((b.toNat:Int) == 119)=true:=by rw [hx];rfl
    have q114:((b.toNat:Int) == 114)=false:=by rw [hx];rfl
    clear hx
    have hX:=fun W1 (h:CmR w p s ext s1 W1)=>kfileA_any w p s ext s1 W1 h hs4 hk2
    clear hG hP hm2 hm3 hk2 hs hs4
    go_enter Tryz.func11,Tryz.ntmps11
    go_wp2_with (first | (go_at_call 17;refine hA.mono ?_;clear hA;rintro e w1 ⟨rfl,h1⟩;have H1:=Lib.hid h1;obtain ⟨ta,tb,ts,pa,pc,ma,mc,h1⟩:=h1;have c13:w1.cell? ⟨p,13,none⟩=some (.int .u8 (b.toNat:Int)):=(h1.q.cell 13).trans (by rw [←HB.out];rfl);clear h1) | (go_at_call 21;refine (hX _ H1.out).mono ?_;clear hX;rintro e w2 ⟨rfl,h2⟩))
    go_ret
    exact ⟨rfl,h2⟩
  rw [if_neg h114]
  have q114:((b.toNat:Int) == 114)=false:=cmu_ne (c:=114) (fun e=>h114 (.inl e))
  have q119:((b.toNat:Int) == 119)=false:=cmu_ne (c:=119) (fun e=>h114 (.inr e))
  clear h114
  by_cases h115:b=115
  ·rw [if_pos h115]
   have q115:((b.toNat:Int) == 115)=true:=by rw [h115];rfl
   clear h115
   have hX:=fun W1 (h:CmR w p s ext s1 W1)=>ksub_any w p s ext s1 W1 h hs hk2 hm2 hG hP
   clear hG hP hm2 hm3 hk2 hs hs4
   go_enter Tryz.func11,Tryz.ntmps11
   go_wp2_with (first | (go_at_call 17;refine hA.mono ?_;clear hA;rintro e w1 ⟨rfl,h1⟩;have H1:=Lib.hid h1;obtain ⟨ta,tb,ts,pa,pc,ma,mc,h1⟩:=h1;have c13:w1.cell? ⟨p,13,none⟩=some (.int .u8 (b.toNat:Int)):=(h1.q.cell 13).trans (by rw [←HB.out];rfl);clear h1) | (go_at_call 22;refine (hX _ H1.out).mono ?_;clear hX;rintro e w2 ⟨rfl,h2⟩))
   go_ret
   exact ⟨rfl,h2⟩
  rw [if_neg h115]
  have q115:((b.toNat:Int) == 115)=false:=cmu_ne (c:=115) (h115)
  clear h115
  by_cases h121:b=121
  ·rw [if_pos h121]
   have q121:((b.toNat:Int) == 121)=true:=by rw [h121];rfl
   clear h121
   have hX:=fun W1 (h:CmR w p s ext s1 W1)=>ktbl_any w p s ext s1 W1 h hs hk2 hm3 hP
   clear hG hP hm2 hm3 hk2 hs hs4
   go_enter Tryz.func11,Tryz.ntmps11
   go_wp2_with (first | (go_at_call 17;refine hA.mono ?_;clear hA;rintro e w1 ⟨rfl,h1⟩;have H1:=Lib.hid h1;obtain ⟨ta,tb,ts,pa,pc,ma,mc,h1⟩:=h1;have c13:w1.cell? ⟨p,13,none⟩=some (.int .u8 (b.toNat:Int)):=(h1.q.cell 13).trans (by rw [←HB.out];rfl);clear h1) | (go_at_call 23;refine (hX _ H1.out).mono ?_;clear hX;rintro e w2 ⟨rfl,h2⟩))
   go_ret
   exact ⟨rfl,h2⟩
  rw [if_neg h121]
  have q121:((b.toNat:Int) == 121)=false:=cmu_ne (c:=121) (h121)
  clear h121
  have hX:=fun W1 (h:CmR w p s ext s1 W1)=>kend_any w p s ext s1 W1 h hs4 hk2 hm3
  clear hG hP hm2 hm3 hk2 hs hs4
  go_enter Tryz.func11,Tryz.ntmps11
  go_wp2_with (first | (go_at_call 17;refine hA.mono ?_;clear hA;rintro e w1 ⟨rfl,h1⟩;have H1:=Lib.hid h1;obtain ⟨ta,tb,ts,pa,pc,ma,mc,h1⟩:=h1;have c13:w1.cell? ⟨p,13,none⟩=some (.int .u8 (b.toNat:Int)):=(h1.q.cell 13).trans (by rw [←HB.out];rfl);clear h1) | (go_at_call 24;refine (hX _ H1.out).mono ?_;clear hX;rintro e w2 ⟨rfl,h2⟩))
  go_ret
  exact ⟨rfl,h2⟩
 ·rw [if_neg h1]
  have ce:((e1:Int) != 0)=true:=by simpa using h1
  clear hok hl hk h1 hG hP
  go_enter Tryz.func11,Tryz.ntmps11
  go_wp2_with (go_at_call 17;refine hA.mono ?_;clear hA;rintro e w1 ⟨rfl,h1⟩)
  go_ret
  exact ⟨rfl,h1⟩
end Go.Proofs.YtbgfankoojjejaaGreatDoor
