/- The proof's texts CmWe, PcI, PcN, CmWf: what the claim reaches of them. -/
import Derived.Test.YtbgfankoojjejaaGreatDoorGd29
import Derived.Deep.RegionHeld3
import Derived.Test.YtbgfankoojjejaaGreatDoorGd25
import Derived.Laws.Runes
import Derived.Shelf.Small.Utf8
import Derived.Deep.LoopGhost
import Derived.WalkMore
set_option linter.unusedSimpArgs false
set_option linter.unusedVariables false
set_option maxHeartbeats 8000000
set_option maxRecDepth 1000000
namespace Go.Proofs.YtbgfankoojjejaaGreatDoor
open Go Go.RowKit
theorem CmSt.nth {w:World} {p:Nat} {s:ByteArray} {ext:Bool} {st:CS} {ta tb ts:Value} {pa:Option Addr} {pc:Nat} {ma:Option Addr} {mc:Nat} {W:World} (h:CmSt w p s ext st ta tb ts pa pc ma mc W) (n k:Nat):CmSt w p s ext (st.nth n k) ta tb ts pa pc ma mc ((W.setCell ⟨p,18,none⟩ (.int .i64 (n:Int))).setCell ⟨p,2,none⟩ (.int .i64 (k:Int))):=
 (h.put 18 (.int .i64 (n:Int)) { st with c:={ st.c with sub:={ st.c.sub with nth:=n } } } rfl rfl rfl rfl fun _ _=>rfl).go k
theorem knth_any (w:World) (p:Nat) (s:ByteArray) (ext:Bool) (st:CS) (W:World) (h:CmR w p s ext st W) (hs:s.size≤4000000) (hk:st.k≤s.size) :
  Calls Tryz.prog 60 #[.pointer (some ⟨p,0,none⟩)] W fun e W'=>e=.returned (.int .i64 ((cmNth s.data.toList st).1:Int))∧CmR w p s ext (cmNth s.data.toList st).2 W':=by
 obtain ⟨ta,tb,ts,pa,pc,ma,mc,h⟩:=h
 have hN:=fun w1=>pnumber_at s st.k w1 hs hk
 unfold cmNth
 obtain ⟨⟨n,q,e0⟩,hR⟩:∃ R,pcNum s.data.toList st.k=R:=⟨_,rfl⟩
 rw [hR] at hN ⊢
 have hN:∀ w1,Calls Tryz.prog 47 #[.string s,.int .i64 (st.k:Int)] w1 fun e w'=>e=.returned (.tuple #[.int .i64 (n:Int),.int .i64 (q:Int),.int .i64 (e0:Int)])∧Below w1.heap.size w1 w':=hN
 have HH:=Lib.hid h
 have k0:W.cell? ⟨p,0,none⟩=some (.string s):=(h.q.cell 0).trans rfl
 have k2:W.cell? ⟨p,2,none⟩=some (.int .i64 (st.k:Int)):=(h.q.cell 2).trans rfl
 clear h hR
 obtain ⟨Z,hZ⟩:∃ Z,cmNthOf st (n,q,e0)=Z:=⟨_,rfl⟩
 rw [hZ]
 have HZ:=Lib.hid hZ
 clear hZ
 go_enter Tryz.func60,Tryz.ntmps60
 go_upto_region 1 with fail
 go_cut [3,4,5] (fun s3 s4 s5 wx=>s3=.int .i64 (n:Int)∧s4=.int .i64 (q:Int)∧s5=.int .i64 (e0:Int)∧CmSt w p s ext st ta tb ts pa pc ma mc wx)
 case first=>
  go_region_held3 (fun w'=>w'.cell? ⟨p,0,none⟩=some (.string s)∧w'.cell? ⟨p,2,none⟩=some (.int .i64 (st.k:Int))) (first | exact ⟨k0,k2⟩ | (refine ⟨?_,?_⟩ <;> assumption)) (first | (go_at_call 47;refine (hN _).mono ?_;rintro e w1 ⟨rfl,b1⟩;have H1:=Lib.hid (by first | exact HH.out.step b1 | exact HH.out.drew.step b1:CmSt w p s ext st ta tb ts pa pc ma mc w1);have m0:w1.cell? ⟨p,0,none⟩=some (.string s):=(H1.out.q.cell 0).trans rfl;have m2:w1.cell? ⟨p,2,none⟩=some (.int .i64 (st.k:Int)):=(H1.out.q.cell 2).trans rfl;clear b1))
  all_goals ((try go_wp2_with fail);go_meet;exact ⟨rfl,rfl,rfl,H1.out⟩)
 case rest=>
  obtain ⟨rfl,rfl,rfl,h2⟩:=hcut
  have H2:=Lib.hid h2
  clear h2 k0 k2
  have k2:World.cell? wc ⟨p,2,none⟩=some (.int .i64 (st.k:Int)):=(H2.out.q.cell 2).trans rfl
  have k18:World.cell? wc ⟨p,18,none⟩=some (.int .i64 (st.c.sub.nth:Int)):=(H2.out.q.cell 18).trans rfl
  have f2:=H2.out.q.frozen 2
  have f18:=H2.out.q.frozen 18
  by_cases he:e0=0
  ·subst he
   by_cases h18:st.c.sub.nth=0
   ·have c18:((st.c.sub.nth:Int) != 0)=false:=by simp [h18]
    by_cases hn:n=0
    ·subst hn
     obtain rfl:(1,st)=Z:=by rw [←HZ.out];unfold cmNthOf;simp [h18]
     clear h18
     go_wp2_with fail
     go_ret
     exact ⟨rfl,H2.out.R⟩
    ·obtain rfl:(0,st.nth n q)=Z:=by rw [←HZ.out];unfold cmNthOf;simp [h18,hn]
     have cn:((n:Int) == 0)=false:=by simpa using hn
     have H3:=Lib.hid (H2.out.nth n q)
     clear h18 hn
     go_wp2_with fail
     go_ret
     exact ⟨rfl,H3.out.R⟩
   ·obtain rfl:(15,st)=Z:=by rw [←HZ.out];unfold cmNthOf;simp [h18]
    have c18:((st.c.sub.nth:Int) != 0)=true:=by simpa using h18
    clear h18
    go_wp2_with fail
    go_ret
    exact ⟨rfl,H2.out.R⟩
  ·obtain rfl:(e0,st)=Z:=by rw [←HZ.out];unfold cmNthOf;simp [he]
   have ce:((e0:Int) != 0)=true:=by simpa using he
   clear he
   go_wp2_with fail
   go_ret
   exact ⟨rfl,H2.out.R⟩
theorem CmSt.name {w:World} {p:Nat} {s:ByteArray} {ext:Bool} {st:CS} {ta tb ts:Value} {pa:Option Addr} {pc:Nat} {ma:Option Addr} {mc:Nat} {W:World} (h:CmSt w p s ext st ta tb ts pa pc ma mc W) (b:UInt8) {k1:Nat} (hk:st.k+1=k1):CmSt w p s ext (st.name b) ta tb ts pa pc ma mc ((W.setCell ⟨p,13,none⟩ (.int .u8 (b.toNat:Int))).setCell ⟨p,2,none⟩ (.int .i64 (k1:Int))):=by
 subst hk
 exact (h.put 13 (.int .u8 (b.toNat:Int)) { st with c:={ st.c with name:=b } } rfl rfl rfl rfl fun _ _=>rfl).go (st.k+1)
theorem one_list (s:ByteArray) (k:Nat) (h:k < s.size):(s.extract k (k+1)).data.toList=[s[k]]:=by
 rw [ByteArray.data_extract,Array.toList_extract,List.extract_eq_take_drop,drop_at s k h]
 rw [show k+1 - k=1 by omega]
 rfl
theorem cmTold_not {b:UInt8} (h:cmTold b=false):¬ b=81∧¬ b=84∧¬ b=122:=by
 simpa [cmTold,and_assoc] using h
theorem cmTold_yes {b:UInt8} (h:cmTold b=true):b=81∨b=84∨b=122:=by
 simpa [cmTold,or_assoc] using h
theorem kname_any (w:World) (p:Nat) (s:ByteArray) (ext:Bool) (st:CS) (W:World) (h:CmR w p s ext st W) (hs:s.size≤4000000) (hk:st.k≤s.size) (hl:st.ms.length≤100000) :
  Calls Tryz.prog 17 #[.pointer (some ⟨p,0,none⟩)] W fun e W'=>e=.returned (.int .i64 ((cmName s.data.toList st).1:Int))∧CmR w p s ext (cmName s.data.toList st).2 W':=by
 obtain ⟨ta,tb,ts,pa,pc,ma,mc,h⟩:=h
 unfold cmName
 have HH:=Lib.hid h
 have Hl:=Lib.hid hl
 have k0:W.cell? ⟨p,0,none⟩=some (.string s):=(h.q.cell 0).trans rfl
 have k2:W.cell? ⟨p,2,none⟩=some (.int .i64 (st.k:Int)):=(h.q.cell 2).trans rfl
 clear h hl
 by_cases hz:st.k=s.size
 ·rw [drop_end s st.k (by omega)]
  have hE:((st.k:Int) == (s.size:Int))=true:=by simp [hz]
  clear hz
  simp only
  go_enter Tryz.func17,Tryz.ntmps17
  go_upto_region 1 with fail
  go_quiet (fail)
  generalize nq=n1
  go_wp2_with fail
  go_ret
  exact ⟨rfl,(HH.out.drewN n1).R⟩
 ·have hlt:st.k < s.size:=by omega
  rw [drop_at s st.k hlt]
  have hE:((st.k:Int) == (s.size:Int))=false:=by simp;omega
  have hy0:(0:Int)≤(st.k:Int):=by omega
  have hy1:(st.k:Int) < (s.size:Int):=by omega
  obtain ⟨K1,hK1⟩:∃ K1,st.k+1=K1:=⟨_,rfl⟩
  have Wk:IntKind.i64.wrap ((st.k:Int)+1)=(K1:Int):=by rw [IntWalk.i64_in _ (by omega)];omega
  have hs1:(st.k:Int)≤(K1:Int):=by omega
  have hs2:(K1:Int)≤(s.size:Int):=by omega
  have hs3:st.k≤K1:=by omega
  have hs4:K1≤s.size:=by omega
  have HK1:=Lib.hid hK1
  clear hz
  simp only
  have hMo:=fun w1=>kmost_any s[st.k] w1
  have hO:=one_list s st.k hlt
  rw [hK1] at hO
  clear hK1
  obtain ⟨b,hb⟩:∃ b,s[st.k]=b:=⟨_,rfl⟩
  rw [hb] at hMo hO ⊢
  have hsx:s[st.k]'hlt=b:=hb
  obtain ⟨M,hM⟩:∃ M,cmMost b=M:=⟨_,rfl⟩
  rw [hM] at hMo ⊢
  clear hM hb
  obtain ⟨Z,hZ⟩:∃ Z,cmNameOf st b M=Z:=⟨_,rfl⟩
  rw [hZ]
  have HZ:=Lib.hid hZ
  clear hZ
  have hA:=fun w1=>kadds_any st.c.g (st.c.g.a.line:Int) (st.c.g.b.line:Int) (txt st.c.g.a.text) (txt st.c.g.b.text) ta tb w1 HH.out.ha.shape HH.out.hb.shape
  have hsa:=HH.out.ha.shape
  have hsb:=HH.out.hb.shape
  go_enter Tryz.func17,Tryz.ntmps17
  go_upto_region 1 with fail
  go_quiet (fail)
  generalize nq=n1
  go_upto_region 3 with fail
  go_quiet (fail)
  have H4:=Lib.hid (HH.out.drewN (n1+nq))
  generalize nq=n2 at H4 ⊢
  cases M with
  | none=>
   have hMo:∀ w1,Calls Tryz.prog 34 #[.int .u8 (b.toNat:Int)] w1 fun e w'=>e=.returned (.tuple #[.int .i64 0,.bool false])∧w'=w1:=hMo
   obtain rfl:(13,st)=Z:=HZ.out
   go_wp2_with (go_at_call 34;refine (hMo _).mono ?_;rintro e w4 ⟨rfl,rfl⟩)
   go_ret
   exact ⟨rfl,H4.out.R⟩
  | some n=>
   have hMo:∀ w1,Calls Tryz.prog 34 #[.int .u8 (b.toNat:Int)] w1 fun e w'=>e=.returned (.tuple #[.int .i64 (n:Int),.bool true])∧w'=w1:=hMo
   obtain ⟨_,⟨k3,k4,k5,k6,k7,k8,k9,k10,k11,k12⟩,_,hpl⟩:=blk24c HH.out.q
   obtain ⟨m,hm⟩:∃ m,cmAdds st.c.g=m:=⟨_,rfl⟩
   rw [hm] at hA
   by_cases hx:n < m
   ·obtain rfl:(19,st)=Z:=by rw [←HZ.out];unfold cmNameOf;simp [hm,hx]
    have hxi:(n:Int) < (m:Int):=by omega
    clear hx hm
    go_wp2_with (first
     | (go_at_call 34;refine (hMo _).mono ?_;rintro e w4 ⟨rfl,rfl⟩)
     | (go_at_call 35;refine (hA _).mono ?_;clear hA;rintro e w5 ⟨rfl,b5⟩))
    go_ret
    exact ⟨rfl,(H4.out.step b5).R⟩
   ·have hxi:¬ (n:Int) < (m:Int):=by omega
    go_upto_region 9 with (first
     | (go_at_call 34;refine (hMo _).mono ?_;rintro e w4 ⟨rfl,rfl⟩)
     | (go_at_call 35;refine (hA _).mono ?_;rintro e w5 ⟨rfl,b5⟩))
    have H5:=Lib.hid (H4.out.step b5)
    clear H4 b5 k0 k2 k3 k4 k5 k6 k7 k8 k9 k10 k11 k12 hpl hA hMo
    have k0:w5.cell? ⟨p,0,none⟩=some (.string s):=(H5.out.q.cell 0).trans rfl
    have k2:w5.cell? ⟨p,2,none⟩=some (.int .i64 (st.k:Int)):=(H5.out.q.cell 2).trans rfl
    have k13:w5.cell? ⟨p,13,none⟩=some (.int .u8 (st.c.name.toNat:Int)):=(H5.out.q.cell 13).trans rfl
    have f2:=H5.out.q.frozen 2
    have f13:=H5.out.q.frozen 13
    obtain ⟨T,hT⟩:∃ T,cmTold b=T:=⟨_,rfl⟩
    cases T with
    | false=>
     obtain rfl:(0,st.name b)=Z:=by rw [←HZ.out];unfold cmNameOf;simp [hm,hx,hT]
     obtain ⟨q1,q2,q3⟩:=cmTold_not hT
     have c1:((b.toNat:Int) == 81)=false:=cmu_ne (c:=81) q1
     have c2:((b.toNat:Int) == 84)=false:=cmu_ne (c:=84) q2
     have c3:((b.toNat:Int) == 122)=false:=cmu_ne (c:=122) q3
     have H6:=Lib.hid (H5.out.name b HK1.out)
     clear q1 q2 q3 hT hm hx
     go_wp2_with fail
     go_ret
     exact ⟨rfl,H6.out.R⟩
    | true=>
     obtain rfl:(0,(st.mark st.k [b]).name b)=Z:=by rw [←HZ.out];unfold cmNameOf;simp [hm,hx,hT]
     have hMk:=fun w1 (h1:CmSt w p s ext st ta tb ts pa pc ma mc w1)=>kmark_any w p s ext st ta tb ts pa pc ma mc (s.extract st.k K1) w1 h1 Hl.out
     rw [hO] at hMk
     rcases cmTold_yes hT with rfl | rfl | rfl
     all_goals
      clear hT hm hx
      go_upto_region 13 with fail
      go_region_held3 (fun w'=>w'.cell? ⟨p,0,none⟩=some (.string s)∧w'.cell? ⟨p,2,none⟩=some (.int .i64 (st.k:Int))) (first | exact ⟨k0,k2⟩ | (refine ⟨?_,?_⟩ <;> assumption)) (first | (go_at_call 36;refine (hMk _ (by first | exact H5.out | exact H5.out.drew)).mono ?_;rintro e w6 ⟨rfl,a6,c6,h6⟩;have H6:=Lib.hid h6;have m0:w6.cell? ⟨p,0,none⟩=some (.string s):=(h6.q.cell 0).trans rfl;have m2:w6.cell? ⟨p,2,none⟩=some (.int .i64 (st.k:Int)):=(h6.q.cell 2).trans rfl;clear h6))
      all_goals
       clear k0 k2 k13 f2 f13
       have k13:w6.cell? ⟨p,13,none⟩=some (.int .u8 (st.c.name.toNat:Int)):=(H6.out.q.cell 13).trans rfl
       have f2:=H6.out.q.frozen 2
       have f13:=H6.out.q.frozen 13
       have H7:=Lib.hid (fun b=>H6.out.name b HK1.out)
       go_wp2_with fail
       go_ret
       exact ⟨rfl,(H7.out _).R⟩
end Go.Proofs.YtbgfankoojjejaaGreatDoor
namespace Go.Proofs.YtbgfankoojjejaaGreatDoor
open Go.RowKit
/-- The rune that is no rune: none of the two. -/
theorem indexRune_err (t:ByteArray) (ht:t.size=2) (ha:∀ i (h:i < t.size),t[i].toNat < 128) (w:World) :
  Calls Tryz.prog 91 #[.string t,.int .i32 65533] w fun e w'=>e=.returned (.int .i64 (-1))∧Below w.heap.size w w':=by
 go_enter Tryz.func91,Tryz.ntmps91
 have HA:=Lib.hid ha
 clear ha
 go_wp2
 go_loopg [5,6] 2 (fun g _ _ wx=>∃ i:Nat,i+g=2∧wx=w.iter t i)
 case atStart=>exact ⟨0,by omega,rfl⟩
 case round=>
  obtain ⟨i,hig,rfl⟩:=hrel
  cases gk with
  | zero=>
   obtain rfl:i=2:=by omega
   have hnx:=fun ty=>run_next_end (P:=Tryz.prog) w t 2 ty (by omega)
   go_wp2
   go_ret
   exact ⟨rfl,(Below.refl _ w).alloc (Nat.le_refl _) _⟩
  | succ g=>
   have hi:i < t.size:=by omega
   have h128:=HA.out i hi
   have hnx:=fun ty=>run_next_ascii (P:=Tryz.prog) w t i ty hi h128
   have hq:((t[i].toNat:Int) == 65533)=false:=beq_eq_false_iff_ne.2 (by omega)
   go_wp2
   go_roundg g
   case measure=>omega
   case rel=>exact ⟨i+1,by omega,rfl⟩
/-- Any other rune beyond ASCII. -/
theorem indexRune_hi (t:ByteArray) (ht:t.size=2) (ha:∀ i (h:i < t.size),t[i].toNat < 128) (r:Int) (hv:Utf8.valid r=true) (h128:128≤r) (hm:r≤1114111) (hne:¬ r=65533) (w:World) :
  Calls Tryz.prog 91 #[.string t,.int .i32 r] w fun e w'=>e=.returned (.int .i64 (-1))∧Below w.heap.size w w':=by
 obtain ⟨e2,e4,elast⟩:=encode_facts r hv h128
 have hq:(r == 65533)=false:=beq_eq_false_iff_ne.2 hne
 have hV:Calls Tryz.prog 116 #[.int .i32 r] w fun e w'=>e=.returned (.bool true)∧w'=w:=by
  have:=Any.utf8_ValidRune (P:=Tryz.prog) (ρ:=pren161) { play161 with } r w
  rw [show Lib.validRune r=true from by rw [←hv,validRune_eq];rfl] at this
  exact this
 generalize hE:Utf8.encode r=E at e2 e4 elast
 have hc1:(r < 128)=False:=eq_false (by omega)
 have h0:(0:Int)≤r:=by omega
 have hL1:IntKind.i64.wrap ((E.size:Int) - 1)=(E.size:Int) - 1:=IntWalk.i64_in _ (by omega)
 clear hne hv
 have hcv:∀ w,(convert 21 9 (.int .i32 r)).run Tryz.prog w=.ok (.string E) w:=fun w=>by
  rw [←hE];exact run_convert_int_string w 21 9 .i32 r (by rw [Tryz.underlying21];rfl) Tryz.underlying9
 go_enter Tryz.func91,Tryz.ntmps91
 by_cases hs2:E.size=2
 ·have hlast:=elast (by omega)
  have hL2:IntKind.i64.wrap ((E.size:Int) - 1)=1:=by rw [hL1];omega
  have h1a:=ha 1 (by omega)
  have hq59:((t[1]'(by omega)).toNat:Int) != (E[1]'(by omega)).toNat:=bne_iff_ne.2 (by
   have:(E[E.size - 1]'(by omega))=E[1]'(by omega):=by congr 1;omega
   rw [this] at hlast;omega)
  have hlt1:(1:Int) < (E.size:Int):=by omega
  have htt:(t.size:Int)=2:=by omega
  have hw2:IntKind.i64.wrap 2=2:=by decide
  have hle2:(2:Int)≤(t.size:Int):=by omega
  have hIB:∀ (c:UInt8) w,Calls Tryz.prog 85 #[.string ByteArray.empty,.int .u8 c.toNat] w fun e w'=>e=.returned (.int .i64 (-1))∧w'=w:=fun c w=>
   indexByte_k ByteArray.empty c w
  clear hlast elast hE ha h1a
  go_wp2_with (go_at_call 116;refine hV.mono ?_;rintro e w' ⟨rfl,rfl⟩)
  go_step3
  go_wp2
  refine wp_loop_rounds 1 ?_
  rw [rounds_succ]
  go_wp2
  go_step3
  go_wp2
  go_quiet (fail)
  generalize hW1:w'.drewN _=W1
  go_wp2
  go_quiet (first | (go_at_call 85;exact Calls.quiet_of_same (hIB _ _)))
  go_wp2
  simp only [Exit.inBlock,Exit.then,Exit.noGoto]
  go_ret
  refine ⟨rfl,below_drewN ?_ _⟩
  rw [←hW1]
  exact below_drewN (Below.refl _ _) _
 ·have hge:¬ ((E.size:Int) - 1 < (t.size:Int)):=by omega
  clear elast hE ha
  go_wp2_with (go_at_call 116;refine hV.mono ?_;rintro e w' ⟨rfl,rfl⟩)
  go_step3
  go_wp2
  refine wp_loop_rounds 1 ?_
  rw [rounds_succ]
  go_wp2
  try rw [Exit.noGoto_ret]
  go_ret
  exact ⟨rfl,Below.refl _ _⟩
theorem decodeN_hiB (n b c d e:Nat) (hn:1≤n) (h:¬ b < 128) (hb:b < 256) :
  128≤(Lib.decodeN n b c d e).1∧(Lib.decodeN n b c d e).1≤1114111∧((Lib.decodeN n b c d e).1 < 55296∨57343 < (Lib.decodeN n b c d e).1)∧1≤(Lib.decodeN n b c d e).2∧(Lib.decodeN n b c d e).2≤n∧(Lib.decodeN n b c d e).2≤4∧
   (2≤(Lib.decodeN n b c d e).2→128≤c)∧(3≤(Lib.decodeN n b c d e).2→128≤d)∧(4≤(Lib.decodeN n b c d e).2→128≤e):=by
 unfold Lib.decodeN
 rw [if_neg h]
 repeat' split
 all_goals (simp only;omega)
theorem decode_hiB (s:ByteArray) (pos:Nat) (hp:pos < s.size) (h:¬ s[pos].toNat < 128) :
  128≤(Utf8.decode s pos).1∧(Utf8.decode s pos).1≤1114111∧Utf8.valid ((Utf8.decode s pos).1:Int)=true∧1≤(Utf8.decode s pos).2∧pos+(Utf8.decode s pos).2≤s.size∧
   ∀ (j:Nat) b,pos≤j→j < pos+(Utf8.decode s pos).2→s.data.toList[j]?=some b→128≤b.toNat:=by
 have hx:s.data.toList[pos]?=some s[pos]:=Lib.data_getElem? s pos hp
 have h0:(s.data.toList.getD pos 0)=s[pos]:=by rw [List.getD_eq_getElem?_getD,hx];rfl
 have H:=decodeN_hiB (s.data.toList.length - pos) (s.data.toList.getD pos 0).toNat (s.data.toList.getD (pos+1) 0).toNat (s.data.toList.getD (pos+2) 0).toNat (s.data.toList.getD (pos+3) 0).toNat (by rw [←size_list];omega) (by rw [h0];exact h) (UInt8.toNat_lt _)
 rw [←decode_list] at H
 obtain ⟨h1,h2,h3,h4,h5,h6,h7,h8,h9⟩:=H
 rw [←size_list] at h5
 refine ⟨h1,h2,?_,h4,by omega,fun j b hj1 hj2 hb=>?_⟩
 ·simp only [Utf8.valid,Bool.or_eq_true,Bool.and_eq_true,decide_eq_true_eq];omega
 ·have hg:∀ k,j=k→(s.data.toList.getD k 0)=b:=fun k hk=>by rw [List.getD_eq_getElem?_getD,←hk,hb];rfl
  by_cases c0:j=pos
  ·rw [←hg pos c0,h0];omega
  by_cases c1:j=pos+1
  ·rw [←hg (pos+1) c1];exact h7 (by omega)
  by_cases c2:j=pos+2
  ·rw [←hg (pos+2) c2];exact h8 (by omega)
  ·rw [←hg (pos+3) (by omega)];exact h9 (by omega)
theorem asc_two:∀ i (h:i < (⟨#[10,59]⟩:ByteArray).size),(⟨#[10,59]⟩:ByteArray)[i].toNat < 128:=fun i h=>by
 match i,h with
 | 0,_=>exact of_decide_eq_true rfl
 | 1,_=>exact of_decide_eq_true rfl
theorem asc_name:∀ (j:Nat) b,(⟨#[10,59]⟩:ByteArray).data.toList[j]?=some b→b.toNat < 128:=ascii_of_all (by decide)
theorem asc_line:∀ (j:Nat) b,(⟨#[10]⟩:ByteArray).data.toList[j]?=some b→b.toNat < 128:=ascii_of_all (by decide)
theorem indexAny_short (s:ByteArray) (w:World) (h8:s.size≤8) :
  Calls Tryz.prog 71 #[.string s,.string ⟨#[10,59]⟩] w fun e w'=>e=.returned (.int .i64 (Lib.indexAny s.data.toList [10,59]))∧Below w.heap.size w w':=by
 have h8z:decide ((8:Int) < (s.size:Int))=false:=decide_eq_false (by omega)
 have hU:=Any.strings_shouldUseASCIISet (P:=Tryz.prog) (ρ:=pren153) { play153 with } (s.size:Int) w
 rw [h8z] at hU
 have hA:∀ (x:UInt8) w,x.toNat < 128→Calls Tryz.prog 91 #[.string ⟨#[10,59]⟩,.int .i32 x.toNat] w fun e w'=>e=.returned (.int .i64 (Lib.indexByte [10,59] x))∧w'=w:=fun x w h=>by
  have:=Any.strings_IndexRune_ascii (P:=Tryz.prog) (ρ:=pren153) { play153 with } ⟨#[10,59]⟩ (x.toNat:Int) w (by omega) (by omega)
  rw [Lib.byte_back'] at this
  exact this
 have hH:∀ (r:Int) w,Utf8.valid r=true→128≤r→r≤1114111→Calls Tryz.prog 91 #[.string ⟨#[10,59]⟩,.int .i32 r] w fun e w'=>e=.returned (.int .i64 (-1))∧Below w.heap.size w w':=fun r w hv h1 h2=>by
  by_cases h:r=65533
  ·rw [h];exact indexRune_err ⟨#[10,59]⟩ rfl asc_two w
  ·exact indexRune_hi ⟨#[10,59]⟩ rfl asc_two r hv h1 h2 h w
 go_enter Tryz.func71,Tryz.ntmps71
 go_wp2_with (go_at_call 92;refine hU.mono ?_;rintro e w' ⟨rfl,rfl⟩)
 go_loopw [9,10] (fun _ _ wr=>∃ pos:Nat,wr.heap[w'.heap.size]?=some (.stringIter s pos)∧Below w'.heap.size w' wr∧pos≤s.size∧Lib.NoAny s.data.toList [10,59] pos) (fun _ _ wr=>s.size - wr.iterPos w'.heap.size)
 case atStart=>
  refine ⟨0,?_,(Below.refl _ w').alloc (Nat.le_refl _) _,by omega,Lib.NoAny.zero _ _⟩
  have:=World.iter_heap w' s 0
  simpa using this
 case round=>
  obtain ⟨pos,hit,hbw,hple,hno⟩:=hrel
  have HN:=Lib.hid hno
  clear hno
  have hsz:w'.heap.size < wr.heap.size:=(Array.getElem?_eq_some_iff.1 hit).1
  by_cases hp:pos < s.size
  ·obtain ⟨x,hx⟩:∃ x,s[pos]=x:=⟨_,rfl⟩
   have hxl:s.data.toList[pos]?=some x:=by rw [←hx];exact Lib.data_getElem? s pos hp
   by_cases h128:x.toNat < 128
   ·have hnx:∀ ty,(Instr.next (.pointer (some ⟨w'.heap.size,0,none⟩)) true ty).run Tryz.prog wr=_:=fun ty=>Lib.run_next_ascii_at wr w'.heap.size s pos ty hit hp (by rw [hx];exact h128)
    rw [hx] at hnx
    have Hx:=Lib.hid hxl
    have hA1:=hA x (wr.iterAt w'.heap.size s (pos+1)) h128
    have hit2:=Lib.iterAt_heap wr w'.heap.size s pos (pos+1) hit
    have hbw2:=Lib.below_iterAt hbw (k:=w'.heap.size) (by omega) s (pos+1)
    clear hxl hx hA hH
    cases hin:([10,59]:List UInt8).contains x with
    | true=>
     have hge:(0:Int)≤Lib.indexByte [10,59] x:=of_decide_eq_true ((Lib.contains_iff_indexByte _ _).symm.trans hin)
     have Hin:=Lib.hid hin
     clear hin
     generalize Lib.indexByte [10,59] x=ix at *
     go_wp2_with (go_at_call 91;refine hA1.mono ?_;rintro e w' ⟨rfl,rfl⟩)
     go_ret
     exact ⟨by rw [Lib.indexAny_hit HN.out Hx.out Hin.out];rfl,hbw2⟩
    | false=>
     have hlt:¬ (0:Int)≤Lib.indexByte [10,59] x:=of_decide_eq_false ((Lib.contains_iff_indexByte _ _).symm.trans hin)
     have Hin:=Lib.hid hin
     clear hin
     generalize Lib.indexByte [10,59] x=ix at *
     go_wp2_with (go_at_call 91;refine hA1.mono ?_;rintro e w' ⟨rfl,rfl⟩)
     go_roundw
     case rel=>exact ⟨pos+1,hit2,hbw2,by omega,HN.out.succ Hx.out Hin.out⟩
     case measure=>simp only [World.iterPos,hit2,hit];omega
   ·have hnx:∀ ty,(Instr.next (.pointer (some ⟨w'.heap.size,0,none⟩)) true ty).run Tryz.prog wr=_:=fun ty=>Lib.run_next_any_at wr w'.heap.size s pos ty hit hp
    obtain ⟨d1,d2,d3,d4,d5,d6⟩:=decode_hiB s pos hp (by rw [hx];exact h128)
    have hH1:=hH ((Utf8.decode s pos).1:Int) (wr.iterAt w'.heap.size s (pos+(Utf8.decode s pos).2)) d3 (by omega) (by omega)
    have hit2:=Lib.iterAt_heap wr w'.heap.size s pos (pos+(Utf8.decode s pos).2) hit
    have hbw2:=Lib.below_iterAt hbw (k:=w'.heap.size) (by omega) s (pos+(Utf8.decode s pos).2)
    have hsz2:w'.heap.size < (wr.iterAt w'.heap.size s (pos+(Utf8.decode s pos).2)).heap.size:=by rw [Lib.iterAt_size];exact hsz
    have Hno:=Lib.hid (show Lib.NoAny s.data.toList [10,59] (pos+(Utf8.decode s pos).2) from fun j b hj hb=>by
     by_cases hjp:j < pos
     ·exact HN.out j b hjp hb
     ·have:=d6 j b (by omega) hj hb
      cases hc:([10,59]:List UInt8).contains b with
      | false=>rfl
      | true=>
       simp at hc
       rcases hc with rfl | rfl <;> simp at this)
    clear d1 d2 d3 d6 hxl hx hA hH h128 HN
    generalize (Utf8.decode s pos).1=dr at *
    generalize (Utf8.decode s pos).2=dn at *
    go_wp2_with (go_at_call 91;refine hH1.mono ?_;rintro e w1 ⟨rfl,hb1⟩)
    have hit3:w1.heap[w'.heap.size]?=some (.stringIter s (pos+dn)):=by rw [hb1.block _ hsz2];exact hit2
    go_roundw
    case rel=>exact ⟨pos+dn,hit3,hbw2.trans (hb1.mono (by omega)),d5,Hno.out⟩
    case measure=>simp only [World.iterPos,hit3,hit];omega
  ·have hnx:∀ ty,(Instr.next (.pointer (some ⟨w'.heap.size,0,none⟩)) true ty).run Tryz.prog wr=_:=fun ty=>Lib.run_next_end_at wr w'.heap.size s pos ty hit hp
   clear hA hH
   go_wp2
   go_ret
   refine ⟨?_,hbw⟩
   rw [Lib.indexAny_none (by rw [←Lib.size_eq,show s.size=pos by omega];exact HN.out)]
   rfl
theorem indexAny_any (s:ByteArray) (label:Bool) (w:World) (hs:s.size≤4000000) :
  Calls Tryz.prog 71 #[.string s,.string (if label then ⟨#[10,59]⟩ else ⟨#[10]⟩)] w fun e w'=>e=.returned (.int .i64 (Lib.indexAny s.data.toList (if label then [10,59] else [10])))∧Below w.heap.size w w':=by
 cases label with
 | false=>exact (indexAny_one s ⟨#[10]⟩ w rfl asc_line).mono fun e w' ⟨h1,h2⟩=>⟨h1,h2▸Below.refl _ _⟩
 | true=>
  by_cases h8:s.size≤8
  ·exact indexAny_short s w h8
  ·exact indexAny_long s ⟨#[10,59]⟩ w (by decide) (by omega) (by omega) (by decide) asc_name
end Go.Proofs.YtbgfankoojjejaaGreatDoor
namespace Go.Proofs.YtbgfankoojjejaaGreatDoor
open Go.RowKit
theorem pcEnder_is (label:Bool) (b:UInt8):(if label then [10,59] else [10]:List UInt8).contains b=pcEnder label b:=by
 cases label with
 | false=>
  show List.elem b [10]=(b == 10 || (false && b == 59))
  cases h:(b == 10) <;> simp only [List.elem,h,Bool.false_and,Bool.or_false]
 | true=>
  show List.elem b [10,59]=(b == 10 || (true && b == 59))
  cases h:(b == 10) <;> cases h2:(b == 59) <;> simp only [List.elem,h,h2,Bool.true_and,Bool.or_false,Bool.or_true]
theorem pnameEnd_at (s:ByteArray) (k:Nat) (label:Bool) (w:World) (hs:s.size≤4000000) (hk:k≤s.size) :
  Calls Tryz.prog 52 #[.string s,.int .i64 k,.bool label] w fun e w'=>e=.returned (.int .i64 ((k+pcEnd label (s.data.toList.drop k):Nat):Int))∧Below w.heap.size w w':=by
 have hI:=indexAny_any (s.extract k s.size) label w (by simp;omega)
 rw [extractEnd_list,indexAny_len] at hI
 have hf:(fun b=>!(if label then [10,59] else [10]:List UInt8).contains b)=fun b=>!pcEnder label b:=funext fun b=>by rw [pcEnder_is]
 rw [hf] at hI
 have hle:=pcLen_le (fun b=>!pcEnder label b) (s.data.toList.drop k)
 rw [List.length_drop,←size_list] at hI hle
 unfold pcEnd
 generalize pcLen (fun b=>!pcEnder label b) (s.data.toList.drop k)=m at hI hle ⊢
 clear hf
 by_cases hm:m < s.size - k
 ·rw [if_pos hm] at hI
  have h0:(0:Int)≤(m:Int):=by omega
  have hW:IntKind.i64.wrap ((k:Int)+(m:Int))=((k+m:Nat):Int):=by rw [IntWalk.i64_in _ (by omega)];omega
  go_enter Tryz.func52,Tryz.ntmps52
  cases label
  ·go_wp2_with (go_at_call 71;refine hI.mono ?_;rintro e w1 ⟨rfl,hb⟩)
   go_ret
   exact ⟨by go_num,hb⟩
  ·go_wp2_with (go_at_call 71;refine hI.mono ?_;rintro e w1 ⟨rfl,hb⟩)
   go_ret
   exact ⟨by go_num,hb⟩
 ·rw [if_neg hm] at hI
  have hE:((k+m:Nat):Int)=(s.size:Int):=by omega
  rw [hE]
  go_enter Tryz.func52,Tryz.ntmps52
  cases label
  ·go_wp2_with (go_at_call 71;refine hI.mono ?_;rintro e w1 ⟨rfl,hb⟩)
   go_ret
   exact ⟨rfl,hb⟩
  ·go_wp2_with (go_at_call 71;refine hI.mono ?_;rintro e w1 ⟨rfl,hb⟩)
   go_ret
   exact ⟨rfl,hb⟩
theorem pname_at (s:ByteArray) (k:Nat) (label:Bool) (w:World) (hs:s.size≤4000000) (hk:k≤s.size) :
  Calls Tryz.prog 37 #[.string s,.int .i64 k,.bool label] w fun e w'=>e=pcA (pcName s.data.toList k label)∧Below w.heap.size w w':=by
 have hP:=place_yes s k w hk
 have hE:=pnameEnd_at s k label w hs hk
 have hle:=pcLen_dropLe (fun b=>!pcEnder label b) s k hk
 have hR:pcName s.data.toList k label=pcNameOf (Lib.trimS ((s.data.toList.drop k).take (pcEnd label (s.data.toList.drop k))) [32,9]) k (k+pcEnd label (s.data.toList.drop k)):=rfl
 rw [hR]
 clear hR
 have hle':k+pcEnd label (s.data.toList.drop k)≤s.size:=hle
 clear hle
 generalize pcEnd label (s.data.toList.drop k)=m at hE hle' ⊢
 have hT:=fun w=>trim_k (s.extract k (k+m)) ⟨#[32,9]⟩ w (by simp;omega) (by decide) asc_blanks
 rw [extract_list2,show k+m - k=m by omega] at hT
 rw [show (⟨#[32,9]⟩:ByteArray).data.toList=[32,9] from rfl] at hT
 generalize Lib.trimS ((s.data.toList.drop k).take m) [32,9]=n at hT ⊢
 have hns:=txt_size n
 obtain ⟨E,hEE⟩:∃ E:Nat,k+m=E:=⟨_,rfl⟩
 rw [hEE] at hE hT hle' ⊢
 have hE0:(k:Int)≤(E:Int):=by omega
 have hE1:(E:Int)≤(s.size:Int):=by omega
 have hE2:k≤E:=by omega
 obtain ⟨R,hRR⟩:∃ R,pcNameOf n k E=R:=⟨_,rfl⟩
 rw [hRR]
 unfold pcNameOf at hRR
 have HR:=Lib.hid hRR
 clear hRR hEE
 have hb0:((txt n).toList == [])=n.isEmpty:=by rw [ByteArray.toList_eq,txt_list];cases n <;> rfl
 have hb1:(txt n).toList.isEmpty=n.isEmpty:=by rw [ByteArray.toList_eq,txt_list]
 obtain ⟨r,hr⟩:∃ r,txt n=r:=⟨_,rfl⟩
 rw [hr] at hT hns hb0 hb1
 have Hr:=Lib.hid hr
 clear hr
 go_enter Tryz.func37,Tryz.ntmps37
 by_cases hn:n=[]
 ·have c0:(r.toList == [])=true:=by rw [hb0,hn];rfl
  have c1:r.toList.isEmpty=true:=by rw [hb1,hn];rfl
  have c2:r.toList=[]:=List.isEmpty_iff.1 c1
  have Hn:=Lib.hid hn
  clear hb0 hb1 hn
  go_wp2_with (first
   | (go_at_call 51;refine hP.mono ?_;rintro e w' ⟨rfl,rfl⟩)
   | (go_at_call 52;refine hE.mono ?_;rintro e w1 ⟨rfl,hb⟩)
   | (go_at_call 53;refine (hT _).mono ?_;rintro e w2 ⟨rfl,hb2⟩))
  go_ret3
  refine ⟨?_,hb.trans (hb2.mono hb.size)⟩
  rw [←HR.out,if_pos Hn.out]
  rfl
 ·have c1:r.toList.isEmpty=false:=by rw [hb1];cases n <;> simp_all
  have c0:(r.toList == [])=false:=by rw [hb0,←hb1];exact c1
  have c2:¬ r.toList=[]:=fun h=>by rw [h] at c1;cases c1
  have Hn:=Lib.hid hn
  clear hb0 hb1 hn
  by_cases h40:40 < n.length
  ·have h40':(40:Int) < (r.size:Int):=by omega
   go_wp2_with (first
    | (go_at_call 51;refine hP.mono ?_;rintro e w' ⟨rfl,rfl⟩)
    | (go_at_call 52;refine hE.mono ?_;rintro e w1 ⟨rfl,hb⟩)
    | (go_at_call 53;refine (hT _).mono ?_;rintro e w2 ⟨rfl,hb2⟩))
   go_ret3
   refine ⟨?_,hb.trans (hb2.mono hb.size)⟩
   rw [←HR.out,if_neg Hn.out,if_pos h40]
   rfl
  ·have h40':¬ (40:Int) < (r.size:Int):=by omega
   go_wp2_with (first
    | (go_at_call 51;refine hP.mono ?_;rintro e w' ⟨rfl,rfl⟩)
    | (go_at_call 52;refine hE.mono ?_;rintro e w1 ⟨rfl,hb⟩)
    | (go_at_call 53;refine (hT _).mono ?_;rintro e w2 ⟨rfl,hb2⟩))
   go_ret3
   refine ⟨?_,hb.trans (hb2.mono hb.size)⟩
   rw [←HR.out,if_neg Hn.out,if_neg h40]
   exact pcA_mk Hr.out.symm rfl rfl
end Go.Proofs.YtbgfankoojjejaaGreatDoor
namespace Go.Proofs.YtbgfankoojjejaaGreatDoor
open Go Go.RowKit
theorem CmSt.arg {w:World} {p:Nat} {s:ByteArray} {ext:Bool} {st:CS} {ta tb ts:Value} {pa:Option Addr} {pc:Nat} {ma:Option Addr} {mc:Nat} {W:World} (h:CmSt w p s ext st ta tb ts pa pc ma mc W) (t:List UInt8) (k:Nat):CmSt w p s ext (st.arg t k) ta tb ts pa pc ma mc ((W.setCell ⟨p,14,none⟩ (.string (txt t))).setCell ⟨p,2,none⟩ (.int .i64 (k:Int))):=
 (h.put 14 (.string (txt t)) { st with c:={ st.c with arg:=t } } rfl rfl rfl rfl fun _ _=>rfl).go k
theorem CmSt.file {w:World} {p:Nat} {s:ByteArray} {ext:Bool} {st:CS} {ta tb ts:Value} {pa:Option Addr} {pc:Nat} {ma:Option Addr} {mc:Nat} {W:World} (h:CmSt w p s ext st ta tb ts pa pc ma mc W) (t:List UInt8) (k:Nat):CmSt w p s ext (st.file t k) ta tb ts pa pc ma mc ((W.setCell ⟨p,21,none⟩ (.string (txt t))).setCell ⟨p,2,none⟩ (.int .i64 (k:Int))):=
 (h.put 21 (.string (txt t)) { st with c:={ st.c with sub:={ st.c.sub with file:=t } } } rfl rfl rfl rfl fun _ _=>rfl).go k
theorem klabel_any (w:World) (p:Nat) (s:ByteArray) (ext:Bool) (st:CS) (W:World) (h:CmR w p s ext st W) (hs:s.size≤4000000) (hk:st.k≤s.size) :
  Calls Tryz.prog 18 #[.pointer (some ⟨p,0,none⟩)] W fun e W'=>e=.returned (.int .i64 ((cmLabel s.data.toList st).1:Int))∧CmR w p s ext (cmLabel s.data.toList st).2 W':=by
 obtain ⟨ta,tb,ts,pa,pc,ma,mc,h⟩:=h
 have hN:=fun w1=>pname_at s st.k true w1 hs hk
 unfold cmLabel
 obtain ⟨⟨t,q,e0⟩,hR⟩:∃ R,pcName s.data.toList st.k true=R:=⟨_,rfl⟩
 rw [hR] at hN ⊢
 have hN:∀ w1,Calls Tryz.prog 37 #[.string s,.int .i64 (st.k:Int),.bool true] w1 fun e w'=>e=.returned (.tuple #[.string (txt t),.int .i64 (q:Int),.int .i64 (e0:Int)])∧Below w1.heap.size w1 w':=hN
 have HH:=Lib.hid h
 have k0:W.cell? ⟨p,0,none⟩=some (.string s):=(h.q.cell 0).trans rfl
 have k2:W.cell? ⟨p,2,none⟩=some (.int .i64 (st.k:Int)):=(h.q.cell 2).trans rfl
 clear h hR
 simp only
 go_enter Tryz.func18,Tryz.ntmps18
 go_upto_region 1 with fail
 go_region_held3 (fun w'=>w'.cell? ⟨p,0,none⟩=some (.string s)∧w'.cell? ⟨p,2,none⟩=some (.int .i64 (st.k:Int))) (first | exact ⟨k0,k2⟩ | (refine ⟨?_,?_⟩ <;> assumption)) (first | (go_at_call 37;refine (hN _).mono ?_;rintro e w1 ⟨rfl,b1⟩;have H1:=Lib.hid (by first | exact HH.out.step b1 | exact HH.out.drew.step b1:CmSt w p s ext st ta tb ts pa pc ma mc w1);have m0:(w1).cell? ⟨p,0,none⟩=some (.string s):=(H1.out.q.cell 0).trans rfl;have m2:(w1).cell? ⟨p,2,none⟩=some (.int .i64 (st.k:Int)):=(H1.out.q.cell 2).trans rfl;clear b1))
 all_goals
  clear k0 k2 m0
  have k14:w1.cell? ⟨p,14,none⟩=some (.string (txt st.c.arg)):=(H1.out.q.cell 14).trans rfl
  have f2:=H1.out.q.frozen 2
  have f14:=H1.out.q.frozen 14
  have H2:=Lib.hid (H1.out.arg t q)
  go_wp2_with fail
  go_ret
  exact ⟨rfl,H2.out.R⟩
theorem kper_any (w:World) (p:Nat) (s:ByteArray) (ext:Bool) (st:CS) (W:World) (h:CmR w p s ext st W) (hs:s.size≤4000000) (hk:st.k≤s.size) :
  Calls Tryz.prog 19 #[.pointer (some ⟨p,0,none⟩)] W fun e W'=>e=.returned (.int .i64 ((cmPer s.data.toList st).1:Int))∧CmR w p s ext (cmPer s.data.toList st).2 W':=by
 have hL:=klabel_any w p s ext st W h hs hk
 have hB:=pblk_of s st.k hs hk
 obtain ⟨ta,tb,ts,pa,pc,ma,mc,h⟩:=h
 have k2:W.cell? ⟨p,2,none⟩=some (.int .i64 (st.k:Int)):=(h.q.cell 2).trans rfl
 unfold cmPer
 obtain ⟨⟨e0,st1⟩,hR⟩:∃ R,cmLabel s.data.toList st=R:=⟨_,rfl⟩
 rw [hR] at hL ⊢
 obtain ⟨K,hK⟩:∃ K,pcBlk s.data.toList st.k=K:=⟨_,rfl⟩
 rw [hK] at hB ⊢
 clear h hR hK
 simp only at hL ⊢
 by_cases he:e0=14
 ·rw [if_pos he]
  have ce:((e0:Int) == 14)=true:=by simp [he]
  clear he
  go_enter Tryz.func19,Tryz.ntmps19
  go_upto_region 4 with (go_at_call 18;refine hL.mono ?_;clear hL;rintro e w1 ⟨rfl,h1⟩)
  obtain ⟨ta,tb,ts,pa,pc,ma,mc,h1⟩:=h1
  have H1:=Lib.hid h1
  have j0:w1.cell? ⟨p,0,none⟩=some (.string s):=(h1.q.cell 0).trans rfl
  clear k2 h1
  go_wp2_with (go_at_call 32;refine (hB _).mono ?_;rintro e w2 ⟨rfl,b2⟩;have H2:=Lib.hid (H1.out.step b2);have j2:w2.cell? ⟨p,2,none⟩=some (.int .i64 (st1.k:Int)):=(H2.out.q.cell 2).trans rfl;have f2:=H2.out.q.frozen 2;have H3:=Lib.hid (H2.out.go K);clear b2)
  go_ret
  exact ⟨rfl,H3.out.R⟩
 ·rw [if_neg he]
  have ce:((e0:Int) == 14)=false:=by simp;omega
  clear he
  go_enter Tryz.func19,Tryz.ntmps19
  go_wp2_with (go_at_call 18;refine hL.mono ?_;clear hL;rintro e w1 ⟨rfl,h1⟩)
  go_ret
  exact ⟨rfl,h1⟩
theorem kfileA_any (w:World) (p:Nat) (s:ByteArray) (ext:Bool) (st:CS) (W:World) (h:CmR w p s ext st W) (hs:s.size≤4000000) (hk:st.k≤s.size) :
  Calls Tryz.prog 21 #[.pointer (some ⟨p,0,none⟩),.pointer (some ⟨p,14,none⟩)] W fun e W'=>e=.returned (.int .i64 ((cmFileA s.data.toList st).1:Int))∧CmR w p s ext (cmFileA s.data.toList st).2 W':=by
 obtain ⟨ta,tb,ts,pa,pc,ma,mc,h⟩:=h
 have hN:=fun w1=>pname_at s st.k false w1 hs hk
 have hB:=pblk_of s st.k hs hk
 unfold cmFileA
 obtain ⟨⟨t,q,e0⟩,hR⟩:∃ R,pcName s.data.toList st.k false=R:=⟨_,rfl⟩
 rw [hR] at hN ⊢
 obtain ⟨K,hK⟩:∃ K,pcBlk s.data.toList st.k=K:=⟨_,rfl⟩
 rw [hK] at hB ⊢
 have hN:∀ w1,Calls Tryz.prog 37 #[.string s,.int .i64 (st.k:Int),.bool false] w1 fun e w'=>e=.returned (.tuple #[.string (txt t),.int .i64 (q:Int),.int .i64 (e0:Int)])∧Below w1.heap.size w1 w':=hN
 have HH:=Lib.hid h
 have k0:W.cell? ⟨p,0,none⟩=some (.string s):=(h.q.cell 0).trans rfl
 have k2:W.cell? ⟨p,2,none⟩=some (.int .i64 (st.k:Int)):=(h.q.cell 2).trans rfl
 clear h hR hK
 simp only
 by_cases he:K=st.k
 ·rw [if_pos he]
  have ce:((K:Int) == (st.k:Int))=true:=by simp [he]
  clear he
  go_enter Tryz.func21,Tryz.ntmps21
  go_upto_region 1 with fail
  go_region_held3 (fun w'=>w'.cell? ⟨p,0,none⟩=some (.string s)∧w'.cell? ⟨p,2,none⟩=some (.int .i64 (st.k:Int))) (first | exact ⟨k0,k2⟩ | (refine ⟨?_,?_⟩ <;> assumption)) (first | (go_at_call 32;refine (hB _).mono ?_;rintro e w1 ⟨rfl,b1⟩;have H1:=Lib.hid (by first | exact HH.out.step b1 | exact HH.out.drew.step b1:CmSt w p s ext st ta tb ts pa pc ma mc w1);have m0:(w1).cell? ⟨p,0,none⟩=some (.string s):=(H1.out.q.cell 0).trans rfl;have m2:(w1).cell? ⟨p,2,none⟩=some (.int .i64 (st.k:Int)):=(H1.out.q.cell 2).trans rfl;clear b1))
  all_goals
   go_wp2_with fail
   go_ret
   exact ⟨rfl,H1.out.R⟩
 ·rw [if_neg he]
  have ce:((K:Int) == (st.k:Int))=false:=by simp;omega
  clear he
  go_enter Tryz.func21,Tryz.ntmps21
  go_upto_region 1 with fail
  go_region_held3 (fun w'=>w'.cell? ⟨p,0,none⟩=some (.string s)∧w'.cell? ⟨p,2,none⟩=some (.int .i64 (st.k:Int))) (first | exact ⟨k0,k2⟩ | (refine ⟨?_,?_⟩ <;> assumption)) (first | (go_at_call 32;refine (hB _).mono ?_;rintro e w1 ⟨rfl,b1⟩;have H1:=Lib.hid (by first | exact HH.out.step b1 | exact HH.out.drew.step b1:CmSt w p s ext st ta tb ts pa pc ma mc w1);have m0:(w1).cell? ⟨p,0,none⟩=some (.string s):=(H1.out.q.cell 0).trans rfl;have m2:(w1).cell? ⟨p,2,none⟩=some (.int .i64 (st.k:Int)):=(H1.out.q.cell 2).trans rfl;clear b1))
  all_goals
   go_upto_region 3 with fail
   clear k0 k2
   have k0:=m0
   have k2:=m2
   clear m0 m2
   go_region_held3 (fun w'=>w'.cell? ⟨p,0,none⟩=some (.string s)∧w'.cell? ⟨p,2,none⟩=some (.int .i64 (st.k:Int))) (first | exact ⟨k0,k2⟩ | (refine ⟨?_,?_⟩ <;> assumption)) (first | (go_at_call 37;refine (hN _).mono ?_;rintro e w2 ⟨rfl,b1⟩;have H2:=Lib.hid (by first | exact H1.out.step b1 | exact H1.out.drew.step b1:CmSt w p s ext st ta tb ts pa pc ma mc w2);have m0:(w2).cell? ⟨p,0,none⟩=some (.string s):=(H2.out.q.cell 0).trans rfl;have m2:(w2).cell? ⟨p,2,none⟩=some (.int .i64 (st.k:Int)):=(H2.out.q.cell 2).trans rfl;clear b1))
   all_goals
    clear k0 k2 m0
    have k14:w2.cell? ⟨p,14,none⟩=some (.string (txt st.c.arg)):=(H2.out.q.cell 14).trans rfl
    have f2:=H2.out.q.frozen 2
    have f14:=H2.out.q.frozen 14
    have H3:=Lib.hid (H2.out.arg t q)
    go_wp2_with fail
    go_ret
    exact ⟨rfl,H3.out.R⟩
theorem kfileS_any (w:World) (p:Nat) (s:ByteArray) (ext:Bool) (st:CS) (W:World) (h:CmR w p s ext st W) (hs:s.size≤4000000) (hk:st.k≤s.size) :
  Calls Tryz.prog 21 #[.pointer (some ⟨p,0,none⟩),.pointer (some ⟨p,21,none⟩)] W fun e W'=>e=.returned (.int .i64 ((cmFileS s.data.toList st).1:Int))∧CmR w p s ext (cmFileS s.data.toList st).2 W':=by
 obtain ⟨ta,tb,ts,pa,pc,ma,mc,h⟩:=h
 have hN:=fun w1=>pname_at s st.k false w1 hs hk
 have hB:=pblk_of s st.k hs hk
 unfold cmFileS
 obtain ⟨⟨t,q,e0⟩,hR⟩:∃ R,pcName s.data.toList st.k false=R:=⟨_,rfl⟩
 rw [hR] at hN ⊢
 obtain ⟨K,hK⟩:∃ K,pcBlk s.data.toList st.k=K:=⟨_,rfl⟩
 rw [hK] at hB ⊢
 have hN:∀ w1,Calls Tryz.prog 37 #[.string s,.int .i64 (st.k:Int),.bool false] w1 fun e w'=>e=.returned (.tuple #[.string (txt t),.int .i64 (q:Int),.int .i64 (e0:Int)])∧Below w1.heap.size w1 w':=hN
 have HH:=Lib.hid h
 have k0:W.cell? ⟨p,0,none⟩=some (.string s):=(h.q.cell 0).trans rfl
 have k2:W.cell? ⟨p,2,none⟩=some (.int .i64 (st.k:Int)):=(h.q.cell 2).trans rfl
 clear h hR hK
 simp only
 by_cases he:K=st.k
 ·rw [if_pos he]
  have ce:((K:Int) == (st.k:Int))=true:=by simp [he]
  clear he
  go_enter Tryz.func21,Tryz.ntmps21
  go_upto_region 1 with fail
  go_region_held3 (fun w'=>w'.cell? ⟨p,0,none⟩=some (.string s)∧w'.cell? ⟨p,2,none⟩=some (.int .i64 (st.k:Int))) (first | exact ⟨k0,k2⟩ | (refine ⟨?_,?_⟩ <;> assumption)) (first | (go_at_call 32;refine (hB _).mono ?_;rintro e w1 ⟨rfl,b1⟩;have H1:=Lib.hid (by first | exact HH.out.step b1 | exact HH.out.drew.step b1:CmSt w p s ext st ta tb ts pa pc ma mc w1);have m0:(w1).cell? ⟨p,0,none⟩=some (.string s):=(H1.out.q.cell 0).trans rfl;have m2:(w1).cell? ⟨p,2,none⟩=some (.int .i64 (st.k:Int)):=(H1.out.q.cell 2).trans rfl;clear b1))
  all_goals
   go_wp2_with fail
   go_ret
   exact ⟨rfl,H1.out.R⟩
 ·rw [if_neg he]
  have ce:((K:Int) == (st.k:Int))=false:=by simp;omega
  clear he
  go_enter Tryz.func21,Tryz.ntmps21
  go_upto_region 1 with fail
  go_region_held3 (fun w'=>w'.cell? ⟨p,0,none⟩=some (.string s)∧w'.cell? ⟨p,2,none⟩=some (.int .i64 (st.k:Int))) (first | exact ⟨k0,k2⟩ | (refine ⟨?_,?_⟩ <;> assumption)) (first | (go_at_call 32;refine (hB _).mono ?_;rintro e w1 ⟨rfl,b1⟩;have H1:=Lib.hid (by first | exact HH.out.step b1 | exact HH.out.drew.step b1:CmSt w p s ext st ta tb ts pa pc ma mc w1);have m0:(w1).cell? ⟨p,0,none⟩=some (.string s):=(H1.out.q.cell 0).trans rfl;have m2:(w1).cell? ⟨p,2,none⟩=some (.int .i64 (st.k:Int)):=(H1.out.q.cell 2).trans rfl;clear b1))
  all_goals
   go_upto_region 3 with fail
   clear k0 k2
   have k0:=m0
   have k2:=m2
   clear m0 m2
   go_region_held3 (fun w'=>w'.cell? ⟨p,0,none⟩=some (.string s)∧w'.cell? ⟨p,2,none⟩=some (.int .i64 (st.k:Int))) (first | exact ⟨k0,k2⟩ | (refine ⟨?_,?_⟩ <;> assumption)) (first | (go_at_call 37;refine (hN _).mono ?_;rintro e w2 ⟨rfl,b1⟩;have H2:=Lib.hid (by first | exact H1.out.step b1 | exact H1.out.drew.step b1:CmSt w p s ext st ta tb ts pa pc ma mc w2);have m0:(w2).cell? ⟨p,0,none⟩=some (.string s):=(H2.out.q.cell 0).trans rfl;have m2:(w2).cell? ⟨p,2,none⟩=some (.int .i64 (st.k:Int)):=(H2.out.q.cell 2).trans rfl;clear b1))
   all_goals
    clear k0 k2 m0
    have k14:w2.cell? ⟨p,21,none⟩=some (.string (txt st.c.sub.file)):=(H2.out.q.cell 21).trans rfl
    have f2:=H2.out.q.frozen 2
    have f14:=H2.out.q.frozen 21
    have H3:=Lib.hid (H2.out.file t q)
    go_wp2_with fail
    go_ret
    exact ⟨rfl,H3.out.R⟩
end Go.Proofs.YtbgfankoojjejaaGreatDoor
