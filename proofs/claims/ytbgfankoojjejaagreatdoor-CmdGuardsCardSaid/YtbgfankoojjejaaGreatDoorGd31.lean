/- The proof's texts CmWg, CmBd, CmBe, CmBf: what the claim reaches of them. -/
import Derived.Test.YtbgfankoojjejaaGreatDoorGd30
import Derived.Deep.LoopGhost
import Derived.Test.YtbgfankoojjejaaGreatDoorGd28
import Derived.Test.YtbgfankoojjejaaGreatDoorGd25
import Derived.Test.YtbgfankoojjejaaGreatDoorGd06
import Derived.Shelf.Strings.BuilderK
import Derived.Deep.DeepCutAuto
import Derived.Deep.RegionHeld3
import Derived.Test.YtbgfankoojjejaaGreatDoorGd29
set_option linter.unusedSimpArgs false
set_option linter.unusedVariables false
set_option maxHeartbeats 8000000
set_option maxRecDepth 1000000
namespace Go.Proofs.YtbgfankoojjejaaGreatDoor
open Go Go.RowKit
theorem pcNum_gt {L:List UInt8} {k:Nat} (h:(pcNum L k).2.2=0):k < (pcNum L k).2.1:=by
 unfold pcNum at h ⊢
 simp only at h ⊢
 split at h
 ·cases h
 ·split at h
  ·cases h
  ·rename_i h1 h2
   rw [if_neg h1,if_neg h2]
   simp only
   omega
theorem flags_nil {L:List UInt8} {n:Nat} {st:CS} (h:L.drop st.k=[]):cmFlags L (n+1) st=(0,st):=by
 rw [cmFlags,h]
theorem flags_yes {L t:List UInt8} {n:Nat} {st:CS} {b:UInt8} {r:CO} (h:L.drop st.k=b :: t) (hf:cmFlag L b st=some r):cmFlags L (n+1) st=if r.1=0 then cmFlags L n r.2 else r:=by
 rw [cmFlags,h]
 simp only [hf]
theorem flags_no {L t:List UInt8} {n:Nat} {st:CS} {b:UInt8} (h:L.drop st.k=b :: t) (hf:cmFlag L b st=none):cmFlags L (n+1) st=if b=119 then cmFileS L (st.go (st.k+1)) else cmEnd L st:=by
 rw [cmFlags,h]
 simp only [hf]
theorem kflags_any (w:World) (p:Nat) (s:ByteArray) (ext:Bool) (st:CS) (W:World) (h:CmR w p s ext st W) (hs:s.size≤4000000) (hk:st.k≤s.size) (hl:st.ms.length≤100000) :
  Calls Tryz.prog 42 #[.pointer (some ⟨p,0,none⟩)] W fun e W'=>e=.returned (.int .i64 ((cmFlags s.data.toList (s.size+1) st).1:Int))∧CmR w p s ext (cmFlags s.data.toList (s.size+1) st).2 W':=by
 obtain ⟨R,hR⟩:∃ R,cmFlags s.data.toList (s.size+1) st=R:=⟨_,rfl⟩
 rw [hR]
 have HR:=Lib.hid hR
 have H0:=Lib.hid h
 clear hR h
 go_enter Tryz.func42,Tryz.ntmps42
 go_wp2_with fail
 go_loopg [] (s.size+1) (fun gk wr=>∃ st':CS,CmR w p s ext st' wr∧cmFlags s.data.toList gk st'=R∧s.size - st'.k < gk∧st'.k≤s.size∧st'.ms.length≤100000)
 case atStart=>exact ⟨st,H0.out,HR.out,by omega,hk,hl⟩
 case round=>
  obtain ⟨st',hc,hf,hgk,hk',hl'⟩:=hrel
  clear HR H0
  obtain ⟨m,rfl⟩:∃ m,gk=m+1:=⟨gk - 1,by omega⟩
  have HC:=Lib.hid hc
  obtain ⟨ta,tb,ts,pa,pc,ma,mc,h1⟩:=hc
  have HH:=Lib.hid h1
  have k0:wr.cell? ⟨p,0,none⟩=some (.string s):=(h1.q.cell 0).trans rfl
  have k2:wr.cell? ⟨p,2,none⟩=some (.int .i64 (st'.k:Int)):=(h1.q.cell 2).trans rfl
  clear h1
  by_cases hz:st'.k=s.size
  ·rw [flags_nil (drop_end s st'.k (by omega))] at hf
   have hE:¬ (st'.k:Int) < (s.size:Int):=by omega
   have HF:=Lib.hid hf
   clear hz hf
   go_upto_region 2 with fail
   go_quiet (fail)
   generalize nq=n1
   go_wp2_with fail
   go_ret
   rw [←HF.out]
   exact ⟨rfl,(HH.out.drewN n1).R⟩
  ·have hlt:st'.k < s.size:=by omega
   have hE:(st'.k:Int) < (s.size:Int):=by omega
   have hy0:(0:Int)≤(st'.k:Int):=by omega
   have hd:=drop_at s st'.k hlt
   obtain ⟨b,hb⟩:∃ b,s[st'.k]=b:=⟨_,rfl⟩
   have hsx:s[st'.k]'hlt=b:=hb
   rw [hb] at hd
   have Hd:=Lib.hid hd
   clear hz hd hb
   go_upto_region 2 with fail
   go_quiet (fail)
   generalize nq=n1
   go_upto_region 4 with fail
   go_quiet (fail)
   have H4:=Lib.hid (HH.out.drewN (n1+nq))
   generalize nq=n2 at H4 ⊢
   by_cases h103:b=103
   ·have q103:((b.toNat:Int) == 103)=true:=by rw [h103];rfl
    have hX:=kall_any w p s ext st' _ H4.out.R hs hk'
    rw [flags_yes Hd.out (show cmFlag s.data.toList b st'=some (cmAll st') by unfold cmFlag;rw [if_pos h103])] at hf
    have hg:(cmAll st').1=0→st'.k < (cmAll st').2.k∧(cmAll st').2.k≤s.size∧(cmAll st').2.ms=st'.ms:=fun h=>by
     unfold cmAll at h ⊢
     split at h
     ·cases h
     ·rename_i h1;rw [if_neg h1];exact ⟨Nat.lt_succ_self _,by show st'.k+1≤s.size;omega,rfl⟩
    have hdc:pcDigits.contains b=false:=by rw [h103];rfl
    clear h103
    obtain ⟨⟨e1,s1⟩,hr⟩:∃ r,cmAll st'=r:=⟨_,rfl⟩
    rw [hr] at hX hf hg
    simp only at hX hf hg
    by_cases he:e1=0
    ·subst he
     rw [if_pos rfl] at hf
     obtain ⟨g1,g2,g3⟩:=hg rfl
     have HF:=Lib.hid hf
     have HG:=Lib.hid (And.intro g1 (And.intro g2 g3))
     clear hf hg hr g1 g2 g3
     go_wp2_with (first | (go_at_call 59;refine (kdigit_any _ _).mono ?_;rintro e w5 ⟨rfl,hw5⟩;have hw5':=hw5.symm;subst hw5';rw [hdc]) | (go_at_call 58;refine hX.mono ?_;clear hX;rintro e w6 ⟨rfl,h6⟩))
     go_roundg m
     case rel=>exact ⟨s1,h6,HF.out,by have:=HG.out;omega,HG.out.2.1,by rw [HG.out.2.2];exact hl'⟩
     case measure=>omega
    ·rw [if_neg he] at hf
     have ce:((e1:Int) != 0)=true:=by simpa using he
     have HF:=Lib.hid hf
     clear hf hg hr he
     go_wp2_with (first | (go_at_call 59;refine (kdigit_any _ _).mono ?_;rintro e w5 ⟨rfl,hw5⟩;have hw5':=hw5.symm;subst hw5';rw [hdc]) | (go_at_call 58;refine hX.mono ?_;clear hX;rintro e w6 ⟨rfl,h6⟩))
     go_ret
     rw [←HF.out]
     exact ⟨rfl,h6⟩
   ·have q103:((b.toNat:Int) == 103)=false:=cmu_ne (c:=103) h103
    by_cases h112:b=112
    ·have q112:((b.toNat:Int) == 112)=true:=by rw [h112];rfl
     have hX:=kprt_any w p s ext st' _ H4.out.R hs hk'
     rw [flags_yes Hd.out (show cmFlag s.data.toList b st'=some (cmPrt st') by unfold cmFlag;rw [if_neg h103,if_pos h112])] at hf
     have hg:(cmPrt st').1=0→st'.k < (cmPrt st').2.k∧(cmPrt st').2.k≤s.size∧(cmPrt st').2.ms=st'.ms:=fun h=>by
      unfold cmPrt at h ⊢
      split at h
      ·cases h
      ·rename_i h1;rw [if_neg h1];exact ⟨Nat.lt_succ_self _,by show st'.k+1≤s.size;omega,rfl⟩
     have hdc:pcDigits.contains b=false:=by rw [h112];rfl
     clear h103 h112
     obtain ⟨⟨e1,s1⟩,hr⟩:∃ r,cmPrt st'=r:=⟨_,rfl⟩
     rw [hr] at hX hf hg
     simp only at hX hf hg
     by_cases he:e1=0
     ·subst he
      rw [if_pos rfl] at hf
      obtain ⟨g1,g2,g3⟩:=hg rfl
      have HF:=Lib.hid hf
      have HG:=Lib.hid (And.intro g1 (And.intro g2 g3))
      clear hf hg hr g1 g2 g3
      go_wp2_with (first | (go_at_call 59;refine (kdigit_any _ _).mono ?_;rintro e w5 ⟨rfl,hw5⟩;have hw5':=hw5.symm;subst hw5';rw [hdc]) | (go_at_call 58;refine hX.mono ?_;clear hX;rintro e w6 ⟨rfl,h6⟩))
      go_roundg m
      case rel=>exact ⟨s1,h6,HF.out,by have:=HG.out;omega,HG.out.2.1,by rw [HG.out.2.2];exact hl'⟩
      case measure=>omega
     ·rw [if_neg he] at hf
      have ce:((e1:Int) != 0)=true:=by simpa using he
      have HF:=Lib.hid hf
      clear hf hg hr he
      go_wp2_with (first | (go_at_call 59;refine (kdigit_any _ _).mono ?_;rintro e w5 ⟨rfl,hw5⟩;have hw5':=hw5.symm;subst hw5';rw [hdc]) | (go_at_call 58;refine hX.mono ?_;clear hX;rintro e w6 ⟨rfl,h6⟩))
      go_ret
      rw [←HF.out]
      exact ⟨rfl,h6⟩
    ·have q112:((b.toNat:Int) == 112)=false:=cmu_ne (c:=112) h112
     by_cases hdg:pcDigits.contains b=true
     ·have hdc:=hdg
      have hX:=knth_any w p s ext st' _ H4.out.R hs hk'
      rw [flags_yes Hd.out (show cmFlag s.data.toList b st'=some (cmNth s.data.toList st') by unfold cmFlag;rw [if_neg h103,if_neg h112,if_pos hdg])] at hf
      have hg:(cmNth s.data.toList st').1=0→st'.k < (cmNth s.data.toList st').2.k∧(cmNth s.data.toList st').2.k≤s.size∧(cmNth s.data.toList st').2.ms=st'.ms:=fun h=>by
       have hle:=pcNum_le s.data.toList st'.k (by rw [←size_list];exact hk')
       have hgt:=pcNum_gt (L:=s.data.toList) (k:=st'.k)
       unfold cmNth cmNthOf at h ⊢
       split at h
       ·rename_i h1
        rw [if_pos h1]
        split at h
        ·rename_i h2
         rw [if_pos h2]
         split at h
         ·cases h
         ·rename_i h3
          rw [if_neg h3]
          exact ⟨hgt h1,by rw [size_list];exact hle.2,rfl⟩
        ·cases h
       ·rename_i h1
        exact absurd h h1
      clear h103 h112 hdg
      obtain ⟨⟨e1,s1⟩,hr⟩:∃ r,cmNth s.data.toList st'=r:=⟨_,rfl⟩
      rw [hr] at hX hf hg
      simp only at hX hf hg
      by_cases he:e1=0
      ·subst he
       rw [if_pos rfl] at hf
       obtain ⟨g1,g2,g3⟩:=hg rfl
       have HF:=Lib.hid hf
       have HG:=Lib.hid (And.intro g1 (And.intro g2 g3))
       clear hf hg hr g1 g2 g3
       go_wp2_with (first | (go_at_call 59;refine (kdigit_any _ _).mono ?_;rintro e w5 ⟨rfl,hw5⟩;have hw5':=hw5.symm;subst hw5';rw [hdc]) | (go_at_call 60;refine hX.mono ?_;clear hX;rintro e w6 ⟨rfl,h6⟩))
       go_roundg m
       case rel=>exact ⟨s1,h6,HF.out,by have:=HG.out;omega,HG.out.2.1,by rw [HG.out.2.2];exact hl'⟩
       case measure=>omega
      ·rw [if_neg he] at hf
       have ce:((e1:Int) != 0)=true:=by simpa using he
       have HF:=Lib.hid hf
       clear hf hg hr he
       go_wp2_with (first | (go_at_call 59;refine (kdigit_any _ _).mono ?_;rintro e w5 ⟨rfl,hw5⟩;have hw5':=hw5.symm;subst hw5';rw [hdc]) | (go_at_call 60;refine hX.mono ?_;clear hX;rintro e w6 ⟨rfl,h6⟩))
       go_ret
       rw [←HF.out]
       exact ⟨rfl,h6⟩
     ·have hdc:pcDigits.contains b=false:=by simpa using hdg
      rw [flags_no Hd.out (show cmFlag s.data.toList b st'=none by unfold cmFlag;rw [if_neg h103,if_neg h112,if_neg hdg])] at hf
      by_cases h119:b=119
      ·have q119:((b.toNat:Int) == 119)=true:=by rw [h119];rfl
       rw [if_pos h119] at hf
       have Wk:IntKind.i64.wrap ((st'.k:Int)+1)=((st'.k+1:Nat):Int):=by rw [IntWalk.i64_in _ (by omega)];omega
       have f2:=HH.out.q.frozen 2
       have hX:=kfileS_any w p s ext (st'.go (st'.k+1)) _ (H4.out.go (st'.k+1)).R hs (by show st'.k+1≤s.size;omega)
       have HF:=Lib.hid hf
       clear h103 h112 hdg h119 hf
       go_wp2_with (first | (go_at_call 59;refine (kdigit_any _ _).mono ?_;rintro e w5 ⟨rfl,hw5⟩;have hw5':=hw5.symm;subst hw5';rw [hdc]) | (go_at_call 21;refine hX.mono ?_;clear hX;rintro e w6 ⟨rfl,h6⟩))
       go_ret
       rw [←HF.out]
       exact ⟨rfl,h6⟩
      ·have q119:((b.toNat:Int) == 119)=false:=cmu_ne (c:=119) h119
       rw [if_neg h119] at hf
       have hX:=kend_any w p s ext st' _ H4.out.R hs hk' hl'
       have HF:=Lib.hid hf
       clear h103 h112 hdg h119 hf
       go_wp2_with (first | (go_at_call 59;refine (kdigit_any _ _).mono ?_;rintro e w5 ⟨rfl,hw5⟩;have hw5':=hw5.symm;subst hw5';rw [hdc]) | (go_at_call 24;refine hX.mono ?_;clear hX;rintro e w6 ⟨rfl,h6⟩))
       go_ret
       rw [←HF.out]
       exact ⟨rfl,h6⟩
end Go.Proofs.YtbgfankoojjejaaGreatDoor
namespace Go.Proofs.YtbgfankoojjejaaGreatDoor
open Go Go.RowKit
structure MkS (B b:Nat) (ps:List Cp) (t:List UInt8) (pv av bv:Value) (W:World):Prop where
 q:Blk W b #[pv,av,bv] 158
 bb:B≤b
 a:av=.pointer none∨av=.pointer (some ⟨b,1,none⟩)
 pr:W.ownsRow B 43 2 pv ps.length (cpC ps)
 br:W.ownsRowF B 5 1 bv t.length (Lib.byteCells t)
theorem rowF_same {w w':World} {base:Nat} {e:TypeId} {size n:Nat} {v:Value} {xs:List Value} (h:w.ownsRowF base e size v n xs) (hb:∀ g,v.ownBlock=some g→w'.heap[g]?=w.heap[g]?):w'.ownsRowF base e size v n xs:=by
 refine ⟨h.1,?_⟩
 rcases h.2 with hn | ⟨g,cap,cur,fz,rfl,hb0,hg,rest⟩
 ·exact .inl hn
 ·exact .inr ⟨g,cap,cur,fz,rfl,hb0,(hb g rfl).trans hg,rest⟩
theorem own_ne {w:World} {B:Nat} {e T:TypeId} {v:Value} {size n:Nat} {xs:List Value} {b:Nat} {cs:Array Value} {fr:Nat × Nat} (hown:w.ownsRow B e size v n xs) (hb:w.heap[b]?=some (.cells cs T fr)) (hTe:T≠e):v.ownBlock≠some b:=by
 rcases hown.2 with ⟨rfl,_⟩ | ⟨g,cap,cur,rfl,_,hg,_⟩
 ·simp [Value.ownBlock]
 ·intro h
  simp only [Value.ownBlock,Option.some.injEq] at h
  subst h
  rw [hg] at hb
  simp only [Option.some.injEq,Obj.cells.injEq] at hb
  exact hTe hb.2.1.symm
theorem MkS.np {B b:Nat} {ps:List Cp} {t:List UInt8} {pv av bv:Value} {W:World} (h:MkS B b ps t pv av bv W):pv.ownBlock≠some b:=own_ne h.pr h.q (by decide)
theorem MkS.nb {B b:Nat} {ps:List Cp} {t:List UInt8} {pv av bv:Value} {W:World} (h:MkS B b ps t pv av bv W):bv.ownBlock≠some b:=Lib.ownBlock_neF h.br h.q (by decide)
theorem MkS.npb {B b:Nat} {ps:List Cp} {t:List UInt8} {pv av bv:Value} {W:World} (h:MkS B b ps t pv av bv W):∀ g,pv.ownBlock=some g→bv.ownBlock≠some g:=fun g hg=>by
 rcases h.pr.2 with ⟨h1,_⟩ | ⟨g',cap,cur,h1,_,hg',_⟩
 ·rw [h1] at hg;simp [Value.ownBlock] at hg
 ·rw [h1] at hg
  simp only [Value.ownBlock,Option.some.injEq] at hg
  subst hg
  exact Lib.ownBlock_neF h.br hg' (by decide)
theorem MkS.own {B b:Nat} {ps:List Cp} {t:List UInt8} {pv av bv:Value} {W W':World} (h:MkS B b ps t pv av bv W) {av':Value} (ha:av'=.pointer none∨av'=.pointer (some ⟨b,1,none⟩)) (hq:Blk W' b #[pv,av',bv] 158) (hk:∀ k,k≠b→W'.heap[k]?=W.heap[k]?):MkS B b ps t pv av' bv W':=
 ⟨hq,h.bb,ha,own_row_same h.pr fun g hg=>hk g fun e=>h.np (by rw [hg,e]),rowF_same h.br fun g hg=>hk g fun e=>h.nb (by rw [hg,e])⟩
theorem builder_size2:(Tryz.prog.info? 102).map (·.size)=some 2:=by kernel_rfl
theorem maker_lies:liesAt Tryz.prog Tryz.prog.depth 158 (3 / Tryz.prog.cellsOf 158) 1 102 1=true:=by kernel_rfl
theorem blk3_shape {w:World} {b:Nat} {T:TypeId} {v0 v1 v2:Value} (h:Blk w b #[v0,v1,v2] T):w.shape? b=some (T,3):=by
 unfold Blk at h
 simp [World.shape?,h]
theorem set_far (W:World) (b j:Nat) (v:Value):∀ k,k≠b→(W.setCell ⟨b,j,none⟩ v).heap[k]?=W.heap[k]?:=fun _ hk=>Below.heap_setCell _ _ _ _ (fun e=>hk e)
theorem mcopy_any {B b:Nat} {ps:List Cp} {t:List UInt8} {pv av bv:Value} {W:World} (h:MkS B b ps t pv av bv W) :
  Calls Tryz.prog 79 #[.pointer (some ⟨b,1,none⟩)] W fun e W'=>e=.returned (.tuple #[])∧MkS B b ps t pv (.pointer (some ⟨b,1,none⟩)) bv W'∧Below B W W'∧W'.heap.size=W.heap.size:=by
 obtain ⟨j,hj,hjs⟩:=Option.map_eq_some_iff.1 builder_size2
 have hf:=h.q.frozen 1
 have hsh:=blk3_shape h.q
 rcases h.a with rfl | rfl
 ·have h0:W.cell? ⟨b,1,none⟩=some (.pointer none):=(h.q.cell 1).trans rfl
  have hF:=Lib.hid (h.own (W':=W.setCell ⟨b,1,none⟩ (.pointer (some ⟨b,1,none⟩))) (.inr rfl) (h.q.set 1 _) (set_far _ _ _ _))
  have hB:=Lib.hid ((Below.refl B W).setCell (p:=⟨b,1,none⟩) h.bb (.pointer (some ⟨b,1,none⟩)))
  clear h
  go_enter Tryz.func79,Tryz.ntmps79
  go_wp2
  rw [Lib.run_to_unsafe W ⟨b,1,none⟩ Tryz.underlying100 Tryz.underlying188 hj (by rw [hjs];decide) hsh (Nat.succ_lt_succ (Nat.zero_lt_succ 1))]
  simp only [Result.andThen]
  rw [Oper.upon_value]
  go_wp2
  rw [run_callFunc_extern Tryz.func97 (by kernel_rfl) (by kernel_rfl) (by kernel_rfl) (e:=Extern.AbiNoEscape.same) (by kernel_rfl)]
  rw [Lib.run_noEscape]
  simp only [Result.andThen]
  rw [Oper.upon_value]
  go_wp2
  rw [Lib.run_from_unsafe W ⟨b,1,none⟩ Tryz.underlying188 Tryz.underlying100 hj hsh maker_lies]
  simp only [Result.andThen]
  rw [Oper.upon_value]
  go_wp2
  go_end0
  exact ⟨rfl,hF.out,hB.out,by simp [World.setCell]⟩
 ·have h0:W.cell? ⟨b,1,none⟩=some (.pointer (some ⟨b,1,none⟩)):=(h.q.cell 1).trans rfl
  have hF:=Lib.hid h
  clear h
  go_enter Tryz.func79,Tryz.ntmps79
  go_wp2
  rw [Lib.run_neq_ptr_same W _ Tryz.underlying100 hj]
  go_wp2
  go_end0
  exact ⟨rfl,hF.out,Below.refl B _,rfl⟩
theorem cu8_info:∃ i,Tryz.prog.info? 5=some i∧i.zero=some (.int .u8 0)∧i.size=1∧i.bytes=1:=by
 have h:(Tryz.prog.info? 5).map (fun i=>(i.zero,i.size,i.bytes))=some (some (.int .u8 0),1,1):=by kernel_rfl
 obtain ⟨i,hi,he⟩:=Option.map_eq_some_iff.1 h
 injection he with h1 h2
 injection h2 with h2 h3
 exact ⟨i,hi,h1,h2,h3⟩
theorem one_new (w:World) (v:Value) (t:TypeId):∀ j u,[v][j]?=some u→(w.alloc (.cells #[v] t)).cell? ((⟨w.heap.size,0,none⟩:Addr).add j)=some u:=by
 intro j u hu
 cases j with
 | zero=>
  have e:v=u:=by simpa using hu
  subst e
  rw [Go.WideShapes.add_plain,Nat.add_zero]
  have hb:=Blk.new w #[v] t w.heap.size rfl
  exact (hb.cell 0).trans rfl
 | succ j=>simp at hu
theorem byteCells_snoc (t:List UInt8) (c:UInt8):Lib.byteCells (t++[c])=Lib.byteCells t++[.int .u8 (c.toNat:Int)]:=by simp [Lib.byteCells]
/-- A byte is written. -/
theorem mwbyte_any {B b:Nat} {ps:List Cp} {t:List UInt8} {pv av bv:Value} {W:World} (c:UInt8) (h:MkS B b ps t pv av bv W) (hl:t.length≤4000000) (hBw:B≤W.heap.size) :
  Calls Tryz.prog 54 #[.pointer (some ⟨b,1,none⟩),.int .u8 (c.toNat:Int)] W fun e W'=>e=.returned .nilIface∧(∃ bv',MkS B b ps (t++[c]) pv (.pointer (some ⟨b,1,none⟩)) bv' W')∧Below B W W':=by
 obtain ⟨i0,hi,hz0,hz1,hz2⟩:=cu8_info
 have hcp:=mcopy_any h
 clear h
 go_enter Tryz.func54,Tryz.ntmps54
 go_wp2_with fail
 refine hcp.mono ?_
 rintro e w1 ⟨rfl,h1,hb1,hs1⟩
 have H1:=Lib.hid h1
 have HB1:=Lib.hid hb1
 have hbs:B≤w1.heap.size:=by omega
 clear hs1
 have hlt:=h1.q.lt
 have c2:w1.cell? ⟨b,2,none⟩=some bv:=(h1.q.cell 2).trans rfl
 have hm1:t.length+1≤maxLen:=by unfold maxLen;omega
 have hnw:∀ j u,[Value.int .u8 (c.toNat:Int)][j]?=some u→(w1.alloc (.cells #[.int .u8 (c.toNat:Int)] 5)).cell? ((⟨w1.heap.size,0,none⟩:Addr).add j)=some u:=one_new w1 _ _
 have hbl:=(Below.refl w1.heap.size w1).alloc (Nat.le_refl _) (.cells #[.int .u8 (c.toNat:Int)] 5)
 have hbr:=rowF_same h1.br (fun g hg=>hbl.block g (h1.br.lt g hg).2)
 have HBL:=Lib.hid hbl
 clear h1 hb1 hcp hbl
 go_wp2_with (at_builtin;refine wpList_append_ownF _ rfl _ _ 22 rfl B 5 i0 (.int .u8 0) 1 1 Tryz.underlying22 hi hz0 hz1 hz2 rfl (by decide) _ _ _ rfl hbr ⟨w1.heap.size,0,none⟩ 1 1 [.int .u8 (c.toNat:Int)] rfl rfl hnw (by intro u hu;simp at hu;subst hu;rfl) hm1 (by omega) (by simp;omega) ?_)
 intro v' w2 hown' hgrow _
 have hne:=H1.out.nb
 have hq2:=blkGrownR (H1.out.q.below HBL.out H1.out.q.lt) hgrow hne
 have d2:w2.cell? ⟨b,2,none⟩=some bv:=(hq2.cell 2).trans rfl
 have f2:=hq2.frozen 2
 obtain ⟨g,cap,rfl⟩:∃ g cap,v'=.slice (some ⟨g,0,none⟩) (t.length+1) cap:=by
  rcases hown'.2 with ⟨_,h0⟩ | ⟨g,cap,cur,fz,hv,_⟩
  ·omega
  ·exact ⟨g,cap,hv⟩
 have hpr2:w2.ownsRow B 43 2 pv ps.length (cpC ps):=own_row_same H1.out.pr (fun k hk=>(hgrow.block k (by have:=own_lt' H1.out.pr k hk;have:=HBL.out.size;omega) (fun e=>H1.out.npb k hk e.symm)).trans (HBL.out.block k (own_lt' H1.out.pr k hk)))
 have hnp:=H1.out.np
 have hB2:Below B W w2:=(HB1.out.trans (HBL.out.mono (by omega))).grown hgrow (by simp;omega) (fun k hk=>(H1.out.br.lt k hk).1)
 have hnb':(Value.slice (some ⟨g,0,none⟩) (t.length+1) cap).ownBlock≠some b:=Lib.ownBlock_neF hown' hq2 (by decide)
 have HF:=Lib.hid (show MkS B b ps (t++[c]) pv (.pointer (some ⟨b,1,none⟩)) (.slice (some ⟨g,0,none⟩) (t.length+1) cap) (w2.setCell ⟨b,2,none⟩ (.slice (some ⟨g,0,none⟩) (t.length+1) cap)) from
  ⟨hq2.set 2 _,H1.out.bb,.inr rfl,own_row_same hpr2 fun k hk=>set_far _ _ _ _ k fun e=>hnp (by rw [hk,e]),by
   rw [byteCells_snoc,List.length_append]
   exact rowF_same hown' fun k hk=>set_far _ _ _ _ k fun e=>hnb' (by rw [hk,e])⟩)
 have HB2:=Lib.hid (hB2.setCell (p:=⟨b,2,none⟩) H1.out.bb (.slice (some ⟨g,0,none⟩) (t.length+1) cap))
 clear hown' hgrow hq2 hpr2 hB2
 go_wp2
 go_ret
 exact ⟨rfl,⟨_,HF.out⟩,HB2.out⟩
theorem mlen_any {B b:Nat} {ps:List Cp} {t:List UInt8} {pv av bv:Value} {W:World} (h:MkS B b ps t pv av bv W) :
  Calls Tryz.prog 98 #[.pointer (some ⟨b,1,none⟩)] W fun e W'=>e=.returned (.int .i64 (t.length:Int))∧W'=W:=by
 have c2:W.cell? ⟨b,2,none⟩=some bv:=(h.q.cell 2).trans rfl
 obtain ⟨a,k,rfl⟩:∃ a k,bv=.slice a t.length k:=by
  rcases h.br.2 with ⟨rfl,h0⟩ | ⟨g,cap,cur,fz,hv,_⟩
  ·exact ⟨none,0,by rw [h0]⟩
  ·exact ⟨_,cap,hv⟩
 clear h
 go_enter Tryz.func98,Tryz.ntmps98
 go_wp2_with fail
 go_ret
 exact ⟨rfl,rfl⟩
theorem mreset_any {B b:Nat} {ps:List Cp} {pv av bv:Value} {W:World} (hq:Blk W b #[pv,av,bv] 158) (hb:B≤b) (hp:W.ownsRow B 43 2 pv ps.length (cpC ps)) :
  Calls Tryz.prog 99 #[.pointer (some ⟨b,1,none⟩)] W fun e W'=>e=.returned (.tuple #[])∧MkS B b ps [] pv (.pointer none) (.slice none 0 0) W'∧Below B W W':=by
 have c1:W.cell? ⟨b,1,none⟩=some av:=(hq.cell 1).trans rfl
 have c2:W.cell? ⟨b,2,none⟩=some bv:=(hq.cell 2).trans rfl
 have f1:=hq.frozen 1
 have f2:=hq.frozen 2
 have hnp:=own_ne hp hq (by decide)
 have HF:=Lib.hid (show MkS B b ps [] pv (.pointer none) (.slice none 0 0) ((W.setCell ⟨b,1,none⟩ (.pointer none)).setCell ⟨b,2,none⟩ (.slice none 0 0)) from
  ⟨(hq.set 1 _).set 2 _,hb,.inl rfl,own_row_same hp fun k hk=>(set_far _ _ _ _ k fun e=>hnp (by rw [hk,e])).trans (set_far _ _ _ _ k fun e=>hnp (by rw [hk,e])),World.ownsRowF_nil _ _ _ _⟩)
 have HB:=Lib.hid (((Below.refl B W).setCell (p:=⟨b,1,none⟩) hb (.pointer none)).setCell (p:=⟨b,2,none⟩) hb (.slice none 0 0))
 clear hq hp hnp
 go_enter Tryz.func99,Tryz.ntmps99
 go_wp2_with fail
 go_end0
 exact ⟨rfl,HF.out,HB.out⟩
end Go.Proofs.YtbgfankoojjejaaGreatDoor
namespace Go.Proofs.YtbgfankoojjejaaGreatDoor
open Go Go.RowKit
theorem freeze_far (W:World) (g n k:Nat) (h:k≠g):(W.freeze ⟨g,0,none⟩ n).heap[k]?=W.heap[k]?:=by
 unfold World.freeze
 split
 ·rfl
 ·simp [Array.getElem?_modify,Ne.symm h]
theorem freeze_size (W:World) (a:Addr) (n:Nat):(W.freeze a n).heap.size=W.heap.size:=by
 unfold World.freeze
 split
 ·rfl
 ·simp
/-- What was written, as a string. -/
theorem mstring_any {B b:Nat} {ps:List Cp} {t:List UInt8} {pv av bv:Value} {W:World} (h:MkS B b ps t pv av bv W) (h0:t≠[]) (hl:t.length≤4000000) :
  Calls Tryz.prog 55 #[.pointer (some ⟨b,1,none⟩)] W fun e W'=>e=.returned (.string ⟨t.toArray⟩)∧(∀ k,bv.ownBlock≠some k→W'.heap[k]?=W.heap[k]?)∧Below B W W'∧W'.heap.size=W.heap.size:=by
 have hown:=h.br
 have hbk:=h.q
 have hl0:t.length≠0:=by simpa using h0
 rcases hown.2 with ⟨_,hz⟩ | ⟨g,cap,cur,fz,rfl,hbg,hg,hfz,hnc,hcm,hcs,htk⟩
 ·exact absurd hz hl0
 ·have c1:W.drew.cell? ⟨b,2,none⟩=some (.slice (some ⟨g,0,none⟩) t.length cap):=(hbk.cell 2).trans rfl
  have hSD:(Builtin.unsafeSliceData_ #[22] 156 #[.slice (some ⟨g,0,none⟩) t.length cap]).run Tryz.prog W.drew=.ok (.pointer (some ⟨g,0,none⟩)) W.drew:=Lib.run_unsafeSliceData_row _ _ _ _ _ _ (by omega)
  have hUS:(Builtin.unsafeString_ #[156,3] 9 #[.pointer (some ⟨g,0,none⟩),.int .i64 t.length]).run Tryz.prog W.drew=.ok (.string ⟨t.toArray⟩) (W.drew.freeze ⟨g,0,none⟩ t.length):=by
   refine Lib.run_unsafeString_row W.drew 156 3 9 5 Tryz.underlying156 (by kernel_rfl) g cur.size (by have hg':W.drew.heap[g]?=some (.cells cur 5 fz):=hg;simp [World.shape?,hg']) t h0 (by omega) (by unfold maxLen at hcm;omega) ?_
   intro j x hx
   exact hown.cells (g:=g) rfl j (.int .u8 x.toNat) (by simp [Lib.byteCells,hx])
  clear h hown hbk
  go_enter Tryz.func55,Tryz.ntmps55
  go_wp2
  go_region
  all_goals
   go_wp2
   go_ret
   refine ⟨rfl,fun k hk=>?_,Lib.below_freeze (Below.drew (Below.refl B W)) (p:=⟨g,0,none⟩) hbg _,freeze_size _ _ _⟩
   exact freeze_far W.drew g _ k (fun e=>hk (by rw [e];rfl))
theorem part_info:∃ i,Tryz.prog.info? 43=some i∧i.zero=some (.agg #[.int .i64 0,.string ⟨#[]⟩])∧i.size=2∧i.bytes=24:=by
 have h:(Tryz.prog.info? 43).map (fun i=>(i.zero,i.size,i.bytes))=some (some (.agg #[.int .i64 0,.string ⟨#[]⟩]),2,24):=by kernel_rfl
 obtain ⟨i,hi,he⟩:=Option.map_eq_some_iff.1 h
 injection he with h1 h2
 injection h2 with h2 h3
 exact ⟨i,hi,h1,h2,h3⟩
theorem two_new (w:World) (u v:Value) (t:TypeId):∀ j x,[u,v][j]?=some x→(w.alloc (.cells #[u,v] t)).cell? ((⟨w.heap.size,0,none⟩:Addr).add j)=some x:=by
 have hb:=Blk.new w #[u,v] t w.heap.size rfl
 intro j x hx
 rw [Go.WideShapes.add_plain,Nat.zero_add,hb.cell j,←Array.getElem?_toList]
 exact hx
theorem MkS.part {B b:Nat} {ps:List Cp} {t:List UInt8} {pv av bv:Value} {W W1 w6:World} (h:MkS B b ps t pv av bv W) (hb:Below W.heap.size W W1) (c:Cp) {v6:Value} (hg:W1.grownBy w6 pv.ownBlock) (ho:w6.ownsRow B 43 2 v6 (ps.length+1) (cpC ps++[.int .i64 c.1,.string (txt c.2)])) :
  MkS B b (ps++[c]) t v6 av bv (w6.setCell ⟨b,0,none⟩ v6):=by
 have hs1:=hb.size
 have hq6:=blkGrownR (h.q.below hb h.q.lt) hg h.np
 have hn6:v6.ownBlock≠some b:=own_ne ho hq6 (by decide)
 refine ⟨hq6.set 0 _,h.bb,h.a,?_,?_⟩
 ·rw [cpC_snoc,List.length_append]
  exact own_row_same ho fun k hk=>set_far _ _ _ _ k fun e=>hn6 (by rw [hk,e])
 ·refine rowF_same h.br fun k hk=>?_
  rw [set_far _ _ _ _ k fun e=>h.nb (by rw [hk,e]),hg.block k (by have:=(h.br.lt k hk).2;omega) (fun e=>h.npb k e.symm hk),hb.block k (h.br.lt k hk).2]
/-- The text is ended. -/
theorem kendt_any {B b:Nat} {ps:List Cp} {t:List UInt8} {pv av bv:Value} {W:World} (h:MkS B b ps t pv av bv W) (hl:t.length≤4000000) (hp:ps.length≤4000000) (hBw:B≤W.heap.size) :
  Calls Tryz.prog 81 #[.pointer (some ⟨b,0,none⟩)] W fun e W'=>e=.returned (.tuple #[])∧(∃ pv' av' bv',MkS B b (cpEnd ps t) [] pv' av' bv' W')∧Below B W W':=by
 have hL:=mlen_any h
 unfold cpEnd
 by_cases ht:t=[]
 ·rw [if_pos ht]
  have hz:¬ (0:Int) < (t.length:Int):=by simp [ht]
  have HH:=Lib.hid (show MkS B b ps [] pv av bv W by rw [←ht];exact h)
  clear h ht
  go_enter Tryz.func81,Tryz.ntmps81
  go_wp2_with (go_at_call 98;refine hL.mono ?_;rintro e w1 ⟨rfl,rfl⟩)
  go_end0
  exact ⟨rfl,⟨_,_,_,HH.out⟩,Below.refl _ _⟩
 ·rw [if_neg ht]
  have hz:(0:Int) < (t.length:Int):=by have:=List.length_pos_iff.2 ht;omega
  have hS:=fun (W1:World) (h1:MkS B b ps t pv av bv W1)=>mstring_any h1 ht hl
  obtain ⟨i0,hi,hz0,hz1,hz2⟩:=part_info
  have hm1:ps.length+1≤maxLen:=by unfold maxLen;omega
  have hm2:(ps.length+1) * 24≤140737488355328:=by omega
  have c0:W.cell? ⟨b,0,none⟩=some pv:=(h.q.cell 0).trans rfl
  obtain ⟨pa,pc,rfl⟩:=own_form' h.pr
  have hlt:=h.q.lt
  have HH:=Lib.hid h
  have HB:=Lib.hid hBw
  have Ht:=Lib.hid ht
  clear h hBw ht
  go_enter Tryz.func81,Tryz.ntmps81
  go_upto_region 1 with (go_at_call 98;refine hL.mono ?_;rintro e w0 ⟨rfl,hw⟩;have hw':=hw.symm;subst hw')
  go_cut [] (fun wx=>∃ v6,Blk wx b #[v6,av,bv] 158∧wx.ownsRow B 43 2 v6 (ps.length+1) (cpC ps++[.int .i64 (-1),.string (txt t)])∧Below B W wx)
  case first=>
   go_region_law (first
    | (refine step_append_any rfl _ _ 31 rfl B 43 i0 (.agg #[.int .i64 0,.string ⟨#[]⟩]) 2 24 Tryz.underlying31 hi hz0 hz1 hz2 rfl (by decide) (.slice pa ps.length pc) ps.length (cpC ps) rfl (nd_own_below HR1.out (by repeat (first | (with_reducible exact Below.refl _ _) | refine Below.drew ?_ | refine Below.alloc ?_ (Nat.le_refl _) _))) (some ⟨w1.heap.size,0,none⟩) 1 1 [.int .i64 (-1),.string ⟨t.toArray⟩] rfl rfl (fun _=>⟨_,rfl,two_new _ _ _ _⟩) (by intro u hu;simp at hu;rcases hu with rfl | rfl <;> rfl) hm1 hm2 (by simp;omega) ?_;intro v6 w6 hown6 hgrow6 hat6;obtain ⟨a6,c6,rfl⟩:=own_form' hown6;have hbl:=(Below.refl w1.heap.size w1).alloc (Nat.le_refl _) (.cells #[.int .i64 (-1),.string ⟨t.toArray⟩] 43);have hq6:=blkGrownR (HQ1.out.below hbl HQ1.out.lt) hgrow6 HH.out.np;have HG:=Lib.hid (show Blk w6 b #[_,av,bv] _∧World.ownsRow w6 B 43 2 (.slice a6 (ps.length+1) c6) (ps.length+1) (cpC ps++[.int .i64 (-1),.string (txt t)])∧Below B W w6 from ⟨hq6,hown6,(HB1.out.trans (hbl.mono hbs)).grown hgrow6 (by simp;omega) (fun k hk=>own_of HH.out.pr k hk)⟩);have f0:=hq6.frozen 0;have g0:w6.cell? ⟨b,0,none⟩=some (.slice pa ps.length pc):=(hq6.cell 0).trans rfl;clear hown6 hgrow6 hat6 hq6 hbl)
    | (go_simp;go_at_call 55;refine (hS _ (by first | exact HH.out | exact (show MkS B b ps t _ av bv W.drew from ⟨HH.out.q,HH.out.bb,HH.out.a,HH.out.pr,HH.out.br⟩))).mono ?_;rintro e w1 ⟨rfl,k1,b1,s1⟩;have HB1:=Lib.hid (by first | exact b1 | exact (Below.refl B W).drew.trans b1:Below B W w1);have HQ1:=Lib.hid (show Blk w1 b _ _ from (k1 b HH.out.nb).trans HH.out.q);have HR1:=Lib.hid (own_row_same (w:=W) HH.out.pr fun g hg=>k1 g (HH.out.npb g hg));have hbs:B≤w1.heap.size:=Nat.le_trans HB.out HB1.out.size;have d0:w1.cell? ⟨b,0,none⟩=some (.slice pa ps.length pc):=(HQ1.out.cell 0).trans rfl;have hlt1:b < w1.heap.size:=HQ1.out.lt;clear k1 b1 s1))
   all_goals
    (try go_wp2_with fail)
    go_meet
    refine ⟨_,HG.out.1.set 0 _,own_row_same HG.out.2.1 fun k hk=>set_far _ _ _ _ k fun e=>own_ne HG.out.2.1 HG.out.1 (by decide) (by rw [hk,e]),HG.out.2.2.setCell (p:=⟨b,0,none⟩) HH.out.bb _⟩
  case rest=>
   obtain ⟨v6,q6,r6,b6⟩:=hcut
   have hR:=mreset_any q6 HH.out.bb (ps:=ps++[(-1,t)]) (by rw [cpC_snoc,List.length_append];exact r6)
   have HB6:=Lib.hid b6
   clear q6 r6 b6 hL hS c0
   go_wp2_with (go_at_call 99;refine hR.mono ?_;rintro e w7 ⟨rfl,h7,b7⟩)
   go_end0
   exact ⟨rfl,⟨_,_,_,h7⟩,HB6.out.trans b7⟩
/-- A group is put behind. -/
theorem kaddg_any {B b:Nat} {ps:List Cp} {t:List UInt8} {pv av bv:Value} {W:World} (n:Int) (h:MkS B b ps t pv av bv W) (hl:t.length≤4000000) (hp:ps.length≤3000000) (hBw:B≤W.heap.size) :
  Calls Tryz.prog 80 #[.pointer (some ⟨b,0,none⟩),.int .i64 n] W fun e W'=>e=.returned (.tuple #[])∧(∃ pv' av' bv',MkS B b (cpEnd ps t++[(n,[])]) [] pv' av' bv' W')∧Below B W W':=by
 have hE:=kendt_any h hl (by omega) hBw
 have hpl:(cpEnd ps t).length≤3000001:=by
  unfold cpEnd
  split
  ·omega
  ·simp;omega
 generalize cpEnd ps t=qs at hE hpl ⊢
 obtain ⟨i0,hi,hz0,hz1,hz2⟩:=part_info
 have HBw:=Lib.hid hBw
 clear h hBw
 go_enter Tryz.func80,Tryz.ntmps80
 go_upto_region 1 with (go_at_call 81;refine hE.mono ?_;clear hE;rintro e w1 ⟨rfl,⟨pv1,av1,bv1,h1⟩,b1⟩;have H1:=Lib.hid h1;have HB1:=Lib.hid b1;obtain ⟨pa,pc,rfl⟩:=own_form' h1.pr;have hlt:=h1.q.lt;have c0:w1.cell? ⟨b,0,none⟩=some (.slice pa qs.length pc):=(h1.q.cell 0).trans rfl;clear h1 b1)
 have hm1:qs.length+1≤maxLen:=by unfold maxLen;omega
 have hm2:(qs.length+1) * 24≤140737488355328:=by omega
 have hbs:B≤w1.heap.size:=Nat.le_trans HBw.out HB1.out.size
 have hbl:=(Below.refl w1.heap.size w1).alloc (Nat.le_refl _) (.cells #[.int .i64 n,.string ⟨#[]⟩] 43)
 have hbs2:B≤(w1.alloc (.cells #[.int .i64 n,.string ⟨#[]⟩] 43)).heap.size:=by have:=hbl.size;omega
 have HBL:=Lib.hid hbl
 clear hbl
 go_wp2_with (at_builtin;go_loud (refine wpList_append_own_at _ rfl _ _ 31 rfl B 43 i0 (.agg #[.int .i64 0,.string ⟨#[]⟩]) 2 24 Tryz.underlying31 hi hz0 hz1 hz2 rfl (by decide) (.slice pa qs.length pc) qs.length (cpC qs) rfl (nd_own_below H1.out.pr HBL.out) ⟨w1.heap.size,0,none⟩ 1 1 [.int .i64 n,.string ⟨#[]⟩] rfl rfl (two_new _ _ _ _) (by intro u hu;simp at hu;rcases hu with rfl | rfl <;> rfl) hm1 hm2 hbs2 ?_;intro v6 w6 hown6 hgr6 _ hat6;obtain ⟨a6,c6,rfl⟩:=own_form' hown6;have HP:=Lib.hid (H1.out.part HBL.out (n,[]) hgr6 hown6);have hq6:=blkGrownR (H1.out.q.below HBL.out H1.out.q.lt) hgr6 H1.out.np;have f0:=hq6.frozen 0;have g0:w6.cell? ⟨b,0,none⟩=some (.slice pa qs.length pc):=(hq6.cell 0).trans rfl;have HB6:=Lib.hid (((HB1.out.trans (HBL.out.mono hbs)).grown hgr6 (by simp;omega) (fun k hk=>own_of H1.out.pr k hk)).setCell (p:=⟨b,0,none⟩) H1.out.bb (.slice a6 (qs.length+1) c6));clear hown6 hgr6 hat6 hq6))
 go_end0
 exact ⟨rfl,⟨_,_,_,HP.out⟩,HB6.out⟩
end Go.Proofs.YtbgfankoojjejaaGreatDoor
namespace Go.Proofs.YtbgfankoojjejaaGreatDoor
open Go Go.RowKit
def PtA (W:World) (R:List Cp × Nat) (e:Ending) (W':World):Prop:=Below W.heap.size W W'∧∃ pa pc,e=.returned (.tuple #[.slice pa R.1.length pc,.int .i64 (R.2:Int)])∧W'.ownsRow W.heap.size 43 2 (.slice pa R.1.length pc) R.1.length (cpC R.1)
theorem pta_err {W W':World} (hb:Below W.heap.size W W') (k:Nat):PtA W ([],k) (.returned (.tuple #[.slice none 0 0,.int .i64 (k:Int)])) W':=⟨hb,none,0,rfl,World.ownsRow_nil _ _ _ _⟩
theorem cpEnd_len (ps:List Cp) (t:List UInt8):(cpEnd ps t).length≤ps.length+1:=by
 unfold cpEnd
 split
 ·omega
 ·simp
theorem kparts_any (s:ByteArray) (n:Nat) (W:World) (hs:s.size≤4000) :
  Calls Tryz.prog 56 #[.string s,.int .i64 (n:Int)] W (PtA W (cpRun n s.data.toList false [] [])):=by
 obtain ⟨R,hR⟩:∃ R,cpRun n s.data.toList false [] []=R:=⟨_,rfl⟩
 rw [hR]
 have HR:=Lib.hid hR
 clear hR
 obtain ⟨W0,hW0⟩:∃ W0,W.alloc (.cells #[.slice none 0 0,.pointer none,.slice none 0 0] 158)=W0:=⟨_,rfl⟩
 have hq0:=blkOfAlloc hW0
 have hb0:=belowOfAlloc hW0
 have hM0:MkS W.heap.size W.heap.size [] [] (.slice none 0 0) (.pointer none) (.slice none 0 0) W0:=⟨hq0,Nat.le_refl _,.inl rfl,World.ownsRow_nil _ _ _ _,World.ownsRowF_nil _ _ _ _⟩
 have HB0:=Lib.hid hb0
 have HM0:=Lib.hid hM0
 clear hq0 hb0 hM0
 go_enter Tryz.func56,Tryz.ntmps56
 go_wp2_with fail
 go_loopw [7,13] (fun e i wr=>∃ (j:Nat) (esc:Bool) (ps:List Cp) (t:List UInt8) (pv av bv:Value),j≤s.size∧e=.bool esc∧i=.int .i64 j∧MkS W.heap.size W.heap.size ps t pv av bv wr∧Below W.heap.size W wr∧cpRun n (s.data.toList.drop j) esc ps t=R∧t.length≤j∧ps.length≤2 * j) (fun _ i _=>s.size - (intOf i).toNat)
 case atStart=>exact ⟨0,false,[],[],_,_,_,by omega,rfl,rfl,HM0.out,HB0.out,HR.out,by simp,by simp⟩
 case round=>
  obtain ⟨j,esc,ps,t,pv,av,bv,hj,rfl,rfl,hm,hbw,hc,htl,hpl⟩:=hrel
  have HM:=Lib.hid hm
  have HB:=Lib.hid hbw
  have hBs:W.heap.size≤wr.heap.size:=hbw.size
  clear hm hbw
  by_cases hlt:j < s.size
  ·have hji:(j:Int) < (s.size:Int):=by omega
   have hy0:(0:Int)≤(j:Int):=by omega
   rw [drop_at s j hlt] at hc
   obtain ⟨b,hb⟩:∃ b,s[j]=b:=⟨_,rfl⟩
   have hsx:s[j]'hlt=b:=hb
   rw [hb] at hc
   clear hb
   have Wj:IntKind.i64.wrap ((j:Int)+1)=(j:Int)+1:=IntWalk.i64_in _ (by omega)
   cases esc with
   | false=>
    by_cases h92:b=92
    ·have q92:((b.toNat:Int) == 92)=true:=by rw [h92];rfl
     have HC:=Lib.hid (show cpRun n (s.data.toList.drop (j+1)) true ps t=R by rw [←hc,h92];simp [cpRun])
     clear h92 hc
     go_wp2_with fail
     go_roundw
     case rel=>exact ⟨j+1,true,ps,t,pv,av,bv,by omega,rfl,by go_num,HM.out,HB.out,HC.out,by omega,by omega⟩
     case measure=>simp [intOf];omega
    ·have q92:((b.toNat:Int) == 92)=false:=cmu_ne (c:=92) h92
     by_cases h38:b=38
     ·have q38:((b.toNat:Int) == 38)=true:=by rw [h38];rfl
      have HC:=Lib.hid (show cpRun n (s.data.toList.drop (j+1)) false (cpEnd ps t++[(0,[])]) []=R by rw [←hc,h38];simp [cpRun])
      clear h92 h38 hc
      have hAg:=kaddg_any 0 HM.out (by omega) (by omega) hBs;go_wp2_with (first | (go_at_call 59;refine (kdigit_any _ _).mono ?_;rintro e w5 ⟨rfl,hw5⟩;have hw5':=hw5.symm;subst hw5') | (go_at_call 80;with_reducible refine hAg.mono ?_;clear hAg;rintro e w6 ⟨rfl,⟨pv6,av6,bv6,h6⟩,b6⟩));go_roundw;(case rel=>exact ⟨j+1,false,cpEnd ps t++[(0,[])],[],pv6,av6,bv6,by omega,rfl,by go_num,h6,HB.out.trans b6,HC.out,by simp,by have:=cpEnd_len ps t;simp;omega⟩);(case measure=>simp [intOf];omega)
     ·have q38:((b.toNat:Int) == 38)=false:=cmu_ne (c:=38) h38
      have HC:=Lib.hid (show cpRun n (s.data.toList.drop (j+1)) false ps (t++[b])=R by rw [←hc];simp [cpRun,h92,h38])
      clear h92 h38 hc
      have hWb:=mwbyte_any b HM.out (by omega) hBs;go_wp2_with (first | (go_at_call 59;refine (kdigit_any _ _).mono ?_;rintro e w5 ⟨rfl,hw5⟩;have hw5':=hw5.symm;subst hw5') | (go_at_call 54;with_reducible refine hWb.mono ?_;clear hWb;rintro e w6 ⟨rfl,⟨bv6,h6⟩,b6⟩));go_roundw;(case rel=>exact ⟨j+1,false,ps,t++[b],pv,_,bv6,by omega,rfl,by go_num,h6,HB.out.trans b6,HC.out,by simp;omega,by omega⟩);(case measure=>simp [intOf];omega)
   | true=>
    by_cases hd:pcDigits.contains b=true
    ·have hd2:=hd
     rw [pcDigits_iff] at hd2
     simp only [Bool.and_eq_true,decide_eq_true_eq] at hd2
     obtain ⟨m,hmb⟩:∃ m,b.toNat - 48=m:=⟨_,rfl⟩
     have Wm:IntKind.u8.wrap ((b.toNat:Int) - 48)=(m:Int):=by
      rw [show ((b.toNat:Int) - 48)=(m:Int) by omega]
      simp [IntKind.wrap,IntKind.bits,IntKind.signed]
      omega
     have Wi:IntKind.i64.wrap (m:Int)=(m:Int):=IntWalk.i64_in _ (by omega)
     have hdc:pcDigits.contains b=true:=hd
     by_cases hnm:n < m
     ·have hni:(n:Int) < (m:Int):=by omega
      have HC:=Lib.hid (show R=([],9) by rw [←hc];unfold cpRun;rw [if_pos hd,hmb,if_pos hnm])
      clear hd hc hd2
      go_wp2_with (go_at_call 59;refine (kdigit_any _ _).mono ?_;rintro e w5 ⟨rfl,hw5⟩;have hw5':=hw5.symm;subst hw5';rw [hdc])
      go_ret2
      rw [HC.out]
      exact pta_err HB.out 9
     ·have hni:¬ (n:Int) < (m:Int):=by omega
      have HC:=Lib.hid (show cpRun n (s.data.toList.drop (j+1)) false (cpEnd ps t++[((m:Int),[])]) []=R by rw [←hc];conv=>rhs;unfold cpRun;rw [if_pos hd,hmb,if_neg hnm])
      clear hd hc hd2
      have hAg:=kaddg_any (m:Int) HM.out (by omega) (by omega) hBs;go_wp2_with (first | (go_at_call 59;refine (kdigit_any _ _).mono ?_;rintro e w5 ⟨rfl,hw5⟩;have hw5':=hw5.symm;subst hw5';rw [hdc]) | (go_at_call 80;go_loud (refine hAg.mono ?_;clear hAg;rintro e w6 ⟨rfl,⟨pv6,av6,bv6,h6⟩,b6⟩)));go_roundw;(case rel=>exact ⟨j+1,false,cpEnd ps t++[((m:Int),[])],[],pv6,av6,bv6,by omega,rfl,by go_num,h6,HB.out.trans b6,HC.out,by simp,by have:=cpEnd_len ps t;simp;omega⟩);(case measure=>simp [intOf];omega)
    ·have hdc:pcDigits.contains b=false:=by simpa using hd
     by_cases h110:b=110
     ·have q110:((b.toNat:Int) == 110)=true:=by rw [h110];rfl
      have HC:=Lib.hid (show cpRun n (s.data.toList.drop (j+1)) false ps (t++[10])=R by rw [←hc,h110];simp [cpRun,pcDigits])
      clear hd hc h110
      have hWb:=mwbyte_any 10 HM.out (by omega) hBs;rw [show (((10:UInt8).toNat:Nat):Int)=10 from rfl] at hWb;go_wp2_with (first | (go_at_call 59;refine (kdigit_any _ _).mono ?_;rintro e w5 ⟨rfl,hw5⟩;have hw5':=hw5.symm;subst hw5';rw [hdc]) | (go_at_call 54;with_reducible refine hWb.mono ?_;clear hWb;rintro e w6 ⟨rfl,⟨bv6,h6⟩,b6⟩));go_roundw;(case rel=>exact ⟨j+1,false,ps,t++[10],pv,_,bv6,by omega,rfl,by go_num,h6,HB.out.trans b6,HC.out,by simp;omega,by omega⟩);(case measure=>simp [intOf];omega)
     ·have q110:((b.toNat:Int) == 110)=false:=cmu_ne (c:=110) h110
      have HC:=Lib.hid (show cpRun n (s.data.toList.drop (j+1)) false ps (t++[b])=R by rw [←hc];conv=>rhs;unfold cpRun;rw [if_neg hd,if_neg h110])
      clear hd hc h110
      have hWb:=mwbyte_any b HM.out (by omega) hBs;go_wp2_with (first | (go_at_call 59;refine (kdigit_any _ _).mono ?_;rintro e w5 ⟨rfl,hw5⟩;have hw5':=hw5.symm;subst hw5';rw [hdc]) | (go_at_call 54;with_reducible refine hWb.mono ?_;clear hWb;rintro e w6 ⟨rfl,⟨bv6,h6⟩,b6⟩));go_roundw;(case rel=>exact ⟨j+1,false,ps,t++[b],pv,_,bv6,by omega,rfl,by go_num,h6,HB.out.trans b6,HC.out,by simp;omega,by omega⟩);(case measure=>simp [intOf];omega)
  ·obtain rfl:j=s.size:=by omega
   rw [drop_end s s.size (Nat.le_refl _)] at hc
   cases esc with
   | true=>
    have HC:=Lib.hid (show R=([],11) by rw [←hc];rfl)
    clear hc
    go_wp2_with fail
    go_ret2
    rw [HC.out]
    exact pta_err HB.out 11
   | false=>
    have HC:=Lib.hid (show R=(cpEnd ps t,0) by rw [←hc];rfl)
    have hE:=kendt_any HM.out (by omega) (by omega) hBs
    clear hc
    go_wp2_with (go_at_call 81;with_reducible refine hE.mono ?_;clear hE;rintro e w6 ⟨rfl,⟨pv6,av6,bv6,h6⟩,b6⟩;have H6:=Lib.hid h6;have c0:w6.cell? ⟨W.heap.size,0,none⟩=some pv6:=(h6.q.cell 0).trans rfl;clear h6)
    go_ret2
    rw [HC.out]
    obtain ⟨a6,c6,rfl⟩:=own_form' H6.out.pr
    exact ⟨HB.out.trans b6,a6,c6,rfl,H6.out.pr⟩
end Go.Proofs.YtbgfankoojjejaaGreatDoor
