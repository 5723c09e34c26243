/- Texts. -/
import Derived.Test.YtnognicabhgmcaaGreatDoorSp06
import Derived.BigFrame
import Derived.Test.YtnognicabhgmcaaGreatDoorCards
import Derived.Test.YtnognicabhgmcaaGreatDoorTie
import Derived.ShutString
import Derived.Deep.DeepHandedRow
import Derived.Stop.LaidErr
import Derived.Shelf.Vars
set_option linter.unusedSimpArgs false
set_option linter.unusedVariables false
set_option maxHeartbeats 8000000
set_option maxRecDepth 1000000
namespace Go.Proofs.YtnognicabhgmcaaGreatDoor
open Go.Lib renaming hid→Afj
open Nat renaming le_refl→Afq,lt_of_lt_of_le→Aft,le_of_lt→Afu
open Go.RowKit.Below renaming refl→Afv,heap_setCell→Afw
open Go.IntWalk renaming i64_in→Afx
open List renaming mem_append→Af1,getElem?_eq_getElem→Af4
open _root_.Array renaming getElem?_eq_some_iff→Af6
open Go.Proofs.Tryz
section
open Go Go.RowKit
def Ff (c:Cmd):Bool:=c.name == 98 || c.name == 116 || c.name == 84
theorem Pi (c:Cmd) (ta tb ts pv:Value) (w:World):Calls prog 24 #[.agg (EL c ta tb ts pv)] w fun e w'=>e=.returned (.bool (Ff c))∧Below w.heap.size w w':=by
 unfold EL;by_cases h1:c.name=98
 ·have q1:((c.name.toNat:Int) == 98)=true:=by rw [h1];rfl
  rw [show Ff c=true by unfold Ff;rw [h1];rfl];clear h1;go_enter func24,ntmps24;go_upto_region 1 with fail;generalize hW1:w.alloc _=W1;have B1:=Afj (Ad hW1);obtain ⟨x0,x10,x11⟩:=GO (c:=c) (ta:=ta) (tb:=tb) (ts:=ts) (pv:=pv) (Af hW1);clear hW1;go_wp2_with fail
  go_ret;exact ⟨rfl,B1.out⟩
 have q1:((c.name.toNat:Int) == 98)=false:=GN (b:=98) h1;by_cases h2:c.name=116
 ·have q2:((c.name.toNat:Int) == 116)=true:=by rw [h2];rfl
  rw [show Ff c=true by unfold Ff;rw [h2];rfl];clear h1 h2;go_enter func24,ntmps24;go_upto_region 1 with fail;generalize hW1:w.alloc _=W1;have B1:=Afj (Ad hW1);obtain ⟨x0,x10,x11⟩:=GO (c:=c) (ta:=ta) (tb:=tb) (ts:=ts) (pv:=pv) (Af hW1);clear hW1;go_wp2_with fail
  go_ret;exact ⟨rfl,B1.out⟩
 have q2:((c.name.toNat:Int) == 116)=false:=GN (b:=116) h2;by_cases h3:c.name=84
 ·have q3:((c.name.toNat:Int) == 84)=true:=by rw [h3];rfl
  rw [show Ff c=true by unfold Ff;rw [h3];rfl];clear h1 h2 h3;go_enter func24,ntmps24;go_upto_region 1 with fail;generalize hW1:w.alloc _=W1;have B1:=Afj (Ad hW1);obtain ⟨x0,x10,x11⟩:=GO (c:=c) (ta:=ta) (tb:=tb) (ts:=ts) (pv:=pv) (Af hW1);clear hW1;go_wp2_with fail
  go_ret;exact ⟨rfl,B1.out⟩
 ·have q3:((c.name.toNat:Int) == 84)=false:=GN (b:=84) h3;rw [show Ff c=false by unfold Ff;simp [h1,h2,h3]];clear h1 h2 h3;go_enter func24,ntmps24;go_upto_region 1 with fail;generalize hW1:w.alloc _=W1;have B1:=Afj (Ad hW1);obtain ⟨x0,x10,x11⟩:=GO (c:=c) (ta:=ta) (tb:=tb) (ts:=ts) (pv:=pv) (Af hW1);clear hW1;go_wp2_with fail
  go_ret;exact ⟨rfl,B1.out⟩
theorem Aax {w:World} {B:Nat} {T:TypeId} {a:Option Addr} {c:Nat} {l:List Nat} {x:Nat} (h:w.ownsRow B T 1 (.slice a l.length c) l.length (opC l)) (hx:l.getLast?=some x):∃ g,a=some ⟨g,0,none⟩∧l.length≤maxLen∧w.cell? ⟨g,l.length - 1,none⟩=some (.int .i64 (x:Int)):=by
 have h0:0 < l.length:=by cases l with | nil=>cases hx | cons=>simp
 rcases h.2 with ⟨_,e⟩ | ⟨g,cap,cur,h1,_,hg,hc1,hc2,_,ht⟩
 ·omega
 ·injection h1 with h1 _ _;refine ⟨g,h1,by omega,?_⟩;have h9:(opC l)[l.length - 1]?=some (.int .i64 (x:Int)):=by
   unfold opC;rw [List.getElem?_map,←List.getLast?_eq_getElem?,hx];rfl
  rw [←ht,List.getElem?_take] at h9;split at h9
  ·simp only [World.cell?,hg];rw [Array.getElem?_toList] at h9;simpa using h9
  ·cases h9
def SL (o:Option Cmd):Nat × Nat:=match o with | some c=>(14,c.pl) | none=>(0,0)
theorem Yh {st:SS} {x:Nat} (h:st.op.getLast?=some x):C5 st=(16,x):=by unfold C5;rw [h]
theorem Yi {st:SS} (h:st.op.getLast?=none):C5 st=SL (st.cs.find? (Dp (scLabels st.cs))):=by unfold C5;rw [h];rfl
theorem Yj {W:World} {b:Nat} {ls:List (List UInt8)} (h:LabAt W b ls) (x:List UInt8) (hx:x.length≤40):(Instr.lookup 36 (.map (some b)) (.string (txt x)) false).run prog W=.ok (.int .i64 (if x∈ls then 1 else 0)) W:=by
 obtain ⟨n,D,hn,hown,hat⟩:=h;obtain ⟨cc,hrun,hcc,_⟩:=hown.lookup_int (Go.Maps.string_keyed underlying9) underlying36 underlying3 (KI _) (SG x hx);rw [hat x] at hcc;injection hcc with hcc;injection hcc with _ hcc;rw [hcc];exact hrun
theorem Ad0 (a:UInt8) (l:List UInt8):¬ (txt (a :: l)).toList=[]:=fun e=>by
 rw [ByteArray.toList_eq] at e;cases e
theorem Jy (ls:List (List UInt8)) (c:Cmd):Dp ls c=(Ff c && !c.arg.isEmpty && !ls.contains c.arg):=rfl
theorem UR (W:World) (p mp:Nat) (q:Bool) (s:ByteArray) (ext:Bool) (r:RV) (w:World) (h:ScS W p mp q s ext r w) (hI:ScI r s.size) :
  Calls prog 16 #[.pointer (some ⟨p,0,none⟩)] w fun e w'=>e=.returned (.tuple #[.int .i64 ((C5 r.st).2:Int),.int .i64 ((C5 r.st).1:Int)])∧Below w.heap.size w w':=by
 have k6:w.cell? ⟨p,6,none⟩=some (.slice r.oa r.st.op.length r.oc):=(h.b.cell 6).trans rfl;have HI:=Afj hI;cases hl:r.st.op.getLast? with
 | some x=>
  have h0:0 < r.st.op.length:=by cases h1:r.st.op with | nil=>rw [h1] at hl;cases hl | cons=>simp
  have ho:=h.h.or;obtain ⟨n,hn⟩:∃ n,r.st.op.length=n:=⟨_,rfl⟩;obtain ⟨g,hg,hm,k⟩:=Aax ho hl;rw [hg] at k6;rw [hn] at k6 h0 k hm;have hop:=HI.out.op;rw [hn] at hop;have Wn:IntKind.i64.wrap ((n:Int) - 1)=((n - 1:Nat):Int):=by rw [Afx _ (by omega)];omega
  obtain ⟨m,hm2⟩:∃ m,n - 1=m:=⟨_,rfl⟩;rw [hm2] at k Wn;have hmn:(m:Int) < (n:Int):=by omega
  have hy0:(0:Int)≤(m:Int):=by omega
  have hn0:(0:Int) < (n:Int):=by omega
  rw [Yh hl];clear h ho hl hm hop hn hm2;go_enter func16,ntmps16;go_upto_region 2 with fail
  go_region_law (fail)
  all_goals
   (try go_wp2_with fail)
   go_ret2
   exact ⟨rfl,(Afv _ _).drew⟩
 | none=>
  have h0:r.st.op.length=0:=by cases h1:r.st.op with | nil=>rfl | cons a l=>rw [h1] at hl;simp at hl
  rw [h0] at k6;have hcs:=h.h.cs;have hvl:r.vs.length=r.st.cs.length:=by rw [←hcs,List.length_map]
  obtain ⟨n,hn⟩:∃ n,r.vs.length=n:=⟨_,rfl⟩;have hn1:n≤100:=by rw [←hn,hvl];exact HI.out.cs
  have k1:w.cell? ⟨p,1,none⟩=some (.slice r.ca n r.cc):=by rw [←hn];exact (h.b.cell 1).trans rfl
  have hrow:=Pf h.h.cr;obtain ⟨ca,hca⟩:∃ ca,r.ca=ca:=⟨_,rfl⟩;rw [hca] at k1 hrow;have hone:=fun v hv=>CV.one (h.h.ok v hv)
  have H0:=Afj h;have RA:=Afj hrow;have HO:=Afj hone;have HN:=Afj hn;have HC:=Afj hcs;rw [Yi hl];obtain ⟨A,hA⟩:∃ A,SL (r.st.cs.find? (Dp (scLabels r.st.cs)))=A:=⟨_,rfl⟩;rw [hA];have HA:=Afj hA;clear h hrow hone hn hcs hvl hl h0 hA hca;go_enter func16,ntmps16;go_upto_region 4 with fail;go_loopw [30] (fun i wr=>∃ j:Nat,j≤n∧i=.int .i64 j∧Below w.heap.size w wr∧r.st.cs.find? (Dp (scLabels r.st.cs))=(r.st.cs.drop j).find? (Dp (scLabels r.st.cs))) (fun i _=>n - (intOf i).toNat)
  case atStart=>exact ⟨0,by omega,rfl,Afv _ _,by simp⟩
  case round=>
   obtain ⟨j,hj,rfl,hb,hfind⟩:=hrel;have HB:=Afj hb;have HF:=Afj hfind;clear hb hfind;by_cases hlt:j < n
   ·have hji:(j:Int) < (n:Int):=by omega
    have hy0:(0:Int)≤(j:Int):=by omega
    have Wj:IntKind.i64.wrap ((j:Int)+1)=(j:Int)+1:=Afx _ (by omega);have j1:j < r.vs.length:=by rw [HN.out];exact hlt
    obtain ⟨g1,rfl,_,hc1⟩:=(RA.out.below HB.out) (by omega);have r1:=hc1 j j1;have o1:=HO.out _ (List.getElem_mem j1);have hjc:j < r.st.cs.length:=by rw [←HC.out,List.length_map];exact j1
    have hcj:r.vs[j].c=r.st.cs[j]:=by have:=HC.out;simp only [←this,List.getElem_map]
    have HD:=Afj (show r.st.cs.drop j=r.vs[j].c :: r.st.cs.drop (j+1) by rw [hcj];exact List.drop_eq_getElem_cons hjc);have HM:=Afj (show r.vs[j].c∈r.st.cs by rw [hcj];exact List.getElem_mem hjc);clear hc1 hcj hjc;generalize r.vs[j]=x at r1 o1 HD HM;have HLab:Ff x.c=true→x.c.arg.length≤40:=fun e=>(HI.out.fi x.c HM.out).2.2.2 (by unfold Ff at e;simp at e;rcases e with (e | e) | e;exact .inr (.inl e);exact .inr (.inr (.inl e));exact .inr (.inr (.inr e)))
    have HLa:=Afj HLab;clear HLab;go_upto_region 5 with fail;refine wp_region_list ?_;refine wpList_plain rfl (fun K hK=>?_);go_simp;refine hK _ _ ?_;clear hK K;(try simp only [Aa,Act.put]);refine wpList_load_mid rfl 54 _ rfl g1 (j * 20) (by simp [Act.eval]) x.cells.toList _ r1 underlying54 rfl (by kernel_rfl) ?_;rw [Array.toArray_toList]
    (try simp only [Aa,Act.put])
    refine wpList_plain rfl (fun K hK=>?_);go_simp;generalize hA:(wr).alloc _=wy;refine hK _ _ ?_;clear hK K;(try simp only [Aa,Act.put]);refine wpList_store_row rfl 54 _ _ rfl (World.heap wr).size (x.cells) rfl rfl 54 DP (Af hA) (by kernel_rfl) rfl (o1) ?_;(try simp only [Aa,Act.put]);have hbx:=XN (cs:=x.cells) hA;generalize wy.setRow (World.heap wr).size _=w1 at hbx ⊢;clear hA;refine wpList_nil ?_;obtain ⟨b1,q1⟩:=hbx;have HB1:=Afj (HB.out.trans (b1.mono HB.out.size));obtain ⟨g,hg⟩:∃ g,wr.heap.size=g:=⟨_,rfl⟩;rw [hg] at q1 ⊢;have hplt:=H0.out.b.lt;have hmlt:=(H0.out.h.lt (b:=mp) (by simp [RV.own])).2;have hS0:∀ W',Below w1.heap.size w1 W'→(fun W':World=>Blk W' g x.cells 54∧W'.cell? ⟨p,7,none⟩=some (.map (some mp))∧LabAt W' mp (scLabels r.st.cs)) W':=fun W' hW=>by
     have hw:=HB1.out.trans (hW.mono HB1.out.size);exact ⟨q1.below hW q1.lt,(hw.cell (p:=⟨p,7,none⟩) hplt).trans ((H0.out.b.cell 7).trans rfl),by rw [←HI.out.ls];exact H0.out.h.la.same (hw.block mp hmlt)⟩
    have HJ:=Pi x.c x.ta x.tb x.ts (.slice x.pa x.c.sub.parts.length x.pc);obtain ⟨J,hJ⟩:∃ J,Ff x.c=J:=⟨_,rfl⟩;rw [hJ] at HJ HLa;have HJJ:=Afj hJ;have hxc:x.cells=EL x.c x.ta x.tb x.ts (.slice x.pa x.c.sub.parts.length x.pc):=rfl;have HX:=Afj hxc;have hmix:Tryz.prog.follows .mixedOrders=true:=by kernel_rfl
    clear b1 q1 hg r1 o1 hplt hmlt hJ hxc;go_upto_region 6 with fail;refine wp_region_held_drew (S:=fun W':World=>Blk W' g x.cells 54∧W'.cell? ⟨p,7,none⟩=some (.map (some mp))∧LabAt W' mp (scLabels r.st.cs)) hmix (hS0 _ (Afv _ _).drew) (fun hHeld=>?_);refine AJ 0 (.agg x.cells) rfl hHeld (Or.inl ⟨by rfl,fun W' hSw=>G0 54 _ rfl g rfl hSw.1 underlying54 (by kernel_rfl)⟩) ?_
    (try simp only [Aa,Act.put])
    generalize hv0:w1.drew=v0 at hHeld ⊢;have hb0:Below w1.heap.size w1 v0:=by rw [←hv0];exact (Afv _ _).drew
    clear hv0;refine wpAnyH_ready (rs:=[1]) (by decide +kernel) (by simp) (AllReadyH.cons rfl (fun K hK=>?_) AllReadyH.nil);rw [HX.out];go_simp;go_wp2_with (go_at_call 24;refine (HJ v0).mono ?_;rintro e v1 ⟨rfl,b1⟩)
    rw [←HX.out];have hb1:Below w1.heap.size w1 v1:=hb0.trans (b1.mono hb0.size);refine hK.out _ _ (hS0 _ hb1) (fun hHeld=>?_);clear hK K HJ
    (try simp only [Aa,Act.put])
    refine AJ 2 ?_ rfl (by assumption) (Or.inl ⟨by rfl,?_⟩) ?_;rotate_left;(focus (intro W' hSw;(try go_simp);try with_reducible rfl));(try simp only [Aa,Act.put]);have HBF:=Afj (HB1.out.trans (hb1.mono HB1.out.size));clear hb0 hb1 b1 hS0;cases J with
    | false=>
     refine AJ 3 undef rfl (by assumption) (Or.inr ⟨by rfl,rfl⟩) ?_;(try simp only [Aa,Act.put]);refine AJ 4 undef rfl (by assumption) (Or.inr ⟨by rfl,rfl⟩) ?_;(try simp only [Aa,Act.put]);refine AJ 5 undef rfl (by assumption) (Or.inr ⟨by rfl,rfl⟩) ?_;(try simp only [Aa,Act.put]);refine AJ 6 ?_ rfl (by assumption) (Or.inl ⟨by rfl,?_⟩) ?_;rotate_left;(focus (intro W' hSw;(try go_simp);try with_reducible rfl));(try simp only [Aa,Act.put]);refine AJ 7 ?_ rfl (by assumption) (Or.inl ⟨by rfl,?_⟩) ?_;rotate_left;(focus (intro W' hSw;(try go_simp);try with_reducible rfl));(try simp only [Aa,Act.put]);refine AJ 8 undef rfl (by assumption) (Or.inr ⟨by rfl,rfl⟩) ?_;(try simp only [Aa,Act.put]);refine AJ 9 undef rfl (by assumption) (Or.inr ⟨by rfl,rfl⟩) ?_;(try simp only [Aa,Act.put]);refine AJ 10 undef rfl (by assumption) (Or.inr ⟨by rfl,rfl⟩) ?_;(try simp only [Aa,Act.put]);refine AJ 11 undef rfl (by assumption) (Or.inr ⟨by rfl,rfl⟩) ?_;(try simp only [Aa,Act.put]);refine AJ 12 undef rfl (by assumption) (Or.inr ⟨by rfl,rfl⟩) ?_;(try simp only [Aa,Act.put]);refine AJ 13 undef rfl (by assumption) (Or.inr ⟨by rfl,rfl⟩) ?_;(try simp only [Aa,Act.put]);refine AJ 14 undef rfl (by assumption) (Or.inr ⟨by rfl,rfl⟩) ?_;(try simp only [Aa,Act.put]);refine AJ 15 undef rfl (by assumption) (Or.inr ⟨by rfl,rfl⟩) ?_;(try simp only [Aa,Act.put]);refine AJ 16 ?_ rfl (by assumption) (Or.inl ⟨by rfl,?_⟩) ?_;rotate_left;(focus (intro W' hSw;(try go_simp);try with_reducible rfl));(try simp only [Aa,Act.put]);refine wpAnyH_done (by kernel_rfl) ?_ _;have HNJ:=Afj (show Dp (scLabels r.st.cs) x.c=false by rw [Jy,HJJ.out];rfl)
     (try go_wp2_with fail)
     go_roundw
     case rel=>exact ⟨j+1,by omega,by go_num,HBF.out,by rw [HF.out,HD.out,List.find?_cons_of_neg (by rw [HNJ.out];decide)]⟩
     case measure=>simp [intOf];omega
    | true=>
     have hal:=HLa.out rfl;cases ha:x.c.arg with
     | nil=>
      have HAR:=Afj ha;clear hal ha;refine AJ 3 ?_ rfl (by assumption) (Or.inl ⟨by rfl,?_⟩) ?_;rotate_left;(focus (intro W' hSw;(try go_simp);try with_reducible rfl));(try simp only [Aa,Act.put]);refine AJ 4 ?_ rfl (by assumption) (Or.inl ⟨by rfl,?_⟩) ?_;rotate_left;(focus (intro W' hSw;obtain ⟨hq,h7,hl⟩:=hSw;have h11:W'.cell? ⟨g,11,none⟩=some (.string ⟨#[]⟩):=(hq.cell 11).trans (show some (Value.string (txt x.c.arg))=_ by rw [HAR.out];rfl);(try go_simp);try with_reducible rfl));(try simp only [Aa,Act.put]);refine AJ 5 (.bool false) rfl (by assumption) (Or.inl ⟨by rfl,fun W' hSw=>by go_simp⟩) ?_
      (try simp only [Aa,Act.put])
      refine AJ 6 ?_ rfl (by assumption) (Or.inl ⟨by rfl,?_⟩) ?_;rotate_left;(focus (intro W' hSw;(try go_simp);try with_reducible rfl));(try simp only [Aa,Act.put]);refine AJ 7 ?_ rfl (by assumption) (Or.inl ⟨by rfl,?_⟩) ?_;rotate_left;(focus (intro W' hSw;(try go_simp);try with_reducible rfl));(try simp only [Aa,Act.put]);refine AJ 8 undef rfl (by assumption) (Or.inr ⟨by rfl,rfl⟩) ?_;(try simp only [Aa,Act.put]);refine AJ 9 undef rfl (by assumption) (Or.inr ⟨by rfl,rfl⟩) ?_;(try simp only [Aa,Act.put]);refine AJ 10 undef rfl (by assumption) (Or.inr ⟨by rfl,rfl⟩) ?_;(try simp only [Aa,Act.put]);refine AJ 11 undef rfl (by assumption) (Or.inr ⟨by rfl,rfl⟩) ?_;(try simp only [Aa,Act.put]);refine AJ 12 undef rfl (by assumption) (Or.inr ⟨by rfl,rfl⟩) ?_;(try simp only [Aa,Act.put]);refine AJ 13 undef rfl (by assumption) (Or.inr ⟨by rfl,rfl⟩) ?_;(try simp only [Aa,Act.put]);refine AJ 14 undef rfl (by assumption) (Or.inr ⟨by rfl,rfl⟩) ?_;(try simp only [Aa,Act.put]);refine AJ 15 undef rfl (by assumption) (Or.inr ⟨by rfl,rfl⟩) ?_;(try simp only [Aa,Act.put]);refine AJ 16 ?_ rfl (by assumption) (Or.inl ⟨by rfl,?_⟩) ?_;rotate_left;(focus (intro W' hSw;(try go_simp);try with_reducible rfl));(try simp only [Aa,Act.put]);refine wpAnyH_done (by kernel_rfl) ?_ _;have HNJ:=Afj (show Dp (scLabels r.st.cs) x.c=false by rw [Jy,HAR.out];simp)
      (try go_wp2_with fail)
      go_roundw
      case rel=>exact ⟨j+1,by omega,by go_num,HBF.out,by rw [HF.out,HD.out,List.find?_cons_of_neg (by rw [HNJ.out];decide)]⟩
      case measure=>simp [intOf];omega
     | cons a l=>
      have hne:=Ad0 a l;rw [←ha] at hne;have HAR:=Afj ha;obtain ⟨T,hT⟩:∃ T,txt x.c.arg=T:=⟨_,rfl⟩;have hlk:=fun W' (h:LabAt W' mp (scLabels r.st.cs))=>Yj h x.c.arg hal
      rw [hT] at hne hlk;have HT:=Afj hT;clear hal ha hT;obtain ⟨cc,hcc⟩:∃ cc:Int,(if x.c.arg∈scLabels r.st.cs then 1 else 0)=cc:=⟨_,rfl⟩;rw [hcc] at hlk;have HCC:=Afj hcc;clear hcc;refine AJ 3 ?_ rfl (by assumption) (Or.inl ⟨by rfl,?_⟩) ?_;rotate_left;(focus (intro W' hSw;(try go_simp);try with_reducible rfl));(try simp only [Aa,Act.put]);refine AJ 4 ?_ rfl (by assumption) (Or.inl ⟨by rfl,?_⟩) ?_;rotate_left;(focus (intro W' hSw;obtain ⟨hq,h7,hl⟩:=hSw;have h11:W'.cell? ⟨g,11,none⟩=some (.string T):=(hq.cell 11).trans (show some (Value.string (txt x.c.arg))=_ by rw [HT.out]);(try go_simp);try with_reducible rfl));(try simp only [Aa,Act.put]);refine AJ 5 (.bool true) rfl (by assumption) (Or.inl ⟨by rfl,fun W' hSw=>by go_simp⟩) ?_
      (try simp only [Aa,Act.put])
      refine AJ 6 ?_ rfl (by assumption) (Or.inl ⟨by rfl,?_⟩) ?_;rotate_left;(focus (intro W' hSw;(try go_simp);try with_reducible rfl));(try simp only [Aa,Act.put]);refine AJ 7 ?_ rfl (by assumption) (Or.inl ⟨by rfl,?_⟩) ?_;rotate_left;(focus (intro W' hSw;(try go_simp);try with_reducible rfl));(try simp only [Aa,Act.put]);refine AJ 8 ?_ rfl (by assumption) (Or.inl ⟨by rfl,?_⟩) ?_;rotate_left;(focus (intro W' hSw;(try go_simp);try with_reducible rfl));(try simp only [Aa,Act.put]);refine AJ 9 ?_ rfl (by assumption) (Or.inl ⟨by rfl,?_⟩) ?_;rotate_left;(focus (intro W' hSw;(try go_simp);try with_reducible rfl));(try simp only [Aa,Act.put]);refine AJ 10 ?_ rfl (by assumption) (Or.inl ⟨by rfl,?_⟩) ?_;rotate_left;(focus (intro W' hSw;(try go_simp);try with_reducible rfl));(try simp only [Aa,Act.put]);refine AJ 11 ?_ rfl (by assumption) (Or.inl ⟨by rfl,?_⟩) ?_;rotate_left;(focus (intro W' hSw;obtain ⟨hq,h7,hl⟩:=hSw;(try go_simp);try with_reducible rfl));(try simp only [Aa,Act.put]);refine AJ 12 ?_ rfl (by assumption) (Or.inl ⟨by rfl,?_⟩) ?_;rotate_left;(focus (intro W' hSw;(try go_simp);try with_reducible rfl));(try simp only [Aa,Act.put]);refine AJ 13 ?_ rfl (by assumption) (Or.inl ⟨by rfl,?_⟩) ?_;rotate_left;(focus (intro W' hSw;obtain ⟨hq,h7,hl⟩:=hSw;have h11:W'.cell? ⟨g,11,none⟩=some (.string T):=(hq.cell 11).trans (show some (Value.string (txt x.c.arg))=_ by rw [HT.out]);(try go_simp);try with_reducible rfl));(try simp only [Aa,Act.put]);refine AJ 14 ?_ rfl (by assumption) (Or.inl ⟨by rfl,?_⟩) ?_;rotate_left;(focus (intro W' hSw;obtain ⟨hq,h7,hl⟩:=hSw;have hrun:=hlk W' hl;(try go_simp);try with_reducible rfl));(try simp only [Aa,Act.put]);by_cases hin:x.c.arg∈scLabels r.st.cs
      ·have ecc:cc=1:=by rw [←HCC.out,if_pos hin]
       subst ecc;refine AJ 15 ?_ rfl (by assumption) (Or.inl ⟨by rfl,?_⟩) ?_;rotate_left;(focus (intro W' hSw;(try go_simp);try with_reducible rfl));(try simp only [Aa,Act.put]);refine AJ 16 ?_ rfl (by assumption) (Or.inl ⟨by rfl,?_⟩) ?_;rotate_left;(focus (intro W' hSw;(try go_simp);try with_reducible rfl));(try simp only [Aa,Act.put]);refine wpAnyH_done (by kernel_rfl) ?_ _;have HNJ:=Afj (show Dp (scLabels r.st.cs) x.c=false by rw [Jy];simp [hin])
       (try go_wp2_with fail)
       go_roundw
       case rel=>exact ⟨j+1,by omega,by go_num,HBF.out,by rw [HF.out,HD.out,List.find?_cons_of_neg (by rw [HNJ.out];decide)]⟩
       case measure=>simp [intOf];omega
      ·have ecc:cc=0:=by rw [←HCC.out,if_neg hin]
       subst ecc;refine AJ 15 ?_ rfl (by assumption) (Or.inl ⟨by rfl,?_⟩) ?_;rotate_left;(focus (intro W' hSw;(try go_simp);try with_reducible rfl));(try simp only [Aa,Act.put]);refine AJ 16 ?_ rfl (by assumption) (Or.inl ⟨by rfl,?_⟩) ?_;rotate_left;(focus (intro W' hSw;(try go_simp);try with_reducible rfl));(try simp only [Aa,Act.put]);refine wpAnyH_done (by kernel_rfl) ?_ _;have HYJ:=Afj (show Dp (scLabels r.st.cs) x.c=true by rw [Jy,HJJ.out,HAR.out];rw [HAR.out] at hin;simp [hin]);have k0:=(hHeld.1.cell 0).trans (show _=some (Value.int .i64 (x.c.pl:Int)) from rfl);have HZ:=Afj (show A=(14,x.c.pl) by rw [←HA.out,HF.out,HD.out,List.find?_cons_of_pos HYJ.out];rfl)
       (try go_wp2_with fail)
       go_ret2
       rw [HZ.out];exact ⟨rfl,HBF.out⟩
   ·obtain rfl:j=n:=by omega
    have HZ:=Afj (show A=(0,0) by
     have h9:=HA.out;rw [HF.out,List.drop_of_length_le (by rw [←HC.out,List.length_map];exact Nat.le_of_eq HN.out)] at h9;exact h9.symm)
    go_wp2_with fail
    go_ret2
    rw [HZ.out];exact ⟨rfl,HB.out⟩
theorem Yk {ext:Bool} {L:List UInt8} {n:Nat} {st:SS} (h:Am L st.k < L.length):BM ext L (n+1) st=(match CX ext L (st.go (Am L st.k)) with | .error q=>.error q | .ok st'=>BM ext L n st'):=by
 rw [BM,if_pos h];cases CX ext L (st.go (Am L st.k)) <;> rfl
theorem Yl {ext:Bool} {L:List UInt8} {n:Nat} {st:SS} (h:¬ Am L st.k < L.length):BM ext L (n+1) st=.ok (st.go (Am L st.k)):=by
 rw [BM,if_neg h]
theorem Aay {ext:Bool} {L:List UInt8} {st st':SS} (h:CX ext L st=.ok st'):st'.cs.length=st.cs.length+1:=by
 unfold CX EA Gy at h
 repeat' split at h
 all_goals first | (injection h with h;subst h;simp;done) | cases h
theorem Pj {ext:Bool} {L:List UInt8} {st:SS} {q:Nat × Nat} (h:CX ext L st=.error q):q.1≠0:=by
 unfold CX at h;split at h
 ·injection h with h;rw [←h];show (3:Nat)≠0;decide
 ·unfold EA at h;split at h
  ·rename_i hc;injection h with h;rw [←h];exact XZ hc
  ·unfold Gy at h;split at h
   ·cases h
   ·rename_i hn;injection h with h;subst h;exact hn
theorem Ym {st:SS} (h:(C5 st).1=0):C5 st=(0,0):=by
 unfold C5 at h ⊢;cases hl:st.op.getLast? with
 | some x=>rw [hl] at h;cases h
 | none=>
  rw [hl] at h;simp only at h ⊢;cases hf:st.cs.find? (Dp (scLabels st.cs)) with
  | some c=>rw [hf] at h;cases h
  | none=>rfl
theorem Yn {L:List UInt8} {k:Nat} (hk:k≤L.length):Am L k≤L.length:=by
 have:∀ n k,k≤L.length→Bw L n k≤L.length:=fun n=>by
  induction n with
  | zero=>exact fun k h=>h
  | succ n ih=>
   intro k h;rw [Ev];split
   ·exact ih _ (Mw (PN h))
   ·exact h
 exact this _ _ (Mw hk)
theorem ScI.go {r:RV} {n k:Nat} (h:ScI r n) (hk:k≤n):ScI (r.go k) n:=⟨h.ls,h.cs,h.ms,h.op,hk,h.fi⟩
theorem ScS.quiet {W w:World} {p mp:Nat} {q:Bool} {s:ByteArray} {ext:Bool} {r:RV} (h:ScS W p mp q s ext r w) (b:Bool):ScS W p mp b s ext r (w.setCell ⟨p,0,none⟩ (.bool b)):=⟨h.h.setp 0 _,h.b.set 0 _⟩
theorem R5 (W:World) (p mp:Nat) (q:Bool) (s:ByteArray) (ext:Bool) (r:RV) (w:World) (h:ScS W p mp q s ext r w) (hs:s.size≤4000) (hr:r.st=⟨0,[],[],[]⟩) (hl:r.ls=[]) (hG:Gl W) (hP:GP W) :
  Calls prog 8 #[.pointer (some ⟨p,0,none⟩)] w (Yg W p mp (Dq s.data.toList) s ext (Ie ext s.data.toList)):=by
 have hI:ScI r s.size:=⟨by rw [hl,hr];rfl,by rw [hr];simp,by rw [hr];simp,by rw [hr];simp,by rw [hr];exact Nat.zero_le _,by rw [hr];simp⟩
 have hE:=fun r' wr (H:ScS W p mp (Dq s.data.toList) s ext r' wr) (I:ScI r' s.size)=>UR W p mp _ s ext r' wr H I
 have hC:=fun r' wr (H:ScS W p mp (Dq s.data.toList) s ext r' wr) (I:ScI r' s.size)=>UQ W p mp _ s ext r' wr H hs I hG hP
 have hK:=fun r' wr (H:ScS W p mp (Dq s.data.toList) s ext r' wr) (I:ScI r' s.size)=>R0 W p mp _ s ext r' wr H hs I.k hG
 have hln:=L3 s 0 p w hs (Nat.zero_le _) (h.gl hG) h.b.lt h.t (by have:=h.k;rw [hr] at this;exact this);have hk0:r.st.k=0:=by rw [hr]
 unfold Ie;obtain ⟨R,hR⟩:∃ R,BM ext s.data.toList 102 ⟨0,[],[],[]⟩=R:=⟨_,rfl⟩;rw [hR];rw [←hr] at hR;obtain ⟨T,hT⟩:∃ T,txt ((s.data.toList.drop 0).take (Do s.data.toList 0))=T:=⟨_,rfl⟩;have hTl:T.toList=s.data.toList.take (Do s.data.toList 0):=by rw [←hT,ByteArray.toList_eq];rfl
 rw [hT] at hln;obtain ⟨q2,hq2⟩:∃ q2,Dq s.data.toList=q2:=⟨_,rfl⟩;rw [hq2] at hE hC hK ⊢;have hqq:((T.toList == [35,110])=true∧q2=true)∨((T.toList == [35,110])=false∧q2=false):=by
  unfold Dq at hq2;rw [←hTl] at hq2;rw [hq2];cases q2
  ·exact .inr ⟨rfl,rfl⟩
  ·exact .inl ⟨rfl,rfl⟩
 have HH:=Afj h;have HI:=Afj hI;have HR:=Afj hR;clear h hI hR hT hTl hq2 hr hl hG hP hk0;go_enter func8,ntmps8;go_upto_region 1 with fail;go_cut [] (fun wx=>ScS W p mp q2 s ext r wx)
 case first=>
  rcases hqq with ⟨hq,rfl⟩ | ⟨hq,rfl⟩
  all_goals
   go_wp2_with (go_at_call 13;refine hln.mono ?_;clear hln;rintro e w1 ⟨rfl,b1⟩;have H1:=Afj (HH.out.step b1);have g0:w1.cell? ⟨p,0,none⟩=some (.bool q):=(H1.out.b.cell 0).trans rfl;have f0:=H1.out.b.frozen 0)
   go_meet;exact H1.out.quiet _
 case rest=>
  have hsk:=hK r wc hcut HI.out;clear hln hqq HH hcut;go_wp2_with (go_at_call 14;refine hsk.mono ?_;clear hsk;rintro e w2 ⟨rfl,h2⟩)
  have H2:=Afj h2;clear h2;go_loopg [] 102 (fun gk wr=>∃ r',ScS W p mp q2 s ext (r'.go (Am s.data.toList r'.st.k)) wr∧ScI r' s.size∧BM ext s.data.toList gk r'.st=R∧102≤gk+r'.st.cs.length)
  case atStart=>exact ⟨r,H2.out,HI.out,HR.out,by omega⟩
  case round=>
   obtain ⟨r',hc,hi,hf,hgk⟩:=hrel;clear H2 HR HI;have hcs:=hi.cs;obtain ⟨m,rfl⟩:∃ m,gk=m+1:=⟨gk - 1,by omega⟩;have hkl:Am s.data.toList r'.st.k≤s.size:=by
    have:=Yn (L:=s.data.toList) (k:=r'.st.k) (by simpa using hi.k);simpa using this
   have hrm:=fun h=>Yk (ext:=ext) (L:=s.data.toList) (n:=m) (st:=r'.st) h
   have hrd:=fun h=>Yl (ext:=ext) (L:=s.data.toList) (n:=m) (st:=r'.st) h
   rw [←Ae] at hrm hrd;have hi2:=hi.go hkl;have hst:(r'.go (Am s.data.toList r'.st.k)).st=r'.st.go (Am s.data.toList r'.st.k):=rfl;generalize Am s.data.toList r'.st.k=K at *;have k2:=hc.t;have k4:wr.cell? ⟨p,4,none⟩=some (.int .i64 (K:Int)):=hc.k;have hC2:=hC _ _ hc.drew hi2;have hE2:=hE _ _ hc.drew hi2;rw [hst] at hC2 hE2;have HC:=Afj hc;have HB:=Afj hc.h.b0;have HI2:=Afj hi2;have HST:=Afj hst;clear hc hi hi2 hst;by_cases hlt:K < s.size
   ·have hli:(K:Int) < (s.size:Int):=by omega
    rw [hrm hlt] at hf;clear hrm hrd hE hE2 hlt hC;obtain ⟨A,hA⟩:∃ A,CX ext s.data.toList (r'.st.go K)=A:=⟨_,rfl⟩;rw [hA] at hC2 hf;cases A with
    | error x=>
     obtain rfl:Except.error x=R:=hf;have ce:((x.1:Int) != 0)=true:=by simpa using Pj hA
     clear hA hK;go_upto_region 3 with fail
     go_region_law (fail)
     all_goals
      go_wp2_with (go_at_call 15;refine hC2.mono ?_;clear hC2;rintro e w3 ⟨b3,rfl⟩)
      go_ret2
      exact ⟨b3,rfl⟩
    | ok st2=>
     replace hf:BM ext s.data.toList m st2=R:=hf;have HF:=Afj hf;have HL:=Afj (Aay hA);clear hA hf;go_upto_region 3 with fail
     go_region_law (fail)
     all_goals
      go_wp2_with (first
       | (go_at_call 15;refine hC2.mono ?_;clear hC2;rintro e w3 ⟨b3,rfl,r2,e2,i2,h2⟩;have H2:=Afj h2;have I2:=Afj i2;have E2:=Afj e2;clear e2 i2 h2)
       | (go_at_call 14;refine (hK r2 _ H2.out I2.out).mono ?_;rintro e w4 ⟨rfl,h4⟩))
      go_roundg m
      case rel=>exact ⟨r2,h4,I2.out,by rw [E2.out];exact HF.out,by rw [E2.out,HL.out];show 102≤m+(r'.st.cs.length+1);omega⟩
      case measure=>omega
   ·have hli:¬ (K:Int) < (s.size:Int):=by omega
    rw [hrd hlt] at hf;clear hrm hrd hC hC2 hlt hE hK;have HF:=Afj hf;clear hf;go_upto_region 3 with fail
    go_region_law (fail)
    all_goals
     go_wp2_with (go_at_call 16;refine hE2.mono ?_;clear hE2;rintro e w3 ⟨rfl,b3⟩)
     go_ret2
     have HB3:=HB.out.drew.trans (b3.mono HB.out.drew.size);rw [←HF.out];by_cases hz:(C5 (r'.st.go K)).1=0
     ·rw [show FN (.ok (r'.st.go K))=.ok (r'.st.go K) by unfold FN;simp only;rw [if_pos hz]];have he:=Ym hz;rw [he];exact ⟨HB3,rfl,_,HST.out,HI2.out,HC.out.drew.step b3⟩
     ·rw [show FN (.ok (r'.st.go K))=.error (C5 (r'.st.go K)) by unfold FN;simp only;rw [if_neg hz]];exact ⟨HB3,rfl⟩
def r0V:RV:=⟨⟨0,[],[],[]⟩,[],[],none,0,none,0,none,0⟩
theorem ScS.init {W w2 w3:World} {z:Array Value} (s:ByteArray) (ext:Bool) (h2:W.alloc (.map #[] 0)=w2) (h3:w2.alloc (.cells z 39)=w3):ScS W w2.heap.size W.heap.size false s ext r0V (w3.setRow w2.heap.size (scC false (.slice none 0 0) s ext 0 (.slice none 0 0) (.slice none 0 0) (.map (some W.heap.size)))):=by
 have b2:=Ad h2;have b3:=Ad h3;have e2:w2.heap.size=W.heap.size+1:=by rw [←h2];exact World.size_alloc _ _
 have e3:w3.heap.size=w2.heap.size+1:=by rw [←h3];exact World.size_alloc _ _
 have q3:=Af h3;refine ⟨⟨below_setRow (b2.trans (b3.mono b2.size)) b2.size _,b2.size,Afq _,by simp;omega,?_,rfl,World.ownsRow_nil _ _ _ _,World.ownsRow_nil _ _ _ _,World.ownsRow_nil _ _ _ _,?_,fun v hv=>by cases hv⟩,setRow_heap w3 _ _ _ _ _ q3⟩
 ·simp [Apart,RV.own,r0V,Value.ownBlock];omega
 ·have h0:LabAt w2 W.heap.size []:=by
   rw [←h2];exact ⟨0,.map [],Afq _,World.ownsMap_made _ _ _ _,fun x=>by simp [DataW.atKey]⟩
  exact h0.same ((setRow_other w3 _ _ _ (by omega)).trans (b3.block _ (by omega)))
theorem Abj {ext:Bool} {L:List UInt8} {q:Nat × Nat} (h:Ie ext L=.error q):q.1≠0:=by
 unfold Ie at h;have hrun:∀ (n:Nat) (st:SS) (q:Nat × Nat),BM ext L n st=.error q→q.1≠0:=fun n=>by
  induction n with
  | zero=>intro st q h;cases h
  | succ n ih=>
   intro st q h;unfold BM at h;split at h
   ·split at h
    ·rename_i hc;injection h with h;rw [←h];exact Pj hc
    ·exact ih _ _ h
   ·cases h
 cases hR:BM ext L 102 ⟨0,[],[],[]⟩ with
 | error x=>rw [hR] at h;injection h with h;rw [←h];exact hrun _ _ _ hR
 | ok st=>
  rw [hR] at h;unfold FN at h;simp only at h;split at h
  ·cases h
  ·rename_i hn;injection h with h;rw [←h];exact hn
theorem KK {tmps:Array Value} {W:World} {r:Nat} {cs:Array Value} {v7 v8 v9:Value} (h6:tmps.getD 4 undef=.pointer (some ⟨r,0,none⟩)) (h7:tmps.getD 5 undef=v7) (h8:tmps.getD 6 undef=v8) (h9:tmps.getD 7 undef=v9) (hl:(loadVar 25 ⟨r,0,none⟩).run prog W=.ok (.agg cs) W) :
  (results Tryz.f5 tmps).run prog W=.ok (.tuple #[.agg cs,v7,v8,v9]) W:=by
 have ha:(asAddr (.pointer (some ⟨r,0,none⟩))).run prog W=.ok ⟨r,0,none⟩ W:=rfl;simp only [Array.getD_eq_getD_getElem?] at h6 h7 h8 h9;unfold results;rw [results5];simp [Sem.run_bind,h6,h7,h8,h9,hl,ha]
def Yo (w:World) (ext:Bool) (L:List UInt8) (e:Ending) (w':World):Prop:=Below w.heap.size w w'∧match Ie ext L with
 | .error x=>e=.returned (.tuple #[.agg #[.bool false,.slice none 0 0],.slice none 0 0,.int .i64 (x.2:Int),.int .i64 (x.1:Int)])
 | .ok st=>∃ vs ca cc ma mc,e=.returned (.tuple #[.agg #[.bool (Dq L),.slice ca vs.length cc],.slice ma st.ms.length mc,.int .i64 0,.int .i64 0])∧vs.map (·.c)=st.cs∧KJ w' ca vs∧(∀ v∈vs,v.ok (fun b=>b < w'.heap.size) w')∧(∀ c∈st.cs,CFine c)∧st.cs.length≤100∧st.ms.length≤90000∧
  w'.ownsRow w.heap.size 33 2 (.slice ma st.ms.length mc) st.ms.length (wmC st.ms)
theorem EF (s:ByteArray) (ext:Bool) (w:World) (hs:s.size≤4000) (hG:Gl w) (hP:GP w) :
  Calls prog 5 #[.string s,.bool ext] w (Yo w ext s.data.toList):=by
 obtain ⟨W,hW⟩:∃ W,w.alloc (.cells #[.bool false,.slice none 0 0] 25)=W:=⟨_,rfl⟩;have HA:=Afj (Ad hW);have HR0:=Afj (Af hW);have HG:=Afj (hG.up HA.out);have HP:=Afj (hP.up HA.out);have hsz:¬ (4000:Int) < (s.size:Int):=by omega
 clear hG hP;go_enter func5,ntmps5;have hmm:=@run_makeMap prog;go_upto_region 3 with fail;refine wp_region_list ?_
 iterate 2 (refine wpList_plain rfl (fun K hK=>?_);go_simp;refine hK _ _ ?_;clear hK K;(try simp only [Aa,Act.put]))
 refine wpList_plain rfl (fun K hK=>?_);go_simp;generalize hM:World.alloc _ _=w2;refine hK _ _ ?_;clear hK K
 (try simp only [Aa,Act.put])
 refine wpList_build rfl 39 _ rfl (by kernel_rfl) ?_;generalize hB:Option.getD _ #[]=B;have hB2:B=scC false (.slice none 0 0) s ext 0 (.slice none 0 0) (.slice none 0 0) (.map (some (World.heap W).size)):=by rw [←hB];kernel_rfl
 subst hB2;clear hB
 (try simp only [Aa,Act.put])
 refine wpList_plain rfl (fun K hK=>?_);go_simp;generalize hA:World.alloc _ _=w3;refine hK _ _ ?_;clear hK K
 (try simp only [Aa,Act.put])
 refine wpList_store_row rfl 39 _ _ rfl (World.heap w2).size (scC false (.slice none 0 0) s ext 0 (.slice none 0 0) (.slice none 0 0) (.map (some (World.heap W).size))) rfl rfl 39 _ (Af hA) (by kernel_rfl) rfl (by kernel_rfl) ?_
 (try simp only [Aa,Act.put])
 refine wpList_nil ?_;have H4:=Afj (ScS.init s ext hM hA);generalize w3.setRow _ _=w4 at H4 ⊢;obtain ⟨p,hp⟩:∃ p,(World.heap w2).size=p:=⟨_,rfl⟩;rw [hp] at H4 ⊢;have hread:=R5 W p (World.heap W).size false s ext r0V w4 H4.out hs rfl rfl HG.out HP.out;obtain ⟨R,hRR⟩:∃ R,Ie ext s.data.toList=R:=⟨_,rfl⟩;obtain ⟨q,hq⟩:∃ q,Dq s.data.toList=q:=⟨_,rfl⟩;rw [hRR,hq] at hread;have HR:=Afj hRR;have HQ:=Afj hq;have HW:=Afj (show w.heap.size < W.heap.size from HR0.out.lt);clear hW hM hA hp hRR hq hmm;obtain ⟨g,hg⟩:∃ g,(World.heap w).size=g:=⟨_,rfl⟩;have HG0:=Afj hg;rw [hg] at HR0 HW ⊢;clear hg;have hx:∀ w5,Below W.heap.size W w5→Blk w5 g #[.bool false,.slice none 0 0] 25:=fun w5 b5=>HR0.out.below b5 HW.out
 cases R with
 | error x=>
  have ce:((x.1:Int) != 0)=true:=by simpa using Abj HR.out
  go_upto_region 6 with (go_at_call 8;refine hread.mono ?_;clear hread;rintro e w5 ⟨b5,rfl⟩)
  have q5:=hx w5 b5;have k0:w5.cell? ⟨g,0,none⟩=some (.bool false):=(q5.cell 0).trans rfl;have k1:w5.cell? ⟨g,1,none⟩=some (.slice none 0 0):=(q5.cell 1).trans rfl;have f0:=q5.frozen 0;have f1:=q5.frozen 1;go_wp2_with fail
  have q6:=(q5.set 0 (.bool false)).set 1 (.slice none 0 0);have hl:=run_loadVar_row (P:=prog) _ g 25 25 #[.bool false,.slice none 0 0] _ _ q6 underlying25 rfl (by kernel_rfl);refine bodyPost_ret (KK rfl rfl rfl rfl hl) rfl ?_;unfold Yo;rw [HR.out];exact ⟨((HA.out.trans (b5.mono HA.out.size)).setCell (p:=⟨g,0,none⟩) (Nat.le_of_eq HG0.out) _).setCell (p:=⟨g,1,none⟩) (Nat.le_of_eq HG0.out) _,rfl⟩
 | ok st=>
  have hmix:Tryz.prog.follows .mixedOrders=true:=by kernel_rfl
  go_upto_region 7 with (go_at_call 8;refine hread.mono ?_;clear hread;rintro e w5 ⟨b5,rfl,r,e5,i5,h5⟩)
  have q5:=hx w5 b5;have hpg:g≠p:=by have:=h5.h.pB;have:=HW.out;omega
  have H5:=Afj h5;have hq5:=h5.b;refine wp_region_held_drew (S:=fun W':World=>Blk W' p (scC q r.cv s ext r.st.k r.mv r.ov (.map (some (World.heap W).size))) 39) hmix h5.b (fun hHeld=>?_);refine AJ 0 ?_ rfl (by assumption) (Or.inl ⟨by rfl,?_⟩) ?_;rotate_left;(focus (intro W' hSw;(try go_simp);try with_reducible rfl));(try simp only [Aa,Act.put]);refine AJ 1 (.agg #[.bool q,r.cv]) rfl hHeld (Or.inl ⟨by rfl,fun W' hSw=>G1 25 _ rfl p 0 2 rfl hSw underlying25 (by kernel_rfl)⟩) ?_
  (try simp only [Aa,Act.put])
  refine AJ 2 ?_ rfl (by assumption) (Or.inl ⟨by rfl,?_⟩) ?_;rotate_left;(focus (intro W' hSw;(try go_simp);try with_reducible rfl));(try simp only [Aa,Act.put]);refine AJ 3 ?_ rfl (by assumption) (Or.inl ⟨by rfl,?_⟩) ?_;rotate_left;(focus (intro W' hSw;(have c5:W'.cell? ⟨p,5,none⟩=some r.mv:=(hSw.cell 5).trans rfl);clear hSw;(try go_simp);try with_reducible rfl));(try simp only [Aa,Act.put]);have q6:Blk w5.drew g #[.bool false,.slice none 0 0] 25:=q5.drew;have b6:Below W.heap.size W w5.drew:=b5.drew;have H6:=Afj (H5.out.drew);generalize w5.drew=v5 at hHeld q6 b6 H6 ⊢;clear hq5 h5 q5 b5;have k0:v5.cell? ⟨g,0,none⟩=some (.bool false):=(q6.cell 0).trans rfl;have k1:v5.cell? ⟨g,1,none⟩=some (.slice none 0 0):=(q6.cell 1).trans rfl;have f0:=q6.frozen 0;have f1:=q6.frozen 1;refine wpAnyH_ready (rs:=[4]) (by decide +kernel) (by simp) (AllReadyH.cons rfl (fun K hK=>?_) AllReadyH.nil);go_simp;refine hK.out _ _ (Blk.set_other (Blk.set_other hHeld ⟨g,0,none⟩ hpg _) ⟨g,1,none⟩ hpg _) (fun hHeld=>?_);clear hK K
  (try simp only [Aa,Act.put])
  refine AJ 5 ?_ rfl (by assumption) (Or.inl ⟨by rfl,?_⟩) ?_;rotate_left;(focus (intro W' hSw;(try go_simp);try with_reducible rfl));(try simp only [Aa,Act.put]);refine AJ 6 ?_ rfl (by assumption) (Or.inl ⟨by rfl,?_⟩) ?_;rotate_left;(focus (intro W' hSw;(try go_simp);try with_reducible rfl));(try simp only [Aa,Act.put]);refine AJ 7 ?_ rfl (by assumption) (Or.inl ⟨by rfl,?_⟩) ?_;rotate_left;(focus (intro W' hSw;(try go_simp);try with_reducible rfl));(try simp only [Aa,Act.put]);refine wpAnyH_done (by kernel_rfl) ?_ _
  (try go_wp2_with fail)
  have q7:=(q6.set 0 (.bool q)).set 1 r.cv;have hl:=run_loadVar_row (P:=prog) _ g 25 25 #[.bool q,r.cv] _ _ q7 underlying25 rfl (by kernel_rfl);refine bodyPost_ret (KK rfl rfl rfl rfl hl) rfl ?_;unfold Yo;rw [HR.out,HQ.out];have hgw:=HW.out;have oo:∀ b,W.heap.size≤b→((v5.setCell ⟨g,0,none⟩ (.bool q)).setCell ⟨g,1,none⟩ r.cv).heap[b]?=v5.heap[b]?:=fun b hb=>by
   rw [Afw _ _ _ _ (show b≠g by omega),Afw _ _ _ _ (show b≠g by omega)]
  have hwW:=HA.out.size;refine ⟨((HA.out.trans (b6.mono HA.out.size)).setCell (p:=⟨g,0,none⟩) (Nat.le_of_eq HG0.out) _).setCell (p:=⟨g,1,none⟩) (Nat.le_of_eq HG0.out) _,r.vs,r.ca,r.cc,r.ma,r.mc,by rw [←e5];rfl,by rw [H6.out.h.cs,e5],Pf (Ab H6.out.h.cr fun b hb=>oo b (AS H6.out.h.cr b hb)),fun v hv=>(H6.out.h.ok v hv).keep (by simp [World.setCell]) (fun b hb hl=>⟨by simpa [World.setCell] using hl,oo b hb.1⟩),?_,?_,?_,?_⟩
  ·rw [←e5];exact i5.fi
  ·rw [←e5];exact i5.cs
  ·rw [←e5];have:=i5.ms;have:=i5.cs;omega
  ·rw [←e5];exact BW hwW (Ab H6.out.h.mr fun b hb=>oo b (AS H6.out.h.mr b hb))
theorem R6 (q:Bool) (va vb:List CV) (ca cb:Option Addr) (oa ob:Nat) (w:World) (hlen:va.length=vb.length) (hn:va.length≤1000) (hc:∀ i (h:i < va.length) (h2:i < vb.length),Yc va[i].c vb[i].c) (hf:∀ v∈va,CFine v.c) (ka:∀ v∈va,v.ok (fun b=>b < w.heap.size) w) (kb:∀ v∈vb,v.ok (fun b=>b < w.heap.size) w) (ra:KJ w ca va) (rb:KJ w cb vb) :
  Calls prog 6 #[.agg #[.bool q,.slice ca va.length oa],.agg #[.bool q,.slice cb vb.length ob]] w fun e w'=>e=.returned (.bool true)∧Below w.heap.size w w':=by
 have hE:=fun w1 (b1:Below w.heap.size w w1)=>Yd va vb ca cb oa ob w1 hlen hn hc hf (fun v hv=>SJ b1 (ka v hv)) (fun v hv=>SJ b1 (kb v hv)) (ra.below b1) (rb.below b1)
 clear hlen hn hc hf ka kb ra rb;go_enter func6,ntmps6;go_upto_region 1 with fail;generalize hW1:w.alloc _=W1;generalize hW2:W1.alloc _=W2;have hX:=(Af hW1).below (Ad hW2) (Af hW1).lt;have hY:=Af hW2;have B2:=Afj ((Ad hW1).trans ((Ad hW2).mono (Ad hW1).size));have hp:W1.heap.size=w.heap.size+1:=by rw [←hW1];exact World.size_alloc _ _
 rw [hp] at hY;clear hp;generalize w.heap.size+1=p at hY ⊢;obtain ⟨g,hg⟩:∃ g,w.heap.size=g:=⟨_,rfl⟩;have HG:=Afj hg;rw [hg] at hX ⊢;have x0:W2.cell? ⟨g,0,none⟩=some (.bool q):=(hX.cell 0).trans rfl;have x1:W2.cell? ⟨g,1,none⟩=some (.slice ca va.length oa):=(hX.cell 1).trans rfl;have y0:W2.cell? ⟨p,0,none⟩=some (.bool q):=(hY.cell 0).trans rfl;have y1:W2.cell? ⟨p,1,none⟩=some (.slice cb vb.length ob):=(hY.cell 1).trans rfl;have qq:(q == q)=true:=by simp
 clear hW1 hW2 hX hY hg;go_wp2_with (go_at_call 9;refine (hE _ B2.out).mono ?_;clear hE;rintro e w3 ⟨rfl,b3⟩)
 go_ret;rw [←HG.out];exact ⟨rfl,B2.out.trans (b3.mono B2.out.size)⟩
def G2 (x:List UInt8) (c:Cmd):Bool:=c.name == 58 && c.arg == x
def R7 (cs:List Cmd) (x:List UInt8):Int:=match cs.findIdx? (G2 x) with
 | some i=>(i:Int)
 | none=>-1
theorem Aaz (a b:List UInt8):((txt a).toList == (txt b).toList)=(a == b):=by
 rw [ByteArray.toList_eq,ByteArray.toList_eq];rfl
theorem R8 (c:Cmd) (ta tb ts pv:Value) (x:List UInt8) (g:Nat) (w:World) (hg:w.cell? ⟨g,0,none⟩=some (.string (txt x))):Calls prog 12 #[.agg (EL c ta tb ts pv),.pointer (some ⟨g,0,none⟩)] w fun e w'=>e=.returned (.bool (G2 x c))∧Below w.heap.size w w':=by
 unfold EL;have hgl:=World.block_lt_of_cell? w ⟨g,0,none⟩ hg;by_cases h1:c.name=58
 ·have q1:((c.name.toNat:Int) == 58)=true:=by rw [h1];rfl
  have he:=Aaz c.arg x;rw [show G2 x c=(c.arg == x) by unfold G2;rw [h1];rfl];generalize (c.arg == x)=B at he ⊢;clear h1;go_enter func12,ntmps12;go_upto_region 1 with fail;generalize hW1:w.alloc _=W1;have hb:=Ad hW1;have g1:W1.cell? ⟨g,0,none⟩=some (.string (txt x)):=(hb.cell (p:=⟨g,0,none⟩) hgl).trans hg;have B1:=Afj hb;obtain ⟨x0,x10,x11⟩:=GO (c:=c) (ta:=ta) (tb:=tb) (ts:=ts) (pv:=pv) (Af hW1);clear hW1 hb;go_wp2_with fail
  go_ret;exact ⟨rfl,B1.out⟩
 ·have q1:((c.name.toNat:Int) == 58)=false:=GN (b:=58) h1;rw [show G2 x c=false by unfold G2;simp [h1]];clear h1;go_enter func12,ntmps12;go_upto_region 1 with fail;generalize hW1:w.alloc _=W1;have B1:=Afj (Ad hW1);obtain ⟨x0,x10,x11⟩:=GO (c:=c) (ta:=ta) (tb:=tb) (ts:=ts) (pv:=pv) (Af hW1);clear hW1;go_wp2_with fail
  go_ret;exact ⟨rfl,B1.out⟩
theorem US (vs:List CV) (ca:Option Addr) (oa:Nat) (x:List UInt8) (g:Nat) (w:World) (hn:vs.length≤1000) (hg:w.cell? ⟨g,0,none⟩=some (.string (txt x))) (ra:KJ w ca vs) :
  Calls prog 11 #[.slice ca vs.length oa,.func (.func 12) #[] #[.pointer (some ⟨g,0,none⟩)]] w fun e w'=>e=.returned (.int .i64 (R7 (vs.map (·.c)) x))∧Below w.heap.size w w':=by
 obtain ⟨n,hv⟩:∃ n,vs.length=n:=⟨_,rfl⟩;have hgl:=World.block_lt_of_cell? w ⟨g,0,none⟩ hg;have hS:=fun (i:Nat) (h:i < vs.length) W (hB:Below w.heap.size w W)=>R8 vs[i].c vs[i].ta vs[i].tb vs[i].ts (.slice vs[i].pa vs[i].c.sub.parts.length vs[i].pc) x g W ((hB.cell (p:=⟨g,0,none⟩) hgl).trans hg)
 obtain ⟨A,hA⟩:∃ A,R7 (vs.map (·.c)) x=A:=⟨_,rfl⟩;rw [hA];have HS:=Afj hS;have RA:=Afj ra;have HV:=Afj hv;have HA:=Afj hA;rw [hv] at hn ⊢;clear hS ra hv hA hg hgl;go_enter func11,ntmps11;go_upto_region 2 with fail;go_loopw [8] (fun i wr=>∃ j:Nat,j≤n∧i=.int .i64 j∧Below w.heap.size w wr∧(vs.map (·.c)).findIdx? (G2 x)=(((vs.map (·.c)).drop j).findIdx? (G2 x)).map (·+j)) (fun i _=>n - (intOf i).toNat)
 case atStart=>exact ⟨0,by omega,rfl,Afv _ _,by simp⟩
 case round=>
  obtain ⟨j,hj,rfl,hb,hfind⟩:=hrel;have HB:=Afj hb;have HF:=Afj hfind;clear hb hfind;by_cases hlt:j < n
  ·have hji:(j:Int) < (n:Int):=by omega
   have hy0:(0:Int)≤(j:Int):=by omega
   have Wj:IntKind.i64.wrap ((j:Int)+1)=(j:Int)+1:=Afx _ (by omega);have j1:j < vs.length:=by rw [HV.out];exact hlt
   obtain ⟨g1,rfl,_,hc1⟩:=(RA.out.below HB.out) (by omega);have r1:=hc1 j j1;have hS:=HS.out j j1 wr HB.out;have HD:=Afj (show (vs.map (·.c)).drop j=vs[j].c :: (vs.map (·.c)).drop (j+1) by rw [List.drop_eq_getElem_cons (show j < (vs.map (·.c)).length by rw [List.length_map];exact j1),List.getElem_map]);clear hc1;generalize vs[j]=y at r1 hS HD;obtain ⟨L,hL⟩:∃ L,G2 x y.c=L:=⟨_,rfl⟩;rw [hL] at hS;have HLL:=Afj hL;clear hL;go_upto_region 4 with fail;refine wp_region_list ?_
   iterate 4 (refine wpList_plain rfl (fun K hK=>?_);go_simp;refine hK _ _ ?_;clear hK K;(try simp only [Aa,Act.put]))
   refine wpList_load_mid rfl 54 _ rfl g1 (j * 20) (by simp [Act.eval]) y.cells.toList _ r1 underlying54 rfl (by kernel_rfl) ?_;rw [Array.toArray_toList]
   (try simp only [Aa,Act.put])
   refine wpList_plain rfl (fun K hK=>?_);go_simp
   go_at_call 12
   refine hS.mono ?_;clear hS;rintro e w3 ⟨rfl,b3⟩;refine hK _ _ ?_;clear hK K
   (try simp only [Aa,Act.put])
   refine wpList_nil ?_;have B3:=Afj (HB.out.trans (b3.mono HB.out.size));clear b3;cases L with
   | true=>
    have HZ:=Afj (show A=(j:Int) by rw [←HA.out];unfold R7;rw [HF.out,HD.out,List.findIdx?_cons,if_pos HLL.out];simp);go_wp2_with fail
    go_ret;rw [HZ.out];exact ⟨rfl,B3.out⟩
   | false=>
    go_wp2_with fail
    go_roundw
    case rel=>exact ⟨j+1,by omega,by go_num,B3.out,by
     rw [HF.out,HD.out,List.findIdx?_cons,if_neg (by rw [HLL.out];decide),Option.map_map]
     congr 1
     funext i
     show i+1+j=i+(j+1);omega⟩
    case measure=>simp [intOf];omega
  ·obtain rfl:j=n:=by omega
   have HZ:=Afj (show A=-1 by
    rw [←HA.out];unfold R7;rw [HF.out,List.drop_of_length_le (by rw [List.length_map];exact Nat.le_of_eq HV.out)];rfl)
   go_wp2_with fail
   go_ret;rw [HZ.out];exact ⟨rfl,HB.out⟩
theorem Pk (q:Bool) (vs:List CV) (ca:Option Addr) (oa:Nat) (x:List UInt8) (w:World) (hn:vs.length≤1000) (ra:KJ w ca vs) :
  Calls prog 7 #[.agg #[.bool q,.slice ca vs.length oa],.string (txt x)] w fun e w'=>e=.returned (.int .i64 (R7 (vs.map (·.c)) x))∧Below w.heap.size w w':=by
 have hI:=fun w1 g (b1:Below w.heap.size w w1) (hg:w1.cell? ⟨g,0,none⟩=some (.string (txt x)))=>US vs ca oa x g w1 hn hg (ra.below b1)
 clear hn ra;go_enter func7,ntmps7;go_upto_region 1 with fail;generalize hW1:w.alloc _=W1;generalize hW2:W1.alloc _=W2;have hX:=(Af hW1).below (Ad hW2) (Af hW1).lt;have hY:=Af hW2;have B2:=Afj ((Ad hW1).trans ((Ad hW2).mono (Ad hW1).size));have hp:W1.heap.size=w.heap.size+1:=by rw [←hW1];exact World.size_alloc _ _
 rw [hp] at hY;clear hp;generalize w.heap.size+1=p at hY ⊢;obtain ⟨g,hg⟩:∃ g,w.heap.size=g:=⟨_,rfl⟩;have HG:=Afj hg;rw [hg] at hX ⊢;have x1:W2.cell? ⟨g,1,none⟩=some (.slice ca vs.length oa):=(hX.cell 1).trans rfl;have y0:W2.cell? ⟨p,0,none⟩=some (.string (txt x)):=(hY.cell 0).trans rfl;have hI2:=hI W2 p B2.out y0;clear hW1 hW2 hX hY hg hI;go_wp2_with (go_at_call 11;refine hI2.mono ?_;clear hI2;rintro e w3 ⟨rfl,b3⟩)
 go_ret;rw [←HG.out];exact ⟨rfl,B2.out.trans (b3.mono B2.out.size)⟩
theorem KM {w1 wy:World} {cs:Array Value} (hA:w1.alloc (.cells #[.bool false,.slice none 0 0] 25)=wy):Below w1.heap.size w1 (wy.setRow w1.heap.size cs)∧Blk (wy.setRow w1.heap.size cs) w1.heap.size cs 25:=
 ⟨below_setRow (Ad hA) (Afq _) _,setRow_heap wy _ _ _ _ _ (Af hA)⟩
theorem Aa0:Ie false Su=.error (16,6):=by
 have h:=Acr;cases hR:Ie false Su with
 | error q=>rw [hR] at h;rw [show q=(16,6) from h]
 | ok st=>rw [hR] at h;cases h
theorem Aa1:∃ st,Ie false L2=.ok st∧st.cs.length=5∧R7 st.cs [120]=4:=by
 have h:=Acs;have h2:=Acu;cases hR:Ie false L2 with
 | error q=>rw [hR] at h;cases h
 | ok st=>
  rw [hR] at h h2;simp only [Sv,VY] at h h2;refine ⟨st,rfl,by have:=congrArg List.length h;simpa using this,?_⟩;generalize st.cs=cs at h h2 ⊢;rcases cs with _ | ⟨c0,_ | ⟨c1,_ | ⟨c2,_ | ⟨c3,_ | ⟨c4,_ | ⟨c5,l⟩⟩⟩⟩⟩⟩
  all_goals simp only [List.map_cons,List.map_nil,List.cons.injEq,and_true,reduceCtorEq,and_false] at h h2
  obtain ⟨n0,n1,n2,n3,n4⟩:=h;obtain ⟨a0,a1,a2,a3,a4⟩:=h2;unfold R7 G2;simp [List.findIdx?_cons,n0,n1,n2,n3,n4,a4]
theorem Ja (w:World) (hG:Gl w) (hP:GP w):Calls prog 4 #[] w fun e w'=>e=.returned (.bool true)∧Below w.heap.size w w':=by
 have hA:=EF ⟨#[35,110,10,47,97,47,123,112,59,98,32,120,125]⟩ false w (by decide) hG hP;have hB:=fun w1 (b1:Below w.heap.size w w1)=>EF ⟨#[35,110,10,47,97,47,123,112,59,98,32,120,10,125,10,58,120]⟩ false w1 (by decide) (hG.up b1) (hP.up b1)
 rw [show (⟨#[35,110,10,47,97,47,123,112,59,98,32,120,125]⟩:ByteArray).data.toList=Su from rfl] at hA;rw [show (⟨#[35,110,10,47,97,47,123,112,59,98,32,120,10,125,10,58,120]⟩:ByteArray).data.toList=L2 from rfl] at hB;obtain ⟨st,he,h5,hL⟩:=Aa1;unfold Yo at hA hB;rw [Aa0] at hA;rw [he,Acv] at hB;simp only at hA hB;have H5:=Afj h5;have HL:=Afj hL;clear he h5 hL hG hP;go_enter func4,ntmps4;go_upto_region 1 with fail;refine wp_region_list ?_;refine wpList_plain rfl (fun K hK=>?_);go_simp;go_at_call 5;refine hA.mono ?_;clear hA;rintro e w1 ⟨b1,rfl⟩;refine hK _ _ ?_;clear hK K;(try simp only [Aa,Act.put])
 iterate 5 (refine wpList_plain rfl (fun K hK=>?_);go_simp;refine hK _ _ ?_;clear hK K;(try simp only [Aa,Act.put]))
 refine wpList_plain rfl (fun K hK=>?_);go_simp;generalize hA:(w1).alloc _=wy;refine hK _ _ ?_;clear hK K;(try simp only [Aa,Act.put]);refine wpList_store_row rfl 25 _ _ rfl (World.heap w1).size (#[.bool false,.slice none 0 0]) rfl rfl 25 #[.bool false,.slice none 0 0] (Af hA) (by kernel_rfl) rfl ((by kernel_rfl)) ?_;(try simp only [Aa,Act.put]);have hbx:=KM (cs:=#[.bool false,.slice none 0 0]) hA;generalize wy.setRow (World.heap w1).size _=w2 at hbx ⊢;clear hA
 iterate 3 (refine wpList_plain rfl (fun K hK=>?_);go_simp;refine hK _ _ ?_;clear hK K;(try simp only [Aa,Act.put]))
 refine wpList_nil ?_;obtain ⟨b2,_⟩:=hbx;have B2:=Afj (b1.trans (b2.mono b1.size));have hB2:=hB w2 B2.out;clear b1 b2 hB;go_upto_region 2 with fail;refine wp_region_list ?_;refine wpList_plain rfl (fun K hK=>?_);go_simp;go_at_call 5;refine hB2.mono ?_;clear hB2;rintro e w3 ⟨b3,vs,ca,cc,ma,mc,rfl,hcs,hra,hok,_⟩;refine hK _ _ ?_;clear hK K;(try simp only [Aa,Act.put])
 iterate 5 (refine wpList_plain rfl (fun K hK=>?_);go_simp;refine hK _ _ ?_;clear hK K;(try simp only [Aa,Act.put]))
 refine wpList_plain rfl (fun K hK=>?_);go_simp;generalize hA:(w3).alloc _=wy;refine hK _ _ ?_;clear hK K;(try simp only [Aa,Act.put]);refine wpList_store_row rfl 25 _ _ rfl (World.heap w3).size (#[.bool true,.slice ca vs.length cc]) rfl rfl 25 #[.bool false,.slice none 0 0] (Af hA) (by kernel_rfl) rfl ((by kernel_rfl)) ?_;(try simp only [Aa,Act.put]);have hbx:=KM (cs:=#[.bool true,.slice ca vs.length cc]) hA;generalize wy.setRow (World.heap w3).size _=w4 at hbx ⊢;clear hA
 iterate 3 (refine wpList_plain rfl (fun K hK=>?_);go_simp;refine hK _ _ ?_;clear hK K;(try simp only [Aa,Act.put]))
 refine wpList_nil ?_;obtain ⟨b4,q4⟩:=hbx;have hv5:vs.length=5:=by have:=H5.out;rw [←hcs,List.length_map] at this;exact this
 have B4:=Afj ((B2.out.trans (b3.mono B2.out.size)).trans (b4.mono (B2.out.trans (b3.mono B2.out.size)).size));have hlab:=Pk true vs ca cc [120] w4 (by omega) (hra.below b4);rw [hcs,HL.out,show txt [120]=⟨#[120]⟩ from rfl] at hlab;obtain ⟨g,hg⟩:∃ g,w3.heap.size=g:=⟨_,rfl⟩;rw [hg] at q4 ⊢;rw [hv5] at q4 hlab ⊢;have k0:w4.cell? ⟨g,0,none⟩=some (.bool true):=(q4.cell 0).trans rfl;have k1:w4.cell? ⟨g,1,none⟩=some (.slice ca 5 cc):=(q4.cell 1).trans rfl;clear hra hok hcs hv5 q4 hg b3 b4;go_wp2_with (go_at_call 7;refine hlab.mono ?_;clear hlab;rintro e w5 ⟨rfl,b5⟩)
 go_ret;exact ⟨rfl,B4.out.trans (b5.mono B4.out.size)⟩
end
section
open Go
set_option linter.unusedVariables false
def Wb (ms:List Wm):Prop:=∀ m∈ms,Go.IntKind.i64.wrap m.1=m.1
theorem Wb.nil:Wb []:=fun _ h=>by cases h
theorem Wb.app {a b:List Wm} (ha:Wb a) (hb:Wb b):Wb (a++b):=fun m h=>(Af1.1 h).elim (ha m) (hb m)
theorem Wb.one {k:Nat} {t:ByteArray} (h:k≤5000):Wb [((k:Int),t)]:=fun m hm=>by
 rw [List.mem_singleton] at hm;subst hm;exact Go.IntWalk.i64_in _ (by simp only;omega)
theorem Aex (x:Int):Go.IntKind.i64.wrap (Go.IntKind.i64.wrap x)=Go.IntKind.i64.wrap x:=by
 refine Go.IntWalk.i64_in _ ?_;rw [Go.IntKind.wrap_i64];omega
theorem Wb.move (b:Int) (l:List Wm):Wb (BH b l):=fun m h=>by
 unfold BH at h;obtain ⟨x,_,rfl⟩:=List.mem_map.1 h;exact Aex _
theorem Pl {ext:Bool} {L:List UInt8} {k:Nat} {d:UInt8} {q:(List UInt8 × Nd) × List Wm × Nat} (h:An ext L k d=.ok q):Wb q.2.1:=by
 unfold An at h;simp only at h
 repeat' split at h
 all_goals first | (injection h with h;subst h;exact Wb.move _ _) | cases h
theorem Abk {ext:Bool} {L:List UInt8} {k:Nat} {d:UInt8} {q:Adr × List Wm × Nat} (h:Du ext L k d=.ok q):Wb q.2.1:=by
 unfold Du at h;split at h
 ·cases h
 ·rename_i r hr;injection h with h;subst h;exact Pl hr
theorem Yp {ext second:Bool} {L:List UInt8} (hz:L.length≤4000) {k:Nat} {q:Adr × List Wm × Nat} (h:DQ ext second L k=.ok q):Wb q.2.1:=by
 unfold DQ at h;split at h
 ·injection h with h;subst h;exact Wb.nil
 ·rename_i c t hd;have hk:=AD hd;split at h
  ·unfold CK at h;simp only at h
   repeat' split at h
   all_goals first | (injection h with h;subst h;exact Wb.nil) | cases h
  split at h
  ·injection h with h;subst h;exact Wb.nil
  split at h
  ·exact Abk h
  split at h
  ·unfold Es at h;split at h
   ·cases h
   ·split at h
    ·cases h
    ·exact Abk h
  split at h
  ·unfold CL at h;simp only at h;split at h
   ·injection h with h;subst h;exact Wb.one (by omega)
   ·cases h
  ·injection h with h;subst h;exact Wb.nil
theorem Ad1 {ext:Bool} {L:List UInt8} (hz:L.length≤4000) {k:Nat} {q:Adr × List Wm × Nat} (h:BC ext L k=.ok q):Wb q.2.1:=by
 unfold BC at h;split at h
 ·unfold DB at h;split at h
  ·cases h
  ·rename_i r hr;split at h
   ·cases h
   ·injection h with h;subst h;exact Yp hz hr
 ·injection h with h;subst h;exact Wb.nil
theorem Aey {ext:Bool} {L:List UInt8} (hz:L.length≤4000) {k:Nat} {q:Grd × List Wm × Nat} (h:GS ext L k=.ok q):Wb q.2.1:=by
 unfold GS FK at h;split at h
 ·cases h
 ·rename_i r hr;unfold EX at h;split at h
  ·cases h
  ·injection h with h;subst h;show Wb r.2.1;unfold CT at hr;split at hr
   ·cases hr
   ·rename_i a ha;split at hr
    ·injection hr with hr;subst hr;exact Yp hz ha
    ·unfold EG at hr;split at hr
     ·cases hr
     ·rename_i b hb;injection hr with hr;subst hr;exact (Yp hz ha).app (Ad1 hz hb)
def Pw (st:CS):Prop:=Wb st.ms∧st.c.pl≤5000
theorem Pw.mark {st:CS} (h:Pw st) {p:Nat} {t:List UInt8} (hp:p≤5000):Pw (st.mark p t):=⟨h.1.app (Wb.one hp),h.2⟩
theorem Pw.then {r:CO} {f:CS→CO} (h:Pw r.2) (k:Pw r.2→Pw (f r.2).2):Pw (r.then f).2:=by
 unfold CO.then
 split
 ·exact k h
 ·exact h
theorem R9 {L:List UInt8} (hz:L.length≤4000) {st:CS} (h:Pw st):Pw (BG L st).2:=by
 unfold BG;split
 ·exact h
 ·rename_i b t hd;have hk:=AD hd
  repeat' split
  ·exact h
  ·exact Pw.mark (st:=st.go _) h (by omega)
  ·exact h
theorem Pm {L:List UInt8} (hz:L.length≤4000):∀ (n:Nat) {st:CS},Pw st→Pw (A2 L n st).2
 | 0,_,h=>h
 | n+1,st,h=>by
  unfold A2;split
  ·exact h
  ·rename_i b t hd;split
   ·rename_i r hf;have e:Pw r.2:=by
     unfold AH CU CW CB Cr at hf
     repeat' split at hf
     all_goals first | (injection hf with hf;subst hf;exact h) | cases hf
    split
    ·exact Pm hz n e
    ·exact e
   ·split
    ·unfold Bi;split <;> exact h
    ·exact R9 hz h
theorem Yq {L:List UInt8} {st:CS} (h:Pw st):Pw (Au L st).2.2:=by
 unfold Au
 repeat' split
 all_goals exact h
theorem Ad2 {ext:Bool} {L:List UInt8} (hz:L.length≤4000) {st:CS} (h:Pw st):Pw (BU ext L st).2:=by
 unfold BU;refine Pw.then (Yq h) fun h1=>Pw.then ?_ fun h2=>Pw.then ?_ fun h3=>Pm hz _ h3
 ·unfold Dm JK;split
  ·exact ⟨h1.1.app Wb.nil,h1.2⟩
  ·rename_i q hq;exact ⟨h1.1.app (Pl hq),h1.2⟩
 ·unfold CA DC
  repeat' split
  all_goals exact h2
theorem Ad3 {L:List UInt8} (hz:L.length≤4000) {st:CS} (h:Pw st):Pw (BL L st).2:=by
 unfold BL;refine Pw.then (Yq h) fun h1=>?_
 unfold EI EH
 repeat' split
 all_goals first | exact h1 | exact R9 hz h1
theorem Yr {ext:Bool} {L:List UInt8} (hz:L.length≤4000) {st:CS} (h:Pw st):Pw (AP ext L st).2:=by
 unfold AP;simp only;split
 ·exact h
 split
 ·exact h
 split
 ·unfold C9;split <;> exact h
 split
 ·unfold BT
  repeat' split
  all_goals first | exact h | exact Pw.mark (st:=st.go _) h h.2
 split
 ·unfold Bn;split <;> exact h
 split
 ·exact Ad2 hz h
 split
 ·exact Ad3 hz h
 ·exact R9 hz h
theorem Aa2 {L:List UInt8} (hz:L.length≤4000) {st:CS} (h:Pw st):Pw (AW L st).2:=by
 unfold AW;split
 ·exact h
 ·rename_i b t hd;have hk:=AD hd;unfold Bt;split
  ·exact h
  ·split
   ·exact h
   ·show Pw (CS.name (if _ then _ else _) _);split
    ·exact Pw.mark h (by omega)
    ·exact h
theorem Aez {ext:Bool} (s:ByteArray) (hz:s.size≤4000) {k:Nat} {q:Cmd × List Wm × Nat} (hk:k≤s.size) (h:Ji ext s.data.toList k=.ok q):Wb q.2.1:=by
 have hz':s.data.toList.length≤4000:=by rw [←Ae];exact hz
 unfold Ji PD at h;split at h
 ·cases h
 ·rename_i g hg;have g1:=(Rx s hk hg).1;have P0:Pw (AA g.1 g.2.1 g.2.2):=⟨Aey hz' hg,by show g.2.2≤5000;omega⟩
  unfold EZ at h;split at h
  ·injection h with h;subst h;exact (Pw.then (f:=AP ext s.data.toList) (Aa2 hz' P0) fun h1=>Yr hz' h1).1
  ·cases h
theorem Ys {ext:Bool} (s:ByteArray) (hz:s.size≤4000):∀ (n:Nat) {st st':SS},st.k≤s.size→Wb st.ms→BM ext s.data.toList n st=.ok st'→Wb st'.ms
 | 0,st,st',_,hw,h=>by
  unfold BM at h;injection h with h;subst h;exact hw
 | n+1,st,st',hk,hw,h=>by
  unfold BM at h;split at h
  ·rename_i hlt;split at h
   ·cases h
   ·rename_i s2 h2;have hk2:Am s.data.toList st.k≤s.size:=by rw [Ae];exact Afu hlt
    unfold CX at h2;split at h2
    ·cases h2
    ·unfold EA at h2;split at h2
     ·cases h2
     ·rename_i c hc;unfold Gy at h2;split at h2
      ·injection h2 with h2;subst h2;exact Ys s hz n (Abi s hk2 hc).1.1 (hw.app (Aez s hz hk2 hc)) h
      ·cases h2
  ·injection h with h;subst h;exact hw
theorem Ae0 {ext:Bool} (s:ByteArray) (hz:s.size≤4000) {st:SS} (h:Ie ext s.data.toList=.ok st):Wb st.ms:=by
 unfold Ie FN at h;split at h
 ·cases h
 ·rename_i r hr;split at h
  ·injection h with h;subst h;exact Ys s hz 102 (st:=⟨0,[],[],[]⟩) (Nat.zero_le _) Wb.nil hr
  ·cases h
end
section
open Go Go.RowKit
def mkC (m:Wm):List Value:=[.int .i64 m.1,.string m.2]
def Aa3 (w:World) (a:Option Addr) (ms:List Wm):Prop:=0 < ms.length→∃ g,a=some ⟨g,0,none⟩∧g < w.heap.size∧∀ i (h:i < ms.length) q v,(mkC ms[i])[q]?=some v→w.cell? ⟨g,i * 2+q,none⟩=some v
theorem Aa3.below {w w':World} {a:Option Addr} {ms:List Wm} (h:Aa3 w a ms) (hb:Below w.heap.size w w'):Aa3 w' a ms:=fun h0=>by
 obtain ⟨g,ha,hl,hc⟩:=h h0;exact ⟨g,ha,Aft hl hb.size,fun i hi q v hv=>(hb.cell (p:=⟨g,i * 2+q,none⟩) hl).trans (hc i hi q v hv)⟩
theorem Pn {w:World} {B:Nat} {T:TypeId} {a:Option Addr} {c:Nat} {ms:List Wm} (h:w.ownsRow B T 2 (.slice a ms.length c) ms.length (wmC ms)):Aa3 w a ms:=fun h0=>by
 rcases h.2 with ⟨_,h2⟩ | ⟨g,cap,cur,h1,_,hg,_,_,_,ht⟩
 ·omega
 ·injection h1 with h1 _ _;have hc:∀ j v,(wmC ms)[j]?=some v→w.cell? ⟨g,j,none⟩=some v:=fun j v h9=>by
   rw [←ht,List.getElem?_take] at h9;split at h9
   ·simp only [World.cell?,hg];rw [Array.getElem?_toList] at h9;simpa using h9
   ·cases h9
  refine ⟨g,h1,(Af6.1 hg).1,fun i hi q v hv=>hc _ _ ?_⟩
  match q,hv with
  | 0,hv=>cases hv;exact (MT ms i hi).1
  | 1,hv=>cases hv;exact (MT ms i hi).2
  | q+2,hv=>simp [mkC] at hv
theorem Ad4 {w1 wy:World} {cs:Array Value} (hA:w1.alloc (.cells #[.int .i64 0,.string ⟨#[]⟩] 33)=wy):Below w1.heap.size w1 (wy.setRow w1.heap.size cs)∧Blk (wy.setRow w1.heap.size cs) w1.heap.size cs 33:=
 ⟨below_setRow (Ad hA) (Afq _) _,setRow_heap wy _ _ _ _ _ (Af hA)⟩
theorem Yt (j:Nat) {L B:List UInt8} (h:L.take 2≠[35,110]):(Bo j++(L++10 :: B)).take 2≠[35,110]:=by
 match j with
 | 0=>simp [Bo]
 | 1=>simp [Bo]
 | 2=>simp [Bo]
 | n+3=>
  show (L++10 :: B).take 2≠_
  match L,h with
  | [],_=>simp
  | [x],_=>simp
  | x :: y :: l,h=>simpa using h
theorem si0 (w:World):(Instr.index 30 (.agg #[.string ⟨#[32,59,32]⟩,.string ⟨#[35,32,120,10]⟩,.string ⟨#[10,9]⟩,.string ⟨#[]⟩]) (.int .u8 0)).run prog w=.ok (.string (txt (Bo 0))) w:=by kernel_rfl
theorem si1 (w:World):(Instr.index 30 (.agg #[.string ⟨#[32,59,32]⟩,.string ⟨#[35,32,120,10]⟩,.string ⟨#[10,9]⟩,.string ⟨#[]⟩]) (.int .u8 1)).run prog w=.ok (.string (txt (Bo 1))) w:=by kernel_rfl
theorem si2 (w:World):(Instr.index 30 (.agg #[.string ⟨#[32,59,32]⟩,.string ⟨#[35,32,120,10]⟩,.string ⟨#[10,9]⟩,.string ⟨#[]⟩]) (.int .u8 2)).run prog w=.ok (.string (txt (Bo 2))) w:=by kernel_rfl
theorem si3 (w:World):(Instr.index 30 (.agg #[.string ⟨#[32,59,32]⟩,.string ⟨#[35,32,120,10]⟩,.string ⟨#[10,9]⟩,.string ⟨#[]⟩]) (.int .u8 3)).run prog w=.ok (.string (txt (Bo 3))) w:=by kernel_rfl
theorem Yu (j:Nat):(Bo j).length≤4:=by
 match j with
 | 0=>decide
 | 1=>decide
 | 2=>decide
 | n+3=>exact Nat.zero_le _
structure ScOk (w':World) (st:SS) (vs:List CV) (ca:Option Addr):Prop where
 cs:vs.map (·.c)=st.cs
 r:KJ w' ca vs
 ok:∀ v∈vs,v.ok (fun b=>b < w'.heap.size) w'
 fi:∀ c∈st.cs,CFine c
 n:st.cs.length≤100
theorem ScOk.below {w w':World} {st:SS} {vs:List CV} {ca:Option Addr} (h:ScOk w st vs ca) (hb:Below w.heap.size w w'):ScOk w' st vs ca:=⟨h.cs,h.r.below hb,fun v hv=>SJ hb (h.ok v hv),h.fi,h.n⟩
theorem ScOk.len {w:World} {st:SS} {vs:List CV} {ca:Option Addr} (h:ScOk w st vs ca):vs.length=st.cs.length:=by rw [← h.cs,List.length_map]
theorem like_map {va vb:List CV} {cs ds:List Cmd} {a:Nat} (ha:va.map (·.c)=cs) (hb:vb.map (·.c)=ds) (h:ds=cs.map (shC a)):va.length=vb.length∧∀ i (h:i < va.length) (h2:i < vb.length),Yc va[i].c vb[i].c:=by
 subst ha hb
 refine ⟨by have:=congrArg List.length h;simpa using this.symm,fun i h1 h2=>⟨a+va[i].c.pl,?_⟩⟩
 have h9:(vb.map (·.c))[i]?=((va.map (·.c)).map (shC a))[i]?:=by rw [h]
 rw [List.getElem?_map,List.getElem?_map,List.getElem?_map,List.getElem?_eq_getElem h1,List.getElem?_eq_getElem h2] at h9
 simp only [Option.map_some,Option.some.injEq] at h9
 rw [h9]
 rfl
theorem fine_of {va:List CV} {cs:List Cmd} (ha:va.map (·.c)=cs) (h:∀ c∈cs,CFine c):∀ v∈va,CFine v.c:=fun v hv=>h _ (by rw [← ha];exact List.mem_map_of_mem hv)
theorem ext2 (s:ByteArray):(s.extract 0 2).toList=s.data.toList.take 2:=by rw [ByteArray.toList_eq];simp
theorem RC (s:ByteArray) (ext:Bool) (n:UInt8) (w:World) (hG:Gl w) (hP:GP w) :
  Calls prog 3 #[.string s,.bool ext,.int .u8 (n.toNat:Int)] w fun e w'=>e=.returned (.bool true)∧Below w.heap.size w w':=by
 have hA:=Ja w hG hP;have hA2:=fun w1 (b1:Below w.heap.size w w1)=>Ja w1 (hG.up b1) (hP.up b1)
 have h2e:=ext2 s;by_cases hs:(300:Int) < (s.size:Int)
 ·clear hG hP h2e;go_enter func3,ntmps3;go_wp2_with (first
   | (go_at_call 4;refine hA.mono ?_;clear hA;rintro e w1 ⟨rfl,b1⟩;have hA3:=hA2 w1 b1;clear hA2)
   | (go_at_call 4;refine hA3.mono ?_;clear hA3;rintro e w2 ⟨rfl,b2⟩))
  go_ret;exact ⟨rfl,b1.trans (b2.mono b1.size)⟩
 by_cases hq:(1:Int) < (s.size:Int)∧s.data.toList.take 2=[35,110]
 ·obtain ⟨hs1,hq⟩:=hq;have hs2:(2:Int)≤(s.size:Int):=by omega
  have hs3:2≤s.size:=by omega
  have heq:((s.extract 0 2).toList == [35,110])=true:=by rw [h2e,hq];rfl
  clear hG hP h2e hq;go_enter func3,ntmps3;go_wp2_with (first
   | (go_at_call 4;refine hA.mono ?_;clear hA;rintro e w1 ⟨rfl,b1⟩;have hA3:=hA2 w1 b1;clear hA2)
   | (go_at_call 4;refine hA3.mono ?_;clear hA3;rintro e w2 ⟨rfl,b2⟩))
  go_ret;exact ⟨rfl,b1.trans (b2.mono b1.size)⟩
 have hsz:s.size≤300:=by omega
 have hno:s.data.toList.take 2≠[35,110]:=fun e=>hq ⟨by have h9:=congrArg List.length e;rw [List.length_take,←Ae] at h9;simp at h9;omega,e⟩
 have hqn:=NL s.data.toList hno;obtain ⟨j,hj⟩:∃ j,n.toNat % 4=j:=⟨_,rfl⟩;have hj4:j < 4:=by omega
 have hqm:=NL _ (Yt j (L:=s.data.toList) (B:=[59,32,35,32,120,10]) hno);have hM:=fun st h=>Oe (ext:=ext) (st:=st) j (L:=s.data.toList) (by rw [←Ae];omega) (fun _ _ _ _ h=>Fe h) h
 have hPa:=fun w1 (b1:Below w.heap.size w w1)=>EF s ext w1 (by omega) (hG.up b1) (hP.up b1)
 have hal:=Yu j;obtain ⟨A,hA9⟩:∃ A,txt (Bo j)=A:=⟨_,rfl⟩;have hAs:A.size=(Bo j).length:=by rw [←hA9,C7]
 have hAl:A.data.toList=Bo j:=by rw [←hA9];rfl
 obtain ⟨S,hSS⟩:∃ S,(A++s)++(⟨#[10,59,32,35,32,120,10]⟩:ByteArray)=S:=⟨_,rfl⟩;have hSl:S.data.toList=Bo j++(s.data.toList++[10,59,32,35,32,120,10]):=by rw [←hSS];simp only [ByteArray.data_append,Array.toList_append,hAl,List.append_assoc]
 have hSz:S.size≤4000:=by rw [←hSS,ByteArray.size_append,ByteArray.size_append,show (ByteArray.mk #[10,59,32,35,32,120,10]).size=7 from rfl];omega
 have hPb:=fun w1 (b1:Below w.heap.size w w1)=>EF S ext w1 hSz (hG.up b1) (hP.up b1)
 unfold Yo at hPa hPb;rw [hSl] at hPb;rw [hqm] at hPb;rw [hqn] at hPa;have her:∀ x,Ie ext s.data.toList=.error x→x.1≠0:=fun x h=>Abj h
 have HWB:=Afj (fun st' (h:Ie ext (Bo j++(s.data.toList++[10,59,32,35,32,120,10]))=.ok st')=>Ae0 S hSz (hSl▸h));generalize Ie ext s.data.toList=Ra at hPa hM her;have h22:(1:Int) < (s.size:Int)→((s.extract 0 2).toList == [35,110])=false:=fun _=>by rw [h2e];simpa using hno
 have HPB:=Afj hPb;have HSS:=Afj hSS;have HAS:=Afj (And.intro hAs hal);have HA9:=Afj hA9;have HJ:=Afj (And.intro hj hj4);clear hG hP hA2 h2e hq hno hqn hqm hSl hSz hSS hPb hAs hAl hal hA9 hj hj4;go_enter func3,ntmps3;go_upto_region 1 with fail;go_cut [34] (fun s34 wx=>s34=.bool false∧Below w.heap.size w wx)
 case first=>
  by_cases hs1:(1:Int) < (s.size:Int)
  ·have heq:=h22 hs1;have hs2:(2:Int)≤(s.size:Int):=by omega
   have hs3:2≤s.size:=by omega
   go_wp2_with (go_at_call 4;refine hA.mono ?_;clear hA;rintro e w1 ⟨rfl,b1⟩)
   go_meet;exact ⟨by rw [decide_eq_false (by omega)],b1⟩
  ·go_wp2_with (go_at_call 4;refine hA.mono ?_;clear hA;rintro e w1 ⟨rfl,b1⟩)
   go_meet;exact ⟨by rw [decide_eq_false (by omega)],b1⟩
 case rest=>
  obtain ⟨rfl,b1⟩:=hcut;have hPa1:=hPa wc b1;have B1:=Afj b1;clear hPa h22 hA b1;go_upto_region 3 with fail;refine wp_region_list ?_
  iterate 2 (refine wpList_plain rfl (fun K hK=>?_);go_simp;refine hK _ _ ?_;clear hK K;(try simp only [Aa,Act.put]))
  cases Ra with
  | error x=>
   have c2:((x.1:Int) != 0)=true:=by simpa using her x rfl
   refine wpList_plain rfl (fun K hK=>?_);go_simp;go_at_call 5;refine hPa1.mono ?_;clear hPa1;rintro e w2 ⟨b2,rfl⟩;refine hK _ _ ?_;clear hK K;(try simp only [Aa,Act.put])
   iterate 5 (refine wpList_plain rfl (fun K hK=>?_);go_simp;refine hK _ _ ?_;clear hK K;(try simp only [Aa,Act.put]))
   refine wpList_plain rfl (fun K hK=>?_);go_simp;generalize hA:(w2).alloc _=wy;refine hK _ _ ?_;clear hK K;(try simp only [Aa,Act.put]);refine wpList_store_row rfl 25 _ _ rfl (World.heap w2).size (#[.bool false,.slice none 0 0]) rfl rfl 25 #[.bool false,.slice none 0 0] (Af hA) (by kernel_rfl) rfl ((by kernel_rfl)) ?_;(try simp only [Aa,Act.put]);have hbx:=KM (cs:=#[.bool false,.slice none 0 0]) hA;generalize wy.setRow (World.heap w2).size _=w3 at hbx ⊢;clear hA
   iterate 3 (refine wpList_plain rfl (fun K hK=>?_);go_simp;refine hK _ _ ?_;clear hK K;(try simp only [Aa,Act.put]))
   refine wpList_nil ?_;obtain ⟨b3,q3⟩:=hbx;have B3:=Afj ((B1.out.trans (b2.mono B1.out.size)).trans (b3.mono (B1.out.trans (b2.mono B1.out.size)).size));clear b2 b3 q3;go_wp2_with fail
   go_ret;exact ⟨rfl,B3.out⟩
  | ok st=>
   obtain ⟨st',hM1,hM2⟩:=hM st rfl;rw [hM1] at HPB;refine wpList_plain rfl (fun K hK=>?_);go_simp;go_at_call 5;refine hPa1.mono ?_;clear hPa1;rintro e w2 ⟨b2,va,ca,oa,ma,na,rfl,hca,hra,hka,hfa,hna,hml,hmr⟩;refine hK _ _ ?_;clear hK K;(try simp only [Aa,Act.put])
   iterate 5 (refine wpList_plain rfl (fun K hK=>?_);go_simp;refine hK _ _ ?_;clear hK K;(try simp only [Aa,Act.put]))
   refine wpList_plain rfl (fun K hK=>?_);go_simp;generalize hA:(w2).alloc _=wy;refine hK _ _ ?_;clear hK K;(try simp only [Aa,Act.put]);refine wpList_store_row rfl 25 _ _ rfl (World.heap w2).size (#[.bool false,.slice ca va.length oa]) rfl rfl 25 #[.bool false,.slice none 0 0] (Af hA) (by kernel_rfl) rfl ((by kernel_rfl)) ?_;(try simp only [Aa,Act.put]);have hbx:=KM (cs:=#[.bool false,.slice ca va.length oa]) hA;generalize wy.setRow (World.heap w2).size _=w3 at hbx ⊢;clear hA
   iterate 3 (refine wpList_plain rfl (fun K hK=>?_);go_simp;refine hK _ _ ?_;clear hK K;(try simp only [Aa,Act.put]))
   refine wpList_nil ?_;obtain ⟨b3,q3⟩:=hbx;have B2:=B1.out.trans (b2.mono B1.out.size);have B3:=Afj (B2.trans (b3.mono B2.size));have hPb1:=HPB.out w3 B3.out;obtain ⟨ga,hga⟩:∃ ga,w2.heap.size=ga:=⟨_,rfl⟩;rw [hga] at q3 ⊢;have OA:=Afj ((ScOk.mk hca hra hka hfa hna).below b3);have MA:=Afj ((Pn hmr).below b3);have QA:=Afj q3;have hss:st'.ms.length=st.ms.length:=by rw [hM2.ms];unfold shM;rw [List.length_map]
   have HM2:=Afj hM2;have c0:((0:Int) != 0)=false:=rfl;have hjn:=HJ.out.1;have hj4:=HJ.out.2;have hnl:=n.toNat_lt;have hm1:(n.toNat:Int) % 4=(j:Int):=by omega
   have hm2:(n.toNat:Int).tmod 4=(j:Int):=by rw [Int.tmod_eq_emod_of_nonneg (by omega)];omega
   have hm3:IntKind.u8.wrap (j:Int)=(j:Int):=by
    simp [IntKind.wrap,IntKind.bits,IntKind.signed];omega
   clear hM2 hca hra hka hfa hna hmr q3 b2 b3 B2 hga her hjn hnl hM;go_upto_region 6 with fail;go_cut [11] (fun s11 wx=>s11=.string A∧wx=w3)
   case first=>
    obtain rfl | rfl | rfl | rfl:j=0∨j=1∨j=2∨j=3:=by omega
    ·have hi:=si0 w3;go_wp2_with fail
     go_meet;exact ⟨by rw [←HA9.out],rfl⟩
    ·have hi:=si1 w3;go_wp2_with fail
     go_meet;exact ⟨by rw [←HA9.out],rfl⟩
    ·have hi:=si2 w3;go_wp2_with fail
     go_meet;exact ⟨by rw [←HA9.out],rfl⟩
    ·have hi:=si3 w3;go_wp2_with fail
     go_meet;exact ⟨by rw [←HA9.out],rfl⟩
   case rest=>
    obtain ⟨rfl,hwc⟩:=hcut;subst hwc;clear hm1 hm2 hm3 hj4;have hAs4:A.size≤4:=by have:=HAS.out.1;have:=HAS.out.2;omega
    go_upto_region 7 with fail;refine wp_region_list ?_
    iterate 2 (refine wpList_plain rfl (fun K hK=>?_);go_simp;refine hK _ _ ?_;clear hK K;(try simp only [Aa,Act.put]))
    iterate 2 (refine wpList_plain rfl (fun K hK=>?_);go_simp;rw [if_neg (by first | omega | (simp only [ByteArray.size_append];omega) | (simp;omega))];go_simp;refine hK _ _ ?_;clear hK K;(try simp only [Aa,Act.put]))
    rw [HSS.out];refine wpList_plain rfl (fun K hK=>?_);go_simp;refine hK _ _ ?_;clear hK K;(try simp only [Aa,Act.put]);refine wpList_plain rfl (fun K hK=>?_);go_simp;go_at_call 5;refine hPb1.mono ?_;clear hPb1;rintro e w4 ⟨b4,vb,cb,ob,mb,nb,rfl,hcb,hrb,hkb,hfb,hnb,hmlb,hmr2⟩;refine hK _ _ ?_;clear hK K;(try simp only [Aa,Act.put])
    iterate 5 (refine wpList_plain rfl (fun K hK=>?_);go_simp;refine hK _ _ ?_;clear hK K;(try simp only [Aa,Act.put]))
    refine wpList_plain rfl (fun K hK=>?_);go_simp;generalize hA:(w4).alloc _=wy;refine hK _ _ ?_;clear hK K;(try simp only [Aa,Act.put]);refine wpList_store_row rfl 25 _ _ rfl (World.heap w4).size (#[.bool false,.slice cb vb.length ob]) rfl rfl 25 #[.bool false,.slice none 0 0] (Af hA) (by kernel_rfl) rfl ((by kernel_rfl)) ?_;(try simp only [Aa,Act.put]);have hbx:=KM (cs:=#[.bool false,.slice cb vb.length ob]) hA;generalize wy.setRow (World.heap w4).size _=w5 at hbx ⊢;clear hA
    iterate 3 (refine wpList_plain rfl (fun K hK=>?_);go_simp;refine hK _ _ ?_;clear hK K;(try simp only [Aa,Act.put]))
    refine wpList_nil ?_;obtain ⟨b5,q5⟩:=hbx;have B4:=B3.out.trans (b4.mono B3.out.size);have B5:=Afj (B4.trans (b5.mono B4.size));have QA5:=(QA.out.below b4 QA.out.lt).below b5 (Aft QA.out.lt b4.size);obtain ⟨gb,hgb⟩:∃ gb,w4.heap.size=gb:=⟨_,rfl⟩;rw [hgb] at q5 ⊢;have OB5:=(ScOk.mk hcb hrb hkb hfb hnb).below b5;have OA5:=(OA.out.below b4).below b5;have MA:=Afj ((MA.out.below b4).below b5);have MB:=Afj ((Pn hmr2).below b5);obtain ⟨hlen,hlike⟩:=like_map OA5.cs OB5.cs HM2.out.s.cs;have hS:=R6 false va vb ca cb oa ob w5 hlen (by rw [OA5.len];have:=OA5.n;omega) hlike (fine_of OA5.cs OA5.fi) OA5.ok OB5.ok OA5.r OB5.r;have a0:w5.cell? ⟨ga,0,none⟩=some (.bool false):=(QA5.cell 0).trans rfl;have a1:w5.cell? ⟨ga,1,none⟩=some (.slice ca va.length oa):=(QA5.cell 1).trans rfl;have x0:w5.cell? ⟨gb,0,none⟩=some (.bool false):=(q5.cell 0).trans rfl;have x1:w5.cell? ⟨gb,1,none⟩=some (.slice cb vb.length ob):=(q5.cell 1).trans rfl;have hWb:=Afj (HWB.out st' hM1);have HMS:=Afj HM2.out.ms;obtain ⟨ms,hms⟩:∃ ms,st.ms=ms:=⟨_,rfl⟩;obtain ⟨mt,hmt⟩:∃ mt,st'.ms=mt:=⟨_,rfl⟩;rw [hms] at hss HMS MA hml ⊢;rw [hmt] at hss HMS MB hWb;have hne:((ms.length:Int) != (ms.length:Int))=false:=by simp
    clear hcb hrb hkb hfb hnb hmlb hmr2 OB5 OA5 hlen hlike q5 QA5 b4 b5 B4 QA OA HM2 hgb hms hmt;go_upto_region 10 with (go_at_call 6;refine hS.mono ?_;clear hS;rintro e w6 ⟨rfl,b6⟩)
    have B6:=Afj (B5.out.trans (b6.mono B5.out.size));have MA6:=Afj (MA.out.below b6);have MB6:=Afj (MB.out.below b6);clear hne MA MB b6 a0 a1 x0 x1;go_upto_region 11 with fail;go_loopw [78] (fun i wr=>∃ j:Nat,j≤ms.length∧i=.int .i64 j∧Below w6.heap.size w6 wr) (fun i _=>ms.length - (intOf i).toNat)
    case atStart=>exact ⟨0,by omega,rfl,Afv _ _⟩
    case round=>
     obtain ⟨i,hi,rfl,hb⟩:=hrel;have HB:=Afj hb;clear hb;by_cases hlt:i < ms.length
     ·have hji:(i:Int) < (ms.length:Int):=by omega
      have hy0:(0:Int)≤(i:Int):=by omega
      have hy1:0 < ms.length:=by omega
      have Wj:IntKind.i64.wrap ((i:Int)+1)=(i:Int)+1:=Afx _ (by omega);obtain ⟨g1,rfl,_,hc1⟩:=(MA6.out.below HB.out) hy1;obtain ⟨g2,rfl,_,hc2⟩:=(MB6.out.below HB.out) (by rw [hss];exact hy1);have hlt2:i < mt.length:=by omega
      have r1:=hc1 i hlt;have r2:=hc2 i hlt2;have hWi:=hWb.out _ (List.getElem_mem hlt2);have hsh:mt[i]=(ms[i].1+(A.size:Int),ms[i].2):=by
       have h9:=HMS.out;have h8:mt[i]?=some (ms[i].1+(A.size:Int),ms[i].2):=by
        rw [h9];unfold shM;rw [List.getElem?_map,Af4 hlt,←HAS.out.1];rfl
       rw [Af4 hlt2] at h8;exact Option.some.inj h8
      rw [hsh] at r2 hWi;obtain ⟨m,hm⟩:∃ m,ms[i]=m:=⟨_,rfl⟩;rw [hm] at r1 r2 hWi;simp only at hWi;have z1:wr.cell? ⟨g1,i * 2,none⟩=some (.int .i64 m.1):=r1 0 _ rfl;have hgl:=‹g1 < wr.heap.size›;clear hc1 hc2 hm hsh r1;go_upto_region 12 with fail;refine wp_region_list ?_
      iterate 2 (refine wpList_plain rfl (fun K hK=>?_);go_simp;refine hK _ _ ?_;clear hK K;(try simp only [Aa,Act.put]))
      refine wpList_load_mid rfl 33 _ rfl g2 (i * 2) (by simp [Act.eval]) (mkC (m.1+(A.size:Int),m.2)) _ r2 underlying33 rfl (by kernel_rfl) ?_
      (try simp only [Aa,Act.put])
      refine wpList_plain rfl (fun K hK=>?_);go_simp;generalize hA:(wr).alloc _=wy;refine hK _ _ ?_;clear hK K;(try simp only [Aa,Act.put]);refine wpList_plain rfl (fun K hK=>?_);go_simp;refine hK _ _ ?_;clear hK K;(try simp only [Aa,Act.put]);refine wpList_store_row rfl 33 _ _ rfl (World.heap wr).size ((mkC (m.1+(A.size:Int),m.2)).toArray) rfl rfl 33 #[.int .i64 0,.string ⟨#[]⟩] (Af hA) (by kernel_rfl) rfl ((by kernel_rfl)) ?_;(try simp only [Aa,Act.put]);have hbx:=Ad4 (cs:=(mkC (m.1+(A.size:Int),m.2)).toArray) hA;generalize wy.setRow (World.heap wr).size _=w7 at hbx ⊢;clear hA;refine wpList_nil ?_;obtain ⟨b7,q7⟩:=hbx;obtain ⟨g,hg⟩:∃ g,wr.heap.size=g:=⟨_,rfl⟩;rw [hg] at q7 ⊢;have B7:=Afj (HB.out.trans (b7.mono HB.out.size));have x0:w7.cell? ⟨g,0,none⟩=some (.int .i64 (m.1+(A.size:Int))):=(q7.cell 0).trans rfl;have z2:=(b7.cell (p:=⟨g1,i * 2,none⟩) hgl).trans z1;have hne:((m.1+(A.size:Int)) != (m.1+(A.size:Int)))=false:=by simp
      clear b7 q7 hg z1 r2 hgl;go_upto_region 13 with fail
      go_region_law (fail)
      all_goals
       go_wp2_with fail
       go_roundw
       case rel=>exact ⟨i+1,by omega,by go_num,B7.out.drew⟩
       case measure=>simp [intOf];omega
     ·have hin:i=ms.length:=by omega
      subst hin;go_wp2_with fail
      go_ret;exact ⟨rfl,B6.out.trans (HB.out.mono B6.out.size)⟩
end
section
open Go.ChangeShapes Go.WideShapes Go.ChangeAt Go.RowKit
theorem Ad5 : Tryz.prog.globalNamed "math/bits.deBruijn64tab" = some 5 := by kernel_rfl
theorem Yv:(Tryz.prog.globals[5]?).map (·.type)=some 273:=by kernel_rfl
theorem Yw:Tryz.prog.cellsOf 273=64:=by kernel_rfl
theorem Nw:Tryz.prog.cellsOf 5=1:=by kernel_rfl
theorem Yx : Tryz.prog.globalNamed "placket/bracket.openers" = some 4 := by kernel_rfl
theorem Yy:(Tryz.prog.globals[4]?).map (·.type)=some 265:=by kernel_rfl
theorem Yz:Tryz.prog.cellsOf 265=3:=by kernel_rfl
theorem Aa4 : Tryz.prog.globalNamed "placket/piece.ahead" = some 3 := by kernel_rfl
theorem Y0:(Tryz.prog.globals[3]?).map (·.type)=some 221:=by kernel_rfl
theorem Y1:Tryz.prog.cellsOf 221=2:=by kernel_rfl
theorem DD {W:World} (b:Nat) (v:Value) (hv:W.cell? ⟨b,0,none⟩=some v):b < W.heap.size:=by
 cases hh:W.heap[b]? with
 | none=>simp [World.cell?,hh] at hv
 | some o=>exact (Af6.1 hh).1
theorem Ad6 {W : World} (h : laidMetH prog [("math/bits.deBruijn64tab", Rows.laid_math_bits_deBruijn64tab), ("unicode/utf8.acceptRanges", Rows.laid_unicode_utf8_acceptRanges), ("placket/bracket.openers", Rows.laid_placket_bracket_openers), ("placket/piece.ahead", Rows.laid_placket_piece_ahead), ("unicode/utf8.first", Rows.laid_unicode_utf8_first)] W) (hsh : W.ShapedOpen prog) : Gl W ∧ GP W := by
 have h0 : laidMet prog [("math/bits.deBruijn64tab", Rows.laid_math_bits_deBruijn64tab), ("unicode/utf8.acceptRanges", Rows.laid_unicode_utf8_acceptRanges), ("placket/bracket.openers", Rows.laid_placket_bracket_openers), ("placket/piece.ahead", Rows.laid_placket_piece_ahead), ("unicode/utf8.first", Rows.laid_unicode_utf8_first)] W := h
 have h2:=laidMet.tail (laidMet.tail h0);have hT : Lib.TabIs prog W "math/bits.deBruijn64tab" .u8 (Lib.deBruijn64tab.map Int.ofNat) :=
  Lib.tabIs_of_head Ad5 Yv underlying273 underlying5 Nw Yw h0
 have hO : Lib.TabIs prog W "placket/bracket.openers" .u8 [58, 61, 46] :=
  Lib.tabIs_of_head Yx Yy underlying265 underlying5 Nw Yz h2
 have hH : Lib.TabIs prog W "placket/piece.ahead" .u8 [94, 93] :=
  Lib.tabIs_of_head Aa4 Y0 underlying221 underlying5 Nw Y1 (laidMet.tail h2)
 obtain ⟨m,hm⟩:∃ m,W.cell? ⟨0,0,none⟩=some (.int .i64 m):=
  cell_of_shapedOpen_int (t:=3) (zero:=#[.int .i64 0]) hsh (of_decide_eq_true (by kernel_rfl)) (by kernel_rfl) rfl (by kernel_rfl) (by kernel_rfl) underlying3
 refine ⟨⟨fun j hj=>?_,hO.cell Yx 0 (by decide),hO.cell Yx 1 (by decide),hO.cell Yx 2 (by decide),⟨m,hm⟩,?_⟩,hH.cell Aa4 0 (by decide),hH.cell Aa4 1 (by decide),DD _ _ (hH.cell Aa4 0 (by decide))⟩
 ·rw [hT.cell Ad5 j (by rw [List.length_map];exact hj)];simp only [List.getD,List.getElem?_map];rw [Af4 hj];rfl
 ·exact Nat.max_lt.2 ⟨Nat.max_lt.2 ⟨DD _ _ (hT.cell Ad5 0 (by decide)),DD _ _ (hO.cell Yx 0 (by decide))⟩,DD _ _ hm⟩
def Gb (cs:Array Value):Obj→Obj
 | .cells _ t frozen=>.cells cs t frozen
 | o=>o
noncomputable def IK (os:Os):World:=
 { World.holding prog os ⟨#[],#[],[]⟩ with heap:=(((((World.holding prog os ⟨#[],#[],[]⟩).heap.modify 5 (Gb (Lib.deBruijn64tab.map fun n=>Value.int .u8 (Int.ofNat n)).toArray)).modify 4 (Gb #[.int .u8 58,.int .u8 61,.int .u8 46])).modify 3 (Gb #[.int .u8 94,.int .u8 93])).modify 2 (Gb (([128,191,160,191,128,159,144,191,128,143,0,0,0,0,0,0,0,0,0,0,0,0,0,0,0,0,0,0,0,0,0,0]:List Nat).map fun n=>Value.int .u8 (Int.ofNat n)).toArray)).modify 1 (Gb (Go.Pinned.utf8FirstZ.map fun n=>Value.int .u8 (Int.ofNat n)).toArray) }
end
end Go.Proofs.YtnognicabhgmcaaGreatDoor
