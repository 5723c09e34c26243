/- Texts. -/
import Derived.Test.YteilldmmihiijaaGreatDoorTw11
import Derived.BigFrame
import Derived.Test.YteilldmmihiijaaGreatDoorCards
import Derived.Test.YteilldmmihiijaaGreatDoorTie
import Derived.ShutString
import Derived.Deep.DeepHandedRow
import Derived.Stop.LaidErr
import Derived.Shelf.Vars
set_option linter.unusedSimpArgs false
set_option linter.unusedVariables false
set_option maxHeartbeats 8000000
set_option maxRecDepth 1000000
namespace Go.Proofs.YteilldmmihiijaaGreatDoor
open Go.Lib renaming hid→Ad5
open List renaming setIfInBounds_toArray→Ad6,getElem_cons_zero→Ad7,getElem_cons_succ→Ad8,getElem_toArray→Ad9,set_cons_zero→Aea,set_cons_succ→Aeb,length_append→Aee,mem_append→Aem
open Nat renaming le_refl→Aec,lt_of_lt_of_le→Aef
open Go.RowKit.Below renaming refl→Aeh,heap_setCell→Aei
open Go.IntWalk renaming i64_in→Aej
section
open Go Go.RowKit
def EX (c:Cmd):Bool:=c.name == 98 || c.name == 116 || c.name == 84
theorem OU (c:Cmd) (ta tb ts pv:Value) (w:World):Calls Tryz.prog 26 #[.agg (ED c ta tb ts pv)] w fun e w'=>e=.returned (.bool (EX c))∧Below w.heap.size w w':=by
 unfold ED;by_cases h1:c.name=98
 ·have q1:((c.name.toNat:Int) == 98)=true:=by rw [h1];rfl
  rw [show EX c=true by unfold EX;rw [h1];rfl];clear h1;go_enter Tryz.func26,Tryz.ntmps26;go_upto_region 1 with fail;generalize hW1:w.alloc _=W1;have B1:=Ad5 (Ac hW1);obtain ⟨x0,x10,x11⟩:=GJ (c:=c) (ta:=ta) (tb:=tb) (ts:=ts) (pv:=pv) (Ae hW1);clear hW1;go_wp2_with fail
  go_ret;exact ⟨rfl,B1.out⟩
 have q1:((c.name.toNat:Int) == 98)=false:=FW (b:=98) h1;by_cases h2:c.name=116
 ·have q2:((c.name.toNat:Int) == 116)=true:=by rw [h2];rfl
  rw [show EX c=true by unfold EX;rw [h2];rfl];clear h1 h2;go_enter Tryz.func26,Tryz.ntmps26;go_upto_region 1 with fail;generalize hW1:w.alloc _=W1;have B1:=Ad5 (Ac hW1);obtain ⟨x0,x10,x11⟩:=GJ (c:=c) (ta:=ta) (tb:=tb) (ts:=ts) (pv:=pv) (Ae hW1);clear hW1;go_wp2_with fail
  go_ret;exact ⟨rfl,B1.out⟩
 have q2:((c.name.toNat:Int) == 116)=false:=FW (b:=116) h2;by_cases h3:c.name=84
 ·have q3:((c.name.toNat:Int) == 84)=true:=by rw [h3];rfl
  rw [show EX c=true by unfold EX;rw [h3];rfl];clear h1 h2 h3;go_enter Tryz.func26,Tryz.ntmps26;go_upto_region 1 with fail;generalize hW1:w.alloc _=W1;have B1:=Ad5 (Ac hW1);obtain ⟨x0,x10,x11⟩:=GJ (c:=c) (ta:=ta) (tb:=tb) (ts:=ts) (pv:=pv) (Ae hW1);clear hW1;go_wp2_with fail
  go_ret;exact ⟨rfl,B1.out⟩
 ·have q3:((c.name.toNat:Int) == 84)=false:=FW (b:=84) h3;rw [show EX c=false by unfold EX;simp [h1,h2,h3]];clear h1 h2 h3;go_enter Tryz.func26,Tryz.ntmps26;go_upto_region 1 with fail;generalize hW1:w.alloc _=W1;have B1:=Ad5 (Ac hW1);obtain ⟨x0,x10,x11⟩:=GJ (c:=c) (ta:=ta) (tb:=tb) (ts:=ts) (pv:=pv) (Ae hW1);clear hW1;go_wp2_with fail
  go_ret;exact ⟨rfl,B1.out⟩
theorem ZO {w:World} {B:Nat} {T:TypeId} {a:Option Addr} {c:Nat} {l:List Nat} {x:Nat} (h:w.ownsRow B T 1 (.slice a l.length c) l.length (opC l)) (hx:l.getLast?=some x):∃ g,a=some ⟨g,0,none⟩∧l.length≤maxLen∧w.cell? ⟨g,l.length - 1,none⟩=some (.int .i64 (x:Int)):=by
 have h0:0 < l.length:=by cases l with | nil=>cases hx | cons=>simp
 rcases h.2 with ⟨_,e⟩ | ⟨g,cap,cur,h1,_,hg,hc1,hc2,_,ht⟩
 ·omega
 ·injection h1 with h1 _ _;refine ⟨g,h1,by omega,?_⟩;have h9:(opC l)[l.length - 1]?=some (.int .i64 (x:Int)):=by
   unfold opC;rw [List.getElem?_map,←List.getLast?_eq_getElem?,hx];rfl
  rw [←ht,List.getElem?_take] at h9;split at h9
  ·simp only [World.cell?,hg];rw [Array.getElem?_toList] at h9;simpa using h9
  ·cases h9
def Sr (o:Option Cmd):Nat × Nat:=match o with | some c=>(14,c.pl) | none=>(0,0)
theorem XG {st:SS} {x:Nat} (h:st.op.getLast?=some x):Dn st=(16,x):=by unfold Dn;rw [h]
theorem XH {st:SS} (h:st.op.getLast?=none):Dn st=Sr (st.cs.find? (BY (scLabels st.cs))):=by unfold Dn;rw [h];rfl
theorem XI {W:World} {b:Nat} {ls:List (List UInt8)} (h:LabAt W b ls) (x:List UInt8) (hx:x.length≤40):(Instr.lookup 50 (.map (some b)) (.string (txt x)) false).run Tryz.prog W=.ok (.int .i64 (if x∈ls then 1 else 0)) W:=by
 obtain ⟨n,D,hn,hown,hat⟩:=h;obtain ⟨cc,hrun,hcc,_⟩:=hown.lookup_int (Go.Maps.string_keyed Tryz.underlying9) Tryz.underlying50 Tryz.underlying3 (KC _) (Sm x hx);rw [hat x] at hcc;injection hcc with hcc;injection hcc with _ hcc;rw [hcc];exact hrun
theorem Acw (a:UInt8) (l:List UInt8):¬ (txt (a :: l)).toList=[]:=fun e=>by
 rw [ByteArray.toList_eq] at e;cases e
theorem Js (ls:List (List UInt8)) (c:Cmd):BY ls c=(EX c && !c.arg.isEmpty && !ls.contains c.arg):=rfl
theorem U2 (W:World) (p mp:Nat) (q:Bool) (s:ByteArray) (ext:Bool) (r:RV) (w:World) (h:ScS W p mp q s ext r w) (hI:ScI r s.size) :
  Calls Tryz.prog 18 #[.pointer (some ⟨p,0,none⟩)] w fun e w'=>e=.returned (.tuple #[.int .i64 ((Dn r.st).2:Int),.int .i64 ((Dn r.st).1:Int)])∧Below w.heap.size w w':=by
 have k6:w.cell? ⟨p,6,none⟩=some (.slice r.oa r.st.op.length r.oc):=(h.b.cell 6).trans rfl;have HI:=Ad5 hI;cases hl:r.st.op.getLast? with
 | some x=>
  have h0:0 < r.st.op.length:=by cases h1:r.st.op with | nil=>rw [h1] at hl;cases hl | cons=>simp
  have ho:=h.h.or;obtain ⟨n,hn⟩:∃ n,r.st.op.length=n:=⟨_,rfl⟩;obtain ⟨g,hg,hm,k⟩:=ZO ho hl;rw [hg] at k6;rw [hn] at k6 h0 k hm;have hop:=HI.out.op;rw [hn] at hop;have Wn:IntKind.i64.wrap ((n:Int) - 1)=((n - 1:Nat):Int):=by rw [Aej _ (by omega)];omega
  obtain ⟨m,hm2⟩:∃ m,n - 1=m:=⟨_,rfl⟩;rw [hm2] at k Wn;have hmn:(m:Int) < (n:Int):=by omega
  have hy0:(0:Int)≤(m:Int):=by omega
  have hn0:(0:Int) < (n:Int):=by omega
  rw [XG hl];clear h ho hl hm hop hn hm2;go_enter Tryz.func18,Tryz.ntmps18;go_upto_region 2 with fail
  go_region_law (fail)
  all_goals
   (try go_wp2_with fail)
   go_ret2
   exact ⟨rfl,(Aeh _ _).drew⟩
 | none=>
  have h0:r.st.op.length=0:=by cases h1:r.st.op with | nil=>rfl | cons a l=>rw [h1] at hl;simp at hl
  rw [h0] at k6;have hcs:=h.h.cs;have hvl:r.vs.length=r.st.cs.length:=by rw [←hcs,List.length_map]
  obtain ⟨n,hn⟩:∃ n,r.vs.length=n:=⟨_,rfl⟩;have hn1:n≤100:=by rw [←hn,hvl];exact HI.out.cs
  have k1:w.cell? ⟨p,1,none⟩=some (.slice r.ca n r.cc):=by rw [←hn];exact (h.b.cell 1).trans rfl
  have hrow:=KD h.h.cr;obtain ⟨ca,hca⟩:∃ ca,r.ca=ca:=⟨_,rfl⟩;rw [hca] at k1 hrow;have hone:=fun v hv=>CV.one (h.h.ok v hv)
  have H0:=Ad5 h;have RA:=Ad5 hrow;have HO:=Ad5 hone;have HN:=Ad5 hn;have HC:=Ad5 hcs;rw [XH hl];obtain ⟨A,hA⟩:∃ A,Sr (r.st.cs.find? (BY (scLabels r.st.cs)))=A:=⟨_,rfl⟩;rw [hA];have HA:=Ad5 hA;clear h hrow hone hn hcs hvl hl h0 hA hca;go_enter Tryz.func18,Tryz.ntmps18;go_upto_region 4 with fail;go_loopw [30] (fun i wr=>∃ j:Nat,j≤n∧i=.int .i64 j∧Below w.heap.size w wr∧r.st.cs.find? (BY (scLabels r.st.cs))=(r.st.cs.drop j).find? (BY (scLabels r.st.cs))) (fun i _=>n - (intOf i).toNat)
  case atStart=>exact ⟨0,by omega,rfl,Aeh _ _,by simp⟩
  case round=>
   obtain ⟨j,hj,rfl,hb,hfind⟩:=hrel;have HB:=Ad5 hb;have HF:=Ad5 hfind;clear hb hfind;by_cases hlt:j < n
   ·have hji:(j:Int) < (n:Int):=by omega
    have hy0:(0:Int)≤(j:Int):=by omega
    have Wj:IntKind.i64.wrap ((j:Int)+1)=(j:Int)+1:=Aej _ (by omega);have j1:j < r.vs.length:=by rw [HN.out];exact hlt
    obtain ⟨g1,rfl,_,hc1⟩:=(RA.out.below HB.out) (by omega);have r1:=hc1 j j1;have o1:=HO.out _ (List.getElem_mem j1);have hjc:j < r.st.cs.length:=by rw [←HC.out,List.length_map];exact j1
    have hcj:r.vs[j].c=r.st.cs[j]:=by have:=HC.out;simp only [←this,List.getElem_map]
    have HD:=Ad5 (show r.st.cs.drop j=r.vs[j].c :: r.st.cs.drop (j+1) by rw [hcj];exact List.drop_eq_getElem_cons hjc);have HM:=Ad5 (show r.vs[j].c∈r.st.cs by rw [hcj];exact List.getElem_mem hjc);clear hc1 hcj hjc;generalize r.vs[j]=x at r1 o1 HD HM;have HLab:EX x.c=true→x.c.arg.length≤40:=fun e=>(HI.out.fi x.c HM.out).2.2.2 (by unfold EX at e;simp at e;rcases e with (e | e) | e;exact .inr (.inl e);exact .inr (.inr (.inl e));exact .inr (.inr (.inr e)))
    have HLa:=Ad5 HLab;clear HLab;go_upto_region 5 with fail;refine wp_region_list ?_;refine wpList_plain rfl (fun K hK=>?_);go_simp;refine hK _ _ ?_;clear hK K;(try simp only [Ad9,Ad8,Ad7,Act.put,Ad6,Aea,Aeb]);refine wpList_load_mid rfl 47 _ rfl g1 (j * 20) (by simp [Act.eval]) x.cells.toList _ r1 Tryz.underlying47 rfl (by kernel_rfl) ?_;rw [Array.toArray_toList]
    (try simp only [Ad9,Ad8,Ad7,Act.put,Ad6,Aea,Aeb])
    refine wpList_plain rfl (fun K hK=>?_);go_simp;generalize hA:(wr).alloc _=wy;refine hK _ _ ?_;clear hK K;(try simp only [Ad9,Ad8,Ad7,Act.put,Ad6,Aea,Aeb]);refine wpList_store_row rfl 47 _ _ rfl (World.heap wr).size (x.cells) rfl rfl 47 Dg (Ae hA) (by kernel_rfl) rfl (o1) ?_;(try simp only [Ad9,Ad8,Ad7,Act.put,Ad6,Aea,Aeb]);have hbx:=Sl (cs:=x.cells) hA;generalize wy.setRow (World.heap wr).size _=w1 at hbx ⊢;clear hA;refine wpList_nil ?_;obtain ⟨b1,q1⟩:=hbx;have HB1:=Ad5 (HB.out.trans (b1.mono HB.out.size));obtain ⟨g,hg⟩:∃ g,wr.heap.size=g:=⟨_,rfl⟩;rw [hg] at q1 ⊢;have hplt:=H0.out.b.lt;have hmlt:=(H0.out.h.lt (b:=mp) (by simp [RV.own])).2;have hS0:∀ W',Below w1.heap.size w1 W'→(fun W':World=>Blk W' g x.cells 47∧W'.cell? ⟨p,7,none⟩=some (.map (some mp))∧LabAt W' mp (scLabels r.st.cs)) W':=fun W' hW=>by
     have hw:=HB1.out.trans (hW.mono HB1.out.size);exact ⟨q1.below hW q1.lt,(hw.cell (p:=⟨p,7,none⟩) hplt).trans ((H0.out.b.cell 7).trans rfl),by rw [←HI.out.ls];exact H0.out.h.la.same (hw.block mp hmlt)⟩
    have HJ:=OU x.c x.ta x.tb x.ts (.slice x.pa x.c.sub.parts.length x.pc);obtain ⟨J,hJ⟩:∃ J,EX x.c=J:=⟨_,rfl⟩;rw [hJ] at HJ HLa;have HJJ:=Ad5 hJ;have hxc:x.cells=ED x.c x.ta x.tb x.ts (.slice x.pa x.c.sub.parts.length x.pc):=rfl;have HX:=Ad5 hxc;have hmix:Tryz.prog.follows .mixedOrders=true:=by kernel_rfl
    clear b1 q1 hg r1 o1 hplt hmlt hJ hxc;go_upto_region 6 with fail;refine wp_region_held_drew (S:=fun W':World=>Blk W' g x.cells 47∧W'.cell? ⟨p,7,none⟩=some (.map (some mp))∧LabAt W' mp (scLabels r.st.cs)) hmix (hS0 _ (Aeh _ _).drew) (fun hHeld=>?_);refine AE 0 (.agg x.cells) rfl hHeld (Or.inl ⟨by rfl,fun W' hSw=>Gx 47 _ rfl g rfl hSw.1 Tryz.underlying47 (by kernel_rfl)⟩) ?_
    (try simp only [Ad9,Ad8,Ad7,Act.put,Ad6,Aea,Aeb])
    generalize hv0:w1.drew=v0 at hHeld ⊢;have hb0:Below w1.heap.size w1 v0:=by rw [←hv0];exact (Aeh _ _).drew
    clear hv0;refine wpAnyH_ready (rs:=[1]) (by decide +kernel) (by simp) (AllReadyH.cons rfl (fun K hK=>?_) AllReadyH.nil);rw [HX.out];go_simp;go_wp2_with (go_at_call 26;refine (HJ v0).mono ?_;rintro e v1 ⟨rfl,b1⟩)
    rw [←HX.out];have hb1:Below w1.heap.size w1 v1:=hb0.trans (b1.mono hb0.size);refine hK.out _ _ (hS0 _ hb1) (fun hHeld=>?_);clear hK K HJ
    (try simp only [Ad9,Ad8,Ad7,Act.put,Ad6,Aea,Aeb])
    refine AE 2 ?_ rfl (by assumption) (Or.inl ⟨by rfl,?_⟩) ?_;rotate_left;(focus (intro W' hSw;(try go_simp);try with_reducible rfl));(try simp only [Ad9,Ad8,Ad7,Act.put,Ad6,Aea,Aeb]);have HBF:=Ad5 (HB1.out.trans (hb1.mono HB1.out.size));clear hb0 hb1 b1 hS0;cases J with
    | false=>
     refine AE 3 undef rfl (by assumption) (Or.inr ⟨by rfl,rfl⟩) ?_;(try simp only [Ad9,Ad8,Ad7,Act.put,Ad6,Aea,Aeb]);refine AE 4 undef rfl (by assumption) (Or.inr ⟨by rfl,rfl⟩) ?_;(try simp only [Ad9,Ad8,Ad7,Act.put,Ad6,Aea,Aeb]);refine AE 5 undef rfl (by assumption) (Or.inr ⟨by rfl,rfl⟩) ?_;(try simp only [Ad9,Ad8,Ad7,Act.put,Ad6,Aea,Aeb]);refine AE 6 ?_ rfl (by assumption) (Or.inl ⟨by rfl,?_⟩) ?_;rotate_left;(focus (intro W' hSw;(try go_simp);try with_reducible rfl));(try simp only [Ad9,Ad8,Ad7,Act.put,Ad6,Aea,Aeb]);refine AE 7 ?_ rfl (by assumption) (Or.inl ⟨by rfl,?_⟩) ?_;rotate_left;(focus (intro W' hSw;(try go_simp);try with_reducible rfl));(try simp only [Ad9,Ad8,Ad7,Act.put,Ad6,Aea,Aeb]);refine AE 8 undef rfl (by assumption) (Or.inr ⟨by rfl,rfl⟩) ?_;(try simp only [Ad9,Ad8,Ad7,Act.put,Ad6,Aea,Aeb]);refine AE 9 undef rfl (by assumption) (Or.inr ⟨by rfl,rfl⟩) ?_;(try simp only [Ad9,Ad8,Ad7,Act.put,Ad6,Aea,Aeb]);refine AE 10 undef rfl (by assumption) (Or.inr ⟨by rfl,rfl⟩) ?_;(try simp only [Ad9,Ad8,Ad7,Act.put,Ad6,Aea,Aeb]);refine AE 11 undef rfl (by assumption) (Or.inr ⟨by rfl,rfl⟩) ?_;(try simp only [Ad9,Ad8,Ad7,Act.put,Ad6,Aea,Aeb]);refine AE 12 undef rfl (by assumption) (Or.inr ⟨by rfl,rfl⟩) ?_;(try simp only [Ad9,Ad8,Ad7,Act.put,Ad6,Aea,Aeb]);refine AE 13 undef rfl (by assumption) (Or.inr ⟨by rfl,rfl⟩) ?_;(try simp only [Ad9,Ad8,Ad7,Act.put,Ad6,Aea,Aeb]);refine AE 14 undef rfl (by assumption) (Or.inr ⟨by rfl,rfl⟩) ?_;(try simp only [Ad9,Ad8,Ad7,Act.put,Ad6,Aea,Aeb]);refine AE 15 undef rfl (by assumption) (Or.inr ⟨by rfl,rfl⟩) ?_;(try simp only [Ad9,Ad8,Ad7,Act.put,Ad6,Aea,Aeb]);refine AE 16 ?_ rfl (by assumption) (Or.inl ⟨by rfl,?_⟩) ?_;rotate_left;(focus (intro W' hSw;(try go_simp);try with_reducible rfl));(try simp only [Ad9,Ad8,Ad7,Act.put,Ad6,Aea,Aeb]);refine wpAnyH_done (by kernel_rfl) ?_ _;have HNJ:=Ad5 (show BY (scLabels r.st.cs) x.c=false by rw [Js,HJJ.out];rfl)
     (try go_wp2_with fail)
     go_roundw
     case rel=>exact ⟨j+1,by omega,by go_num,HBF.out,by rw [HF.out,HD.out,List.find?_cons_of_neg (by rw [HNJ.out];decide)]⟩
     case measure=>simp [intOf];omega
    | true=>
     have hal:=HLa.out rfl;cases ha:x.c.arg with
     | nil=>
      have HAR:=Ad5 ha;clear hal ha;refine AE 3 ?_ rfl (by assumption) (Or.inl ⟨by rfl,?_⟩) ?_;rotate_left;(focus (intro W' hSw;(try go_simp);try with_reducible rfl));(try simp only [Ad9,Ad8,Ad7,Act.put,Ad6,Aea,Aeb]);refine AE 4 ?_ rfl (by assumption) (Or.inl ⟨by rfl,?_⟩) ?_;rotate_left;(focus (intro W' hSw;obtain ⟨hq,h7,hl⟩:=hSw;have h11:W'.cell? ⟨g,11,none⟩=some (.string ⟨#[]⟩):=(hq.cell 11).trans (show some (Value.string (txt x.c.arg))=_ by rw [HAR.out];rfl);(try go_simp);try with_reducible rfl));(try simp only [Ad9,Ad8,Ad7,Act.put,Ad6,Aea,Aeb]);refine AE 5 (.bool false) rfl (by assumption) (Or.inl ⟨by rfl,fun W' hSw=>by go_simp⟩) ?_
      (try simp only [Ad9,Ad8,Ad7,Act.put,Ad6,Aea,Aeb])
      refine AE 6 ?_ rfl (by assumption) (Or.inl ⟨by rfl,?_⟩) ?_;rotate_left;(focus (intro W' hSw;(try go_simp);try with_reducible rfl));(try simp only [Ad9,Ad8,Ad7,Act.put,Ad6,Aea,Aeb]);refine AE 7 ?_ rfl (by assumption) (Or.inl ⟨by rfl,?_⟩) ?_;rotate_left;(focus (intro W' hSw;(try go_simp);try with_reducible rfl));(try simp only [Ad9,Ad8,Ad7,Act.put,Ad6,Aea,Aeb]);refine AE 8 undef rfl (by assumption) (Or.inr ⟨by rfl,rfl⟩) ?_;(try simp only [Ad9,Ad8,Ad7,Act.put,Ad6,Aea,Aeb]);refine AE 9 undef rfl (by assumption) (Or.inr ⟨by rfl,rfl⟩) ?_;(try simp only [Ad9,Ad8,Ad7,Act.put,Ad6,Aea,Aeb]);refine AE 10 undef rfl (by assumption) (Or.inr ⟨by rfl,rfl⟩) ?_;(try simp only [Ad9,Ad8,Ad7,Act.put,Ad6,Aea,Aeb]);refine AE 11 undef rfl (by assumption) (Or.inr ⟨by rfl,rfl⟩) ?_;(try simp only [Ad9,Ad8,Ad7,Act.put,Ad6,Aea,Aeb]);refine AE 12 undef rfl (by assumption) (Or.inr ⟨by rfl,rfl⟩) ?_;(try simp only [Ad9,Ad8,Ad7,Act.put,Ad6,Aea,Aeb]);refine AE 13 undef rfl (by assumption) (Or.inr ⟨by rfl,rfl⟩) ?_;(try simp only [Ad9,Ad8,Ad7,Act.put,Ad6,Aea,Aeb]);refine AE 14 undef rfl (by assumption) (Or.inr ⟨by rfl,rfl⟩) ?_;(try simp only [Ad9,Ad8,Ad7,Act.put,Ad6,Aea,Aeb]);refine AE 15 undef rfl (by assumption) (Or.inr ⟨by rfl,rfl⟩) ?_;(try simp only [Ad9,Ad8,Ad7,Act.put,Ad6,Aea,Aeb]);refine AE 16 ?_ rfl (by assumption) (Or.inl ⟨by rfl,?_⟩) ?_;rotate_left;(focus (intro W' hSw;(try go_simp);try with_reducible rfl));(try simp only [Ad9,Ad8,Ad7,Act.put,Ad6,Aea,Aeb]);refine wpAnyH_done (by kernel_rfl) ?_ _;have HNJ:=Ad5 (show BY (scLabels r.st.cs) x.c=false by rw [Js,HAR.out];simp)
      (try go_wp2_with fail)
      go_roundw
      case rel=>exact ⟨j+1,by omega,by go_num,HBF.out,by rw [HF.out,HD.out,List.find?_cons_of_neg (by rw [HNJ.out];decide)]⟩
      case measure=>simp [intOf];omega
     | cons a l=>
      have hne:=Acw a l;rw [←ha] at hne;have HAR:=Ad5 ha;obtain ⟨T,hT⟩:∃ T,txt x.c.arg=T:=⟨_,rfl⟩;have hlk:=fun W' (h:LabAt W' mp (scLabels r.st.cs))=>XI h x.c.arg hal
      rw [hT] at hne hlk;have HT:=Ad5 hT;clear hal ha hT;obtain ⟨cc,hcc⟩:∃ cc:Int,(if x.c.arg∈scLabels r.st.cs then 1 else 0)=cc:=⟨_,rfl⟩;rw [hcc] at hlk;have HCC:=Ad5 hcc;clear hcc;refine AE 3 ?_ rfl (by assumption) (Or.inl ⟨by rfl,?_⟩) ?_;rotate_left;(focus (intro W' hSw;(try go_simp);try with_reducible rfl));(try simp only [Ad9,Ad8,Ad7,Act.put,Ad6,Aea,Aeb]);refine AE 4 ?_ rfl (by assumption) (Or.inl ⟨by rfl,?_⟩) ?_;rotate_left;(focus (intro W' hSw;obtain ⟨hq,h7,hl⟩:=hSw;have h11:W'.cell? ⟨g,11,none⟩=some (.string T):=(hq.cell 11).trans (show some (Value.string (txt x.c.arg))=_ by rw [HT.out]);(try go_simp);try with_reducible rfl));(try simp only [Ad9,Ad8,Ad7,Act.put,Ad6,Aea,Aeb]);refine AE 5 (.bool true) rfl (by assumption) (Or.inl ⟨by rfl,fun W' hSw=>by go_simp⟩) ?_
      (try simp only [Ad9,Ad8,Ad7,Act.put,Ad6,Aea,Aeb])
      refine AE 6 ?_ rfl (by assumption) (Or.inl ⟨by rfl,?_⟩) ?_;rotate_left;(focus (intro W' hSw;(try go_simp);try with_reducible rfl));(try simp only [Ad9,Ad8,Ad7,Act.put,Ad6,Aea,Aeb]);refine AE 7 ?_ rfl (by assumption) (Or.inl ⟨by rfl,?_⟩) ?_;rotate_left;(focus (intro W' hSw;(try go_simp);try with_reducible rfl));(try simp only [Ad9,Ad8,Ad7,Act.put,Ad6,Aea,Aeb]);refine AE 8 ?_ rfl (by assumption) (Or.inl ⟨by rfl,?_⟩) ?_;rotate_left;(focus (intro W' hSw;(try go_simp);try with_reducible rfl));(try simp only [Ad9,Ad8,Ad7,Act.put,Ad6,Aea,Aeb]);refine AE 9 ?_ rfl (by assumption) (Or.inl ⟨by rfl,?_⟩) ?_;rotate_left;(focus (intro W' hSw;(try go_simp);try with_reducible rfl));(try simp only [Ad9,Ad8,Ad7,Act.put,Ad6,Aea,Aeb]);refine AE 10 ?_ rfl (by assumption) (Or.inl ⟨by rfl,?_⟩) ?_;rotate_left;(focus (intro W' hSw;(try go_simp);try with_reducible rfl));(try simp only [Ad9,Ad8,Ad7,Act.put,Ad6,Aea,Aeb]);refine AE 11 ?_ rfl (by assumption) (Or.inl ⟨by rfl,?_⟩) ?_;rotate_left;(focus (intro W' hSw;obtain ⟨hq,h7,hl⟩:=hSw;(try go_simp);try with_reducible rfl));(try simp only [Ad9,Ad8,Ad7,Act.put,Ad6,Aea,Aeb]);refine AE 12 ?_ rfl (by assumption) (Or.inl ⟨by rfl,?_⟩) ?_;rotate_left;(focus (intro W' hSw;(try go_simp);try with_reducible rfl));(try simp only [Ad9,Ad8,Ad7,Act.put,Ad6,Aea,Aeb]);refine AE 13 ?_ rfl (by assumption) (Or.inl ⟨by rfl,?_⟩) ?_;rotate_left;(focus (intro W' hSw;obtain ⟨hq,h7,hl⟩:=hSw;have h11:W'.cell? ⟨g,11,none⟩=some (.string T):=(hq.cell 11).trans (show some (Value.string (txt x.c.arg))=_ by rw [HT.out]);(try go_simp);try with_reducible rfl));(try simp only [Ad9,Ad8,Ad7,Act.put,Ad6,Aea,Aeb]);refine AE 14 ?_ rfl (by assumption) (Or.inl ⟨by rfl,?_⟩) ?_;rotate_left;(focus (intro W' hSw;obtain ⟨hq,h7,hl⟩:=hSw;have hrun:=hlk W' hl;(try go_simp);try with_reducible rfl));(try simp only [Ad9,Ad8,Ad7,Act.put,Ad6,Aea,Aeb]);by_cases hin:x.c.arg∈scLabels r.st.cs
      ·have ecc:cc=1:=by rw [←HCC.out,if_pos hin]
       subst ecc;refine AE 15 ?_ rfl (by assumption) (Or.inl ⟨by rfl,?_⟩) ?_;rotate_left;(focus (intro W' hSw;(try go_simp);try with_reducible rfl));(try simp only [Ad9,Ad8,Ad7,Act.put,Ad6,Aea,Aeb]);refine AE 16 ?_ rfl (by assumption) (Or.inl ⟨by rfl,?_⟩) ?_;rotate_left;(focus (intro W' hSw;(try go_simp);try with_reducible rfl));(try simp only [Ad9,Ad8,Ad7,Act.put,Ad6,Aea,Aeb]);refine wpAnyH_done (by kernel_rfl) ?_ _;have HNJ:=Ad5 (show BY (scLabels r.st.cs) x.c=false by rw [Js];simp [hin])
       (try go_wp2_with fail)
       go_roundw
       case rel=>exact ⟨j+1,by omega,by go_num,HBF.out,by rw [HF.out,HD.out,List.find?_cons_of_neg (by rw [HNJ.out];decide)]⟩
       case measure=>simp [intOf];omega
      ·have ecc:cc=0:=by rw [←HCC.out,if_neg hin]
       subst ecc;refine AE 15 ?_ rfl (by assumption) (Or.inl ⟨by rfl,?_⟩) ?_;rotate_left;(focus (intro W' hSw;(try go_simp);try with_reducible rfl));(try simp only [Ad9,Ad8,Ad7,Act.put,Ad6,Aea,Aeb]);refine AE 16 ?_ rfl (by assumption) (Or.inl ⟨by rfl,?_⟩) ?_;rotate_left;(focus (intro W' hSw;(try go_simp);try with_reducible rfl));(try simp only [Ad9,Ad8,Ad7,Act.put,Ad6,Aea,Aeb]);refine wpAnyH_done (by kernel_rfl) ?_ _;have HYJ:=Ad5 (show BY (scLabels r.st.cs) x.c=true by rw [Js,HJJ.out,HAR.out];rw [HAR.out] at hin;simp [hin]);have k0:=(hHeld.1.cell 0).trans (show _=some (Value.int .i64 (x.c.pl:Int)) from rfl);have HZ:=Ad5 (show A=(14,x.c.pl) by rw [←HA.out,HF.out,HD.out,List.find?_cons_of_pos HYJ.out];rfl)
       (try go_wp2_with fail)
       go_ret2
       rw [HZ.out];exact ⟨rfl,HBF.out⟩
   ·obtain rfl:j=n:=by omega
    have HZ:=Ad5 (show A=(0,0) by
     have h9:=HA.out;rw [HF.out,List.drop_of_length_le (by rw [←HC.out,List.length_map];exact Nat.le_of_eq HN.out)] at h9;exact h9.symm)
    go_wp2_with fail
    go_ret2
    rw [HZ.out];exact ⟨rfl,HB.out⟩
theorem XJ {ext:Bool} {L:List UInt8} {n:Nat} {st:SS} (h:Aq L st.k < L.length):BR ext L (n+1) st=(match Cn ext L (st.go (Aq L st.k)) with | .error q=>.error q | .ok st'=>BR ext L n st'):=by
 rw [BR,if_pos h];cases Cn ext L (st.go (Aq L st.k)) <;> rfl
theorem XK {ext:Bool} {L:List UInt8} {n:Nat} {st:SS} (h:¬ Aq L st.k < L.length):BR ext L (n+1) st=.ok (st.go (Aq L st.k)):=by
 rw [BR,if_neg h]
theorem ZP {ext:Bool} {L:List UInt8} {st st':SS} (h:Cn ext L st=.ok st'):st'.cs.length=st.cs.length+1:=by
 unfold Cn E5 Gv at h
 repeat' split at h
 all_goals first | (injection h with h;subst h;simp;done) | cases h
theorem OV {ext:Bool} {L:List UInt8} {st:SS} {q:Nat × Nat} (h:Cn ext L st=.error q):q.1≠0:=by
 unfold Cn at h;split at h
 ·injection h with h;rw [←h];show (3:Nat)≠0;decide
 ·unfold E5 at h;split at h
  ·rename_i hc;injection h with h;rw [←h];exact XA hc
  ·unfold Gv at h;split at h
   ·cases h
   ·rename_i hn;injection h with h;subst h;exact hn
theorem XL {st:SS} (h:(Dn st).1=0):Dn st=(0,0):=by
 unfold Dn at h ⊢;cases hl:st.op.getLast? with
 | some x=>rw [hl] at h;cases h
 | none=>
  rw [hl] at h;simp only at h ⊢;cases hf:st.cs.find? (BY (scLabels st.cs)) with
  | some c=>rw [hf] at h;cases h
  | none=>rfl
theorem XM {L:List UInt8} {k:Nat} (hk:k≤L.length):Aq L k≤L.length:=by
 have:∀ n k,k≤L.length→BC L n k≤L.length:=fun n=>by
  induction n with
  | zero=>exact fun k h=>h
  | succ n ih=>
   intro k h;rw [ER];split
   ·exact ih _ (Ms (Mt h))
   ·exact h
 exact this _ _ (Ms hk)
theorem ScI.go {r:RV} {n k:Nat} (h:ScI r n) (hk:k≤n):ScI (r.go k) n:=⟨h.ls,h.cs,h.ms,h.op,hk,h.fi⟩
theorem ScS.quiet {W w:World} {p mp:Nat} {q:Bool} {s:ByteArray} {ext:Bool} {r:RV} (h:ScS W p mp q s ext r w) (b:Bool):ScS W p mp b s ext r (w.setCell ⟨p,0,none⟩ (.bool b)):=⟨h.h.setp 0 _,h.b.set 0 _⟩
theorem Ri (W:World) (p mp:Nat) (q:Bool) (s:ByteArray) (ext:Bool) (r:RV) (w:World) (h:ScS W p mp q s ext r w) (hs:s.size≤4000) (hr:r.st=⟨0,[],[],[]⟩) (hl:r.ls=[]) (hG:Gl W) (hP:GP W) :
  Calls Tryz.prog 10 #[.pointer (some ⟨p,0,none⟩)] w (XF W p mp (Cw s.data.toList) s ext (JH ext s.data.toList)):=by
 have hI:ScI r s.size:=⟨by rw [hl,hr];rfl,by rw [hr];simp,by rw [hr];simp,by rw [hr];simp,by rw [hr];exact Nat.zero_le _,by rw [hr];simp⟩
 have hE:=fun r' wr (H:ScS W p mp (Cw s.data.toList) s ext r' wr) (I:ScI r' s.size)=>U2 W p mp _ s ext r' wr H I
 have hC:=fun r' wr (H:ScS W p mp (Cw s.data.toList) s ext r' wr) (I:ScI r' s.size)=>U1 W p mp _ s ext r' wr H hs I hG hP
 have hK:=fun r' wr (H:ScS W p mp (Cw s.data.toList) s ext r' wr) (I:ScI r' s.size)=>Rg W p mp _ s ext r' wr H hs I.k hG
 have hln:=Lw s 0 p w hs (Nat.zero_le _) (h.gl hG) h.b.lt h.t (by have:=h.k;rw [hr] at this;exact this);have hk0:r.st.k=0:=by rw [hr]
 unfold JH;obtain ⟨R,hR⟩:∃ R,BR ext s.data.toList 102 ⟨0,[],[],[]⟩=R:=⟨_,rfl⟩;rw [hR];rw [←hr] at hR;obtain ⟨T,hT⟩:∃ T,txt ((s.data.toList.drop 0).take (Dv s.data.toList 0))=T:=⟨_,rfl⟩;have hTl:T.toList=s.data.toList.take (Dv s.data.toList 0):=by rw [←hT,ByteArray.toList_eq];rfl
 rw [hT] at hln;obtain ⟨q2,hq2⟩:∃ q2,Cw s.data.toList=q2:=⟨_,rfl⟩;rw [hq2] at hE hC hK ⊢;have hqq:((T.toList == [35,110])=true∧q2=true)∨((T.toList == [35,110])=false∧q2=false):=by
  unfold Cw at hq2;rw [←hTl] at hq2;rw [hq2];cases q2
  ·exact .inr ⟨rfl,rfl⟩
  ·exact .inl ⟨rfl,rfl⟩
 have HH:=Ad5 h;have HI:=Ad5 hI;have HR:=Ad5 hR;clear h hI hR hT hTl hq2 hr hl hG hP hk0;go_enter Tryz.func10,Tryz.ntmps10;go_upto_region 1 with fail;go_cut [] (fun wx=>ScS W p mp q2 s ext r wx)
 case first=>
  rcases hqq with ⟨hq,rfl⟩ | ⟨hq,rfl⟩
  all_goals
   go_wp2_with (go_at_call 15;refine hln.mono ?_;clear hln;rintro e w1 ⟨rfl,b1⟩;have H1:=Ad5 (HH.out.step b1);have g0:w1.cell? ⟨p,0,none⟩=some (.bool q):=(H1.out.b.cell 0).trans rfl;have f0:=H1.out.b.frozen 0)
   go_meet;exact H1.out.quiet _
 case rest=>
  have hsk:=hK r wc hcut HI.out;clear hln hqq HH hcut;go_wp2_with (go_at_call 16;refine hsk.mono ?_;clear hsk;rintro e w2 ⟨rfl,h2⟩)
  have H2:=Ad5 h2;clear h2;go_loopg [] 102 (fun gk wr=>∃ r',ScS W p mp q2 s ext (r'.go (Aq s.data.toList r'.st.k)) wr∧ScI r' s.size∧BR ext s.data.toList gk r'.st=R∧102≤gk+r'.st.cs.length)
  case atStart=>exact ⟨r,H2.out,HI.out,HR.out,by omega⟩
  case round=>
   obtain ⟨r',hc,hi,hf,hgk⟩:=hrel;clear H2 HR HI;have hcs:=hi.cs;obtain ⟨m,rfl⟩:∃ m,gk=m+1:=⟨gk - 1,by omega⟩;have hkl:Aq s.data.toList r'.st.k≤s.size:=by
    have:=XM (L:=s.data.toList) (k:=r'.st.k) (by simpa using hi.k);simpa using this
   have hrm:=fun h=>XJ (ext:=ext) (L:=s.data.toList) (n:=m) (st:=r'.st) h
   have hrd:=fun h=>XK (ext:=ext) (L:=s.data.toList) (n:=m) (st:=r'.st) h
   rw [←Ad] at hrm hrd;have hi2:=hi.go hkl;have hst:(r'.go (Aq s.data.toList r'.st.k)).st=r'.st.go (Aq s.data.toList r'.st.k):=rfl;generalize Aq s.data.toList r'.st.k=K at *;have k2:=hc.t;have k4:wr.cell? ⟨p,4,none⟩=some (.int .i64 (K:Int)):=hc.k;have hC2:=hC _ _ hc.drew hi2;have hE2:=hE _ _ hc.drew hi2;rw [hst] at hC2 hE2;have HC:=Ad5 hc;have HB:=Ad5 hc.h.b0;have HI2:=Ad5 hi2;have HST:=Ad5 hst;clear hc hi hi2 hst;by_cases hlt:K < s.size
   ·have hli:(K:Int) < (s.size:Int):=by omega
    rw [hrm hlt] at hf;clear hrm hrd hE hE2 hlt hC;obtain ⟨A,hA⟩:∃ A,Cn ext s.data.toList (r'.st.go K)=A:=⟨_,rfl⟩;rw [hA] at hC2 hf;cases A with
    | error x=>
     obtain rfl:Except.error x=R:=hf;have ce:((x.1:Int) != 0)=true:=by simpa using OV hA
     clear hA hK;go_upto_region 3 with fail
     go_region_law (fail)
     all_goals
      go_wp2_with (go_at_call 17;refine hC2.mono ?_;clear hC2;rintro e w3 ⟨b3,rfl⟩)
      go_ret2
      exact ⟨b3,rfl⟩
    | ok st2=>
     replace hf:BR ext s.data.toList m st2=R:=hf;have HF:=Ad5 hf;have HL:=Ad5 (ZP hA);clear hA hf;go_upto_region 3 with fail
     go_region_law (fail)
     all_goals
      go_wp2_with (first
       | (go_at_call 17;refine hC2.mono ?_;clear hC2;rintro e w3 ⟨b3,rfl,r2,e2,i2,h2⟩;have H2:=Ad5 h2;have I2:=Ad5 i2;have E2:=Ad5 e2;clear e2 i2 h2)
       | (go_at_call 16;refine (hK r2 _ H2.out I2.out).mono ?_;rintro e w4 ⟨rfl,h4⟩))
      go_roundg m
      case rel=>exact ⟨r2,h4,I2.out,by rw [E2.out];exact HF.out,by rw [E2.out,HL.out];show 102≤m+(r'.st.cs.length+1);omega⟩
      case measure=>omega
   ·have hli:¬ (K:Int) < (s.size:Int):=by omega
    rw [hrd hlt] at hf;clear hrm hrd hC hC2 hlt hE hK;have HF:=Ad5 hf;clear hf;go_upto_region 3 with fail
    go_region_law (fail)
    all_goals
     go_wp2_with (go_at_call 18;refine hE2.mono ?_;clear hE2;rintro e w3 ⟨rfl,b3⟩)
     go_ret2
     have HB3:=HB.out.drew.trans (b3.mono HB.out.drew.size);rw [←HF.out];by_cases hz:(Dn (r'.st.go K)).1=0
     ·rw [show IJ (.ok (r'.st.go K))=.ok (r'.st.go K) by unfold IJ;simp only;rw [if_pos hz]];have he:=XL hz;rw [he];exact ⟨HB3,rfl,_,HST.out,HI2.out,HC.out.drew.step b3⟩
     ·rw [show IJ (.ok (r'.st.go K))=.error (Dn (r'.st.go K)) by unfold IJ;simp only;rw [if_neg hz]];exact ⟨HB3,rfl⟩
def r0V:RV:=⟨⟨0,[],[],[]⟩,[],[],none,0,none,0,none,0⟩
theorem ScS.init {W w2 w3:World} {z:Array Value} (s:ByteArray) (ext:Bool) (h2:W.alloc (.map #[] 0)=w2) (h3:w2.alloc (.cells z 53)=w3):ScS W w2.heap.size W.heap.size false s ext r0V (w3.setRow w2.heap.size (scC false (.slice none 0 0) s ext 0 (.slice none 0 0) (.slice none 0 0) (.map (some W.heap.size)))):=by
 have b2:=Ac h2;have b3:=Ac h3;have e2:w2.heap.size=W.heap.size+1:=by rw [←h2];exact World.size_alloc _ _
 have e3:w3.heap.size=w2.heap.size+1:=by rw [←h3];exact World.size_alloc _ _
 have q3:=Ae h3;refine ⟨⟨below_setRow (b2.trans (b3.mono b2.size)) b2.size _,b2.size,Aec _,by simp;omega,?_,rfl,World.ownsRow_nil _ _ _ _,World.ownsRow_nil _ _ _ _,World.ownsRow_nil _ _ _ _,?_,fun v hv=>by cases hv⟩,setRow_heap w3 _ _ _ _ _ q3⟩
 ·simp [Apart,RV.own,r0V,Value.ownBlock];omega
 ·have h0:LabAt w2 W.heap.size []:=by
   rw [←h2];exact ⟨0,.map [],Aec _,World.ownsMap_made _ _ _ _,fun x=>by simp [DataW.atKey]⟩
  exact h0.same ((setRow_other w3 _ _ _ (by omega)).trans (b3.block _ (by omega)))
theorem Aal {ext:Bool} {L:List UInt8} {q:Nat × Nat} (h:JH ext L=.error q):q.1≠0:=by
 unfold JH at h;have hrun:∀ (n:Nat) (st:SS) (q:Nat × Nat),BR ext L n st=.error q→q.1≠0:=fun n=>by
  induction n with
  | zero=>intro st q h;cases h
  | succ n ih=>
   intro st q h;unfold BR at h;split at h
   ·split at h
    ·rename_i hc;injection h with h;rw [←h];exact OV hc
    ·exact ih _ _ h
   ·cases h
 cases hR:BR ext L 102 ⟨0,[],[],[]⟩ with
 | error x=>rw [hR] at h;injection h with h;rw [←h];exact hrun _ _ _ hR
 | ok st=>
  rw [hR] at h;unfold IJ at h;simp only at h;split at h
  ·cases h
  ·rename_i hn;injection h with h;rw [←h];exact hn
theorem KE {tmps:Array Value} {W:World} {r:Nat} {cs:Array Value} {v7 v8 v9:Value} (h6:tmps.getD 4 undef=.pointer (some ⟨r,0,none⟩)) (h7:tmps.getD 5 undef=v7) (h8:tmps.getD 6 undef=v8) (h9:tmps.getD 7 undef=v9) (hl:(loadVar 25 ⟨r,0,none⟩).run Tryz.prog W=.ok (.agg cs) W) :
  (results Tryz.f7 tmps).run Tryz.prog W=.ok (.tuple #[.agg cs,v7,v8,v9]) W:=by
 have ha:(asAddr (.pointer (some ⟨r,0,none⟩))).run Tryz.prog W=.ok ⟨r,0,none⟩ W:=rfl;simp only [Array.getD_eq_getD_getElem?] at h6 h7 h8 h9;unfold results;rw [Tryz.results7];simp [Sem.run_bind,h6,h7,h8,h9,hl,ha]
def XN (w:World) (ext:Bool) (L:List UInt8) (e:Ending) (w':World):Prop:=Below w.heap.size w w'∧match JH ext L with
 | .error x=>e=.returned (.tuple #[.agg #[.bool false,.slice none 0 0],.slice none 0 0,.int .i64 (x.2:Int),.int .i64 (x.1:Int)])
 | .ok st=>∃ vs ca cc ma mc,e=.returned (.tuple #[.agg #[.bool (Cw L),.slice ca vs.length cc],.slice ma st.ms.length mc,.int .i64 0,.int .i64 0])∧vs.map (·.c)=st.cs∧CRow w' ca vs∧(∀ v∈vs,v.ok (fun b=>b < w'.heap.size) w')∧(∀ c∈st.cs,CFine c)∧st.cs.length≤100∧st.ms.length≤90000∧
  w'.ownsRow w.heap.size 33 2 (.slice ma st.ms.length mc) st.ms.length (wmC st.ms)
theorem D9 (s:ByteArray) (ext:Bool) (w:World) (hs:s.size≤4000) (hG:Gl w) (hP:GP w) :
  Calls Tryz.prog 7 #[.string s,.bool ext] w (XN w ext s.data.toList):=by
 obtain ⟨W,hW⟩:∃ W,w.alloc (.cells #[.bool false,.slice none 0 0] 25)=W:=⟨_,rfl⟩;have HA:=Ad5 (Ac hW);have HR0:=Ad5 (Ae hW);have HG:=Ad5 (hG.up HA.out);have HP:=Ad5 (hP.up HA.out);have hsz:¬ (4000:Int) < (s.size:Int):=by omega
 clear hG hP;go_enter Tryz.func7,Tryz.ntmps7;have hmm:=@run_makeMap Tryz.prog;go_upto_region 3 with fail;refine wp_region_list ?_
 iterate 2 (refine wpList_plain rfl (fun K hK=>?_);go_simp;refine hK _ _ ?_;clear hK K;(try simp only [Ad9,Ad8,Ad7,Act.put,Ad6,Aea,Aeb]))
 refine wpList_plain rfl (fun K hK=>?_);go_simp;generalize hM:World.alloc _ _=w2;refine hK _ _ ?_;clear hK K
 (try simp only [Ad9,Ad8,Ad7,Act.put,Ad6,Aea,Aeb])
 refine wpList_build rfl 53 _ rfl (by kernel_rfl) ?_;generalize hB:Option.getD _ #[]=B;have hB2:B=scC false (.slice none 0 0) s ext 0 (.slice none 0 0) (.slice none 0 0) (.map (some (World.heap W).size)):=by rw [←hB];kernel_rfl
 subst hB2;clear hB
 (try simp only [Ad9,Ad8,Ad7,Act.put,Ad6,Aea,Aeb])
 refine wpList_plain rfl (fun K hK=>?_);go_simp;generalize hA:World.alloc _ _=w3;refine hK _ _ ?_;clear hK K
 (try simp only [Ad9,Ad8,Ad7,Act.put,Ad6,Aea,Aeb])
 refine wpList_store_row rfl 53 _ _ rfl (World.heap w2).size (scC false (.slice none 0 0) s ext 0 (.slice none 0 0) (.slice none 0 0) (.map (some (World.heap W).size))) rfl rfl 53 _ (Ae hA) (by kernel_rfl) rfl (by kernel_rfl) ?_
 (try simp only [Ad9,Ad8,Ad7,Act.put,Ad6,Aea,Aeb])
 refine wpList_nil ?_;have H4:=Ad5 (ScS.init s ext hM hA);generalize w3.setRow _ _=w4 at H4 ⊢;obtain ⟨p,hp⟩:∃ p,(World.heap w2).size=p:=⟨_,rfl⟩;rw [hp] at H4 ⊢;have hread:=Ri W p (World.heap W).size false s ext r0V w4 H4.out hs rfl rfl HG.out HP.out;obtain ⟨R,hRR⟩:∃ R,JH ext s.data.toList=R:=⟨_,rfl⟩;obtain ⟨q,hq⟩:∃ q,Cw s.data.toList=q:=⟨_,rfl⟩;rw [hRR,hq] at hread;have HR:=Ad5 hRR;have HQ:=Ad5 hq;have HW:=Ad5 (show w.heap.size < W.heap.size from HR0.out.lt);clear hW hM hA hp hRR hq hmm;obtain ⟨g,hg⟩:∃ g,(World.heap w).size=g:=⟨_,rfl⟩;have HG0:=Ad5 hg;rw [hg] at HR0 HW ⊢;clear hg;have hx:∀ w5,Below W.heap.size W w5→Blk w5 g #[.bool false,.slice none 0 0] 25:=fun w5 b5=>HR0.out.below b5 HW.out
 cases R with
 | error x=>
  have ce:((x.1:Int) != 0)=true:=by simpa using Aal HR.out
  go_upto_region 6 with (go_at_call 10;refine hread.mono ?_;clear hread;rintro e w5 ⟨b5,rfl⟩)
  have q5:=hx w5 b5;have k0:w5.cell? ⟨g,0,none⟩=some (.bool false):=(q5.cell 0).trans rfl;have k1:w5.cell? ⟨g,1,none⟩=some (.slice none 0 0):=(q5.cell 1).trans rfl;have f0:=q5.frozen 0;have f1:=q5.frozen 1;go_wp2_with fail
  have q6:=(q5.set 0 (.bool false)).set 1 (.slice none 0 0);have hl:=run_loadVar_row (P:=Tryz.prog) _ g 25 25 #[.bool false,.slice none 0 0] _ _ q6 Tryz.underlying25 rfl (by kernel_rfl);refine bodyPost_ret (KE rfl rfl rfl rfl hl) rfl ?_;unfold XN;rw [HR.out];exact ⟨((HA.out.trans (b5.mono HA.out.size)).setCell (p:=⟨g,0,none⟩) (Nat.le_of_eq HG0.out) _).setCell (p:=⟨g,1,none⟩) (Nat.le_of_eq HG0.out) _,rfl⟩
 | ok st=>
  have hmix:Tryz.prog.follows .mixedOrders=true:=by kernel_rfl
  go_upto_region 7 with (go_at_call 10;refine hread.mono ?_;clear hread;rintro e w5 ⟨b5,rfl,r,e5,i5,h5⟩)
  have q5:=hx w5 b5;have hpg:g≠p:=by have:=h5.h.pB;have:=HW.out;omega
  have H5:=Ad5 h5;have hq5:=h5.b;refine wp_region_held_drew (S:=fun W':World=>Blk W' p (scC q r.cv s ext r.st.k r.mv r.ov (.map (some (World.heap W).size))) 53) hmix h5.b (fun hHeld=>?_);refine AE 0 ?_ rfl (by assumption) (Or.inl ⟨by rfl,?_⟩) ?_;rotate_left;(focus (intro W' hSw;(try go_simp);try with_reducible rfl));(try simp only [Ad9,Ad8,Ad7,Act.put,Ad6,Aea,Aeb]);refine AE 1 (.agg #[.bool q,r.cv]) rfl hHeld (Or.inl ⟨by rfl,fun W' hSw=>Gy 25 _ rfl p 0 2 rfl hSw Tryz.underlying25 (by kernel_rfl)⟩) ?_
  (try simp only [Ad9,Ad8,Ad7,Act.put,Ad6,Aea,Aeb])
  refine AE 2 ?_ rfl (by assumption) (Or.inl ⟨by rfl,?_⟩) ?_;rotate_left;(focus (intro W' hSw;(try go_simp);try with_reducible rfl));(try simp only [Ad9,Ad8,Ad7,Act.put,Ad6,Aea,Aeb]);refine AE 3 ?_ rfl (by assumption) (Or.inl ⟨by rfl,?_⟩) ?_;rotate_left;(focus (intro W' hSw;(have c5:W'.cell? ⟨p,5,none⟩=some r.mv:=(hSw.cell 5).trans rfl);clear hSw;(try go_simp);try with_reducible rfl));(try simp only [Ad9,Ad8,Ad7,Act.put,Ad6,Aea,Aeb]);have q6:Blk w5.drew g #[.bool false,.slice none 0 0] 25:=q5.drew;have b6:Below W.heap.size W w5.drew:=b5.drew;have H6:=Ad5 (H5.out.drew);generalize w5.drew=v5 at hHeld q6 b6 H6 ⊢;clear hq5 h5 q5 b5;have k0:v5.cell? ⟨g,0,none⟩=some (.bool false):=(q6.cell 0).trans rfl;have k1:v5.cell? ⟨g,1,none⟩=some (.slice none 0 0):=(q6.cell 1).trans rfl;have f0:=q6.frozen 0;have f1:=q6.frozen 1;refine wpAnyH_ready (rs:=[4]) (by decide +kernel) (by simp) (AllReadyH.cons rfl (fun K hK=>?_) AllReadyH.nil);go_simp;refine hK.out _ _ (Blk.set_other (Blk.set_other hHeld ⟨g,0,none⟩ hpg _) ⟨g,1,none⟩ hpg _) (fun hHeld=>?_);clear hK K
  (try simp only [Ad9,Ad8,Ad7,Act.put,Ad6,Aea,Aeb])
  refine AE 5 ?_ rfl (by assumption) (Or.inl ⟨by rfl,?_⟩) ?_;rotate_left;(focus (intro W' hSw;(try go_simp);try with_reducible rfl));(try simp only [Ad9,Ad8,Ad7,Act.put,Ad6,Aea,Aeb]);refine AE 6 ?_ rfl (by assumption) (Or.inl ⟨by rfl,?_⟩) ?_;rotate_left;(focus (intro W' hSw;(try go_simp);try with_reducible rfl));(try simp only [Ad9,Ad8,Ad7,Act.put,Ad6,Aea,Aeb]);refine AE 7 ?_ rfl (by assumption) (Or.inl ⟨by rfl,?_⟩) ?_;rotate_left;(focus (intro W' hSw;(try go_simp);try with_reducible rfl));(try simp only [Ad9,Ad8,Ad7,Act.put,Ad6,Aea,Aeb]);refine wpAnyH_done (by kernel_rfl) ?_ _
  (try go_wp2_with fail)
  have q7:=(q6.set 0 (.bool q)).set 1 r.cv;have hl:=run_loadVar_row (P:=Tryz.prog) _ g 25 25 #[.bool q,r.cv] _ _ q7 Tryz.underlying25 rfl (by kernel_rfl);refine bodyPost_ret (KE rfl rfl rfl rfl hl) rfl ?_;unfold XN;rw [HR.out,HQ.out];have hgw:=HW.out;have oo:∀ b,W.heap.size≤b→((v5.setCell ⟨g,0,none⟩ (.bool q)).setCell ⟨g,1,none⟩ r.cv).heap[b]?=v5.heap[b]?:=fun b hb=>by
   rw [Aei _ _ _ _ (show b≠g by omega),Aei _ _ _ _ (show b≠g by omega)]
  have hwW:=HA.out.size;refine ⟨((HA.out.trans (b6.mono HA.out.size)).setCell (p:=⟨g,0,none⟩) (Nat.le_of_eq HG0.out) _).setCell (p:=⟨g,1,none⟩) (Nat.le_of_eq HG0.out) _,r.vs,r.ca,r.cc,r.ma,r.mc,by rw [←e5];rfl,by rw [H6.out.h.cs,e5],KD (Aa H6.out.h.cr fun b hb=>oo b (AL H6.out.h.cr b hb)),fun v hv=>(H6.out.h.ok v hv).keep (by simp [World.setCell]) (fun b hb hl=>⟨by simpa [World.setCell] using hl,oo b hb.1⟩),?_,?_,?_,?_⟩
  ·rw [←e5];exact i5.fi
  ·rw [←e5];exact i5.cs
  ·rw [←e5];have:=i5.ms;have:=i5.cs;omega
  ·rw [←e5];exact BS hwW (Aa H6.out.h.mr fun b hb=>oo b (AL H6.out.h.mr b hb))
theorem Rj (q:Bool) (va vb:List CV) (ca cb:Option Addr) (oa ob:Nat) (w:World) (hlen:va.length=vb.length) (hn:va.length≤1000) (hc:∀ i (h:i < va.length) (h2:i < vb.length),Sp va[i].c vb[i].c) (hf:∀ v∈va,CFine v.c) (ka:∀ v∈va,v.ok (fun b=>b < w.heap.size) w) (kb:∀ v∈vb,v.ok (fun b=>b < w.heap.size) w) (ra:CRow w ca va) (rb:CRow w cb vb) :
  Calls Tryz.prog 8 #[.agg #[.bool q,.slice ca va.length oa],.agg #[.bool q,.slice cb vb.length ob]] w fun e w'=>e=.returned (.bool true)∧Below w.heap.size w w':=by
 have hE:=fun w1 (b1:Below w.heap.size w w1)=>XD va vb ca cb oa ob w1 hlen hn hc hf (fun v hv=>OQ b1 (ka v hv)) (fun v hv=>OQ b1 (kb v hv)) (ra.below b1) (rb.below b1)
 clear hlen hn hc hf ka kb ra rb;go_enter Tryz.func8,Tryz.ntmps8;go_upto_region 1 with fail;generalize hW1:w.alloc _=W1;generalize hW2:W1.alloc _=W2;have hX:=(Ae hW1).below (Ac hW2) (Ae hW1).lt;have hY:=Ae hW2;have B2:=Ad5 ((Ac hW1).trans ((Ac hW2).mono (Ac hW1).size));have hp:W1.heap.size=w.heap.size+1:=by rw [←hW1];exact World.size_alloc _ _
 rw [hp] at hY;clear hp;generalize w.heap.size+1=p at hY ⊢;obtain ⟨g,hg⟩:∃ g,w.heap.size=g:=⟨_,rfl⟩;have HG:=Ad5 hg;rw [hg] at hX ⊢;have x0:W2.cell? ⟨g,0,none⟩=some (.bool q):=(hX.cell 0).trans rfl;have x1:W2.cell? ⟨g,1,none⟩=some (.slice ca va.length oa):=(hX.cell 1).trans rfl;have y0:W2.cell? ⟨p,0,none⟩=some (.bool q):=(hY.cell 0).trans rfl;have y1:W2.cell? ⟨p,1,none⟩=some (.slice cb vb.length ob):=(hY.cell 1).trans rfl;have qq:(q == q)=true:=by simp
 clear hW1 hW2 hX hY hg;go_wp2_with (go_at_call 11;refine (hE _ B2.out).mono ?_;clear hE;rintro e w3 ⟨rfl,b3⟩)
 go_ret;rw [←HG.out];exact ⟨rfl,B2.out.trans (b3.mono B2.out.size)⟩
def E8 (x:List UInt8) (c:Cmd):Bool:=c.name == 58 && c.arg == x
def KF (cs:List Cmd) (x:List UInt8):Int:=match cs.findIdx? (E8 x) with
 | some i=>(i:Int)
 | none=>-1
theorem ZQ (a b:List UInt8):((txt a).toList == (txt b).toList)=(a == b):=by
 rw [ByteArray.toList_eq,ByteArray.toList_eq];rfl
theorem Rk (c:Cmd) (ta tb ts pv:Value) (x:List UInt8) (g:Nat) (w:World) (hg:w.cell? ⟨g,0,none⟩=some (.string (txt x))):Calls Tryz.prog 14 #[.agg (ED c ta tb ts pv),.pointer (some ⟨g,0,none⟩)] w fun e w'=>e=.returned (.bool (E8 x c))∧Below w.heap.size w w':=by
 unfold ED;have hgl:=World.block_lt_of_cell? w ⟨g,0,none⟩ hg;by_cases h1:c.name=58
 ·have q1:((c.name.toNat:Int) == 58)=true:=by rw [h1];rfl
  have he:=ZQ c.arg x;rw [show E8 x c=(c.arg == x) by unfold E8;rw [h1];rfl];generalize (c.arg == x)=B at he ⊢;clear h1;go_enter Tryz.func14,Tryz.ntmps14;go_upto_region 1 with fail;generalize hW1:w.alloc _=W1;have hb:=Ac hW1;have g1:W1.cell? ⟨g,0,none⟩=some (.string (txt x)):=(hb.cell (p:=⟨g,0,none⟩) hgl).trans hg;have B1:=Ad5 hb;obtain ⟨x0,x10,x11⟩:=GJ (c:=c) (ta:=ta) (tb:=tb) (ts:=ts) (pv:=pv) (Ae hW1);clear hW1 hb;go_wp2_with fail
  go_ret;exact ⟨rfl,B1.out⟩
 ·have q1:((c.name.toNat:Int) == 58)=false:=FW (b:=58) h1;rw [show E8 x c=false by unfold E8;simp [h1]];clear h1;go_enter Tryz.func14,Tryz.ntmps14;go_upto_region 1 with fail;generalize hW1:w.alloc _=W1;have B1:=Ad5 (Ac hW1);obtain ⟨x0,x10,x11⟩:=GJ (c:=c) (ta:=ta) (tb:=tb) (ts:=ts) (pv:=pv) (Ae hW1);clear hW1;go_wp2_with fail
  go_ret;exact ⟨rfl,B1.out⟩
theorem U3 (vs:List CV) (ca:Option Addr) (oa:Nat) (x:List UInt8) (g:Nat) (w:World) (hn:vs.length≤1000) (hg:w.cell? ⟨g,0,none⟩=some (.string (txt x))) (ra:CRow w ca vs) :
  Calls Tryz.prog 13 #[.slice ca vs.length oa,.func (.func 14) #[] #[.pointer (some ⟨g,0,none⟩)]] w fun e w'=>e=.returned (.int .i64 (KF (vs.map (·.c)) x))∧Below w.heap.size w w':=by
 obtain ⟨n,hv⟩:∃ n,vs.length=n:=⟨_,rfl⟩;have hgl:=World.block_lt_of_cell? w ⟨g,0,none⟩ hg;have hS:=fun (i:Nat) (h:i < vs.length) W (hB:Below w.heap.size w W)=>Rk vs[i].c vs[i].ta vs[i].tb vs[i].ts (.slice vs[i].pa vs[i].c.sub.parts.length vs[i].pc) x g W ((hB.cell (p:=⟨g,0,none⟩) hgl).trans hg)
 obtain ⟨A,hA⟩:∃ A,KF (vs.map (·.c)) x=A:=⟨_,rfl⟩;rw [hA];have HS:=Ad5 hS;have RA:=Ad5 ra;have HV:=Ad5 hv;have HA:=Ad5 hA;rw [hv] at hn ⊢;clear hS ra hv hA hg hgl;go_enter Tryz.func13,Tryz.ntmps13;go_upto_region 2 with fail;go_loopw [8] (fun i wr=>∃ j:Nat,j≤n∧i=.int .i64 j∧Below w.heap.size w wr∧(vs.map (·.c)).findIdx? (E8 x)=(((vs.map (·.c)).drop j).findIdx? (E8 x)).map (·+j)) (fun i _=>n - (intOf i).toNat)
 case atStart=>exact ⟨0,by omega,rfl,Aeh _ _,by simp⟩
 case round=>
  obtain ⟨j,hj,rfl,hb,hfind⟩:=hrel;have HB:=Ad5 hb;have HF:=Ad5 hfind;clear hb hfind;by_cases hlt:j < n
  ·have hji:(j:Int) < (n:Int):=by omega
   have hy0:(0:Int)≤(j:Int):=by omega
   have Wj:IntKind.i64.wrap ((j:Int)+1)=(j:Int)+1:=Aej _ (by omega);have j1:j < vs.length:=by rw [HV.out];exact hlt
   obtain ⟨g1,rfl,_,hc1⟩:=(RA.out.below HB.out) (by omega);have r1:=hc1 j j1;have hS:=HS.out j j1 wr HB.out;have HD:=Ad5 (show (vs.map (·.c)).drop j=vs[j].c :: (vs.map (·.c)).drop (j+1) by rw [List.drop_eq_getElem_cons (show j < (vs.map (·.c)).length by rw [List.length_map];exact j1),List.getElem_map]);clear hc1;generalize vs[j]=y at r1 hS HD;obtain ⟨L,hL⟩:∃ L,E8 x y.c=L:=⟨_,rfl⟩;rw [hL] at hS;have HLL:=Ad5 hL;clear hL;go_upto_region 4 with fail;refine wp_region_list ?_
   iterate 4 (refine wpList_plain rfl (fun K hK=>?_);go_simp;refine hK _ _ ?_;clear hK K;(try simp only [Ad9,Ad8,Ad7,Act.put,Ad6,Aea,Aeb]))
   refine wpList_load_mid rfl 47 _ rfl g1 (j * 20) (by simp [Act.eval]) y.cells.toList _ r1 Tryz.underlying47 rfl (by kernel_rfl) ?_;rw [Array.toArray_toList]
   (try simp only [Ad9,Ad8,Ad7,Act.put,Ad6,Aea,Aeb])
   refine wpList_plain rfl (fun K hK=>?_);go_simp
   go_at_call 14
   refine hS.mono ?_;clear hS;rintro e w3 ⟨rfl,b3⟩;refine hK _ _ ?_;clear hK K
   (try simp only [Ad9,Ad8,Ad7,Act.put,Ad6,Aea,Aeb])
   refine wpList_nil ?_;have B3:=Ad5 (HB.out.trans (b3.mono HB.out.size));clear b3;cases L with
   | true=>
    have HZ:=Ad5 (show A=(j:Int) by rw [←HA.out];unfold KF;rw [HF.out,HD.out,List.findIdx?_cons,if_pos HLL.out];simp);go_wp2_with fail
    go_ret;rw [HZ.out];exact ⟨rfl,B3.out⟩
   | false=>
    go_wp2_with fail
    go_roundw
    case rel=>exact ⟨j+1,by omega,by go_num,B3.out,by
     rw [HF.out,HD.out,List.findIdx?_cons,if_neg (by rw [HLL.out];decide),Option.map_map]
     congr 1
     funext i
     show i+1+j=i+(j+1);omega⟩
    case measure=>simp [intOf];omega
  ·obtain rfl:j=n:=by omega
   have HZ:=Ad5 (show A=-1 by
    rw [←HA.out];unfold KF;rw [HF.out,List.drop_of_length_le (by rw [List.length_map];exact Nat.le_of_eq HV.out)];rfl)
   go_wp2_with fail
   go_ret;rw [HZ.out];exact ⟨rfl,HB.out⟩
theorem IU (q:Bool) (vs:List CV) (ca:Option Addr) (oa:Nat) (x:List UInt8) (w:World) (hn:vs.length≤1000) (ra:CRow w ca vs) :
  Calls Tryz.prog 9 #[.agg #[.bool q,.slice ca vs.length oa],.string (txt x)] w fun e w'=>e=.returned (.int .i64 (KF (vs.map (·.c)) x))∧Below w.heap.size w w':=by
 have hI:=fun w1 g (b1:Below w.heap.size w w1) (hg:w1.cell? ⟨g,0,none⟩=some (.string (txt x)))=>U3 vs ca oa x g w1 hn hg (ra.below b1)
 clear hn ra;go_enter Tryz.func9,Tryz.ntmps9;go_upto_region 1 with fail;generalize hW1:w.alloc _=W1;generalize hW2:W1.alloc _=W2;have hX:=(Ae hW1).below (Ac hW2) (Ae hW1).lt;have hY:=Ae hW2;have B2:=Ad5 ((Ac hW1).trans ((Ac hW2).mono (Ac hW1).size));have hp:W1.heap.size=w.heap.size+1:=by rw [←hW1];exact World.size_alloc _ _
 rw [hp] at hY;clear hp;generalize w.heap.size+1=p at hY ⊢;obtain ⟨g,hg⟩:∃ g,w.heap.size=g:=⟨_,rfl⟩;have HG:=Ad5 hg;rw [hg] at hX ⊢;have x1:W2.cell? ⟨g,1,none⟩=some (.slice ca vs.length oa):=(hX.cell 1).trans rfl;have y0:W2.cell? ⟨p,0,none⟩=some (.string (txt x)):=(hY.cell 0).trans rfl;have hI2:=hI W2 p B2.out y0;clear hW1 hW2 hX hY hg hI;go_wp2_with (go_at_call 13;refine hI2.mono ?_;clear hI2;rintro e w3 ⟨rfl,b3⟩)
 go_ret;rw [←HG.out];exact ⟨rfl,B2.out.trans (b3.mono B2.out.size)⟩
theorem IB {w1 wy:World} {cs:Array Value} (hA:w1.alloc (.cells #[.bool false,.slice none 0 0] 25)=wy):Below w1.heap.size w1 (wy.setRow w1.heap.size cs)∧Blk (wy.setRow w1.heap.size cs) w1.heap.size cs 25:=
 ⟨below_setRow (Ac hA) (Aec _) _,setRow_heap wy _ _ _ _ _ (Ae hA)⟩
theorem ZR:JH false RO=.error (16,6):=by
 have h:=Abo;cases hR:JH false RO with
 | error q=>rw [hR] at h;rw [show q=(16,6) from h]
 | ok st=>rw [hR] at h;cases h
theorem ZS:∃ st,JH false Lu=.ok st∧st.cs.length=5∧KF st.cs [120]=4:=by
 have h:=Abp;have h2:=Abq;cases hR:JH false Lu with
 | error q=>rw [hR] at h;cases h
 | ok st=>
  rw [hR] at h h2;simp only [RP,V9] at h h2;refine ⟨st,rfl,by have:=congrArg List.length h;simpa using this,?_⟩;generalize st.cs=cs at h h2 ⊢;rcases cs with _ | ⟨c0,_ | ⟨c1,_ | ⟨c2,_ | ⟨c3,_ | ⟨c4,_ | ⟨c5,l⟩⟩⟩⟩⟩⟩
  all_goals simp only [List.map_cons,List.map_nil,List.cons.injEq,and_true,reduceCtorEq,and_false] at h h2
  obtain ⟨n0,n1,n2,n3,n4⟩:=h;obtain ⟨a0,a1,a2,a3,a4⟩:=h2;unfold KF E8;simp [List.findIdx?_cons,n0,n1,n2,n3,n4,a4]
theorem IV (w:World) (hG:Gl w) (hP:GP w):Calls Tryz.prog 6 #[] w fun e w'=>e=.returned (.bool true)∧Below w.heap.size w w':=by
 have hA:=D9 ⟨#[35,110,10,47,97,47,123,112,59,98,32,120,125]⟩ false w (by decide) hG hP;have hB:=fun w1 (b1:Below w.heap.size w w1)=>D9 ⟨#[35,110,10,47,97,47,123,112,59,98,32,120,10,125,10,58,120]⟩ false w1 (by decide) (hG.up b1) (hP.up b1)
 rw [show (⟨#[35,110,10,47,97,47,123,112,59,98,32,120,125]⟩:ByteArray).data.toList=RO from rfl] at hA;rw [show (⟨#[35,110,10,47,97,47,123,112,59,98,32,120,10,125,10,58,120]⟩:ByteArray).data.toList=Lu from rfl] at hB;obtain ⟨st,he,h5,hL⟩:=ZS;unfold XN at hA hB;rw [ZR] at hA;rw [he,Abr] at hB;simp only at hA hB;have H5:=Ad5 h5;have HL:=Ad5 hL;clear he h5 hL hG hP;go_enter Tryz.func6,Tryz.ntmps6;go_upto_region 1 with fail;refine wp_region_list ?_;refine wpList_plain rfl (fun K hK=>?_);go_simp;go_at_call 7;refine hA.mono ?_;clear hA;rintro e w1 ⟨b1,rfl⟩;refine hK _ _ ?_;clear hK K;(try simp only [Ad9,Ad8,Ad7,Act.put,Ad6,Aea,Aeb])
 iterate 5 (refine wpList_plain rfl (fun K hK=>?_);go_simp;refine hK _ _ ?_;clear hK K;(try simp only [Ad9,Ad8,Ad7,Act.put,Ad6,Aea,Aeb]))
 refine wpList_plain rfl (fun K hK=>?_);go_simp;generalize hA:(w1).alloc _=wy;refine hK _ _ ?_;clear hK K;(try simp only [Ad9,Ad8,Ad7,Act.put,Ad6,Aea,Aeb]);refine wpList_store_row rfl 25 _ _ rfl (World.heap w1).size (#[.bool false,.slice none 0 0]) rfl rfl 25 #[.bool false,.slice none 0 0] (Ae hA) (by kernel_rfl) rfl ((by kernel_rfl)) ?_;(try simp only [Ad9,Ad8,Ad7,Act.put,Ad6,Aea,Aeb]);have hbx:=IB (cs:=#[.bool false,.slice none 0 0]) hA;generalize wy.setRow (World.heap w1).size _=w2 at hbx ⊢;clear hA
 iterate 3 (refine wpList_plain rfl (fun K hK=>?_);go_simp;refine hK _ _ ?_;clear hK K;(try simp only [Ad9,Ad8,Ad7,Act.put,Ad6,Aea,Aeb]))
 refine wpList_nil ?_;obtain ⟨b2,_⟩:=hbx;have B2:=Ad5 (b1.trans (b2.mono b1.size));have hB2:=hB w2 B2.out;clear b1 b2 hB;go_upto_region 2 with fail;refine wp_region_list ?_;refine wpList_plain rfl (fun K hK=>?_);go_simp;go_at_call 7;refine hB2.mono ?_;clear hB2;rintro e w3 ⟨b3,vs,ca,cc,ma,mc,rfl,hcs,hra,hok,_⟩;refine hK _ _ ?_;clear hK K;(try simp only [Ad9,Ad8,Ad7,Act.put,Ad6,Aea,Aeb])
 iterate 5 (refine wpList_plain rfl (fun K hK=>?_);go_simp;refine hK _ _ ?_;clear hK K;(try simp only [Ad9,Ad8,Ad7,Act.put,Ad6,Aea,Aeb]))
 refine wpList_plain rfl (fun K hK=>?_);go_simp;generalize hA:(w3).alloc _=wy;refine hK _ _ ?_;clear hK K;(try simp only [Ad9,Ad8,Ad7,Act.put,Ad6,Aea,Aeb]);refine wpList_store_row rfl 25 _ _ rfl (World.heap w3).size (#[.bool true,.slice ca vs.length cc]) rfl rfl 25 #[.bool false,.slice none 0 0] (Ae hA) (by kernel_rfl) rfl ((by kernel_rfl)) ?_;(try simp only [Ad9,Ad8,Ad7,Act.put,Ad6,Aea,Aeb]);have hbx:=IB (cs:=#[.bool true,.slice ca vs.length cc]) hA;generalize wy.setRow (World.heap w3).size _=w4 at hbx ⊢;clear hA
 iterate 3 (refine wpList_plain rfl (fun K hK=>?_);go_simp;refine hK _ _ ?_;clear hK K;(try simp only [Ad9,Ad8,Ad7,Act.put,Ad6,Aea,Aeb]))
 refine wpList_nil ?_;obtain ⟨b4,q4⟩:=hbx;have hv5:vs.length=5:=by have:=H5.out;rw [←hcs,List.length_map] at this;exact this
 have B4:=Ad5 ((B2.out.trans (b3.mono B2.out.size)).trans (b4.mono (B2.out.trans (b3.mono B2.out.size)).size));have hlab:=IU true vs ca cc [120] w4 (by omega) (hra.below b4);rw [hcs,HL.out,show txt [120]=⟨#[120]⟩ from rfl] at hlab;obtain ⟨g,hg⟩:∃ g,w3.heap.size=g:=⟨_,rfl⟩;rw [hg] at q4 ⊢;rw [hv5] at q4 hlab ⊢;have k0:w4.cell? ⟨g,0,none⟩=some (.bool true):=(q4.cell 0).trans rfl;have k1:w4.cell? ⟨g,1,none⟩=some (.slice ca 5 cc):=(q4.cell 1).trans rfl;clear hra hok hcs hv5 q4 hg b3 b4;go_wp2_with (go_at_call 9;refine hlab.mono ?_;clear hlab;rintro e w5 ⟨rfl,b5⟩)
 go_ret;exact ⟨rfl,B4.out.trans (b5.mono B4.out.size)⟩
theorem ZT {va:List CV} {cs:List Cmd} (ha:va.map (·.c)=cs) (h:∀ c∈cs,CFine c):∀ v∈va,CFine v.c:=fun v hv=>h _ (by rw [←ha];exact List.mem_map_of_mem hv)
theorem Adx (s:ByteArray):(s.extract 0 2).toList=s.data.toList.take 2:=by
 rw [ByteArray.toList_eq];simp
structure ScOk (w':World) (st:SS) (vs:List CV) (ca:Option Addr):Prop where
 cs:vs.map (·.c)=st.cs
 r:CRow w' ca vs
 ok:∀ v∈vs,v.ok (fun b=>b < w'.heap.size) w'
 fi:∀ c∈st.cs,CFine c
 n:st.cs.length≤100
theorem ScOk.below {w w':World} {st:SS} {vs:List CV} {ca:Option Addr} (h:ScOk w st vs ca) (hb:Below w.heap.size w w'):ScOk w' st vs ca:=⟨h.cs,h.r.below hb,fun v hv=>OQ hb (h.ok v hv),h.fi,h.n⟩
theorem ScOk.len {w:World} {st:SS} {vs:List CV} {ca:Option Addr} (h:ScOk w st vs ca):vs.length=st.cs.length:=by rw [←h.cs,List.length_map]
theorem IC {w w':World} {ext:Bool} {L:List UInt8} {e:Ending} (h:XN w ext L e w'):∃ q ca n oa mv P E,e=.returned (.tuple #[.agg #[.bool q,.slice ca n oa],mv,.int .i64 P,.int .i64 (E:Nat)])∧((∃ p,JH ext L=.error (E,p)∧E≠0)∨(E=0∧∃ st vs,JH ext L=.ok st∧n=vs.length∧q=Cw L∧ScOk w' st vs ca)):=by
 obtain ⟨_,h⟩:=h;cases hR:JH ext L with
 | error x=>
  rw [hR] at h;exact ⟨false,none,0,0,_,_,x.1,h,.inl ⟨x.2,rfl,Aal hR⟩⟩
 | ok st=>
  rw [hR] at h;obtain ⟨vs,ca,cc,ma,mc,h,h1,h2,h3,h4,h5,_⟩:=h;exact ⟨_,ca,_,cc,_,_,0,h,.inr ⟨rfl,st,vs,rfl,rfl,rfl,h1,h2,h3,h4,h5⟩⟩
theorem ZU {cs:List Cmd} {x:List UInt8}:KF cs x < 0 ↔ x ∉ scLabels cs:=by
 unfold KF scLabels;constructor
 ·intro h hm;rw [List.mem_map] at hm;obtain ⟨c,hc,e⟩:=hm;rw [List.mem_filter] at hc;cases hf:cs.findIdx? (E8 x) with
  | some i=>rw [hf] at h;simp only at h;omega
  | none=>
   rw [List.findIdx?_eq_none_iff] at hf;have h9:=hf c hc.1;unfold E8 at h9;rw [hc.2,e] at h9;simp at h9
 ·intro h;have hf:cs.findIdx? (E8 x)=none:=by
   rw [List.findIdx?_eq_none_iff];intro c hc;unfold E8;cases h1:(c.name == 58) with
   | false=>rfl
   | true=>
    cases h2:(c.arg == x) with
    | false=>rfl
    | true=>exact absurd (List.mem_map.2 ⟨c,List.mem_filter.2 ⟨hc,h1⟩,by simpa using h2⟩) h
  rw [hf];decide
theorem Ss:∀ (vs:List CV) (j:Nat) (u:Value),(vs.flatMap fun v=>v.cells.toList)[j]?=some u→∃ h:j / 20 < vs.length,vs[j / 20].cells.toList[j % 20]?=some u
 | [],j,u,h=>by simp at h
 | x :: vs,j,u,h=>by
  rw [List.flatMap_cons] at h;by_cases hj:j < 20
  ·rw [List.getElem?_append_left (by rw [x.len];exact hj)] at h;have e0:j / 20=0:=by omega
   refine ⟨by rw [e0];exact Nat.succ_pos _,?_⟩;simp only [e0,Ad7];rw [Nat.mod_eq_of_lt hj];exact h
  ·rw [List.getElem?_append_right (by rw [x.len];omega),x.len] at h;obtain ⟨h1,h2⟩:=Ss vs (j - 20) u h;have e1:j / 20=(j - 20) / 20+1:=by omega
   have e2:j % 20=(j - 20) % 20:=by omega
   refine ⟨by rw [e1,List.length_cons];omega,?_⟩;simp only [e1,Ad8];rw [e2];exact h2
theorem LW {w:World} {a:Option Addr} {vs:List CV} (h:CRow w a vs):0 < vs.length→∃ ad,a=some ad∧∀ j u,(vs.flatMap fun v=>v.cells.toList)[j]?=some u→w.cell? (ad.add j)=some u:=fun h0=>by
 obtain ⟨g,ha,_,hc⟩:=h h0;refine ⟨_,ha,fun j u hj=>?_⟩;obtain ⟨h1,h2⟩:=Ss vs j u hj;have h9:=hc _ h1 _ _ h2;rw [show j / 20 * 20+j % 20=j by omega] at h9;by_cases hz:j=0
 ·subst hz;simpa [Addr.add] using h9
 ·simpa [Addr.add,hz] using h9
theorem St (vs:List CV):(vs.flatMap fun v=>v.cells.toList).length=vs.length * 20:=by
 induction vs with
 | nil=>rfl
 | cons x vs ih=>rw [List.flatMap_cons,Aee,ih,x.len,List.length_cons];omega
theorem Su {w:World} {F:Nat→Prop} {vs:List CV} (h:∀ v∈vs,v.ok F w):∀ u∈vs.flatMap fun v=>v.cells.toList,u.oneCell'=true:=fun u hu=>by
 obtain ⟨v,hv,hu⟩:=List.mem_flatMap.1 hu;exact LV (CV.one (h v hv)) u hu
theorem XO {vx va vb:List CV} {xs sa sb:List Cmd} {k:Nat} (hx:vx.map (·.c)=xs) (ha:va.map (·.c)=sa) (hb:vb.map (·.c)=sb) (h:xs=sa++sb.map (shC k)):vx.length=(va++vb).length∧∀ i (h:i < vx.length) (h2:i < (va++vb).length),Sp vx[i].c (va++vb)[i].c:=by
 subst hx ha hb;refine ⟨by have:=congrArg List.length h;simpa using this,fun i h1 h2=>?_⟩;have h9:(vx.map (·.c))[i]?=(va.map (·.c)++(vb.map (·.c)).map (shC k))[i]?:=by rw [h]
 rw [List.getElem?_map,List.getElem?_eq_getElem h1] at h9;by_cases hi:i < va.length
 ·rw [List.getElem?_append_left (by rw [List.length_map];exact hi),List.getElem?_map,List.getElem?_eq_getElem hi] at h9;simp only [Option.map_some,Option.some.injEq] at h9;rw [List.getElem_append_left hi,h9];exact ⟨va[i].c.pl,rfl⟩
 ·have hj:i - va.length < vb.length:=by rw [Aee] at h2;omega
  rw [List.getElem?_append_right (by rw [List.length_map];omega),List.length_map,List.getElem?_map,List.getElem?_map,List.getElem?_eq_getElem hj] at h9;simp only [Option.map_some,Option.some.injEq] at h9;rw [List.getElem_append_right (by omega),h9];exact ⟨vb[i - va.length].c.pl,rfl⟩
theorem ZV (s t:ByteArray) (w:World) (hG:Gl w) (hP:GP w) :
  Calls Tryz.prog 5 #[.string s,.string t] w fun e w'=>e=.returned (.bool true)∧Below w.heap.size w w':=by
 have hA:=IV w hG hP;have hA2:=fun w1 (b1:Below w.heap.size w w1)=>IV w1 (hG.up b1) (hP.up b1)
 have h2e:=Adx t;by_cases hs:(200:Int) < (s.size:Int)
 ·clear hG hP h2e;go_enter Tryz.func5,Tryz.ntmps5;go_wp2_with (first
   | (go_at_call 6;refine hA.mono ?_;clear hA;rintro e w1 ⟨rfl,b1⟩;have hA3:=hA2 w1 b1;clear hA2)
   | (go_at_call 6;refine hA3.mono ?_;clear hA3;rintro e w2 ⟨rfl,b2⟩))
  go_ret;exact ⟨rfl,b1.trans (b2.mono b1.size)⟩
 by_cases ht:(200:Int) < (t.size:Int)
 ·clear hG hP h2e;go_enter Tryz.func5,Tryz.ntmps5;go_wp2_with (first
   | (go_at_call 6;refine hA.mono ?_;clear hA;rintro e w1 ⟨rfl,b1⟩;have hA3:=hA2 w1 b1;clear hA2)
   | (go_at_call 6;refine hA3.mono ?_;clear hA3;rintro e w2 ⟨rfl,b2⟩))
  go_ret;exact ⟨rfl,b1.trans (b2.mono b1.size)⟩
 by_cases hq:(1:Int) < (t.size:Int)∧t.data.toList.take 2=[35,110]
 ·obtain ⟨hs1,hq⟩:=hq;have hs2:(2:Int)≤(t.size:Int):=by omega
  have hs3:2≤t.size:=by omega
  have heq:((t.extract 0 2).toList == [35,110])=true:=by rw [h2e,hq];rfl
  clear hG hP h2e hq;go_enter Tryz.func5,Tryz.ntmps5;go_wp2_with (first
   | (go_at_call 6;refine hA.mono ?_;clear hA;rintro e w1 ⟨rfl,b1⟩;have hA3:=hA2 w1 b1;clear hA2)
   | (go_at_call 6;refine hA3.mono ?_;clear hA3;rintro e w2 ⟨rfl,b2⟩))
  go_ret;exact ⟨rfl,b1.trans (b2.mono b1.size)⟩
 have hsz:s.size≤200:=by omega
 have htz:t.size≤200:=by omega
 have hno:t.data.toList.take 2≠[35,110]:=fun e=>hq ⟨by have h9:=congrArg List.length e;rw [List.length_take,←Ad] at h9;simp at h9;omega,e⟩
 have h22:(1:Int) < (t.size:Int)→((t.extract 0 2).toList == [35,110])=false:=fun _=>by rw [h2e];simpa using hno
 have hPa:=fun w1 (b1:Below w.heap.size w w1)=>D9 s false w1 (by omega) (hG.up b1) (hP.up b1)
 have hPb:=fun w1 (b1:Below w.heap.size w w1)=>D9 t false w1 (by omega) (hG.up b1) (hP.up b1)
 obtain ⟨S,hSS⟩:∃ S,(s++(⟨#[10]⟩:ByteArray))++t=S:=⟨_,rfl⟩;have hSl:S.data.toList=s.data.toList++10 :: t.data.toList:=by rw [←hSS];simp only [ByteArray.data_append,Array.toList_append];simp
 have hSz:S.size≤4000:=by rw [←hSS,ByteArray.size_append,ByteArray.size_append,show (ByteArray.mk #[10]).size=1 from rfl];omega
 have hPc:=fun w1 (b1:Below w.heap.size w w1)=>D9 S false w1 hSz (hG.up b1) (hP.up b1)
 rw [hSl] at hPc;have HSS:=Ad5 hSS;have HPA:=Ad5 hPa;have HPB:=Ad5 hPb;have HPC:=Ad5 hPc;have HSZ:=Ad5 (And.intro hsz htz);clear hG hP hA2 h2e hq hno hSl hSz hSS hPa hPb hPc;go_enter Tryz.func5,Tryz.ntmps5;go_upto_region 1 with fail;go_cut [41] (fun s41 wx=>s41=.bool false∧Below w.heap.size w wx)
 case first=>
  by_cases hs1:(1:Int) < (t.size:Int)
  ·have heq:=h22 hs1;have hs2:(2:Int)≤(t.size:Int):=by omega
   have hs3:2≤t.size:=by omega
   go_wp2_with (go_at_call 6;refine hA.mono ?_;clear hA;rintro e w1 ⟨rfl,b1⟩)
   go_meet;exact ⟨by first | rfl | simp;omega,b1⟩
  ·go_wp2_with (go_at_call 6;refine hA.mono ?_;clear hA;rintro e w1 ⟨rfl,b1⟩)
   go_meet;exact ⟨by first | rfl | simp;omega,b1⟩
 case rest=>
  obtain ⟨rfl,b1⟩:=hcut;have hPa1:=HPA.out wc b1;have B1:=Ad5 b1;clear h22 hA b1 hs ht hsz htz;go_upto_region 3 with fail;refine wp_region_list ?_;refine wpList_plain rfl (fun K hK=>?_);go_simp;refine hK _ _ ?_;clear hK K;(try simp only [Ad9,Ad8,Ad7,Act.put,Ad6,Aea,Aeb]);refine wpList_plain rfl (fun K hK=>?_);go_simp;go_at_call 7;refine hPa1.mono ?_;clear hPa1;rintro e w2 hea;have b2:=hea.1;obtain ⟨qa,ca,na,oa,mva,Pa,Ea,rfl,hra⟩:=IC hea;clear hea;refine hK _ _ ?_;clear hK K;(try simp only [Ad9,Ad8,Ad7,Act.put,Ad6,Aea,Aeb])
  iterate 5 (refine wpList_plain rfl (fun K hK=>?_);go_simp;refine hK _ _ ?_;clear hK K;(try simp only [Ad9,Ad8,Ad7,Act.put,Ad6,Aea,Aeb]))
  refine wpList_plain rfl (fun K hK=>?_);go_simp;generalize hA:(w2).alloc _=wy;refine hK _ _ ?_;clear hK K;(try simp only [Ad9,Ad8,Ad7,Act.put,Ad6,Aea,Aeb]);refine wpList_store_row rfl 25 _ _ rfl (World.heap w2).size (#[.bool qa,.slice ca na oa]) rfl rfl 25 #[.bool false,.slice none 0 0] (Ae hA) (by kernel_rfl) rfl ((by kernel_rfl)) ?_;(try simp only [Ad9,Ad8,Ad7,Act.put,Ad6,Aea,Aeb]);have hbx:=IB (cs:=#[.bool qa,.slice ca na oa]) hA;generalize wy.setRow (World.heap w2).size _=w3 at hbx ⊢;clear hA
  iterate 3 (refine wpList_plain rfl (fun K hK=>?_);go_simp;refine hK _ _ ?_;clear hK K;(try simp only [Ad9,Ad8,Ad7,Act.put,Ad6,Aea,Aeb]))
  refine wpList_nil ?_;obtain ⟨b3,q3⟩:=hbx;have B2:=B1.out.trans (b2.mono B1.out.size);have B3:=Ad5 (B2.trans (b3.mono B2.size));have hPb1:=HPB.out w3 B3.out;obtain ⟨ga,hga⟩:∃ ga,w2.heap.size=ga:=⟨_,rfl⟩;rw [hga] at q3 ⊢;have hgaw:w.heap.size≤ga:=by have:=B2.size;omega
  have HRA:=Ad5 hra;have HB23:=Ad5 b3;clear hra b2 b3 B2 hga;go_upto_region 4 with fail;refine wp_region_list ?_;refine wpList_plain rfl (fun K hK=>?_);go_simp;refine hK _ _ ?_;clear hK K;(try simp only [Ad9,Ad8,Ad7,Act.put,Ad6,Aea,Aeb]);refine wpList_plain rfl (fun K hK=>?_);go_simp;go_at_call 7;refine hPb1.mono ?_;clear hPb1;rintro e w4 heb;have b4:=heb.1;obtain ⟨qb,cb,nb,ob,mvb,Pb,Eb,rfl,hrb⟩:=IC heb;clear heb;refine hK _ _ ?_;clear hK K;(try simp only [Ad9,Ad8,Ad7,Act.put,Ad6,Aea,Aeb])
  iterate 5 (refine wpList_plain rfl (fun K hK=>?_);go_simp;refine hK _ _ ?_;clear hK K;(try simp only [Ad9,Ad8,Ad7,Act.put,Ad6,Aea,Aeb]))
  refine wpList_plain rfl (fun K hK=>?_);go_simp;generalize hA:(w4).alloc _=wy;refine hK _ _ ?_;clear hK K;(try simp only [Ad9,Ad8,Ad7,Act.put,Ad6,Aea,Aeb]);refine wpList_store_row rfl 25 _ _ rfl (World.heap w4).size (#[.bool qb,.slice cb nb ob]) rfl rfl 25 #[.bool false,.slice none 0 0] (Ae hA) (by kernel_rfl) rfl ((by kernel_rfl)) ?_;(try simp only [Ad9,Ad8,Ad7,Act.put,Ad6,Aea,Aeb]);have hbx:=IB (cs:=#[.bool qb,.slice cb nb ob]) hA;generalize wy.setRow (World.heap w4).size _=w5 at hbx ⊢;clear hA
  iterate 3 (refine wpList_plain rfl (fun K hK=>?_);go_simp;refine hK _ _ ?_;clear hK K;(try simp only [Ad9,Ad8,Ad7,Act.put,Ad6,Aea,Aeb]))
  refine wpList_nil ?_;obtain ⟨b5,q5⟩:=hbx;have B4:=B3.out.trans (b4.mono B3.out.size);have B5:=Ad5 (B4.trans (b5.mono B4.size));have hlt:=q3.lt;have q35:=(q3.below b4 hlt).below b5 (Aef hlt b4.size);obtain ⟨gb,hgb⟩:∃ gb,w4.heap.size=gb:=⟨_,rfl⟩;rw [hgb] at q5 ⊢;rcases HRA.out with ⟨pa,_,hna⟩ | ⟨rfl,sa,va,hma,rfl,hqa,oka⟩
  ·have c1:((Ea:Int) != 0)=true:=by simpa using hna
   clear hrb q3 q5 q35 b4 b5;go_wp2_with fail
   go_ret;exact ⟨rfl,B5.out⟩
  rcases hrb with ⟨pb,_,hnb⟩ | ⟨rfl,sb,vb,hmb,rfl,hqb,okb⟩
  ·have c2:((Eb:Int) != 0)=true:=by simpa using hnb
   clear q3 q5 q35 b4 b5 oka;go_wp2_with fail
   go_ret;exact ⟨rfl,B5.out⟩
  have OA:=Ad5 (((oka.below HB23.out).below b4).below b5);have OB:=Ad5 (okb.below b5);have HMA:=Ad5 hma;have HMB:=Ad5 hmb;have HQA:=Ad5 hqa;have QA:=Ad5 q35;have QB:=Ad5 q5;have hnb1:vb.length≤100:=by rw [okb.len];exact okb.n
  have hna1:va.length≤100:=by rw [oka.len];exact oka.n
  have d1:w5.cell? ⟨gb,1,none⟩=some (.slice cb vb.length ob):=(q5.cell 1).trans rfl;clear q3 q5 q35 b4 b5 oka okb hma hmb hqa hqb hlt hgb B4 HRA;have c0:(((0:Nat):Int) != 0)=false:=rfl;have HSame:=Ad5 (fun w1 (b1:Below w5.heap.size w5 w1) x=>IU qa va ca oa x w1 (by omega) (OA.out.below b1).r);go_upto_region 8 with fail;go_loopw [66] (fun i wr=>∃ j:Nat,j≤vb.length∧i=.int .i64 j∧Below w5.heap.size w5 wr∧∀ k (h:k < vb.length),k < j→vb[k].c.name=58→¬ (0:Int)≤KF (va.map (·.c)) vb[k].c.arg) (fun i _=>vb.length - (intOf i).toNat)
  case atStart=>exact ⟨0,by omega,rfl,Aeh _ _,fun k _ h=>by omega⟩
  case round=>
   obtain ⟨j,hj,rfl,hb,hno⟩:=hrel;have HB:=Ad5 hb;have HNO:=Ad5 hno;clear hb hno;by_cases hlt:j < vb.length
   ·have hji:(j:Int) < (vb.length:Int):=by omega
    have hy0:(0:Int)≤(j:Int):=by omega
    have Wj:IntKind.i64.wrap ((j:Int)+1)=(j:Int)+1:=Aej _ (by omega);obtain ⟨g1,rfl,_,hc1⟩:=(OB.out.below HB.out).r (by omega);have r1:=hc1 j hlt;have o1:=CV.one (OB.out.ok _ (List.getElem_mem hlt));obtain ⟨y,hy⟩:∃ y,vb[j]=y:=⟨_,rfl⟩;have HY:=Ad5 hy;rw [hy] at r1 o1;clear hc1 hy;go_upto_region 9 with fail;refine wp_region_list ?_;refine wpList_plain rfl (fun K hK=>?_);go_simp;refine hK _ _ ?_;clear hK K;(try simp only [Ad9,Ad8,Ad7,Act.put,Ad6,Aea,Aeb]);refine wpList_load_mid rfl 47 _ rfl g1 (j * 20) (by simp [Act.eval]) y.cells.toList _ r1 Tryz.underlying47 rfl (by kernel_rfl) ?_;rw [Array.toArray_toList]
    (try simp only [Ad9,Ad8,Ad7,Act.put,Ad6,Aea,Aeb])
    refine wpList_plain rfl (fun K hK=>?_);go_simp;generalize hA:(wr).alloc _=wy;refine hK _ _ ?_;clear hK K;(try simp only [Ad9,Ad8,Ad7,Act.put,Ad6,Aea,Aeb]);refine wpList_store_row rfl 47 _ _ rfl (World.heap wr).size (y.cells) rfl rfl 47 Dg (Ae hA) (by kernel_rfl) rfl (o1) ?_;(try simp only [Ad9,Ad8,Ad7,Act.put,Ad6,Aea,Aeb]);have hbx:=Sl (cs:=y.cells) hA;generalize wy.setRow (World.heap wr).size _=w6 at hbx ⊢;clear hA;refine wpList_nil ?_;obtain ⟨b6,q6⟩:=hbx;have B6:=Ad5 (HB.out.trans (b6.mono HB.out.size));obtain ⟨g,hg⟩:∃ g,wr.heap.size=g:=⟨_,rfl⟩;rw [hg] at q6 ⊢;have x10:w6.cell? ⟨g,10,none⟩=some (.int .u8 y.c.name.toNat):=(q6.cell 10).trans rfl;have x11:w6.cell? ⟨g,11,none⟩=some (.string (txt y.c.arg)):=(q6.cell 11).trans rfl;have qa6:=QA.out.below B6.out QA.out.lt;have a0:w6.cell? ⟨ga,0,none⟩=some (.bool qa):=(qa6.cell 0).trans rfl;have a1:w6.cell? ⟨ga,1,none⟩=some (.slice ca va.length oa):=(qa6.cell 1).trans rfl;have hL:=HSame.out w6 B6.out y.c.arg;obtain ⟨l,hl⟩:∃ l,KF (va.map (·.c)) y.c.arg=l:=⟨_,rfl⟩;rw [hl] at hL;have HLL:=Ad5 hl;clear b6 q6 qa6 hg r1 o1 hl;by_cases h58:y.c.name=58
    ·have q58:((y.c.name.toNat:Int) == 58)=true:=by rw [h58];rfl
     have H58:=Ad5 h58;clear h58;by_cases hl0:(0:Int)≤l
     ·go_wp2_with (go_at_call 9;refine hL.mono ?_;clear hL;rintro e w7 ⟨rfl,b7⟩)
      go_ret;exact ⟨rfl,B5.out.trans ((B6.out.trans (b7.mono B6.out.size)).mono B5.out.size)⟩
     ·go_wp2_with (go_at_call 9;refine hL.mono ?_;clear hL;rintro e w7 ⟨rfl,b7⟩)
      go_roundw
      case rel=>exact ⟨_,_,_,⟨j+1,by omega,by go_num,B6.out.trans (b7.mono B6.out.size),fun k hk hkj hn=>by
       by_cases e:k=j
       ·subst e;rw [HY.out,HLL.out];omega
       ·have h9:=HNO.out k hk (by omega) hn;omega⟩,rfl,rfl,rfl⟩
      case measure=>simp [intOf];omega
    ·have q58:((y.c.name.toNat:Int) == 58)=false:=FW (b:=58) h58;have H58:=Ad5 h58;clear h58;go_wp2_with fail
     go_roundw
     case rel=>exact ⟨_,_,_,⟨j+1,by omega,by go_num,B6.out,fun k hk hkj hn=>by
      by_cases e:k=j
      ·subst e;rw [HY.out] at hn;exact absurd hn H58.out
      ·have h9:=HNO.out k hk (by omega) hn;omega⟩,rfl,rfl,rfl⟩
     case measure=>simp [intOf];omega
   ·have hjn:j=vb.length:=by omega
    subst hjn;have HD:=Ad5 (show ∀ c∈sb.cs,c.name=58→c.arg ∉ scLabels sa.cs from fun c hc hn=>by
     rw [←OB.out.cs,List.mem_map] at hc;obtain ⟨v,hv,rfl⟩:=hc;obtain ⟨k,hk,rfl⟩:=List.getElem_of_mem hv;have h9:=HNO.out k hk hk hn;rw [OA.out.cs] at h9;exact ZU.1 (by omega))
    have HM:=Ad5 (V2 (fun _ _ _ h=>DT h) (fun _ _ _ h=>DT h) HMA.out HMB.out HD.out);have hPc1:=HPC.out wr (B5.out.trans (HB.out.mono B5.out.size));have hsz:=HSZ.out.1;have htz:=HSZ.out.2;clear HNO HD HSame;go_upto_region 13 with fail;refine wp_region_list ?_
    iterate 2 (refine wpList_plain rfl (fun K hK=>?_);go_simp;refine hK _ _ ?_;clear hK K;(try simp only [Ad9,Ad8,Ad7,Act.put,Ad6,Aea,Aeb]);refine wpList_plain rfl (fun K hK=>?_);go_simp;rw [if_neg (by first | omega | (simp only [ByteArray.size_append];omega) | (simp;omega))];go_simp;refine hK _ _ ?_;clear hK K;(try simp only [Ad9,Ad8,Ad7,Act.put,Ad6,Aea,Aeb]))
    rw [HSS.out];refine wpList_plain rfl (fun K hK=>?_);go_simp;go_at_call 7;refine hPc1.mono ?_;clear hPc1;rintro e w7 hec;have b7:=hec.1;obtain ⟨qc,cc,nc,oc,mvc,Pc,Ec,rfl,hrc⟩:=IC hec;clear hec;refine hK _ _ ?_;clear hK K;(try simp only [Ad9,Ad8,Ad7,Act.put,Ad6,Aea,Aeb])
    iterate 5 (refine wpList_plain rfl (fun K hK=>?_);go_simp;refine hK _ _ ?_;clear hK K;(try simp only [Ad9,Ad8,Ad7,Act.put,Ad6,Aea,Aeb]))
    refine wpList_plain rfl (fun K hK=>?_);go_simp;generalize hA:(w7).alloc _=wy;refine hK _ _ ?_;clear hK K;(try simp only [Ad9,Ad8,Ad7,Act.put,Ad6,Aea,Aeb]);refine wpList_store_row rfl 25 _ _ rfl (World.heap w7).size (#[.bool qc,.slice cc nc oc]) rfl rfl 25 #[.bool false,.slice none 0 0] (Ae hA) (by kernel_rfl) rfl ((by kernel_rfl)) ?_;(try simp only [Ad9,Ad8,Ad7,Act.put,Ad6,Aea,Aeb]);have hbx:=IB (cs:=#[.bool qc,.slice cc nc oc]) hA;generalize wy.setRow (World.heap w7).size _=w8 at hbx ⊢;clear hA
    iterate 3 (refine wpList_plain rfl (fun K hK=>?_);go_simp;refine hK _ _ ?_;clear hK K;(try simp only [Ad9,Ad8,Ad7,Act.put,Ad6,Aea,Aeb]))
    refine wpList_nil ?_;obtain ⟨b8,q8⟩:=hbx;have B7:=HB.out.trans (b7.mono HB.out.size);have B8:=Ad5 (B7.trans (b8.mono B7.size));obtain ⟨gx,hgx⟩:∃ gx,w7.heap.size=gx:=⟨_,rfl⟩;have HGX:=Ad5 hgx;rw [hgx] at q8 ⊢;have QA8:=QA.out.below B8.out QA.out.lt;have QB8:=QB.out.below B8.out QB.out.lt;have a0:w8.cell? ⟨ga,0,none⟩=some (.bool qa):=(QA8.cell 0).trans rfl;have a1:w8.cell? ⟨ga,1,none⟩=some (.slice ca va.length oa):=(QA8.cell 1).trans rfl;have d1:w8.cell? ⟨gb,1,none⟩=some (.slice cb vb.length ob):=(QB8.cell 1).trans rfl;have Ws:IntKind.i64.wrap ((va.length:Int)+(vb.length:Int))=(va.length:Int)+(vb.length:Int):=Aej _ (by omega);have hla:=OA.out.len;have hlb:=OB.out.len;by_cases hsum:va.length+vb.length≤100
    ·obtain ⟨stx,hx1,hx2⟩:=HM.out.1 (by omega);rcases hrc with ⟨pc,hbad,_⟩ | ⟨rfl,sx,vx,hmx,rfl,hqc,okc⟩
     ·rw [hx1] at hbad;cases hbad
     rw [hx1] at hmx;injection hmx with hmx;subst hmx;rw [SR,←HQA.out] at hqc;subst hqc;have hsi:¬ (100:Int) < (va.length:Int)+(vb.length:Int):=by omega
     have OC:=Ad5 (okc.below b8);have HX:=Ad5 hx2;have B58:=Ad5 B8.out;have QX:=Ad5 q8;clear okc hx1 hx2 hla hlb b7 b8 B7 hgx q8 HM;go_upto_region 16 with fail;refine wp_region_list ?_
     iterate 2 (refine wpList_plain rfl (fun K hK=>?_);go_simp;refine hK _ _ ?_;clear hK K;(try simp only [Ad9,Ad8,Ad7,Act.put,Ad6,Aea,Aeb]))
     refine wpList_build rfl 25 _ rfl (by kernel_rfl) ?_;generalize hB:Option.getD _ #[]=B;have hB2:B=#[.bool qc,.slice none 0 0]:=by rw [←hB];kernel_rfl
     subst hB2;clear hB
     (try simp only [Ad9,Ad8,Ad7,Act.put,Ad6,Aea,Aeb])
     refine wpList_plain rfl (fun K hK=>?_);go_simp;generalize hA:(w8).alloc _=wy;refine hK _ _ ?_;clear hK K;(try simp only [Ad9,Ad8,Ad7,Act.put,Ad6,Aea,Aeb]);refine wpList_store_row rfl 25 _ _ rfl (World.heap w8).size (#[.bool qc,.slice none 0 0]) rfl rfl 25 #[.bool false,.slice none 0 0] (Ae hA) (by kernel_rfl) rfl ((by kernel_rfl)) ?_;(try simp only [Ad9,Ad8,Ad7,Act.put,Ad6,Aea,Aeb]);have hbx:=IB (cs:=#[.bool qc,.slice none 0 0]) hA;generalize wy.setRow (World.heap w8).size _=w9 at hbx ⊢;clear hA;refine wpList_nil ?_;obtain ⟨b9,q9⟩:=hbx;obtain ⟨h,hh⟩:∃ h,w8.heap.size=h:=⟨_,rfl⟩;have HH:=Ad5 hh;rw [hh] at q9 ⊢;have HB9:=Ad5 b9;have qa9:=QA8.below b9 QA8.lt;have qb9:=QB8.below b9 QB8.lt;have a1:w9.cell? ⟨ga,1,none⟩=some (.slice ca va.length oa):=(qa9.cell 1).trans rfl;have d1:w9.cell? ⟨gb,1,none⟩=some (.slice cb vb.length ob):=(qb9.cell 1).trans rfl;have k1:w9.cell? ⟨h,1,none⟩=some (.slice none 0 0):=(q9.cell 1).trans rfl;have hgb9:=qb9.lt;have OA9:=Ad5 ((OA.out.below B58.out).below b9);have OB9:=Ad5 ((OB.out.below B58.out).below b9);obtain ⟨i0,hi,hz0,hz1,hz2⟩:=OS;have hm1:0+va.length≤maxLen:=by unfold maxLen;omega
     have hm2:(0+va.length) * 240≤140737488355328:=by omega
     have hm3:va.length+vb.length≤maxLen:=by unfold maxLen;omega
     have hm4:(va.length+vb.length) * 240≤140737488355328:=by omega
     clear qa9 qb9 b9 hh QA8 QB8;go_upto_region 17 with fail
     go_region_law (first
      | (refine Av rfl _ _ 23 rfl w9.heap.size 47 i0 (.agg Dg) 20 240 Tryz.underlying23 hi hz0 hz1 hz2 rfl (by decide) (.slice none 0 0) 0 [] rfl (World.ownsRow_nil _ _ _ _) ca va.length oa (va.flatMap fun v=>v.cells.toList) rfl (St _) (LW OA9.out.r) (Su OA9.out.ok) hm1 hm2 (Aec _) ?_;intro v10 w10 hown10 hg10 hat10;have HO10:=Ad5 (show w10.ownsRow w9.heap.size 47 20 v10 va.length (va.flatMap fun v=>v.cells.toList) by simpa using hown10);obtain ⟨a10,c10,rfl⟩:=A6 HO10.out;have B10:=Ad5 (((Aeh w9.heap.size w9).drew).grown hg10 (Aec _) (fun k e=>by cases e));have d1:=(B10.out.cell (p:=⟨gb,1,none⟩) hgb9).trans d1;clear hown10 hg10 hat10)
      | (refine Av rfl _ _ 23 rfl w9.heap.size 47 i0 (.agg Dg) 20 240 Tryz.underlying23 hi hz0 hz1 hz2 rfl (by decide) (.slice a10 va.length c10) va.length (va.flatMap fun v=>v.cells.toList) rfl HO10.out cb vb.length ob (vb.flatMap fun v=>v.cells.toList) rfl (St _) (LW (OB9.out.below B10.out).r) (Su OB9.out.ok) hm3 hm4 B10.out.size ?_;intro v11 w11 hown11 hg11 hat11;have HO11:=Ad5 (show w11.ownsRow w9.heap.size 47 20 v11 (va++vb).length ((va++vb).flatMap fun v=>v.cells.toList) by rw [Aee,List.flatMap_append];exact hown11);obtain ⟨a11,c11,rfl⟩:=A6 HO11.out;have B11:=Ad5 (B10.out.grown hg11 B10.out.size (fun k e=>AL HO10.out k e));have q11:=q9.below B11.out q9.lt;have k1:w11.cell? ⟨h,1,none⟩=some (.slice none 0 0):=(q11.cell 1).trans rfl;have f1:=q11.frozen 1;have Q11:=Ad5 q11;clear hown11 hg11 hat11 q11))
     all_goals
      have B812:=(HB9.out.trans (B11.out.mono HB9.out.size)).setCell (p:=⟨h,1,none⟩) (Nat.le_of_eq HH.out) (.slice a11 (va++vb).length c11);have q12:=Q11.out.set 1 (.slice a11 (va++vb).length c11);have ho12:=Aa (w':=w11.setCell ⟨h,1,none⟩ (.slice a11 (va++vb).length c11)) HO11.out (fun b hb=>Aei _ _ _ _ (show b≠h by have h8:=AL HO11.out b hb;have h9:=q9.lt;omega));have HB12:=Ad5 (B5.out.trans ((B58.out.trans (B812.mono B58.out.size)).mono B5.out.size));go_upto_region 18 with fail;rw [←Aee];generalize w11.setCell ⟨h,1,none⟩ (.slice a11 (va++vb).length c11)=w12 at B812 q12 ho12 HB12 ⊢;have OX:=OC.out.below B812;have OA12:=(OA.out.below B58.out).below B812;have OB12:=(OB.out.below B58.out).below B812;obtain ⟨hlen,hlike⟩:=XO OX.cs OA12.cs OB12.cs HX.out;have hS:=Rj qc vx (va++vb) cc a11 oc c11 w12 hlen (by rw [OX.len];have:=OX.n;omega) hlike (ZT OX.cs OX.fi) OX.ok (fun v hv=>(Aem.1 hv).elim (OA12.ok v) (OB12.ok v)) OX.r (KD ho12);have qx:=QX.out.below B812 QX.out.lt;have x0:w12.cell? ⟨gx,0,none⟩=some (.bool qc):=(qx.cell 0).trans rfl;have x1:w12.cell? ⟨gx,1,none⟩=some (.slice cc vx.length oc):=(qx.cell 1).trans rfl;have y0:w12.cell? ⟨h,0,none⟩=some (.bool qc):=(q12.cell 0).trans rfl;have y1:w12.cell? ⟨h,1,none⟩=some (.slice a11 (va++vb).length c11):=(q12.cell 1).trans rfl;have c9:(((0:Nat):Int) == 0)=true:=rfl;clear OX OA12 OB12 hlen hlike qx q12 ho12 B812 d1 Q11 HO11 HO10 f1 k1 a1 hi Ws;generalize va++vb=vz at hS y1 ⊢;go_wp2_with (go_at_call 8;refine hS.mono ?_;clear hS;rintro e w13 ⟨rfl,b13⟩)
      go_ret;exact ⟨rfl,HB12.out.trans (b13.mono HB12.out.size)⟩
    ·obtain ⟨px,hx1⟩:=HM.out.2 (by omega);rcases hrc with ⟨pc,hbad,_⟩ | ⟨rfl,sx,vx,hmx,_⟩
     ·rw [hx1] at hbad;injection hbad with hbad;injection hbad with hbad _;subst hbad;have hsi:(100:Int) < (va.length:Int)+(vb.length:Int):=by omega
      have HB8:=B5.out.trans (B8.out.mono B5.out.size);clear HM hx1 hla hlb QA8 QB8 q8 b7 b8 B7;go_wp2_with fail
      go_ret;exact ⟨rfl,HB8⟩
     ·rw [hx1] at hmx;cases hmx
end
section
open Go.ChangeShapes Go.WideShapes Go.ChangeAt Go.RowKit
theorem Acx : Tryz.prog.globalNamed "math/bits.deBruijn64tab" = some 5 := by kernel_rfl
theorem XP:(Tryz.prog.globals[5]?).map (·.type)=some 274:=by kernel_rfl
theorem XQ:Tryz.prog.cellsOf 274=64:=by kernel_rfl
theorem Nn:Tryz.prog.cellsOf 5=1:=by kernel_rfl
theorem XR : Tryz.prog.globalNamed "placket/bracket.openers" = some 4 := by kernel_rfl
theorem XS:(Tryz.prog.globals[4]?).map (·.type)=some 266:=by kernel_rfl
theorem XT:Tryz.prog.cellsOf 266=3:=by kernel_rfl
theorem ZW : Tryz.prog.globalNamed "placket/piece.ahead" = some 3 := by kernel_rfl
theorem XU:(Tryz.prog.globals[3]?).map (·.type)=some 222:=by kernel_rfl
theorem XV:Tryz.prog.cellsOf 222=2:=by kernel_rfl
theorem D1 {W:World} (b:Nat) (v:Value) (hv:W.cell? ⟨b,0,none⟩=some v):b < W.heap.size:=by
 cases hh:W.heap[b]? with
 | none=>simp [World.cell?,hh] at hv
 | some o=>exact (Array.getElem?_eq_some_iff.1 hh).1
theorem Acy {W : World} (h : laidMetH Tryz.prog [("math/bits.deBruijn64tab", Rows.laid_math_bits_deBruijn64tab), ("unicode/utf8.acceptRanges", Rows.laid_unicode_utf8_acceptRanges), ("placket/bracket.openers", Rows.laid_placket_bracket_openers), ("placket/piece.ahead", Rows.laid_placket_piece_ahead), ("unicode/utf8.first", Rows.laid_unicode_utf8_first)] W) (hsh : W.ShapedOpen Tryz.prog) : Gl W ∧ GP W := by
 have h0 : laidMet Tryz.prog [("math/bits.deBruijn64tab", Rows.laid_math_bits_deBruijn64tab), ("unicode/utf8.acceptRanges", Rows.laid_unicode_utf8_acceptRanges), ("placket/bracket.openers", Rows.laid_placket_bracket_openers), ("placket/piece.ahead", Rows.laid_placket_piece_ahead), ("unicode/utf8.first", Rows.laid_unicode_utf8_first)] W := h
 have h2:=laidMet.tail (laidMet.tail h0);have hT : Lib.TabIs Tryz.prog W "math/bits.deBruijn64tab" .u8 (Lib.deBruijn64tab.map Int.ofNat) :=
  Lib.tabIs_of_head Acx XP Tryz.underlying274 Tryz.underlying5 Nn XQ h0
 have hO : Lib.TabIs Tryz.prog W "placket/bracket.openers" .u8 [58, 61, 46] :=
  Lib.tabIs_of_head XR XS Tryz.underlying266 Tryz.underlying5 Nn XT h2
 have hH : Lib.TabIs Tryz.prog W "placket/piece.ahead" .u8 [94, 93] :=
  Lib.tabIs_of_head ZW XU Tryz.underlying222 Tryz.underlying5 Nn XV (laidMet.tail h2)
 obtain ⟨m,hm⟩:∃ m,W.cell? ⟨0,0,none⟩=some (.int .i64 m):=
  cell_of_shapedOpen_int (t:=3) (zero:=#[.int .i64 0]) hsh (of_decide_eq_true (by kernel_rfl)) (by kernel_rfl) rfl (by kernel_rfl) (by kernel_rfl) Tryz.underlying3
 refine ⟨⟨fun j hj=>?_,hO.cell XR 0 (by decide),hO.cell XR 1 (by decide),hO.cell XR 2 (by decide),⟨m,hm⟩,?_⟩,hH.cell ZW 0 (by decide),hH.cell ZW 1 (by decide),D1 _ _ (hH.cell ZW 0 (by decide))⟩
 ·rw [hT.cell Acx j (by rw [List.length_map];exact hj)];simp only [List.getD,List.getElem?_map];rw [List.getElem?_eq_getElem hj];rfl
 ·exact Nat.max_lt.2 ⟨Nat.max_lt.2 ⟨D1 _ _ (hT.cell Acx 0 (by decide)),D1 _ _ (hO.cell XR 0 (by decide))⟩,D1 _ _ hm⟩
def FX (cs:Array Value):Obj→Obj
 | .cells _ t frozen=>.cells cs t frozen
 | o=>o
noncomputable def ID (os:Os):World:=
 { World.holding Tryz.prog os ⟨#[],#[],[]⟩ with heap:=(((((World.holding Tryz.prog os ⟨#[],#[],[]⟩).heap.modify 5 (FX (Lib.deBruijn64tab.map fun n=>Value.int .u8 (Int.ofNat n)).toArray)).modify 4 (FX #[.int .u8 58,.int .u8 61,.int .u8 46])).modify 3 (FX #[.int .u8 94,.int .u8 93])).modify 2 (FX (([128,191,160,191,128,159,144,191,128,143,0,0,0,0,0,0,0,0,0,0,0,0,0,0,0,0,0,0,0,0,0,0]:List Nat).map fun n=>Value.int .u8 (Int.ofNat n)).toArray)).modify 1 (FX (Go.Pinned.utf8FirstZ.map fun n=>Value.int .u8 (Int.ofNat n)).toArray) }
end
end Go.Proofs.YteilldmmihiijaaGreatDoor
