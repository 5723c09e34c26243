/- Texts. -/
import Derived.Test.YteilldmmihiijaaGreatDoorTw03
import Derived.ChangeKeysEq
set_option linter.unusedSimpArgs false
set_option linter.unusedVariables false
set_option maxHeartbeats 8000000
set_option maxRecDepth 1000000
namespace Go.Proofs.YteilldmmihiijaaGreatDoor
open Go.Lib renaming hid→Ad5
open Nat renaming le_refl→Aec,lt_of_lt_of_le→Aef
open Go.RowKit.Below renaming refl→Aeh
open Go.IntWalk renaming i64_in→Aej
section
open Go Go.RowKit Go.Shelf
theorem YU:Go.Proofs.Lays.n206 Tryz.prog Ac5:={
 mixed:=by kernel_rfl
 f206:=Tryz.func32.trans (congrArg some (by kernel_rfl))
 t3:=Tryz.underlying3
 a3:=Tryz.isAgg3
 z3:=Tryz.sizeOf3
 v3:=Tryz.zeroValue3
 t4:=Tryz.underlying4
 a4:=Tryz.isAgg4
 z4:=Tryz.sizeOf4
 v4:=Tryz.zeroValue4
 t9:=Tryz.underlying9
 a9:=Tryz.isAgg9
 z9:=Tryz.sizeOf9
 v9:=Tryz.zeroValue9 }
theorem IL (s t:ByteArray) (w:World) :
  Calls Tryz.prog 32 #[.string s,.string t] w fun e w'=>e=.returned (.bool (Lib.hasPrefix s.data.toList t.data.toList))∧w=w':=
 (Any.stringslite_HasPrefix YU s t w).mono fun _ _ ⟨h1,h2⟩=>⟨h1,h2.symm⟩
theorem NY (s t:ByteArray) (h:Lib.hasPrefix s.data.toList t.data.toList=true):t.size≤s.size:=by
 unfold Lib.hasPrefix at h;have h1:=(List.isPrefixOf_iff_prefix.1 h).length_le;simpa using h1
theorem YV (s t:ByteArray) (w:World) (h:Lib.hasPrefix s.data.toList t.data.toList=false) :
  Calls Tryz.prog 166 #[.string s,.string t] w fun e w'=>e=.returned (.tuple #[.string s,.bool false])∧w=w':=by
 have hc:=IL s t w;rw [h] at hc;clear h;go_enter Tryz.func166,Tryz.ntmps166;go_wp2_with (go_at_call 32;refine hc.mono ?_;rintro e w' ⟨rfl,rfl⟩)
 go_ret2
 exact ⟨rfl,rfl⟩
theorem VP (s t:ByteArray) (w:World) (h:Lib.hasPrefix s.data.toList t.data.toList=true) :
  Calls Tryz.prog 166 #[.string s,.string t] w fun e w'=>e=.returned (.tuple #[.string (s.extract t.size s.size),.bool true])∧w=w':=by
 have hc:=IL s t w;have hs:=NY s t h;have hs2:(t.size:Int)≤(s.size:Int):=by omega
 rw [h] at hc;clear h;go_enter Tryz.func166,Tryz.ntmps166;go_wp2_with (go_at_call 32;refine hc.mono ?_;rintro e w' ⟨rfl,rfl⟩)
 go_ret2
 exact ⟨rfl,rfl⟩
theorem PZ (s t:ByteArray) (w:World) (h:Lib.hasPrefix s.data.toList t.data.toList=false) :
  Calls Tryz.prog 158 #[.string s,.string t] w fun e w'=>e=.returned (.tuple #[.string s,.bool false])∧w=w':=by
 have hc:=YV s t w h;clear h;go_enter Tryz.func158,Tryz.ntmps158;go_wp2_with (go_at_call 166;refine hc.mono ?_;rintro e w' ⟨rfl,rfl⟩)
 go_ret2
 exact ⟨rfl,rfl⟩
theorem MN (s t:ByteArray) (w:World) (h:Lib.hasPrefix s.data.toList t.data.toList=true) :
  Calls Tryz.prog 158 #[.string s,.string t] w fun e w'=>e=.returned (.tuple #[.string (s.extract t.size s.size),.bool true])∧w=w':=by
 have hc:=VP s t w h;clear h;go_enter Tryz.func158,Tryz.ntmps158;go_wp2_with (go_at_call 166;refine hc.mono ?_;rintro e w' ⟨rfl,rfl⟩)
 go_ret2
 exact ⟨rfl,rfl⟩
theorem MO {fn:Func} {a b c d:Tmp} (h:fn.results=#[.tmp a,.tmp b,.tmp c,.tmp d]) (tmps:Array Value) (P:Program) (w:World) :
  (results fn tmps).run P w=.ok (.tuple #[tmps.getD a undef,tmps.getD b undef,tmps.getD c undef,tmps.getD d undef]) w:=by
 simp [results,h]
theorem Jh {a:Int} {s:ByteArray} {b c:Bool} (h:b=c):Ending.returned (.tuple #[.int .i64 a,.string s,.bool b])=.returned (.tuple #[.int .i64 a,.string s,.bool c]):=by rw [h]
theorem Lx (r:ByteArray) (w:World) (hs:r.size≤250) :
  Calls Tryz.prog 165 #[.string r] w fun e w'=>e=.returned (.tuple #[.int .i64 ((A7 r.data.toList 3 0 0).2:Int),.string (r.extract (A7 r.data.toList 3 0 0).1 r.size),.bool (CI r.data.toList 0)])∧Below w.heap.size w w':=by
 have hrb:∀ j,(r.data.toList.getD j 0).toNat=byt r.data.toList j:=fun j=>rfl
 have HRB:=Ad5 hrb;have hrs:r.data.toList.length=r.size:=by simp
 have HRS:=Ad5 hrs;clear hrb hrs;obtain ⟨D,hD⟩:∃ D,D=A7 r.data.toList 3 0 0:=⟨_,rfl⟩;unfold CI;rw [←hD];have HD:=Ad5 hD;clear hD;go_enter Tryz.func165,Tryz.ntmps165;go_wp2_with fail
 all_goals go_wp2_with fail
 go_loopw [2,5] (fun v d wr=>∃ k x:Nat,k≤3∧d=.int .i64 (k:Int)∧v=.int .i64 (x:Int)∧x≤9999∧(k=0→x=0)∧(k≤2→x≤99)∧(k≤1→x≤9)∧k≤r.size∧wr.heap[w.heap.size]?=some (.stringIter r k)∧Below w.heap.size w wr∧D=(k+(A7 r.data.toList (3 - k) k x).1,(A7 r.data.toList (3 - k) k x).2)) (fun _ d _=>3 - (intOf d).toNat)
 case atStart=>
  refine ⟨0,0,by omega,rfl,rfl,by omega,fun _=>rfl,fun _=>by omega,fun _=>by omega,by omega,?_,?_,?_⟩
  ·exact World.iter_heap w r 0
  ·exact Below.alloc (Aeh _ _) (Aec _) _
  ·rw [HD.out];simp
 case round=>
  obtain ⟨k,x,hk3,rfl,rfl,hx,hx0,hx2,hx1,hks,hit,hV,hDk⟩:=hrel;have HDK:=Ad5 hDk;clear hDk;have hq:w.heap.size < wr.heap.size:=(Array.getElem?_eq_some_iff.1 hit).1;have hrs:=HRS.out;by_cases hlt:k < r.size
  ·have hnx:∀ ty,(Instr.next (.pointer (some ⟨w.heap.size,0,none⟩)) true ty).run Tryz.prog wr=_:=fun ty=>Lib.run_next_any_at wr w.heap.size r k ty hit hlt
   have hbw2:=Lib.below_iterAt hV (k:=w.heap.size) (Aec _) r (k+(Utf8.decode r k).2);have hit2:=Lib.iterAt_heap wr w.heap.size r k (k+(Utf8.decode r k).2) hit;have hdec:byt r.data.toList k < 128→Utf8.decode r k=(byt r.data.toList k,1):=fun hlo=>by
    have h1:=HRB.out k;rw [E0,IF _ _ _ _ _ (by rw [h1];exact hlo),h1]
   have hhi:¬ byt r.data.toList k < 128→127 < (Utf8.decode r k).1:=fun hno=>SZ _ _ (by rw [HRB.out k];exact hno)
   have hdig:F8 r.data.toList k=(decide (48≤byt r.data.toList k) && decide (byt r.data.toList k≤57)):=by
    unfold F8;rw [decide_eq_true (by rw [hrs];exact hlt)];rfl
   have hb256:=G5 r.data.toList k;by_cases hgo:(48≤byt r.data.toList k∧byt r.data.toList k≤57)∧k < 3
   ·obtain ⟨⟨hg1,hg2⟩,hg3⟩:=hgo;rw [hdec (by omega)] at hnx hbw2 hit2;have hD2:D=(k+1+(A7 r.data.toList (3 - (k+1)) (k+1) (10 * x+(byt r.data.toList k - 48))).1,(A7 r.data.toList (3 - (k+1)) (k+1) (10 * x+(byt r.data.toList k - 48))).2):=by
     rw [HDK.out,show 3 - k=(3 - (k+1))+1 by omega,UM _ _ _ _ (by rw [hdig,decide_eq_true hg1,decide_eq_true hg2];rfl)];simp only [Nat.add_assoc];rw [show (1:Nat)+(A7 r.data.toList (3 - (k+1)) (k+1) (10 * x+(byt r.data.toList k - 48))).1=(A7 r.data.toList (3 - (k+1)) (k+1) (10 * x+(byt r.data.toList k - 48))).1+1 by omega]
    have HD2:=Ad5 hD2;have hx9:=hx2 (by omega);have HX0:=Ad5 hx0;clear hD2 hdec hhi hdig hx0 HDK;generalize byt r.data.toList k=b at *;have e1:decide ((b:Int) < 48)=false:=by simp;omega
    have e2:decide (57 < (b:Int))=false:=by simp;omega
    have e3:((k:Int) == 3)=false:=by simp;omega
    have W1:IntKind.i64.wrap (10 * (x:Int)+((b:Int) - 48))=((10 * x+(b - 48):Nat):Int):=by rw [Aej _ (by omega)];omega
    have HL:=Ad5 (show k+1≤r.size by omega);clear hrs;go_wp2_with fail
    go_roundw
    case rel=>exact ⟨k+1,10 * x+(b - 48),by omega,by go_num,by go_num,by omega,by omega,by omega,by have:=HX0.out;omega,HL.out,hit2,hbw2,HD2.out⟩
    case measure=>simp [intOf];omega
   ·have hF:D=(k,x):=by
     rw [HDK.out,Mj]
     ·rfl
     ·by_cases h3:k < 3
      ·right;rw [hdig];cases h1:decide (48≤byt r.data.toList k) <;> cases h2:decide (byt r.data.toList k≤57) <;> first | rfl | exact (hgo ⟨⟨of_decide_eq_true h1,of_decide_eq_true h2⟩,h3⟩).elim
      ·left;omega
    obtain ⟨R,wd,hRw,hcase⟩:∃ R wd:Nat,Utf8.decode r k=(R,wd)∧((R < 48)∨(¬ R < 48∧57 < R)∨(¬ R < 48∧¬ 57 < R∧k=3)):=by
     by_cases hlo:byt r.data.toList k < 128
     ·exact ⟨_,_,hdec hlo,by omega⟩
     ·refine ⟨(Utf8.decode r k).1,(Utf8.decode r k).2,rfl,?_⟩;have h9:=hhi hlo;clear hnx hbw2 hit2 hdec hhi;omega
    rw [hRw] at hnx hbw2 hit2;simp only at hnx hbw2 hit2;generalize k+wd=j at hnx hbw2 hit2;subst hF;have hks2:(k:Int)≤(r.size:Int):=by omega
    clear hrs HDK hdec hhi hdig hgo hb256 hRw;have HB:=Ad5 hbw2;have hb1:k=0∨0 < k:=by omega
    clear hbw2;rcases hcase with h1 | ⟨h1,h2⟩ | ⟨h1,h2,h3⟩
    ·have e1:decide ((R:Int) < 48)=true:=by simp;omega
     clear h1;rcases hb1 with rfl | hb1
     ·obtain rfl:x=0:=hx0 rfl;have q1:decide ((0:Nat) < 0)=false:=rfl;go_wp2_with fail
      go_quiet (fail)
      go_wp2_with fail
      go_ret3
      exact ⟨rfl,below_drewN HB.out _⟩
     ·have q1:decide (0 < k)=true:=decide_eq_true hb1;have Hq:=Ad5 (show decide ((x:Int)≤255)=decide (x≤255) from decide_eq_decide.2 (by omega));go_wp2_with fail
      go_quiet (fail)
      go_wp2_with fail
      go_ret3
      exact ⟨Jh Hq.out,below_drewN HB.out _⟩
    ·have e1:decide ((R:Int) < 48)=false:=by simp;omega
     have e2:decide (57 < (R:Int))=true:=by simp;omega
     clear h1 h2;rcases hb1 with rfl | hb1
     ·obtain rfl:x=0:=hx0 rfl;have q1:decide ((0:Nat) < 0)=false:=rfl;go_wp2_with fail
      go_quiet (fail)
      go_wp2_with fail
      go_ret3
      exact ⟨rfl,below_drewN HB.out _⟩
     ·have q1:decide (0 < k)=true:=decide_eq_true hb1;have Hq:=Ad5 (show decide ((x:Int)≤255)=decide (x≤255) from decide_eq_decide.2 (by omega));go_wp2_with fail
      go_quiet (fail)
      go_wp2_with fail
      go_ret3
      exact ⟨Jh Hq.out,below_drewN HB.out _⟩
    ·have e1:decide ((R:Int) < 48)=false:=by simp;omega
     have e2:decide (57 < (R:Int))=false:=by simp;omega
     have e3:((k:Int) == 3)=true:=by simp;omega
     replace hb1:0 < k:=by omega
     clear h1 h2 h3;have q1:decide (0 < k)=true:=decide_eq_true hb1;have Hq:=Ad5 (show decide ((x:Int)≤255)=decide (x≤255) from decide_eq_decide.2 (by omega));go_wp2_with fail
     go_quiet (fail)
     go_wp2_with fail
     go_ret3
     exact ⟨Jh Hq.out,below_drewN HB.out _⟩
  ·have hnx:∀ ty,(Instr.next (.pointer (some ⟨w.heap.size,0,none⟩)) true ty).run Tryz.prog wr=_:=fun ty=>Lib.run_next_end_at wr w.heap.size r k ty hit hlt
   have hF:D=(k,x):=by
    rw [HDK.out,Mj]
    ·rfl
    ·right;unfold F8;rw [decide_eq_false (by rw [hrs];exact hlt)];rfl
   subst hF;have hks2:(k:Int)≤(r.size:Int):=by omega
   clear hrs HDK;have HB:=Ad5 hV;have hb1:k=0∨0 < k:=by omega
   rcases hb1 with rfl | hb1
   ·obtain rfl:x=0:=hx0 rfl;have q1:decide ((0:Nat) < 0)=false:=rfl;go_wp2_with fail
    go_quiet (fail)
    go_wp2_with fail
    go_ret3
    exact ⟨rfl,below_drewN HB.out _⟩
   ·have q1:decide (0 < k)=true:=decide_eq_true hb1;have Hq:=Ad5 (show decide ((x:Int)≤255)=decide (x≤255) from decide_eq_decide.2 (by omega));go_wp2_with fail
    go_quiet (fail)
    go_wp2_with fail
    go_ret3
    exact ⟨Jh Hq.out,below_drewN HB.out _⟩
end
section
open Go Go.RowKit
theorem MP (r:ByteArray) (a b:Nat):(r.extract a r.size).extract b (r.extract a r.size).size=r.extract (a+b) r.size:=by
 apply ByteArray.ext;apply Array.ext';rw [BP,BP,BP,List.drop_drop]
theorem EU {a b c d:Int} {s t:ByteArray} {x y:Bool} (h1:a=c) (h2:b=d) (h3:s=t) (h4:x=y):Ending.returned (.tuple #[.int .i64 a,.int .i64 b,.string s,.bool x])=.returned (.tuple #[.int .i64 c,.int .i64 d,.string t,.bool y]):=by rw [h1,h2,h3,h4]
theorem Ab5 (cl L:List UInt8) (h:CI L 0=false):Lj cl L=(((A7 L 3 0 0).2:Int),((A7 L 3 0 0).2:Int),(A7 L 3 0 0).1,false):=by unfold Lj;simp [h]
theorem YW (cl L:List UInt8) (h:CI L 0=true) (h2:chAt L (A7 L 3 0 0).1 44=false):Lj cl L=(((A7 L 3 0 0).2:Int),((A7 L 3 0 0).2:Int),(A7 L 3 0 0).1,true):=by unfold Lj;simp [h,h2]
theorem VQ (cl L:List UInt8) (h:CI L 0=true) (h2:chAt L (A7 L 3 0 0).1 44=true) (h3:AQ L ((A7 L 3 0 0).1+1) cl=true):Lj cl L=(((A7 L 3 0 0).2:Int),-1,(A7 L 3 0 0).1+1,true):=by unfold Lj;simp [h,h2,h3]
theorem YX (cl L:List UInt8) (h:CI L 0=true) (h2:chAt L (A7 L 3 0 0).1 44=true) (h3:AQ L ((A7 L 3 0 0).1+1) cl=false) :
  Lj cl L=(((A7 L 3 0 0).2:Int),((A7 L 3 ((A7 L 3 0 0).1+1) 0).2:Int),(A7 L 3 0 0).1+1+(A7 L 3 ((A7 L 3 0 0).1+1) 0).1,CI L ((A7 L 3 0 0).1+1) && decide ((A7 L 3 0 0).2≤(A7 L 3 ((A7 L 3 0 0).1+1) 0).2)):=by unfold Lj;simp [h,h2,h3]
theorem YY (s:List UInt8) (k:Nat):CI (s.drop k) 0=CI s k:=by unfold CI;rw [Io,Nat.add_zero]
theorem NZ (r cl:ByteArray) (w:World) (hs:r.size≤250) :
  Calls Tryz.prog 157 #[.string r,.string cl] w fun e w'=>e=.returned (.tuple #[.int .i64 (Lj cl.data.toList r.data.toList).1,.int .i64 (Lj cl.data.toList r.data.toList).2.1,.string (r.extract (Lj cl.data.toList r.data.toList).2.2.1 r.size),.bool (Lj cl.data.toList r.data.toList).2.2.2])∧Below w.heap.size w w':=by
 have hb1:=Lx r w hs;generalize hL:r.data.toList=L at *;generalize hC:cl.data.toList=C at *;obtain ⟨X,hX⟩:∃ X,X=Lj C L:=⟨_,rfl⟩;rw [←hX];have HX:=Ad5 hX;clear hX;have HI1:=Ad5 (Ab5 C L);have HI2:=Ad5 (YW C L);have HI3:=Ad5 (VQ C L);have HI4:=Ad5 (YX C L);have HL:=Ad5 hL;have HC:=Ad5 hC;clear hL hC;go_enter Tryz.func157,Tryz.ntmps157;go_wp2_with fail
 refine hb1.mono ?_;rintro e w1 ⟨rfl,b1⟩;clear hb1;generalize hk1:(A7 L 3 0 0).1=k1 at *;generalize hv1:(A7 L 3 0 0).2=v1 at *;have hr1:(r.extract k1 r.size).data.toList=L.drop k1:=by rw [BP,HL.out]
 have hz1:=ET r k1;clear hk1 hv1;cases q1:CI L 0
 ·have HF:=Ad5 (HX.out.trans (HI1.out q1));clear q1 HI1 HI2 HI3 HI4;cases q2:Lib.hasPrefix (r.extract k1 r.size).data.toList (ByteArray.mk #[44]).data.toList
  ·have hc:=PZ _ _ w1 q2;clear q2 hr1 hz1;go_wp2_with fail
   refine hc.mono ?_;rintro e w2 ⟨rfl,rfl⟩;go_wp2_with fail
   (try simp only [Exit.inBlock,Exit.then]);refine bodyPost_ret (MO rfl _ _ _) rfl ?_
   exact ⟨EU (by rw [HF.out]) (by rw [HF.out]) (by rw [HF.out]) (by rw [HF.out]),b1⟩
  ·have hc:=MN _ _ w1 q2;clear q2 hr1 hz1;go_wp2_with fail
   refine hc.mono ?_;rintro e w2 ⟨rfl,rfl⟩;go_wp2_with fail
   (try simp only [Exit.inBlock,Exit.then]);refine bodyPost_ret (MO rfl _ _ _) rfl ?_
   exact ⟨EU (by rw [HF.out]) (by rw [HF.out]) (by rw [HF.out]) (by rw [HF.out]),b1⟩
 ·have hq:Lib.hasPrefix (r.extract k1 r.size).data.toList (ByteArray.mk #[44]).data.toList=chAt L k1 44:=by rw [hr1];exact D6 L k1 44 (by decide)
  have H2:=Ad5 (HI2.out q1);have H3:=Ad5 (HI3.out q1);have H4:=Ad5 (HI4.out q1);clear q1 HI1 HI2 HI3 HI4;cases q2:chAt L k1 44
  ·have HF:=Ad5 (HX.out.trans (H2.out q2));have hc:=PZ _ _ w1 (hq.trans q2);clear q2 hr1 hz1 hq H2 H3 H4;go_wp2_with fail
   refine hc.mono ?_;rintro e w2 ⟨rfl,rfl⟩;go_wp2_with fail
   (try simp only [Exit.inBlock,Exit.then]);refine bodyPost_ret (MO rfl _ _ _) rfl ?_
   exact ⟨EU (by rw [HF.out]) (by rw [HF.out]) (by rw [HF.out]) (by rw [HF.out]),b1⟩
  ·have H3':=Ad5 (H3.out q2);have H4':=Ad5 (H4.out q2);have hc:=MN _ _ w1 (hq.trans q2);rw [MP,show (ByteArray.mk #[44]).size=1 from rfl] at hc;clear q2 hr1 hz1 hq H2 H3 H4;have hr2:(r.extract (k1+1) r.size).data.toList=L.drop (k1+1):=by rw [BP,HL.out]
   have hp:=Cs (r.extract (k1+1) r.size) cl w1;have hz2:=ET r (k1+1);have hb2:=Lx (r.extract (k1+1) r.size) w1 (by omega);rw [hr2,HC.out] at hp;rw [hr2,YY,Io,Nat.add_zero,MP] at hb2;clear hz2;rw [show Lib.hasPrefix (L.drop (k1+1)) C=AQ L (k1+1) C from rfl] at hp;clear hr2;go_wp2_with fail
   refine hc.mono ?_;rintro e w2 ⟨rfl,rfl⟩;clear hc;cases q3:AQ L (k1+1) C
   ·have HF:=Ad5 (HX.out.trans (H4'.out q3));rw [q3] at hp;clear q3 H3' H4';generalize (A7 L 3 (k1+1) 0).1=k2 at *;generalize (A7 L 3 (k1+1) 0).2=v2 at *;generalize CI L (k1+1)=o2 at *;go_wp2_with fail
    refine hp.mono ?_;rintro e w2 ⟨rfl,rfl⟩;go_wp2_with fail
    refine hb2.mono ?_;rintro e w2 ⟨rfl,b2⟩;have HD:=Ad5 (show decide ((v1:Int)≤(v2:Int))=decide (v1≤v2) from decide_eq_decide.2 (by omega));have hbb:=b1.trans (b2.mono b1.size);cases o2
    ·go_wp2_with fail
     (try simp only [Exit.inBlock,Exit.then]);refine bodyPost_ret (MO rfl _ _ _) rfl ?_
     exact ⟨EU (by rw [HF.out]) (by rw [HF.out]) (by rw [HF.out]) (by rw [HF.out];rfl),hbb⟩
    ·go_wp2_with fail
     (try simp only [Exit.inBlock,Exit.then]);refine bodyPost_ret (MO rfl _ _ _) rfl ?_
     exact ⟨EU (by rw [HF.out]) (by rw [HF.out]) (by rw [HF.out]) (by rw [HF.out,Bool.true_and];first | done | exact HD.out),hbb⟩
   ·have HF:=Ad5 (HX.out.trans (H3'.out q3));rw [q3] at hp;clear q3 H3' H4' hb2;go_wp2_with fail
    refine hp.mono ?_;rintro e w2 ⟨rfl,rfl⟩;go_wp2_with fail
    (try simp only [Exit.inBlock,Exit.then]);refine bodyPost_ret (MO rfl _ _ _) rfl ?_
    exact ⟨EU (by rw [HF.out]) (by rw [HF.out]) (by rw [HF.out]) (by rw [HF.out]),b1⟩
def JW (r:Option (Int × Int × Nat)):Ending:=match r with
 | some q=>.returned (.tuple #[.int .i64 q.1,.int .i64 q.2.1,.int .i64 (q.2.2:Int),.bool true])
 | none=>.returned (.tuple #[.int .i64 0,.int .i64 0,.int .i64 0,.bool false])
theorem Qa {r:Option (Int × Int × Nat)} {a b c:Int} {j:Nat} (h:r=some (a,b,j)) (hc:c=(j:Int)):Ending.returned (.tuple #[.int .i64 a,.int .i64 b,.int .i64 c,.bool true])=JW r:=by subst h hc;rfl
theorem JX {r:Option (Int × Int × Nat)} (h:r=none):Ending.returned (.tuple #[.int .i64 0,.int .i64 0,.int .i64 0,.bool false])=JW r:=by subst h;rfl
theorem Ly (r cl:ByteArray) (w:World) (hs:r.size≤250) (h0:cl.data.toList≠[]) :
  Calls Tryz.prog 147 #[.string r,.string cl] w fun e w'=>e=JW (Lk cl.data.toList r.data.toList)∧Below w.heap.size w w':=by
 have hb1:=NZ r cl w hs;generalize hL:r.data.toList=L at *;generalize hC:cl.data.toList=C at *;obtain ⟨X,hX⟩:∃ X,X=Lk C L:=⟨_,rfl⟩;rw [←hX];have HX:=Ad5 hX;clear hX;obtain ⟨a,b,j,o,hB⟩:∃ a b j o,Lj C L=(a,b,j,o):=⟨_,_,_,_,rfl⟩;have HF:=Ad5 (show Lk C L=if o && AQ L j C then some (a,b,j+C.length) else none by unfold Lk;rw [hB]);rw [hB] at hb1;simp only at hb1;have hr1:(r.extract j r.size).data.toList=L.drop j:=by rw [BP,hL]
 have hCl:C.length=cl.size:=by rw [←hC];simp
 have hq:Lib.hasPrefix (r.extract j r.size).data.toList cl.data.toList=AQ L j C:=by rw [hr1,hC];rfl
 have hz:=ET r j;clear hB hr1;have HL:=Ad5 hL;have HC:=Ad5 hC;clear hL hC;go_enter Tryz.func147,Tryz.ntmps147;go_wp2_with fail
 refine hb1.mono ?_;rintro e w1 ⟨rfl,b1⟩;clear hb1;cases q2:AQ L j C
 ·have HG:=Ad5 (HX.out.trans (HF.out.trans (by rw [q2,Bool.and_false];first | done | rfl)));have hc:=PZ _ _ w1 (hq.trans q2);clear q2 hq hz hCl;cases o
  all_goals
   go_wp2_with fail
   refine hc.mono ?_;rintro e w2 ⟨rfl,rfl⟩;go_wp2_with fail
   (try simp only [Exit.inBlock,Exit.then]);refine bodyPost_ret (MO rfl _ _ _) rfl ?_
   exact ⟨JX HG.out,b1⟩
 ·have hc:=MN _ _ w1 (hq.trans q2);have hsz:=NY _ _ (hq.trans q2);rw [MP] at hc;have hz2:=ET r (j+cl.size);cases o
  ·have HG:=Ad5 (HX.out.trans (HF.out.trans (by rw [Bool.false_and];first | done | rfl)));clear q2 hq hz hz2 hCl hsz;go_wp2_with fail
   refine hc.mono ?_;rintro e w2 ⟨rfl,rfl⟩;go_wp2_with fail
   (try simp only [Exit.inBlock,Exit.then]);refine bodyPost_ret (MO rfl _ _ _) rfl ?_
   exact ⟨JX HG.out,b1⟩
  ·have HG:=Ad5 (HX.out.trans (HF.out.trans (by rw [q2];first | done | rfl)));have hj:j+cl.size≤r.size:=by
    have:=FA L j C q2 h0;rw [←HC.out,←HL.out] at this;simpa using this
   have Wn:IntKind.i64.wrap ((r.size:Int) - ((r.extract (j+cl.size) r.size).size:Int))=((j+C.length:Nat):Int):=by rw [Aej _ (by omega)];omega
   have HW:=Ad5 (show (r.size:Int) - ((r.size - (j+cl.size):Nat):Int)=((j+C.length:Nat):Int) by omega);clear q2 hq hz hz2 hCl hsz;go_wp2_with fail
   refine hc.mono ?_;rintro e w2 ⟨rfl,rfl⟩;go_wp2_with fail
   (try simp only [Exit.inBlock,Exit.then]);refine bodyPost_ret (MO rfl _ _ _) rfl ?_
   exact ⟨Qa HG.out HW.out,b1⟩
theorem Bl (s:ByteArray) (w:World) :
  Calls Tryz.prog 160 #[.string s] w fun e w'=>e=.returned (.agg #[.int .u64 (ow (A5 s.data.toList) 0),.int .u64 (ow (A5 s.data.toList) 1),.int .u64 (ow (A5 s.data.toList) 2),.int .u64 (ow (A5 s.data.toList) 3)])∧Below w.heap.size w w':=by
 have hB0:=(Aeh w.heap.size w).alloc (Aec _) (.cells #[.int .u64 0,.int .u64 0,.int .u64 0,.int .u64 0] 109);have hP0:=Blk.new w #[.int .u64 0,.int .u64 0,.int .u64 0,.int .u64 0] 109 w.heap.size rfl;have hc:=Lh s (w.alloc (.cells #[.int .u64 0,.int .u64 0,.int .u64 0,.int .u64 0] 109));rw [ByteArray.toList_eq] at hc;generalize A5 s.data.toList=t at hc ⊢;generalize CH s.data.toList=ok at hc;go_enter Tryz.func160,Tryz.ntmps160;go_wp2_with fail
 refine hc.mono ?_;rintro e w1 ⟨rfl,b1⟩;have hP1:=hP0.below b1 hP0.lt;have hB1:=hB0.trans (b1.mono hB0.size);have p0:=(hP1.cell 0).trans rfl;have p1:=(hP1.cell 1).trans rfl;have p2:=(hP1.cell 2).trans rfl;have p3:=(hP1.cell 3).trans rfl;have z0:=hP1.frozen 0;have z1:=hP1.frozen 1;have z2:=hP1.frozen 2;have z3:=hP1.frozen 3;have hl:=hP1.lt;clear hc hP0 hB0 b1;have g:=((((hP1.set 0 (.int .u64 (ow t 0))).set 1 (.int .u64 (ow t 1))).set 2 (.int .u64 (ow t 2))).set 3 (.int .u64 (ow t 3))).alloc (.cells #[.int .u64 (ow t 0),.int .u64 (ow t 1),.int .u64 (ow t 2),.int .u64 (ow t 3)] 109);have hBn:=((((hB1.setCell (p:=⟨w.heap.size,0,none⟩) (Aec _) (.int .u64 (ow t 0))).setCell (p:=⟨w.heap.size,1,none⟩) (Aec _) (.int .u64 (ow t 1))).setCell (p:=⟨w.heap.size,2,none⟩) (Aec _) (.int .u64 (ow t 2))).setCell (p:=⟨w.heap.size,3,none⟩) (Aec _) (.int .u64 (ow t 3))).alloc (by simp [World.setCell];omega) (.cells #[.int .u64 (ow t 0),.int .u64 (ow t 1),.int .u64 (ow t 2),.int .u64 (ow t 3)] 109);have HG:=Ad5 g;have HBn:=Ad5 hBn;clear g hBn;go_wp2_with fail
 have g:=HG.out;have hBn:=HBn.out;clear HG HBn p0 p1 p2 p3 z0 z1 z2 z3 hP1;generalize ((((w1.setCell _ _).setCell _ _).setCell _ _).setCell _ _).alloc _=w9 at g hBn ⊢;have d0:=(g.cell 0).trans rfl;have d1:=(g.cell 1).trans rfl;have d2:=(g.cell 2).trans rfl;have d3:=(g.cell 3).trans rfl;exact bodyPost_ret (v:=.agg #[.int .u64 (ow t 0),.int .u64 (ow t 1),.int .u64 (ow t 2),.int .u64 (ow t 3)]) (by simp [results,Tryz.results160,go_sem,d0,d1,d2,d3]) rfl ⟨rfl,hBn⟩
theorem YZ (w:World):Calls Tryz.prog 150 #[.int .u8 110] w fun e w'=>e=.returned (.tuple #[.agg #[.int .u64 (ow (Ab 10 10) 0),.int .u64 (ow (Ab 10 10) 1),.int .u64 (ow (Ab 10 10) 2),.int .u64 (ow (Ab 10 10) 3)],.bool false,.bool true])∧Below w.heap.size w w':=by
 have hB0:=(Aeh w.heap.size w).alloc (Aec _) (.cells #[.int .u64 0,.int .u64 0,.int .u64 0,.int .u64 0] 109);have hP0:=Blk.new w #[.int .u64 0,.int .u64 0,.int .u64 0,.int .u64 0] 109 w.heap.size rfl;go_enter Tryz.func150,Tryz.ntmps150;go_wp2_with fail;refine (Bl _ _).mono ?_;rintro e w1 ⟨rfl,b1⟩;replace hP0:=hP0.below b1 hP0.lt;replace hB0:=hB0.trans (b1.mono hB0.size);clear b1;go_wp2_with fail;refine (CF 95 (by decide) (by decide) _ _ (by simp)).mono ?_;rintro e w2 ⟨rfl,b2⟩;replace hP0:=hP0.below b2 hP0.lt;replace hB0:=hB0.trans (b2.mono hB0.size);clear b2;go_wp2_with fail;refine (DA _ _ _).mono ?_;rintro e w3 ⟨rfl,b3⟩;replace hP0:=hP0.below b3 hP0.lt;replace hB0:=hB0.trans (b3.mono hB0.size);clear b3;generalize A5 (ByteArray.mk #[97,108,110,117,109]).data.toList ||| D2 [95]=t;go_wp2_with fail
 refine (CF 10 (by decide) (by decide) _ _ (by simp)).mono ?_;rintro e w4 ⟨rfl,b4⟩;replace hP0:=(hP0.alloc (.cells #[.int .u64 (ow t 0),.int .u64 (ow t 1),.int .u64 (ow t 2),.int .u64 (ow t 3)] 109)).below b4 (by have:=hP0.lt;simp;omega);replace hB0:=(hB0.alloc hB0.size (.cells #[.int .u64 (ow t 0),.int .u64 (ow t 1),.int .u64 (ow t 2),.int .u64 (ow t 3)] 109)).trans (b4.mono (by have:=hB0.size;simp;omega));clear b4;rw [show D2 [(10:Int)]=Ab 10 10 from DK 10];have g:=(((hP0.set 0 (.int .u64 (ow (Ab 10 10) 0))).set 1 (.int .u64 (ow (Ab 10 10) 1))).set 2 (.int .u64 (ow (Ab 10 10) 2))).set 3 (.int .u64 (ow (Ab 10 10) 3));have hBn:=(((hB0.setCell (p:=⟨w.heap.size,0,none⟩) (Aec _) (.int .u64 (ow (Ab 10 10) 0))).setCell (p:=⟨w.heap.size,1,none⟩) (Aec _) (.int .u64 (ow (Ab 10 10) 1))).setCell (p:=⟨w.heap.size,2,none⟩) (Aec _) (.int .u64 (ow (Ab 10 10) 2))).setCell (p:=⟨w.heap.size,3,none⟩) (Aec _) (.int .u64 (ow (Ab 10 10) 3));have p0:=(hP0.cell 0).trans rfl;have p1:=(hP0.cell 1).trans rfl;have p2:=(hP0.cell 2).trans rfl;have p3:=(hP0.cell 3).trans rfl;have z0:=hP0.frozen 0;have z1:=hP0.frozen 1;have z2:=hP0.frozen 2;have z3:=hP0.frozen 3;have hl:=hP0.lt;have HG:=Ad5 g;have HBn:=Ad5 hBn;clear g hBn hP0 hB0;go_wp2_with fail;have g:=HG.out;have hBn:=HBn.out;clear HG HBn p0 p1 p2 p3 z0 z1 z2 z3;generalize (((World.setCell _ _ _).setCell _ _).setCell _ _).setCell _ _=w9 at g hBn ⊢;have d0:=(g.cell 0).trans rfl;have d1:=(g.cell 1).trans rfl;have d2:=(g.cell 2).trans rfl;have d3:=(g.cell 3).trans rfl;exact bodyPost_ret (v:=.tuple #[.agg #[.int .u64 (ow (Ab 10 10) 0),.int .u64 (ow (Ab 10 10) 1),.int .u64 (ow (Ab 10 10) 2),.int .u64 (ow (Ab 10 10) 3)],.bool false,.bool true]) (by simp [results,Tryz.results150,go_sem,d0,d1,d2,d3]) rfl ⟨rfl,hBn⟩
theorem Za (w:World):Calls Tryz.prog 150 #[.int .u8 116] w fun e w'=>e=.returned (.tuple #[.agg #[.int .u64 (ow (Ab 9 9) 0),.int .u64 (ow (Ab 9 9) 1),.int .u64 (ow (Ab 9 9) 2),.int .u64 (ow (Ab 9 9) 3)],.bool true,.bool true])∧Below w.heap.size w w':=by
 have hB0:=(Aeh w.heap.size w).alloc (Aec _) (.cells #[.int .u64 0,.int .u64 0,.int .u64 0,.int .u64 0] 109);have hP0:=Blk.new w #[.int .u64 0,.int .u64 0,.int .u64 0,.int .u64 0] 109 w.heap.size rfl;go_enter Tryz.func150,Tryz.ntmps150;go_wp2_with fail;refine (Bl _ _).mono ?_;rintro e w1 ⟨rfl,b1⟩;replace hP0:=hP0.below b1 hP0.lt;replace hB0:=hB0.trans (b1.mono hB0.size);clear b1;go_wp2_with fail;refine (CF 95 (by decide) (by decide) _ _ (by simp)).mono ?_;rintro e w2 ⟨rfl,b2⟩;replace hP0:=hP0.below b2 hP0.lt;replace hB0:=hB0.trans (b2.mono hB0.size);clear b2;go_wp2_with fail;refine (DA _ _ _).mono ?_;rintro e w3 ⟨rfl,b3⟩;replace hP0:=hP0.below b3 hP0.lt;replace hB0:=hB0.trans (b3.mono hB0.size);clear b3;generalize A5 (ByteArray.mk #[97,108,110,117,109]).data.toList ||| D2 [95]=t;go_wp2_with fail
 refine (CF 9 (by decide) (by decide) _ _ (by simp)).mono ?_;rintro e w4 ⟨rfl,b4⟩;replace hP0:=(hP0.alloc (.cells #[.int .u64 (ow t 0),.int .u64 (ow t 1),.int .u64 (ow t 2),.int .u64 (ow t 3)] 109)).below b4 (by have:=hP0.lt;simp;omega);replace hB0:=(hB0.alloc hB0.size (.cells #[.int .u64 (ow t 0),.int .u64 (ow t 1),.int .u64 (ow t 2),.int .u64 (ow t 3)] 109)).trans (b4.mono (by have:=hB0.size;simp;omega));clear b4;rw [show D2 [(9:Int)]=Ab 9 9 from DK 9];have g:=(((hP0.set 0 (.int .u64 (ow (Ab 9 9) 0))).set 1 (.int .u64 (ow (Ab 9 9) 1))).set 2 (.int .u64 (ow (Ab 9 9) 2))).set 3 (.int .u64 (ow (Ab 9 9) 3));have hBn:=(((hB0.setCell (p:=⟨w.heap.size,0,none⟩) (Aec _) (.int .u64 (ow (Ab 9 9) 0))).setCell (p:=⟨w.heap.size,1,none⟩) (Aec _) (.int .u64 (ow (Ab 9 9) 1))).setCell (p:=⟨w.heap.size,2,none⟩) (Aec _) (.int .u64 (ow (Ab 9 9) 2))).setCell (p:=⟨w.heap.size,3,none⟩) (Aec _) (.int .u64 (ow (Ab 9 9) 3));have p0:=(hP0.cell 0).trans rfl;have p1:=(hP0.cell 1).trans rfl;have p2:=(hP0.cell 2).trans rfl;have p3:=(hP0.cell 3).trans rfl;have z0:=hP0.frozen 0;have z1:=hP0.frozen 1;have z2:=hP0.frozen 2;have z3:=hP0.frozen 3;have hl:=hP0.lt;have HG:=Ad5 g;have HBn:=Ad5 hBn;clear g hBn hP0 hB0;go_wp2_with fail;have g:=HG.out;have hBn:=HBn.out;clear HG HBn p0 p1 p2 p3 z0 z1 z2 z3;generalize (((World.setCell _ _ _).setCell _ _).setCell _ _).setCell _ _=w9 at g hBn ⊢;have d0:=(g.cell 0).trans rfl;have d1:=(g.cell 1).trans rfl;have d2:=(g.cell 2).trans rfl;have d3:=(g.cell 3).trans rfl;exact bodyPost_ret (v:=.tuple #[.agg #[.int .u64 (ow (Ab 9 9) 0),.int .u64 (ow (Ab 9 9) 1),.int .u64 (ow (Ab 9 9) 2),.int .u64 (ow (Ab 9 9) 3)],.bool true,.bool true]) (by simp [results,Tryz.results150,go_sem,d0,d1,d2,d3]) rfl ⟨rfl,hBn⟩
theorem Zb (w:World):Calls Tryz.prog 150 #[.int .u8 119] w fun e w'=>e=.returned (.tuple #[.agg #[.int .u64 (ow Ai 0),.int .u64 (ow Ai 1),.int .u64 (ow Ai 2),.int .u64 (ow Ai 3)],.bool true,.bool true])∧Below w.heap.size w w':=by
 have hB0:=(Aeh w.heap.size w).alloc (Aec _) (.cells #[.int .u64 0,.int .u64 0,.int .u64 0,.int .u64 0] 109);have hP0:=Blk.new w #[.int .u64 0,.int .u64 0,.int .u64 0,.int .u64 0] 109 w.heap.size rfl;go_enter Tryz.func150,Tryz.ntmps150;go_wp2_with fail;refine (Bl _ _).mono ?_;rintro e w1 ⟨rfl,b1⟩;replace hP0:=hP0.below b1 hP0.lt;replace hB0:=hB0.trans (b1.mono hB0.size);clear b1;go_wp2_with fail;refine (CF 95 (by decide) (by decide) _ _ (by simp)).mono ?_;rintro e w2 ⟨rfl,b2⟩;replace hP0:=hP0.below b2 hP0.lt;replace hB0:=hB0.trans (b2.mono hB0.size);clear b2;go_wp2_with fail;refine (DA _ _ _).mono ?_;rintro e w3 ⟨rfl,b3⟩;replace hP0:=hP0.below b3 hP0.lt;replace hB0:=hB0.trans (b3.mono hB0.size);clear b3;have hws:A5 (ByteArray.mk #[97,108,110,117,109]).data.toList ||| D2 [95]=Ai:=by unfold Ai;rw [show D2 [(95:Int)]=Ab 95 95 from DK 95]
 rw [hws];clear hws;have hP0:=hP0.alloc (.cells #[.int .u64 (ow Ai 0),.int .u64 (ow Ai 1),.int .u64 (ow Ai 2),.int .u64 (ow Ai 3)] 109);have hB0:=hB0.alloc hB0.size (.cells #[.int .u64 (ow Ai 0),.int .u64 (ow Ai 1),.int .u64 (ow Ai 2),.int .u64 (ow Ai 3)] 109);have g:=(((hP0.set 0 (.int .u64 (ow Ai 0))).set 1 (.int .u64 (ow Ai 1))).set 2 (.int .u64 (ow Ai 2))).set 3 (.int .u64 (ow Ai 3));have hBn:=(((hB0.setCell (p:=⟨w.heap.size,0,none⟩) (Aec _) (.int .u64 (ow Ai 0))).setCell (p:=⟨w.heap.size,1,none⟩) (Aec _) (.int .u64 (ow Ai 1))).setCell (p:=⟨w.heap.size,2,none⟩) (Aec _) (.int .u64 (ow Ai 2))).setCell (p:=⟨w.heap.size,3,none⟩) (Aec _) (.int .u64 (ow Ai 3));have p0:=(hP0.cell 0).trans rfl;have p1:=(hP0.cell 1).trans rfl;have p2:=(hP0.cell 2).trans rfl;have p3:=(hP0.cell 3).trans rfl;have z0:=hP0.frozen 0;have z1:=hP0.frozen 1;have z2:=hP0.frozen 2;have z3:=hP0.frozen 3;have hl:=hP0.lt;have HG:=Ad5 g;have HBn:=Ad5 hBn;clear g hBn hP0 hB0;go_wp2_with fail;have g:=HG.out;have hBn:=HBn.out;clear HG HBn p0 p1 p2 p3 z0 z1 z2 z3;generalize (((World.setCell _ _ _).setCell _ _).setCell _ _).setCell _ _=w9 at g hBn ⊢;have d0:=(g.cell 0).trans rfl;have d1:=(g.cell 1).trans rfl;have d2:=(g.cell 2).trans rfl;have d3:=(g.cell 3).trans rfl;exact bodyPost_ret (v:=.tuple #[.agg #[.int .u64 (ow Ai 0),.int .u64 (ow Ai 1),.int .u64 (ow Ai 2),.int .u64 (ow Ai 3)],.bool true,.bool true]) (by simp [results,Tryz.results150,go_sem,d0,d1,d2,d3]) rfl ⟨rfl,hBn⟩
theorem Ab6 (w:World):Calls Tryz.prog 150 #[.int .u8 87] w fun e w'=>e=.returned (.tuple #[.agg #[.int .u64 (ow (~~~Ai) 0),.int .u64 (ow (~~~Ai) 1),.int .u64 (ow (~~~Ai) 2),.int .u64 (ow (~~~Ai) 3)],.bool true,.bool true])∧Below w.heap.size w w':=by
 have hB0:=(Aeh w.heap.size w).alloc (Aec _) (.cells #[.int .u64 0,.int .u64 0,.int .u64 0,.int .u64 0] 109);have hP0:=Blk.new w #[.int .u64 0,.int .u64 0,.int .u64 0,.int .u64 0] 109 w.heap.size rfl;go_enter Tryz.func150,Tryz.ntmps150;go_wp2_with fail;refine (Bl _ _).mono ?_;rintro e w1 ⟨rfl,b1⟩;replace hP0:=hP0.below b1 hP0.lt;replace hB0:=hB0.trans (b1.mono hB0.size);clear b1;go_wp2_with fail;refine (CF 95 (by decide) (by decide) _ _ (by simp)).mono ?_;rintro e w2 ⟨rfl,b2⟩;replace hP0:=hP0.below b2 hP0.lt;replace hB0:=hB0.trans (b2.mono hB0.size);clear b2;go_wp2_with fail;refine (DA _ _ _).mono ?_;rintro e w3 ⟨rfl,b3⟩;replace hP0:=hP0.below b3 hP0.lt;replace hB0:=hB0.trans (b3.mono hB0.size);clear b3;have hws:A5 (ByteArray.mk #[97,108,110,117,109]).data.toList ||| D2 [95]=Ai:=by unfold Ai;rw [show D2 [(95:Int)]=Ab 95 95 from DK 95]
 rw [hws];clear hws;go_wp2_with fail
 refine (Gb _ _).mono ?_;rintro e w4 ⟨rfl,b4⟩;replace hP0:=(hP0.alloc (.cells #[.int .u64 (ow Ai 0),.int .u64 (ow Ai 1),.int .u64 (ow Ai 2),.int .u64 (ow Ai 3)] 109)).below b4 (by have:=hP0.lt;simp;omega);replace hB0:=(hB0.alloc hB0.size (.cells #[.int .u64 (ow Ai 0),.int .u64 (ow Ai 1),.int .u64 (ow Ai 2),.int .u64 (ow Ai 3)] 109)).trans (b4.mono (by have:=hB0.size;simp;omega));clear b4;have g:=(((hP0.set 0 (.int .u64 (ow (~~~Ai) 0))).set 1 (.int .u64 (ow (~~~Ai) 1))).set 2 (.int .u64 (ow (~~~Ai) 2))).set 3 (.int .u64 (ow (~~~Ai) 3));have hBn:=(((hB0.setCell (p:=⟨w.heap.size,0,none⟩) (Aec _) (.int .u64 (ow (~~~Ai) 0))).setCell (p:=⟨w.heap.size,1,none⟩) (Aec _) (.int .u64 (ow (~~~Ai) 1))).setCell (p:=⟨w.heap.size,2,none⟩) (Aec _) (.int .u64 (ow (~~~Ai) 2))).setCell (p:=⟨w.heap.size,3,none⟩) (Aec _) (.int .u64 (ow (~~~Ai) 3));have p0:=(hP0.cell 0).trans rfl;have p1:=(hP0.cell 1).trans rfl;have p2:=(hP0.cell 2).trans rfl;have p3:=(hP0.cell 3).trans rfl;have z0:=hP0.frozen 0;have z1:=hP0.frozen 1;have z2:=hP0.frozen 2;have z3:=hP0.frozen 3;have hl:=hP0.lt;have HG:=Ad5 g;have HBn:=Ad5 hBn;clear g hBn hP0 hB0;go_wp2_with fail;have g:=HG.out;have hBn:=HBn.out;clear HG HBn p0 p1 p2 p3 z0 z1 z2 z3;generalize (((World.setCell _ _ _).setCell _ _).setCell _ _).setCell _ _=w9 at g hBn ⊢;have d0:=(g.cell 0).trans rfl;have d1:=(g.cell 1).trans rfl;have d2:=(g.cell 2).trans rfl;have d3:=(g.cell 3).trans rfl;exact bodyPost_ret (v:=.tuple #[.agg #[.int .u64 (ow (~~~Ai) 0),.int .u64 (ow (~~~Ai) 1),.int .u64 (ow (~~~Ai) 2),.int .u64 (ow (~~~Ai) 3)],.bool true,.bool true]) (by simp [results,Tryz.results150,go_sem,d0,d1,d2,d3]) rfl ⟨rfl,hBn⟩
theorem Zc (w:World):Calls Tryz.prog 150 #[.int .u8 115] w fun e w'=>e=.returned (.tuple #[.agg #[.int .u64 (ow Ap 0),.int .u64 (ow Ap 1),.int .u64 (ow Ap 2),.int .u64 (ow Ap 3)],.bool true,.bool true])∧Below w.heap.size w w':=by
 have hB0:=(Aeh w.heap.size w).alloc (Aec _) (.cells #[.int .u64 0,.int .u64 0,.int .u64 0,.int .u64 0] 109);have hP0:=Blk.new w #[.int .u64 0,.int .u64 0,.int .u64 0,.int .u64 0] 109 w.heap.size rfl;go_enter Tryz.func150,Tryz.ntmps150;go_wp2_with fail;refine (Bl _ _).mono ?_;rintro e w1 ⟨rfl,b1⟩;replace hP0:=hP0.below b1 hP0.lt;replace hB0:=hB0.trans (b1.mono hB0.size);clear b1;go_wp2_with fail;refine (CF 95 (by decide) (by decide) _ _ (by simp)).mono ?_;rintro e w2 ⟨rfl,b2⟩;replace hP0:=hP0.below b2 hP0.lt;replace hB0:=hB0.trans (b2.mono hB0.size);clear b2;go_wp2_with fail;refine (DA _ _ _).mono ?_;rintro e w3 ⟨rfl,b3⟩;replace hP0:=hP0.below b3 hP0.lt;replace hB0:=hB0.trans (b3.mono hB0.size);clear b3;generalize A5 (ByteArray.mk #[97,108,110,117,109]).data.toList ||| D2 [95]=t;go_wp2_with fail
 refine (Bl _ _).mono ?_;rintro e w4 ⟨rfl,b4⟩;replace hP0:=(hP0.alloc (.cells #[.int .u64 (ow t 0),.int .u64 (ow t 1),.int .u64 (ow t 2),.int .u64 (ow t 3)] 109)).below b4 (by have:=hP0.lt;simp;omega);replace hB0:=(hB0.alloc hB0.size (.cells #[.int .u64 (ow t 0),.int .u64 (ow t 1),.int .u64 (ow t 2),.int .u64 (ow t 3)] 109)).trans (b4.mono (by have:=hB0.size;simp;omega));clear b4;rw [show A5 (ByteArray.mk #[115,112,97,99,101]).data.toList=Ap from rfl];have g:=(((hP0.set 0 (.int .u64 (ow Ap 0))).set 1 (.int .u64 (ow Ap 1))).set 2 (.int .u64 (ow Ap 2))).set 3 (.int .u64 (ow Ap 3));have hBn:=(((hB0.setCell (p:=⟨w.heap.size,0,none⟩) (Aec _) (.int .u64 (ow Ap 0))).setCell (p:=⟨w.heap.size,1,none⟩) (Aec _) (.int .u64 (ow Ap 1))).setCell (p:=⟨w.heap.size,2,none⟩) (Aec _) (.int .u64 (ow Ap 2))).setCell (p:=⟨w.heap.size,3,none⟩) (Aec _) (.int .u64 (ow Ap 3));have p0:=(hP0.cell 0).trans rfl;have p1:=(hP0.cell 1).trans rfl;have p2:=(hP0.cell 2).trans rfl;have p3:=(hP0.cell 3).trans rfl;have z0:=hP0.frozen 0;have z1:=hP0.frozen 1;have z2:=hP0.frozen 2;have z3:=hP0.frozen 3;have hl:=hP0.lt;have HG:=Ad5 g;have HBn:=Ad5 hBn;clear g hBn hP0 hB0;go_wp2_with fail;have g:=HG.out;have hBn:=HBn.out;clear HG HBn p0 p1 p2 p3 z0 z1 z2 z3;generalize (((World.setCell _ _ _).setCell _ _).setCell _ _).setCell _ _=w9 at g hBn ⊢;have d0:=(g.cell 0).trans rfl;have d1:=(g.cell 1).trans rfl;have d2:=(g.cell 2).trans rfl;have d3:=(g.cell 3).trans rfl;exact bodyPost_ret (v:=.tuple #[.agg #[.int .u64 (ow Ap 0),.int .u64 (ow Ap 1),.int .u64 (ow Ap 2),.int .u64 (ow Ap 3)],.bool true,.bool true]) (by simp [results,Tryz.results150,go_sem,d0,d1,d2,d3]) rfl ⟨rfl,hBn⟩
theorem Ab7 (w:World):Calls Tryz.prog 150 #[.int .u8 83] w fun e w'=>e=.returned (.tuple #[.agg #[.int .u64 (ow (~~~Ap) 0),.int .u64 (ow (~~~Ap) 1),.int .u64 (ow (~~~Ap) 2),.int .u64 (ow (~~~Ap) 3)],.bool true,.bool true])∧Below w.heap.size w w':=by
 have hB0:=(Aeh w.heap.size w).alloc (Aec _) (.cells #[.int .u64 0,.int .u64 0,.int .u64 0,.int .u64 0] 109);have hP0:=Blk.new w #[.int .u64 0,.int .u64 0,.int .u64 0,.int .u64 0] 109 w.heap.size rfl;go_enter Tryz.func150,Tryz.ntmps150;go_wp2_with fail;refine (Bl _ _).mono ?_;rintro e w1 ⟨rfl,b1⟩;replace hP0:=hP0.below b1 hP0.lt;replace hB0:=hB0.trans (b1.mono hB0.size);clear b1;go_wp2_with fail;refine (CF 95 (by decide) (by decide) _ _ (by simp)).mono ?_;rintro e w2 ⟨rfl,b2⟩;replace hP0:=hP0.below b2 hP0.lt;replace hB0:=hB0.trans (b2.mono hB0.size);clear b2;go_wp2_with fail;refine (DA _ _ _).mono ?_;rintro e w3 ⟨rfl,b3⟩;replace hP0:=hP0.below b3 hP0.lt;replace hB0:=hB0.trans (b3.mono hB0.size);clear b3;generalize A5 (ByteArray.mk #[97,108,110,117,109]).data.toList ||| D2 [95]=t;go_wp2_with fail
 refine (Bl _ _).mono ?_;rintro e w4 ⟨rfl,b4⟩;replace hP0:=(hP0.alloc (.cells #[.int .u64 (ow t 0),.int .u64 (ow t 1),.int .u64 (ow t 2),.int .u64 (ow t 3)] 109)).below b4 (by have:=hP0.lt;simp;omega);replace hB0:=(hB0.alloc hB0.size (.cells #[.int .u64 (ow t 0),.int .u64 (ow t 1),.int .u64 (ow t 2),.int .u64 (ow t 3)] 109)).trans (b4.mono (by have:=hB0.size;simp;omega));clear b4;rw [show A5 (ByteArray.mk #[115,112,97,99,101]).data.toList=Ap from rfl];go_wp2_with fail
 refine (Gb _ _).mono ?_;rintro e w5 ⟨rfl,b5⟩;replace hP0:=hP0.below b5 hP0.lt;replace hB0:=hB0.trans (b5.mono hB0.size);clear b5;have g:=(((hP0.set 0 (.int .u64 (ow (~~~Ap) 0))).set 1 (.int .u64 (ow (~~~Ap) 1))).set 2 (.int .u64 (ow (~~~Ap) 2))).set 3 (.int .u64 (ow (~~~Ap) 3));have hBn:=(((hB0.setCell (p:=⟨w.heap.size,0,none⟩) (Aec _) (.int .u64 (ow (~~~Ap) 0))).setCell (p:=⟨w.heap.size,1,none⟩) (Aec _) (.int .u64 (ow (~~~Ap) 1))).setCell (p:=⟨w.heap.size,2,none⟩) (Aec _) (.int .u64 (ow (~~~Ap) 2))).setCell (p:=⟨w.heap.size,3,none⟩) (Aec _) (.int .u64 (ow (~~~Ap) 3));have p0:=(hP0.cell 0).trans rfl;have p1:=(hP0.cell 1).trans rfl;have p2:=(hP0.cell 2).trans rfl;have p3:=(hP0.cell 3).trans rfl;have z0:=hP0.frozen 0;have z1:=hP0.frozen 1;have z2:=hP0.frozen 2;have z3:=hP0.frozen 3;have hl:=hP0.lt;have HG:=Ad5 g;have HBn:=Ad5 hBn;clear g hBn hP0 hB0;go_wp2_with fail;have g:=HG.out;have hBn:=HBn.out;clear HG HBn p0 p1 p2 p3 z0 z1 z2 z3;generalize (((World.setCell _ _ _).setCell _ _).setCell _ _).setCell _ _=w9 at g hBn ⊢;have d0:=(g.cell 0).trans rfl;have d1:=(g.cell 1).trans rfl;have d2:=(g.cell 2).trans rfl;have d3:=(g.cell 3).trans rfl;exact bodyPost_ret (v:=.tuple #[.agg #[.int .u64 (ow (~~~Ap) 0),.int .u64 (ow (~~~Ap) 1),.int .u64 (ow (~~~Ap) 2),.int .u64 (ow (~~~Ap) 3)],.bool true,.bool true]) (by simp [results,Tryz.results150,go_sem,d0,d1,d2,d3]) rfl ⟨rfl,hBn⟩
theorem Zd (c:Nat) (w:World) (hc:c < 256) (h1:c≠110) (h2:c≠116) (h3:c≠119) (h4:c≠87) (h5:c≠115) (h6:c≠83) (hp:ohas Ei c=true):Calls Tryz.prog 150 #[.int .u8 (c:Int)] w fun e w'=>e=.returned (.tuple #[.agg #[.int .u64 (ow (Ab c c) 0),.int .u64 (ow (Ab c c) 1),.int .u64 (ow (Ab c c) 2),.int .u64 (ow (Ab c c) 3)],.bool false,.bool true])∧Below w.heap.size w w':=by
 have e110:((c:Int) == 110)=false:=by simp;omega
 have e116:((c:Int) == 116)=false:=by simp;omega
 have e119:((c:Int) == 119)=false:=by simp;omega
 have e87:((c:Int) == 87)=false:=by simp;omega
 have e115:((c:Int) == 115)=false:=by simp;omega
 have e83:((c:Int) == 83)=false:=by simp;omega
 have hc0:(0:Int)≤(c:Int):=by omega
 have hc1:(c:Int)≤255:=by omega
 clear h1 h2 h3 h4 h5 h6;have hB0:=(Aeh w.heap.size w).alloc (Aec _) (.cells #[.int .u64 0,.int .u64 0,.int .u64 0,.int .u64 0] 109);have hP0:=Blk.new w #[.int .u64 0,.int .u64 0,.int .u64 0,.int .u64 0] 109 w.heap.size rfl;go_enter Tryz.func150,Tryz.ntmps150;go_wp2_with fail;refine (Bl _ _).mono ?_;rintro e w1 ⟨rfl,b1⟩;replace hP0:=hP0.below b1 hP0.lt;replace hB0:=hB0.trans (b1.mono hB0.size);clear b1;go_wp2_with fail;refine (CF 95 (by decide) (by decide) _ _ (by simp)).mono ?_;rintro e w2 ⟨rfl,b2⟩;replace hP0:=hP0.below b2 hP0.lt;replace hB0:=hB0.trans (b2.mono hB0.size);clear b2;go_wp2_with fail;refine (DA _ _ _).mono ?_;rintro e w3 ⟨rfl,b3⟩;replace hP0:=hP0.below b3 hP0.lt;replace hB0:=hB0.trans (b3.mono hB0.size);clear b3;generalize A5 (ByteArray.mk #[97,108,110,117,109]).data.toList ||| D2 [95]=t;go_wp2_with fail
 refine (Bl _ _).mono ?_;rintro e w4 ⟨rfl,b4⟩;replace hP0:=(hP0.alloc (.cells #[.int .u64 (ow t 0),.int .u64 (ow t 1),.int .u64 (ow t 2),.int .u64 (ow t 3)] 109)).below b4 (by have:=hP0.lt;simp;omega);replace hB0:=(hB0.alloc hB0.size (.cells #[.int .u64 (ow t 0),.int .u64 (ow t 1),.int .u64 (ow t 2),.int .u64 (ow t 3)] 109)).trans (b4.mono (by have:=hB0.size;simp;omega));clear b4;rw [show A5 (ByteArray.mk #[112,117,110,99,116]).data.toList=Ei from rfl];go_wp2_with fail
 refine (Rw _ _ hc0 hc1 _).mono ?_;rintro e w5 ⟨rfl,b5⟩;replace hP0:=hP0.below b5 hP0.lt;replace hB0:=hB0.trans (b5.mono hB0.size);clear b5;rw [show ohas Ei ((c:Int)).toNat=true from hp];go_wp2_with fail
 refine (CF (c:Int) hc0 hc1 _ _ (by simp)).mono ?_;rintro e w6 ⟨rfl,b6⟩;replace hP0:=hP0.below b6 hP0.lt;replace hB0:=hB0.trans (b6.mono hB0.size);clear b6;rw [show D2 [(c:Int)]=Ab c c from DK c];have g:=(((hP0.set 0 (.int .u64 (ow (Ab c c) 0))).set 1 (.int .u64 (ow (Ab c c) 1))).set 2 (.int .u64 (ow (Ab c c) 2))).set 3 (.int .u64 (ow (Ab c c) 3));have hBn:=(((hB0.setCell (p:=⟨w.heap.size,0,none⟩) (Aec _) (.int .u64 (ow (Ab c c) 0))).setCell (p:=⟨w.heap.size,1,none⟩) (Aec _) (.int .u64 (ow (Ab c c) 1))).setCell (p:=⟨w.heap.size,2,none⟩) (Aec _) (.int .u64 (ow (Ab c c) 2))).setCell (p:=⟨w.heap.size,3,none⟩) (Aec _) (.int .u64 (ow (Ab c c) 3));have p0:=(hP0.cell 0).trans rfl;have p1:=(hP0.cell 1).trans rfl;have p2:=(hP0.cell 2).trans rfl;have p3:=(hP0.cell 3).trans rfl;have z0:=hP0.frozen 0;have z1:=hP0.frozen 1;have z2:=hP0.frozen 2;have z3:=hP0.frozen 3;have hl:=hP0.lt;have HG:=Ad5 g;have HBn:=Ad5 hBn;clear g hBn hP0 hB0;go_wp2_with fail;have g:=HG.out;have hBn:=HBn.out;clear HG HBn p0 p1 p2 p3 z0 z1 z2 z3;generalize (((World.setCell _ _ _).setCell _ _).setCell _ _).setCell _ _=w9 at g hBn ⊢;have d0:=(g.cell 0).trans rfl;have d1:=(g.cell 1).trans rfl;have d2:=(g.cell 2).trans rfl;have d3:=(g.cell 3).trans rfl;exact bodyPost_ret (v:=.tuple #[.agg #[.int .u64 (ow (Ab c c) 0),.int .u64 (ow (Ab c c) 1),.int .u64 (ow (Ab c c) 2),.int .u64 (ow (Ab c c) 3)],.bool false,.bool true]) (by simp [results,Tryz.results150,go_sem,d0,d1,d2,d3]) rfl ⟨rfl,hBn⟩
theorem Ab8 (c:Nat) (w:World) (hc:c < 256) (h1:c≠110) (h2:c≠116) (h3:c≠119) (h4:c≠87) (h5:c≠115) (h6:c≠83) (hp:ohas Ei c=false):Calls Tryz.prog 150 #[.int .u8 (c:Int)] w fun e w'=>e=.returned (.tuple #[.agg #[.int .u64 0,.int .u64 0,.int .u64 0,.int .u64 0],.bool false,.bool false])∧Below w.heap.size w w':=by
 have e110:((c:Int) == 110)=false:=by simp;omega
 have e116:((c:Int) == 116)=false:=by simp;omega
 have e119:((c:Int) == 119)=false:=by simp;omega
 have e87:((c:Int) == 87)=false:=by simp;omega
 have e115:((c:Int) == 115)=false:=by simp;omega
 have e83:((c:Int) == 83)=false:=by simp;omega
 have hc0:(0:Int)≤(c:Int):=by omega
 have hc1:(c:Int)≤255:=by omega
 clear h1 h2 h3 h4 h5 h6;have hB0:=(Aeh w.heap.size w).alloc (Aec _) (.cells #[.int .u64 0,.int .u64 0,.int .u64 0,.int .u64 0] 109);have hP0:=Blk.new w #[.int .u64 0,.int .u64 0,.int .u64 0,.int .u64 0] 109 w.heap.size rfl;go_enter Tryz.func150,Tryz.ntmps150;go_wp2_with fail;refine (Bl _ _).mono ?_;rintro e w1 ⟨rfl,b1⟩;replace hP0:=hP0.below b1 hP0.lt;replace hB0:=hB0.trans (b1.mono hB0.size);clear b1;go_wp2_with fail;refine (CF 95 (by decide) (by decide) _ _ (by simp)).mono ?_;rintro e w2 ⟨rfl,b2⟩;replace hP0:=hP0.below b2 hP0.lt;replace hB0:=hB0.trans (b2.mono hB0.size);clear b2;go_wp2_with fail;refine (DA _ _ _).mono ?_;rintro e w3 ⟨rfl,b3⟩;replace hP0:=hP0.below b3 hP0.lt;replace hB0:=hB0.trans (b3.mono hB0.size);clear b3;generalize A5 (ByteArray.mk #[97,108,110,117,109]).data.toList ||| D2 [95]=t;go_wp2_with fail
 refine (Bl _ _).mono ?_;rintro e w4 ⟨rfl,b4⟩;replace hP0:=(hP0.alloc (.cells #[.int .u64 (ow t 0),.int .u64 (ow t 1),.int .u64 (ow t 2),.int .u64 (ow t 3)] 109)).below b4 (by have:=hP0.lt;simp;omega);replace hB0:=(hB0.alloc hB0.size (.cells #[.int .u64 (ow t 0),.int .u64 (ow t 1),.int .u64 (ow t 2),.int .u64 (ow t 3)] 109)).trans (b4.mono (by have:=hB0.size;simp;omega));clear b4;rw [show A5 (ByteArray.mk #[112,117,110,99,116]).data.toList=Ei from rfl];go_wp2_with fail
 refine (Rw _ _ hc0 hc1 _).mono ?_;rintro e w5 ⟨rfl,b5⟩;replace hP0:=hP0.below b5 hP0.lt;replace hB0:=hB0.trans (b5.mono hB0.size);clear b5;rw [show ohas Ei ((c:Int)).toNat=false from hp];have g:=(((hP0.set 0 (.int .u64 0)).set 1 (.int .u64 0)).set 2 (.int .u64 0)).set 3 (.int .u64 0);have hBn:=(((hB0.setCell (p:=⟨w.heap.size,0,none⟩) (Aec _) (.int .u64 0)).setCell (p:=⟨w.heap.size,1,none⟩) (Aec _) (.int .u64 0)).setCell (p:=⟨w.heap.size,2,none⟩) (Aec _) (.int .u64 0)).setCell (p:=⟨w.heap.size,3,none⟩) (Aec _) (.int .u64 0);have p0:=(hP0.cell 0).trans rfl;have p1:=(hP0.cell 1).trans rfl;have p2:=(hP0.cell 2).trans rfl;have p3:=(hP0.cell 3).trans rfl;have z0:=hP0.frozen 0;have z1:=hP0.frozen 1;have z2:=hP0.frozen 2;have z3:=hP0.frozen 3;have hl:=hP0.lt;have HG:=Ad5 g;have HBn:=Ad5 hBn;clear g hBn hP0 hB0;go_wp2_with fail;have g:=HG.out;have hBn:=HBn.out;clear HG HBn p0 p1 p2 p3 z0 z1 z2 z3;generalize (((World.setCell _ _ _).setCell _ _).setCell _ _).setCell _ _=w9 at g hBn ⊢;have d0:=(g.cell 0).trans rfl;have d1:=(g.cell 1).trans rfl;have d2:=(g.cell 2).trans rfl;have d3:=(g.cell 3).trans rfl;exact bodyPost_ret (v:=.tuple #[.agg #[.int .u64 0,.int .u64 0,.int .u64 0,.int .u64 0],.bool false,.bool false]) (by simp [results,Tryz.results150,go_sem,d0,d1,d2,d3]) rfl ⟨rfl,hBn⟩
def Qb (r:Option (OSet × Bool)):Value:=match r with
 | some q=>.tuple #[.agg #[.int .u64 (ow q.1 0),.int .u64 (ow q.1 1),.int .u64 (ow q.1 2),.int .u64 (ow q.1 3)],.bool q.2,.bool true]
 | none=>.tuple #[.agg #[.int .u64 0,.int .u64 0,.int .u64 0,.int .u64 0],.bool false,.bool false]
theorem Gj (c:Nat) (hc:c < 256) (w:World):Calls Tryz.prog 150 #[.int .u8 (c:Int)] w fun e w'=>e=.returned (Qb (CG c))∧Below w.heap.size w w':=by
 unfold CG;split
 ·rename_i h;subst h;exact YZ w
 split
 ·rename_i h;subst h;exact Za w
 split
 ·rename_i h;subst h;exact Zb w
 split
 ·rename_i h;subst h;exact Ab6 w
 split
 ·rename_i h;subst h;exact Zc w
 split
 ·rename_i h;subst h;exact Ab7 w
 split
 ·rename_i h1 h2 h3 h4 h5 h6 h7;exact Zd c w hc h1 h2 h3 h4 h5 h6 h7
 ·rename_i h1 h2 h3 h4 h5 h6 h7;exact Ab8 c w hc h1 h2 h3 h4 h5 h6 (by simpa using h7)
def Iw (k e:Nat) (r:Ending):Prop:=r=.panicked [{ v:=.iface 198 (.agg #[.int .i64 (k:Int),.int .i64 (e:Int)]),recovered:=false }]
def BdR (r:ReRep) (B p:Nat) (s:ByteArray) (st:ReSt) (es:List Bool) (dep:Nat) (mv cv:Value) (w:World) (e:Ending) (w':World):Prop:=∃ mv',RStep p w mv cv w' mv' cv∧match r with
 | .none=>e=.returned (.tuple #[.int .i64 0,.int .i64 0,.bool false])∧Rd B p w' s st es dep mv' cv
 | .bad=>Iw st.pos 7 e
 | .some mn mx c j=>e=.returned (.tuple #[.int .i64 mn,.int .i64 mx,.bool true])∧Rd B p w' s ((if c=0 then st else st.mark c).to j) es dep mv' cv
theorem Ic {r:ReRep} {B p:Nat} {s:ByteArray} {st:ReSt} {es:List Bool} {dep:Nat} {mv cv mv':Value} {w w':World} {a b:Int} {c j:Nat} (h:r=.some a b c j) (hS:RStep p w mv cv w' mv' cv) (hR:Rd B p w' s ((if c=0 then st else st.mark c).to j) es dep mv' cv) :
  BdR r B p s st es dep mv cv w (.returned (.tuple #[.int .i64 a,.int .i64 b,.bool true])) w':=by subst h;exact ⟨mv',hS,rfl,hR⟩
theorem VR {r:ReRep} {B p:Nat} {s:ByteArray} {st:ReSt} {es:List Bool} {dep:Nat} {mv cv:Value} {w w':World} (h:r=.none) (hS:RStep p w mv cv w' mv cv) (hR:Rd B p w' s st es dep mv cv) :
  BdR r B p s st es dep mv cv w (.returned (.tuple #[.int .i64 0,.int .i64 0,.bool false])) w':=by subst h;exact ⟨mv,hS,rfl,hR⟩
theorem Ze {r:ReRep} {B p:Nat} {s:ByteArray} {st:ReSt} {es:List Bool} {dep:Nat} {mv cv:Value} {w w':World} {e:Ending} (h:r=.bad) (hS:RStep p w mv cv w' mv cv) (hE:Iw st.pos 7 e) :
  BdR r B p s st es dep mv cv w e w':=by subst h;exact ⟨mv,hS,hE⟩
structure RdH (W:World) (B p:Nat) (s:ByteArray) (st:ReSt) (es:List Bool) (dep:Nat) (mv cv:Value) (w':World):Prop where
 b:Below W.heap.size W w'
 r:Rd B p w' s st es dep mv cv
abbrev JY (W:World) (B p:Nat) (s:ByteArray) (st:ReSt) (es:List Bool) (dep:Nat) (mv cv:Value) (w':World):Prop:=
 w'.cell? ⟨p,0,none⟩=some (.string s)∧w'.cell? ⟨p,1,none⟩=some (.int .i64 (st.pos:Int))∧RdH W B p s st es dep mv cv w'
theorem RdH.all {W:World} {B p:Nat} {s:ByteArray} {st:ReSt} {es:List Bool} {dep:Nat} {mv cv:Value} {w':World} (h:RdH W B p s st es dep mv cv w'):JY W B p s st es dep mv cv w':=⟨h.r.cells.c0,h.r.cells.c1,h⟩
theorem JZ {W:World} {B p:Nat} {s:ByteArray} {st:ReSt} {es:List Bool} {dep:Nat} {mv cv:Value} {w' w'':World} (hb:Below w'.heap.size w' w'') (h:JY W B p s st es dep mv cv w'):JY W B p s st es dep mv cv w'':=
 RdH.all ⟨h.2.2.b.trans (hb.mono h.2.2.b.size),h.2.2.r.below hb⟩
theorem Qc {W:World} {B p:Nat} {s:ByteArray} {st:ReSt} {es:List Bool} {dep:Nat} {mv cv:Value} {w':World} (h:JY W B p s st es dep mv cv w'):JY W B p s st es dep mv cv w'.drew:=
 JZ (Below.drew (Aeh _ _)) h
theorem IM {W:World} {B p k:Nat} {s:ByteArray} {st:ReSt} {es:List Bool} {dep:Nat} {mv cv:Value} {w' w'':World} (hk:st.pos=k) (hb:Below w'.heap.size w' w'') (h:w'.cell? ⟨p,0,none⟩=some (.string s)∧w'.cell? ⟨p,1,none⟩=some (.int .i64 (k:Int))∧RdH W B p s st es dep mv cv w'):w''.cell? ⟨p,0,none⟩=some (.string s)∧w''.cell? ⟨p,1,none⟩=some (.int .i64 (k:Int))∧RdH W B p s st es dep mv cv w'':=by
 subst hk;exact JZ hb h
theorem IN {W:World} {B p k:Nat} {s:ByteArray} {st:ReSt} {es:List Bool} {dep:Nat} {mv cv:Value} {w':World} (hk:st.pos=k) (h:w'.cell? ⟨p,0,none⟩=some (.string s)∧w'.cell? ⟨p,1,none⟩=some (.int .i64 (k:Int))∧RdH W B p s st es dep mv cv w'):w'.drew.cell? ⟨p,0,none⟩=some (.string s)∧w'.drew.cell? ⟨p,1,none⟩=some (.int .i64 (k:Int))∧RdH W B p s st es dep mv cv w'.drew:=by
 subst hk;exact Qc h
theorem Lz {B p:Nat} {W:World} {s:ByteArray} {st:ReSt} {es:List Bool} {dep:Nat} {mv cv:Value} (h:Rd B p W s st es dep mv cv):JY W B p s st es dep mv cv W:=RdH.all ⟨Aeh _ _,h⟩
theorem Adf (s:ByteArray) (k:Nat):Lk (ByteArray.mk #[92,125]).data.toList (s.extract k s.size).data.toList=Lk (CJ false) (s.data.toList.drop k):=by rw [BP];rfl
theorem Zf (s:List UInt8) (k:Nat) (h:Lk (CJ false) (s.drop k)=none):G6 false s k=none:=by rw [GW,h];rfl
theorem Zg (s:List UInt8) (k:Nat) (q:Int × Int × Nat) (h:Lk (CJ false) (s.drop k)=some q):G6 false s k=some (q.1,q.2.1,k+q.2.2):=by rw [GW,h];rfl
theorem Qd {B p:Nat} {s:ByteArray} {st:ReSt} {es:List Bool} {dep:Nat} {mv cv:Value} (w:World) (h:Rd B p w s st es dep mv cv) :
  Calls Tryz.prog 155 #[.pointer (some ⟨p,0,none⟩)] w fun e w'=>BdR (repAt false s.data.toList st.pos) B p s st es dep mv cv w e w':=by
 obtain ⟨R,hR⟩:∃ R,R=repAt false s.data.toList st.pos:=⟨_,rfl⟩;rw [←hR];have HR:=Ad5 hR;clear hR;have hst:∀ n,Rd B p (w.drewN n) s st es dep mv cv:=fun n=>h.below (below_drewN (Aeh w.heap.size w) n)
 have hsn:∀ n,RStep p w mv cv (w.drewN n) mv cv:=fun n=>RStep.of_below (below_drewN (Aeh w.heap.size w) n)
 have HST:=Ad5 hst;have HSN:=Ad5 hsn;obtain ⟨c0,c1,c2,c3,c4,z1,z2,z3,z4⟩:=h.cells;clear hst hsn;go_enter Tryz.func155,Tryz.ntmps155;cases q1:chAt s.data.toList st.pos 42
 ·have g1:=Ib ⟨#[42]⟩ w h ((D6 _ _ 42 (by decide)).trans q1);go_wp2_with fail
  refine g1.mono ?_;rintro e w2 ⟨rfl,n1,rfl⟩;clear g1;cases q2:BM s.data.toList st.pos 43
  ·have g2:=JV ⟨#[92,43]⟩ _ (HST.out n1) ((BN _ _ 43 (by decide)).trans q2);go_wp2_with fail
   refine g2.mono ?_;rintro e w2 ⟨rfl,n2,rfl⟩;clear g2;rw [show (w.drewN n1).drewN n2=w.drewN (n1+n2) by simp];generalize n1+n2=n3;cases q3:BM s.data.toList st.pos 63
   ·have g3:=JV ⟨#[92,63]⟩ _ (HST.out n3) ((BN _ _ 63 (by decide)).trans q3);go_wp2_with fail
    refine g3.mono ?_;rintro e w2 ⟨rfl,n4,rfl⟩;clear g3;rw [show (w.drewN n3).drewN n4=w.drewN (n3+n4) by simp];generalize n3+n4=n5;cases q4:BM s.data.toList st.pos 123
    ·have g4:=Ib ⟨#[92,123]⟩ _ (HST.out n5) ((BN _ _ 123 (by decide)).trans q4);have HF:=Ad5 (HR.out.trans (VH q1 q2 q3 q4));clear q1 q2 q3 q4;go_wp2_with fail
     refine g4.mono ?_;rintro e w2 ⟨rfl,n6,rfl⟩;go_wp2_with fail
     go_ret3
     exact VR HF.out (HSN.out _) (HST.out _)
    ·have g4:=FL ⟨#[92,123]⟩ _ (HST.out n5) ((BN _ _ 123 (by decide)).trans q4) (by simp);go_wp2_with fail
     refine g4.mono ?_;rintro e w2 ⟨rfl,hR2,hS2⟩;replace hS2:=(HSN.out n5).trans hS2;clear g4;have hall:=Lz hR2;obtain ⟨c0,c1,c2,c3,c4,z1,z2,z3,z4⟩:=hR2.cells;have hp2:(st.to (st.pos+(ByteArray.mk #[92,123]).size)).pos=st.pos+2:=rfl;rw [hp2] at c1;have hlen:st.pos+2≤s.size:=hR2.pos;have hlen2:((st.pos+2:Nat):Int)≤(s.size:Int):=by omega
     have hsm:=hR2.small;have g5:=fun w=>Ly (s.extract (st.pos+2) s.size) ⟨#[92,125]⟩ w (by rw [ET];omega) (by simp)
     rw [Adf] at g5;generalize hst2:st.to (st.pos+(ByteArray.mk #[92,123]).size)=st2 at *;have hk2:st2.pos=st.pos+2:=by rw [←hst2];rfl
     unfold JY at hall;rw [hk2] at hall;have HK2:=Ad5 hk2;have HST2:=Ad5 hst2;clear hk2 hst2 hp2;cases hiv:Lk (CJ false) (s.data.toList.drop (st.pos+2)) with
     | none=>
      rw [hiv,show JW none=.returned (.tuple #[.int .i64 0,.int .i64 0,.int .i64 0,.bool false]) from rfl] at g5;have HF:=Ad5 (HR.out.trans (YS q1 q2 q3 q4 (Zf _ _ hiv)));clear q1 q2 q3 q4 hiv;generalize st.pos+2=k2 at *;go_wp2_with fail
      go_region_held3 (fun w'=>(w'.cell? ⟨p,0,none⟩=some (.string s)∧w'.cell? ⟨p,1,none⟩=some (.int .i64 ((k2:Nat):Int))∧RdH w2 B p s st2 es dep mv cv w'))
       (first | (with_reducible exact hall) | (with_reducible exact IM HK2.out hbX (by assumption)) | (with_reducible exact IN HK2.out (by assumption)))
       (first | (go_at_call 147;refine (g5 _).mono ?_;rintro e w' ⟨rfl,hbX⟩))
      go_wp2_with fail
      go_split_ands
      exact ⟨rfl,Ze HF.out (hS2.trans (RStep.of_below (RdH.b (by assumption)))) rfl⟩
     | some q=>
      rw [hiv,show JW (some q)=.returned (.tuple #[.int .i64 q.1,.int .i64 q.2.1,.int .i64 (q.2.2:Int),.bool true]) from rfl] at g5;have HF:=Ad5 (HR.out.trans (VK (m:=q.1) (n:=q.2.1) (j:=st.pos+2+q.2.2) q1 q2 q3 q4 (Zg _ _ _ hiv)));have hql:=VG _ _ _ (by simp [CJ]) hiv;rw [List.length_drop] at hql;have hsl:s.data.toList.length=s.size:=by simp
      have Wn:IntKind.i64.wrap (((st.pos+2:Nat):Int)+(q.2.2:Int))=((st.pos+2+q.2.2:Nat):Int):=by rw [Aej _ (by omega)];omega
      have hqs:st.pos+2+q.2.2≤s.size:=by omega
      have HQ:=Ad5 hqs;generalize q.1=qa at *;generalize q.2.1=qb at *;generalize q.2.2=qc at *;clear q1 q2 q3 q4 hiv hql hsl hqs;generalize st.pos+2=k2 at *;go_wp2_with fail
      go_region_held3 (fun w'=>(w'.cell? ⟨p,0,none⟩=some (.string s)∧w'.cell? ⟨p,1,none⟩=some (.int .i64 ((k2:Nat):Int))∧RdH w2 B p s st2 es dep mv cv w'))
       (first | (with_reducible exact hall) | (with_reducible exact IM HK2.out hbX (by assumption)) | (with_reducible exact IN HK2.out (by assumption)))
       (first | (go_at_call 147;refine (g5 _).mono ?_;rintro e w' ⟨rfl,hbX⟩))
      go_split_ands
      rename_i w5 _ _ hX;clear c0 c1 c2 c3 c4 z1 z2 z3 z4;obtain ⟨hb5,hR5⟩:=hX;obtain ⟨c0,c1,c2,c3,c4,z1,z2,z3,z4⟩:=hR5.cells;rw [HK2.out] at c1;have hg:=Ad5 (hR5.goto (k2+qc) (by rw [HK2.out];omega) HQ.out);have hS5:=hS2.trans (RStep.of_below (p:=p) (mv:=mv) (cv:=cv) hb5);go_wp2_with fail
      go_ret3
      exact Ic HF.out (hS5.trans hg.out.2) (by have:=hg.out.1;rw [←HST2.out] at this;exact this)
   ·have g3:=Iv 63 _ (HST.out n3) ((BN _ _ 63 (by decide)).trans q3);have HF:=Ad5 (HR.out.trans (YR q1 q2 q3));clear q1 q2 q3;go_wp2_with fail
    refine g3.mono ?_;rintro e w2 ⟨rfl,mv',hR2,hS2⟩;go_wp2_with fail
    go_ret3
    exact Ic HF.out ((HSN.out n3).trans hS2) hR2
  ·have g2:=Iv 43 _ (HST.out n1) ((BN _ _ 43 (by decide)).trans q2);have HF:=Ad5 (HR.out.trans (VJ q1 q2));clear q1 q2;go_wp2_with fail
   refine g2.mono ?_;rintro e w2 ⟨rfl,mv',hR2,hS2⟩;go_wp2_with fail
   go_ret3
   exact Ic HF.out ((HSN.out n1).trans hS2) hR2
 ·have g1:=FL ⟨#[42]⟩ w h ((D6 _ _ 42 (by decide)).trans q1) (by simp);have HF:=Ad5 (HR.out.trans (VI q1));clear q1;go_wp2_with fail
  refine g1.mono ?_;rintro e w2 ⟨rfl,hR2,hS2⟩;go_wp2_with fail
  go_ret3
  exact Ic HF.out hS2 hR2
theorem DO {B p:Nat} {s:ByteArray} {st:ReSt} {es:List Bool} {dep:Nat} {mv cv:Value} (n k:Nat) (w:World) (h:Rd B p w s st es dep mv cv) (h1:1≤n) (hn:st.closed.contains (n:Int)=false) :
  Calls Tryz.prog 170 #[.pointer (some ⟨p,0,none⟩),.int .i64 (k:Int),.int .i64 (n:Int)] w fun e w'=>Iw k 9 e∧w=w':=by
 obtain ⟨c0,c1,c2,c3,c4,z1,z2,z3,z4⟩:=h.cells;have hr:=h.rr.2 (n:Int);rw [hn,decide_eq_true (show (1:Int)≤(n:Int) by omega),Bool.true_and] at hr;obtain ⟨a,cap,rfl,hl1,hl2,hx⟩:=Gh h.co (by simp);unfold maxLen at hl2;have hes:=h.few.2;have hsm:=h.small;have hps:=h.pos;clear h;unfold Iw;by_cases hlen:n≤es.length
 ·rw [decide_eq_true (show (n:Int)≤(es.length:Int) by omega),Bool.true_and] at hr;obtain ⟨g,rfl,_,hg,hc⟩:=hx (by omega);have hcn:=hc (n - 1) (by simp;omega);have he:es.getD (n - 1) false=false:=by
   rw [show ((n:Int) - 1).toNat=n - 1 by omega] at hr;exact hr.symm
  have hcb:w.cell? ⟨g,n - 1,none⟩=some (.bool false):=by
   rw [Nat.zero_add] at hcn;rw [hcn,List.getElem_map];rw [List.getD_eq_getElem?_getD,List.getElem?_eq_getElem (by omega),Option.getD_some] at he;rw [he]
  have e1:decide ((es.length:Int) < (n:Int))=false:=by simp;omega
  have e2:decide (es.length < n)=false:=by simp;omega
  have Wn:IntKind.i64.wrap ((n:Int) - 1)=((n - 1:Nat):Int):=by rw [Aej _ (by omega)];omega
  have hlt:((n - 1:Nat):Int) < (es.length:Int):=by omega
  clear hr hc hx hcn he;generalize n - 1=m at *;go_enter Tryz.func170,Tryz.ntmps170;go_wp2_with fail
  exact ⟨rfl,rfl,rfl⟩
 ·have e1:decide ((es.length:Int) < (n:Int))=true:=by simp;omega
  have e2:decide (es.length < n)=true:=by simp;omega
  clear hr hx;go_enter Tryz.func170,Tryz.ntmps170;go_wp2_with fail
  exact ⟨rfl,rfl,rfl⟩
theorem De {B p:Nat} {s:ByteArray} {st:ReSt} {es:List Bool} {dep:Nat} {mv cv:Value} (n k:Nat) (w:World) (h:Rd B p w s st es dep mv cv) (h1:1≤n) (hn:st.closed.contains (n:Int)=true) :
  Calls Tryz.prog 170 #[.pointer (some ⟨p,0,none⟩),.int .i64 (k:Int),.int .i64 (n:Int)] w fun e w'=>e=.returned (.iface 117 (.agg #[.int .i64 (n:Int)]))∧w=w':=by
 obtain ⟨c0,c1,c2,c3,c4,z1,z2,z3,z4⟩:=h.cells;have hr:=h.rr.2 (n:Int);rw [hn,decide_eq_true (show (1:Int)≤(n:Int) by omega),Bool.true_and] at hr;obtain ⟨a,cap,rfl,hl1,hl2,hx⟩:=Gh h.co (by simp);unfold maxLen at hl2;have hes:=h.few.2;have hsm:=h.small;have hps:=h.pos;clear h;have hr2:=(Bool.and_eq_true_iff.1 hr.symm)
 have hlen:n≤es.length:=by have:=of_decide_eq_true hr2.1;omega
 obtain ⟨g,rfl,_,hg,hc⟩:=hx (by omega);have hcn:=hc (n - 1) (by simp;omega);have he:es.getD (n - 1) false=true:=by
  have:=hr2.2;rw [show ((n:Int) - 1).toNat=n - 1 by omega] at this;exact this
 have hcb:w.cell? ⟨g,n - 1,none⟩=some (.bool true):=by
  rw [Nat.zero_add] at hcn;rw [hcn,List.getElem_map];rw [List.getD_eq_getElem?_getD,List.getElem?_eq_getElem (by omega),Option.getD_some] at he;rw [he]
 have e1:decide ((es.length:Int) < (n:Int))=false:=by simp;omega
 have e2:decide (es.length < n)=false:=by simp;omega
 have Wn:IntKind.i64.wrap ((n:Int) - 1)=((n - 1:Nat):Int):=by rw [Aej _ (by omega)];omega
 have hlt:((n - 1:Nat):Int) < (es.length:Int):=by omega
 clear hr hr2 hc hx hcn he;generalize n - 1=m at *;go_enter Tryz.func170,Tryz.ntmps170;go_wp2_with fail
 go_ret;exact ⟨rfl,rfl⟩
end
section
open Go.RowKit
theorem Ab9 (a b c d:Int) (w:World):(part 107 #[.int .u64 a,.int .u64 b,.int .u64 c,.int .u64 d] (0 * 1)).run Tryz.prog w=.ok (.int .u64 a) w:=by kernel_rfl
theorem Zh (a b c d:Int) (w:World):(part 107 #[.int .u64 a,.int .u64 b,.int .u64 c,.int .u64 d] 1).run Tryz.prog w=.ok (.int .u64 b) w:=by kernel_rfl
theorem Zi (a b c d:Int) (w:World):(part 107 #[.int .u64 a,.int .u64 b,.int .u64 c,.int .u64 d] 2).run Tryz.prog w=.ok (.int .u64 c) w:=by kernel_rfl
theorem Zj (a b c d:Int) (w:World):(part 107 #[.int .u64 a,.int .u64 b,.int .u64 c,.int .u64 d] 3).run Tryz.prog w=.ok (.int .u64 d) w:=by kernel_rfl
theorem Ta (a b c d a' b' c' d':Int) (w:World):(Op.eqItems 9999 107 1 #[.int .u64 a,.int .u64 b,.int .u64 c,.int .u64 d] #[.int .u64 a',.int .u64 b',.int .u64 c',.int .u64 d'] [0,1,2,3]).run Tryz.prog w=.ok (a == a' && (b == b' && (c == c' && d == d'))) w:=by
 have h:=fun (x y:Int) (w:World)=>(run_equalIn_int (P:=Tryz.prog) w 9998 107 .u64 .u64 x y Tryz.underlying107:(Op.equalIn 9999 107 (.int .u64 x) (.int .u64 y)).run Tryz.prog w=_)
 simp only [Op.eqItems,Sem.run_bind,Ab9,h,Result.andThen_ok];cases ha:a == a' <;> cases hb:b == b' <;> cases hc:c == c' <;> cases hd:d == d' <;> simp [ha,hb,hc,hd,h,Zh,Zi,Zj]
theorem VS (s t:OSet):(ow s 0 == ow t 0 && (ow s 1 == ow t 1 && (ow s 2 == ow t 2 && ow s 3 == ow t 3)))=decide (s=t):=by
 by_cases h:s=t
 ·subst h;simp
 ·have h2:=Ro h;rw [decide_eq_false h];cases hx:(ow s 0 == ow t 0 && (ow s 1 == ow t 1 && (ow s 2 == ow t 2 && ow s 3 == ow t 3)))
  ·rfl
  ·exfalso;simp only [Bool.and_eq_true,beq_iff_eq] at hx;exact h2 hx
theorem VT (s t:OSet) (w:World):(Op.equalIn 10000 109 (.agg #[.int .u64 (ow s 0),.int .u64 (ow s 1),.int .u64 (ow s 2),.int .u64 (ow s 3)]) (.agg #[.int .u64 (ow t 0),.int .u64 (ow t 1),.int .u64 (ow t 2),.int .u64 (ow t 3)])).run Tryz.prog w=.ok (decide (s=t)) w:=by
 have hc:Tryz.prog.cellsOf 107=1:=by kernel_rfl
 have hi0:(Tryz.prog.info? 107).isSome=true:=by kernel_rfl
 obtain ⟨i,hi⟩:=Option.isSome_iff_exists.1 hi0;rw [run_equalIn_array w 9999 (e:=107) (n:=4) _ _ Tryz.underlying109 hi];rw [hc,show List.range 4=[0,1,2,3] from rfl,Ta,VS]
theorem Qe (s:ByteArray) (i j:Nat):(s.extract i j).toList=sub s.data.toList i j:=by
 rw [ByteArray.toList_eq,ByteArray.data_extract,Array.toList_extract,List.extract_eq_take_drop];rfl
theorem Zk (s:ByteArray) (i j:Nat) (h:i < j):byt (s.extract i j).data.toList 0=byt s.data.toList i:=by
 rw [ByteArray.data_extract,Array.toList_extract,List.extract_eq_take_drop];unfold byt;rw [List.getD_eq_getElem?_getD,List.getD_eq_getElem?_getD,List.getElem?_take_of_lt (by omega),List.getElem?_drop];rfl
def Tb (s:List UInt8) (k o:Nat):Bool:=decide (k+1 < s.length) && decide (byt s k=91) && decide (byt s (k+1)=o)
theorem L0 (s:List UInt8) (k:Nat):opens s k=(Tb s k 58 || Tb s k 61 || Tb s k 46):=by
 unfold opens Tb;cases decide (k+1 < s.length) <;> cases decide (byt s k=91) <;> cases decide (byt s (k+1)=58) <;> cases decide (byt s (k+1)=61) <;> rfl
theorem Tc (s:ByteArray) (k o:Nat) (w:World) (ho:o < 256) :
  Calls Tryz.prog 23 #[.string (s.extract k s.size),.string (strOfNums [91,(o:Int)])] w fun e w'=>e=.returned (.bool (Tb s.data.toList k o))∧w=w':=by
 have h:=Cs (s.extract k s.size) (strOfNums [((91:Nat):Int),(o:Int)]) w;rw [BP,Nz,show UInt8.ofNat 91=91 from rfl,Yp,show (UInt8.ofNat o).toNat=o by simp;omega] at h;exact h
def VU (a:Itm):Value:=GL a.set a.may (if a.err=0 then a.next else a.place) a.err
theorem GF (s:ByteArray) (k o:Nat) (w:World) (hs:s.size≤1000000) (hp:Tb s.data.toList k o=true) (ho:o=58∨o=61∨o=46) (hG:Gl w) :
  Calls Tryz.prog 183 #[.string s,.int .i64 (k:Int),.int .u8 (o:Int)] w fun e w'=>e=.returned (VU (Fc s.data.toList k))∧Below w.heap.size w w':=by
 have hop:opens s.data.toList k=true:=by
  rw [L0];rcases ho with rfl | rfl | rfl <;> rw [hp] <;> simp
 unfold Tb at hp;simp only [Bool.and_eq_true,decide_eq_true_eq,At] at hp;obtain ⟨⟨hk,h91⟩,hb⟩:=hp;have hi:Fc s.data.toList k=(match Nw s.data.toList o (Gu s.data.toList k) with
   | some e=>Li s.data.toList k e
   | none=>⟨oz,false,0,5,s.data.toList.length⟩):=by
  unfold Fc;rw [if_neg (by rw [At];omega),if_pos hop,hb];rfl
 have hf:Gu s.data.toList k=if o=58 then k+2 else k+3:=by unfold Gu;rw [hb]
 have hcl:∀ w,Gl w→Calls Tryz.prog 185 #[.string s,.int .i64 ((k:Int)+2),.int .u8 (o:Int)] w fun e w'=>e=.returned (.int .i64 (SM s.data.toList o (Gu s.data.toList k)))∧Below w.heap.size w w':=by
  intro w hG;obtain ⟨m,hm⟩:=hG.ml;rw [hf];by_cases h58:o=58
  ·rw [if_pos h58];exact UY s (k+2) o w m hs (by omega) (by omega) h58 hm (Aef (by decide) hG.lt)
  ·rw [if_neg h58];exact Pw s (k+2) o w m hs (by omega) (by omega) h58 hm (Aef (by decide) hG.lt)
 cases hx:Nw s.data.toList o (Gu s.data.toList k) with
 | none=>
  rw [hx] at hi;simp only at hi;rw [hi];have hc0:SM s.data.toList o (Gu s.data.toList k)=-1:=by unfold SM;rw [hx]
  refine (N0 s k o w hs (by omega) hG (fun w hG=>by have:=hcl w hG;rw [hc0] at this;exact this)).mono ?_;rintro e w' ⟨rfl,b⟩;refine ⟨?_,b⟩;unfold VU;rw [At];rfl
 | some x=>
  rw [hx] at hi;simp only at hi;rw [hi];have hge:=J8 _ _ _ _ hx;rw [At] at hge;have hc0:SM s.data.toList o (Gu s.data.toList k)=(x:Int):=by unfold SM;rw [hx]
  have hcl2:∀ w,Gl w→Calls Tryz.prog 185 #[.string s,.int .i64 ((k:Int)+2),.int .u8 (o:Int)] w fun e w'=>e=.returned (.int .i64 (x:Int))∧Below w.heap.size w w':=fun w hG=>by
   have:=hcl w hG;rw [hc0] at this;exact this
  unfold Li;rw [hb];by_cases h58:o=58
  ·rw [if_pos h58] at hf ⊢;refine (FD s k o x (A5 (sub s.data.toList (k+2) x)) false (CH (sub s.data.toList (k+2) x)) w hs (by omega) hG (by omega) (by omega) hcl2 (fun w=>?_)).mono ?_
   ·have:=Yv (s.extract (k+2) x) w;rw [Qe] at this;rw [h58];exact this
   ·rintro e w' ⟨rfl,b⟩;refine ⟨?_,b⟩;cases CH (sub s.data.toList (k+2) x) <;> rfl
  ·rw [if_neg h58] at hf ⊢;by_cases hx3:x=k+3
   ·rw [if_pos hx3];refine (FD s k o x (Ab (byt s.data.toList (k+2)) (byt s.data.toList (k+2))) (decide (o=46)) true w hs (by omega) hG (by omega) (by omega) hcl2 (fun w=>?_)).mono ?_
    ·have:=SL (s.extract (k+2) x) (o:Int) w (by omega) (by simp;omega);rw [Zk s (k+2) x (by omega)] at this;rw [show decide (o=46)=((o:Int) == 46) by rcases ho with rfl | rfl | rfl <;> rfl];exact this
    ·rintro e w' ⟨rfl,b⟩;exact ⟨rfl,b⟩
   ·rw [if_neg hx3];refine (FD s k o x oz false false w hs (by omega) hG (by omega) (by omega) hcl2 (fun w=>Pv (s.extract (k+2) x) (o:Int) w (by omega) (by simp;omega))).mono ?_;rintro e w' ⟨rfl,b⟩;exact ⟨rfl,b⟩
theorem Qf (a b c:Int) (w:World):(Instr.index 266 (.agg #[.int .u8 a,.int .u8 b,.int .u8 c]) (.int .i64 0)).run Tryz.prog w=.ok (.int .u8 a) w:=by kernel_rfl
theorem Qg (a b c:Int) (w:World):(Instr.index 266 (.agg #[.int .u8 a,.int .u8 b,.int .u8 c]) (.int .i64 1)).run Tryz.prog w=.ok (.int .u8 b) w:=by kernel_rfl
theorem Qh (a b c:Int) (w:World):(Instr.index 266 (.agg #[.int .u8 a,.int .u8 b,.int .u8 c]) (.int .i64 2)).run Tryz.prog w=.ok (.int .u8 c) w:=by kernel_rfl
theorem Iy (s:ByteArray) (k:Nat) (w:World) (hs:s.size≤1000000) (hk:k < s.size) (hG:Gl w) :
  Calls Tryz.prog 171 #[.string s,.int .i64 (k:Int)] w fun e w'=>e=.returned (VU (Fc s.data.toList k))∧Below w.heap.size w w':=by
 obtain ⟨cs,may,pl,er,hv⟩:∃ cs m pl er,VU (Fc s.data.toList k)=GL cs m pl er:=⟨_,_,_,_,rfl⟩;rw [hv];have Hv:=Ad5 hv;clear hv;have hB:=Blk.new w #[.int .u64 0,.int .u64 0,.int .u64 0,.int .u64 0,.bool false] 261 _ rfl;have hW:=(Aeh w.heap.size w).alloc (Aec _) (.cells #[.int .u64 0,.int .u64 0,.int .u64 0,.int .u64 0,.bool false] 261);have hG1:=hG.up hW;obtain ⟨_,o0,o1,o2,_,_⟩:=hG1;have i0:=Qf 58 61 46;have i1:=Qg 58 61 46;have i2:=Qh 58 61 46;go_enter Tryz.func171,Tryz.ntmps171;go_wp2_with fail
 clear o0 o1 o2;go_loopw [10] (fun i wr=>∃ j:Nat,j≤3∧i=.int .i64 j∧(0 < j→Tb s.data.toList k 58=false)∧(1 < j→Tb s.data.toList k 61=false)∧(2 < j→Tb s.data.toList k 46=false)∧Below w.heap.size w wr∧Blk wr w.heap.size #[.int .u64 0,.int .u64 0,.int .u64 0,.int .u64 0,.bool false] 261) (fun i _=>4 - (intOf i).toNat)
 case atStart=>exact ⟨0,by omega,rfl,fun h=>by omega,fun h=>by omega,fun h=>by omega,hW,hB⟩
 case round=>
  clear hW hB;obtain ⟨j,hj,rfl,p0,p1,p2,hW,hB⟩:=hrel;have hG1:=hG.up hW;obtain rfl | rfl | rfl | rfl:j=0∨j=1∨j=2∨j=3:=by omega
  ·have kc:=Gg wr 91 58;have hGd:Gl (wr.alloc (.cells #[.int .u8 91,.int .u8 58] 5)).drew:=hG.up (hW.alloc hW.size _).drew;cases hp:Tb s.data.toList k 58
   ·go_wp2_with fail
    go_region_with (go_at_call 23;refine (Tc s k 58 _ (by decide)).mono ?_;rintro e w1 ⟨rfl,rfl⟩)
    go_wp2_with fail
    all_goals exact ⟨⟨1,by decide,rfl,(by first | exact fun _=>hp | exact fun _=>trivial | exact fun h=>absurd h (by decide)),(by first | exact fun _=>hp | exact fun _=>trivial | exact fun h=>absurd h (by decide)),(by first | exact fun _=>hp | exact fun _=>trivial | exact fun h=>absurd h (by decide)),(hW.alloc hW.size _).drew,(hB.alloc _).drew⟩,by simp [intOf]⟩
   ·go_wp2_with fail
    go_region_with (go_at_call 23;refine (Tc s k 58 _ (by decide)).mono ?_;rintro e w1 ⟨rfl,rfl⟩)
    go_wp2_with fail
    all_goals
     refine (GF s k 58 _ hs hp (by decide) hGd).mono ?_;rintro e w1 ⟨he,b1⟩;rw [Hv.out] at he;subst he;replace hW:=(hW.alloc hW.size _).drew.trans (b1.mono (hW.alloc hW.size _).size);replace hB:=(hB.alloc _).drew.below b1 (hB.alloc _).lt;clear b1 hGd kc;obtain ⟨d0,d1,d2,d3,d4⟩:=BV hB;have f0:=hB.frozen 0;have f1:=hB.frozen 1;have f2:=hB.frozen 2;have f3:=hB.frozen 3;have f4:=hB.frozen 4;have hlB:=hB.lt;unfold GL;go_wp2_with fail
     refine bodyPost_ret (v:=GL cs may pl er) (by simp [results,Tryz.results171,go_sem,d0,d1,d2,d3,d4,GL,hlB]) rfl ⟨rfl,?_⟩
     repeat (first | (with_reducible exact hW) | refine Below.setCell ?_ (by first | omega | (simp;omega) | simp) _ | refine Below.alloc ?_ (by first | omega | (simp;omega) | simp) _)
  ·have kc:=Gg wr 91 61;have hGd:Gl (wr.alloc (.cells #[.int .u8 91,.int .u8 61] 5)).drew:=hG.up (hW.alloc hW.size _).drew;have q0:=p0 (by decide);cases hp:Tb s.data.toList k 61
   ·go_wp2_with fail
    go_region_with (go_at_call 23;refine (Tc s k 61 _ (by decide)).mono ?_;rintro e w1 ⟨rfl,rfl⟩)
    go_wp2_with fail
    all_goals exact ⟨⟨2,by decide,rfl,(by first | exact fun _=>hp | exact fun _=>trivial | exact fun h=>absurd h (by decide) | exact fun _=>q0),(by first | exact fun _=>hp | exact fun _=>trivial | exact fun h=>absurd h (by decide) | exact fun _=>q0),(by first | exact fun _=>hp | exact fun _=>trivial | exact fun h=>absurd h (by decide) | exact fun _=>q0),(hW.alloc hW.size _).drew,(hB.alloc _).drew⟩,by simp [intOf]⟩
   ·go_wp2_with fail
    go_region_with (go_at_call 23;refine (Tc s k 61 _ (by decide)).mono ?_;rintro e w1 ⟨rfl,rfl⟩)
    go_wp2_with fail
    all_goals
     refine (GF s k 61 _ hs hp (by decide) hGd).mono ?_;rintro e w1 ⟨he,b1⟩;rw [Hv.out] at he;subst he;replace hW:=(hW.alloc hW.size _).drew.trans (b1.mono (hW.alloc hW.size _).size);replace hB:=(hB.alloc _).drew.below b1 (hB.alloc _).lt;clear b1 hGd kc;obtain ⟨d0,d1,d2,d3,d4⟩:=BV hB;have f0:=hB.frozen 0;have f1:=hB.frozen 1;have f2:=hB.frozen 2;have f3:=hB.frozen 3;have f4:=hB.frozen 4;have hlB:=hB.lt;unfold GL;go_wp2_with fail
     refine bodyPost_ret (v:=GL cs may pl er) (by simp [results,Tryz.results171,go_sem,d0,d1,d2,d3,d4,GL,hlB]) rfl ⟨rfl,?_⟩
     repeat (first | (with_reducible exact hW) | refine Below.setCell ?_ (by first | omega | (simp;omega) | simp) _ | refine Below.alloc ?_ (by first | omega | (simp;omega) | simp) _)
  ·have kc:=Gg wr 91 46;have hGd:Gl (wr.alloc (.cells #[.int .u8 91,.int .u8 46] 5)).drew:=hG.up (hW.alloc hW.size _).drew;have q0:=p0 (by decide);have q1:=p1 (by decide);cases hp:Tb s.data.toList k 46
   ·go_wp2_with fail
    go_region_with (go_at_call 23;refine (Tc s k 46 _ (by decide)).mono ?_;rintro e w1 ⟨rfl,rfl⟩)
    go_wp2_with fail
    all_goals exact ⟨⟨3,by decide,rfl,(by first | exact fun _=>hp | exact fun _=>trivial | exact fun h=>absurd h (by decide) | exact fun _=>q0 | exact fun _=>q1),(by first | exact fun _=>hp | exact fun _=>trivial | exact fun h=>absurd h (by decide) | exact fun _=>q0 | exact fun _=>q1),(by first | exact fun _=>hp | exact fun _=>trivial | exact fun h=>absurd h (by decide) | exact fun _=>q0 | exact fun _=>q1),(hW.alloc hW.size _).drew,(hB.alloc _).drew⟩,by simp [intOf]⟩
   ·go_wp2_with fail
    go_region_with (go_at_call 23;refine (Tc s k 46 _ (by decide)).mono ?_;rintro e w1 ⟨rfl,rfl⟩)
    go_wp2_with fail
    all_goals
     refine (GF s k 46 _ hs hp (by decide) hGd).mono ?_;rintro e w1 ⟨he,b1⟩;rw [Hv.out] at he;subst he;replace hW:=(hW.alloc hW.size _).drew.trans (b1.mono (hW.alloc hW.size _).size);replace hB:=(hB.alloc _).drew.below b1 (hB.alloc _).lt;clear b1 hGd kc;obtain ⟨d0,d1,d2,d3,d4⟩:=BV hB;have f0:=hB.frozen 0;have f1:=hB.frozen 1;have f2:=hB.frozen 2;have f3:=hB.frozen 3;have f4:=hB.frozen 4;have hlB:=hB.lt;unfold GL;go_wp2_with fail
     refine bodyPost_ret (v:=GL cs may pl er) (by simp [results,Tryz.results171,go_sem,d0,d1,d2,d3,d4,GL,hlB]) rfl ⟨rfl,?_⟩
     repeat (first | (with_reducible exact hW) | refine Below.setCell ?_ (by first | omega | (simp;omega) | simp) _ | refine Below.alloc ?_ (by first | omega | (simp;omega) | simp) _)
  ·have hop:opens s.data.toList k=false:=by rw [L0,p0 (by decide),p1 (by decide),p2 (by decide)];rfl
   have Hi:=Ad5 (show Fc s.data.toList k=⟨Ab (s[k].toNat:Int) (s[k].toNat:Int),true,k+1,0,0⟩ by
    unfold Fc;rw [if_neg (by rw [At];omega),hop,if_neg (by decide),BL s k hk])
   have Wk:IntKind.i64.wrap ((k:Int)+1)=(k:Int)+1:=Aej _ (by omega);clear hop p0 p1 p2;go_wp2_with fail
   refine (CF (s[k].toNat:Int) (Aa4 _) (Aa5 _) _ _ (by simp)).mono ?_;rintro e w1 ⟨rfl,b1⟩;rw [DK];replace hW:=hW.trans (b1.mono hW.size);replace hB:=hB.below b1 hB.lt;clear b1;obtain ⟨d0,d1,d2,d3,d4⟩:=BV hB;have f0:=hB.frozen 0;have f1:=hB.frozen 1;have f2:=hB.frozen 2;have f3:=hB.frozen 3;have f4:=hB.frozen 4;have hlB:=hB.lt;go_wp2_with fail
   refine bodyPost_ret (v:=GL (Ab (s[k].toNat:Int) (s[k].toNat:Int)) true (k+1) 0) (by simp [results,Tryz.results171,go_sem,d0,d1,d2,d3,d4,GL,hlB]) rfl ⟨?_,?_⟩
   ·rw [←Hv.out,Hi.out];rfl
   ·repeat (first | (with_reducible exact hW) | refine Below.setCell ?_ (by first | omega | (simp;omega) | simp) _ | refine Below.alloc ?_ (by first | omega | (simp;omega) | simp) _)
theorem Zl (s:List UInt8) (k:Nat) (h:(Fc s k).err≠0):(Fc s k).set=oz:=by
 unfold Fc at h ⊢;split
 ·rfl
 ·rename_i hk;rw [if_neg hk] at h;split
  ·rename_i ho;rw [if_pos ho] at h;split
   ·rename_i e he;rw [he] at h;simp only at h;unfold Li at h ⊢;split
    ·rename_i h1;rw [if_pos h1] at h;split
     ·rename_i h2;rw [if_pos h2] at h;simp at h
     ·rfl
    ·rename_i h1;rw [if_neg h1] at h;split
     ·rename_i h2;rw [if_pos h2] at h;simp at h
     ·rfl
   ·rfl
  ·rename_i ho;rw [if_neg ho] at h;simp at h
def Gk (t:OSet) (j er:Nat):Value:=.tuple #[.agg #[.int .u64 (ow t 0),.int .u64 (ow t 1),.int .u64 (ow t 2),.int .u64 (ow t 3)],.int .i64 (j:Int),.int .i64 (er:Int)]
theorem VV (s:OSet) (w:World):(Op.equalIn 10000 109 (.agg #[.int .u64 (ow s 0),.int .u64 (ow s 1),.int .u64 (ow s 2),.int .u64 (ow s 3)]) (.agg #[.int .u64 0,.int .u64 0,.int .u64 0,.int .u64 0])).run Tryz.prog w=.ok (decide (s=oz)) w:=by
 have h:=VT s oz w;rw [Al,Al,Al,Al] at h;exact h
/-- What the first item alone decides: an error, or no range behind it. -/
theorem Oa (s:ByteArray) (k:Nat) (w:World) (hs:s.size≤1000000) (hk:k < s.size) (hG:Gl w) (A:OSet) (ma:Bool) (nx er:Nat)
  (hv:VU (Fc s.data.toList k)=GL A ma nx er) (hd:er≠0∨(nx≤s.size∧XW s.data.toList nx=false)) :
  Calls Tryz.prog 167 #[.string s,.int .i64 (k:Int)] w fun e w'=>e=.returned (Gk A nx er)∧Below w.heap.size w w':=by
 have hB:=Blk.new w #[.int .u64 0,.int .u64 0,.int .u64 0,.int .u64 0] 109 _ rfl;have hW:=(Aeh w.heap.size w).alloc (Aec _) (.cells #[.int .u64 0,.int .u64 0,.int .u64 0,.int .u64 0] 109);have hG1:=hG.up hW;go_enter Tryz.func167,Tryz.ntmps167;go_wp2_with fail
 refine (Iy s k _ hs hk hG1).mono ?_;rintro e w1 ⟨he,b1⟩;rw [hv] at he;subst he;clear hv hG1;replace hW:=hW.trans (b1.mono hW.size);replace hB:=hB.below b1 hB.lt;clear b1;obtain ⟨d0,d1,d2,d3⟩:=Ah hB;have f0:=hB.frozen 0;have f1:=hB.frozen 1;have f2:=hB.frozen 2;have f3:=hB.frozen 3;have hlB:=hB.lt;unfold GL;by_cases her:er=0
 ·subst her;obtain ⟨hnx,hdd⟩:=hd.resolve_left (by simp);clear hd;go_wp2_with fail
  refine (Ny s nx _ (by omega) hnx).mono ?_;rintro e w2 ⟨he,b2⟩;rw [hdd] at he;subst he;have hF:=(Blk.new w1 #[.int .u64 (ow A 0),.int .u64 (ow A 1),.int .u64 (ow A 2),.int .u64 (ow A 3),.bool ma] 261 _ rfl).below b2 (by simp);replace hW:=(hW.alloc hW.size (.cells #[.int .u64 (ow A 0),.int .u64 (ow A 1),.int .u64 (ow A 2),.int .u64 (ow A 3),.bool ma] 261)).trans (b2.mono (hW.alloc hW.size _).size);replace hB:=(hB.alloc (.cells #[.int .u64 (ow A 0),.int .u64 (ow A 1),.int .u64 (ow A 2),.int .u64 (ow A 3),.bool ma] 261)).below b2 (hB.alloc _).lt;clear b2 d0 d1 d2 d3 f0 f1 f2 f3 hlB;obtain ⟨d0,d1,d2,d3⟩:=Ah hB;have f0:=hB.frozen 0;have f1:=hB.frozen 1;have f2:=hB.frozen 2;have f3:=hB.frozen 3;have hlB:=hB.lt;obtain ⟨c0,c1,c2,c3,c4⟩:=G9 hF;have hlF:=hF.lt;go_wp2_with fail
  refine bodyPost_ret (v:=Gk A nx 0) (by simp [results,Tryz.results167,go_sem,d0,d1,d2,d3,Gk,hlB,Al]) rfl ⟨rfl,?_⟩
  repeat (first | (with_reducible exact hW) | refine Below.setCell ?_ (by first | omega | (simp;omega) | simp) _ | refine Below.alloc ?_ (by first | omega | (simp;omega) | simp) _)
 ·have r1:((er:Int) != 0)=true:=by simp;omega
  go_wp2_with fail
  refine bodyPost_ret (v:=Gk A nx er) (by simp [results,Tryz.results167,go_sem,d0,d1,d2,d3,Gk,hlB,Al]) rfl ⟨rfl,?_⟩
  repeat (first | (with_reducible exact hW) | refine Below.setCell ?_ (by first | omega | (simp;omega) | simp) _ | refine Below.alloc ?_ (by first | omega | (simp;omega) | simp) _)
/-- A range: both items. -/
theorem VW (s:ByteArray) (k:Nat) (w:World) (hs:s.size≤1000000) (hk:k < s.size) (hG:Gl w) (A B:OSet) (ma mb:Bool) (nx n2 er:Nat)
  (hv:VU (Fc s.data.toList k)=GL A ma nx 0) (hnx:nx+1 < s.size) (hdd:XW s.data.toList nx=true) (hv2:VU (Fc s.data.toList (nx+1))=GL B mb n2 er)
  (hA:ma=true→∃ b:Nat,b < 256∧A=Ab b b) (hBb:mb=true→∃ b:Nat,b < 256∧B=Ab b b) :
  Calls Tryz.prog 167 #[.string s,.int .i64 (k:Int)] w fun e w'=>e=.returned (if er≠0 then Gk oz n2 er else if RC A B ma mb=oz then Gk oz k 1 else Gk (RC A B ma mb) n2 0)∧Below w.heap.size w w':=by
 generalize hR:(if er≠0 then Gk oz n2 er else if RC A B ma mb=oz then Gk oz k 1 else Gk (RC A B ma mb) n2 0)=R;have HR:=Ad5 hR;clear hR;have hB:=Blk.new w #[.int .u64 0,.int .u64 0,.int .u64 0,.int .u64 0] 109 _ rfl;have hW:=(Aeh w.heap.size w).alloc (Aec _) (.cells #[.int .u64 0,.int .u64 0,.int .u64 0,.int .u64 0] 109);have hG1:=hG.up hW;have Wn:IntKind.i64.wrap ((nx:Int)+1)=((nx+1:Nat):Int):=by rw [Aej _ (by omega)];omega
 go_enter Tryz.func167,Tryz.ntmps167;go_wp2_with fail
 refine (Iy s k _ hs hk hG1).mono ?_;rintro e w1 ⟨he,b1⟩;rw [hv] at he;subst he;clear hv hG1;replace hW:=hW.trans (b1.mono hW.size);replace hB:=hB.below b1 hB.lt;clear b1;unfold GL;go_wp2_with fail
 refine (Ny s nx _ (by omega) (by omega)).mono ?_;rintro e w2 ⟨he,b2⟩;rw [hdd] at he;subst he;have hF:=(Blk.new w1 #[.int .u64 (ow A 0),.int .u64 (ow A 1),.int .u64 (ow A 2),.int .u64 (ow A 3),.bool ma] 261 _ rfl).below b2 (by simp);replace hW:=(hW.alloc hW.size (.cells #[.int .u64 (ow A 0),.int .u64 (ow A 1),.int .u64 (ow A 2),.int .u64 (ow A 3),.bool ma] 261)).trans (b2.mono (hW.alloc hW.size _).size);replace hB:=(hB.alloc (.cells #[.int .u64 (ow A 0),.int .u64 (ow A 1),.int .u64 (ow A 2),.int .u64 (ow A 3),.bool ma] 261)).below b2 (hB.alloc _).lt;clear b2;have hlB:=hB.lt;have hlF:=hF.lt;have hG2:=hG.up hW;go_wp2_with fail
 refine (Iy s (nx+1) _ hs hnx hG2).mono ?_;rintro e w3 ⟨he,b3⟩;rw [hv2] at he;subst he;clear hv2 hG2 hlB hlF;replace hW:=hW.trans (b3.mono hW.size);replace hB:=hB.below b3 hB.lt;replace hF:=hF.below b3 hF.lt;clear b3;obtain ⟨d0,d1,d2,d3⟩:=Ah hB;have f0:=hB.frozen 0;have f1:=hB.frozen 1;have f2:=hB.frozen 2;have f3:=hB.frozen 3;have hlB:=hB.lt;obtain ⟨c0,c1,c2,c3,c4⟩:=G9 hF;have hlF:=hF.lt;unfold GL;by_cases her:er=0
 ·subst her;have hG3:=hG.up (hW.alloc hW.size (.cells #[.int .u64 (ow B 0),.int .u64 (ow B 1),.int .u64 (ow B 2),.int .u64 (ow B 3),.bool mb] 261));go_wp2_with fail
  refine (SJ A B ma mb hA hBb _ hG3.tab (Aef (by decide) hG3.lt)).mono ?_;clear hG3;rintro e w4 ⟨rfl,b4⟩;replace hW:=(hW.alloc hW.size (.cells #[.int .u64 (ow B 0),.int .u64 (ow B 1),.int .u64 (ow B 2),.int .u64 (ow B 3),.bool mb] 261)).trans (b4.mono (hW.alloc hW.size _).size);replace hB:=(hB.alloc (.cells #[.int .u64 (ow B 0),.int .u64 (ow B 1),.int .u64 (ow B 2),.int .u64 (ow B 3),.bool mb] 261)).below b4 (hB.alloc _).lt;clear b4 d0 d1 d2 d3 f0 f1 f2 f3 hlB c0 c1 c2 c3 c4 hlF hF;obtain ⟨d0,d1,d2,d3⟩:=Ah hB;have f0:=hB.frozen 0;have f1:=hB.frozen 1;have f2:=hB.frozen 2;have f3:=hB.frozen 3;have hlB:=hB.lt;generalize hX:RC A B ma mb=X;have HX:=Ad5 hX;clear hX;have hz:=VV X;by_cases hq:X=oz
  ·have hdq:decide (X=oz)=true:=decide_eq_true hq;have Hq:=Ad5 hq;clear hq;go_wp2_with fail
   refine bodyPost_ret (v:=Gk oz k 1) (by simp [results,Tryz.results167,go_sem,d0,d1,d2,d3,Gk,hlB,Al]) rfl ⟨by rw [←HR.out,if_neg (by simp),HX.out,if_pos Hq.out],?_⟩
   repeat (first | (with_reducible exact hW) | refine Below.setCell ?_ (by first | omega | (simp;omega) | simp) _ | refine Below.alloc ?_ (by first | omega | (simp;omega) | simp) _)
  ·have hdq:decide (X=oz)=false:=decide_eq_false hq;have Hq:=Ad5 hq;clear hq;go_wp2_with fail
   refine bodyPost_ret (v:=Gk X n2 0) (by simp [results,Tryz.results167,go_sem,d0,d1,d2,d3,Gk,hlB,Al]) rfl ⟨by rw [←HR.out,if_neg (by simp),HX.out,if_neg Hq.out],?_⟩
   repeat (first | (with_reducible exact hW) | refine Below.setCell ?_ (by first | omega | (simp;omega) | simp) _ | refine Below.alloc ?_ (by first | omega | (simp;omega) | simp) _)
 ·have r1:((er:Int) != 0)=true:=by simp;omega
  go_wp2_with fail
  refine bodyPost_ret (v:=Gk oz n2 er) (by simp [results,Tryz.results167,go_sem,d0,d1,d2,d3,Gk,hlB,Al]) rfl ⟨by rw [←HR.out,if_pos her],?_⟩
  repeat (first | (with_reducible exact hW) | refine Below.setCell ?_ (by first | omega | (simp;omega) | simp) _ | refine Below.alloc ?_ (by first | omega | (simp;omega) | simp) _)
def U6:Except (Nat × Nat) (OSet × Nat)→Value
 | .ok (t,j)=>Gk t j 0
 | .error (e,p)=>Gk oz p e
theorem RU (s:List UInt8) (k:Nat):XW s k=true ↔ (k+1 < s.length∧byt s k=45∧byt s (k+1)≠93):=by
 unfold XW;simp only [Bool.and_eq_true,decide_eq_true_eq,Bool.not_eq_true',decide_eq_false_iff_not,and_assoc,ne_eq]
theorem VX (s:ByteArray) (k:Nat) (w:World) (hs:s.size≤1000000) (hk:k < s.size) (hG:Gl w) :
  Calls Tryz.prog 167 #[.string s,.int .i64 (k:Int)] w fun e w'=>e=.returned (U6 (U4 s.data.toList k))∧Below w.heap.size w w':=by
 unfold U4;simp only;by_cases h1:(Fc s.data.toList k).err=0
 ·obtain ⟨hn1,hn2⟩:=J9 _ _ h1;rw [At] at hn2;have hv:VU (Fc s.data.toList k)=GL (Fc s.data.toList k).set (Fc s.data.toList k).may (Fc s.data.toList k).next 0:=by
   unfold VU;rw [if_pos h1,h1]
  rw [if_neg (by rw [h1];simp)];cases hd:XW s.data.toList (Fc s.data.toList k).next
  ·rw [if_neg (by rw [←RU,hd];simp)];exact Oa s k w hs hk hG _ _ _ _ hv (Or.inr ⟨hn2,hd⟩)
  ·have hd2:=(RU _ _).1 hd;rw [if_pos hd2,At] at *;generalize hb:Fc s.data.toList ((Fc s.data.toList k).next+1)=b;have hm:=Ry s.data.toList ((Fc s.data.toList k).next+1);rw [hb] at hm;refine (VW s k w hs hk hG _ b.set _ b.may _ (if b.err=0 then b.next else b.place) b.err hv hd2.1 hd (by rw [hb];rfl) (Ry s.data.toList k) hm).mono ?_;rintro e w' ⟨rfl,bl⟩;refine ⟨congrArg _ ?_,bl⟩;by_cases h2:b.err=0
   ·simp only [h2,ne_eq,not_true_eq_false,if_false,if_true];unfold RC;cases hA:(Fc s.data.toList k).may
    ·simp only [Bool.false_and,Bool.false_eq_true,if_false,if_true];rfl
    ·cases hB:b.may
     ·simp only [Bool.and_false,Bool.false_and,Bool.false_eq_true,if_false,if_true];rfl
     ·obtain ⟨y,hy,hy2⟩:=hm hB;have hl:UI b.set < 256:=by rw [hy2,(Mg y hy).2];exact hy
      rw [Bool.and_self,Bool.true_and,if_pos rfl];by_cases hle:UI (Fc s.data.toList k).set≤UI b.set
      ·rw [if_neg (SE _ _ hl hle),if_pos (decide_eq_true hle)];rfl
      ·rw [if_pos (SD _ _ (by omega)),if_neg (by rw [decide_eq_false hle];decide)];rfl
   ·rw [if_pos h2,if_pos h2,if_neg h2];rfl
 ·rw [if_pos h1];have hv:VU (Fc s.data.toList k)=GL oz (Fc s.data.toList k).may (Fc s.data.toList k).place (Fc s.data.toList k).err:=by
   unfold VU;rw [if_neg h1,Zl _ _ h1]
  exact Oa s k w hs hk hG _ _ _ _ hv (Or.inl h1)
theorem L1 (s:ByteArray) (n:Nat) (w:World) (hs:s.size≤1000000) (hn:n≤s.size) (hG:Gl w) :
  Calls Tryz.prog 159 #[.string s,.int .i64 (n:Int)] w fun e w'=>e=.returned (U6 (II s.data.toList true n oz))∧Below w.heap.size w w':=by
 generalize hR:U6 (II s.data.toList true n oz)=R;have HR:=Ad5 hR;clear hR;have hz:oc oz=#[.int .u64 0,.int .u64 0,.int .u64 0,.int .u64 0]:=by unfold oc;rw [Al,Al,Al,Al]
 have hW:=((Aeh w.heap.size w).alloc (Aec _) (.cells #[.int .u64 0,.int .u64 0,.int .u64 0,.int .u64 0] 109)).alloc (by simp) (.cells #[.int .u64 0,.int .u64 0,.int .u64 0,.int .u64 0] 109);have hB:=(Blk.new w #[.int .u64 0,.int .u64 0,.int .u64 0,.int .u64 0] 109 _ rfl).alloc (.cells #[.int .u64 0,.int .u64 0,.int .u64 0,.int .u64 0] 109);have hO:Blk ((w.alloc (.cells #[.int .u64 0,.int .u64 0,.int .u64 0,.int .u64 0] 109)).alloc (.cells #[.int .u64 0,.int .u64 0,.int .u64 0,.int .u64 0] 109)) (w.heap.size+1) (oc oz) 109:=by rw [hz];exact Blk.new _ _ _ _ (by simp)
 clear hz;go_enter Tryz.func159,Tryz.ntmps159;go_wp2_with fail
 go_loopw [8] (fun i wr=>∃ (k:Nat) (fl:Bool) (acc:OSet),k≤s.size∧n≤k∧i=.int .i64 k∧(fl=false ↔ n < k)∧II s.data.toList fl k acc=II s.data.toList true n oz∧Below w.heap.size w wr∧Blk wr w.heap.size #[.int .u64 0,.int .u64 0,.int .u64 0,.int .u64 0] 109∧Blk wr (w.heap.size+1) (oc acc) 109) (fun i _=>s.size+1 - (intOf i).toNat)
 case atStart=>exact ⟨n,true,oz,hn,Aec _,rfl,by simp,rfl,hW,hB,hO⟩
 case round=>
  clear hW hB hO;obtain ⟨k,fl,acc,hk,hnk,rfl,hfl,hq,hW,hB,hO⟩:=hrel;have Hq:=Ad5 hq;have Hfl:=Ad5 hfl;clear hq hfl;obtain ⟨d0,d1,d2,d3⟩:=Ah hB;have f0:=hB.frozen 0;have f1:=hB.frozen 1;have f2:=hB.frozen 2;have f3:=hB.frozen 3;have hlB:=hB.lt;obtain ⟨c0,c1,c2,c3⟩:=Eh hO;have g0:=hO.frozen 0;have g1:=hO.frozen 1;have g2:=hO.frozen 2;have g3:=hO.frozen 3;have hlO:=hO.lt;by_cases hlt:k < s.size
  ·have e0:decide ((k:Int) < (s.size:Int))=true:=by simp;omega
   have e1:decide (k < s.size)=true:=decide_eq_true hlt;by_cases hend:n < k∧s[k].toNat=93
   ·obtain ⟨hnk2,h93⟩:=hend;have Hx:=Ad5 (show U6 (II s.data.toList fl k acc)=Gk acc (k+1) 0 by
     rw [Hfl.out.2 hnk2,II,if_pos ⟨rfl,by rw [At];exact hlt,by rw [BL s k hlt];exact h93⟩];rfl)
    have e2:((s[k].toNat:Int) == 93)=true:=by simp;omega
    have e3:decide ((n:Int) < (k:Int))=true:=by simp;omega
    have e4:decide (n < k)=true:=decide_eq_true hnk2;have Wk:IntKind.i64.wrap ((k:Int)+1)=(k:Int)+1:=Aej _ (by omega);clear h93;go_wp2_with fail
    refine bodyPost_ret (v:=Gk acc (k+1) 0) (by simp [results,Tryz.results159,go_sem,d0,d1,d2,d3,Gk,hlB]) rfl ⟨by rw [←HR.out,←Hq.out,Hx.out],?_⟩
    repeat (first | (with_reducible exact hW) | refine Below.setCell ?_ (by first | omega | (simp;omega) | simp) _ | refine Below.alloc ?_ (by first | omega | (simp;omega) | simp) _)
   ·have hno:¬ (fl=false∧k < s.data.toList.length∧byt s.data.toList k=93):=by
     rintro ⟨h1,_,h3⟩;rw [BL s k hlt] at h3;exact hend ⟨Hfl.out.1 h1,h3⟩
    have Hno:=Ad5 hno;clear hno;go_upto_region 4 with fail;go_cut [25] from 17 to 26 (fun b wx=>b=.bool false∧wx=wr)
    case first=>
     by_cases h93:s[k].toNat=93
     ·have e2:((s[k].toNat:Int) == 93)=true:=by simp;omega
      have e3:decide ((n:Int) < (k:Int))=false:=by simp;omega
      have e4:decide (n < k)=false:=decide_eq_false (fun h=>hend ⟨h,h93⟩);clear h93 hend;go_wp2_with fail
      go_meet;exact ⟨rfl,rfl⟩
     ·have e2:((s[k].toNat:Int) == 93)=false:=by simp;omega
      clear h93 hend;go_wp2_with fail
      go_meet;exact ⟨rfl,rfl⟩
    case rest=>
     obtain ⟨rfl,rfl⟩:=hcut;clear hend;have hG1:=hG.up hW;go_wp2_with fail
     refine (VX s k _ hs hlt hG1).mono ?_;rintro e w1 ⟨he,b1⟩;replace hW:=hW.trans (b1.mono hW.size);replace hB:=hB.below b1 hB.lt;replace hO:=hO.below b1 hO.lt;clear b1 hG1 d0 d1 d2 d3 f0 f1 f2 f3 hlB c0 c1 c2 c3 g0 g1 g2 g3 hlO;cases hel:U4 s.data.toList k with
     | error x=>
      obtain ⟨er,pl⟩:=x;rw [hel] at he;have Hx:=Ad5 (show U6 (II s.data.toList fl k acc)=Gk oz pl er by rw [Rz _ _ _ _ _ Hno.out hel];rfl);have her:er≠0:=Mi _ _ _ _ hel;have e5:((er:Int) != 0)=true:=by simp;omega
      clear hel;subst he;unfold U6 Gk;obtain ⟨d0,d1,d2,d3⟩:=Ah hB;have f0:=hB.frozen 0;have f1:=hB.frozen 1;have f2:=hB.frozen 2;have f3:=hB.frozen 3;have hlB:=hB.lt;go_wp2_with fail
      refine bodyPost_ret (v:=Gk oz pl er) (by simp [results,Tryz.results159,go_sem,d0,d1,d2,d3,Gk,hlB,Al]) rfl ⟨by rw [←HR.out,←Hq.out,Hx.out],?_⟩
      repeat (first | (with_reducible exact hW) | refine Below.setCell ?_ (by first | omega | (simp;omega) | simp) _ | refine Below.alloc ?_ (by first | omega | (simp;omega) | simp) _)
     | ok x=>
      obtain ⟨t,j⟩:=x;rw [hel] at he;have hnx:=JA _ _ _ _ hel;rw [At] at hnx;have Hx:=Ad5 (Aa2 _ _ _ acc _ _ Hno.out hel);clear hel;subst he;unfold U6 Gk;obtain ⟨d0,d1,d2,d3⟩:=Ah hB;have f0:=hB.frozen 0;have f1:=hB.frozen 1;have f2:=hB.frozen 2;have f3:=hB.frozen 3;have hlB:=hB.lt;obtain ⟨c0,c1,c2,c3⟩:=Eh hO;have g0:=hO.frozen 0;have g1:=hO.frozen 1;have g2:=hO.frozen 2;have g3:=hO.frozen 3;have hlO:=hO.lt;go_wp2_with fail
      refine (DA acc t _).mono ?_;rintro e w2 ⟨rfl,b2⟩;replace hW:=(hW.alloc hW.size (.cells (oc t) 109)).trans (b2.mono (hW.alloc hW.size _).size);replace hB:=(hB.alloc (.cells (oc t) 109)).below b2 (hB.alloc _).lt;replace hO:=(hO.alloc (.cells (oc t) 109)).below b2 (hO.alloc _).lt;clear b2 d0 d1 d2 d3 f0 f1 f2 f3 hlB c0 c1 c2 c3 g0 g1 g2 g3 hlO;obtain ⟨c0,c1,c2,c3⟩:=Eh hO;have g0:=hO.frozen 0;have g1:=hO.frozen 1;have g2:=hO.frozen 2;have g3:=hO.frozen 3;have hlO:=hO.lt;go_wp2_with fail
      go_roundw
      case rel=>
       refine ⟨j,false,acc ||| t,hnx.2,by omega,rfl,by simp;omega,by rw [←Hx.out,Hq.out],?_,?_,J7 hO _⟩
       ·repeat (first | (with_reducible exact hW) | refine Below.setCell ?_ (by first | omega | (simp;omega) | simp) _ | refine Below.alloc ?_ (by first | omega | (simp;omega) | simp) _)
       ·repeat (first | exact hB | refine Blk.set_other ?_ _ (by simp) _)
      case measure=>simp [intOf];omega
  ·have e0:decide ((k:Int) < (s.size:Int))=false:=by simp;omega
   have e1:decide (k < s.size)=false:=decide_eq_false hlt;have Hx:=Ad5 (show U6 (II s.data.toList fl k acc)=Gk oz s.size 5 by
    have he:U4 s.data.toList k=.error (5,s.size):=by
     have hi:Fc s.data.toList k=⟨oz,false,0,5,s.size⟩:=by unfold Fc;rw [if_pos (by rw [At];omega),At]
     unfold U4;rw [hi];rfl
    rw [Rz _ _ _ _ _ (by rw [At];omega) he];rfl)
   go_wp2_with fail
   refine bodyPost_ret (v:=Gk oz s.size 5) (by simp [results,Tryz.results159,go_sem,d0,d1,d2,d3,Gk,hlB,Al]) rfl ⟨by rw [←HR.out,←Hq.out,Hx.out],?_⟩
   repeat (first | (with_reducible exact hW) | refine Below.setCell ?_ (by first | omega | (simp;omega) | simp) _ | refine Below.alloc ?_ (by first | omega | (simp;omega) | simp) _)
theorem Adg (s:ByteArray) (n:Nat) (w:World) :
  Calls Tryz.prog 23 #[.string (s.extract n s.size),.string ⟨#[94]⟩] w fun e w'=>e=.returned (.bool (UJ s.data.toList n))∧w=w':=by
 have h:=Cs (s.extract n s.size) ⟨#[94]⟩ w;rw [BP,show (⟨#[94]⟩:ByteArray).data.toList=[94] from rfl,R4] at h;exact h
theorem Td (s:ByteArray) (k:Int) (w:World) (h:k < 0∨(s.size:Int) < k) :
  Calls Tryz.prog 148 #[.string s,.int .i64 k] w fun e w'=>e=.returned (KM (Fz s.data.toList k))∧Below w.heap.size w w':=by
 have Hp:=Ad5 (Yq s.data.toList k (by rw [At];exact h));have hW:=(Aeh w.heap.size w).alloc (Aec _) (.cells #[.int .u64 0,.int .u64 0,.int .u64 0,.int .u64 0] 109);by_cases h0:k < 0
 ·have e0:decide (k < 0)=true:=decide_eq_true h0;go_enter Tryz.func148,Tryz.ntmps148;go_wp2_with fail
  refine bodyPost_ret (v:=KM (oz,0,1)) (by simp [results,Tryz.results148,go_sem,KM,Al]) rfl ⟨by rw [Hp.out],?_⟩
  repeat (first | (with_reducible exact hW) | refine Below.setCell ?_ (by first | omega | (simp;omega) | simp) _ | refine Below.alloc ?_ (by first | omega | (simp;omega) | simp) _)
 ·have e0:decide (k < 0)=false:=decide_eq_false h0;have e1:decide ((s.size:Int) < k)=true:=decide_eq_true (by omega);go_enter Tryz.func148,Tryz.ntmps148;go_wp2_with fail
  refine bodyPost_ret (v:=KM (oz,0,1)) (by simp [results,Tryz.results148,go_sem,KM,Al]) rfl ⟨by rw [Hp.out],?_⟩
  repeat (first | (with_reducible exact hW) | refine Below.setCell ?_ (by first | omega | (simp;omega) | simp) _ | refine Below.alloc ?_ (by first | omega | (simp;omega) | simp) _)
theorem Ob (s:ByteArray) (n:Nat) (w:World) (hs:s.size≤1000000) (hn:n≤s.size) (hG:Gl w) (hc:UJ s.data.toList n=false) :
  Calls Tryz.prog 148 #[.string s,.int .i64 (n:Int)] w fun e w'=>e=.returned (KM (Fz s.data.toList (n:Int)))∧Below w.heap.size w w':=by
 generalize hR:KM (Fz s.data.toList (n:Int))=R;have HR:=Ad5 hR;clear hR;have e1:decide ((s.size:Int) < (n:Int))=false:=decide_eq_false (by omega);have e2:decide (s.size < n)=false:=decide_eq_false (by omega);have Wn:IntKind.i64.wrap ((n:Int)+1)=((n+1:Nat):Int):=by rw [Aej _ (by omega)];omega
 have hW:=(Aeh w.heap.size w).alloc (Aec _) (.cells #[.int .u64 0,.int .u64 0,.int .u64 0,.int .u64 0] 109);have hB:=Blk.new w #[.int .u64 0,.int .u64 0,.int .u64 0,.int .u64 0] 109 _ rfl;have hG1:=hG.up hW;have Hok:=Ad5 (Pp s.data.toList n (by rw [At];exact hn));have Her:=Ad5 (Mh s.data.toList n (by rw [At];exact hn));rw [hc] at Hok Her;go_enter Tryz.func148,Tryz.ntmps148;go_wp2_with fail
 refine (Adg s n _).mono ?_;rintro e w1 ⟨he,rfl⟩;rw [hc] at he;subst he;go_wp2_with fail
 refine (L1 s n _ hs hn hG1).mono ?_;rintro e w2 ⟨he,b2⟩;replace hW:=hW.trans (b2.mono hW.size);replace hB:=hB.below b2 hB.lt;clear b2 hG1;cases hr:II s.data.toList true n oz with
 | error x=>
  obtain ⟨er,pl⟩:=x;rw [hr] at he;have Hx:=Ad5 (Her.out er pl (by simpa using hr));have her:er≠0:=R5 _ _ _ _ _ _ hr;have e5:((er:Int) == 0)=false:=by simp;omega
  clear hr;subst he;unfold U6 Gk;obtain ⟨d0,d1,d2,d3⟩:=Ah hB;have f0:=hB.frozen 0;have f1:=hB.frozen 1;have f2:=hB.frozen 2;have f3:=hB.frozen 3;have hlB:=hB.lt;go_wp2_with fail
  refine bodyPost_ret (v:=KM (oz,(pl:Int),er)) (by simp [results,Tryz.results148,go_sem,d0,d1,d2,d3,KM,hlB,Al]) rfl ⟨by rw [←HR.out,Hx.out],?_⟩
  repeat (first | (with_reducible exact hW) | refine Below.setCell ?_ (by first | omega | (simp;omega) | simp) _ | refine Below.alloc ?_ (by first | omega | (simp;omega) | simp) _)
 | ok x=>
  obtain ⟨t,j⟩:=x;rw [hr] at he;have Hx:=Ad5 (Hok.out t j (by simpa using hr));clear hr;subst he;unfold U6 Gk;obtain ⟨d0,d1,d2,d3⟩:=Ah hB;have f0:=hB.frozen 0;have f1:=hB.frozen 1;have f2:=hB.frozen 2;have f3:=hB.frozen 3;have hlB:=hB.lt;go_wp2_with fail
  refine bodyPost_ret (v:=KM (t,(j:Int),0)) (by simp [results,Tryz.results148,go_sem,d0,d1,d2,d3,KM,hlB]) rfl ⟨by rw [←HR.out,Hx.out];rfl,?_⟩
  repeat (first | (with_reducible exact hW) | refine Below.setCell ?_ (by first | omega | (simp;omega) | simp) _ | refine Below.alloc ?_ (by first | omega | (simp;omega) | simp) _)
theorem Te (s:ByteArray) (n:Nat) (w:World) (hs:s.size≤1000000) (hn:n≤s.size) (hG:Gl w) (hc:UJ s.data.toList n=true) (hn1:n+1≤s.size) :
  Calls Tryz.prog 148 #[.string s,.int .i64 (n:Int)] w fun e w'=>e=.returned (KM (Fz s.data.toList (n:Int)))∧Below w.heap.size w w':=by
 generalize hR:KM (Fz s.data.toList (n:Int))=R;have HR:=Ad5 hR;clear hR;have e1:decide ((s.size:Int) < (n:Int))=false:=decide_eq_false (by omega);have e2:decide (s.size < n)=false:=decide_eq_false (by omega);have Wn:IntKind.i64.wrap ((n:Int)+1)=((n+1:Nat):Int):=by rw [Aej _ (by omega)];omega
 have hW:=(Aeh w.heap.size w).alloc (Aec _) (.cells #[.int .u64 0,.int .u64 0,.int .u64 0,.int .u64 0] 109);have hB:=Blk.new w #[.int .u64 0,.int .u64 0,.int .u64 0,.int .u64 0] 109 _ rfl;have hG1:=hG.up hW;have Hok:=Ad5 (Pp s.data.toList n (by rw [At];exact hn));have Her:=Ad5 (Mh s.data.toList n (by rw [At];exact hn));rw [hc] at Hok Her;go_enter Tryz.func148,Tryz.ntmps148;go_wp2_with fail
 refine (Adg s n _).mono ?_;rintro e w1 ⟨he,rfl⟩;rw [hc] at he;subst he;go_wp2_with fail
 refine (L1 s (n+1) _ hs hn1 hG1).mono ?_;rintro e w2 ⟨he,b2⟩;replace hW:=hW.trans (b2.mono hW.size);replace hB:=hB.below b2 hB.lt;clear b2 hG1;cases hr:II s.data.toList true (n+1) oz with
 | error x=>
  obtain ⟨er,pl⟩:=x;rw [hr] at he;have Hx:=Ad5 (Her.out er pl (by simpa using hr));have her:er≠0:=R5 _ _ _ _ _ _ hr;have e5:((er:Int) == 0)=false:=by simp;omega
  clear hr;subst he;unfold U6 Gk;obtain ⟨d0,d1,d2,d3⟩:=Ah hB;have f0:=hB.frozen 0;have f1:=hB.frozen 1;have f2:=hB.frozen 2;have f3:=hB.frozen 3;have hlB:=hB.lt;go_wp2_with fail
  refine bodyPost_ret (v:=KM (oz,(pl:Int),er)) (by simp [results,Tryz.results148,go_sem,d0,d1,d2,d3,KM,hlB,Al]) rfl ⟨by rw [←HR.out,Hx.out],?_⟩
  repeat (first | (with_reducible exact hW) | refine Below.setCell ?_ (by first | omega | (simp;omega) | simp) _ | refine Below.alloc ?_ (by first | omega | (simp;omega) | simp) _)
 | ok x=>
  obtain ⟨t,j⟩:=x;rw [hr] at he;have Hx:=Ad5 (Hok.out t j (by simpa using hr));clear hr;subst he;unfold U6 Gk;obtain ⟨d0,d1,d2,d3⟩:=Ah hB;have f0:=hB.frozen 0;have f1:=hB.frozen 1;have f2:=hB.frozen 2;have f3:=hB.frozen 3;have hlB:=hB.lt;go_wp2_with fail
  obtain ⟨nt,hnt⟩:∃ nt,~~~t=nt:=⟨_,rfl⟩;have hna:=Gb t;rw [hnt] at Hx hna;clear hnt;refine (hna _).mono ?_;rintro e w3 ⟨rfl,b3⟩;replace hW:=(hW.alloc hW.size (.cells (oc t) 109)).trans (b3.mono (hW.alloc hW.size _).size);replace hB:=(hB.alloc (.cells (oc t) 109)).below b3 (hB.alloc _).lt;have hne:=hlB;have hne2:¬ w.heap.size=w2.heap.size:=by omega
  have hne3:¬ w2.heap.size=w.heap.size:=by omega
  have hS:=(Blk.new w2 (oc t) 109 _ rfl).below b3 (by simp);have hlS:=hS.lt;have g0:=hS.frozen 0;have g1:=hS.frozen 1;have g2:=hS.frozen 2;have g3:=hS.frozen 3;obtain ⟨c0,c1,c2,c3⟩:=Eh hS;clear b3 d0 d1 d2 d3 f0 f1 f2 f3 hlB;obtain ⟨d0,d1,d2,d3⟩:=Ah hB;have f0:=hB.frozen 0;have f1:=hB.frozen 1;have f2:=hB.frozen 2;have f3:=hB.frozen 3;have hlB:=hB.lt;go_wp2_with fail
  have hz:oc oz=#[.int .u64 0,.int .u64 0,.int .u64 0,.int .u64 0]:=by unfold oc;rw [Al,Al,Al,Al]
  have hB0:Blk w3 w.heap.size (oc oz) 109:=by rw [hz];exact hB
  have hB1:Blk ((((w3.setCell ⟨w2.heap.size,0,none⟩ (.int .u64 (ow nt 0))).setCell ⟨w2.heap.size,1,none⟩ (.int .u64 (ow nt 1))).setCell ⟨w2.heap.size,2,none⟩ (.int .u64 (ow nt 2))).setCell ⟨w2.heap.size,3,none⟩ (.int .u64 (ow nt 3))) w.heap.size (oc oz) 109:=(((hB0.set_other _ hne3 _).set_other _ hne3 _).set_other _ hne3 _).set_other _ hne3 _;have hB2:Blk ((((((((w3.setCell ⟨w2.heap.size,0,none⟩ (.int .u64 (ow nt 0))).setCell ⟨w2.heap.size,1,none⟩ (.int .u64 (ow nt 1))).setCell ⟨w2.heap.size,2,none⟩ (.int .u64 (ow nt 2))).setCell ⟨w2.heap.size,3,none⟩ (.int .u64 (ow nt 3))).setCell ⟨w.heap.size,0,none⟩ (.int .u64 (ow nt 0))).setCell ⟨w.heap.size,1,none⟩ (.int .u64 (ow nt 1))).setCell ⟨w.heap.size,2,none⟩ (.int .u64 (ow nt 2))).setCell ⟨w.heap.size,3,none⟩ (.int .u64 (ow nt 3))) w.heap.size (oc nt) 109:=J7 hB1 nt;have hWf:Below w.heap.size w ((((((((w3.setCell ⟨w2.heap.size,0,none⟩ (.int .u64 (ow nt 0))).setCell ⟨w2.heap.size,1,none⟩ (.int .u64 (ow nt 1))).setCell ⟨w2.heap.size,2,none⟩ (.int .u64 (ow nt 2))).setCell ⟨w2.heap.size,3,none⟩ (.int .u64 (ow nt 3))).setCell ⟨w.heap.size,0,none⟩ (.int .u64 (ow nt 0))).setCell ⟨w.heap.size,1,none⟩ (.int .u64 (ow nt 1))).setCell ⟨w.heap.size,2,none⟩ (.int .u64 (ow nt 2))).setCell ⟨w.heap.size,3,none⟩ (.int .u64 (ow nt 3))):=by
   repeat (first | (with_reducible exact hW) | refine Below.setCell ?_ (by first | omega | (simp;omega) | simp) _ | refine Below.alloc ?_ (by first | omega | (simp;omega) | simp) _)
  generalize ((((((((w3.setCell ⟨w2.heap.size,0,none⟩ (.int .u64 (ow nt 0))).setCell ⟨w2.heap.size,1,none⟩ (.int .u64 (ow nt 1))).setCell ⟨w2.heap.size,2,none⟩ (.int .u64 (ow nt 2))).setCell ⟨w2.heap.size,3,none⟩ (.int .u64 (ow nt 3))).setCell ⟨w.heap.size,0,none⟩ (.int .u64 (ow nt 0))).setCell ⟨w.heap.size,1,none⟩ (.int .u64 (ow nt 1))).setCell ⟨w.heap.size,2,none⟩ (.int .u64 (ow nt 2))).setCell ⟨w.heap.size,3,none⟩ (.int .u64 (ow nt 3)))=wf at hB2 hWf ⊢;clear hB1 hB0 hB hz hS c0 c1 c2 c3 g0 g1 g2 g3 d0 d1 d2 d3 f0 f1 f2 f3;obtain ⟨r0,r1,r2,r3⟩:=Eh hB2;refine bodyPost_ret (v:=KM (nt,(j:Int),0)) (by simp [results,Tryz.results148,go_sem,r0,r1,r2,r3,KM]) rfl ⟨by rw [←HR.out,Hx.out];rfl,hWf⟩
theorem VY (s:ByteArray) (n:Nat) (w:World) (hs:s.size≤1000000) (hn:n≤s.size) (hG:Gl w) :
  Calls Tryz.prog 148 #[.string s,.int .i64 (n:Int)] w fun e w'=>e=.returned (KM (Fz s.data.toList (n:Int)))∧Below w.heap.size w w':=by
 cases hc:UJ s.data.toList n
 ·exact Ob s n w hs hn hG hc
 ·refine Te s n w hs hn hG hc ?_;unfold UJ at hc;rw [At] at hc;simp only [Bool.and_eq_true,decide_eq_true_eq] at hc;omega
theorem L2 (s:ByteArray) (k:Int) (w:World) (hs:s.size≤1000000) (hG:Gl w) :
  Calls Tryz.prog 148 #[.string s,.int .i64 k] w fun e w'=>e=.returned (KM (Fz s.data.toList k))∧Below w.heap.size w w':=by
 by_cases h:k < 0∨(s.size:Int) < k
 ·exact Td s k w h
 ·obtain ⟨n,rfl⟩:∃ n:Nat,k=(n:Int):=⟨k.toNat,by omega⟩;exact VY s n w hs (by omega) hG
end
section
open Go Go.RowKit
theorem Ch {F:Nat→Prop} {w:World} {d:Nd} {v:Value} (h:NdX F w d v) :
  (d=.empty∧(v=.iface 105 (.agg #[])∨v=.nilIface))∨(∃ s:OSet,d=.one s∧v=.iface 111 (.agg #[.int .u64 (ow s 0),.int .u64 (ow s 1),.int .u64 (ow s 2),.int .u64 (ow s 3)]))∨
  (∃ l a cap,d=.cat l∧v=.iface 98 (.agg #[.slice a l.length cap])∧AW F w l a cap)∨(∃ l a cap,d=.alt l∧v=.iface 99 (.agg #[.slice a l.length cap])∧AW F w l a cap)∨
  (∃ d' mn mx u,d=.rep d' mn mx∧v=.iface 101 (.agg #[u,.int .i64 mn,.int .i64 mx])∧NdX F w d' u)∨(∃ num d' u,d=.group num d'∧v=.iface 103 (.agg #[.int .i64 num,u])∧NdX F w d' u)∨
  (∃ num,d=.back num∧v=.iface 117 (.agg #[.int .i64 num]))∨(d=.start∧v=.iface 119 (.agg #[]))∨(d=.fin∧v=.iface 121 (.agg #[])):=by
 obtain ⟨n,h⟩:=h;cases n with
 | zero=>exact h.elim
 | succ n=>
  cases d with
  | empty=>exact .inl ⟨rfl,h⟩
  | one s=>exact .inr (.inl ⟨s,rfl,h⟩)
  | cat l=>obtain ⟨a,cap,h1,h2⟩:=h;exact .inr (.inr (.inl ⟨l,a,cap,rfl,h1,AW.of (n:=n) h2⟩))
  | alt l=>obtain ⟨a,cap,h1,h2⟩:=h;exact .inr (.inr (.inr (.inl ⟨l,a,cap,rfl,h1,AW.of (n:=n) h2⟩)))
  | rep d mn mx=>obtain ⟨u,h1,h2⟩:=h;exact .inr (.inr (.inr (.inr (.inl ⟨d,mn,mx,u,rfl,h1,n,h2⟩))))
  | group num d=>obtain ⟨u,h1,h2⟩:=h;exact .inr (.inr (.inr (.inr (.inr (.inl ⟨num,d,u,rfl,h1,n,h2⟩)))))
  | back num=>exact .inr (.inr (.inr (.inr (.inr (.inr (.inl ⟨num,rfl,h⟩))))))
  | start=>exact .inr (.inr (.inr (.inr (.inr (.inr (.inr (.inl ⟨rfl,h⟩)))))))
  | fin=>exact .inr (.inr (.inr (.inr (.inr (.inr (.inr (.inr ⟨rfl,h⟩)))))))
theorem IP {a b:Bool} (h:a=b):Ending.returned (.bool a)=.returned (.bool b):=by rw [h]
theorem Tf {F:Nat→Prop} (d:Nd) (v:Value) (w:World) (h:NdX F w d v):Calls Tryz.prog 53 #[v] w fun e w'=>e=.returned (.bool (!inAlt d))∧Below w.heap.size w w':=by
 rcases Ch h with ⟨rfl,rfl | rfl⟩ | ⟨s,rfl,rfl⟩ | ⟨l,a,cap,rfl,rfl,hr⟩ | ⟨l,a,cap,rfl,rfl,hr⟩ | ⟨d',mn,mx,u,rfl,rfl,hu⟩ | ⟨num,d',u,rfl,rfl,hu⟩ | ⟨num,rfl,rfl⟩ | ⟨rfl,rfl⟩ | ⟨rfl,rfl⟩
 all_goals
  go_enter Tryz.func53,Tryz.ntmps53;go_wp2_with fail
  go_ret;refine ⟨rfl,?_⟩
  repeat (first | (with_reducible exact hW) | (with_reducible exact Aeh _ _) | refine Below.drew ?_ | refine Below.setCell ?_ (by first | omega | (simp;omega) | simp) _ | refine Below.alloc ?_ (by first | omega | (simp;omega) | simp) _)
end
end Go.Proofs.YteilldmmihiijaaGreatDoor
