/- The proof's texts Rx: what the claim reaches of them. -/
import Derived.Test.YtbgfankoojjejaaGreatDoorGd07
import Derived.Test.YtbgfankoojjejaaGreatDoorGd04
import Derived.Test.YtbgfankoojjejaaGreatDoorGd03
import Derived.Test.YtbgfankoojjejaaGreatDoorGd08
set_option linter.unusedSimpArgs false
set_option linter.unusedVariables false
set_option maxHeartbeats 8000000
set_option maxRecDepth 1000000
namespace Go.Proofs.YtbgfankoojjejaaGreatDoor
open Go Go.RowKit Go.Shelf
theorem play206:Go.Proofs.Lays.n206 Tryz.prog pren:={
 mixed:=by kernel_rfl
 f206:=Tryz.func50.trans (congrArg some (by kernel_rfl))
 t3:=Tryz.underlying3
 a3:=Tryz.isAgg3
 z3:=Tryz.sizeOf3
 v3:=Tryz.zeroValue3
 t4:=Tryz.underlying4
 a4:=Tryz.isAgg4
 z4:=Tryz.sizeOf4
 v4:=Tryz.zeroValue4
 t9:=Tryz.underlying9
 a9:=Tryz.isAgg9
 z9:=Tryz.sizeOf9
 v9:=Tryz.zeroValue9 }
theorem sprefix_any (s t:ByteArray) (w:World) :
  Calls Tryz.prog 50 #[.string s,.string t] w fun e w'=>e=.returned (.bool (Lib.hasPrefix s.data.toList t.data.toList))∧w=w':=
 (Any.stringslite_HasPrefix play206 s t w).mono fun _ _ ⟨h1,h2⟩=>⟨h1,h2.symm⟩
theorem pre_size (s t:ByteArray) (h:Lib.hasPrefix s.data.toList t.data.toList=true):t.size≤s.size:=by
 unfold Lib.hasPrefix at h
 have h1:=(List.isPrefixOf_iff_prefix.1 h).length_le
 simpa using h1
theorem scut_no (s t:ByteArray) (w:World) (h:Lib.hasPrefix s.data.toList t.data.toList=false) :
  Calls Tryz.prog 148 #[.string s,.string t] w fun e w'=>e=.returned (.tuple #[.string s,.bool false])∧w=w':=by
 have hc:=sprefix_any s t w
 rw [h] at hc
 clear h
 go_enter Tryz.func148,Tryz.ntmps148
 go_wp2_with (go_at_call 50;refine hc.mono ?_;rintro e w' ⟨rfl,rfl⟩)
 go_ret2
 exact ⟨rfl,rfl⟩
theorem scut_yes (s t:ByteArray) (w:World) (h:Lib.hasPrefix s.data.toList t.data.toList=true) :
  Calls Tryz.prog 148 #[.string s,.string t] w fun e w'=>e=.returned (.tuple #[.string (s.extract t.size s.size),.bool true])∧w=w':=by
 have hc:=sprefix_any s t w
 have hs:=pre_size s t h
 have hs2:(t.size:Int)≤(s.size:Int):=by omega
 rw [h] at hc
 clear h
 go_enter Tryz.func148,Tryz.ntmps148
 go_wp2_with (go_at_call 50;refine hc.mono ?_;rintro e w' ⟨rfl,rfl⟩)
 go_ret2
 exact ⟨rfl,rfl⟩
theorem cut_no (s t:ByteArray) (w:World) (h:Lib.hasPrefix s.data.toList t.data.toList=false) :
  Calls Tryz.prog 140 #[.string s,.string t] w fun e w'=>e=.returned (.tuple #[.string s,.bool false])∧w=w':=by
 have hc:=scut_no s t w h
 clear h
 go_enter Tryz.func140,Tryz.ntmps140
 go_wp2_with (go_at_call 148;refine hc.mono ?_;rintro e w' ⟨rfl,rfl⟩)
 go_ret2
 exact ⟨rfl,rfl⟩
theorem cut_yes (s t:ByteArray) (w:World) (h:Lib.hasPrefix s.data.toList t.data.toList=true) :
  Calls Tryz.prog 140 #[.string s,.string t] w fun e w'=>e=.returned (.tuple #[.string (s.extract t.size s.size),.bool true])∧w=w':=by
 have hc:=scut_yes s t w h
 clear h
 go_enter Tryz.func140,Tryz.ntmps140
 go_wp2_with (go_at_call 148;refine hc.mono ?_;rintro e w' ⟨rfl,rfl⟩)
 go_ret2
 exact ⟨rfl,rfl⟩
theorem res4 {fn:Func} {a b c d:Tmp} (h:fn.results=#[.tmp a,.tmp b,.tmp c,.tmp d]) (tmps:Array Value) (P:Program) (w:World) :
  (results fn tmps).run P w=.ok (.tuple #[tmps.getD a undef,tmps.getD b undef,tmps.getD c undef,tmps.getD d undef]) w:=by
 simp [results,h]
theorem ret_isb {a:Int} {s:ByteArray} {b c:Bool} (h:b=c):Ending.returned (.tuple #[.int .i64 a,.string s,.bool b])=.returned (.tuple #[.int .i64 a,.string s,.bool c]):=by rw [h]
theorem bound_any (r:ByteArray) (w:World) (hs:r.size≤250) :
  Calls Tryz.prog 147 #[.string r] w fun e w'=>e=.returned (.tuple #[.int .i64 ((digs r.data.toList 3 0 0).2:Int),.string (r.extract (digs r.data.toList 3 0 0).1 r.size),.bool (okNum r.data.toList 0)])∧Below w.heap.size w w':=by
 have hrb:∀ j,(r.data.toList.getD j 0).toNat=byt r.data.toList j:=fun j=>rfl
 have HRB:=Lib.hid hrb
 have hrs:r.data.toList.length=r.size:=by simp
 have HRS:=Lib.hid hrs
 clear hrb hrs
 obtain ⟨D,hD⟩:∃ D,D=digs r.data.toList 3 0 0:=⟨_,rfl⟩
 unfold okNum
 rw [←hD]
 have HD:=Lib.hid hD
 clear hD
 go_enter Tryz.func147,Tryz.ntmps147
 go_wp2_with fail
 all_goals go_wp2_with fail
 go_loopw [2,5] (fun v d wr=>∃ k x:Nat,k≤3∧d=.int .i64 (k:Int)∧v=.int .i64 (x:Int)∧x≤9999∧(k=0→x=0)∧(k≤2→x≤99)∧(k≤1→x≤9)∧k≤r.size∧wr.heap[w.heap.size]?=some (.stringIter r k)∧Below w.heap.size w wr∧D=(k+(digs r.data.toList (3 - k) k x).1,(digs r.data.toList (3 - k) k x).2)) (fun _ d _=>3 - (intOf d).toNat)
 case atStart=>
  refine ⟨0,0,by omega,rfl,rfl,by omega,fun _=>rfl,fun _=>by omega,fun _=>by omega,by omega,?_,?_,?_⟩
  ·exact World.iter_heap w r 0
  ·exact Below.alloc (Below.refl _ _) (Nat.le_refl _) _
  ·rw [HD.out];simp
 case round=>
  obtain ⟨k,x,hk3,rfl,rfl,hx,hx0,hx2,hx1,hks,hit,hV,hDk⟩:=hrel
  have HDK:=Lib.hid hDk
  clear hDk
  have hq:w.heap.size < wr.heap.size:=(Array.getElem?_eq_some_iff.1 hit).1
  have hrs:=HRS.out
  by_cases hlt:k < r.size
  ·have hnx:∀ ty,(Instr.next (.pointer (some ⟨w.heap.size,0,none⟩)) true ty).run Tryz.prog wr=_:=fun ty=>Lib.run_next_any_at wr w.heap.size r k ty hit hlt
   have hbw2:=Lib.below_iterAt hV (k:=w.heap.size) (Nat.le_refl _) r (k+(Utf8.decode r k).2)
   have hit2:=Lib.iterAt_heap wr w.heap.size r k (k+(Utf8.decode r k).2) hit
   have hdec:byt r.data.toList k < 128→Utf8.decode r k=(byt r.data.toList k,1):=fun hlo=>by
    have h1:=HRB.out k
    rw [decode_list,decodeN_low _ _ _ _ _ (by rw [h1];exact hlo),h1]
   have hhi:¬ byt r.data.toList k < 128→127 < (Utf8.decode r k).1:=fun hno=>decode_hi _ _ (by rw [HRB.out k];exact hno)
   have hdig:isDig r.data.toList k=(decide (48≤byt r.data.toList k) && decide (byt r.data.toList k≤57)):=by
    unfold isDig
    rw [decide_eq_true (by rw [hrs];exact hlt)]
    rfl
   have hb256:=byt_lt r.data.toList k
   by_cases hgo:(48≤byt r.data.toList k∧byt r.data.toList k≤57)∧k < 3
   ·obtain ⟨⟨hg1,hg2⟩,hg3⟩:=hgo
    rw [hdec (by omega)] at hnx hbw2 hit2
    have hD2:D=(k+1+(digs r.data.toList (3 - (k+1)) (k+1) (10 * x+(byt r.data.toList k - 48))).1,(digs r.data.toList (3 - (k+1)) (k+1) (10 * x+(byt r.data.toList k - 48))).2):=by
     rw [HDK.out,show 3 - k=(3 - (k+1))+1 by omega,digs_yes _ _ _ _ (by rw [hdig,decide_eq_true hg1,decide_eq_true hg2];rfl)]
     simp only [Nat.add_assoc]
     rw [show (1:Nat)+(digs r.data.toList (3 - (k+1)) (k+1) (10 * x+(byt r.data.toList k - 48))).1=(digs r.data.toList (3 - (k+1)) (k+1) (10 * x+(byt r.data.toList k - 48))).1+1 by omega]
    have HD2:=Lib.hid hD2
    have hx9:=hx2 (by omega)
    have HX0:=Lib.hid hx0
    clear hD2 hdec hhi hdig hx0 HDK
    generalize byt r.data.toList k=b at *
    have e1:decide ((b:Int) < 48)=false:=by simp;omega
    have e2:decide (57 < (b:Int))=false:=by simp;omega
    have e3:((k:Int) == 3)=false:=by simp;omega
    have W1:IntKind.i64.wrap (10 * (x:Int)+((b:Int) - 48))=((10 * x+(b - 48):Nat):Int):=by rw [IntWalk.i64_in _ (by omega)];omega
    have HL:=Lib.hid (show k+1≤r.size by omega)
    clear hrs
    go_wp2_with fail
    go_roundw
    case rel=>exact ⟨k+1,10 * x+(b - 48),by omega,by go_num,by go_num,by omega,by omega,by omega,by have:=HX0.out;omega,HL.out,hit2,hbw2,HD2.out⟩
    case measure=>simp [intOf];omega
   ·have hF:D=(k,x):=by
     rw [HDK.out,digs_no]
     ·rfl
     ·by_cases h3:k < 3
      ·right
       rw [hdig]
       cases h1:decide (48≤byt r.data.toList k) <;> cases h2:decide (byt r.data.toList k≤57) <;> first | rfl | exact (hgo ⟨⟨of_decide_eq_true h1,of_decide_eq_true h2⟩,h3⟩).elim
      ·left;omega
    obtain ⟨R,wd,hRw,hcase⟩:∃ R wd:Nat,Utf8.decode r k=(R,wd)∧((R < 48)∨(¬ R < 48∧57 < R)∨(¬ R < 48∧¬ 57 < R∧k=3)):=by
     by_cases hlo:byt r.data.toList k < 128
     ·exact ⟨_,_,hdec hlo,by omega⟩
     ·refine ⟨(Utf8.decode r k).1,(Utf8.decode r k).2,rfl,?_⟩
      have h9:=hhi hlo
      clear hnx hbw2 hit2 hdec hhi
      omega
    rw [hRw] at hnx hbw2 hit2
    simp only at hnx hbw2 hit2
    generalize k+wd=j at hnx hbw2 hit2
    subst hF
    have hks2:(k:Int)≤(r.size:Int):=by omega
    clear hrs HDK hdec hhi hdig hgo hb256 hRw
    have HB:=Lib.hid hbw2
    have hb1:k=0∨0 < k:=by omega
    clear hbw2
    rcases hcase with h1 | ⟨h1,h2⟩ | ⟨h1,h2,h3⟩
    ·have e1:decide ((R:Int) < 48)=true:=by simp;omega
     clear h1
     rcases hb1 with rfl | hb1
     ·obtain rfl:x=0:=hx0 rfl
      have q1:decide ((0:Nat) < 0)=false:=rfl
      go_wp2_with fail
      go_quiet (fail)
      go_wp2_with fail
      go_ret3
      exact ⟨rfl,below_drewN HB.out _⟩
     ·have q1:decide (0 < k)=true:=decide_eq_true hb1
      have Hq:=Lib.hid (show decide ((x:Int)≤255)=decide (x≤255) from decide_eq_decide.2 (by omega))
      go_wp2_with fail
      go_quiet (fail)
      go_wp2_with fail
      go_ret3
      exact ⟨ret_isb Hq.out,below_drewN HB.out _⟩
    ·have e1:decide ((R:Int) < 48)=false:=by simp;omega
     have e2:decide (57 < (R:Int))=true:=by simp;omega
     clear h1 h2
     rcases hb1 with rfl | hb1
     ·obtain rfl:x=0:=hx0 rfl
      have q1:decide ((0:Nat) < 0)=false:=rfl
      go_wp2_with fail
      go_quiet (fail)
      go_wp2_with fail
      go_ret3
      exact ⟨rfl,below_drewN HB.out _⟩
     ·have q1:decide (0 < k)=true:=decide_eq_true hb1
      have Hq:=Lib.hid (show decide ((x:Int)≤255)=decide (x≤255) from decide_eq_decide.2 (by omega))
      go_wp2_with fail
      go_quiet (fail)
      go_wp2_with fail
      go_ret3
      exact ⟨ret_isb Hq.out,below_drewN HB.out _⟩
    ·have e1:decide ((R:Int) < 48)=false:=by simp;omega
     have e2:decide (57 < (R:Int))=false:=by simp;omega
     have e3:((k:Int) == 3)=true:=by simp;omega
     replace hb1:0 < k:=by omega
     clear h1 h2 h3
     have q1:decide (0 < k)=true:=decide_eq_true hb1
     have Hq:=Lib.hid (show decide ((x:Int)≤255)=decide (x≤255) from decide_eq_decide.2 (by omega))
     go_wp2_with fail
     go_quiet (fail)
     go_wp2_with fail
     go_ret3
     exact ⟨ret_isb Hq.out,below_drewN HB.out _⟩
  ·have hnx:∀ ty,(Instr.next (.pointer (some ⟨w.heap.size,0,none⟩)) true ty).run Tryz.prog wr=_:=fun ty=>Lib.run_next_end_at wr w.heap.size r k ty hit hlt
   have hF:D=(k,x):=by
    rw [HDK.out,digs_no]
    ·rfl
    ·right
     unfold isDig
     rw [decide_eq_false (by rw [hrs];exact hlt)]
     rfl
   subst hF
   have hks2:(k:Int)≤(r.size:Int):=by omega
   clear hrs HDK
   have HB:=Lib.hid hV
   have hb1:k=0∨0 < k:=by omega
   rcases hb1 with rfl | hb1
   ·obtain rfl:x=0:=hx0 rfl
    have q1:decide ((0:Nat) < 0)=false:=rfl
    go_wp2_with fail
    go_quiet (fail)
    go_wp2_with fail
    go_ret3
    exact ⟨rfl,below_drewN HB.out _⟩
   ·have q1:decide (0 < k)=true:=decide_eq_true hb1
    have Hq:=Lib.hid (show decide ((x:Int)≤255)=decide (x≤255) from decide_eq_decide.2 (by omega))
    go_wp2_with fail
    go_quiet (fail)
    go_wp2_with fail
    go_ret3
    exact ⟨ret_isb Hq.out,below_drewN HB.out _⟩
end Go.Proofs.YtbgfankoojjejaaGreatDoor
namespace Go.Proofs.YtbgfankoojjejaaGreatDoor
open Go Go.RowKit
theorem ext_ext (r:ByteArray) (a b:Nat):(r.extract a r.size).extract b (r.extract a r.size).size=r.extract (a+b) r.size:=by
 apply ByteArray.ext
 apply Array.ext'
 rw [ext_list,ext_list,ext_list,List.drop_drop]
theorem ret_iisb {a b c d:Int} {s t:ByteArray} {x y:Bool} (h1:a=c) (h2:b=d) (h3:s=t) (h4:x=y):Ending.returned (.tuple #[.int .i64 a,.int .i64 b,.string s,.bool x])=.returned (.tuple #[.int .i64 c,.int .i64 d,.string t,.bool y]):=by rw [h1,h2,h3,h4]
theorem bds_no (cl L:List UInt8) (h:okNum L 0=false):bds cl L=(((digs L 3 0 0).2:Int),((digs L 3 0 0).2:Int),(digs L 3 0 0).1,false):=by unfold bds;simp [h]
theorem bds_one (cl L:List UInt8) (h:okNum L 0=true) (h2:chAt L (digs L 3 0 0).1 44=false):bds cl L=(((digs L 3 0 0).2:Int),((digs L 3 0 0).2:Int),(digs L 3 0 0).1,true):=by unfold bds;simp [h,h2]
theorem bds_open (cl L:List UInt8) (h:okNum L 0=true) (h2:chAt L (digs L 3 0 0).1 44=true) (h3:wordAt L ((digs L 3 0 0).1+1) cl=true):bds cl L=(((digs L 3 0 0).2:Int),-1,(digs L 3 0 0).1+1,true):=by unfold bds;simp [h,h2,h3]
theorem bds_two (cl L:List UInt8) (h:okNum L 0=true) (h2:chAt L (digs L 3 0 0).1 44=true) (h3:wordAt L ((digs L 3 0 0).1+1) cl=false) :
  bds cl L=(((digs L 3 0 0).2:Int),((digs L 3 ((digs L 3 0 0).1+1) 0).2:Int),(digs L 3 0 0).1+1+(digs L 3 ((digs L 3 0 0).1+1) 0).1,okNum L ((digs L 3 0 0).1+1) && decide ((digs L 3 0 0).2≤(digs L 3 ((digs L 3 0 0).1+1) 0).2)):=by unfold bds;simp [h,h2,h3]
theorem drop_ok (s:List UInt8) (k:Nat):okNum (s.drop k) 0=okNum s k:=by unfold okNum;rw [drop_digs,Nat.add_zero]
theorem xbounds_any (r cl:ByteArray) (w:World) (hs:r.size≤250) :
  Calls Tryz.prog 139 #[.string r,.string cl] w fun e w'=>e=.returned (.tuple #[.int .i64 (bds cl.data.toList r.data.toList).1,.int .i64 (bds cl.data.toList r.data.toList).2.1,.string (r.extract (bds cl.data.toList r.data.toList).2.2.1 r.size),.bool (bds cl.data.toList r.data.toList).2.2.2])∧Below w.heap.size w w':=by
 have hb1:=bound_any r w hs
 generalize hL:r.data.toList=L at *
 generalize hC:cl.data.toList=C at *
 obtain ⟨X,hX⟩:∃ X,X=bds C L:=⟨_,rfl⟩
 rw [←hX]
 have HX:=Lib.hid hX
 clear hX
 have HI1:=Lib.hid (bds_no C L)
 have HI2:=Lib.hid (bds_one C L)
 have HI3:=Lib.hid (bds_open C L)
 have HI4:=Lib.hid (bds_two C L)
 have HL:=Lib.hid hL
 have HC:=Lib.hid hC
 clear hL hC
 go_enter Tryz.func139,Tryz.ntmps139
 go_wp2_with fail
 refine hb1.mono ?_
 rintro e w1 ⟨rfl,b1⟩
 clear hb1
 generalize hk1:(digs L 3 0 0).1=k1 at *
 generalize hv1:(digs L 3 0 0).2=v1 at *
 have hr1:(r.extract k1 r.size).data.toList=L.drop k1:=by rw [ext_list,HL.out]
 have hz1:=ext_size r k1
 clear hk1 hv1
 cases q1:okNum L 0
 ·have HF:=Lib.hid (HX.out.trans (HI1.out q1))
  clear q1 HI1 HI2 HI3 HI4
  cases q2:Lib.hasPrefix (r.extract k1 r.size).data.toList (ByteArray.mk #[44]).data.toList
  ·have hc:=cut_no _ _ w1 q2
   clear q2 hr1 hz1
   go_wp2_with fail
   refine hc.mono ?_
   rintro e w2 ⟨rfl,rfl⟩
   go_wp2_with fail
   (try simp only [Exit.inBlock,Exit.then]);refine bodyPost_ret (res4 rfl _ _ _) rfl ?_
   exact ⟨ret_iisb (by rw [HF.out]) (by rw [HF.out]) (by rw [HF.out]) (by rw [HF.out]),b1⟩
  ·have hc:=cut_yes _ _ w1 q2
   clear q2 hr1 hz1
   go_wp2_with fail
   refine hc.mono ?_
   rintro e w2 ⟨rfl,rfl⟩
   go_wp2_with fail
   (try simp only [Exit.inBlock,Exit.then]);refine bodyPost_ret (res4 rfl _ _ _) rfl ?_
   exact ⟨ret_iisb (by rw [HF.out]) (by rw [HF.out]) (by rw [HF.out]) (by rw [HF.out]),b1⟩
 ·have hq:Lib.hasPrefix (r.extract k1 r.size).data.toList (ByteArray.mk #[44]).data.toList=chAt L k1 44:=by rw [hr1];exact word_one L k1 44 (by decide)
  have H2:=Lib.hid (HI2.out q1)
  have H3:=Lib.hid (HI3.out q1)
  have H4:=Lib.hid (HI4.out q1)
  clear q1 HI1 HI2 HI3 HI4
  cases q2:chAt L k1 44
  ·have HF:=Lib.hid (HX.out.trans (H2.out q2))
   have hc:=cut_no _ _ w1 (hq.trans q2)
   clear q2 hr1 hz1 hq H2 H3 H4
   go_wp2_with fail
   refine hc.mono ?_
   rintro e w2 ⟨rfl,rfl⟩
   go_wp2_with fail
   (try simp only [Exit.inBlock,Exit.then]);refine bodyPost_ret (res4 rfl _ _ _) rfl ?_
   exact ⟨ret_iisb (by rw [HF.out]) (by rw [HF.out]) (by rw [HF.out]) (by rw [HF.out]),b1⟩
  ·have H3':=Lib.hid (H3.out q2)
   have H4':=Lib.hid (H4.out q2)
   have hc:=cut_yes _ _ w1 (hq.trans q2)
   rw [ext_ext,show (ByteArray.mk #[44]).size=1 from rfl] at hc
   clear q2 hr1 hz1 hq H2 H3 H4
   have hr2:(r.extract (k1+1) r.size).data.toList=L.drop (k1+1):=by rw [ext_list,HL.out]
   have hp:=prefix_any (r.extract (k1+1) r.size) cl w1
   have hz2:=ext_size r (k1+1)
   have hb2:=bound_any (r.extract (k1+1) r.size) w1 (by omega)
   rw [hr2,HC.out] at hp
   rw [hr2,drop_ok,drop_digs,Nat.add_zero,ext_ext] at hb2
   clear hz2
   rw [show Lib.hasPrefix (L.drop (k1+1)) C=wordAt L (k1+1) C from rfl] at hp
   clear hr2
   go_wp2_with fail
   refine hc.mono ?_
   rintro e w2 ⟨rfl,rfl⟩
   clear hc
   cases q3:wordAt L (k1+1) C
   ·have HF:=Lib.hid (HX.out.trans (H4'.out q3))
    rw [q3] at hp
    clear q3 H3' H4'
    generalize (digs L 3 (k1+1) 0).1=k2 at *
    generalize (digs L 3 (k1+1) 0).2=v2 at *
    generalize okNum L (k1+1)=o2 at *
    go_wp2_with fail
    refine hp.mono ?_
    rintro e w2 ⟨rfl,rfl⟩
    go_wp2_with fail
    refine hb2.mono ?_
    rintro e w2 ⟨rfl,b2⟩
    have HD:=Lib.hid (show decide ((v1:Int)≤(v2:Int))=decide (v1≤v2) from decide_eq_decide.2 (by omega))
    have hbb:=b1.trans (b2.mono b1.size)
    cases o2
    ·go_wp2_with fail
     (try simp only [Exit.inBlock,Exit.then]);refine bodyPost_ret (res4 rfl _ _ _) rfl ?_
     exact ⟨ret_iisb (by rw [HF.out]) (by rw [HF.out]) (by rw [HF.out]) (by rw [HF.out];rfl),hbb⟩
    ·go_wp2_with fail
     (try simp only [Exit.inBlock,Exit.then]);refine bodyPost_ret (res4 rfl _ _ _) rfl ?_
     exact ⟨ret_iisb (by rw [HF.out]) (by rw [HF.out]) (by rw [HF.out]) (by rw [HF.out,Bool.true_and];first | done | exact HD.out),hbb⟩
   ·have HF:=Lib.hid (HX.out.trans (H3'.out q3))
    rw [q3] at hp
    clear q3 H3' H4' hb2
    go_wp2_with fail
    refine hp.mono ?_
    rintro e w2 ⟨rfl,rfl⟩
    go_wp2_with fail
    (try simp only [Exit.inBlock,Exit.then]);refine bodyPost_ret (res4 rfl _ _ _) rfl ?_
    exact ⟨ret_iisb (by rw [HF.out]) (by rw [HF.out]) (by rw [HF.out]) (by rw [HF.out]),b1⟩
def ivAns (r:Option (Int × Int × Nat)):Ending:=match r with
 | some q=>.returned (.tuple #[.int .i64 q.1,.int .i64 q.2.1,.int .i64 (q.2.2:Int),.bool true])
 | none=>.returned (.tuple #[.int .i64 0,.int .i64 0,.int .i64 0,.bool false])
theorem ivans_some {r:Option (Int × Int × Nat)} {a b c:Int} {j:Nat} (h:r=some (a,b,j)) (hc:c=(j:Int)):Ending.returned (.tuple #[.int .i64 a,.int .i64 b,.int .i64 c,.bool true])=ivAns r:=by subst h hc;rfl
theorem ivans_none {r:Option (Int × Int × Nat)} (h:r=none):Ending.returned (.tuple #[.int .i64 0,.int .i64 0,.int .i64 0,.bool false])=ivAns r:=by subst h;rfl
theorem xintv_any (r cl:ByteArray) (w:World) (hs:r.size≤250) (h0:cl.data.toList≠[]) :
  Calls Tryz.prog 129 #[.string r,.string cl] w fun e w'=>e=ivAns (ivl cl.data.toList r.data.toList)∧Below w.heap.size w w':=by
 have hb1:=xbounds_any r cl w hs
 generalize hL:r.data.toList=L at *
 generalize hC:cl.data.toList=C at *
 obtain ⟨X,hX⟩:∃ X,X=ivl C L:=⟨_,rfl⟩
 rw [←hX]
 have HX:=Lib.hid hX
 clear hX
 obtain ⟨a,b,j,o,hB⟩:∃ a b j o,bds C L=(a,b,j,o):=⟨_,_,_,_,rfl⟩
 have HF:=Lib.hid (show ivl C L=if o && wordAt L j C then some (a,b,j+C.length) else none by unfold ivl;rw [hB])
 rw [hB] at hb1
 simp only at hb1
 have hr1:(r.extract j r.size).data.toList=L.drop j:=by rw [ext_list,hL]
 have hCl:C.length=cl.size:=by rw [←hC];simp
 have hq:Lib.hasPrefix (r.extract j r.size).data.toList cl.data.toList=wordAt L j C:=by rw [hr1,hC];rfl
 have hz:=ext_size r j
 clear hB hr1
 have HL:=Lib.hid hL
 have HC:=Lib.hid hC
 clear hL hC
 go_enter Tryz.func129,Tryz.ntmps129
 go_wp2_with fail
 refine hb1.mono ?_
 rintro e w1 ⟨rfl,b1⟩
 clear hb1
 cases q2:wordAt L j C
 ·have HG:=Lib.hid (HX.out.trans (HF.out.trans (by rw [q2,Bool.and_false];first | done | rfl)))
  have hc:=cut_no _ _ w1 (hq.trans q2)
  clear q2 hq hz hCl
  cases o
  all_goals
   go_wp2_with fail
   refine hc.mono ?_
   rintro e w2 ⟨rfl,rfl⟩
   go_wp2_with fail
   (try simp only [Exit.inBlock,Exit.then]);refine bodyPost_ret (res4 rfl _ _ _) rfl ?_
   exact ⟨ivans_none HG.out,b1⟩
 ·have hc:=cut_yes _ _ w1 (hq.trans q2)
  have hsz:=pre_size _ _ (hq.trans q2)
  rw [ext_ext] at hc
  have hz2:=ext_size r (j+cl.size)
  cases o
  ·have HG:=Lib.hid (HX.out.trans (HF.out.trans (by rw [Bool.false_and];first | done | rfl)))
   clear q2 hq hz hz2 hCl hsz
   go_wp2_with fail
   refine hc.mono ?_
   rintro e w2 ⟨rfl,rfl⟩
   go_wp2_with fail
   (try simp only [Exit.inBlock,Exit.then]);refine bodyPost_ret (res4 rfl _ _ _) rfl ?_
   exact ⟨ivans_none HG.out,b1⟩
  ·have HG:=Lib.hid (HX.out.trans (HF.out.trans (by rw [q2];first | done | rfl)))
   have hj:j+cl.size≤r.size:=by
    have:=word_len L j C q2 h0
    rw [←HC.out,←HL.out] at this
    simpa using this
   have Wn:IntKind.i64.wrap ((r.size:Int) - ((r.extract (j+cl.size) r.size).size:Int))=((j+C.length:Nat):Int):=by rw [IntWalk.i64_in _ (by omega)];omega
   have HW:=Lib.hid (show (r.size:Int) - ((r.size - (j+cl.size):Nat):Int)=((j+C.length:Nat):Int) by omega)
   clear q2 hq hz hz2 hCl hsz
   go_wp2_with fail
   refine hc.mono ?_
   rintro e w2 ⟨rfl,rfl⟩
   go_wp2_with fail
   (try simp only [Exit.inBlock,Exit.then]);refine bodyPost_ret (res4 rfl _ _ _) rfl ?_
   exact ⟨ivans_some HG.out HW.out,b1⟩
end Go.Proofs.YtbgfankoojjejaaGreatDoor
namespace Go.Proofs.YtbgfankoojjejaaGreatDoor
open Go Go.RowKit
theorem xclass_any (s:ByteArray) (w:World) :
  Calls Tryz.prog 142 #[.string s] w fun e w'=>e=.returned (.agg #[.int .u64 (ow (clsSet s.data.toList) 0),.int .u64 (ow (clsSet s.data.toList) 1),.int .u64 (ow (clsSet s.data.toList) 2),.int .u64 (ow (clsSet s.data.toList) 3)])∧Below w.heap.size w w':=by
 have hB0:=(Below.refl w.heap.size w).alloc (Nat.le_refl _) (.cells #[.int .u64 0,.int .u64 0,.int .u64 0,.int .u64 0] 132)
 have hP0:=Blk.new w #[.int .u64 0,.int .u64 0,.int .u64 0,.int .u64 0] 132 w.heap.size rfl
 have hc:=class_any s (w.alloc (.cells #[.int .u64 0,.int .u64 0,.int .u64 0,.int .u64 0] 132))
 rw [ByteArray.toList_eq] at hc
 generalize clsSet s.data.toList=t at hc ⊢
 generalize clsOk s.data.toList=ok at hc
 go_enter Tryz.func142,Tryz.ntmps142
 go_wp2_with fail
 refine hc.mono ?_
 rintro e w1 ⟨rfl,b1⟩
 have hP1:=hP0.below b1 hP0.lt
 have hB1:=hB0.trans (b1.mono hB0.size)
 have p0:=(hP1.cell 0).trans rfl
 have p1:=(hP1.cell 1).trans rfl
 have p2:=(hP1.cell 2).trans rfl
 have p3:=(hP1.cell 3).trans rfl
 have z0:=hP1.frozen 0
 have z1:=hP1.frozen 1
 have z2:=hP1.frozen 2
 have z3:=hP1.frozen 3
 have hl:=hP1.lt
 clear hc hP0 hB0 b1
 have g:=((((hP1.set 0 (.int .u64 (ow t 0))).set 1 (.int .u64 (ow t 1))).set 2 (.int .u64 (ow t 2))).set 3 (.int .u64 (ow t 3))).alloc (.cells #[.int .u64 (ow t 0),.int .u64 (ow t 1),.int .u64 (ow t 2),.int .u64 (ow t 3)] 132)
 have hBn:=((((hB1.setCell (p:=⟨w.heap.size,0,none⟩) (Nat.le_refl _) (.int .u64 (ow t 0))).setCell (p:=⟨w.heap.size,1,none⟩) (Nat.le_refl _) (.int .u64 (ow t 1))).setCell (p:=⟨w.heap.size,2,none⟩) (Nat.le_refl _) (.int .u64 (ow t 2))).setCell (p:=⟨w.heap.size,3,none⟩) (Nat.le_refl _) (.int .u64 (ow t 3))).alloc (by simp [World.setCell];omega) (.cells #[.int .u64 (ow t 0),.int .u64 (ow t 1),.int .u64 (ow t 2),.int .u64 (ow t 3)] 132)
 have HG:=Lib.hid g
 have HBn:=Lib.hid hBn
 clear g hBn
 go_wp2_with fail
 have g:=HG.out
 have hBn:=HBn.out
 clear HG HBn p0 p1 p2 p3 z0 z1 z2 z3 hP1
 generalize ((((w1.setCell _ _).setCell _ _).setCell _ _).setCell _ _).alloc _=w9 at g hBn ⊢
 have d0:=(g.cell 0).trans rfl
 have d1:=(g.cell 1).trans rfl
 have d2:=(g.cell 2).trans rfl
 have d3:=(g.cell 3).trans rfl
 exact bodyPost_ret (v:=.agg #[.int .u64 (ow t 0),.int .u64 (ow t 1),.int .u64 (ow t 2),.int .u64 (ow t 3)]) (by simp [results,Tryz.results142,go_sem,d0,d1,d2,d3]) rfl ⟨rfl,hBn⟩
theorem esc_110 (w:World):Calls Tryz.prog 132 #[.int .u8 110] w fun e w'=>e=.returned (.tuple #[.agg #[.int .u64 (ow (oSpan 10 10) 0),.int .u64 (ow (oSpan 10 10) 1),.int .u64 (ow (oSpan 10 10) 2),.int .u64 (ow (oSpan 10 10) 3)],.bool false,.bool true])∧Below w.heap.size w w':=by
 have hB0:=(Below.refl w.heap.size w).alloc (Nat.le_refl _) (.cells #[.int .u64 0,.int .u64 0,.int .u64 0,.int .u64 0] 132);have hP0:=Blk.new w #[.int .u64 0,.int .u64 0,.int .u64 0,.int .u64 0] 132 w.heap.size rfl;go_enter Tryz.func132,Tryz.ntmps132;go_wp2_with fail;refine (xclass_any _ _).mono ?_;rintro e w1 ⟨rfl,b1⟩;replace hP0:=hP0.below b1 hP0.lt;replace hB0:=hB0.trans (b1.mono hB0.size);clear b1;go_wp2_with fail;refine (of_one 95 (by decide) (by decide) _ _ (by simp)).mono ?_;rintro e w2 ⟨rfl,b2⟩;replace hP0:=hP0.below b2 hP0.lt;replace hB0:=hB0.trans (b2.mono hB0.size);clear b2;go_wp2_with fail;refine (or_any _ _ _).mono ?_;rintro e w3 ⟨rfl,b3⟩;replace hP0:=hP0.below b3 hP0.lt;replace hB0:=hB0.trans (b3.mono hB0.size);clear b3
 generalize clsSet (ByteArray.mk #[97,108,110,117,109]).data.toList ||| ofl [95]=t
 go_wp2_with fail
 refine (of_one 10 (by decide) (by decide) _ _ (by simp)).mono ?_
 rintro e w4 ⟨rfl,b4⟩
 replace hP0:=(hP0.alloc (.cells #[.int .u64 (ow t 0),.int .u64 (ow t 1),.int .u64 (ow t 2),.int .u64 (ow t 3)] 132)).below b4 (by have:=hP0.lt;simp;omega);replace hB0:=(hB0.alloc hB0.size (.cells #[.int .u64 (ow t 0),.int .u64 (ow t 1),.int .u64 (ow t 2),.int .u64 (ow t 3)] 132)).trans (b4.mono (by have:=hB0.size;simp;omega));clear b4
 rw [show ofl [(10:Int)]=oSpan 10 10 from ofl_one 10]
 have g:=(((hP0.set 0 (.int .u64 (ow (oSpan 10 10) 0))).set 1 (.int .u64 (ow (oSpan 10 10) 1))).set 2 (.int .u64 (ow (oSpan 10 10) 2))).set 3 (.int .u64 (ow (oSpan 10 10) 3));have hBn:=(((hB0.setCell (p:=⟨w.heap.size,0,none⟩) (Nat.le_refl _) (.int .u64 (ow (oSpan 10 10) 0))).setCell (p:=⟨w.heap.size,1,none⟩) (Nat.le_refl _) (.int .u64 (ow (oSpan 10 10) 1))).setCell (p:=⟨w.heap.size,2,none⟩) (Nat.le_refl _) (.int .u64 (ow (oSpan 10 10) 2))).setCell (p:=⟨w.heap.size,3,none⟩) (Nat.le_refl _) (.int .u64 (ow (oSpan 10 10) 3));have p0:=(hP0.cell 0).trans rfl;have p1:=(hP0.cell 1).trans rfl;have p2:=(hP0.cell 2).trans rfl;have p3:=(hP0.cell 3).trans rfl;have z0:=hP0.frozen 0;have z1:=hP0.frozen 1;have z2:=hP0.frozen 2;have z3:=hP0.frozen 3;have hl:=hP0.lt;have HG:=Lib.hid g;have HBn:=Lib.hid hBn;clear g hBn hP0 hB0;go_wp2_with fail;have g:=HG.out;have hBn:=HBn.out;clear HG HBn p0 p1 p2 p3 z0 z1 z2 z3;generalize (((World.setCell _ _ _).setCell _ _).setCell _ _).setCell _ _=w9 at g hBn ⊢;have d0:=(g.cell 0).trans rfl;have d1:=(g.cell 1).trans rfl;have d2:=(g.cell 2).trans rfl;have d3:=(g.cell 3).trans rfl;exact bodyPost_ret (v:=.tuple #[.agg #[.int .u64 (ow (oSpan 10 10) 0),.int .u64 (ow (oSpan 10 10) 1),.int .u64 (ow (oSpan 10 10) 2),.int .u64 (ow (oSpan 10 10) 3)],.bool false,.bool true]) (by simp [results,Tryz.results132,go_sem,d0,d1,d2,d3]) rfl ⟨rfl,hBn⟩
theorem esc_116 (w:World):Calls Tryz.prog 132 #[.int .u8 116] w fun e w'=>e=.returned (.tuple #[.agg #[.int .u64 (ow (oSpan 9 9) 0),.int .u64 (ow (oSpan 9 9) 1),.int .u64 (ow (oSpan 9 9) 2),.int .u64 (ow (oSpan 9 9) 3)],.bool true,.bool true])∧Below w.heap.size w w':=by
 have hB0:=(Below.refl w.heap.size w).alloc (Nat.le_refl _) (.cells #[.int .u64 0,.int .u64 0,.int .u64 0,.int .u64 0] 132);have hP0:=Blk.new w #[.int .u64 0,.int .u64 0,.int .u64 0,.int .u64 0] 132 w.heap.size rfl;go_enter Tryz.func132,Tryz.ntmps132;go_wp2_with fail;refine (xclass_any _ _).mono ?_;rintro e w1 ⟨rfl,b1⟩;replace hP0:=hP0.below b1 hP0.lt;replace hB0:=hB0.trans (b1.mono hB0.size);clear b1;go_wp2_with fail;refine (of_one 95 (by decide) (by decide) _ _ (by simp)).mono ?_;rintro e w2 ⟨rfl,b2⟩;replace hP0:=hP0.below b2 hP0.lt;replace hB0:=hB0.trans (b2.mono hB0.size);clear b2;go_wp2_with fail;refine (or_any _ _ _).mono ?_;rintro e w3 ⟨rfl,b3⟩;replace hP0:=hP0.below b3 hP0.lt;replace hB0:=hB0.trans (b3.mono hB0.size);clear b3
 generalize clsSet (ByteArray.mk #[97,108,110,117,109]).data.toList ||| ofl [95]=t
 go_wp2_with fail
 refine (of_one 9 (by decide) (by decide) _ _ (by simp)).mono ?_
 rintro e w4 ⟨rfl,b4⟩
 replace hP0:=(hP0.alloc (.cells #[.int .u64 (ow t 0),.int .u64 (ow t 1),.int .u64 (ow t 2),.int .u64 (ow t 3)] 132)).below b4 (by have:=hP0.lt;simp;omega);replace hB0:=(hB0.alloc hB0.size (.cells #[.int .u64 (ow t 0),.int .u64 (ow t 1),.int .u64 (ow t 2),.int .u64 (ow t 3)] 132)).trans (b4.mono (by have:=hB0.size;simp;omega));clear b4
 rw [show ofl [(9:Int)]=oSpan 9 9 from ofl_one 9]
 have g:=(((hP0.set 0 (.int .u64 (ow (oSpan 9 9) 0))).set 1 (.int .u64 (ow (oSpan 9 9) 1))).set 2 (.int .u64 (ow (oSpan 9 9) 2))).set 3 (.int .u64 (ow (oSpan 9 9) 3));have hBn:=(((hB0.setCell (p:=⟨w.heap.size,0,none⟩) (Nat.le_refl _) (.int .u64 (ow (oSpan 9 9) 0))).setCell (p:=⟨w.heap.size,1,none⟩) (Nat.le_refl _) (.int .u64 (ow (oSpan 9 9) 1))).setCell (p:=⟨w.heap.size,2,none⟩) (Nat.le_refl _) (.int .u64 (ow (oSpan 9 9) 2))).setCell (p:=⟨w.heap.size,3,none⟩) (Nat.le_refl _) (.int .u64 (ow (oSpan 9 9) 3));have p0:=(hP0.cell 0).trans rfl;have p1:=(hP0.cell 1).trans rfl;have p2:=(hP0.cell 2).trans rfl;have p3:=(hP0.cell 3).trans rfl;have z0:=hP0.frozen 0;have z1:=hP0.frozen 1;have z2:=hP0.frozen 2;have z3:=hP0.frozen 3;have hl:=hP0.lt;have HG:=Lib.hid g;have HBn:=Lib.hid hBn;clear g hBn hP0 hB0;go_wp2_with fail;have g:=HG.out;have hBn:=HBn.out;clear HG HBn p0 p1 p2 p3 z0 z1 z2 z3;generalize (((World.setCell _ _ _).setCell _ _).setCell _ _).setCell _ _=w9 at g hBn ⊢;have d0:=(g.cell 0).trans rfl;have d1:=(g.cell 1).trans rfl;have d2:=(g.cell 2).trans rfl;have d3:=(g.cell 3).trans rfl;exact bodyPost_ret (v:=.tuple #[.agg #[.int .u64 (ow (oSpan 9 9) 0),.int .u64 (ow (oSpan 9 9) 1),.int .u64 (ow (oSpan 9 9) 2),.int .u64 (ow (oSpan 9 9) 3)],.bool true,.bool true]) (by simp [results,Tryz.results132,go_sem,d0,d1,d2,d3]) rfl ⟨rfl,hBn⟩
theorem esc_119 (w:World):Calls Tryz.prog 132 #[.int .u8 119] w fun e w'=>e=.returned (.tuple #[.agg #[.int .u64 (ow wordSet 0),.int .u64 (ow wordSet 1),.int .u64 (ow wordSet 2),.int .u64 (ow wordSet 3)],.bool true,.bool true])∧Below w.heap.size w w':=by
 have hB0:=(Below.refl w.heap.size w).alloc (Nat.le_refl _) (.cells #[.int .u64 0,.int .u64 0,.int .u64 0,.int .u64 0] 132);have hP0:=Blk.new w #[.int .u64 0,.int .u64 0,.int .u64 0,.int .u64 0] 132 w.heap.size rfl;go_enter Tryz.func132,Tryz.ntmps132;go_wp2_with fail;refine (xclass_any _ _).mono ?_;rintro e w1 ⟨rfl,b1⟩;replace hP0:=hP0.below b1 hP0.lt;replace hB0:=hB0.trans (b1.mono hB0.size);clear b1;go_wp2_with fail;refine (of_one 95 (by decide) (by decide) _ _ (by simp)).mono ?_;rintro e w2 ⟨rfl,b2⟩;replace hP0:=hP0.below b2 hP0.lt;replace hB0:=hB0.trans (b2.mono hB0.size);clear b2;go_wp2_with fail;refine (or_any _ _ _).mono ?_;rintro e w3 ⟨rfl,b3⟩;replace hP0:=hP0.below b3 hP0.lt;replace hB0:=hB0.trans (b3.mono hB0.size);clear b3
 have hws:clsSet (ByteArray.mk #[97,108,110,117,109]).data.toList ||| ofl [95]=wordSet:=by unfold wordSet;rw [show ofl [(95:Int)]=oSpan 95 95 from ofl_one 95]
 rw [hws]
 clear hws
 have hP0:=hP0.alloc (.cells #[.int .u64 (ow wordSet 0),.int .u64 (ow wordSet 1),.int .u64 (ow wordSet 2),.int .u64 (ow wordSet 3)] 132)
 have hB0:=hB0.alloc hB0.size (.cells #[.int .u64 (ow wordSet 0),.int .u64 (ow wordSet 1),.int .u64 (ow wordSet 2),.int .u64 (ow wordSet 3)] 132)
 have g:=(((hP0.set 0 (.int .u64 (ow wordSet 0))).set 1 (.int .u64 (ow wordSet 1))).set 2 (.int .u64 (ow wordSet 2))).set 3 (.int .u64 (ow wordSet 3));have hBn:=(((hB0.setCell (p:=⟨w.heap.size,0,none⟩) (Nat.le_refl _) (.int .u64 (ow wordSet 0))).setCell (p:=⟨w.heap.size,1,none⟩) (Nat.le_refl _) (.int .u64 (ow wordSet 1))).setCell (p:=⟨w.heap.size,2,none⟩) (Nat.le_refl _) (.int .u64 (ow wordSet 2))).setCell (p:=⟨w.heap.size,3,none⟩) (Nat.le_refl _) (.int .u64 (ow wordSet 3));have p0:=(hP0.cell 0).trans rfl;have p1:=(hP0.cell 1).trans rfl;have p2:=(hP0.cell 2).trans rfl;have p3:=(hP0.cell 3).trans rfl;have z0:=hP0.frozen 0;have z1:=hP0.frozen 1;have z2:=hP0.frozen 2;have z3:=hP0.frozen 3;have hl:=hP0.lt;have HG:=Lib.hid g;have HBn:=Lib.hid hBn;clear g hBn hP0 hB0;go_wp2_with fail;have g:=HG.out;have hBn:=HBn.out;clear HG HBn p0 p1 p2 p3 z0 z1 z2 z3;generalize (((World.setCell _ _ _).setCell _ _).setCell _ _).setCell _ _=w9 at g hBn ⊢;have d0:=(g.cell 0).trans rfl;have d1:=(g.cell 1).trans rfl;have d2:=(g.cell 2).trans rfl;have d3:=(g.cell 3).trans rfl;exact bodyPost_ret (v:=.tuple #[.agg #[.int .u64 (ow wordSet 0),.int .u64 (ow wordSet 1),.int .u64 (ow wordSet 2),.int .u64 (ow wordSet 3)],.bool true,.bool true]) (by simp [results,Tryz.results132,go_sem,d0,d1,d2,d3]) rfl ⟨rfl,hBn⟩
theorem esc_87 (w:World):Calls Tryz.prog 132 #[.int .u8 87] w fun e w'=>e=.returned (.tuple #[.agg #[.int .u64 (ow (~~~wordSet) 0),.int .u64 (ow (~~~wordSet) 1),.int .u64 (ow (~~~wordSet) 2),.int .u64 (ow (~~~wordSet) 3)],.bool true,.bool true])∧Below w.heap.size w w':=by
 have hB0:=(Below.refl w.heap.size w).alloc (Nat.le_refl _) (.cells #[.int .u64 0,.int .u64 0,.int .u64 0,.int .u64 0] 132);have hP0:=Blk.new w #[.int .u64 0,.int .u64 0,.int .u64 0,.int .u64 0] 132 w.heap.size rfl;go_enter Tryz.func132,Tryz.ntmps132;go_wp2_with fail;refine (xclass_any _ _).mono ?_;rintro e w1 ⟨rfl,b1⟩;replace hP0:=hP0.below b1 hP0.lt;replace hB0:=hB0.trans (b1.mono hB0.size);clear b1;go_wp2_with fail;refine (of_one 95 (by decide) (by decide) _ _ (by simp)).mono ?_;rintro e w2 ⟨rfl,b2⟩;replace hP0:=hP0.below b2 hP0.lt;replace hB0:=hB0.trans (b2.mono hB0.size);clear b2;go_wp2_with fail;refine (or_any _ _ _).mono ?_;rintro e w3 ⟨rfl,b3⟩;replace hP0:=hP0.below b3 hP0.lt;replace hB0:=hB0.trans (b3.mono hB0.size);clear b3
 have hws:clsSet (ByteArray.mk #[97,108,110,117,109]).data.toList ||| ofl [95]=wordSet:=by unfold wordSet;rw [show ofl [(95:Int)]=oSpan 95 95 from ofl_one 95]
 rw [hws]
 clear hws
 go_wp2_with fail
 refine (not_any _ _).mono ?_
 rintro e w4 ⟨rfl,b4⟩
 replace hP0:=(hP0.alloc (.cells #[.int .u64 (ow wordSet 0),.int .u64 (ow wordSet 1),.int .u64 (ow wordSet 2),.int .u64 (ow wordSet 3)] 132)).below b4 (by have:=hP0.lt;simp;omega);replace hB0:=(hB0.alloc hB0.size (.cells #[.int .u64 (ow wordSet 0),.int .u64 (ow wordSet 1),.int .u64 (ow wordSet 2),.int .u64 (ow wordSet 3)] 132)).trans (b4.mono (by have:=hB0.size;simp;omega));clear b4
 have g:=(((hP0.set 0 (.int .u64 (ow (~~~wordSet) 0))).set 1 (.int .u64 (ow (~~~wordSet) 1))).set 2 (.int .u64 (ow (~~~wordSet) 2))).set 3 (.int .u64 (ow (~~~wordSet) 3));have hBn:=(((hB0.setCell (p:=⟨w.heap.size,0,none⟩) (Nat.le_refl _) (.int .u64 (ow (~~~wordSet) 0))).setCell (p:=⟨w.heap.size,1,none⟩) (Nat.le_refl _) (.int .u64 (ow (~~~wordSet) 1))).setCell (p:=⟨w.heap.size,2,none⟩) (Nat.le_refl _) (.int .u64 (ow (~~~wordSet) 2))).setCell (p:=⟨w.heap.size,3,none⟩) (Nat.le_refl _) (.int .u64 (ow (~~~wordSet) 3));have p0:=(hP0.cell 0).trans rfl;have p1:=(hP0.cell 1).trans rfl;have p2:=(hP0.cell 2).trans rfl;have p3:=(hP0.cell 3).trans rfl;have z0:=hP0.frozen 0;have z1:=hP0.frozen 1;have z2:=hP0.frozen 2;have z3:=hP0.frozen 3;have hl:=hP0.lt;have HG:=Lib.hid g;have HBn:=Lib.hid hBn;clear g hBn hP0 hB0;go_wp2_with fail;have g:=HG.out;have hBn:=HBn.out;clear HG HBn p0 p1 p2 p3 z0 z1 z2 z3;generalize (((World.setCell _ _ _).setCell _ _).setCell _ _).setCell _ _=w9 at g hBn ⊢;have d0:=(g.cell 0).trans rfl;have d1:=(g.cell 1).trans rfl;have d2:=(g.cell 2).trans rfl;have d3:=(g.cell 3).trans rfl;exact bodyPost_ret (v:=.tuple #[.agg #[.int .u64 (ow (~~~wordSet) 0),.int .u64 (ow (~~~wordSet) 1),.int .u64 (ow (~~~wordSet) 2),.int .u64 (ow (~~~wordSet) 3)],.bool true,.bool true]) (by simp [results,Tryz.results132,go_sem,d0,d1,d2,d3]) rfl ⟨rfl,hBn⟩
theorem esc_115 (w:World):Calls Tryz.prog 132 #[.int .u8 115] w fun e w'=>e=.returned (.tuple #[.agg #[.int .u64 (ow spaceSet 0),.int .u64 (ow spaceSet 1),.int .u64 (ow spaceSet 2),.int .u64 (ow spaceSet 3)],.bool true,.bool true])∧Below w.heap.size w w':=by
 have hB0:=(Below.refl w.heap.size w).alloc (Nat.le_refl _) (.cells #[.int .u64 0,.int .u64 0,.int .u64 0,.int .u64 0] 132);have hP0:=Blk.new w #[.int .u64 0,.int .u64 0,.int .u64 0,.int .u64 0] 132 w.heap.size rfl;go_enter Tryz.func132,Tryz.ntmps132;go_wp2_with fail;refine (xclass_any _ _).mono ?_;rintro e w1 ⟨rfl,b1⟩;replace hP0:=hP0.below b1 hP0.lt;replace hB0:=hB0.trans (b1.mono hB0.size);clear b1;go_wp2_with fail;refine (of_one 95 (by decide) (by decide) _ _ (by simp)).mono ?_;rintro e w2 ⟨rfl,b2⟩;replace hP0:=hP0.below b2 hP0.lt;replace hB0:=hB0.trans (b2.mono hB0.size);clear b2;go_wp2_with fail;refine (or_any _ _ _).mono ?_;rintro e w3 ⟨rfl,b3⟩;replace hP0:=hP0.below b3 hP0.lt;replace hB0:=hB0.trans (b3.mono hB0.size);clear b3
 generalize clsSet (ByteArray.mk #[97,108,110,117,109]).data.toList ||| ofl [95]=t
 go_wp2_with fail
 refine (xclass_any _ _).mono ?_
 rintro e w4 ⟨rfl,b4⟩
 replace hP0:=(hP0.alloc (.cells #[.int .u64 (ow t 0),.int .u64 (ow t 1),.int .u64 (ow t 2),.int .u64 (ow t 3)] 132)).below b4 (by have:=hP0.lt;simp;omega);replace hB0:=(hB0.alloc hB0.size (.cells #[.int .u64 (ow t 0),.int .u64 (ow t 1),.int .u64 (ow t 2),.int .u64 (ow t 3)] 132)).trans (b4.mono (by have:=hB0.size;simp;omega));clear b4
 rw [show clsSet (ByteArray.mk #[115,112,97,99,101]).data.toList=spaceSet from rfl]
 have g:=(((hP0.set 0 (.int .u64 (ow spaceSet 0))).set 1 (.int .u64 (ow spaceSet 1))).set 2 (.int .u64 (ow spaceSet 2))).set 3 (.int .u64 (ow spaceSet 3));have hBn:=(((hB0.setCell (p:=⟨w.heap.size,0,none⟩) (Nat.le_refl _) (.int .u64 (ow spaceSet 0))).setCell (p:=⟨w.heap.size,1,none⟩) (Nat.le_refl _) (.int .u64 (ow spaceSet 1))).setCell (p:=⟨w.heap.size,2,none⟩) (Nat.le_refl _) (.int .u64 (ow spaceSet 2))).setCell (p:=⟨w.heap.size,3,none⟩) (Nat.le_refl _) (.int .u64 (ow spaceSet 3));have p0:=(hP0.cell 0).trans rfl;have p1:=(hP0.cell 1).trans rfl;have p2:=(hP0.cell 2).trans rfl;have p3:=(hP0.cell 3).trans rfl;have z0:=hP0.frozen 0;have z1:=hP0.frozen 1;have z2:=hP0.frozen 2;have z3:=hP0.frozen 3;have hl:=hP0.lt;have HG:=Lib.hid g;have HBn:=Lib.hid hBn;clear g hBn hP0 hB0;go_wp2_with fail;have g:=HG.out;have hBn:=HBn.out;clear HG HBn p0 p1 p2 p3 z0 z1 z2 z3;generalize (((World.setCell _ _ _).setCell _ _).setCell _ _).setCell _ _=w9 at g hBn ⊢;have d0:=(g.cell 0).trans rfl;have d1:=(g.cell 1).trans rfl;have d2:=(g.cell 2).trans rfl;have d3:=(g.cell 3).trans rfl;exact bodyPost_ret (v:=.tuple #[.agg #[.int .u64 (ow spaceSet 0),.int .u64 (ow spaceSet 1),.int .u64 (ow spaceSet 2),.int .u64 (ow spaceSet 3)],.bool true,.bool true]) (by simp [results,Tryz.results132,go_sem,d0,d1,d2,d3]) rfl ⟨rfl,hBn⟩
theorem esc_83 (w:World):Calls Tryz.prog 132 #[.int .u8 83] w fun e w'=>e=.returned (.tuple #[.agg #[.int .u64 (ow (~~~spaceSet) 0),.int .u64 (ow (~~~spaceSet) 1),.int .u64 (ow (~~~spaceSet) 2),.int .u64 (ow (~~~spaceSet) 3)],.bool true,.bool true])∧Below w.heap.size w w':=by
 have hB0:=(Below.refl w.heap.size w).alloc (Nat.le_refl _) (.cells #[.int .u64 0,.int .u64 0,.int .u64 0,.int .u64 0] 132);have hP0:=Blk.new w #[.int .u64 0,.int .u64 0,.int .u64 0,.int .u64 0] 132 w.heap.size rfl;go_enter Tryz.func132,Tryz.ntmps132;go_wp2_with fail;refine (xclass_any _ _).mono ?_;rintro e w1 ⟨rfl,b1⟩;replace hP0:=hP0.below b1 hP0.lt;replace hB0:=hB0.trans (b1.mono hB0.size);clear b1;go_wp2_with fail;refine (of_one 95 (by decide) (by decide) _ _ (by simp)).mono ?_;rintro e w2 ⟨rfl,b2⟩;replace hP0:=hP0.below b2 hP0.lt;replace hB0:=hB0.trans (b2.mono hB0.size);clear b2;go_wp2_with fail;refine (or_any _ _ _).mono ?_;rintro e w3 ⟨rfl,b3⟩;replace hP0:=hP0.below b3 hP0.lt;replace hB0:=hB0.trans (b3.mono hB0.size);clear b3
 generalize clsSet (ByteArray.mk #[97,108,110,117,109]).data.toList ||| ofl [95]=t
 go_wp2_with fail
 refine (xclass_any _ _).mono ?_
 rintro e w4 ⟨rfl,b4⟩
 replace hP0:=(hP0.alloc (.cells #[.int .u64 (ow t 0),.int .u64 (ow t 1),.int .u64 (ow t 2),.int .u64 (ow t 3)] 132)).below b4 (by have:=hP0.lt;simp;omega);replace hB0:=(hB0.alloc hB0.size (.cells #[.int .u64 (ow t 0),.int .u64 (ow t 1),.int .u64 (ow t 2),.int .u64 (ow t 3)] 132)).trans (b4.mono (by have:=hB0.size;simp;omega));clear b4
 rw [show clsSet (ByteArray.mk #[115,112,97,99,101]).data.toList=spaceSet from rfl]
 go_wp2_with fail
 refine (not_any _ _).mono ?_
 rintro e w5 ⟨rfl,b5⟩
 replace hP0:=hP0.below b5 hP0.lt;replace hB0:=hB0.trans (b5.mono hB0.size);clear b5
 have g:=(((hP0.set 0 (.int .u64 (ow (~~~spaceSet) 0))).set 1 (.int .u64 (ow (~~~spaceSet) 1))).set 2 (.int .u64 (ow (~~~spaceSet) 2))).set 3 (.int .u64 (ow (~~~spaceSet) 3));have hBn:=(((hB0.setCell (p:=⟨w.heap.size,0,none⟩) (Nat.le_refl _) (.int .u64 (ow (~~~spaceSet) 0))).setCell (p:=⟨w.heap.size,1,none⟩) (Nat.le_refl _) (.int .u64 (ow (~~~spaceSet) 1))).setCell (p:=⟨w.heap.size,2,none⟩) (Nat.le_refl _) (.int .u64 (ow (~~~spaceSet) 2))).setCell (p:=⟨w.heap.size,3,none⟩) (Nat.le_refl _) (.int .u64 (ow (~~~spaceSet) 3));have p0:=(hP0.cell 0).trans rfl;have p1:=(hP0.cell 1).trans rfl;have p2:=(hP0.cell 2).trans rfl;have p3:=(hP0.cell 3).trans rfl;have z0:=hP0.frozen 0;have z1:=hP0.frozen 1;have z2:=hP0.frozen 2;have z3:=hP0.frozen 3;have hl:=hP0.lt;have HG:=Lib.hid g;have HBn:=Lib.hid hBn;clear g hBn hP0 hB0;go_wp2_with fail;have g:=HG.out;have hBn:=HBn.out;clear HG HBn p0 p1 p2 p3 z0 z1 z2 z3;generalize (((World.setCell _ _ _).setCell _ _).setCell _ _).setCell _ _=w9 at g hBn ⊢;have d0:=(g.cell 0).trans rfl;have d1:=(g.cell 1).trans rfl;have d2:=(g.cell 2).trans rfl;have d3:=(g.cell 3).trans rfl;exact bodyPost_ret (v:=.tuple #[.agg #[.int .u64 (ow (~~~spaceSet) 0),.int .u64 (ow (~~~spaceSet) 1),.int .u64 (ow (~~~spaceSet) 2),.int .u64 (ow (~~~spaceSet) 3)],.bool true,.bool true]) (by simp [results,Tryz.results132,go_sem,d0,d1,d2,d3]) rfl ⟨rfl,hBn⟩
theorem esc_yes (c:Nat) (w:World) (hc:c < 256) (h1:c≠110) (h2:c≠116) (h3:c≠119) (h4:c≠87) (h5:c≠115) (h6:c≠83) (hp:ohas punctSet c=true):Calls Tryz.prog 132 #[.int .u8 (c:Int)] w fun e w'=>e=.returned (.tuple #[.agg #[.int .u64 (ow (oSpan c c) 0),.int .u64 (ow (oSpan c c) 1),.int .u64 (ow (oSpan c c) 2),.int .u64 (ow (oSpan c c) 3)],.bool false,.bool true])∧Below w.heap.size w w':=by
 have e110:((c:Int) == 110)=false:=by simp;omega
 have e116:((c:Int) == 116)=false:=by simp;omega
 have e119:((c:Int) == 119)=false:=by simp;omega
 have e87:((c:Int) == 87)=false:=by simp;omega
 have e115:((c:Int) == 115)=false:=by simp;omega
 have e83:((c:Int) == 83)=false:=by simp;omega
 have hc0:(0:Int)≤(c:Int):=by omega
 have hc1:(c:Int)≤255:=by omega
 clear h1 h2 h3 h4 h5 h6
 have hB0:=(Below.refl w.heap.size w).alloc (Nat.le_refl _) (.cells #[.int .u64 0,.int .u64 0,.int .u64 0,.int .u64 0] 132);have hP0:=Blk.new w #[.int .u64 0,.int .u64 0,.int .u64 0,.int .u64 0] 132 w.heap.size rfl;go_enter Tryz.func132,Tryz.ntmps132;go_wp2_with fail;refine (xclass_any _ _).mono ?_;rintro e w1 ⟨rfl,b1⟩;replace hP0:=hP0.below b1 hP0.lt;replace hB0:=hB0.trans (b1.mono hB0.size);clear b1;go_wp2_with fail;refine (of_one 95 (by decide) (by decide) _ _ (by simp)).mono ?_;rintro e w2 ⟨rfl,b2⟩;replace hP0:=hP0.below b2 hP0.lt;replace hB0:=hB0.trans (b2.mono hB0.size);clear b2;go_wp2_with fail;refine (or_any _ _ _).mono ?_;rintro e w3 ⟨rfl,b3⟩;replace hP0:=hP0.below b3 hP0.lt;replace hB0:=hB0.trans (b3.mono hB0.size);clear b3
 generalize clsSet (ByteArray.mk #[97,108,110,117,109]).data.toList ||| ofl [95]=t
 go_wp2_with fail
 refine (xclass_any _ _).mono ?_
 rintro e w4 ⟨rfl,b4⟩
 replace hP0:=(hP0.alloc (.cells #[.int .u64 (ow t 0),.int .u64 (ow t 1),.int .u64 (ow t 2),.int .u64 (ow t 3)] 132)).below b4 (by have:=hP0.lt;simp;omega);replace hB0:=(hB0.alloc hB0.size (.cells #[.int .u64 (ow t 0),.int .u64 (ow t 1),.int .u64 (ow t 2),.int .u64 (ow t 3)] 132)).trans (b4.mono (by have:=hB0.size;simp;omega));clear b4
 rw [show clsSet (ByteArray.mk #[112,117,110,99,116]).data.toList=punctSet from rfl]
 go_wp2_with fail
 refine (has_any _ _ hc0 hc1 _).mono ?_
 rintro e w5 ⟨rfl,b5⟩
 replace hP0:=hP0.below b5 hP0.lt;replace hB0:=hB0.trans (b5.mono hB0.size);clear b5
 rw [show ohas punctSet ((c:Int)).toNat=true from hp]
 go_wp2_with fail
 refine (of_one (c:Int) hc0 hc1 _ _ (by simp)).mono ?_
 rintro e w6 ⟨rfl,b6⟩
 replace hP0:=hP0.below b6 hP0.lt;replace hB0:=hB0.trans (b6.mono hB0.size);clear b6
 rw [show ofl [(c:Int)]=oSpan c c from ofl_one c]
 have g:=(((hP0.set 0 (.int .u64 (ow (oSpan c c) 0))).set 1 (.int .u64 (ow (oSpan c c) 1))).set 2 (.int .u64 (ow (oSpan c c) 2))).set 3 (.int .u64 (ow (oSpan c c) 3));have hBn:=(((hB0.setCell (p:=⟨w.heap.size,0,none⟩) (Nat.le_refl _) (.int .u64 (ow (oSpan c c) 0))).setCell (p:=⟨w.heap.size,1,none⟩) (Nat.le_refl _) (.int .u64 (ow (oSpan c c) 1))).setCell (p:=⟨w.heap.size,2,none⟩) (Nat.le_refl _) (.int .u64 (ow (oSpan c c) 2))).setCell (p:=⟨w.heap.size,3,none⟩) (Nat.le_refl _) (.int .u64 (ow (oSpan c c) 3));have p0:=(hP0.cell 0).trans rfl;have p1:=(hP0.cell 1).trans rfl;have p2:=(hP0.cell 2).trans rfl;have p3:=(hP0.cell 3).trans rfl;have z0:=hP0.frozen 0;have z1:=hP0.frozen 1;have z2:=hP0.frozen 2;have z3:=hP0.frozen 3;have hl:=hP0.lt;have HG:=Lib.hid g;have HBn:=Lib.hid hBn;clear g hBn hP0 hB0;go_wp2_with fail;have g:=HG.out;have hBn:=HBn.out;clear HG HBn p0 p1 p2 p3 z0 z1 z2 z3;generalize (((World.setCell _ _ _).setCell _ _).setCell _ _).setCell _ _=w9 at g hBn ⊢;have d0:=(g.cell 0).trans rfl;have d1:=(g.cell 1).trans rfl;have d2:=(g.cell 2).trans rfl;have d3:=(g.cell 3).trans rfl;exact bodyPost_ret (v:=.tuple #[.agg #[.int .u64 (ow (oSpan c c) 0),.int .u64 (ow (oSpan c c) 1),.int .u64 (ow (oSpan c c) 2),.int .u64 (ow (oSpan c c) 3)],.bool false,.bool true]) (by simp [results,Tryz.results132,go_sem,d0,d1,d2,d3]) rfl ⟨rfl,hBn⟩
theorem esc_no (c:Nat) (w:World) (hc:c < 256) (h1:c≠110) (h2:c≠116) (h3:c≠119) (h4:c≠87) (h5:c≠115) (h6:c≠83) (hp:ohas punctSet c=false):Calls Tryz.prog 132 #[.int .u8 (c:Int)] w fun e w'=>e=.returned (.tuple #[.agg #[.int .u64 0,.int .u64 0,.int .u64 0,.int .u64 0],.bool false,.bool false])∧Below w.heap.size w w':=by
 have e110:((c:Int) == 110)=false:=by simp;omega
 have e116:((c:Int) == 116)=false:=by simp;omega
 have e119:((c:Int) == 119)=false:=by simp;omega
 have e87:((c:Int) == 87)=false:=by simp;omega
 have e115:((c:Int) == 115)=false:=by simp;omega
 have e83:((c:Int) == 83)=false:=by simp;omega
 have hc0:(0:Int)≤(c:Int):=by omega
 have hc1:(c:Int)≤255:=by omega
 clear h1 h2 h3 h4 h5 h6
 have hB0:=(Below.refl w.heap.size w).alloc (Nat.le_refl _) (.cells #[.int .u64 0,.int .u64 0,.int .u64 0,.int .u64 0] 132);have hP0:=Blk.new w #[.int .u64 0,.int .u64 0,.int .u64 0,.int .u64 0] 132 w.heap.size rfl;go_enter Tryz.func132,Tryz.ntmps132;go_wp2_with fail;refine (xclass_any _ _).mono ?_;rintro e w1 ⟨rfl,b1⟩;replace hP0:=hP0.below b1 hP0.lt;replace hB0:=hB0.trans (b1.mono hB0.size);clear b1;go_wp2_with fail;refine (of_one 95 (by decide) (by decide) _ _ (by simp)).mono ?_;rintro e w2 ⟨rfl,b2⟩;replace hP0:=hP0.below b2 hP0.lt;replace hB0:=hB0.trans (b2.mono hB0.size);clear b2;go_wp2_with fail;refine (or_any _ _ _).mono ?_;rintro e w3 ⟨rfl,b3⟩;replace hP0:=hP0.below b3 hP0.lt;replace hB0:=hB0.trans (b3.mono hB0.size);clear b3
 generalize clsSet (ByteArray.mk #[97,108,110,117,109]).data.toList ||| ofl [95]=t
 go_wp2_with fail
 refine (xclass_any _ _).mono ?_
 rintro e w4 ⟨rfl,b4⟩
 replace hP0:=(hP0.alloc (.cells #[.int .u64 (ow t 0),.int .u64 (ow t 1),.int .u64 (ow t 2),.int .u64 (ow t 3)] 132)).below b4 (by have:=hP0.lt;simp;omega);replace hB0:=(hB0.alloc hB0.size (.cells #[.int .u64 (ow t 0),.int .u64 (ow t 1),.int .u64 (ow t 2),.int .u64 (ow t 3)] 132)).trans (b4.mono (by have:=hB0.size;simp;omega));clear b4
 rw [show clsSet (ByteArray.mk #[112,117,110,99,116]).data.toList=punctSet from rfl]
 go_wp2_with fail
 refine (has_any _ _ hc0 hc1 _).mono ?_
 rintro e w5 ⟨rfl,b5⟩
 replace hP0:=hP0.below b5 hP0.lt;replace hB0:=hB0.trans (b5.mono hB0.size);clear b5
 rw [show ohas punctSet ((c:Int)).toNat=false from hp]
 have g:=(((hP0.set 0 (.int .u64 0)).set 1 (.int .u64 0)).set 2 (.int .u64 0)).set 3 (.int .u64 0);have hBn:=(((hB0.setCell (p:=⟨w.heap.size,0,none⟩) (Nat.le_refl _) (.int .u64 0)).setCell (p:=⟨w.heap.size,1,none⟩) (Nat.le_refl _) (.int .u64 0)).setCell (p:=⟨w.heap.size,2,none⟩) (Nat.le_refl _) (.int .u64 0)).setCell (p:=⟨w.heap.size,3,none⟩) (Nat.le_refl _) (.int .u64 0);have p0:=(hP0.cell 0).trans rfl;have p1:=(hP0.cell 1).trans rfl;have p2:=(hP0.cell 2).trans rfl;have p3:=(hP0.cell 3).trans rfl;have z0:=hP0.frozen 0;have z1:=hP0.frozen 1;have z2:=hP0.frozen 2;have z3:=hP0.frozen 3;have hl:=hP0.lt;have HG:=Lib.hid g;have HBn:=Lib.hid hBn;clear g hBn hP0 hB0;go_wp2_with fail;have g:=HG.out;have hBn:=HBn.out;clear HG HBn p0 p1 p2 p3 z0 z1 z2 z3;generalize (((World.setCell _ _ _).setCell _ _).setCell _ _).setCell _ _=w9 at g hBn ⊢;have d0:=(g.cell 0).trans rfl;have d1:=(g.cell 1).trans rfl;have d2:=(g.cell 2).trans rfl;have d3:=(g.cell 3).trans rfl;exact bodyPost_ret (v:=.tuple #[.agg #[.int .u64 0,.int .u64 0,.int .u64 0,.int .u64 0],.bool false,.bool false]) (by simp [results,Tryz.results132,go_sem,d0,d1,d2,d3]) rfl ⟨rfl,hBn⟩
def escV (r:Option (OSet × Bool)):Value:=match r with
 | some q=>.tuple #[.agg #[.int .u64 (ow q.1 0),.int .u64 (ow q.1 1),.int .u64 (ow q.1 2),.int .u64 (ow q.1 3)],.bool q.2,.bool true]
 | none=>.tuple #[.agg #[.int .u64 0,.int .u64 0,.int .u64 0,.int .u64 0],.bool false,.bool false]
theorem esc_any (c:Nat) (hc:c < 256) (w:World):Calls Tryz.prog 132 #[.int .u8 (c:Int)] w fun e w'=>e=.returned (escV (escSet c))∧Below w.heap.size w w':=by
 unfold escSet
 split
 ·rename_i h;subst h;exact esc_110 w
 split
 ·rename_i h;subst h;exact esc_116 w
 split
 ·rename_i h;subst h;exact esc_119 w
 split
 ·rename_i h;subst h;exact esc_87 w
 split
 ·rename_i h;subst h;exact esc_115 w
 split
 ·rename_i h;subst h;exact esc_83 w
 split
 ·rename_i h1 h2 h3 h4 h5 h6 h7;exact esc_yes c w hc h1 h2 h3 h4 h5 h6 h7
 ·rename_i h1 h2 h3 h4 h5 h6 h7;exact esc_no c w hc h1 h2 h3 h4 h5 h6 (by simpa using h7)
end Go.Proofs.YtbgfankoojjejaaGreatDoor
