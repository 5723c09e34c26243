/- The proof's texts CmWj, CmBg, CmWk, CmWl, PcL: what the claim reaches of them. -/
import Derived.Test.YtbgfankoojjejaaGreatDoorGd29
import Derived.Test.YtbgfankoojjejaaGreatDoorGd32
import Derived.Test.YtbgfankoojjejaaGreatDoorGd33
import Derived.Test.YtbgfankoojjejaaGreatDoorGd34
import Derived.Test.YtbgfankoojjejaaGreatDoorGd31
import Derived.Test.YtbgfankoojjejaaGreatDoorGd27
import Derived.Laws.BytesArg
import Derived.Test.YtbgfankoojjejaaGreatDoorGd25
set_option linter.unusedSimpArgs false
set_option linter.unusedVariables false
set_option maxHeartbeats 8000000
set_option maxRecDepth 1000000
namespace Go.Proofs.YtbgfankoojjejaaGreatDoor
open Go Go.RowKit
theorem rep_ms (L:List UInt8) (d:UInt8) (st:CS):(cmRep L d st).2.ms=st.ms:=by
 unfold cmRep cmRepOf
 split
 ·split <;> rfl
 ·rfl
theorem rx_ok {ext:Bool} {L:List UInt8} {d:UInt8} {st:CS} (hk:st.k≤L.length) (h0:(cmRx ext L d st).1=0):(cmRx ext L d st).2.k≤L.length∧(cmRx ext L d st).2.ms.length≤st.ms.length+250∧∃ D,(cmRx ext L d st).2.c.sub.tree=some D∧nsize D≤4000000:=by
 unfold cmRx at h0 ⊢
 cases hR:delimM ext L st.k d with
 | error q=>rw [hR] at h0;exact absurd h0 (delim_err hR)
 | ok q=>
  obtain ⟨h1,h2⟩:=delim_le hk hR
  refine ⟨h1,?_,_,rfl,delim_fine hR⟩
  show (st.ms++q.2.1).length≤_
  rw [List.length_append]
  omega
theorem ksub_any (w:World) (p:Nat) (s:ByteArray) (ext:Bool) (st:CS) (W:World) (h:CmR w p s ext st W) (hs:s.size≤4000) (hk:st.k≤s.size) (hl:st.ms.length≤90000) (hG:Gl w) (hP:GP w) :
  Calls Tryz.prog 22 #[.pointer (some ⟨p,0,none⟩)] W fun e W'=>e=.returned (.int .i64 ((cmSub ext s.data.toList st).1:Int))∧CmR w p s ext (cmSub ext s.data.toList st).2 W':=by
 have hs4:s.size≤4000000:=by omega
 have hA:=kdel_any w p s ext st W h hs4 hk
 have hk1:=del_le (L:=s.data.toList) (st:=st) (by rw [←size_list];exact hk)
 have hm1:=cmDel_ms s.data.toList st
 rw [←size_list] at hk1
 obtain ⟨Z,hZ⟩:∃ Z,cmSub ext s.data.toList st=Z:=⟨_,rfl⟩
 rw [hZ]
 unfold cmSub at hZ
 obtain ⟨⟨d,e1,s1⟩,hR1⟩:∃ R,cmDel s.data.toList st=R:=⟨_,rfl⟩
 rw [hR1] at hA hk1 hm1 hZ
 simp only at hA hk1 hm1 hZ
 unfold CO.then at hZ
 simp only at hZ
 clear hR1 h
 by_cases h1:e1=0
 ·subst h1
  rw [if_pos rfl] at hZ
  have hB:=fun W1 (h1:CmR w p s ext s1 W1)=>krx_any w p s ext s1 d W1 h1 hs4 hk1 (by rw [hm1];exact hl) hG hP
  have hok2:=rx_ok (ext:=ext) (d:=d) (st:=s1) (L:=s.data.toList) (by rw [←size_list];exact hk1)
  obtain ⟨⟨e2,s2⟩,hR2⟩:∃ R,cmRx ext s.data.toList d s1=R:=⟨_,rfl⟩
  rw [hR2] at hB hok2 hZ
  simp only at hB hok2 hZ
  clear hR2
  by_cases h2:e2=0
  ·subst h2
   rw [if_pos rfl] at hZ
   obtain ⟨hk2,hm2,D,hD,hDz⟩:=hok2 rfl
   rw [←size_list] at hk2
   have hC:=fun W1 (h1:CmR w p s ext s2 W1)=>krep_any w p s ext s2 d D W1 h1 hD hDz hs hk2 hP
   have hk3:=repk_le (L:=s.data.toList) (d:=d) (st:=s2) (by rw [←size_list];exact hk2)
   have hm3:=rep_ms s.data.toList d s2
   rw [←size_list] at hk3
   obtain ⟨⟨e3,s3⟩,hR3⟩:∃ R,cmRep s.data.toList d s2=R:=⟨_,rfl⟩
   rw [hR3] at hC hk3 hm3 hZ
   simp only at hC hk3 hm3 hZ
   by_cases h3:e3=0
   ·subst h3
    rw [if_pos rfl,←size_list] at hZ
    have hE:=fun W1 (h1:CmR w p s ext s3 W1)=>kflags_any w p s ext s3 W1 h1 hs4 hk3 (by rw [hm3];rw [hm1] at hm2;omega)
    rw [hZ] at hE
    clear hR3 hZ hok2 hD hDz hk3 hm3 hm2 hk2 hm1 hk1 hG hP hl hk
    go_enter Tryz.func22,Tryz.ntmps22
    go_wp2_with (first
     | (go_at_call 39;refine hA.mono ?_;clear hA;rintro e w1 ⟨rfl,h1⟩)
     | (go_at_call 40;refine (hB _ h1).mono ?_;clear hB;rintro e w2 ⟨rfl,h2⟩)
     | (go_at_call 41;refine (hC _ h2).mono ?_;clear hC;rintro e w3 ⟨rfl,h3⟩)
     | (go_at_call 42;refine (hE _ h3).mono ?_;clear hE;rintro e w4 ⟨rfl,h4⟩))
    go_ret
    exact ⟨rfl,h4⟩
   ·rw [if_neg h3] at hZ
    subst hZ
    have ce:((e3:Int) != 0)=true:=by simpa using h3
    clear hR3 hok2 hD hDz hk3 hm3 hm2 hk2 hm1 hk1 hG hP hl hk h3
    go_enter Tryz.func22,Tryz.ntmps22
    go_wp2_with (first
     | (go_at_call 39;refine hA.mono ?_;clear hA;rintro e w1 ⟨rfl,h1⟩)
     | (go_at_call 40;refine (hB _ h1).mono ?_;clear hB;rintro e w2 ⟨rfl,h2⟩)
     | (go_at_call 41;refine (hC _ h2).mono ?_;clear hC;rintro e w3 ⟨rfl,h3⟩))
    go_ret
    exact ⟨rfl,h3⟩
  ·rw [if_neg h2] at hZ
   subst hZ
   have ce:((e2:Int) != 0)=true:=by simpa using h2
   clear hok2 hm1 hk1 hG hP hl hk h2
   go_enter Tryz.func22,Tryz.ntmps22
   go_wp2_with (first
    | (go_at_call 39;refine hA.mono ?_;clear hA;rintro e w1 ⟨rfl,h1⟩)
    | (go_at_call 40;refine (hB _ h1).mono ?_;clear hB;rintro e w2 ⟨rfl,h2⟩))
   go_ret
   exact ⟨rfl,h2⟩
 ·rw [if_neg h1] at hZ
  subst hZ
  have ce:((e1:Int) != 0)=true:=by simpa using h1
  clear hm1 hk1 hG hP hl hk h1
  go_enter Tryz.func22,Tryz.ntmps22
  go_wp2_with (go_at_call 39;refine hA.mono ?_;clear hA;rintro e w1 ⟨rfl,h1⟩)
  go_ret
  exact ⟨rfl,h1⟩
end Go.Proofs.YtbgfankoojjejaaGreatDoor
namespace Go.Proofs.YtbgfankoojjejaaGreatDoor
open Go Go.RowKit
def LsA (W:World) (R:Option (List UInt8)) (e:Ending) (W':World):Prop:=Below W.heap.size W W'∧match R with
 | none=>∃ a n c,e=.returned (.tuple #[.slice a n c,.bool false])
 | some l=>∃ a c,e=.returned (.tuple #[.slice a l.length c,.bool true])∧W'.ownsRow W.heap.size 5 1 (.slice a l.length c) l.length (Lib.byteCells l)
theorem klist_any (s:ByteArray) (W:World) (hs:s.size≤4000000):Calls Tryz.prog 63 #[.string s] W (LsA W (cmList s.data.toList false [])):=by
 obtain ⟨R,hR⟩:∃ R,cmList s.data.toList false []=R:=⟨_,rfl⟩
 rw [hR]
 have HR:=Lib.hid hR
 obtain ⟨i0,hi,hz0,hz1,hz2⟩:=cu8_info
 clear hR
 go_enter Tryz.func63,Tryz.ntmps63
 go_wp2_with fail
 go_loopw [4,5,10] (fun l e i wr=>∃ (j:Nat) (esc:Bool) (acc:List UInt8) (a:Option Addr) (c:Nat),j≤s.size∧l=.slice a acc.length c∧e=.bool esc∧i=.int .i64 j∧wr.ownsRow W.heap.size 5 1 (.slice a acc.length c) acc.length (Lib.byteCells acc)∧Below W.heap.size W wr∧cmList (s.data.toList.drop j) esc acc=R∧acc.length≤j) (fun _ _ i _=>s.size - (intOf i).toNat)
 case atStart=>exact ⟨0,false,[],none,0,by omega,rfl,rfl,rfl,World.ownsRow_nil _ _ _ _,Below.refl _ _,HR.out,by simp⟩
 case round=>
  obtain ⟨j,esc,acc,a,c,hj,rfl,rfl,rfl,hrow,hbw,hc,hal⟩:=hrel
  have HRw:=Lib.hid hrow
  have HB:=Lib.hid hbw
  have hBs:W.heap.size≤wr.heap.size:=hbw.size
  have hm1:acc.length+1≤maxLen:=by unfold maxLen;omega
  have hm2:(acc.length+1) * 1≤140737488355328:=by omega
  clear hrow hbw
  by_cases hlt:j < s.size
  ·have hji:(j:Int) < (s.size:Int):=by omega
   have hy0:(0:Int)≤(j:Int):=by omega
   rw [drop_at s j hlt] at hc
   obtain ⟨b,hb⟩:∃ b,s[j]=b:=⟨_,rfl⟩
   have hsx:s[j]'hlt=b:=hb
   rw [hb] at hc
   clear hb
   have Wj:IntKind.i64.wrap ((j:Int)+1)=(j:Int)+1:=IntWalk.i64_in _ (by omega)
   cases esc with
   | false=>
    by_cases h92:b=92
    ·have q92:((b.toNat:Int) == 92)=true:=by rw [h92];rfl
     have HC:=Lib.hid (show cmList (s.data.toList.drop (j+1)) true acc=R by rw [←hc,h92];simp [cmList])
     clear h92 hc
     go_wp2_with fail
     go_roundw
     case rel=>exact ⟨j+1,true,acc,a,c,by omega,rfl,rfl,by go_num,HRw.out,HB.out,HC.out,by omega⟩
     case measure=>simp [intOf];omega
    ·have q92:((b.toNat:Int) == 92)=false:=cmu_ne (c:=92) h92
     have HC:=Lib.hid (show cmList (s.data.toList.drop (j+1)) false (acc++[b])=R by rw [←hc];simp [cmList,h92])
     clear h92 hc
     have hbl:=(Below.refl wr.heap.size wr).alloc (Nat.le_refl _) (.cells #[.int .u8 (b.toNat:Int)] 5);have hbs2:W.heap.size≤(wr.alloc (.cells #[.int .u8 (b.toNat:Int)] 5)).heap.size:=Nat.le_trans hBs hbl.size;have HBL:=Lib.hid hbl;clear hbl;go_wp2_with (at_builtin;refine wpList_append_own_at _ rfl _ _ 22 rfl W.heap.size 5 i0 (.int .u8 0) 1 1 Tryz.underlying22 hi hz0 hz1 hz2 rfl (by decide) (.slice a acc.length c) acc.length (Lib.byteCells acc) rfl (nd_own_below HRw.out HBL.out) ⟨wr.heap.size,0,none⟩ 1 1 [.int .u8 (b.toNat:Int)] rfl rfl (one_new _ _ _) (by intro u hu;simp at hu;subst hu;rfl) hm1 hm2 hbs2 ?_;intro v6 w6 hown6 hgr6 _ hat6;obtain ⟨a6,c6,rfl⟩:=own_form' hown6;have HO:=Lib.hid hown6;have HB6:=Lib.hid ((HB.out.trans (HBL.out.mono hBs)).grown hgr6 hbs2 (fun k hk=>own_of HRw.out k hk));clear hown6 hgr6 hat6);go_roundw;(case rel=>exact ⟨j+1,false,acc++[b],a6,c6,by omega,by simp,rfl,by go_num,(by have h9:=HO.out;rw [byteCells_snoc,List.length_append];exact h9),HB6.out,HC.out,by simp;omega⟩);(case measure=>simp [intOf];omega)
   | true=>
    by_cases h110:b=110
    ·have q110:((b.toNat:Int) == 110)=true:=by rw [h110];rfl
     have HC:=Lib.hid (show cmList (s.data.toList.drop (j+1)) false (acc++[10])=R by rw [←hc,h110];simp [cmList])
     clear h110 hc
     have hbl:=(Below.refl wr.heap.size wr).alloc (Nat.le_refl _) (.cells #[.int .u8 10] 5);have hbs2:W.heap.size≤(wr.alloc (.cells #[.int .u8 10] 5)).heap.size:=Nat.le_trans hBs hbl.size;have HBL:=Lib.hid hbl;clear hbl;go_wp2_with (at_builtin;refine wpList_append_own_at _ rfl _ _ 22 rfl W.heap.size 5 i0 (.int .u8 0) 1 1 Tryz.underlying22 hi hz0 hz1 hz2 rfl (by decide) (.slice a acc.length c) acc.length (Lib.byteCells acc) rfl (nd_own_below HRw.out HBL.out) ⟨wr.heap.size,0,none⟩ 1 1 [.int .u8 10] rfl rfl (one_new _ _ _) (by intro u hu;simp at hu;subst hu;rfl) hm1 hm2 hbs2 ?_;intro v6 w6 hown6 hgr6 _ hat6;obtain ⟨a6,c6,rfl⟩:=own_form' hown6;have HO:=Lib.hid hown6;have HB6:=Lib.hid ((HB.out.trans (HBL.out.mono hBs)).grown hgr6 hbs2 (fun k hk=>own_of HRw.out k hk));clear hown6 hgr6 hat6);go_roundw;(case rel=>exact ⟨j+1,false,acc++[10],a6,c6,by omega,by simp,rfl,by go_num,(by have h9:=HO.out;rw [byteCells_snoc,List.length_append];exact h9),HB6.out,HC.out,by simp;omega⟩);(case measure=>simp [intOf];omega)
    ·have q110:((b.toNat:Int) == 110)=false:=cmu_ne (c:=110) h110
     by_cases h92:b=92
     ·have q92:((b.toNat:Int) != 92)=false:=by rw [h92];rfl
      have HC:=Lib.hid (show cmList (s.data.toList.drop (j+1)) false (acc++[b])=R by rw [←hc,h92];simp [cmList])
      clear h110 h92 hc
      have hbl:=(Below.refl wr.heap.size wr).alloc (Nat.le_refl _) (.cells #[.int .u8 (b.toNat:Int)] 5);have hbs2:W.heap.size≤(wr.alloc (.cells #[.int .u8 (b.toNat:Int)] 5)).heap.size:=Nat.le_trans hBs hbl.size;have HBL:=Lib.hid hbl;clear hbl;go_wp2_with (at_builtin;refine wpList_append_own_at _ rfl _ _ 22 rfl W.heap.size 5 i0 (.int .u8 0) 1 1 Tryz.underlying22 hi hz0 hz1 hz2 rfl (by decide) (.slice a acc.length c) acc.length (Lib.byteCells acc) rfl (nd_own_below HRw.out HBL.out) ⟨wr.heap.size,0,none⟩ 1 1 [.int .u8 (b.toNat:Int)] rfl rfl (one_new _ _ _) (by intro u hu;simp at hu;subst hu;rfl) hm1 hm2 hbs2 ?_;intro v6 w6 hown6 hgr6 _ hat6;obtain ⟨a6,c6,rfl⟩:=own_form' hown6;have HO:=Lib.hid hown6;have HB6:=Lib.hid ((HB.out.trans (HBL.out.mono hBs)).grown hgr6 hbs2 (fun k hk=>own_of HRw.out k hk));clear hown6 hgr6 hat6);go_roundw;(case rel=>exact ⟨j+1,false,acc++[b],a6,c6,by omega,by simp,rfl,by go_num,(by have h9:=HO.out;rw [byteCells_snoc,List.length_append];exact h9),HB6.out,HC.out,by simp;omega⟩);(case measure=>simp [intOf];omega)
     ·have q92:((b.toNat:Int) != 92)=true:=by have e:=cmu_ne (c:=92) h92;rw [bne,show ((b.toNat:Int) == 92)=false from e];rfl
      have HC:=Lib.hid (show R=none by rw [←hc];simp [cmList,h110,h92])
      clear h110 h92 hc
      go_wp2_with fail
      go_ret2
      rw [HC.out]
      exact ⟨HB.out,none,0,0,rfl⟩
  ·obtain rfl:j=s.size:=by omega
   rw [drop_end s s.size (Nat.le_refl _)] at hc
   cases esc with
   | true=>
    have HC:=Lib.hid (show R=none by rw [←hc];rfl)
    clear hc
    go_wp2_with fail
    go_ret2
    rw [HC.out]
    exact ⟨HB.out,_,_,_,rfl⟩
   | false=>
    have HC:=Lib.hid (show R=some acc by rw [←hc];rfl)
    clear hc
    go_wp2_with fail
    go_ret2
    rw [HC.out]
    exact ⟨HB.out,a,c,rfl,HRw.out⟩
end Go.Proofs.YtbgfankoojjejaaGreatDoor
namespace Go.Proofs.YtbgfankoojjejaaGreatDoor
open Go Go.RowKit
def tabC (T:List UInt8):Array Value:=(Lib.byteCells T).toArray
def stdC (seen:List UInt8):Array Value:=((List.range 256).map fun k=>Value.bool (decide (UInt8.ofNat k∈seen))).toArray
theorem tab_set (T:List UInt8) (j:Nat) (b:UInt8):(tabC T).setIfInBounds j (.int .u8 (b.toNat:Int))=tabC (T.set j b):=by
 unfold tabC Lib.byteCells
 rw [List.setIfInBounds_toArray,List.map_set]
theorem tab_get (T:List UInt8) (j:Nat) (h:j < T.length):(tabC T)[j]?=some (.int .u8 (T[j].toNat:Int)):=by
 unfold tabC Lib.byteCells
 rw [List.getElem?_toArray,List.getElem?_map,List.getElem?_eq_getElem h]
 rfl
theorem std_get (seen:List UInt8) (b:UInt8):(stdC seen)[b.toNat]?=some (.bool (decide (b∈seen))):=by
 unfold stdC
 rw [List.getElem?_toArray,List.getElem?_map,List.getElem?_range b.toNat_lt]
 simp
theorem std_set (seen:List UInt8) (b:UInt8):(stdC seen).setIfInBounds b.toNat (.bool true)=stdC (b :: seen):=by
 unfold stdC
 rw [List.setIfInBounds_toArray]
 congr 1
 refine List.ext_getElem (by simp) fun k h1 h2=>?_
 have hk:k < 256:=by simpa using h2
 rw [List.getElem_set,List.getElem_map,List.getElem_map,List.getElem_range]
 by_cases h:b.toNat=k
 ·rw [if_pos h]
  have:UInt8.ofNat k=b:=by rw [←h];simp
  simp [this]
 ·rw [if_neg h]
  have:¬ UInt8.ofNat k=b:=fun e=>h (by rw [←e,UInt8.toNat_ofNat'];omega)
  simp [this]
theorem tb_all {T:List UInt8} (hl:T.length=256) (h:∀ k,k < 256→T[k]?=some (UInt8.ofNat k)):T=tbAll:=by
 refine List.ext_getElem? fun k=>?_
 by_cases hk:k < 256
 ·rw [h k hk]
  unfold tbAll
  rw [List.getElem?_map,List.getElem?_range hk]
  rfl
 ·rw [List.getElem?_eq_none (by omega),List.getElem?_eq_none (by unfold tbAll;simp;omega)]
theorem tb_step {T:List UInt8} {i:Nat} (hi:i < 256) (hl:T.length=256) (h:∀ k,k < i→T[k]?=some (UInt8.ofNat k)):∀ k,k < i+1→(T.set i (UInt8.ofNat i))[k]?=some (UInt8.ofNat k):=by
 intro k hk
 rw [List.getElem?_set]
 by_cases e:i=k
 ·rw [if_pos e,if_pos (by omega),e]
 ·rw [if_neg e];exact h k (by omega)
theorem tbRun_cons {k:UInt8} {ks vs seen T:List UInt8}:tbRun (k :: ks) vs seen T=if k∈seen then none else tbRun ks vs.tail (k :: seen) (T.set k.toNat (vs.headD 0)):=by
 rw [tbRun]
def tbZ (R:Option (List UInt8)):List UInt8 × Nat:=match R with | none=>([],15) | some T=>(T,0)
theorem txt_nums (T:List UInt8):strOfNums (T.map fun b=>(b.toNat:Int))=txt T:=by
 unfold strOfNums txt
 congr 1
 rw [List.map_map]
 congr 1
 conv=>rhs;rw [←List.map_id T]
 exact List.map_congr_left fun b _=>by simp
theorem drop_get {l:List UInt8} {j:Nat} (h:j < l.length):l.drop j=l[j] :: l.drop (j+1):=List.drop_eq_getElem_cons h
theorem rowAt {w:World} {B n c:Nat} {T:TypeId} {a:Option Addr} {l:List UInt8} (h:w.ownsRow B T 1 (.slice a n c) n (Lib.byteCells l)) (h0:0 < l.length):∃ q,a=some ⟨q,0,none⟩∧l.length≤maxLen∧q < w.heap.size∧∀ j (h:j < l.length),w.cell? ⟨q,j,none⟩=some (.int .u8 (l[j].toNat:Int)):=by
 have hn:n=l.length:=by have:=h.1;rw [Lib.byteCells_length] at this;omega
 rcases h.2 with ⟨h1,h2⟩ | ⟨g,cap,cur,h1,hB,hg,hc1,hc2,_,ht⟩
 ·omega
 ·injection h1 with h1 h2 h3
  refine ⟨g,h1,by omega,(Array.getElem?_eq_some_iff.1 hg).1,fun j hj=>?_⟩
  have hh:(Lib.byteCells l)[j]?=some (.int .u8 (l[j].toNat:Int)):=by
   unfold Lib.byteCells
   rw [List.getElem?_map,List.getElem?_eq_getElem hj]
   rfl
  rw [←ht,List.getElem?_take] at hh
  split at hh
  ·simp only [World.cell?,hg]
   rw [Array.getElem?_toList] at hh
   simpa using hh
  ·cases hh
theorem zero_tab:Tryz.zeroCells118=tabC (List.replicate 256 0):=by kernel_rfl
theorem zero_std:Tryz.zeroCells119=stdC []:=by kernel_rfl
structure TbS (W w3:World) (g:Nat) (T:List UInt8) (wr:World):Prop where
 q:Blk wr g (tabC T) 118
 l:T.length=256
 b:Below W.heap.size W wr
 o:∀ b,b≠g→wr.heap[b]?=w3.heap[b]?
 s:wr.heap.size=w3.heap.size
theorem TbS.set {W w3:World} {g:Nat} {T:List UInt8} {wr:World} (h:TbS W w3 g T wr) (hg:W.heap.size≤g) (j:Nat) (v:UInt8):TbS W w3 g (T.set j v) (wr.setCell ⟨g,j,none⟩ (.int .u8 (v.toNat:Int))):=by
 have h9:=h.q.set j (.int .u8 (v.toNat:Int))
 rw [tab_set] at h9
 exact ⟨h9,by rw [List.length_set];exact h.l,h.b.setCell (p:=⟨g,j,none⟩) hg _,fun b hb=>(Below.heap_setCell _ _ _ _ (fun e=>hb e)).trans (h.o b hb),by simp [World.setCell,h.s]⟩
theorem TbS.at {W w3:World} {g:Nat} {T:List UInt8} {wr:World} (h:TbS W w3 g T wr) {j:Nat} (hj:j < 256):∃ v,wr.cell? ⟨g,j,none⟩=some (.int .u8 v):=
 ⟨_,(h.q.cell j).trans (tab_get T j (by rw [h.l];exact hj))⟩
structure StS (W w4:World) (g h:Nat) (T seen:List UInt8) (wr:World):Prop where
 q:Blk wr g (tabC T) 118
 r:Blk wr h (stdC seen) 119
 l:T.length=256
 b:Below W.heap.size W wr
 o:∀ b,b≠g→b≠h→wr.heap[b]?=w4.heap[b]?
theorem StS.set {W w4:World} {g h:Nat} {T seen:List UInt8} {wr:World} (k:StS W w4 g h T seen wr) (hg:W.heap.size≤g) (hh:W.heap.size≤h) (hn:g≠h) (x v:UInt8):StS W w4 g h (T.set x.toNat v) (x :: seen) ((wr.setCell ⟨h,x.toNat,none⟩ (.bool true)).setCell ⟨g,x.toNat,none⟩ (.int .u8 (v.toNat:Int))):=by
 have h8:=k.r.set x.toNat (.bool true)
 rw [std_set] at h8
 have q8:Blk (wr.setCell ⟨h,x.toNat,none⟩ (.bool true)) g (tabC T) 118:=blk_like k.q (Below.heap_setCell _ _ _ _ (fun e=>hn e))
 have h9:=q8.set x.toNat (.int .u8 (v.toNat:Int))
 rw [tab_set] at h9
 exact ⟨h9,blk_like h8 (Below.heap_setCell _ _ _ _ (fun e=>hn e.symm)),by rw [List.length_set];exact k.l,(k.b.setCell (p:=⟨h,x.toNat,none⟩) hh _).setCell (p:=⟨g,x.toNat,none⟩) hg _,fun b h1 h2=>(Below.heap_setCell _ _ _ _ (fun e=>h1 e)).trans ((Below.heap_setCell _ _ _ _ (fun e=>h2 e)).trans (k.o b h1 h2))⟩
theorem ktab_any (a b:ByteArray) (W:World) (ha:a.size≤4000) (hb:b.size≤4000) :
  Calls Tryz.prog 44 #[.string a,.string b] W fun e W'=>e=.returned (.tuple #[.string (txt (cmTab a.data.toList b.data.toList).1),.int .i64 ((cmTab a.data.toList b.data.toList).2:Int)])∧Below W.heap.size W W':=by
 have hA:=klist_any a W (by omega)
 have hB:=fun W1=>klist_any b W1 (by omega)
 unfold cmTab
 generalize cmList a.data.toList false []=A at hA ⊢
 generalize cmList b.data.toList false []=Bv at hB ⊢
 obtain ⟨Z,hZ⟩:∃ Z,tbOf A Bv=Z:=⟨_,rfl⟩
 rw [hZ]
 have HZ:=Lib.hid hZ
 clear hZ ha hb
 have hF:∀ {W R e W'},LsA W R e W'→∃ x n c,e=.returned (.tuple #[.slice x n c,.bool R.isSome])∧Below W.heap.size W W'∧∀ l,R=some l→n=l.length∧W'.ownsRow W.heap.size 5 1 (.slice x l.length c) l.length (Lib.byteCells l):=by
  rintro W R e W' ⟨hb,h⟩
  cases R with
  | none=>obtain ⟨x,n,c,rfl⟩:=h;exact ⟨x,n,c,rfl,hb,fun _ h=>by cases h⟩
  | some l=>obtain ⟨x,c,rfl,hr⟩:=h;exact ⟨x,l.length,c,rfl,hb,fun l' e=>by injection e with e;subst e;exact ⟨rfl,hr⟩⟩
 replace hA:=hA.mono fun _ _ h=>hF h
 replace hB:=fun W1=>(hB W1).mono fun _ _ h=>hF h
 clear hF
 obtain ⟨oa,hoa⟩:∃ o,A.isSome=o:=⟨_,rfl⟩
 obtain ⟨ob,hob⟩:∃ o,Bv.isSome=o:=⟨_,rfl⟩
 simp only [hoa] at hA
 simp only [hob] at hB
 have HO:=Lib.hid (And.intro hoa hob)
 clear hoa hob
 go_enter Tryz.func44,Tryz.ntmps44
 go_upto_region 2 with (go_at_call 63;refine hA.mono ?_;clear hA;rintro e w1 ⟨x1,n1,c1,rfl,b1,hr1⟩;have HR1:=Lib.hid hr1;have hB2:=hB w1;clear hB hr1)
 go_upto_region 3 with (go_at_call 63;refine hB2.mono ?_;clear hB2;rintro e w2 ⟨x2,n2,c2,rfl,b2,hr2⟩;have HR2:=Lib.hid hr2;clear hr2)
 have B2:=Lib.hid (b1.trans (b2.mono b1.size))
 have C2:=Lib.hid b2
 have C1:=Lib.hid b1
 clear b1 b2
 cases oa with
 | false=>
  obtain rfl:([],18)=Z:=by
   rw [←HZ.out]
   cases A with
   | none=>rfl
   | some l=>cases HO.out.1
  go_wp2_with fail
  go_ret2
  exact ⟨rfl,B2.out⟩
 | true=>
 cases ob with
 | false=>
  obtain rfl:([],18)=Z:=by
   rw [←HZ.out]
   cases Bv with
   | none=>cases A <;> rfl
   | some l=>cases HO.out.2
  go_wp2_with fail
  go_ret2
  exact ⟨rfl,B2.out⟩
 | true=>
 cases A with
 | none=>cases HO.out.1
 | some ks=>
 cases Bv with
 | none=>cases HO.out.2
 | some vs=>
 obtain ⟨e1,r1⟩:=HR1.out ks rfl
 obtain ⟨e2,r2⟩:=HR2.out vs rfl
 subst e1 e2
 clear HR1 HR2 HO
 by_cases hlen:ks.length=vs.length
 ·have hle:((ks.length:Int) != (vs.length:Int))=false:=by simp [hlen]
  obtain ⟨R,hR⟩:∃ R,tbRun ks vs [] tbAll=R:=⟨_,rfl⟩
  have HZ2:=Lib.hid (show tbZ R=Z by
   rw [←HZ.out,←hR]
   unfold tbOf tbZ
   simp only
   rw [if_pos hlen]
   cases tbRun ks vs [] tbAll <;> rfl)
  have HR:=Lib.hid hR
  have HL:=Lib.hid hlen
  have K1:=Lib.hid (nd_own_below r1 C2.out)
  have K2:=Lib.hid r2
  clear HZ hR hlen r1 r2
  go_upto_region 6 with fail
  obtain ⟨w3,hW3⟩:∃ w3,w2.alloc (.cells Tryz.zeroCells118 118)=w3:=⟨_,rfl⟩
  have hq3:=blkOfAlloc hW3
  have hb3:=belowOfAlloc hW3
  rw [hW3]
  rw [zero_tab] at hq3
  have hTb3:TbS W w3 w2.heap.size (List.replicate 256 0) w3:=⟨hq3,by simp,B2.out.trans (hb3.mono B2.out.size),fun _ _=>rfl,rfl⟩
  have KL:=Lib.hid (And.intro (fun q hq=>own_lt' K1.out q hq) (fun q hq=>own_lt' K2.out q hq))
  replace K1:=Lib.hid (nd_own_below K1.out hb3)
  replace K2:=Lib.hid (nd_own_below K2.out hb3)
  have Hg:=Lib.hid B2.out.size
  obtain ⟨g,hg⟩:∃ g,w2.heap.size=g:=⟨_,rfl⟩
  rw [hg] at hTb3 KL Hg ⊢
  have H3:=Lib.hid hTb3
  clear hq3 hb3 hTb3 hW3 hg
  go_wp2_with fail
  go_loopw [38] (fun i wr=>∃ (j:Nat) (T:List UInt8),j≤256∧i=.int .i64 j∧TbS W w3 g T wr∧∀ k,k < j→T[k]?=some (UInt8.ofNat k)) (fun i _=>256 - (intOf i).toNat)
  case atStart=>exact ⟨0,_,by omega,rfl,H3.out,fun k hk=>by omega⟩
  case round=>
   obtain ⟨j,T,hj,rfl,ht,hT⟩:=hrel
   have HT:=Lib.hid ht
   have HTA:=Lib.hid hT
   clear ht hT
   by_cases hlt:j < 256
   ·have hji:(j:Int) < 256:=by omega
    have hy0:(0:Int)≤(j:Int):=by omega
    have Wj:IntKind.i64.wrap ((j:Int)+1)=(j:Int)+1:=IntWalk.i64_in _ (by omega)
    have Wc:IntKind.u8.wrap (j:Int)=(j:Int):=by
     simp [IntKind.wrap,IntKind.bits,IntKind.signed]
     omega
    obtain ⟨v,c0⟩:=HT.out.at hlt
    have f0:=HT.out.q.frozen j
    have H4:=Lib.hid (show TbS W w3 g (T.set j (UInt8.ofNat j)) (wr.setCell ⟨g,j,none⟩ (.int .u8 (j:Int))) by
     have h9:=HT.out.set Hg.out j (UInt8.ofNat j)
     rw [show ((UInt8.ofNat j).toNat:Int)=(j:Int) by rw [UInt8.toNat_ofNat'];omega] at h9
     exact h9)
    have H5:=Lib.hid (tb_step hlt HT.out.l HTA.out)
    go_wp2_with fail
    go_roundw
    case rel=>exact ⟨j+1,_,by omega,by go_num,H4.out,H5.out⟩
    case measure=>simp [intOf];omega
   ·obtain rfl:j=256:=by omega
    obtain rfl:=tb_all HT.out.l HTA.out
    clear hlt HTA
    have hji:¬ ((256:Nat):Int) < 256:=by omega
    go_upto_region 12 with fail
    obtain ⟨w4,hW4⟩:∃ w4,wr.alloc (.cells Tryz.zeroCells119 119)=w4:=⟨_,rfl⟩
    have hq4:=blkOfAlloc hW4
    have hb4:=belowOfAlloc hW4
    rw [hW4]
    rw [zero_std] at hq4
    have hgl:=HT.out.q.lt
    have hS4:StS W w4 g wr.heap.size tbAll [] w4:=⟨HT.out.q.below hb4 hgl,hq4,HT.out.l,HT.out.b.trans (hb4.mono HT.out.b.size),fun _ _ _=>rfl⟩
    have hgw:g≤w3.heap.size:=by have h:=H3.out.q.lt;omega
    have KA:=Lib.hid (nd_own_below (own_row_same K1.out (fun q hq=>HT.out.o q (by have:=KL.out.1 q hq;omega))) hb4)
    have KB:=Lib.hid (nd_own_below (own_row_same K2.out (fun q hq=>HT.out.o q (by have:=KL.out.2 q hq;omega))) hb4)
    have Hh:=Lib.hid HT.out.b.size
    obtain ⟨h,hh⟩:∃ h,wr.heap.size=h:=⟨_,rfl⟩
    rw [hh] at hS4 hgl Hh ⊢
    have Hgh:=Lib.hid hgl
    have H4:=Lib.hid hS4
    clear hq4 hb4 hS4 hW4 hh hgl hgw HT H3 K1 K2
    go_wp2_with fail
    go_loopw [48] (fun i ws=>∃ (j:Nat) (T seen:List UInt8),j≤ks.length∧i=.int .i64 j∧StS W w4 g h T seen ws∧tbRun (ks.drop j) (vs.drop j) seen T=R) (fun i _=>ks.length - (intOf i).toNat)
    case atStart=>exact ⟨0,_,_,by omega,rfl,H4.out,HR.out⟩
    case round=>
     obtain ⟨j,T,seen,hj,rfl,ht,hT⟩:=hrel
     have HT:=Lib.hid ht
     clear ht
     by_cases hlt:j < ks.length
     ·have hji:(j:Int) < (ks.length:Int):=by omega
      have hy0:(0:Int)≤(j:Int):=by omega
      have hlv:j < vs.length:=by rw [←HL.out];exact hlt
      have hjv:(j:Int) < (vs.length:Int):=by omega
      obtain ⟨qk,rfl,hmx,_,hqc⟩:=rowAt KA.out (by omega)
      have Wj:IntKind.i64.wrap ((j:Int)+1)=(j:Int)+1:=IntWalk.i64_in _ (by unfold maxLen at hmx;omega)
      obtain ⟨qv,rfl,_,_,hqd⟩:=rowAt KB.out (by omega)
      have l1:=KL.out.1 qk rfl
      have l2:=KL.out.2 qv rfl
      have l3:=Hgh.out
      have ck:wr.cell? ⟨qk,j,none⟩=some (.int .u8 (ks[j].toNat:Int)):=(World.cell?_of_block (w:=w4) (a:=⟨qk,j,none⟩) (HT.out.o qk (by omega) (by omega))).trans (hqc j hlt)
      have cv:wr.cell? ⟨qv,j,none⟩=some (.int .u8 (vs[j].toNat:Int)):=(World.cell?_of_block (w:=w4) (a:=⟨qv,j,none⟩) (HT.out.o qv (by omega) (by omega))).trans (hqd j hlv)
      have n1:qv≠h:=by omega
      have n2:g≠h:=by omega
      rw [drop_get hlt,drop_get hlv,tbRun_cons] at hT
      simp only [List.tail_cons,List.headD_cons] at hT
      obtain ⟨b,hb⟩:∃ b,ks[j]=b:=⟨_,rfl⟩
      obtain ⟨v,hv⟩:∃ v,vs[j]=v:=⟨_,rfl⟩
      rw [hb] at ck hT
      rw [hv] at cv hT
      have hlb:=b.toNat_lt
      have b0:(0:Int)≤(b.toNat:Int):=by omega
      have b1:(b.toNat:Int) < 256:=by omega
      have cs:=(HT.out.r.cell b.toNat).trans (std_get seen b)
      have fs:=HT.out.r.frozen b.toNat
      obtain ⟨tv,ct⟩:∃ tv,wr.cell? ⟨g,b.toNat,none⟩=some (.int .u8 tv):=⟨_,(HT.out.q.cell b.toNat).trans (tab_get T b.toNat (by rw [HT.out.l];exact hlb))⟩
      have ft:=HT.out.q.frozen b.toNat
      clear hb hv hqc hqd l1 l2 l3 hlb
      by_cases hs:b∈seen
      ·rw [decide_eq_true hs] at cs
       rw [if_pos hs] at hT
       obtain rfl:([],15)=Z:=by rw [←HZ2.out,←hT];rfl
       clear hs hT ct ft cv n1 n2
       go_wp2_with fail
       go_ret2
       exact ⟨rfl,HT.out.b⟩
      ·rw [decide_eq_false hs] at cs
       rw [if_neg hs] at hT
       have H5:=Lib.hid (HT.out.set Hg.out Hh.out n2 b v)
       have HR5:=Lib.hid hT
       clear hs hT
       go_wp2_with fail
       go_roundw
       case rel=>exact ⟨j+1,_,_,by omega,by go_num,H5.out,HR5.out⟩
       case measure=>simp [intOf];omega
     ·obtain rfl:j=ks.length:=by omega
      rw [List.drop_eq_nil_of_le (Nat.le_refl _),tbRun] at hT
      obtain rfl:(T,0)=Z:=by rw [←HZ2.out,←hT];rfl
      have hcv:(convert 22 9 (.slice (some ⟨g,0,none⟩) 256 256)).run Tryz.prog wr=.ok (.string (txt T)) wr:=by
       have h9:=run_convert_bytes_arg (P:=Tryz.prog) wr 22 5 Tryz.underlying22 Tryz.underlying5 g 0 256 256 (T.map fun b=>(b.toNat:Int)) (by rw [List.length_map];exact HT.out.l) (fun i hi=>by
        have hi2:i < T.length:=by rw [HT.out.l];exact hi
        rw [Nat.zero_add,HT.out.q.cell i,tab_get T i hi2]
        simp [List.getD,List.getElem?_map,List.getElem?_eq_getElem hi2]) 9 Tryz.underlying9
       rw [txt_nums] at h9
       exact h9
      have hlt:¬ ((ks.length:Nat):Int) < (ks.length:Int):=by omega
      clear hT hle
      go_wp2_with fail
      go_ret2
      exact ⟨rfl,HT.out.b⟩
 ·obtain rfl:([],18)=Z:=by
   rw [←HZ.out]
   unfold tbOf
   simp only
   rw [if_neg hlen]
  have hle:((ks.length:Int) != (vs.length:Int))=true:=by simp;omega
  clear r1 r2 hlen
  go_wp2_with fail
  go_ret2
  exact ⟨rfl,B2.out⟩
end Go.Proofs.YtbgfankoojjejaaGreatDoor
namespace Go.Proofs.YtbgfankoojjejaaGreatDoor
open Go Go.RowKit
theorem kbtw (s:ByteArray) (k:Nat) (d:UInt8) (rx:Bool) (W:World) (hs:s.size≤4000000) (hk:k≤s.size) (hP:GP W):Calls Tryz.prog 43 #[.string s,.int .i64 (k:Int),.int .u8 (d.toNat:Int),.bool rx] W fun e w'=>e=.returned (.tuple #[.string (txt (pcBetween s.data.toList (k:Int) d rx).1),.int .i64 ((pcBetween s.data.toList (k:Int) d rx).2.1:Int),.int .i64 ((pcBetween s.data.toList (k:Int) d rx).2.2:Int)])∧Below W.heap.size W w':=by
 have h:=pbetween_at s k d rx W hs hk hP
 unfold pcBetween
 rw [pcAt_at _ _ _ _ (by rw [←size_list];exact hk),←size_list]
 exact h
theorem btwk_len {d:UInt8} {rx:Bool} {s:ByteArray} {k:Nat} (hk:k≤s.size):(pcBetween s.data.toList (k:Int) d rx).1.length≤s.size:=by
 unfold pcBetween
 rw [pcAt_at _ _ _ _ (by rw [←size_list];exact hk),←size_list]
 have h:=btw_len d rx s.data.toList (s.size+1) k [] (by rw [←size_list];exact hk)
 rw [←size_list] at h
 simp only [List.length_nil] at h
 omega
theorem CmSt.tableS {w:World} {p:Nat} {s:ByteArray} {ext:Bool} {st:CS} {ta tb ts:Value} {pa:Option Addr} {pc:Nat} {ma:Option Addr} {mc:Nat} {W:World} (h:CmSt w p s ext st ta tb ts pa pc ma mc W) (t:List UInt8) (k:Nat):CmSt w p s ext (st.table t k) ta tb ts pa pc ma mc ((W.setCell ⟨p,22,none⟩ (.string (txt t))).setCell ⟨p,2,none⟩ (.int .i64 (k:Int))):=
 (h.put 22 (.string (txt t)) { st with c:={ st.c with table:=t } } rfl rfl rfl rfl fun _ _=>rfl).go k
theorem ktbl_any (w:World) (p:Nat) (s:ByteArray) (ext:Bool) (st:CS) (W:World) (h:CmR w p s ext st W) (hs:s.size≤4000) (hk:st.k≤s.size) (hl:st.ms.length≤100000) (hP:GP w) :
  Calls Tryz.prog 23 #[.pointer (some ⟨p,0,none⟩)] W fun e W'=>e=.returned (.int .i64 ((cmTbl s.data.toList st).1:Int))∧CmR w p s ext (cmTbl s.data.toList st).2 W':=by
 have hs4:s.size≤4000000:=by omega
 have hA:=kdel_any w p s ext st W h hs4 hk
 have hk1:=del_le (L:=s.data.toList) (st:=st) (by rw [←size_list];exact hk)
 have hm1:=cmDel_ms s.data.toList st
 rw [←size_list] at hk1
 obtain ⟨Z,hZ⟩:∃ Z,cmTbl s.data.toList st=Z:=⟨_,rfl⟩
 rw [hZ]
 unfold cmTbl at hZ
 obtain ⟨⟨d,e1,s1⟩,hR1⟩:∃ R,cmDel s.data.toList st=R:=⟨_,rfl⟩
 rw [hR1] at hA hk1 hm1 hZ
 simp only at hA hk1 hm1 hZ
 unfold CO.then at hZ
 simp only at hZ
 clear hR1 h
 by_cases h1:e1=0
 ·subst h1
  rw [if_pos rfl] at hZ
  obtain ⟨k1,hk1e⟩:∃ k1,s1.k=k1:=⟨_,rfl⟩
  rw [hk1e] at hk1 hZ
  have HK1:=Lib.hid hk1e
  have hN1:=fun W1 (h1:GP W1)=>kbtw s k1 d false W1 hs4 hk1 h1
  have hl1:=btwk_len (d:=d) (rx:=false) (s:=s) hk1
  have hq1:=btwk_le (d:=d) (rx:=false) (L:=s.data.toList) (k:=k1) (by rw [←size_list];exact hk1)
  rw [←size_list] at hq1
  obtain ⟨⟨t1,q1,e2⟩,hR2⟩:∃ R,pcBetween s.data.toList (k1:Int) d false=R:=⟨_,rfl⟩
  rw [hR2] at hN1 hl1 hq1 hZ
  simp only at hN1 hl1 hq1
  unfold cmTblA at hZ
  simp only at hZ
  clear hR2 hk1e
  have HP:=Lib.hid hP
  obtain ⟨T1,hT1⟩:∃ T,txt t1=T:=⟨_,rfl⟩
  have hT1l:T1.data.toList=t1:=by rw [←hT1,txt_list]
  have hT1s:T1.size≤4000:=by rw [←hT1,txt_size];omega
  rw [hT1] at hN1
  by_cases h2:e2=0
  ·subst h2
   rw [if_pos rfl] at hZ
   have hN2:=fun W1 (h1:GP W1)=>kbtw s q1 d false W1 hs4 hq1 h1
   have hl2:=btwk_len (d:=d) (rx:=false) (s:=s) hq1
   have hq2:=btwk_le (d:=d) (rx:=false) (L:=s.data.toList) (k:=q1) (by rw [←size_list];exact hq1)
   rw [←size_list] at hq2
   obtain ⟨⟨t2,q2,e3⟩,hR3⟩:∃ R,pcBetween s.data.toList (q1:Int) d false=R:=⟨_,rfl⟩
   rw [hR3] at hN2 hl2 hq2 hZ
   simp only at hN2 hl2 hq2
   unfold cmTblB at hZ
   simp only at hZ
   clear hR3
   obtain ⟨T2,hT2⟩:∃ T,txt t2=T:=⟨_,rfl⟩
   have hT2l:T2.data.toList=t2:=by rw [←hT2,txt_list]
   have hT2s:T2.size≤4000:=by rw [←hT2,txt_size];omega
   rw [hT2] at hN2
   by_cases h3:e3=0
   ·subst h3
    rw [if_pos rfl] at hZ
    have hQ:=fun W1=>ktab_any T1 T2 W1 hT1s hT2s
    rw [hT1l,hT2l] at hQ
    obtain ⟨⟨tb0,e4⟩,hR4⟩:∃ R,cmTab t1 t2=R:=⟨_,rfl⟩
    rw [hR4] at hQ hZ
    simp only at hQ hZ
    clear hR4 hT1 hT2 hT1l hT2l hl1 hl2
    by_cases h4:e4=0
    ·subst h4
     rw [if_pos rfl] at hZ
     have hE:=fun W1 (h1:CmR w p s ext (s1.table tb0 q2) W1)=>kend_any w p s ext (s1.table tb0 q2) W1 h1 hs4 hq2 (by show s1.ms.length≤_;rw [hm1];exact hl)
     rw [hZ] at hE
     clear hZ hm1 hk1 hP hl hk hq1 hq2 hT1s hT2s
     go_enter Tryz.func23,Tryz.ntmps23
     go_upto_region 4 with (go_at_call 39;refine hA.mono ?_;clear hA;rintro e w1 ⟨rfl,h1⟩;obtain ⟨ta,tb,ts,pa,pc,ma,mc,h1⟩:=h1;have H1:=Lib.hid h1;have k0:w1.cell? ⟨p,0,none⟩=some (.string s):=(h1.q.cell 0).trans rfl;have k2:w1.cell? ⟨p,2,none⟩=some (.int .i64 (k1:Int)):=(h1.q.cell 2).trans (by rw [←HK1.out];rfl);clear h1)
     go_region_held3 (fun w'=>w'.cell? ⟨p,0,none⟩=some (.string s)∧w'.cell? ⟨p,2,none⟩=some (.int .i64 (k1:Int))) (first | exact ⟨k0,k2⟩ | (refine ⟨?_,?_⟩ <;> assumption)) (first | (go_at_call 43;refine (hN1 _ (by first | exact HP.out.up H1.out.b0 | exact HP.out.up H1.out.b0.drew)).mono ?_;clear hN1;rintro e w2 ⟨rfl,b1⟩;have H2:=Lib.hid (by first | exact H1.out.step b1 | exact H1.out.drew.step b1:CmSt w p s ext s1 ta tb ts pa pc ma mc w2);have m0:(w2).cell? ⟨p,0,none⟩=some (.string s):=(H2.out.q.cell 0).trans rfl;have m2:(w2).cell? ⟨p,2,none⟩=some (.int .i64 (k1:Int)):=(H2.out.q.cell 2).trans (by rw [←HK1.out];rfl);clear b1))
     clear k0 k2
     have k0:=m0
     have k2:=m2
     clear m0 m2
     go_upto_region 16 with (first | (go_at_call 43;refine (hN2 _ (HP.out.up H2.out.b0)).mono ?_;clear hN2;rintro e w3 ⟨rfl,b1⟩;have H3:=Lib.hid (by first | exact H2.out.step b1 | exact H2.out.drew.step b1:CmSt w p s ext s1 ta tb ts pa pc ma mc w3);have m0:(w3).cell? ⟨p,0,none⟩=some (.string s):=(H3.out.q.cell 0).trans rfl;have m2:(w3).cell? ⟨p,2,none⟩=some (.int .i64 (k1:Int)):=(H3.out.q.cell 2).trans (by rw [←HK1.out];rfl);clear b1) | (go_at_call 44;refine (hQ _).mono ?_;clear hQ;rintro e w4 ⟨rfl,b4⟩;have H4:=Lib.hid (H3.out.step b4);clear b4))
     clear k0 k2
     have c2:w4.cell? ⟨p,2,none⟩=some (.int .i64 (s1.k:Int)):=(H4.out.q.cell 2).trans rfl
     have c22:w4.cell? ⟨p,22,none⟩=some (.string (txt s1.c.table)):=(H4.out.q.cell 22).trans rfl
     have f2:=H4.out.q.frozen 2
     have f22:=H4.out.q.frozen 22
     have H5:=Lib.hid (H4.out.tableS tb0 q2)
     go_wp2_with (go_at_call 24;refine (hE _ H5.out.R).mono ?_;clear hE;rintro e w6 ⟨rfl,h6⟩)
     go_ret
     exact ⟨rfl,h6⟩
    ·rw [if_neg h4] at hZ
     subst hZ
     have ce:((e4:Int) != 0)=true:=by simpa using h4
     clear hm1 hk1 hP hl hk hq1 hq2 hT1s hT2s h4
     go_enter Tryz.func23,Tryz.ntmps23
     go_upto_region 4 with (go_at_call 39;refine hA.mono ?_;clear hA;rintro e w1 ⟨rfl,h1⟩;obtain ⟨ta,tb,ts,pa,pc,ma,mc,h1⟩:=h1;have H1:=Lib.hid h1;have k0:w1.cell? ⟨p,0,none⟩=some (.string s):=(h1.q.cell 0).trans rfl;have k2:w1.cell? ⟨p,2,none⟩=some (.int .i64 (k1:Int)):=(h1.q.cell 2).trans (by rw [←HK1.out];rfl);clear h1)
     go_region_held3 (fun w'=>w'.cell? ⟨p,0,none⟩=some (.string s)∧w'.cell? ⟨p,2,none⟩=some (.int .i64 (k1:Int))) (first | exact ⟨k0,k2⟩ | (refine ⟨?_,?_⟩ <;> assumption)) (first | (go_at_call 43;refine (hN1 _ (by first | exact HP.out.up H1.out.b0 | exact HP.out.up H1.out.b0.drew)).mono ?_;clear hN1;rintro e w2 ⟨rfl,b1⟩;have H2:=Lib.hid (by first | exact H1.out.step b1 | exact H1.out.drew.step b1:CmSt w p s ext s1 ta tb ts pa pc ma mc w2);have m0:(w2).cell? ⟨p,0,none⟩=some (.string s):=(H2.out.q.cell 0).trans rfl;have m2:(w2).cell? ⟨p,2,none⟩=some (.int .i64 (k1:Int)):=(H2.out.q.cell 2).trans (by rw [←HK1.out];rfl);clear b1))
     clear k0 k2
     have k0:=m0
     have k2:=m2
     clear m0 m2
     go_upto_region 14 with (first | (go_at_call 43;refine (hN2 _ (HP.out.up H2.out.b0)).mono ?_;clear hN2;rintro e w3 ⟨rfl,b1⟩;have H3:=Lib.hid (by first | exact H2.out.step b1 | exact H2.out.drew.step b1:CmSt w p s ext s1 ta tb ts pa pc ma mc w3);have m0:(w3).cell? ⟨p,0,none⟩=some (.string s):=(H3.out.q.cell 0).trans rfl;have m2:(w3).cell? ⟨p,2,none⟩=some (.int .i64 (k1:Int)):=(H3.out.q.cell 2).trans (by rw [←HK1.out];rfl);clear b1) | (go_at_call 44;refine (hQ _).mono ?_;clear hQ;rintro e w4 ⟨rfl,b4⟩;have H4:=Lib.hid (H3.out.step b4);clear b4))
     clear k0 k2
     have c2:w4.cell? ⟨p,2,none⟩=some (.int .i64 (s1.k:Int)):=(H4.out.q.cell 2).trans rfl
     have f2:=H4.out.q.frozen 2
     have H5:=Lib.hid (H4.out.go q1)
     go_wp2_with fail
     go_ret
     exact ⟨rfl,H5.out.R⟩
   ·rw [if_neg h3] at hZ
    subst hZ
    have ce:((e3:Int) != 0)=true:=by simpa using h3
    clear hm1 hk1 hP hl hk hq1 hq2 hT1s hT2s h3 hT1 hT2 hT1l hT2l hl1 hl2
    go_enter Tryz.func23,Tryz.ntmps23
    go_upto_region 4 with (go_at_call 39;refine hA.mono ?_;clear hA;rintro e w1 ⟨rfl,h1⟩;obtain ⟨ta,tb,ts,pa,pc,ma,mc,h1⟩:=h1;have H1:=Lib.hid h1;have k0:w1.cell? ⟨p,0,none⟩=some (.string s):=(h1.q.cell 0).trans rfl;have k2:w1.cell? ⟨p,2,none⟩=some (.int .i64 (k1:Int)):=(h1.q.cell 2).trans (by rw [←HK1.out];rfl);clear h1)
    go_region_held3 (fun w'=>w'.cell? ⟨p,0,none⟩=some (.string s)∧w'.cell? ⟨p,2,none⟩=some (.int .i64 (k1:Int))) (first | exact ⟨k0,k2⟩ | (refine ⟨?_,?_⟩ <;> assumption)) (first | (go_at_call 43;refine (hN1 _ (by first | exact HP.out.up H1.out.b0 | exact HP.out.up H1.out.b0.drew)).mono ?_;clear hN1;rintro e w2 ⟨rfl,b1⟩;have H2:=Lib.hid (by first | exact H1.out.step b1 | exact H1.out.drew.step b1:CmSt w p s ext s1 ta tb ts pa pc ma mc w2);have m0:(w2).cell? ⟨p,0,none⟩=some (.string s):=(H2.out.q.cell 0).trans rfl;have m2:(w2).cell? ⟨p,2,none⟩=some (.int .i64 (k1:Int)):=(H2.out.q.cell 2).trans (by rw [←HK1.out];rfl);clear b1))
    clear k0 k2
    have k0:=m0
    have k2:=m2
    clear m0 m2
    go_upto_region 10 with (go_at_call 43;refine (hN2 _ (HP.out.up H2.out.b0)).mono ?_;clear hN2;rintro e w3 ⟨rfl,b1⟩;have H3:=Lib.hid (by first | exact H2.out.step b1 | exact H2.out.drew.step b1:CmSt w p s ext s1 ta tb ts pa pc ma mc w3);have m0:(w3).cell? ⟨p,0,none⟩=some (.string s):=(H3.out.q.cell 0).trans rfl;have m2:(w3).cell? ⟨p,2,none⟩=some (.int .i64 (k1:Int)):=(H3.out.q.cell 2).trans (by rw [←HK1.out];rfl);clear b1)
    clear k0 k2
    have c2:w3.cell? ⟨p,2,none⟩=some (.int .i64 (s1.k:Int)):=(H3.out.q.cell 2).trans rfl
    clear m0 m2
    have f2:=H3.out.q.frozen 2
    have H5:=Lib.hid (H3.out.go q2)
    go_wp2_with fail
    go_ret
    exact ⟨rfl,H5.out.R⟩
  ·rw [if_neg h2] at hZ
   subst hZ
   have ce:((e2:Int) != 0)=true:=by simpa using h2
   clear hm1 hk1 hP hl hk hq1 hT1s h2 hT1 hT1l hl1
   go_enter Tryz.func23,Tryz.ntmps23
   go_upto_region 4 with (go_at_call 39;refine hA.mono ?_;clear hA;rintro e w1 ⟨rfl,h1⟩;obtain ⟨ta,tb,ts,pa,pc,ma,mc,h1⟩:=h1;have H1:=Lib.hid h1;have k0:w1.cell? ⟨p,0,none⟩=some (.string s):=(h1.q.cell 0).trans rfl;have k2:w1.cell? ⟨p,2,none⟩=some (.int .i64 (k1:Int)):=(h1.q.cell 2).trans (by rw [←HK1.out];rfl);clear h1)
   go_region_held3 (fun w'=>w'.cell? ⟨p,0,none⟩=some (.string s)∧w'.cell? ⟨p,2,none⟩=some (.int .i64 (k1:Int))) (first | exact ⟨k0,k2⟩ | (refine ⟨?_,?_⟩ <;> assumption)) (first | (go_at_call 43;refine (hN1 _ (by first | exact HP.out.up H1.out.b0 | exact HP.out.up H1.out.b0.drew)).mono ?_;clear hN1;rintro e w2 ⟨rfl,b1⟩;have H2:=Lib.hid (by first | exact H1.out.step b1 | exact H1.out.drew.step b1:CmSt w p s ext s1 ta tb ts pa pc ma mc w2);have m0:(w2).cell? ⟨p,0,none⟩=some (.string s):=(H2.out.q.cell 0).trans rfl;have m2:(w2).cell? ⟨p,2,none⟩=some (.int .i64 (k1:Int)):=(H2.out.q.cell 2).trans (by rw [←HK1.out];rfl);clear b1))
   clear k0 k2
   have c2:w2.cell? ⟨p,2,none⟩=some (.int .i64 (s1.k:Int)):=(H2.out.q.cell 2).trans rfl
   clear m0 m2
   have f2:=H2.out.q.frozen 2
   have H5:=Lib.hid (H2.out.go q1)
   go_wp2_with fail
   go_ret
   exact ⟨rfl,H5.out.R⟩
 ·rw [if_neg h1] at hZ
  subst hZ
  have ce:((e1:Int) != 0)=true:=by simpa using h1
  clear hm1 hk1 hP hl hk h1
  go_enter Tryz.func23,Tryz.ntmps23
  go_wp2_with (go_at_call 39;refine hA.mono ?_;clear hA;rintro e w1 ⟨rfl,h1⟩)
  go_ret
  exact ⟨rfl,h1⟩
end Go.Proofs.YtbgfankoojjejaaGreatDoor
namespace Go.Proofs.YtbgfankoojjejaaGreatDoor
open Go.RowKit
theorem plines_at (s:ByteArray) (k:Nat) (w:World) (hs:s.size≤4000000) (hk:k≤s.size) :
  Calls Tryz.prog 38 #[.string s,.int .i64 k] w fun e w'=>e=pcA (pcLin (s.data.toList.drop k) k [])∧Below w.heap.size w w':=by
 have hP:=place_yes s k w hk
 obtain ⟨R,hR⟩:∃ R,pcLin (s.data.toList.drop k) k []=R:=⟨_,rfl⟩
 rw [hR]
 have HR:=Lib.hid hR
 clear hR
 go_enter Tryz.func38,Tryz.ntmps38
 go_wp2_with (go_at_call 51;refine hP.mono ?_;rintro e w' ⟨rfl,rfl⟩)
 clear hP
 go_loopw [1] (fun i wr=>∃ (p:Nat) (acc:List UInt8),p≤s.size∧i=.int .i64 p∧Lib.IsBuilderF 102 5 w'.heap.size w'.heap.size (Lib.byteCells acc) wr∧Below w'.heap.size w' wr∧w'.heap.size≤wr.heap.size∧acc.length≤p∧pcLin (s.data.toList.drop p) p acc=R) (fun i _=>s.size - (intOf i).toNat)
 case atStart=>exact ⟨k,[],hk,rfl,Lib.IsBuilderF.of (Lib.fresh_isBuilder 102 5 w'),(Below.refl _ w').alloc (Nat.le_refl _) _,by simp,by simp,HR.out⟩
 case round=>
  obtain ⟨p,acc,hp,rfl,hI,hbw,hsz,hal,hacc⟩:=hrel
  have HA:=Lib.hid hacc
  clear hacc
  have hlc:(Lib.byteCells acc).length+1≤140737488355328:=by rw [Lib.byteCells_length];omega
  have fin:∀ W1:World,Lib.BuilderAtF 102 5 w'.heap.size w'.heap.size (.pointer (some ⟨w'.heap.size,0,none⟩)) (Lib.byteCells acc++[.int .u8 10]) W1→Lib.IsBuilderF 102 5 w'.heap.size w'.heap.size (Lib.byteCells (acc++[10])) W1:=fun W1 h=>by
   rw [Lib.byteCells_append];exact Or.inr h
  by_cases hlt:p < s.size
  ·have hlti:(p:Int) < (s.size:Int):=by omega
   have hd:=drop_at s p hlt
   have Hd:=Lib.hid hd
   clear hd
   have hx256:=s[p].toNat_lt
   by_cases h10:s[p]=10
   ·have q10:((s[p].toNat:Int) != 10)=false:=by rw [h10];rfl
    have Hx:=Lib.hid h10
    clear h10 hx256
    have hmn:IntKind.i64.wrap ((p:Int)+1)=(p:Int)+1:=IntWalk.i64_in _ (by omega)
    have hle:(p:Int)+1≤(s.size:Int):=by omega
    go_wp2_with (go_at_call 54;refine (writeByte_k w'.heap.size w'.heap.size _ _ _ hI hlc hsz).mono ?_)
    rintro e W1 ⟨rfl,h1,b1,_⟩
    go_wp2_with (go_at_call 55;refine (builderString_k w'.heap.size w'.heap.size (acc++[10]) _ (fin W1 h1) (by have:=b1.size;omega)).mono ?_)
    rintro e W2 ⟨rfl,_,b2,_⟩
    go_wp2
    go_ret3
    refine ⟨?_,(hbw.trans b1).trans b2⟩
    rw [←HA.out,Hd.out,Hx.out,pcLin_nl]
    exact pcA_mk rfl (by show min ((p:Int)+1) (s.size:Int)=((p+1:Nat):Int);omega) rfl
   ·have q10:((s[p].toNat:Int) != 10)=true:=bne_iff_ne.2 fun h=>h10 (UInt8.toNat_inj.1 (by show s[p].toNat=10;omega))
    have H10:=Lib.hid h10
    clear h10
    by_cases h92:s[p]=92
    ·have q92:((s[p].toNat:Int) == 92)=true:=by rw [h92];rfl
     have Hx:=Lib.hid h92
     clear h92 hx256
     have hmn:IntKind.i64.wrap ((p:Int)+1)=(p:Int)+1:=IntWalk.i64_in _ (by omega)
     by_cases hend:p+1=s.size
     ·have qe:((p:Int)+1 == (s.size:Int))=true:=beq_iff_eq.2 (by omega)
      have Hde:=Lib.hid (drop_end s (p+1) (by omega))
      have He:=Lib.hid hend
      clear hend
      go_wp2
      go_ret3
      refine ⟨?_,hbw⟩
      rw [←HA.out,Hd.out,Hx.out,Hde.out,pcLin_tail]
      rfl
     ·have qe:((p:Int)+1 == (s.size:Int))=false:=beq_eq_false_iff_ne.2 (by omega)
      have hlt2:p+1 < s.size:=by omega
      have hlt2i:(p:Int)+1 < (s.size:Int):=by omega
      have Hde:=Lib.hid (drop_at s (p+1) hlt2)
      have hmn2:IntKind.i64.wrap ((p:Int)+1+1)=(p:Int)+1+1:=IntWalk.i64_in _ (by omega)
      go_wp2_with (go_at_call 54;refine (writeByte_k w'.heap.size w'.heap.size _ _ _ hI hlc hsz).mono ?_)
      rintro e W1 ⟨rfl,h1,b1,_⟩
      go_wp2
      go_roundw
      case rel=>
       refine ⟨p+2,acc++[s[p+1]],by omega,by go_num,?_,hbw.trans b1,Nat.le_trans hsz b1.size,by simp;omega,?_⟩
       ·rw [Lib.byteCells_append];exact Or.inr h1
       ·rw [←HA.out,Hd.out,Hx.out,Hde.out,pcLin_bs]
      case measure=>simp [intOf];omega
    ·have q92:((s[p].toNat:Int) == 92)=false:=beq_eq_false_iff_ne.2 fun h=>h92 (UInt8.toNat_inj.1 (by show s[p].toNat=92;omega))
     have H92:=Lib.hid h92
     clear h92 hx256
     have hmn:IntKind.i64.wrap ((p:Int)+1)=(p:Int)+1:=IntWalk.i64_in _ (by omega)
     go_wp2_with (go_at_call 54;refine (writeByte_k w'.heap.size w'.heap.size _ _ _ hI hlc hsz).mono ?_)
     rintro e W1 ⟨rfl,h1,b1,_⟩
     go_wp2
     go_roundw
     case rel=>
      refine ⟨p+1,acc++[s[p]],by omega,by go_num,?_,hbw.trans b1,Nat.le_trans hsz b1.size,by simp;omega,?_⟩
      ·rw [Lib.byteCells_append];exact Or.inr h1
      ·rw [←HA.out,Hd.out,pcLin_else _ _ _ _ H10.out H92.out]
     case measure=>simp [intOf];omega
  ·have hlti:¬ (p:Int) < (s.size:Int):=by omega
   have hpe:p=s.size:=by omega
   have Hd:=Lib.hid (drop_end s p (by omega))
   have hmn:IntKind.i64.wrap ((p:Int)+1)=(p:Int)+1:=IntWalk.i64_in _ (by omega)
   have hle:¬ (p:Int)+1≤(s.size:Int):=by omega
   have He:=Lib.hid hpe
   clear hpe
   go_wp2_with (go_at_call 54;refine (writeByte_k w'.heap.size w'.heap.size _ _ _ hI hlc hsz).mono ?_;rintro e W1 ⟨rfl,h1,b1,_⟩)
   go_wp2_with (go_at_call 55;refine (builderString_k w'.heap.size w'.heap.size (acc++[10]) _ (fin W1 h1) (by have:=b1.size;omega)).mono ?_;rintro e W2 ⟨rfl,_,b2,_⟩)
   go_wp2
   go_ret3
   refine ⟨?_,(hbw.trans b1).trans b2⟩
   rw [←HA.out,Hd.out,pcLin]
   exact pcA_mk rfl (by show min ((p:Int)+1) (s.size:Int)=(p:Int);omega) rfl
end Go.Proofs.YtbgfankoojjejaaGreatDoor
