/- The proof's texts BrProgDF: what the claim reaches of them. -/
import Derived.Test.YtbgfankoojjejaaGreatDoorGd08
import Derived.Test.YtbgfankoojjejaaGreatDoorGd10
import Derived.Test.YtbgfankoojjejaaGreatDoorGd04
set_option linter.unusedSimpArgs false
set_option linter.unusedVariables false
set_option maxHeartbeats 8000000
set_option maxRecDepth 1000000
namespace Go.Proofs.YtbgfankoojjejaaGreatDoor
open Go.RowKit
theorem sub_toList (s:ByteArray) (i j:Nat):(s.extract i j).toList=sub s.data.toList i j:=by
 rw [ByteArray.toList_eq,ByteArray.data_extract,Array.toList_extract,List.extract_eq_take_drop]
 rfl
theorem sub_byt (s:ByteArray) (i j:Nat) (h:i < j):byt (s.extract i j).data.toList 0=byt s.data.toList i:=by
 rw [ByteArray.data_extract,Array.toList_extract,List.extract_eq_take_drop]
 unfold byt
 rw [List.getD_eq_getElem?_getD,List.getD_eq_getElem?_getD,List.getElem?_take_of_lt (by omega),List.getElem?_drop]
 rfl
def prf (s:List UInt8) (k o:Nat):Bool:=decide (k+1 < s.length) && decide (byt s k=91) && decide (byt s (k+1)=o)
theorem opens_prf (s:List UInt8) (k:Nat):opens s k=(prf s k 58 || prf s k 61 || prf s k 46):=by
 unfold opens prf
 cases decide (k+1 < s.length) <;> cases decide (byt s k=91) <;> cases decide (byt s (k+1)=58) <;> cases decide (byt s (k+1)=61) <;> rfl
theorem pprf (s:ByteArray) (k o:Nat) (w:World) (ho:o < 256) :
  Calls Tryz.prog 33 #[.string (s.extract k s.size),.string (strOfNums [91,(o:Int)])] w fun e w'=>e=.returned (.bool (prf s.data.toList k o))∧w=w':=by
 have h:=prefix_any (s.extract k s.size) (strOfNums [((91:Nat):Int),(o:Int)]) w
 rw [ext_list,nums_two,show UInt8.ofNat 91=91 from rfl,pre_two,show (UInt8.ofNat o).toNat=o by simp;omega] at h
 exact h
def pgI (a:Itm):Value:=pgV a.set a.may (if a.err=0 then a.next else a.place) a.err
theorem opened_any (s:ByteArray) (k o:Nat) (w:World) (hs:s.size≤1000000) (hp:prf s.data.toList k o=true) (ho:o=58∨o=61∨o=46) (hG:Gl w) :
  Calls Tryz.prog 165 #[.string s,.int .i64 (k:Int),.int .u8 (o:Int)] w fun e w'=>e=.returned (pgI (itm s.data.toList k))∧Below w.heap.size w w':=by
 have hop:opens s.data.toList k=true:=by
  rw [opens_prf]
  rcases ho with rfl | rfl | rfl <;> rw [hp] <;> simp
 unfold prf at hp
 simp only [Bool.and_eq_true,decide_eq_true_eq,plist_size] at hp
 obtain ⟨⟨hk,h91⟩,hb⟩:=hp
 have hi:itm s.data.toList k=(match fnd s.data.toList o (from1 s.data.toList k) with
   | some e=>boxed s.data.toList k e
   | none=>⟨oz,false,0,5,s.data.toList.length⟩):=by
  unfold itm
  rw [if_neg (by rw [plist_size];omega),if_pos hop,hb]
  rfl
 have hf:from1 s.data.toList k=if o=58 then k+2 else k+3:=by unfold from1;rw [hb]
 have hcl:∀ w,Gl w→Calls Tryz.prog 167 #[.string s,.int .i64 ((k:Int)+2),.int .u8 (o:Int)] w fun e w'=>e=.returned (.int .i64 (clo s.data.toList o (from1 s.data.toList k)))∧Below w.heap.size w w':=by
  intro w hG
  obtain ⟨m,hm⟩:=hG.ml
  rw [hf]
  by_cases h58:o=58
  ·rw [if_pos h58]
   exact closer58 s (k+2) o w m hs (by omega) (by omega) h58 hm (Nat.lt_of_lt_of_le (by decide) hG.lt)
  ·rw [if_neg h58]
   exact closer_one s (k+2) o w m hs (by omega) (by omega) h58 hm (Nat.lt_of_lt_of_le (by decide) hG.lt)
 cases hx:fnd s.data.toList o (from1 s.data.toList k) with
 | none=>
  rw [hx] at hi
  simp only at hi
  rw [hi]
  have hc0:clo s.data.toList o (from1 s.data.toList k)=-1:=by unfold clo;rw [hx]
  refine (opened_none s k o w hs (by omega) hG (fun w hG=>by have:=hcl w hG;rw [hc0] at this;exact this)).mono ?_
  rintro e w' ⟨rfl,b⟩
  refine ⟨?_,b⟩
  unfold pgI
  rw [plist_size]
  rfl
 | some x=>
  rw [hx] at hi
  simp only at hi
  rw [hi]
  have hge:=fnd_ge _ _ _ _ hx
  rw [plist_size] at hge
  have hc0:clo s.data.toList o (from1 s.data.toList k)=(x:Int):=by unfold clo;rw [hx]
  have hcl2:∀ w,Gl w→Calls Tryz.prog 167 #[.string s,.int .i64 ((k:Int)+2),.int .u8 (o:Int)] w fun e w'=>e=.returned (.int .i64 (x:Int))∧Below w.heap.size w w':=fun w hG=>by
   have:=hcl w hG;rw [hc0] at this;exact this
  unfold boxed
  rw [hb]
  by_cases h58:o=58
  ·rw [if_pos h58] at hf ⊢
   refine (opened_some s k o x (clsSet (sub s.data.toList (k+2) x)) false (clsOk (sub s.data.toList (k+2) x)) w hs (by omega) hG (by omega) (by omega) hcl2 (fun w=>?_)).mono ?_
   ·have:=named58 (s.extract (k+2) x) w
    rw [sub_toList] at this
    rw [h58]
    exact this
   ·rintro e w' ⟨rfl,b⟩
    refine ⟨?_,b⟩
    cases clsOk (sub s.data.toList (k+2) x) <;> rfl
  ·rw [if_neg h58] at hf ⊢
   by_cases hx3:x=k+3
   ·rw [if_pos hx3]
    refine (opened_some s k o x (oSpan (byt s.data.toList (k+2)) (byt s.data.toList (k+2))) (decide (o=46)) true w hs (by omega) hG (by omega) (by omega) hcl2 (fun w=>?_)).mono ?_
    ·have:=named_one (s.extract (k+2) x) (o:Int) w (by omega) (by simp;omega)
     rw [sub_byt s (k+2) x (by omega)] at this
     rw [show decide (o=46)=((o:Int) == 46) by rcases ho with rfl | rfl | rfl <;> rfl]
     exact this
    ·rintro e w' ⟨rfl,b⟩
     exact ⟨rfl,b⟩
   ·rw [if_neg hx3]
    refine (opened_some s k o x oz false false w hs (by omega) hG (by omega) (by omega) hcl2 (fun w=>named_none (s.extract (k+2) x) (o:Int) w (by omega) (by simp;omega))).mono ?_
    rintro e w' ⟨rfl,b⟩
    exact ⟨rfl,b⟩
theorem opn_index0 (a b c:Int) (w:World):(Instr.index 248 (.agg #[.int .u8 a,.int .u8 b,.int .u8 c]) (.int .i64 0)).run Tryz.prog w=.ok (.int .u8 a) w:=by kernel_rfl
theorem opn_index1 (a b c:Int) (w:World):(Instr.index 248 (.agg #[.int .u8 a,.int .u8 b,.int .u8 c]) (.int .i64 1)).run Tryz.prog w=.ok (.int .u8 b) w:=by kernel_rfl
theorem opn_index2 (a b c:Int) (w:World):(Instr.index 248 (.agg #[.int .u8 a,.int .u8 b,.int .u8 c]) (.int .i64 2)).run Tryz.prog w=.ok (.int .u8 c) w:=by kernel_rfl
theorem pitem_any (s:ByteArray) (k:Nat) (w:World) (hs:s.size≤1000000) (hk:k < s.size) (hG:Gl w) :
  Calls Tryz.prog 153 #[.string s,.int .i64 (k:Int)] w fun e w'=>e=.returned (pgI (itm s.data.toList k))∧Below w.heap.size w w':=by
 obtain ⟨cs,may,pl,er,hv⟩:∃ cs m pl er,pgI (itm s.data.toList k)=pgV cs m pl er:=⟨_,_,_,_,rfl⟩
 rw [hv]
 have Hv:=Lib.hid hv
 clear hv
 have hB:=Blk.new w #[.int .u64 0,.int .u64 0,.int .u64 0,.int .u64 0,.bool false] 243 _ rfl
 have hW:=(Below.refl w.heap.size w).alloc (Nat.le_refl _) (.cells #[.int .u64 0,.int .u64 0,.int .u64 0,.int .u64 0,.bool false] 243)
 have hG1:=hG.up hW
 obtain ⟨_,o0,o1,o2,_,_⟩:=hG1
 have i0:=opn_index0 58 61 46
 have i1:=opn_index1 58 61 46
 have i2:=opn_index2 58 61 46
 go_enter Tryz.func153,Tryz.ntmps153
 go_wp2_with fail
 clear o0 o1 o2
 go_loopw [10] (fun i wr=>∃ j:Nat,j≤3∧i=.int .i64 j∧(0 < j→prf s.data.toList k 58=false)∧(1 < j→prf s.data.toList k 61=false)∧(2 < j→prf s.data.toList k 46=false)∧Below w.heap.size w wr∧Blk wr w.heap.size #[.int .u64 0,.int .u64 0,.int .u64 0,.int .u64 0,.bool false] 243) (fun i _=>4 - (intOf i).toNat)
 case atStart=>exact ⟨0,by omega,rfl,fun h=>by omega,fun h=>by omega,fun h=>by omega,hW,hB⟩
 case round=>
  clear hW hB
  obtain ⟨j,hj,rfl,p0,p1,p2,hW,hB⟩:=hrel
  have hG1:=hG.up hW
  obtain rfl | rfl | rfl | rfl:j=0∨j=1∨j=2∨j=3:=by omega
  ·have kc:=pconv2d wr 91 58
   have hGd:Gl (wr.alloc (.cells #[.int .u8 91,.int .u8 58] 5)).drew:=hG.up (hW.alloc hW.size _).drew
   cases hp:prf s.data.toList k 58
   ·go_wp2_with fail
    go_region_with (go_at_call 33;refine (pprf s k 58 _ (by decide)).mono ?_;rintro e w1 ⟨rfl,rfl⟩)
    go_wp2_with fail
    all_goals exact ⟨⟨1,by decide,rfl,(by first | exact fun _=>hp | exact fun _=>trivial | exact fun h=>absurd h (by decide)),(by first | exact fun _=>hp | exact fun _=>trivial | exact fun h=>absurd h (by decide)),(by first | exact fun _=>hp | exact fun _=>trivial | exact fun h=>absurd h (by decide)),(hW.alloc hW.size _).drew,(hB.alloc _).drew⟩,by simp [intOf]⟩
   ·go_wp2_with fail
    go_region_with (go_at_call 33;refine (pprf s k 58 _ (by decide)).mono ?_;rintro e w1 ⟨rfl,rfl⟩)
    go_wp2_with fail
    all_goals
     refine (opened_any s k 58 _ hs hp (by decide) hGd).mono ?_
     rintro e w1 ⟨he,b1⟩
     rw [Hv.out] at he
     subst he
     replace hW:=(hW.alloc hW.size _).drew.trans (b1.mono (hW.alloc hW.size _).size)
     replace hB:=(hB.alloc _).drew.below b1 (hB.alloc _).lt
     clear b1 hGd kc
     obtain ⟨d0,d1,d2,d3,d4⟩:=ziblk_cells hB;have f0:=hB.frozen 0;have f1:=hB.frozen 1;have f2:=hB.frozen 2;have f3:=hB.frozen 3;have f4:=hB.frozen 4;have hlB:=hB.lt
     unfold pgV
     go_wp2_with fail
     refine bodyPost_ret (v:=pgV cs may pl er) (by simp [results,Tryz.results153,go_sem,d0,d1,d2,d3,d4,pgV,hlB]) rfl ⟨rfl,?_⟩
     repeat (first | (with_reducible exact hW) | refine Below.setCell ?_ (by first | omega | (simp;omega) | simp) _ | refine Below.alloc ?_ (by first | omega | (simp;omega) | simp) _)
  ·have kc:=pconv2d wr 91 61
   have hGd:Gl (wr.alloc (.cells #[.int .u8 91,.int .u8 61] 5)).drew:=hG.up (hW.alloc hW.size _).drew
   have q0:=p0 (by decide)
   cases hp:prf s.data.toList k 61
   ·go_wp2_with fail
    go_region_with (go_at_call 33;refine (pprf s k 61 _ (by decide)).mono ?_;rintro e w1 ⟨rfl,rfl⟩)
    go_wp2_with fail
    all_goals exact ⟨⟨2,by decide,rfl,(by first | exact fun _=>hp | exact fun _=>trivial | exact fun h=>absurd h (by decide) | exact fun _=>q0),(by first | exact fun _=>hp | exact fun _=>trivial | exact fun h=>absurd h (by decide) | exact fun _=>q0),(by first | exact fun _=>hp | exact fun _=>trivial | exact fun h=>absurd h (by decide) | exact fun _=>q0),(hW.alloc hW.size _).drew,(hB.alloc _).drew⟩,by simp [intOf]⟩
   ·go_wp2_with fail
    go_region_with (go_at_call 33;refine (pprf s k 61 _ (by decide)).mono ?_;rintro e w1 ⟨rfl,rfl⟩)
    go_wp2_with fail
    all_goals
     refine (opened_any s k 61 _ hs hp (by decide) hGd).mono ?_
     rintro e w1 ⟨he,b1⟩
     rw [Hv.out] at he
     subst he
     replace hW:=(hW.alloc hW.size _).drew.trans (b1.mono (hW.alloc hW.size _).size)
     replace hB:=(hB.alloc _).drew.below b1 (hB.alloc _).lt
     clear b1 hGd kc
     obtain ⟨d0,d1,d2,d3,d4⟩:=ziblk_cells hB;have f0:=hB.frozen 0;have f1:=hB.frozen 1;have f2:=hB.frozen 2;have f3:=hB.frozen 3;have f4:=hB.frozen 4;have hlB:=hB.lt
     unfold pgV
     go_wp2_with fail
     refine bodyPost_ret (v:=pgV cs may pl er) (by simp [results,Tryz.results153,go_sem,d0,d1,d2,d3,d4,pgV,hlB]) rfl ⟨rfl,?_⟩
     repeat (first | (with_reducible exact hW) | refine Below.setCell ?_ (by first | omega | (simp;omega) | simp) _ | refine Below.alloc ?_ (by first | omega | (simp;omega) | simp) _)
  ·have kc:=pconv2d wr 91 46
   have hGd:Gl (wr.alloc (.cells #[.int .u8 91,.int .u8 46] 5)).drew:=hG.up (hW.alloc hW.size _).drew
   have q0:=p0 (by decide)
   have q1:=p1 (by decide)
   cases hp:prf s.data.toList k 46
   ·go_wp2_with fail
    go_region_with (go_at_call 33;refine (pprf s k 46 _ (by decide)).mono ?_;rintro e w1 ⟨rfl,rfl⟩)
    go_wp2_with fail
    all_goals exact ⟨⟨3,by decide,rfl,(by first | exact fun _=>hp | exact fun _=>trivial | exact fun h=>absurd h (by decide) | exact fun _=>q0 | exact fun _=>q1),(by first | exact fun _=>hp | exact fun _=>trivial | exact fun h=>absurd h (by decide) | exact fun _=>q0 | exact fun _=>q1),(by first | exact fun _=>hp | exact fun _=>trivial | exact fun h=>absurd h (by decide) | exact fun _=>q0 | exact fun _=>q1),(hW.alloc hW.size _).drew,(hB.alloc _).drew⟩,by simp [intOf]⟩
   ·go_wp2_with fail
    go_region_with (go_at_call 33;refine (pprf s k 46 _ (by decide)).mono ?_;rintro e w1 ⟨rfl,rfl⟩)
    go_wp2_with fail
    all_goals
     refine (opened_any s k 46 _ hs hp (by decide) hGd).mono ?_
     rintro e w1 ⟨he,b1⟩
     rw [Hv.out] at he
     subst he
     replace hW:=(hW.alloc hW.size _).drew.trans (b1.mono (hW.alloc hW.size _).size)
     replace hB:=(hB.alloc _).drew.below b1 (hB.alloc _).lt
     clear b1 hGd kc
     obtain ⟨d0,d1,d2,d3,d4⟩:=ziblk_cells hB;have f0:=hB.frozen 0;have f1:=hB.frozen 1;have f2:=hB.frozen 2;have f3:=hB.frozen 3;have f4:=hB.frozen 4;have hlB:=hB.lt
     unfold pgV
     go_wp2_with fail
     refine bodyPost_ret (v:=pgV cs may pl er) (by simp [results,Tryz.results153,go_sem,d0,d1,d2,d3,d4,pgV,hlB]) rfl ⟨rfl,?_⟩
     repeat (first | (with_reducible exact hW) | refine Below.setCell ?_ (by first | omega | (simp;omega) | simp) _ | refine Below.alloc ?_ (by first | omega | (simp;omega) | simp) _)
  ·have hop:opens s.data.toList k=false:=by rw [opens_prf,p0 (by decide),p1 (by decide),p2 (by decide)];rfl
   have Hi:=Lib.hid (show itm s.data.toList k=⟨oSpan (s[k].toNat:Int) (s[k].toNat:Int),true,k+1,0,0⟩ by
    unfold itm
    rw [if_neg (by rw [plist_size];omega),hop,if_neg (by decide),pbyt_at s k hk])
   have Wk:IntKind.i64.wrap ((k:Int)+1)=(k:Int)+1:=IntWalk.i64_in _ (by omega)
   clear hop p0 p1 p2
   go_wp2_with fail
   refine (of_one (s[k].toNat:Int) (pu8a _) (pu8b _) _ _ (by simp)).mono ?_
   rintro e w1 ⟨rfl,b1⟩
   rw [ofl_one]
   replace hW:=hW.trans (b1.mono hW.size);replace hB:=hB.below b1 hB.lt;clear b1
   obtain ⟨d0,d1,d2,d3,d4⟩:=ziblk_cells hB;have f0:=hB.frozen 0;have f1:=hB.frozen 1;have f2:=hB.frozen 2;have f3:=hB.frozen 3;have f4:=hB.frozen 4;have hlB:=hB.lt
   go_wp2_with fail
   refine bodyPost_ret (v:=pgV (oSpan (s[k].toNat:Int) (s[k].toNat:Int)) true (k+1) 0) (by simp [results,Tryz.results153,go_sem,d0,d1,d2,d3,d4,pgV,hlB]) rfl ⟨?_,?_⟩
   ·rw [←Hv.out,Hi.out];rfl
   ·repeat (first | (with_reducible exact hW) | refine Below.setCell ?_ (by first | omega | (simp;omega) | simp) _ | refine Below.alloc ?_ (by first | omega | (simp;omega) | simp) _)
end Go.Proofs.YtbgfankoojjejaaGreatDoor
namespace Go.Proofs.YtbgfankoojjejaaGreatDoor
open Go.RowKit
theorem itm_set (s:List UInt8) (k:Nat) (h:(itm s k).err≠0):(itm s k).set=oz:=by
 unfold itm at h ⊢
 split
 ·rfl
 ·rename_i hk
  rw [if_neg hk] at h
  split
  ·rename_i ho
   rw [if_pos ho] at h
   split
   ·rename_i e he
    rw [he] at h
    simp only at h
    unfold boxed at h ⊢
    split
    ·rename_i h1
     rw [if_pos h1] at h
     split
     ·rename_i h2
      rw [if_pos h2] at h
      simp at h
     ·rfl
    ·rename_i h1
     rw [if_neg h1] at h
     split
     ·rename_i h2
      rw [if_pos h2] at h
      simp at h
     ·rfl
   ·rfl
  ·rename_i ho
   rw [if_neg ho] at h
   simp at h
def ptV (t:OSet) (j er:Nat):Value:=.tuple #[.agg #[.int .u64 (ow t 0),.int .u64 (ow t 1),.int .u64 (ow t 2),.int .u64 (ow t 3)],.int .i64 (j:Int),.int .i64 (er:Int)]
theorem oset_eqz (s:OSet) (w:World):(Op.equalIn 10000 132 (.agg #[.int .u64 (ow s 0),.int .u64 (ow s 1),.int .u64 (ow s 2),.int .u64 (ow s 3)]) (.agg #[.int .u64 0,.int .u64 0,.int .u64 0,.int .u64 0])).run Tryz.prog w=.ok (decide (s=oz)) w:=by
 have h:=oset_eql s oz w
 rw [ow_zero,ow_zero,ow_zero,ow_zero] at h
 exact h
/-- What the first item alone decides: an error, or no range behind it. -/
theorem part_one (s:ByteArray) (k:Nat) (w:World) (hs:s.size≤1000000) (hk:k < s.size) (hG:Gl w) (A:OSet) (ma:Bool) (nx er:Nat)
  (hv:pgI (itm s.data.toList k)=pgV A ma nx er) (hd:er≠0∨(nx≤s.size∧dsh s.data.toList nx=false)) :
  Calls Tryz.prog 149 #[.string s,.int .i64 (k:Int)] w fun e w'=>e=.returned (ptV A nx er)∧Below w.heap.size w w':=by
 have hB:=Blk.new w #[.int .u64 0,.int .u64 0,.int .u64 0,.int .u64 0] 132 _ rfl;have hW:=(Below.refl w.heap.size w).alloc (Nat.le_refl _) (.cells #[.int .u64 0,.int .u64 0,.int .u64 0,.int .u64 0] 132);have hG1:=hG.up hW
 go_enter Tryz.func149,Tryz.ntmps149
 go_wp2_with fail
 refine (pitem_any s k _ hs hk hG1).mono ?_
 rintro e w1 ⟨he,b1⟩
 rw [hv] at he
 subst he
 clear hv hG1
 replace hW:=hW.trans (b1.mono hW.size)
 replace hB:=hB.below b1 hB.lt
 clear b1
 obtain ⟨d0,d1,d2,d3⟩:=zblk_cells hB;have f0:=hB.frozen 0;have f1:=hB.frozen 1;have f2:=hB.frozen 2;have f3:=hB.frozen 3;have hlB:=hB.lt
 unfold pgV
 by_cases her:er=0
 ·subst her
  obtain ⟨hnx,hdd⟩:=hd.resolve_left (by simp)
  clear hd
  go_wp2_with fail
  refine (dash_any s nx _ (by omega) hnx).mono ?_
  rintro e w2 ⟨he,b2⟩
  rw [hdd] at he
  subst he
  have hF:=(Blk.new w1 #[.int .u64 (ow A 0),.int .u64 (ow A 1),.int .u64 (ow A 2),.int .u64 (ow A 3),.bool ma] 243 _ rfl).below b2 (by simp)
  replace hW:=(hW.alloc hW.size (.cells #[.int .u64 (ow A 0),.int .u64 (ow A 1),.int .u64 (ow A 2),.int .u64 (ow A 3),.bool ma] 243)).trans (b2.mono (hW.alloc hW.size _).size)
  replace hB:=(hB.alloc (.cells #[.int .u64 (ow A 0),.int .u64 (ow A 1),.int .u64 (ow A 2),.int .u64 (ow A 3),.bool ma] 243)).below b2 (hB.alloc _).lt
  clear b2 d0 d1 d2 d3 f0 f1 f2 f3 hlB
  obtain ⟨d0,d1,d2,d3⟩:=zblk_cells hB;have f0:=hB.frozen 0;have f1:=hB.frozen 1;have f2:=hB.frozen 2;have f3:=hB.frozen 3;have hlB:=hB.lt
  obtain ⟨c0,c1,c2,c3,c4⟩:=iblk_cells hF;have hlF:=hF.lt
  go_wp2_with fail
  refine bodyPost_ret (v:=ptV A nx 0) (by simp [results,Tryz.results149,go_sem,d0,d1,d2,d3,ptV,hlB,ow_zero]) rfl ⟨rfl,?_⟩
  repeat (first | (with_reducible exact hW) | refine Below.setCell ?_ (by first | omega | (simp;omega) | simp) _ | refine Below.alloc ?_ (by first | omega | (simp;omega) | simp) _)
 ·have r1:((er:Int) != 0)=true:=by simp;omega
  go_wp2_with fail
  refine bodyPost_ret (v:=ptV A nx er) (by simp [results,Tryz.results149,go_sem,d0,d1,d2,d3,ptV,hlB,ow_zero]) rfl ⟨rfl,?_⟩
  repeat (first | (with_reducible exact hW) | refine Below.setCell ?_ (by first | omega | (simp;omega) | simp) _ | refine Below.alloc ?_ (by first | omega | (simp;omega) | simp) _)
/-- A range: both items. -/
theorem part_two (s:ByteArray) (k:Nat) (w:World) (hs:s.size≤1000000) (hk:k < s.size) (hG:Gl w) (A B:OSet) (ma mb:Bool) (nx n2 er:Nat)
  (hv:pgI (itm s.data.toList k)=pgV A ma nx 0) (hnx:nx+1 < s.size) (hdd:dsh s.data.toList nx=true) (hv2:pgI (itm s.data.toList (nx+1))=pgV B mb n2 er)
  (hA:ma=true→∃ b:Nat,b < 256∧A=oSpan b b) (hBb:mb=true→∃ b:Nat,b < 256∧B=oSpan b b) :
  Calls Tryz.prog 149 #[.string s,.int .i64 (k:Int)] w fun e w'=>e=.returned (if er≠0 then ptV oz n2 er else if spn A B ma mb=oz then ptV oz k 1 else ptV (spn A B ma mb) n2 0)∧Below w.heap.size w w':=by
 generalize hR:(if er≠0 then ptV oz n2 er else if spn A B ma mb=oz then ptV oz k 1 else ptV (spn A B ma mb) n2 0)=R
 have HR:=Lib.hid hR
 clear hR
 have hB:=Blk.new w #[.int .u64 0,.int .u64 0,.int .u64 0,.int .u64 0] 132 _ rfl;have hW:=(Below.refl w.heap.size w).alloc (Nat.le_refl _) (.cells #[.int .u64 0,.int .u64 0,.int .u64 0,.int .u64 0] 132);have hG1:=hG.up hW
 have Wn:IntKind.i64.wrap ((nx:Int)+1)=((nx+1:Nat):Int):=by rw [IntWalk.i64_in _ (by omega)];omega
 go_enter Tryz.func149,Tryz.ntmps149
 go_wp2_with fail
 refine (pitem_any s k _ hs hk hG1).mono ?_
 rintro e w1 ⟨he,b1⟩
 rw [hv] at he
 subst he
 clear hv hG1
 replace hW:=hW.trans (b1.mono hW.size)
 replace hB:=hB.below b1 hB.lt
 clear b1
 unfold pgV
 go_wp2_with fail
 refine (dash_any s nx _ (by omega) (by omega)).mono ?_
 rintro e w2 ⟨he,b2⟩
 rw [hdd] at he
 subst he
 have hF:=(Blk.new w1 #[.int .u64 (ow A 0),.int .u64 (ow A 1),.int .u64 (ow A 2),.int .u64 (ow A 3),.bool ma] 243 _ rfl).below b2 (by simp);replace hW:=(hW.alloc hW.size (.cells #[.int .u64 (ow A 0),.int .u64 (ow A 1),.int .u64 (ow A 2),.int .u64 (ow A 3),.bool ma] 243)).trans (b2.mono (hW.alloc hW.size _).size);replace hB:=(hB.alloc (.cells #[.int .u64 (ow A 0),.int .u64 (ow A 1),.int .u64 (ow A 2),.int .u64 (ow A 3),.bool ma] 243)).below b2 (hB.alloc _).lt;clear b2
 have hlB:=hB.lt
 have hlF:=hF.lt
 have hG2:=hG.up hW
 go_wp2_with fail
 refine (pitem_any s (nx+1) _ hs hnx hG2).mono ?_
 rintro e w3 ⟨he,b3⟩
 rw [hv2] at he
 subst he
 clear hv2 hG2 hlB hlF
 replace hW:=hW.trans (b3.mono hW.size)
 replace hB:=hB.below b3 hB.lt
 replace hF:=hF.below b3 hF.lt
 clear b3
 obtain ⟨d0,d1,d2,d3⟩:=zblk_cells hB;have f0:=hB.frozen 0;have f1:=hB.frozen 1;have f2:=hB.frozen 2;have f3:=hB.frozen 3;have hlB:=hB.lt
 obtain ⟨c0,c1,c2,c3,c4⟩:=iblk_cells hF;have hlF:=hF.lt
 unfold pgV
 by_cases her:er=0
 ·subst her
  have hG3:=hG.up (hW.alloc hW.size (.cells #[.int .u64 (ow B 0),.int .u64 (ow B 1),.int .u64 (ow B 2),.int .u64 (ow B 3),.bool mb] 243))
  go_wp2_with fail
  refine (pspan_any A B ma mb hA hBb _ hG3.tab (Nat.lt_of_lt_of_le (by decide) hG3.lt)).mono ?_
  clear hG3
  rintro e w4 ⟨rfl,b4⟩
  replace hW:=(hW.alloc hW.size (.cells #[.int .u64 (ow B 0),.int .u64 (ow B 1),.int .u64 (ow B 2),.int .u64 (ow B 3),.bool mb] 243)).trans (b4.mono (hW.alloc hW.size _).size)
  replace hB:=(hB.alloc (.cells #[.int .u64 (ow B 0),.int .u64 (ow B 1),.int .u64 (ow B 2),.int .u64 (ow B 3),.bool mb] 243)).below b4 (hB.alloc _).lt
  clear b4 d0 d1 d2 d3 f0 f1 f2 f3 hlB c0 c1 c2 c3 c4 hlF hF
  obtain ⟨d0,d1,d2,d3⟩:=zblk_cells hB;have f0:=hB.frozen 0;have f1:=hB.frozen 1;have f2:=hB.frozen 2;have f3:=hB.frozen 3;have hlB:=hB.lt
  generalize hX:spn A B ma mb=X
  have HX:=Lib.hid hX
  clear hX
  have hz:=oset_eqz X
  by_cases hq:X=oz
  ·have hdq:decide (X=oz)=true:=decide_eq_true hq
   have Hq:=Lib.hid hq
   clear hq
   go_wp2_with fail
   refine bodyPost_ret (v:=ptV oz k 1) (by simp [results,Tryz.results149,go_sem,d0,d1,d2,d3,ptV,hlB,ow_zero]) rfl ⟨by rw [←HR.out,if_neg (by simp),HX.out,if_pos Hq.out],?_⟩
   repeat (first | (with_reducible exact hW) | refine Below.setCell ?_ (by first | omega | (simp;omega) | simp) _ | refine Below.alloc ?_ (by first | omega | (simp;omega) | simp) _)
  ·have hdq:decide (X=oz)=false:=decide_eq_false hq
   have Hq:=Lib.hid hq
   clear hq
   go_wp2_with fail
   refine bodyPost_ret (v:=ptV X n2 0) (by simp [results,Tryz.results149,go_sem,d0,d1,d2,d3,ptV,hlB,ow_zero]) rfl ⟨by rw [←HR.out,if_neg (by simp),HX.out,if_neg Hq.out],?_⟩
   repeat (first | (with_reducible exact hW) | refine Below.setCell ?_ (by first | omega | (simp;omega) | simp) _ | refine Below.alloc ?_ (by first | omega | (simp;omega) | simp) _)
 ·have r1:((er:Int) != 0)=true:=by simp;omega
  go_wp2_with fail
  refine bodyPost_ret (v:=ptV oz n2 er) (by simp [results,Tryz.results149,go_sem,d0,d1,d2,d3,ptV,hlB,ow_zero]) rfl ⟨by rw [←HR.out,if_pos her],?_⟩
  repeat (first | (with_reducible exact hW) | refine Below.setCell ?_ (by first | omega | (simp;omega) | simp) _ | refine Below.alloc ?_ (by first | omega | (simp;omega) | simp) _)
def elV:Except (Nat × Nat) (OSet × Nat)→Value
 | .ok (t,j)=>ptV t j 0
 | .error (e,p)=>ptV oz p e
theorem dsh_iff (s:List UInt8) (k:Nat):dsh s k=true ↔ (k+1 < s.length∧byt s k=45∧byt s (k+1)≠93):=by
 unfold dsh
 simp only [Bool.and_eq_true,decide_eq_true_eq,Bool.not_eq_true',decide_eq_false_iff_not,and_assoc,ne_eq]
theorem part_any (s:ByteArray) (k:Nat) (w:World) (hs:s.size≤1000000) (hk:k < s.size) (hG:Gl w) :
  Calls Tryz.prog 149 #[.string s,.int .i64 (k:Int)] w fun e w'=>e=.returned (elV (elm s.data.toList k))∧Below w.heap.size w w':=by
 unfold elm
 simp only
 by_cases h1:(itm s.data.toList k).err=0
 ·obtain ⟨hn1,hn2⟩:=itm_next _ _ h1
  rw [plist_size] at hn2
  have hv:pgI (itm s.data.toList k)=pgV (itm s.data.toList k).set (itm s.data.toList k).may (itm s.data.toList k).next 0:=by
   unfold pgI
   rw [if_pos h1,h1]
  rw [if_neg (by rw [h1];simp)]
  cases hd:dsh s.data.toList (itm s.data.toList k).next
  ·rw [if_neg (by rw [←dsh_iff,hd];simp)]
   exact part_one s k w hs hk hG _ _ _ _ hv (Or.inr ⟨hn2,hd⟩)
  ·have hd2:=(dsh_iff _ _).1 hd
   rw [if_pos hd2,plist_size] at *
   generalize hb:itm s.data.toList ((itm s.data.toList k).next+1)=b
   have hm:=itm_may s.data.toList ((itm s.data.toList k).next+1)
   rw [hb] at hm
   refine (part_two s k w hs hk hG _ b.set _ b.may _ (if b.err=0 then b.next else b.place) b.err hv hd2.1 hd (by rw [hb];rfl) (itm_may s.data.toList k) hm).mono ?_
   rintro e w' ⟨rfl,bl⟩
   refine ⟨congrArg _ ?_,bl⟩
   by_cases h2:b.err=0
   ·simp only [h2,ne_eq,not_true_eq_false,if_false,if_true]
    unfold spn
    cases hA:(itm s.data.toList k).may
    ·simp only [Bool.false_and,Bool.false_eq_true,if_false,if_true]
     rfl
    ·cases hB:b.may
     ·simp only [Bool.and_false,Bool.false_and,Bool.false_eq_true,if_false,if_true]
      rfl
     ·obtain ⟨y,hy,hy2⟩:=hm hB
      have hl:lst b.set < 256:=by rw [hy2,(lst_one y hy).2];exact hy
      rw [Bool.and_self,Bool.true_and,if_pos rfl]
      by_cases hle:lst (itm s.data.toList k).set≤lst b.set
      ·rw [if_neg (span_some _ _ hl hle),if_pos (decide_eq_true hle)]
       rfl
      ·rw [if_pos (span_none _ _ (by omega)),if_neg (by rw [decide_eq_false hle];decide)]
       rfl
   ·rw [if_pos h2,if_pos h2,if_neg h2]
    rfl
 ·rw [if_pos h1]
  have hv:pgI (itm s.data.toList k)=pgV oz (itm s.data.toList k).may (itm s.data.toList k).place (itm s.data.toList k).err:=by
   unfold pgI
   rw [if_neg h1,itm_set _ _ h1]
  exact part_one s k w hs hk hG _ _ _ _ hv (Or.inl h1)
end Go.Proofs.YtbgfankoojjejaaGreatDoor
namespace Go.Proofs.YtbgfankoojjejaaGreatDoor
open Go.RowKit
theorem items_any (s:ByteArray) (n:Nat) (w:World) (hs:s.size≤1000000) (hn:n≤s.size) (hG:Gl w) :
  Calls Tryz.prog 141 #[.string s,.int .i64 (n:Int)] w fun e w'=>e=.returned (elV (rst s.data.toList true n oz))∧Below w.heap.size w w':=by
 generalize hR:elV (rst s.data.toList true n oz)=R
 have HR:=Lib.hid hR
 clear hR
 have hz:oc oz=#[.int .u64 0,.int .u64 0,.int .u64 0,.int .u64 0]:=by unfold oc;rw [ow_zero,ow_zero,ow_zero,ow_zero]
 have hW:=((Below.refl w.heap.size w).alloc (Nat.le_refl _) (.cells #[.int .u64 0,.int .u64 0,.int .u64 0,.int .u64 0] 132)).alloc (by simp) (.cells #[.int .u64 0,.int .u64 0,.int .u64 0,.int .u64 0] 132)
 have hB:=(Blk.new w #[.int .u64 0,.int .u64 0,.int .u64 0,.int .u64 0] 132 _ rfl).alloc (.cells #[.int .u64 0,.int .u64 0,.int .u64 0,.int .u64 0] 132)
 have hO:Blk ((w.alloc (.cells #[.int .u64 0,.int .u64 0,.int .u64 0,.int .u64 0] 132)).alloc (.cells #[.int .u64 0,.int .u64 0,.int .u64 0,.int .u64 0] 132)) (w.heap.size+1) (oc oz) 132:=by rw [hz];exact Blk.new _ _ _ _ (by simp)
 clear hz
 go_enter Tryz.func141,Tryz.ntmps141
 go_wp2_with fail
 go_loopw [8] (fun i wr=>∃ (k:Nat) (fl:Bool) (acc:OSet),k≤s.size∧n≤k∧i=.int .i64 k∧(fl=false ↔ n < k)∧rst s.data.toList fl k acc=rst s.data.toList true n oz∧Below w.heap.size w wr∧Blk wr w.heap.size #[.int .u64 0,.int .u64 0,.int .u64 0,.int .u64 0] 132∧Blk wr (w.heap.size+1) (oc acc) 132) (fun i _=>s.size+1 - (intOf i).toNat)
 case atStart=>exact ⟨n,true,oz,hn,Nat.le_refl _,rfl,by simp,rfl,hW,hB,hO⟩
 case round=>
  clear hW hB hO
  obtain ⟨k,fl,acc,hk,hnk,rfl,hfl,hq,hW,hB,hO⟩:=hrel
  have Hq:=Lib.hid hq
  have Hfl:=Lib.hid hfl
  clear hq hfl
  obtain ⟨d0,d1,d2,d3⟩:=zblk_cells hB;have f0:=hB.frozen 0;have f1:=hB.frozen 1;have f2:=hB.frozen 2;have f3:=hB.frozen 3;have hlB:=hB.lt
  obtain ⟨c0,c1,c2,c3⟩:=oblk_cells hO;have g0:=hO.frozen 0;have g1:=hO.frozen 1;have g2:=hO.frozen 2;have g3:=hO.frozen 3;have hlO:=hO.lt
  by_cases hlt:k < s.size
  ·have e0:decide ((k:Int) < (s.size:Int))=true:=by simp;omega
   have e1:decide (k < s.size)=true:=decide_eq_true hlt
   by_cases hend:n < k∧s[k].toNat=93
   ·obtain ⟨hnk2,h93⟩:=hend
    have Hx:=Lib.hid (show elV (rst s.data.toList fl k acc)=ptV acc (k+1) 0 by
     rw [Hfl.out.2 hnk2,rst,if_pos ⟨rfl,by rw [plist_size];exact hlt,by rw [pbyt_at s k hlt];exact h93⟩]
     rfl)
    have e2:((s[k].toNat:Int) == 93)=true:=by simp;omega
    have e3:decide ((n:Int) < (k:Int))=true:=by simp;omega
    have e4:decide (n < k)=true:=decide_eq_true hnk2
    have Wk:IntKind.i64.wrap ((k:Int)+1)=(k:Int)+1:=IntWalk.i64_in _ (by omega)
    clear h93
    go_wp2_with fail
    refine bodyPost_ret (v:=ptV acc (k+1) 0) (by simp [results,Tryz.results141,go_sem,d0,d1,d2,d3,ptV,hlB]) rfl ⟨by rw [←HR.out,←Hq.out,Hx.out],?_⟩
    repeat (first | (with_reducible exact hW) | refine Below.setCell ?_ (by first | omega | (simp;omega) | simp) _ | refine Below.alloc ?_ (by first | omega | (simp;omega) | simp) _)
   ·have hno:¬ (fl=false∧k < s.data.toList.length∧byt s.data.toList k=93):=by
     rintro ⟨h1,_,h3⟩
     rw [pbyt_at s k hlt] at h3
     exact hend ⟨Hfl.out.1 h1,h3⟩
    have Hno:=Lib.hid hno
    clear hno
    go_upto_region 4 with fail
    go_cut [25] from 17 to 26 (fun b wx=>b=.bool false∧wx=wr)
    case first=>
     by_cases h93:s[k].toNat=93
     ·have e2:((s[k].toNat:Int) == 93)=true:=by simp;omega
      have e3:decide ((n:Int) < (k:Int))=false:=by simp;omega
      have e4:decide (n < k)=false:=decide_eq_false (fun h=>hend ⟨h,h93⟩)
      clear h93 hend
      go_wp2_with fail
      go_meet
      exact ⟨rfl,rfl⟩
     ·have e2:((s[k].toNat:Int) == 93)=false:=by simp;omega
      clear h93 hend
      go_wp2_with fail
      go_meet
      exact ⟨rfl,rfl⟩
    case rest=>
     obtain ⟨rfl,rfl⟩:=hcut
     clear hend
     have hG1:=hG.up hW
     go_wp2_with fail
     refine (part_any s k _ hs hlt hG1).mono ?_
     rintro e w1 ⟨he,b1⟩
     replace hW:=hW.trans (b1.mono hW.size)
     replace hB:=hB.below b1 hB.lt
     replace hO:=hO.below b1 hO.lt
     clear b1 hG1 d0 d1 d2 d3 f0 f1 f2 f3 hlB c0 c1 c2 c3 g0 g1 g2 g3 hlO
     cases hel:elm s.data.toList k with
     | error x=>
      obtain ⟨er,pl⟩:=x
      rw [hel] at he
      have Hx:=Lib.hid (show elV (rst s.data.toList fl k acc)=ptV oz pl er by rw [rst_err _ _ _ _ _ Hno.out hel];rfl)
      have her:er≠0:=elm_err _ _ _ _ hel
      have e5:((er:Int) != 0)=true:=by simp;omega
      clear hel
      subst he
      unfold elV ptV
      obtain ⟨d0,d1,d2,d3⟩:=zblk_cells hB;have f0:=hB.frozen 0;have f1:=hB.frozen 1;have f2:=hB.frozen 2;have f3:=hB.frozen 3;have hlB:=hB.lt
      go_wp2_with fail
      refine bodyPost_ret (v:=ptV oz pl er) (by simp [results,Tryz.results141,go_sem,d0,d1,d2,d3,ptV,hlB,ow_zero]) rfl ⟨by rw [←HR.out,←Hq.out,Hx.out],?_⟩
      repeat (first | (with_reducible exact hW) | refine Below.setCell ?_ (by first | omega | (simp;omega) | simp) _ | refine Below.alloc ?_ (by first | omega | (simp;omega) | simp) _)
     | ok x=>
      obtain ⟨t,j⟩:=x
      rw [hel] at he
      have hnx:=elm_next _ _ _ _ hel
      rw [plist_size] at hnx
      have Hx:=Lib.hid (rst_ok _ _ _ acc _ _ Hno.out hel)
      clear hel
      subst he
      unfold elV ptV
      obtain ⟨d0,d1,d2,d3⟩:=zblk_cells hB;have f0:=hB.frozen 0;have f1:=hB.frozen 1;have f2:=hB.frozen 2;have f3:=hB.frozen 3;have hlB:=hB.lt
      obtain ⟨c0,c1,c2,c3⟩:=oblk_cells hO;have g0:=hO.frozen 0;have g1:=hO.frozen 1;have g2:=hO.frozen 2;have g3:=hO.frozen 3;have hlO:=hO.lt
      go_wp2_with fail
      refine (or_any acc t _).mono ?_
      rintro e w2 ⟨rfl,b2⟩
      replace hW:=(hW.alloc hW.size (.cells (oc t) 132)).trans (b2.mono (hW.alloc hW.size _).size)
      replace hB:=(hB.alloc (.cells (oc t) 132)).below b2 (hB.alloc _).lt
      replace hO:=(hO.alloc (.cells (oc t) 132)).below b2 (hO.alloc _).lt
      clear b2 d0 d1 d2 d3 f0 f1 f2 f3 hlB c0 c1 c2 c3 g0 g1 g2 g3 hlO
      obtain ⟨c0,c1,c2,c3⟩:=oblk_cells hO;have g0:=hO.frozen 0;have g1:=hO.frozen 1;have g2:=hO.frozen 2;have g3:=hO.frozen 3;have hlO:=hO.lt
      go_wp2_with fail
      go_roundw
      case rel=>
       refine ⟨j,false,acc ||| t,hnx.2,by omega,rfl,by simp;omega,by rw [←Hx.out,Hq.out],?_,?_,oblk_store hO _⟩
       ·repeat (first | (with_reducible exact hW) | refine Below.setCell ?_ (by first | omega | (simp;omega) | simp) _ | refine Below.alloc ?_ (by first | omega | (simp;omega) | simp) _)
       ·repeat (first | exact hB | refine Blk.set_other ?_ _ (by simp) _)
      case measure=>simp [intOf];omega
  ·have e0:decide ((k:Int) < (s.size:Int))=false:=by simp;omega
   have e1:decide (k < s.size)=false:=decide_eq_false hlt
   have Hx:=Lib.hid (show elV (rst s.data.toList fl k acc)=ptV oz s.size 5 by
    have he:elm s.data.toList k=.error (5,s.size):=by
     have hi:itm s.data.toList k=⟨oz,false,0,5,s.size⟩:=by unfold itm;rw [if_pos (by rw [plist_size];omega),plist_size]
     unfold elm
     rw [hi]
     rfl
    rw [rst_err _ _ _ _ _ (by rw [plist_size];omega) he]
    rfl)
   go_wp2_with fail
   refine bodyPost_ret (v:=ptV oz s.size 5) (by simp [results,Tryz.results141,go_sem,d0,d1,d2,d3,ptV,hlB,ow_zero]) rfl ⟨by rw [←HR.out,←Hq.out,Hx.out],?_⟩
   repeat (first | (with_reducible exact hW) | refine Below.setCell ?_ (by first | omega | (simp;omega) | simp) _ | refine Below.alloc ?_ (by first | omega | (simp;omega) | simp) _)
theorem pcar (s:ByteArray) (n:Nat) (w:World) :
  Calls Tryz.prog 33 #[.string (s.extract n s.size),.string ⟨#[94]⟩] w fun e w'=>e=.returned (.bool (car s.data.toList n))∧w=w':=by
 have h:=prefix_any (s.extract n s.size) ⟨#[94]⟩ w
 rw [ext_list,show (⟨#[94]⟩:ByteArray).data.toList=[94] from rfl,pre_one] at h
 exact h
theorem parse_out (s:ByteArray) (k:Int) (w:World) (h:k < 0∨(s.size:Int) < k) :
  Calls Tryz.prog 130 #[.string s,.int .i64 k] w fun e w'=>e=.returned (prV (prs s.data.toList k))∧Below w.heap.size w w':=by
 have Hp:=Lib.hid (prs_out s.data.toList k (by rw [plist_size];exact h))
 have hW:=(Below.refl w.heap.size w).alloc (Nat.le_refl _) (.cells #[.int .u64 0,.int .u64 0,.int .u64 0,.int .u64 0] 132)
 by_cases h0:k < 0
 ·have e0:decide (k < 0)=true:=decide_eq_true h0
  go_enter Tryz.func130,Tryz.ntmps130
  go_wp2_with fail
  refine bodyPost_ret (v:=prV (oz,0,1)) (by simp [results,Tryz.results130,go_sem,prV,ow_zero]) rfl ⟨by rw [Hp.out],?_⟩
  repeat (first | (with_reducible exact hW) | refine Below.setCell ?_ (by first | omega | (simp;omega) | simp) _ | refine Below.alloc ?_ (by first | omega | (simp;omega) | simp) _)
 ·have e0:decide (k < 0)=false:=decide_eq_false h0
  have e1:decide ((s.size:Int) < k)=true:=decide_eq_true (by omega)
  go_enter Tryz.func130,Tryz.ntmps130
  go_wp2_with fail
  refine bodyPost_ret (v:=prV (oz,0,1)) (by simp [results,Tryz.results130,go_sem,prV,ow_zero]) rfl ⟨by rw [Hp.out],?_⟩
  repeat (first | (with_reducible exact hW) | refine Below.setCell ?_ (by first | omega | (simp;omega) | simp) _ | refine Below.alloc ?_ (by first | omega | (simp;omega) | simp) _)
theorem parse_plain (s:ByteArray) (n:Nat) (w:World) (hs:s.size≤1000000) (hn:n≤s.size) (hG:Gl w) (hc:car s.data.toList n=false) :
  Calls Tryz.prog 130 #[.string s,.int .i64 (n:Int)] w fun e w'=>e=.returned (prV (prs s.data.toList (n:Int)))∧Below w.heap.size w w':=by
 generalize hR:prV (prs s.data.toList (n:Int))=R
 have HR:=Lib.hid hR
 clear hR
 have e1:decide ((s.size:Int) < (n:Int))=false:=decide_eq_false (by omega)
 have e2:decide (s.size < n)=false:=decide_eq_false (by omega)
 have Wn:IntKind.i64.wrap ((n:Int)+1)=((n+1:Nat):Int):=by rw [IntWalk.i64_in _ (by omega)];omega
 have hW:=(Below.refl w.heap.size w).alloc (Nat.le_refl _) (.cells #[.int .u64 0,.int .u64 0,.int .u64 0,.int .u64 0] 132)
 have hB:=Blk.new w #[.int .u64 0,.int .u64 0,.int .u64 0,.int .u64 0] 132 _ rfl
 have hG1:=hG.up hW
 have Hok:=Lib.hid (prs_ok s.data.toList n (by rw [plist_size];exact hn))
 have Her:=Lib.hid (prs_err s.data.toList n (by rw [plist_size];exact hn))
 rw [hc] at Hok Her
 go_enter Tryz.func130,Tryz.ntmps130
 go_wp2_with fail
 refine (pcar s n _).mono ?_
 rintro e w1 ⟨he,rfl⟩
 rw [hc] at he
 subst he
 go_wp2_with fail
 refine (items_any s n _ hs hn hG1).mono ?_
 rintro e w2 ⟨he,b2⟩
 replace hW:=hW.trans (b2.mono hW.size)
 replace hB:=hB.below b2 hB.lt
 clear b2 hG1
 cases hr:rst s.data.toList true n oz with
 | error x=>
  obtain ⟨er,pl⟩:=x
  rw [hr] at he
  have Hx:=Lib.hid (Her.out er pl (by simpa using hr))
  have her:er≠0:=rst_end _ _ _ _ _ _ hr
  have e5:((er:Int) == 0)=false:=by simp;omega
  clear hr
  subst he
  unfold elV ptV
  obtain ⟨d0,d1,d2,d3⟩:=zblk_cells hB;have f0:=hB.frozen 0;have f1:=hB.frozen 1;have f2:=hB.frozen 2;have f3:=hB.frozen 3;have hlB:=hB.lt
  go_wp2_with fail
  refine bodyPost_ret (v:=prV (oz,(pl:Int),er)) (by simp [results,Tryz.results130,go_sem,d0,d1,d2,d3,prV,hlB,ow_zero]) rfl ⟨by rw [←HR.out,Hx.out],?_⟩
  repeat (first | (with_reducible exact hW) | refine Below.setCell ?_ (by first | omega | (simp;omega) | simp) _ | refine Below.alloc ?_ (by first | omega | (simp;omega) | simp) _)
 | ok x=>
  obtain ⟨t,j⟩:=x
  rw [hr] at he
  have Hx:=Lib.hid (Hok.out t j (by simpa using hr))
  clear hr
  subst he
  unfold elV ptV
  obtain ⟨d0,d1,d2,d3⟩:=zblk_cells hB;have f0:=hB.frozen 0;have f1:=hB.frozen 1;have f2:=hB.frozen 2;have f3:=hB.frozen 3;have hlB:=hB.lt
  go_wp2_with fail
  refine bodyPost_ret (v:=prV (t,(j:Int),0)) (by simp [results,Tryz.results130,go_sem,d0,d1,d2,d3,prV,hlB]) rfl ⟨by rw [←HR.out,Hx.out];rfl,?_⟩
  repeat (first | (with_reducible exact hW) | refine Below.setCell ?_ (by first | omega | (simp;omega) | simp) _ | refine Below.alloc ?_ (by first | omega | (simp;omega) | simp) _)
theorem parse_not (s:ByteArray) (n:Nat) (w:World) (hs:s.size≤1000000) (hn:n≤s.size) (hG:Gl w) (hc:car s.data.toList n=true) (hn1:n+1≤s.size) :
  Calls Tryz.prog 130 #[.string s,.int .i64 (n:Int)] w fun e w'=>e=.returned (prV (prs s.data.toList (n:Int)))∧Below w.heap.size w w':=by
 generalize hR:prV (prs s.data.toList (n:Int))=R
 have HR:=Lib.hid hR
 clear hR
 have e1:decide ((s.size:Int) < (n:Int))=false:=decide_eq_false (by omega)
 have e2:decide (s.size < n)=false:=decide_eq_false (by omega)
 have Wn:IntKind.i64.wrap ((n:Int)+1)=((n+1:Nat):Int):=by rw [IntWalk.i64_in _ (by omega)];omega
 have hW:=(Below.refl w.heap.size w).alloc (Nat.le_refl _) (.cells #[.int .u64 0,.int .u64 0,.int .u64 0,.int .u64 0] 132)
 have hB:=Blk.new w #[.int .u64 0,.int .u64 0,.int .u64 0,.int .u64 0] 132 _ rfl
 have hG1:=hG.up hW
 have Hok:=Lib.hid (prs_ok s.data.toList n (by rw [plist_size];exact hn))
 have Her:=Lib.hid (prs_err s.data.toList n (by rw [plist_size];exact hn))
 rw [hc] at Hok Her
 go_enter Tryz.func130,Tryz.ntmps130
 go_wp2_with fail
 refine (pcar s n _).mono ?_
 rintro e w1 ⟨he,rfl⟩
 rw [hc] at he
 subst he
 go_wp2_with fail
 refine (items_any s (n+1) _ hs hn1 hG1).mono ?_
 rintro e w2 ⟨he,b2⟩
 replace hW:=hW.trans (b2.mono hW.size)
 replace hB:=hB.below b2 hB.lt
 clear b2 hG1
 cases hr:rst s.data.toList true (n+1) oz with
 | error x=>
  obtain ⟨er,pl⟩:=x
  rw [hr] at he
  have Hx:=Lib.hid (Her.out er pl (by simpa using hr))
  have her:er≠0:=rst_end _ _ _ _ _ _ hr
  have e5:((er:Int) == 0)=false:=by simp;omega
  clear hr
  subst he
  unfold elV ptV
  obtain ⟨d0,d1,d2,d3⟩:=zblk_cells hB;have f0:=hB.frozen 0;have f1:=hB.frozen 1;have f2:=hB.frozen 2;have f3:=hB.frozen 3;have hlB:=hB.lt
  go_wp2_with fail
  refine bodyPost_ret (v:=prV (oz,(pl:Int),er)) (by simp [results,Tryz.results130,go_sem,d0,d1,d2,d3,prV,hlB,ow_zero]) rfl ⟨by rw [←HR.out,Hx.out],?_⟩
  repeat (first | (with_reducible exact hW) | refine Below.setCell ?_ (by first | omega | (simp;omega) | simp) _ | refine Below.alloc ?_ (by first | omega | (simp;omega) | simp) _)
 | ok x=>
  obtain ⟨t,j⟩:=x
  rw [hr] at he
  have Hx:=Lib.hid (Hok.out t j (by simpa using hr))
  clear hr
  subst he
  unfold elV ptV
  obtain ⟨d0,d1,d2,d3⟩:=zblk_cells hB;have f0:=hB.frozen 0;have f1:=hB.frozen 1;have f2:=hB.frozen 2;have f3:=hB.frozen 3;have hlB:=hB.lt
  go_wp2_with fail
  obtain ⟨nt,hnt⟩:∃ nt,~~~t=nt:=⟨_,rfl⟩
  have hna:=not_any t
  rw [hnt] at Hx hna
  clear hnt
  refine (hna _).mono ?_
  rintro e w3 ⟨rfl,b3⟩
  replace hW:=(hW.alloc hW.size (.cells (oc t) 132)).trans (b3.mono (hW.alloc hW.size _).size)
  replace hB:=(hB.alloc (.cells (oc t) 132)).below b3 (hB.alloc _).lt
  have hne:=hlB
  have hne2:¬ w.heap.size=w2.heap.size:=by omega
  have hne3:¬ w2.heap.size=w.heap.size:=by omega
  have hS:=(Blk.new w2 (oc t) 132 _ rfl).below b3 (by simp)
  have hlS:=hS.lt
  have g0:=hS.frozen 0
  have g1:=hS.frozen 1
  have g2:=hS.frozen 2
  have g3:=hS.frozen 3
  obtain ⟨c0,c1,c2,c3⟩:=oblk_cells hS
  clear b3 d0 d1 d2 d3 f0 f1 f2 f3 hlB
  obtain ⟨d0,d1,d2,d3⟩:=zblk_cells hB;have f0:=hB.frozen 0;have f1:=hB.frozen 1;have f2:=hB.frozen 2;have f3:=hB.frozen 3;have hlB:=hB.lt
  go_wp2_with fail
  have hz:oc oz=#[.int .u64 0,.int .u64 0,.int .u64 0,.int .u64 0]:=by unfold oc;rw [ow_zero,ow_zero,ow_zero,ow_zero]
  have hB0:Blk w3 w.heap.size (oc oz) 132:=by rw [hz];exact hB
  have hB1:Blk ((((w3.setCell ⟨w2.heap.size,0,none⟩ (.int .u64 (ow nt 0))).setCell ⟨w2.heap.size,1,none⟩ (.int .u64 (ow nt 1))).setCell ⟨w2.heap.size,2,none⟩ (.int .u64 (ow nt 2))).setCell ⟨w2.heap.size,3,none⟩ (.int .u64 (ow nt 3))) w.heap.size (oc oz) 132:=(((hB0.set_other _ hne3 _).set_other _ hne3 _).set_other _ hne3 _).set_other _ hne3 _
  have hB2:Blk ((((((((w3.setCell ⟨w2.heap.size,0,none⟩ (.int .u64 (ow nt 0))).setCell ⟨w2.heap.size,1,none⟩ (.int .u64 (ow nt 1))).setCell ⟨w2.heap.size,2,none⟩ (.int .u64 (ow nt 2))).setCell ⟨w2.heap.size,3,none⟩ (.int .u64 (ow nt 3))).setCell ⟨w.heap.size,0,none⟩ (.int .u64 (ow nt 0))).setCell ⟨w.heap.size,1,none⟩ (.int .u64 (ow nt 1))).setCell ⟨w.heap.size,2,none⟩ (.int .u64 (ow nt 2))).setCell ⟨w.heap.size,3,none⟩ (.int .u64 (ow nt 3))) w.heap.size (oc nt) 132:=oblk_store hB1 nt
  have hWf:Below w.heap.size w ((((((((w3.setCell ⟨w2.heap.size,0,none⟩ (.int .u64 (ow nt 0))).setCell ⟨w2.heap.size,1,none⟩ (.int .u64 (ow nt 1))).setCell ⟨w2.heap.size,2,none⟩ (.int .u64 (ow nt 2))).setCell ⟨w2.heap.size,3,none⟩ (.int .u64 (ow nt 3))).setCell ⟨w.heap.size,0,none⟩ (.int .u64 (ow nt 0))).setCell ⟨w.heap.size,1,none⟩ (.int .u64 (ow nt 1))).setCell ⟨w.heap.size,2,none⟩ (.int .u64 (ow nt 2))).setCell ⟨w.heap.size,3,none⟩ (.int .u64 (ow nt 3))):=by
   repeat (first | (with_reducible exact hW) | refine Below.setCell ?_ (by first | omega | (simp;omega) | simp) _ | refine Below.alloc ?_ (by first | omega | (simp;omega) | simp) _)
  generalize ((((((((w3.setCell ⟨w2.heap.size,0,none⟩ (.int .u64 (ow nt 0))).setCell ⟨w2.heap.size,1,none⟩ (.int .u64 (ow nt 1))).setCell ⟨w2.heap.size,2,none⟩ (.int .u64 (ow nt 2))).setCell ⟨w2.heap.size,3,none⟩ (.int .u64 (ow nt 3))).setCell ⟨w.heap.size,0,none⟩ (.int .u64 (ow nt 0))).setCell ⟨w.heap.size,1,none⟩ (.int .u64 (ow nt 1))).setCell ⟨w.heap.size,2,none⟩ (.int .u64 (ow nt 2))).setCell ⟨w.heap.size,3,none⟩ (.int .u64 (ow nt 3)))=wf at hB2 hWf ⊢
  clear hB1 hB0 hB hz hS c0 c1 c2 c3 g0 g1 g2 g3 d0 d1 d2 d3 f0 f1 f2 f3
  obtain ⟨r0,r1,r2,r3⟩:=oblk_cells hB2
  refine bodyPost_ret (v:=prV (nt,(j:Int),0)) (by simp [results,Tryz.results130,go_sem,r0,r1,r2,r3,prV]) rfl ⟨by rw [←HR.out,Hx.out];rfl,hWf⟩
theorem parse_in (s:ByteArray) (n:Nat) (w:World) (hs:s.size≤1000000) (hn:n≤s.size) (hG:Gl w) :
  Calls Tryz.prog 130 #[.string s,.int .i64 (n:Int)] w fun e w'=>e=.returned (prV (prs s.data.toList (n:Int)))∧Below w.heap.size w w':=by
 cases hc:car s.data.toList n
 ·exact parse_plain s n w hs hn hG hc
 ·refine parse_not s n w hs hn hG hc ?_
  unfold car at hc
  rw [plist_size] at hc
  simp only [Bool.and_eq_true,decide_eq_true_eq] at hc
  omega
theorem parse_any (s:ByteArray) (k:Int) (w:World) (hs:s.size≤1000000) (hG:Gl w) :
  Calls Tryz.prog 130 #[.string s,.int .i64 k] w fun e w'=>e=.returned (prV (prs s.data.toList k))∧Below w.heap.size w w':=by
 by_cases h:k < 0∨(s.size:Int) < k
 ·exact parse_out s k w h
 ·obtain ⟨n,rfl⟩:∃ n:Nat,k=(n:Int):=⟨k.toNat,by omega⟩
  exact parse_in s n w hs (by omega) hG
end Go.Proofs.YtbgfankoojjejaaGreatDoor
