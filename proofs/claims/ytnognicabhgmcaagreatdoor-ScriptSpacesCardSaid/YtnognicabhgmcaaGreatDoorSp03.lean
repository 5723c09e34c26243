/- Texts. -/
import Derived.Test.YtnognicabhgmcaaGreatDoorSp02
import Derived.Deep.Slices
import Derived.Defers
import Derived.Recover
import Derived.Tactics2
set_option linter.unusedSimpArgs false
set_option linter.unusedVariables false
set_option maxHeartbeats 8000000
set_option maxRecDepth 1000000
namespace Go.Proofs.YtnognicabhgmcaaGreatDoor
open Go.Lib renaming hid→Afj
open List renaming setIfInBounds_toArray→Afk,set_cons_zero→Afo,set_cons_succ→Afp,length_append→Afs,getElem_append_left→Af0,mem_append→Af1,length_drop→Af3,getElem?_eq_getElem→Af4,getD_eq_getElem?_getD→Af7
open Nat renaming le_refl→Afq,le_trans→Afr,lt_of_lt_of_le→Aft,le_of_lt→Afu
open Go.RowKit.Below renaming refl→Afv,heap_setCell→Afw,setCell→Aga,drew→Agb,alloc→Agc
open Go.IntWalk renaming i64_in→Afx
open Go.World renaming cell?_of_block→Afy
open Bool renaming false_eq_true→Af2,and_eq_true→Af9
open _root_.Array renaming getElem?_eq_some_iff→Af6
open Go.Proofs.Tryz
section
open Go.RowKit
theorem Qy (s:ByteArray) (i j:Nat):(s.extract i j).toList=sub s.data.toList i j:=by
 rw [ByteArray.toList_eq,ByteArray.data_extract,Array.toList_extract,List.extract_eq_take_drop];rfl
theorem ZK (s:ByteArray) (i j:Nat) (h:i < j):byt (s.extract i j).data.toList 0=byt s.data.toList i:=by
 rw [ByteArray.data_extract,Array.toList_extract,List.extract_eq_take_drop];unfold byt;rw [Af7,Af7,List.getElem?_take_of_lt (by omega),List.getElem?_drop];rfl
def T4 (s:List UInt8) (k o:Nat):Bool:=decide (k+1 < s.length) && decide (byt s k=91) && decide (byt s (k+1)=o)
theorem L7 (s:List UInt8) (k:Nat):opens s k=(T4 s k 58 || T4 s k 61 || T4 s k 46):=by
 unfold opens T4;cases decide (k+1 < s.length) <;> cases decide (byt s k=91) <;> cases decide (byt s (k+1)=58) <;> cases decide (byt s (k+1)=61) <;> rfl
theorem T7 (s:ByteArray) (k o:Nat) (w:World) (ho:o < 256) :
  Calls prog 21 #[.string (s.extract k s.size),.string (strOfNums [91,(o:Int)])] w fun e w'=>e=.returned (.bool (T4 s.data.toList k o))∧w=w':=by
 have h:=Cw (s.extract k s.size) (strOfNums [((91:Nat):Int),(o:Int)]) w;rw [BS,N8,show UInt8.ofNat 91=91 from rfl,YM,show (UInt8.ofNat o).toNat=o by simp;omega] at h;exact h
def WF (a:Itm):Value:=GR a.set a.may (if a.err=0 then a.next else a.place) a.err
theorem GI (s:ByteArray) (k o:Nat) (w:World) (hs:s.size≤1000000) (hp:T4 s.data.toList k o=true) (ho:o=58∨o=61∨o=46) (hG:Gl w) :
  Calls prog 181 #[.string s,.int .i64 (k:Int),.int .u8 (o:Int)] w fun e w'=>e=.returned (WF (Fj s.data.toList k))∧Below w.heap.size w w':=by
 have hop:opens s.data.toList k=true:=by
  rw [L7];rcases ho with rfl | rfl | rfl <;> rw [hp] <;> simp
 unfold T4 at hp;simp only [Af9,decide_eq_true_eq,Av] at hp;obtain ⟨⟨hk,h91⟩,hb⟩:=hp;have hi:Fj s.data.toList k=(match N5 s.data.toList o (Gx s.data.toList k) with
   | some e=>Lp s.data.toList k e
   | none=>⟨oz,false,0,5,s.data.toList.length⟩):=by
  unfold Fj;rw [if_neg (by rw [Av];omega),if_pos hop,hb];rfl
 have hf:Gx s.data.toList k=if o=58 then k+2 else k+3:=by unfold Gx;rw [hb]
 have hcl:∀ w,Gl w→Calls prog 183 #[.string s,.int .i64 ((k:Int)+2),.int .u8 (o:Int)] w fun e w'=>e=.returned (.int .i64 (Tj s.data.toList o (Gx s.data.toList k)))∧Below w.heap.size w w':=by
  intro w hG;obtain ⟨m,hm⟩:=hG.ml;rw [hf];by_cases h58:o=58
  ·rw [if_pos h58];exact Vx s (k+2) o w m hs (by omega) (by omega) h58 hm (Aft (by decide) hG.lt)
  ·rw [if_neg h58];exact PC s (k+2) o w m hs (by omega) (by omega) h58 hm (Aft (by decide) hG.lt)
 cases hx:N5 s.data.toList o (Gx s.data.toList k) with
 | none=>
  rw [hx] at hi;simp only at hi;rw [hi];have hc0:Tj s.data.toList o (Gx s.data.toList k)=-1:=by unfold Tj;rw [hx]
  refine (N9 s k o w hs (by omega) hG (fun w hG=>by have:=hcl w hG;rw [hc0] at this;exact this)).mono ?_;rintro e w' ⟨rfl,b⟩;refine ⟨?_,b⟩;unfold WF;rw [Av];rfl
 | some x=>
  rw [hx] at hi;simp only at hi;rw [hi];have hge:=JD _ _ _ _ hx;rw [Av] at hge;have hc0:Tj s.data.toList o (Gx s.data.toList k)=(x:Int):=by unfold Tj;rw [hx]
  have hcl2:∀ w,Gl w→Calls prog 183 #[.string s,.int .i64 ((k:Int)+2),.int .u8 (o:Int)] w fun e w'=>e=.returned (.int .i64 (x:Int))∧Below w.heap.size w w':=fun w hG=>by
   have:=hcl w hG;rw [hc0] at this;exact this
  unfold Lp;rw [hb];by_cases h58:o=58
  ·rw [if_pos h58] at hf ⊢;refine (FJ s k o x (A8 (sub s.data.toList (k+2) x)) false (CN (sub s.data.toList (k+2) x)) w hs (by omega) hG (by omega) (by omega) hcl2 (fun w=>?_)).mono ?_
   ·have:=YS (s.extract (k+2) x) w;rw [Qy] at this;rw [h58];exact this
   ·rintro e w' ⟨rfl,b⟩;refine ⟨?_,b⟩;cases CN (sub s.data.toList (k+2) x) <;> rfl
  ·rw [if_neg h58] at hf ⊢;by_cases hx3:x=k+3
   ·rw [if_pos hx3];refine (FJ s k o x (Ac (byt s.data.toList (k+2)) (byt s.data.toList (k+2))) (decide (o=46)) true w hs (by omega) hG (by omega) (by omega) hcl2 (fun w=>?_)).mono ?_
    ·have:=Ti (s.extract (k+2) x) (o:Int) w (by omega) (by simp;omega);rw [ZK s (k+2) x (by omega)] at this;rw [show decide (o=46)=((o:Int) == 46) by rcases ho with rfl | rfl | rfl <;> rfl];exact this
    ·rintro e w' ⟨rfl,b⟩;exact ⟨rfl,b⟩
   ·rw [if_neg hx3];refine (FJ s k o x oz false false w hs (by omega) hG (by omega) (by omega) hcl2 (fun w=>PB (s.extract (k+2) x) (o:Int) w (by omega) (by simp;omega))).mono ?_;rintro e w' ⟨rfl,b⟩;exact ⟨rfl,b⟩
theorem Qz (a b c:Int) (w:World):(Instr.index 265 (.agg #[.int .u8 a,.int .u8 b,.int .u8 c]) (.int .i64 0)).run prog w=.ok (.int .u8 a) w:=by kernel_rfl
theorem Q0 (a b c:Int) (w:World):(Instr.index 265 (.agg #[.int .u8 a,.int .u8 b,.int .u8 c]) (.int .i64 1)).run prog w=.ok (.int .u8 b) w:=by kernel_rfl
theorem Q4 (a b c:Int) (w:World):(Instr.index 265 (.agg #[.int .u8 a,.int .u8 b,.int .u8 c]) (.int .i64 2)).run prog w=.ok (.int .u8 c) w:=by kernel_rfl
theorem I8 (s:ByteArray) (k:Nat) (w:World) (hs:s.size≤1000000) (hk:k < s.size) (hG:Gl w) :
  Calls prog 169 #[.string s,.int .i64 (k:Int)] w fun e w'=>e=.returned (WF (Fj s.data.toList k))∧Below w.heap.size w w':=by
 obtain ⟨cs,may,pl,er,hv⟩:∃ cs m pl er,WF (Fj s.data.toList k)=GR cs m pl er:=⟨_,_,_,_,rfl⟩;rw [hv];have Hv:=Afj hv;clear hv;have hB:=Blk.new w #[.int .u64 0,.int .u64 0,.int .u64 0,.int .u64 0,.bool false] 260 _ rfl;have hW:=(Afv w.heap.size w).alloc (Afq _) (.cells #[.int .u64 0,.int .u64 0,.int .u64 0,.int .u64 0,.bool false] 260);have hG1:=hG.up hW;obtain ⟨_,o0,o1,o2,_,_⟩:=hG1;have i0:=Qz 58 61 46;have i1:=Q0 58 61 46;have i2:=Q4 58 61 46;go_enter func169,ntmps169;go_wp2_with fail
 clear o0 o1 o2;go_loopw [10] (fun i wr=>∃ j:Nat,j≤3∧i=.int .i64 j∧(0 < j→T4 s.data.toList k 58=false)∧(1 < j→T4 s.data.toList k 61=false)∧(2 < j→T4 s.data.toList k 46=false)∧Below w.heap.size w wr∧Blk wr w.heap.size #[.int .u64 0,.int .u64 0,.int .u64 0,.int .u64 0,.bool false] 260) (fun i _=>4 - (intOf i).toNat)
 case atStart=>exact ⟨0,by omega,rfl,fun h=>by omega,fun h=>by omega,fun h=>by omega,hW,hB⟩
 case round=>
  clear hW hB;obtain ⟨j,hj,rfl,p0,p1,p2,hW,hB⟩:=hrel;have hG1:=hG.up hW;obtain rfl | rfl | rfl | rfl:j=0∨j=1∨j=2∨j=3:=by omega
  ·have kc:=Gj wr 91 58;have hGd:Gl (wr.alloc (.cells #[.int .u8 91,.int .u8 58] 5)).drew:=hG.up (hW.alloc hW.size _).drew;cases hp:T4 s.data.toList k 58
   ·go_wp2_with fail
    go_region_with (go_at_call 21;refine (T7 s k 58 _ (by decide)).mono ?_;rintro e w1 ⟨rfl,rfl⟩)
    go_wp2_with fail
    all_goals exact ⟨⟨1,by decide,rfl,(by first | exact fun _=>hp | exact fun _=>trivial | exact fun h=>absurd h (by decide)),(by first | exact fun _=>hp | exact fun _=>trivial | exact fun h=>absurd h (by decide)),(by first | exact fun _=>hp | exact fun _=>trivial | exact fun h=>absurd h (by decide)),(hW.alloc hW.size _).drew,(hB.alloc _).drew⟩,by simp [intOf]⟩
   ·go_wp2_with fail
    go_region_with (go_at_call 21;refine (T7 s k 58 _ (by decide)).mono ?_;rintro e w1 ⟨rfl,rfl⟩)
    go_wp2_with fail
    all_goals
     refine (GI s k 58 _ hs hp (by decide) hGd).mono ?_;rintro e w1 ⟨he,b1⟩;rw [Hv.out] at he;subst he;replace hW:=(hW.alloc hW.size _).drew.trans (b1.mono (hW.alloc hW.size _).size);replace hB:=(hB.alloc _).drew.below b1 (hB.alloc _).lt;clear b1 hGd kc;obtain ⟨d0,d1,d2,d3,d4⟩:=Ca hB;have f0:=hB.frozen 0;have f1:=hB.frozen 1;have f2:=hB.frozen 2;have f3:=hB.frozen 3;have f4:=hB.frozen 4;have hlB:=hB.lt;unfold GR;go_wp2_with fail
     refine bodyPost_ret (v:=GR cs may pl er) (by simp [results,results169,go_sem,d0,d1,d2,d3,d4,GR,hlB]) rfl ⟨rfl,?_⟩
     repeat (first | (with_reducible exact hW) | refine Aga ?_ (by first | omega | (simp;omega) | simp) _ | refine Agc ?_ (by first | omega | (simp;omega) | simp) _)
  ·have kc:=Gj wr 91 61;have hGd:Gl (wr.alloc (.cells #[.int .u8 91,.int .u8 61] 5)).drew:=hG.up (hW.alloc hW.size _).drew;have q0:=p0 (by decide);cases hp:T4 s.data.toList k 61
   ·go_wp2_with fail
    go_region_with (go_at_call 21;refine (T7 s k 61 _ (by decide)).mono ?_;rintro e w1 ⟨rfl,rfl⟩)
    go_wp2_with fail
    all_goals exact ⟨⟨2,by decide,rfl,(by first | exact fun _=>hp | exact fun _=>trivial | exact fun h=>absurd h (by decide) | exact fun _=>q0),(by first | exact fun _=>hp | exact fun _=>trivial | exact fun h=>absurd h (by decide) | exact fun _=>q0),(by first | exact fun _=>hp | exact fun _=>trivial | exact fun h=>absurd h (by decide) | exact fun _=>q0),(hW.alloc hW.size _).drew,(hB.alloc _).drew⟩,by simp [intOf]⟩
   ·go_wp2_with fail
    go_region_with (go_at_call 21;refine (T7 s k 61 _ (by decide)).mono ?_;rintro e w1 ⟨rfl,rfl⟩)
    go_wp2_with fail
    all_goals
     refine (GI s k 61 _ hs hp (by decide) hGd).mono ?_;rintro e w1 ⟨he,b1⟩;rw [Hv.out] at he;subst he;replace hW:=(hW.alloc hW.size _).drew.trans (b1.mono (hW.alloc hW.size _).size);replace hB:=(hB.alloc _).drew.below b1 (hB.alloc _).lt;clear b1 hGd kc;obtain ⟨d0,d1,d2,d3,d4⟩:=Ca hB;have f0:=hB.frozen 0;have f1:=hB.frozen 1;have f2:=hB.frozen 2;have f3:=hB.frozen 3;have f4:=hB.frozen 4;have hlB:=hB.lt;unfold GR;go_wp2_with fail
     refine bodyPost_ret (v:=GR cs may pl er) (by simp [results,results169,go_sem,d0,d1,d2,d3,d4,GR,hlB]) rfl ⟨rfl,?_⟩
     repeat (first | (with_reducible exact hW) | refine Aga ?_ (by first | omega | (simp;omega) | simp) _ | refine Agc ?_ (by first | omega | (simp;omega) | simp) _)
  ·have kc:=Gj wr 91 46;have hGd:Gl (wr.alloc (.cells #[.int .u8 91,.int .u8 46] 5)).drew:=hG.up (hW.alloc hW.size _).drew;have q0:=p0 (by decide);have q1:=p1 (by decide);cases hp:T4 s.data.toList k 46
   ·go_wp2_with fail
    go_region_with (go_at_call 21;refine (T7 s k 46 _ (by decide)).mono ?_;rintro e w1 ⟨rfl,rfl⟩)
    go_wp2_with fail
    all_goals exact ⟨⟨3,by decide,rfl,(by first | exact fun _=>hp | exact fun _=>trivial | exact fun h=>absurd h (by decide) | exact fun _=>q0 | exact fun _=>q1),(by first | exact fun _=>hp | exact fun _=>trivial | exact fun h=>absurd h (by decide) | exact fun _=>q0 | exact fun _=>q1),(by first | exact fun _=>hp | exact fun _=>trivial | exact fun h=>absurd h (by decide) | exact fun _=>q0 | exact fun _=>q1),(hW.alloc hW.size _).drew,(hB.alloc _).drew⟩,by simp [intOf]⟩
   ·go_wp2_with fail
    go_region_with (go_at_call 21;refine (T7 s k 46 _ (by decide)).mono ?_;rintro e w1 ⟨rfl,rfl⟩)
    go_wp2_with fail
    all_goals
     refine (GI s k 46 _ hs hp (by decide) hGd).mono ?_;rintro e w1 ⟨he,b1⟩;rw [Hv.out] at he;subst he;replace hW:=(hW.alloc hW.size _).drew.trans (b1.mono (hW.alloc hW.size _).size);replace hB:=(hB.alloc _).drew.below b1 (hB.alloc _).lt;clear b1 hGd kc;obtain ⟨d0,d1,d2,d3,d4⟩:=Ca hB;have f0:=hB.frozen 0;have f1:=hB.frozen 1;have f2:=hB.frozen 2;have f3:=hB.frozen 3;have f4:=hB.frozen 4;have hlB:=hB.lt;unfold GR;go_wp2_with fail
     refine bodyPost_ret (v:=GR cs may pl er) (by simp [results,results169,go_sem,d0,d1,d2,d3,d4,GR,hlB]) rfl ⟨rfl,?_⟩
     repeat (first | (with_reducible exact hW) | refine Aga ?_ (by first | omega | (simp;omega) | simp) _ | refine Agc ?_ (by first | omega | (simp;omega) | simp) _)
  ·have hop:opens s.data.toList k=false:=by rw [L7,p0 (by decide),p1 (by decide),p2 (by decide)];rfl
   have Hi:=Afj (show Fj s.data.toList k=⟨Ac (s[k].toNat:Int) (s[k].toNat:Int),true,k+1,0,0⟩ by
    unfold Fj;rw [if_neg (by rw [Av];omega),hop,if_neg (by decide),Dk s k hk])
   have Wk:IntKind.i64.wrap ((k:Int)+1)=(k:Int)+1:=Afx _ (by omega);clear hop p0 p1 p2;go_wp2_with fail
   refine (CI (s[k].toNat:Int) (Ab3 _) (Ab4 _) _ _ (by simp)).mono ?_;rintro e w1 ⟨rfl,b1⟩;rw [DU];replace hW:=hW.trans (b1.mono hW.size);replace hB:=hB.below b1 hB.lt;clear b1;obtain ⟨d0,d1,d2,d3,d4⟩:=Ca hB;have f0:=hB.frozen 0;have f1:=hB.frozen 1;have f2:=hB.frozen 2;have f3:=hB.frozen 3;have f4:=hB.frozen 4;have hlB:=hB.lt;go_wp2_with fail
   refine bodyPost_ret (v:=GR (Ac (s[k].toNat:Int) (s[k].toNat:Int)) true (k+1) 0) (by simp [results,results169,go_sem,d0,d1,d2,d3,d4,GR,hlB]) rfl ⟨?_,?_⟩
   ·rw [←Hv.out,Hi.out];rfl
   ·repeat (first | (with_reducible exact hW) | refine Aga ?_ (by first | omega | (simp;omega) | simp) _ | refine Agc ?_ (by first | omega | (simp;omega) | simp) _)
theorem ZL (s:List UInt8) (k:Nat) (h:(Fj s k).err≠0):(Fj s k).set=oz:=by
 unfold Fj at h ⊢;split
 ·rfl
 ·rename_i hk;rw [if_neg hk] at h;split
  ·rename_i ho;rw [if_pos ho] at h;split
   ·rename_i e he;rw [he] at h;simp only at h;unfold Lp at h ⊢;split
    ·rename_i h1;rw [if_pos h1] at h;split
     ·rename_i h2;rw [if_pos h2] at h;simp at h
     ·rfl
    ·rename_i h1;rw [if_neg h1] at h;split
     ·rename_i h2;rw [if_pos h2] at h;simp at h
     ·rfl
   ·rfl
  ·rename_i ho;rw [if_neg ho] at h;simp at h
def Gp (t:OSet) (j er:Nat):Value:=.tuple #[.agg #[.int .u64 (ow t 0),.int .u64 (ow t 1),.int .u64 (ow t 2),.int .u64 (ow t 3)],.int .i64 (j:Int),.int .i64 (er:Int)]
theorem WG (s:OSet) (w:World):(Op.equalIn 10000 108 (.agg #[.int .u64 (ow s 0),.int .u64 (ow s 1),.int .u64 (ow s 2),.int .u64 (ow s 3)]) (.agg #[.int .u64 0,.int .u64 0,.int .u64 0,.int .u64 0])).run prog w=.ok (decide (s=oz)) w:=by
 have h:=WE s oz w;rw [Ap,Ap,Ap,Ap] at h;exact h
/-- What the first item alone decides: an error, or no range behind it. -/
theorem Ov (s:ByteArray) (k:Nat) (w:World) (hs:s.size≤1000000) (hk:k < s.size) (hG:Gl w) (A:OSet) (ma:Bool) (nx er:Nat)
  (hv:WF (Fj s.data.toList k)=GR A ma nx er) (hd:er≠0∨(nx≤s.size∧Y2 s.data.toList nx=false)) :
  Calls prog 165 #[.string s,.int .i64 (k:Int)] w fun e w'=>e=.returned (Gp A nx er)∧Below w.heap.size w w':=by
 have hB:=Blk.new w #[.int .u64 0,.int .u64 0,.int .u64 0,.int .u64 0] 108 _ rfl;have hW:=(Afv w.heap.size w).alloc (Afq _) (.cells #[.int .u64 0,.int .u64 0,.int .u64 0,.int .u64 0] 108);have hG1:=hG.up hW;go_enter func165,ntmps165;go_wp2_with fail
 refine (I8 s k _ hs hk hG1).mono ?_;rintro e w1 ⟨he,b1⟩;rw [hv] at he;subst he;clear hv hG1;replace hW:=hW.trans (b1.mono hW.size);replace hB:=hB.below b1 hB.lt;clear b1;obtain ⟨d0,d1,d2,d3⟩:=Ai hB;have f0:=hB.frozen 0;have f1:=hB.frozen 1;have f2:=hB.frozen 2;have f3:=hB.frozen 3;have hlB:=hB.lt;unfold GR;by_cases her:er=0
 ·subst her;obtain ⟨hnx,hdd⟩:=hd.resolve_left (by simp);clear hd;go_wp2_with fail
  refine (N7 s nx _ (by omega) hnx).mono ?_;rintro e w2 ⟨he,b2⟩;rw [hdd] at he;subst he;have hF:=(Blk.new w1 #[.int .u64 (ow A 0),.int .u64 (ow A 1),.int .u64 (ow A 2),.int .u64 (ow A 3),.bool ma] 260 _ rfl).below b2 (by simp);replace hW:=(hW.alloc hW.size (.cells #[.int .u64 (ow A 0),.int .u64 (ow A 1),.int .u64 (ow A 2),.int .u64 (ow A 3),.bool ma] 260)).trans (b2.mono (hW.alloc hW.size _).size);replace hB:=(hB.alloc (.cells #[.int .u64 (ow A 0),.int .u64 (ow A 1),.int .u64 (ow A 2),.int .u64 (ow A 3),.bool ma] 260)).below b2 (hB.alloc _).lt;clear b2 d0 d1 d2 d3 f0 f1 f2 f3 hlB;obtain ⟨d0,d1,d2,d3⟩:=Ai hB;have f0:=hB.frozen 0;have f1:=hB.frozen 1;have f2:=hB.frozen 2;have f3:=hB.frozen 3;have hlB:=hB.lt;obtain ⟨c0,c1,c2,c3,c4⟩:=GC hF;have hlF:=hF.lt;go_wp2_with fail
  refine bodyPost_ret (v:=Gp A nx 0) (by simp [results,results165,go_sem,d0,d1,d2,d3,Gp,hlB,Ap]) rfl ⟨rfl,?_⟩
  repeat (first | (with_reducible exact hW) | refine Aga ?_ (by first | omega | (simp;omega) | simp) _ | refine Agc ?_ (by first | omega | (simp;omega) | simp) _)
 ·have r1:((er:Int) != 0)=true:=by simp;omega
  go_wp2_with fail
  refine bodyPost_ret (v:=Gp A nx er) (by simp [results,results165,go_sem,d0,d1,d2,d3,Gp,hlB,Ap]) rfl ⟨rfl,?_⟩
  repeat (first | (with_reducible exact hW) | refine Aga ?_ (by first | omega | (simp;omega) | simp) _ | refine Agc ?_ (by first | omega | (simp;omega) | simp) _)
/-- A range: both items. -/
theorem WH (s:ByteArray) (k:Nat) (w:World) (hs:s.size≤1000000) (hk:k < s.size) (hG:Gl w) (A B:OSet) (ma mb:Bool) (nx n2 er:Nat)
  (hv:WF (Fj s.data.toList k)=GR A ma nx 0) (hnx:nx+1 < s.size) (hdd:Y2 s.data.toList nx=true) (hv2:WF (Fj s.data.toList (nx+1))=GR B mb n2 er)
  (hA:ma=true→∃ b:Nat,b < 256∧A=Ac b b) (hBb:mb=true→∃ b:Nat,b < 256∧B=Ac b b) :
  Calls prog 165 #[.string s,.int .i64 (k:Int)] w fun e w'=>e=.returned (if er≠0 then Gp oz n2 er else if Sd A B ma mb=oz then Gp oz k 1 else Gp (Sd A B ma mb) n2 0)∧Below w.heap.size w w':=by
 generalize hR:(if er≠0 then Gp oz n2 er else if Sd A B ma mb=oz then Gp oz k 1 else Gp (Sd A B ma mb) n2 0)=R;have HR:=Afj hR;clear hR;have hB:=Blk.new w #[.int .u64 0,.int .u64 0,.int .u64 0,.int .u64 0] 108 _ rfl;have hW:=(Afv w.heap.size w).alloc (Afq _) (.cells #[.int .u64 0,.int .u64 0,.int .u64 0,.int .u64 0] 108);have hG1:=hG.up hW;have Wn:IntKind.i64.wrap ((nx:Int)+1)=((nx+1:Nat):Int):=by rw [Afx _ (by omega)];omega
 go_enter func165,ntmps165;go_wp2_with fail
 refine (I8 s k _ hs hk hG1).mono ?_;rintro e w1 ⟨he,b1⟩;rw [hv] at he;subst he;clear hv hG1;replace hW:=hW.trans (b1.mono hW.size);replace hB:=hB.below b1 hB.lt;clear b1;unfold GR;go_wp2_with fail
 refine (N7 s nx _ (by omega) (by omega)).mono ?_;rintro e w2 ⟨he,b2⟩;rw [hdd] at he;subst he;have hF:=(Blk.new w1 #[.int .u64 (ow A 0),.int .u64 (ow A 1),.int .u64 (ow A 2),.int .u64 (ow A 3),.bool ma] 260 _ rfl).below b2 (by simp);replace hW:=(hW.alloc hW.size (.cells #[.int .u64 (ow A 0),.int .u64 (ow A 1),.int .u64 (ow A 2),.int .u64 (ow A 3),.bool ma] 260)).trans (b2.mono (hW.alloc hW.size _).size);replace hB:=(hB.alloc (.cells #[.int .u64 (ow A 0),.int .u64 (ow A 1),.int .u64 (ow A 2),.int .u64 (ow A 3),.bool ma] 260)).below b2 (hB.alloc _).lt;clear b2;have hlB:=hB.lt;have hlF:=hF.lt;have hG2:=hG.up hW;go_wp2_with fail
 refine (I8 s (nx+1) _ hs hnx hG2).mono ?_;rintro e w3 ⟨he,b3⟩;rw [hv2] at he;subst he;clear hv2 hG2 hlB hlF;replace hW:=hW.trans (b3.mono hW.size);replace hB:=hB.below b3 hB.lt;replace hF:=hF.below b3 hF.lt;clear b3;obtain ⟨d0,d1,d2,d3⟩:=Ai hB;have f0:=hB.frozen 0;have f1:=hB.frozen 1;have f2:=hB.frozen 2;have f3:=hB.frozen 3;have hlB:=hB.lt;obtain ⟨c0,c1,c2,c3,c4⟩:=GC hF;have hlF:=hF.lt;unfold GR;by_cases her:er=0
 ·subst her;have hG3:=hG.up (hW.alloc hW.size (.cells #[.int .u64 (ow B 0),.int .u64 (ow B 1),.int .u64 (ow B 2),.int .u64 (ow B 3),.bool mb] 260));go_wp2_with fail
  refine (Tg A B ma mb hA hBb _ hG3.tab (Aft (by decide) hG3.lt)).mono ?_;clear hG3;rintro e w4 ⟨rfl,b4⟩;replace hW:=(hW.alloc hW.size (.cells #[.int .u64 (ow B 0),.int .u64 (ow B 1),.int .u64 (ow B 2),.int .u64 (ow B 3),.bool mb] 260)).trans (b4.mono (hW.alloc hW.size _).size);replace hB:=(hB.alloc (.cells #[.int .u64 (ow B 0),.int .u64 (ow B 1),.int .u64 (ow B 2),.int .u64 (ow B 3),.bool mb] 260)).below b4 (hB.alloc _).lt;clear b4 d0 d1 d2 d3 f0 f1 f2 f3 hlB c0 c1 c2 c3 c4 hlF hF;obtain ⟨d0,d1,d2,d3⟩:=Ai hB;have f0:=hB.frozen 0;have f1:=hB.frozen 1;have f2:=hB.frozen 2;have f3:=hB.frozen 3;have hlB:=hB.lt;generalize hX:Sd A B ma mb=X;have HX:=Afj hX;clear hX;have hz:=WG X;by_cases hq:X=oz
  ·have hdq:decide (X=oz)=true:=decide_eq_true hq;have Hq:=Afj hq;clear hq;go_wp2_with fail
   refine bodyPost_ret (v:=Gp oz k 1) (by simp [results,results165,go_sem,d0,d1,d2,d3,Gp,hlB,Ap]) rfl ⟨by rw [←HR.out,if_neg (by simp),HX.out,if_pos Hq.out],?_⟩
   repeat (first | (with_reducible exact hW) | refine Aga ?_ (by first | omega | (simp;omega) | simp) _ | refine Agc ?_ (by first | omega | (simp;omega) | simp) _)
  ·have hdq:decide (X=oz)=false:=decide_eq_false hq;have Hq:=Afj hq;clear hq;go_wp2_with fail
   refine bodyPost_ret (v:=Gp X n2 0) (by simp [results,results165,go_sem,d0,d1,d2,d3,Gp,hlB,Ap]) rfl ⟨by rw [←HR.out,if_neg (by simp),HX.out,if_neg Hq.out],?_⟩
   repeat (first | (with_reducible exact hW) | refine Aga ?_ (by first | omega | (simp;omega) | simp) _ | refine Agc ?_ (by first | omega | (simp;omega) | simp) _)
 ·have r1:((er:Int) != 0)=true:=by simp;omega
  go_wp2_with fail
  refine bodyPost_ret (v:=Gp oz n2 er) (by simp [results,results165,go_sem,d0,d1,d2,d3,Gp,hlB,Ap]) rfl ⟨by rw [←HR.out,if_pos her],?_⟩
  repeat (first | (with_reducible exact hW) | refine Aga ?_ (by first | omega | (simp;omega) | simp) _ | refine Agc ?_ (by first | omega | (simp;omega) | simp) _)
def UV:Except (Nat × Nat) (OSet × Nat)→Value
 | .ok (t,j)=>Gp t j 0
 | .error (e,p)=>Gp oz p e
theorem Sy (s:List UInt8) (k:Nat):Y2 s k=true ↔ (k+1 < s.length∧byt s k=45∧byt s (k+1)≠93):=by
 unfold Y2;simp only [Af9,decide_eq_true_eq,Bool.not_eq_true',decide_eq_false_iff_not,and_assoc,ne_eq]
theorem WI (s:ByteArray) (k:Nat) (w:World) (hs:s.size≤1000000) (hk:k < s.size) (hG:Gl w) :
  Calls prog 165 #[.string s,.int .i64 (k:Int)] w fun e w'=>e=.returned (UV (UT s.data.toList k))∧Below w.heap.size w w':=by
 unfold UT;simp only;by_cases h1:(Fj s.data.toList k).err=0
 ·obtain ⟨hn1,hn2⟩:=JE _ _ h1;rw [Av] at hn2;have hv:WF (Fj s.data.toList k)=GR (Fj s.data.toList k).set (Fj s.data.toList k).may (Fj s.data.toList k).next 0:=by
   unfold WF;rw [if_pos h1,h1]
  rw [if_neg (by rw [h1];simp)];cases hd:Y2 s.data.toList (Fj s.data.toList k).next
  ·rw [if_neg (by rw [←Sy,hd];simp)];exact Ov s k w hs hk hG _ _ _ _ hv (Or.inr ⟨hn2,hd⟩)
  ·have hd2:=(Sy _ _).1 hd;rw [if_pos hd2,Av] at *;generalize hb:Fj s.data.toList ((Fj s.data.toList k).next+1)=b;have hm:=RQ s.data.toList ((Fj s.data.toList k).next+1);rw [hb] at hm;refine (WH s k w hs hk hG _ b.set _ b.may _ (if b.err=0 then b.next else b.place) b.err hv hd2.1 hd (by rw [hb];rfl) (RQ s.data.toList k) hm).mono ?_;rintro e w' ⟨rfl,bl⟩;refine ⟨congrArg _ ?_,bl⟩;by_cases h2:b.err=0
   ·simp only [h2,ne_eq,not_true_eq_false,if_false,if_true];unfold Sd;cases hA:(Fj s.data.toList k).may
    ·simp only [Bool.false_and,Af2,if_false,if_true];rfl
    ·cases hB:b.may
     ·simp only [Bool.and_false,Bool.false_and,Af2,if_false,if_true];rfl
     ·obtain ⟨y,hy,hy2⟩:=hm hB;have hl:Vh b.set < 256:=by rw [hy2,(Ml y hy).2];exact hy
      rw [Bool.and_self,Bool.true_and,if_pos rfl];by_cases hle:Vh (Fj s.data.toList k).set≤Vh b.set
      ·rw [if_neg (Tb _ _ hl hle),if_pos (decide_eq_true hle)];rfl
      ·rw [if_pos (Ta _ _ (by omega)),if_neg (by rw [decide_eq_false hle];decide)];rfl
   ·rw [if_pos h2,if_pos h2,if_neg h2];rfl
 ·rw [if_pos h1];have hv:WF (Fj s.data.toList k)=GR oz (Fj s.data.toList k).may (Fj s.data.toList k).place (Fj s.data.toList k).err:=by
   unfold WF;rw [if_neg h1,ZL _ _ h1]
  exact Ov s k w hs hk hG _ _ _ _ hv (Or.inl h1)
theorem L8 (s:ByteArray) (n:Nat) (w:World) (hs:s.size≤1000000) (hn:n≤s.size) (hG:Gl w) :
  Calls prog 157 #[.string s,.int .i64 (n:Int)] w fun e w'=>e=.returned (UV (IQ s.data.toList true n oz))∧Below w.heap.size w w':=by
 generalize hR:UV (IQ s.data.toList true n oz)=R;have HR:=Afj hR;clear hR;have hz:oc oz=#[.int .u64 0,.int .u64 0,.int .u64 0,.int .u64 0]:=by unfold oc;rw [Ap,Ap,Ap,Ap]
 have hW:=((Afv w.heap.size w).alloc (Afq _) (.cells #[.int .u64 0,.int .u64 0,.int .u64 0,.int .u64 0] 108)).alloc (by simp) (.cells #[.int .u64 0,.int .u64 0,.int .u64 0,.int .u64 0] 108);have hB:=(Blk.new w #[.int .u64 0,.int .u64 0,.int .u64 0,.int .u64 0] 108 _ rfl).alloc (.cells #[.int .u64 0,.int .u64 0,.int .u64 0,.int .u64 0] 108);have hO:Blk ((w.alloc (.cells #[.int .u64 0,.int .u64 0,.int .u64 0,.int .u64 0] 108)).alloc (.cells #[.int .u64 0,.int .u64 0,.int .u64 0,.int .u64 0] 108)) (w.heap.size+1) (oc oz) 108:=by rw [hz];exact Blk.new _ _ _ _ (by simp)
 clear hz;go_enter func157,ntmps157;go_wp2_with fail
 go_loopw [8] (fun i wr=>∃ (k:Nat) (fl:Bool) (acc:OSet),k≤s.size∧n≤k∧i=.int .i64 k∧(fl=false ↔ n < k)∧IQ s.data.toList fl k acc=IQ s.data.toList true n oz∧Below w.heap.size w wr∧Blk wr w.heap.size #[.int .u64 0,.int .u64 0,.int .u64 0,.int .u64 0] 108∧Blk wr (w.heap.size+1) (oc acc) 108) (fun i _=>s.size+1 - (intOf i).toNat)
 case atStart=>exact ⟨n,true,oz,hn,Afq _,rfl,by simp,rfl,hW,hB,hO⟩
 case round=>
  clear hW hB hO;obtain ⟨k,fl,acc,hk,hnk,rfl,hfl,hq,hW,hB,hO⟩:=hrel;have Hq:=Afj hq;have Hfl:=Afj hfl;clear hq hfl;obtain ⟨d0,d1,d2,d3⟩:=Ai hB;have f0:=hB.frozen 0;have f1:=hB.frozen 1;have f2:=hB.frozen 2;have f3:=hB.frozen 3;have hlB:=hB.lt;obtain ⟨c0,c1,c2,c3⟩:=En hO;have g0:=hO.frozen 0;have g1:=hO.frozen 1;have g2:=hO.frozen 2;have g3:=hO.frozen 3;have hlO:=hO.lt;by_cases hlt:k < s.size
  ·have e0:decide ((k:Int) < (s.size:Int))=true:=by simp;omega
   have e1:decide (k < s.size)=true:=decide_eq_true hlt;by_cases hend:n < k∧s[k].toNat=93
   ·obtain ⟨hnk2,h93⟩:=hend;have Hx:=Afj (show UV (IQ s.data.toList fl k acc)=Gp acc (k+1) 0 by
     rw [Hfl.out.2 hnk2,IQ,if_pos ⟨rfl,by rw [Av];exact hlt,by rw [Dk s k hlt];exact h93⟩];rfl)
    have e2:((s[k].toNat:Int) == 93)=true:=by simp;omega
    have e3:decide ((n:Int) < (k:Int))=true:=by simp;omega
    have e4:decide (n < k)=true:=decide_eq_true hnk2;have Wk:IntKind.i64.wrap ((k:Int)+1)=(k:Int)+1:=Afx _ (by omega);clear h93;go_wp2_with fail
    refine bodyPost_ret (v:=Gp acc (k+1) 0) (by simp [results,results157,go_sem,d0,d1,d2,d3,Gp,hlB]) rfl ⟨by rw [←HR.out,←Hq.out,Hx.out],?_⟩
    repeat (first | (with_reducible exact hW) | refine Aga ?_ (by first | omega | (simp;omega) | simp) _ | refine Agc ?_ (by first | omega | (simp;omega) | simp) _)
   ·have hno:¬ (fl=false∧k < s.data.toList.length∧byt s.data.toList k=93):=by
     rintro ⟨h1,_,h3⟩;rw [Dk s k hlt] at h3;exact hend ⟨Hfl.out.1 h1,h3⟩
    have Hno:=Afj hno;clear hno;go_upto_region 4 with fail;go_cut [25] from 17 to 26 (fun b wx=>b=.bool false∧wx=wr)
    case first=>
     by_cases h93:s[k].toNat=93
     ·have e2:((s[k].toNat:Int) == 93)=true:=by simp;omega
      have e3:decide ((n:Int) < (k:Int))=false:=by simp;omega
      have e4:decide (n < k)=false:=decide_eq_false (fun h=>hend ⟨h,h93⟩);clear h93 hend;go_wp2_with fail
      go_meet;exact ⟨rfl,rfl⟩
     ·have e2:((s[k].toNat:Int) == 93)=false:=by simp;omega
      clear h93 hend;go_wp2_with fail
      go_meet;exact ⟨rfl,rfl⟩
    case rest=>
     obtain ⟨rfl,rfl⟩:=hcut;clear hend;have hG1:=hG.up hW;go_wp2_with fail
     refine (WI s k _ hs hlt hG1).mono ?_;rintro e w1 ⟨he,b1⟩;replace hW:=hW.trans (b1.mono hW.size);replace hB:=hB.below b1 hB.lt;replace hO:=hO.below b1 hO.lt;clear b1 hG1 d0 d1 d2 d3 f0 f1 f2 f3 hlB c0 c1 c2 c3 g0 g1 g2 g3 hlO;cases hel:UT s.data.toList k with
     | error x=>
      obtain ⟨er,pl⟩:=x;rw [hel] at he;have Hx:=Afj (show UV (IQ s.data.toList fl k acc)=Gp oz pl er by rw [RT _ _ _ _ _ Hno.out hel];rfl);have her:er≠0:=Mn _ _ _ _ hel;have e5:((er:Int) != 0)=true:=by simp;omega
      clear hel;subst he;unfold UV Gp;obtain ⟨d0,d1,d2,d3⟩:=Ai hB;have f0:=hB.frozen 0;have f1:=hB.frozen 1;have f2:=hB.frozen 2;have f3:=hB.frozen 3;have hlB:=hB.lt;go_wp2_with fail
      refine bodyPost_ret (v:=Gp oz pl er) (by simp [results,results157,go_sem,d0,d1,d2,d3,Gp,hlB,Ap]) rfl ⟨by rw [←HR.out,←Hq.out,Hx.out],?_⟩
      repeat (first | (with_reducible exact hW) | refine Aga ?_ (by first | omega | (simp;omega) | simp) _ | refine Agc ?_ (by first | omega | (simp;omega) | simp) _)
     | ok x=>
      obtain ⟨t,j⟩:=x;rw [hel] at he;have hnx:=JF _ _ _ _ hel;rw [Av] at hnx;have Hx:=Afj (Ab1 _ _ _ acc _ _ Hno.out hel);clear hel;subst he;unfold UV Gp;obtain ⟨d0,d1,d2,d3⟩:=Ai hB;have f0:=hB.frozen 0;have f1:=hB.frozen 1;have f2:=hB.frozen 2;have f3:=hB.frozen 3;have hlB:=hB.lt;obtain ⟨c0,c1,c2,c3⟩:=En hO;have g0:=hO.frozen 0;have g1:=hO.frozen 1;have g2:=hO.frozen 2;have g3:=hO.frozen 3;have hlO:=hO.lt;go_wp2_with fail
      refine (DK acc t _).mono ?_;rintro e w2 ⟨rfl,b2⟩;replace hW:=(hW.alloc hW.size (.cells (oc t) 108)).trans (b2.mono (hW.alloc hW.size _).size);replace hB:=(hB.alloc (.cells (oc t) 108)).below b2 (hB.alloc _).lt;replace hO:=(hO.alloc (.cells (oc t) 108)).below b2 (hO.alloc _).lt;clear b2 d0 d1 d2 d3 f0 f1 f2 f3 hlB c0 c1 c2 c3 g0 g1 g2 g3 hlO;obtain ⟨c0,c1,c2,c3⟩:=En hO;have g0:=hO.frozen 0;have g1:=hO.frozen 1;have g2:=hO.frozen 2;have g3:=hO.frozen 3;have hlO:=hO.lt;go_wp2_with fail
      go_roundw
      case rel=>
       refine ⟨j,false,acc ||| t,hnx.2,by omega,rfl,by simp;omega,by rw [←Hx.out,Hq.out],?_,?_,JC hO _⟩
       ·repeat (first | (with_reducible exact hW) | refine Aga ?_ (by first | omega | (simp;omega) | simp) _ | refine Agc ?_ (by first | omega | (simp;omega) | simp) _)
       ·repeat (first | exact hB | refine Blk.set_other ?_ _ (by simp) _)
      case measure=>simp [intOf];omega
  ·have e0:decide ((k:Int) < (s.size:Int))=false:=by simp;omega
   have e1:decide (k < s.size)=false:=decide_eq_false hlt;have Hx:=Afj (show UV (IQ s.data.toList fl k acc)=Gp oz s.size 5 by
    have he:UT s.data.toList k=.error (5,s.size):=by
     have hi:Fj s.data.toList k=⟨oz,false,0,5,s.size⟩:=by unfold Fj;rw [if_pos (by rw [Av];omega),Av]
     unfold UT;rw [hi];rfl
    rw [RT _ _ _ _ _ (by rw [Av];omega) he];rfl)
   go_wp2_with fail
   refine bodyPost_ret (v:=Gp oz s.size 5) (by simp [results,results157,go_sem,d0,d1,d2,d3,Gp,hlB,Ap]) rfl ⟨by rw [←HR.out,←Hq.out,Hx.out],?_⟩
   repeat (first | (with_reducible exact hW) | refine Aga ?_ (by first | omega | (simp;omega) | simp) _ | refine Agc ?_ (by first | omega | (simp;omega) | simp) _)
theorem Aeo (s:ByteArray) (n:Nat) (w:World) :
  Calls prog 21 #[.string (s.extract n s.size),.string ⟨#[94]⟩] w fun e w'=>e=.returned (.bool (Vi s.data.toList n))∧w=w':=by
 have h:=Cw (s.extract n s.size) ⟨#[94]⟩ w;rw [BS,show (⟨#[94]⟩:ByteArray).data.toList=[94] from rfl,RW] at h;exact h
theorem TA (s:ByteArray) (k:Int) (w:World) (h:k < 0∨(s.size:Int) < k) :
  Calls prog 146 #[.string s,.int .i64 k] w fun e w'=>e=.returned (KT (F7 s.data.toList k))∧Below w.heap.size w w':=by
 have Hp:=Afj (YN s.data.toList k (by rw [Av];exact h));have hW:=(Afv w.heap.size w).alloc (Afq _) (.cells #[.int .u64 0,.int .u64 0,.int .u64 0,.int .u64 0] 108);by_cases h0:k < 0
 ·have e0:decide (k < 0)=true:=decide_eq_true h0;go_enter func146,ntmps146;go_wp2_with fail
  refine bodyPost_ret (v:=KT (oz,0,1)) (by simp [results,results146,go_sem,KT,Ap]) rfl ⟨by rw [Hp.out],?_⟩
  repeat (first | (with_reducible exact hW) | refine Aga ?_ (by first | omega | (simp;omega) | simp) _ | refine Agc ?_ (by first | omega | (simp;omega) | simp) _)
 ·have e0:decide (k < 0)=false:=decide_eq_false h0;have e1:decide ((s.size:Int) < k)=true:=decide_eq_true (by omega);go_enter func146,ntmps146;go_wp2_with fail
  refine bodyPost_ret (v:=KT (oz,0,1)) (by simp [results,results146,go_sem,KT,Ap]) rfl ⟨by rw [Hp.out],?_⟩
  repeat (first | (with_reducible exact hW) | refine Aga ?_ (by first | omega | (simp;omega) | simp) _ | refine Agc ?_ (by first | omega | (simp;omega) | simp) _)
theorem Ow (s:ByteArray) (n:Nat) (w:World) (hs:s.size≤1000000) (hn:n≤s.size) (hG:Gl w) (hc:Vi s.data.toList n=false) :
  Calls prog 146 #[.string s,.int .i64 (n:Int)] w fun e w'=>e=.returned (KT (F7 s.data.toList (n:Int)))∧Below w.heap.size w w':=by
 generalize hR:KT (F7 s.data.toList (n:Int))=R;have HR:=Afj hR;clear hR;have e1:decide ((s.size:Int) < (n:Int))=false:=decide_eq_false (by omega);have e2:decide (s.size < n)=false:=decide_eq_false (by omega);have Wn:IntKind.i64.wrap ((n:Int)+1)=((n+1:Nat):Int):=by rw [Afx _ (by omega)];omega
 have hW:=(Afv w.heap.size w).alloc (Afq _) (.cells #[.int .u64 0,.int .u64 0,.int .u64 0,.int .u64 0] 108);have hB:=Blk.new w #[.int .u64 0,.int .u64 0,.int .u64 0,.int .u64 0] 108 _ rfl;have hG1:=hG.up hW;have Hok:=Afj (P5 s.data.toList n (by rw [Av];exact hn));have Her:=Afj (Mm s.data.toList n (by rw [Av];exact hn));rw [hc] at Hok Her;go_enter func146,ntmps146;go_wp2_with fail
 refine (Aeo s n _).mono ?_;rintro e w1 ⟨he,rfl⟩;rw [hc] at he;subst he;go_wp2_with fail
 refine (L8 s n _ hs hn hG1).mono ?_;rintro e w2 ⟨he,b2⟩;replace hW:=hW.trans (b2.mono hW.size);replace hB:=hB.below b2 hB.lt;clear b2 hG1;cases hr:IQ s.data.toList true n oz with
 | error x=>
  obtain ⟨er,pl⟩:=x;rw [hr] at he;have Hx:=Afj (Her.out er pl (by simpa using hr));have her:er≠0:=RX _ _ _ _ _ _ hr;have e5:((er:Int) == 0)=false:=by simp;omega
  clear hr;subst he;unfold UV Gp;obtain ⟨d0,d1,d2,d3⟩:=Ai hB;have f0:=hB.frozen 0;have f1:=hB.frozen 1;have f2:=hB.frozen 2;have f3:=hB.frozen 3;have hlB:=hB.lt;go_wp2_with fail
  refine bodyPost_ret (v:=KT (oz,(pl:Int),er)) (by simp [results,results146,go_sem,d0,d1,d2,d3,KT,hlB,Ap]) rfl ⟨by rw [←HR.out,Hx.out],?_⟩
  repeat (first | (with_reducible exact hW) | refine Aga ?_ (by first | omega | (simp;omega) | simp) _ | refine Agc ?_ (by first | omega | (simp;omega) | simp) _)
 | ok x=>
  obtain ⟨t,j⟩:=x;rw [hr] at he;have Hx:=Afj (Hok.out t j (by simpa using hr));clear hr;subst he;unfold UV Gp;obtain ⟨d0,d1,d2,d3⟩:=Ai hB;have f0:=hB.frozen 0;have f1:=hB.frozen 1;have f2:=hB.frozen 2;have f3:=hB.frozen 3;have hlB:=hB.lt;go_wp2_with fail
  refine bodyPost_ret (v:=KT (t,(j:Int),0)) (by simp [results,results146,go_sem,d0,d1,d2,d3,KT,hlB]) rfl ⟨by rw [←HR.out,Hx.out];rfl,?_⟩
  repeat (first | (with_reducible exact hW) | refine Aga ?_ (by first | omega | (simp;omega) | simp) _ | refine Agc ?_ (by first | omega | (simp;omega) | simp) _)
theorem TB (s:ByteArray) (n:Nat) (w:World) (hs:s.size≤1000000) (hn:n≤s.size) (hG:Gl w) (hc:Vi s.data.toList n=true) (hn1:n+1≤s.size) :
  Calls prog 146 #[.string s,.int .i64 (n:Int)] w fun e w'=>e=.returned (KT (F7 s.data.toList (n:Int)))∧Below w.heap.size w w':=by
 generalize hR:KT (F7 s.data.toList (n:Int))=R;have HR:=Afj hR;clear hR;have e1:decide ((s.size:Int) < (n:Int))=false:=decide_eq_false (by omega);have e2:decide (s.size < n)=false:=decide_eq_false (by omega);have Wn:IntKind.i64.wrap ((n:Int)+1)=((n+1:Nat):Int):=by rw [Afx _ (by omega)];omega
 have hW:=(Afv w.heap.size w).alloc (Afq _) (.cells #[.int .u64 0,.int .u64 0,.int .u64 0,.int .u64 0] 108);have hB:=Blk.new w #[.int .u64 0,.int .u64 0,.int .u64 0,.int .u64 0] 108 _ rfl;have hG1:=hG.up hW;have Hok:=Afj (P5 s.data.toList n (by rw [Av];exact hn));have Her:=Afj (Mm s.data.toList n (by rw [Av];exact hn));rw [hc] at Hok Her;go_enter func146,ntmps146;go_wp2_with fail
 refine (Aeo s n _).mono ?_;rintro e w1 ⟨he,rfl⟩;rw [hc] at he;subst he;go_wp2_with fail
 refine (L8 s (n+1) _ hs hn1 hG1).mono ?_;rintro e w2 ⟨he,b2⟩;replace hW:=hW.trans (b2.mono hW.size);replace hB:=hB.below b2 hB.lt;clear b2 hG1;cases hr:IQ s.data.toList true (n+1) oz with
 | error x=>
  obtain ⟨er,pl⟩:=x;rw [hr] at he;have Hx:=Afj (Her.out er pl (by simpa using hr));have her:er≠0:=RX _ _ _ _ _ _ hr;have e5:((er:Int) == 0)=false:=by simp;omega
  clear hr;subst he;unfold UV Gp;obtain ⟨d0,d1,d2,d3⟩:=Ai hB;have f0:=hB.frozen 0;have f1:=hB.frozen 1;have f2:=hB.frozen 2;have f3:=hB.frozen 3;have hlB:=hB.lt;go_wp2_with fail
  refine bodyPost_ret (v:=KT (oz,(pl:Int),er)) (by simp [results,results146,go_sem,d0,d1,d2,d3,KT,hlB,Ap]) rfl ⟨by rw [←HR.out,Hx.out],?_⟩
  repeat (first | (with_reducible exact hW) | refine Aga ?_ (by first | omega | (simp;omega) | simp) _ | refine Agc ?_ (by first | omega | (simp;omega) | simp) _)
 | ok x=>
  obtain ⟨t,j⟩:=x;rw [hr] at he;have Hx:=Afj (Hok.out t j (by simpa using hr));clear hr;subst he;unfold UV Gp;obtain ⟨d0,d1,d2,d3⟩:=Ai hB;have f0:=hB.frozen 0;have f1:=hB.frozen 1;have f2:=hB.frozen 2;have f3:=hB.frozen 3;have hlB:=hB.lt;go_wp2_with fail
  obtain ⟨nt,hnt⟩:∃ nt,~~~t=nt:=⟨_,rfl⟩;have hna:=Gf t;rw [hnt] at Hx hna;clear hnt;refine (hna _).mono ?_;rintro e w3 ⟨rfl,b3⟩;replace hW:=(hW.alloc hW.size (.cells (oc t) 108)).trans (b3.mono (hW.alloc hW.size _).size);replace hB:=(hB.alloc (.cells (oc t) 108)).below b3 (hB.alloc _).lt;have hne:=hlB;have hne2:¬ w.heap.size=w2.heap.size:=by omega
  have hne3:¬ w2.heap.size=w.heap.size:=by omega
  have hS:=(Blk.new w2 (oc t) 108 _ rfl).below b3 (by simp);have hlS:=hS.lt;have g0:=hS.frozen 0;have g1:=hS.frozen 1;have g2:=hS.frozen 2;have g3:=hS.frozen 3;obtain ⟨c0,c1,c2,c3⟩:=En hS;clear b3 d0 d1 d2 d3 f0 f1 f2 f3 hlB;obtain ⟨d0,d1,d2,d3⟩:=Ai hB;have f0:=hB.frozen 0;have f1:=hB.frozen 1;have f2:=hB.frozen 2;have f3:=hB.frozen 3;have hlB:=hB.lt;go_wp2_with fail
  have hz:oc oz=#[.int .u64 0,.int .u64 0,.int .u64 0,.int .u64 0]:=by unfold oc;rw [Ap,Ap,Ap,Ap]
  have hB0:Blk w3 w.heap.size (oc oz) 108:=by rw [hz];exact hB
  have hB1:Blk ((((w3.setCell ⟨w2.heap.size,0,none⟩ (.int .u64 (ow nt 0))).setCell ⟨w2.heap.size,1,none⟩ (.int .u64 (ow nt 1))).setCell ⟨w2.heap.size,2,none⟩ (.int .u64 (ow nt 2))).setCell ⟨w2.heap.size,3,none⟩ (.int .u64 (ow nt 3))) w.heap.size (oc oz) 108:=(((hB0.set_other _ hne3 _).set_other _ hne3 _).set_other _ hne3 _).set_other _ hne3 _;have hB2:Blk ((((((((w3.setCell ⟨w2.heap.size,0,none⟩ (.int .u64 (ow nt 0))).setCell ⟨w2.heap.size,1,none⟩ (.int .u64 (ow nt 1))).setCell ⟨w2.heap.size,2,none⟩ (.int .u64 (ow nt 2))).setCell ⟨w2.heap.size,3,none⟩ (.int .u64 (ow nt 3))).setCell ⟨w.heap.size,0,none⟩ (.int .u64 (ow nt 0))).setCell ⟨w.heap.size,1,none⟩ (.int .u64 (ow nt 1))).setCell ⟨w.heap.size,2,none⟩ (.int .u64 (ow nt 2))).setCell ⟨w.heap.size,3,none⟩ (.int .u64 (ow nt 3))) w.heap.size (oc nt) 108:=JC hB1 nt;have hWf:Below w.heap.size w ((((((((w3.setCell ⟨w2.heap.size,0,none⟩ (.int .u64 (ow nt 0))).setCell ⟨w2.heap.size,1,none⟩ (.int .u64 (ow nt 1))).setCell ⟨w2.heap.size,2,none⟩ (.int .u64 (ow nt 2))).setCell ⟨w2.heap.size,3,none⟩ (.int .u64 (ow nt 3))).setCell ⟨w.heap.size,0,none⟩ (.int .u64 (ow nt 0))).setCell ⟨w.heap.size,1,none⟩ (.int .u64 (ow nt 1))).setCell ⟨w.heap.size,2,none⟩ (.int .u64 (ow nt 2))).setCell ⟨w.heap.size,3,none⟩ (.int .u64 (ow nt 3))):=by
   repeat (first | (with_reducible exact hW) | refine Aga ?_ (by first | omega | (simp;omega) | simp) _ | refine Agc ?_ (by first | omega | (simp;omega) | simp) _)
  generalize ((((((((w3.setCell ⟨w2.heap.size,0,none⟩ (.int .u64 (ow nt 0))).setCell ⟨w2.heap.size,1,none⟩ (.int .u64 (ow nt 1))).setCell ⟨w2.heap.size,2,none⟩ (.int .u64 (ow nt 2))).setCell ⟨w2.heap.size,3,none⟩ (.int .u64 (ow nt 3))).setCell ⟨w.heap.size,0,none⟩ (.int .u64 (ow nt 0))).setCell ⟨w.heap.size,1,none⟩ (.int .u64 (ow nt 1))).setCell ⟨w.heap.size,2,none⟩ (.int .u64 (ow nt 2))).setCell ⟨w.heap.size,3,none⟩ (.int .u64 (ow nt 3)))=wf at hB2 hWf ⊢;clear hB1 hB0 hB hz hS c0 c1 c2 c3 g0 g1 g2 g3 d0 d1 d2 d3 f0 f1 f2 f3;obtain ⟨r0,r1,r2,r3⟩:=En hB2;refine bodyPost_ret (v:=KT (nt,(j:Int),0)) (by simp [results,results146,go_sem,r0,r1,r2,r3,KT]) rfl ⟨by rw [←HR.out,Hx.out];rfl,hWf⟩
theorem WJ (s:ByteArray) (n:Nat) (w:World) (hs:s.size≤1000000) (hn:n≤s.size) (hG:Gl w) :
  Calls prog 146 #[.string s,.int .i64 (n:Int)] w fun e w'=>e=.returned (KT (F7 s.data.toList (n:Int)))∧Below w.heap.size w w':=by
 cases hc:Vi s.data.toList n
 ·exact Ow s n w hs hn hG hc
 ·refine TB s n w hs hn hG hc ?_;unfold Vi at hc;rw [Av] at hc;simp only [Af9,decide_eq_true_eq] at hc;omega
theorem L9 (s:ByteArray) (k:Int) (w:World) (hs:s.size≤1000000) (hG:Gl w) :
  Calls prog 146 #[.string s,.int .i64 k] w fun e w'=>e=.returned (KT (F7 s.data.toList k))∧Below w.heap.size w w':=by
 by_cases h:k < 0∨(s.size:Int) < k
 ·exact TA s k w h
 ·obtain ⟨n,rfl⟩:∃ n:Nat,k=(n:Int):=⟨k.toNat,by omega⟩;exact WJ s n w hs (by omega) hG
end
section
open Go Go.RowKit
theorem Ck {F:Nat→Prop} {w:World} {d:Nd} {v:Value} (h:NdX F w d v) :
  (d=.empty∧(v=.iface 104 (.agg #[])∨v=.nilIface))∨(∃ s:OSet,d=.one s∧v=.iface 110 (.agg #[.int .u64 (ow s 0),.int .u64 (ow s 1),.int .u64 (ow s 2),.int .u64 (ow s 3)]))∨
  (∃ l a cap,d=.cat l∧v=.iface 97 (.agg #[.slice a l.length cap])∧Be F w l a cap)∨(∃ l a cap,d=.alt l∧v=.iface 98 (.agg #[.slice a l.length cap])∧Be F w l a cap)∨
  (∃ d' mn mx u,d=.rep d' mn mx∧v=.iface 100 (.agg #[u,.int .i64 mn,.int .i64 mx])∧NdX F w d' u)∨(∃ num d' u,d=.group num d'∧v=.iface 102 (.agg #[.int .i64 num,u])∧NdX F w d' u)∨
  (∃ num,d=.back num∧v=.iface 116 (.agg #[.int .i64 num]))∨(d=.start∧v=.iface 118 (.agg #[]))∨(d=.fin∧v=.iface 120 (.agg #[])):=by
 obtain ⟨n,h⟩:=h;cases n with
 | zero=>exact h.elim
 | succ n=>
  cases d with
  | empty=>exact .inl ⟨rfl,h⟩
  | one s=>exact .inr (.inl ⟨s,rfl,h⟩)
  | cat l=>obtain ⟨a,cap,h1,h2⟩:=h;exact .inr (.inr (.inl ⟨l,a,cap,rfl,h1,Be.of (n:=n) h2⟩))
  | alt l=>obtain ⟨a,cap,h1,h2⟩:=h;exact .inr (.inr (.inr (.inl ⟨l,a,cap,rfl,h1,Be.of (n:=n) h2⟩)))
  | rep d mn mx=>obtain ⟨u,h1,h2⟩:=h;exact .inr (.inr (.inr (.inr (.inl ⟨d,mn,mx,u,rfl,h1,n,h2⟩))))
  | group num d=>obtain ⟨u,h1,h2⟩:=h;exact .inr (.inr (.inr (.inr (.inr (.inl ⟨num,d,u,rfl,h1,n,h2⟩)))))
  | back num=>exact .inr (.inr (.inr (.inr (.inr (.inr (.inl ⟨num,rfl,h⟩))))))
  | start=>exact .inr (.inr (.inr (.inr (.inr (.inr (.inr (.inl ⟨rfl,h⟩)))))))
  | fin=>exact .inr (.inr (.inr (.inr (.inr (.inr (.inr (.inr ⟨rfl,h⟩)))))))
theorem IV {a b:Bool} (h:a=b):Ending.returned (.bool a)=.returned (.bool b):=by rw [h]
theorem TC {F:Nat→Prop} (d:Nd) (v:Value) (w:World) (h:NdX F w d v):Calls prog 51 #[v] w fun e w'=>e=.returned (.bool (!inAlt d))∧Below w.heap.size w w':=by
 rcases Ck h with ⟨rfl,rfl | rfl⟩ | ⟨s,rfl,rfl⟩ | ⟨l,a,cap,rfl,rfl,hr⟩ | ⟨l,a,cap,rfl,rfl,hr⟩ | ⟨d',mn,mx,u,rfl,rfl,hu⟩ | ⟨num,d',u,rfl,rfl,hu⟩ | ⟨num,rfl,rfl⟩ | ⟨rfl,rfl⟩ | ⟨rfl,rfl⟩
 all_goals
  go_enter func51,ntmps51;go_wp2_with fail
  go_ret;refine ⟨rfl,?_⟩
  repeat (first | (with_reducible exact hW) | (with_reducible exact Afv _ _) | refine Agb ?_ | refine Aga ?_ (by first | omega | (simp;omega) | simp) _ | refine Agc ?_ (by first | omega | (simp;omega) | simp) _)
def C6 (lo p:Nat) (mv cv:Value) (w:World) (d:Nd) (v:Value):Prop:=NdX (fun b=>lo≤b∧OffR p mv cv b) w d v
def BN (r:ReRes (ReSt × Nd)) (B p:Nat) (s:ByteArray) (dep:Nat) (mv cv:Value) (w:World) (e:Ending) (w':World):Prop:=
 ∃ mv' cv',RStep p w mv cv w' mv' cv'∧match r with
  | .error q=>I7 q.2 q.1 e
  | .ok q=>∃ es' v,e=.returned v∧Rd B p w' s q.1 es' dep mv' cv'∧C6 w.heap.size p mv' cv' w' q.2 v
theorem A4 {r:ReRes (ReSt × Nd)} {B p:Nat} {s:ByteArray} {dep:Nat} {mv cv mv' cv':Value} {w w':World} {e:Ending} {a b:Nat} (h:r=.error (a,b)) (hS:RStep p w mv cv w' mv' cv') (hE:I7 b a e):BN r B p s dep mv cv w e w':=by
 subst h;exact ⟨_,_,hS,hE⟩
theorem AQ {r:ReRes (ReSt × Nd)} {B p:Nat} {s:ByteArray} {dep:Nat} {mv cv mv' cv':Value} {w w':World} {v:Value} {st:ReSt} {d:Nd} {es:List Bool} (h:r=.ok (st,d)) (hS:RStep p w mv cv w' mv' cv') (hR:Rd B p w' s st es dep mv' cv') (hN:C6 w.heap.size p mv' cv' w' d v):BN r B p s dep mv cv w (.returned v) w':=by
 subst h;exact ⟨_,_,hS,es,v,rfl,hR,hN⟩
theorem BN.from {r:ReRes (ReSt × Nd)} {B p:Nat} {s:ByteArray} {dep:Nat} {mv cv mv1 cv1:Value} {w w1 w':World} {e:Ending} (h:BN r B p s dep mv1 cv1 w1 e w') (hS:RStep p w mv cv w1 mv1 cv1):BN r B p s dep mv cv w e w':=by
 obtain ⟨mv',cv',hS',hr⟩:=h;refine ⟨mv',cv',hS.trans hS',?_⟩;cases r with
 | error q=>exact hr
 | ok q=>
  obtain ⟨es',v,h1,h2,h3⟩:=hr;exact ⟨es',v,h1,h2,h3.keep (Afq _) (fun b hb _=>⟨⟨Afr hS.size hb.1,hb.2⟩,fun _=>rfl⟩)⟩
theorem Fc (lo p:Nat) (mv cv:Value) (w:World) (t:OSet):C6 lo p mv cv w (.one t) (.iface 110 (.agg #[.int .u64 (ow t 0),.int .u64 (ow t 1),.int .u64 (ow t 2),.int .u64 (ow t 3)])):=⟨1,rfl⟩
theorem Cd (lo p:Nat) (mv cv:Value) (w:World) (n:Int):C6 lo p mv cv w (.back n) (.iface 116 (.agg #[.int .i64 n])):=⟨1,rfl⟩
theorem TD (lo p:Nat) (mv cv:Value) (w:World):C6 lo p mv cv w .fin (.iface 120 (.agg #[])):=⟨1,rfl⟩
theorem TE {lo p:Nat} {mv cv:Value} {w:World} {d:Nd} {u:Value} (h:C6 lo p mv cv w d u) (a b:Int):C6 lo p mv cv w (.rep d a b) (.iface 100 (.agg #[u,.int .i64 a,.int .i64 b])):=by
 obtain ⟨n,h⟩:=h;exact ⟨n+1,u,rfl,h⟩
theorem Ox {lo p:Nat} {mv cv:Value} {w:World} {d:Nd} {u:Value} (h:C6 lo p mv cv w d u) (a:Int):C6 lo p mv cv w (.group a d) (.iface 102 (.agg #[.int .i64 a,u])):=by
 obtain ⟨n,h⟩:=h;exact ⟨n+1,u,rfl,h⟩
theorem C6.step {lo p:Nat} {mv cv mv' cv':Value} {w w':World} {d:Nd} {u:Value} (h:C6 lo p mv cv w d u) (hS:RStep p w mv cv w' mv' cv'):C6 lo p mv' cv' w' d u:=
 h.keep hS.size (fun b hb hlt=>⟨⟨hb.1,(hS.keep b hb.2 hlt).1⟩,(hS.keep b hb.2 hlt).2⟩)
theorem Oy {B:Nat} {w:World} {e:TypeId} {size n:Nat} {v:Value} {us:List Value} (h:w.ownsRow B e size v n us) (b:Nat) (hb:b < B):v.ownBlock≠some b:=fun hv=>by
 have:=(h.lt b hv).1;omega
theorem RStep.low {B p:Nat} {w w':World} {s:ByteArray} {st:ReSt} {es:List Bool} {dep:Nat} {mv cv mv' cv':Value} (hS:RStep p w mv cv w' mv' cv') (h:Rd B p w s st es dep mv cv):Below B w w':=
 ⟨hS.os,hS.tape,hS.output,hS.size,fun b hb=>(hS.block b (Aft hb (Afr h.bp (Afu h.blk.lt))) (by have:=h.bp;omega) (Oy h.mo b hb) (Oy h.co b hb)).1⟩
theorem Gl.step {B p:Nat} {w w':World} {s:ByteArray} {st:ReSt} {es:List Bool} {dep:Nat} {mv cv mv' cv':Value} (hG:Gl w) (hS:RStep p w mv cv w' mv' cv') (h:Rd B p w s st es dep mv cv) (hB:glN≤B):Gl w':=hG.below (hS.low h) hB
def EB (B p:Nat) (s:ByteArray) (st:ReSt) (es:List Bool) (dep:Nat) (sub:Option (ReSt→ReRes (ReSt × Nd))):Prop:=∀ (w2:World) (mv cv:Value),Gl w2→es.length≤st.pos→Rd B p w2 s (st.to (st.pos+2)) es dep mv cv→
 Calls prog 167 #[.pointer (some ⟨p,0,none⟩),.int .i64 (st.pos:Int)] w2 fun e w'=>BN (F6 false s.data.toList sub st) B p s dep mv cv w2 e w'
theorem TF {B p:Nat} {s:ByteArray} {st:ReSt} {es:List Bool} {dep:Nat} {mv cv:Value} (w:World) (h:Rd B p w s (st.to (st.pos+1)) es dep mv cv) (hlt:s.size=st.pos+1):Calls prog 161 #[.pointer (some ⟨p,0,none⟩),.int .i64 (st.pos:Int)] w fun e w'=>BN (.error (11,st.pos)) B p s dep mv cv w e w':=by
 obtain ⟨c0,c1,c2,c3,c4,z1,z2,z3,z4⟩:=h.cells;have hk:(st.to (st.pos+1)).pos=s.size:=hlt.symm;rw [hk] at c1;have e0:((s.size:Int) == (s.size:Int))=true:=by rw [beq_iff_eq]
 have hstp:=fun n=>RStep.of_below (p:=p) (mv:=mv) (cv:=cv) (below_drewN (Afv w.heap.size w) n)
 clear hk hlt h;go_enter func161,ntmps161;go_wp2_with fail
 go_quiet (fail)
 go_wp2_with fail
 exact ⟨rfl,A4 rfl (hstp _) rfl⟩
theorem I9 {B p:Nat} {s:ByteArray} {st:ReSt} {es:List Bool} {dep:Nat} {mv cv:Value} {w:World} (h:Rd B p w s (st.to (st.pos+1)) es dep mv cv) (hlt:st.pos+1 < s.size):∃ (k:Nat) (hlt:k < s.size),s.size≤250∧(k:Int) < (s.size:Int)∧byt s.data.toList k=s[k].toNat∧IntKind.i64.wrap ((k:Int)+1)=((k+1:Nat):Int)∧w.cell? ⟨p,0,none⟩=some (.string s)∧w.cell? ⟨p,2,none⟩=some mv∧w.cell? ⟨p,3,none⟩=some cv∧w.cell? ⟨p,4,none⟩=some (.int .i64 (dep:Int))∧w.frozen? ⟨p,1,none⟩=false∧w.frozen? ⟨p,2,none⟩=false∧w.frozen? ⟨p,3,none⟩=false∧w.frozen? ⟨p,4,none⟩=false∧w.cell? ⟨p,1,none⟩=some (.int .i64 (k:Int))∧((k:Int) == (s.size:Int))=false∧Hid (k=st.pos+1)∧Hid (∀ n,Rd B p ((w.drewN n).setCell ⟨p,1,none⟩ (.int .i64 ((k:Int)+1))) s (st.to (k+1)) es dep mv cv∧RStep p w mv cv ((w.drewN n).setCell ⟨p,1,none⟩ (.int .i64 ((k:Int)+1))) mv cv)∧Hid (Rd B p w s (st.to k) es dep mv cv):=by
 have hps:st.pos+1≤s.size:=h.pos;have hsm:=h.small;obtain ⟨k,hk⟩:∃ k,k=st.pos+1:=⟨_,rfl⟩;rw [←hk] at h hps hlt;have hk1:(k:Int) < (s.size:Int):=(by omega);have hb0:=Dk s k hlt;have Wn:IntKind.i64.wrap ((k:Int)+1)=((k+1:Nat):Int):=(by rw [Afx _ (by omega)];omega);have hgo:∀ n,Rd B p ((w.drewN n).setCell ⟨p,1,none⟩ (.int .i64 ((k:Int)+1))) s (st.to (k+1)) es dep mv cv∧RStep p w mv cv ((w.drewN n).setCell ⟨p,1,none⟩ (.int .i64 ((k:Int)+1))) mv cv:=fun n=>⟨((h.below (below_drewN (Afv w.heap.size w) n)).goto (k+1) (show k≤k+1 by omega) (show k+1≤s.size by omega)).1,(RStep.of_below (below_drewN (Afv w.heap.size w) n)).trans ((h.below (below_drewN (Afv w.heap.size w) n)).goto (k+1) (show k≤k+1 by omega) (show k+1≤s.size by omega)).2⟩;obtain ⟨c0,c1,c2,c3,c4,z1,z2,z3,z4⟩:=h.cells;replace c1:w.cell? ⟨p,1,none⟩=some (.int .i64 (k:Int)):=c1;have e0:((k:Int) == (s.size:Int))=false:=(by rw [beq_eq_false_iff_ne];omega);have HK:=Afj hk;have HGO:=Afj hgo;have H:=Afj h;clear hk hgo h hps
 exact ⟨k,hlt,hsm,hk1,hb0,Wn,c0,c2,c3,c4,z1,z2,z3,z4,c1,e0,HK,HGO,H⟩
theorem WK {B p:Nat} {s:ByteArray} {st:ReSt} {es:List Bool} {dep:Nat} {mv cv:Value} (w:World) (h:Rd B p w s (st.to (st.pos+1)) es dep mv cv) (hlt:st.pos+1 < s.size) (hc:byt s.data.toList (st.pos+1)=40) (sub:Option (ReSt→ReRes (ReSt × Nd))) (hG:Gl w) (hB:glN≤B) (hfe:es.length≤st.pos) (hgr:EB B p s st es dep sub) :
  Calls prog 161 #[.pointer (some ⟨p,0,none⟩),.int .i64 (st.pos:Int)] w fun e w'=>BN (F6 false s.data.toList sub st) B p s dep mv cv w e w':=by
 have h0:=I9 h hlt;clear h hlt;obtain ⟨k,hlt,hsm,hk1,hb0,Wn,c0,c2,c3,c4,z1,z2,z3,z4,c1,e0,HK,HGO,H⟩:=h0;rw [←HK.out,hb0] at hc;have e40:((s[k].toNat:Int) == 40)=true:=by rw [hc];decide
 have e49:((s[k].toNat:Int) == 49)=false:=by rw [hc];decide
 have e50:((s[k].toNat:Int) == 50)=false:=by rw [hc];decide
 have e51:((s[k].toNat:Int) == 51)=false:=by rw [hc];decide
 have e52:((s[k].toNat:Int) == 52)=false:=by rw [hc];decide
 have e53:((s[k].toNat:Int) == 53)=false:=by rw [hc];decide
 have e54:((s[k].toNat:Int) == 54)=false:=by rw [hc];decide
 have e55:((s[k].toNat:Int) == 55)=false:=by rw [hc];decide
 have e56:((s[k].toNat:Int) == 56)=false:=by rw [hc];decide
 have e57:((s[k].toNat:Int) == 57)=false:=by rw [hc];decide
 have e123:((s[k].toNat:Int) == 123)=false:=by rw [hc];decide
 have e43:((s[k].toNat:Int) == 43)=false:=by rw [hc];decide
 have e63:((s[k].toNat:Int) == 63)=false:=by rw [hc];decide
 have Hc:=Afj hc;clear hc hb0;have HGl:=Afj hG;clear hG;go_enter func161,ntmps161;go_wp2_with fail;go_quiet (fail);generalize nq=n1;go_wp2_with fail;go_quiet (fail);go_wp2_with fail;obtain ⟨hR,hS⟩:=HGO.out (n1+nq);rw [show k+1=st.pos+2 by rw [HK.out]] at hR;refine (hgr _ _ _ (HGl.out.step hS H.out hB) hfe hR).mono ?_;intro e w' hA;replace hA:=hA.from hS
 obtain ⟨mv',cv',hS',hr⟩:=hA;have HS':=Afj hS';clear hS';cases hg:F6 false s.data.toList sub st with
 | error q=>
  rw [hg] at hr;obtain rfl:e=_:=hr;go_wp2_with fail
  exact ⟨rfl,_,_,HS'.out,by rw [hg];exact rfl⟩
 | ok q=>
  rw [hg] at hr;obtain ⟨es',v,rfl,hR',hN'⟩:=hr;go_wp2_with fail
  go_ret;exact ⟨_,_,HS'.out,by rw [hg];exact ⟨es',v,rfl,hR',hN'⟩⟩
theorem WL {B p:Nat} {s:ByteArray} {st:ReSt} {es:List Bool} {dep:Nat} {mv cv:Value} (w:World) (h:Rd B p w s (st.to (st.pos+1)) es dep mv cv) (hlt:st.pos+1 < s.size) (hc:byt s.data.toList (st.pos+1)=43∨byt s.data.toList (st.pos+1)=63∨byt s.data.toList (st.pos+1)=123) :
  Calls prog 161 #[.pointer (some ⟨p,0,none⟩),.int .i64 (st.pos:Int)] w fun e w'=>BN (.error (10,st.pos)) B p s dep mv cv w e w':=by
 have h0:=I9 h hlt;clear h hlt;obtain ⟨k,hlt,hsm,hk1,hb0,Wn,c0,c2,c3,c4,z1,z2,z3,z4,c1,e0,HK,HGO,H⟩:=h0;rw [←HK.out,hb0] at hc;rcases hc with hc | hc | hc
 ·have e40:((s[k].toNat:Int) == 40)=false:=by rw [hc];decide
  have e49:((s[k].toNat:Int) == 49)=false:=by rw [hc];decide
  have e50:((s[k].toNat:Int) == 50)=false:=by rw [hc];decide
  have e51:((s[k].toNat:Int) == 51)=false:=by rw [hc];decide
  have e52:((s[k].toNat:Int) == 52)=false:=by rw [hc];decide
  have e53:((s[k].toNat:Int) == 53)=false:=by rw [hc];decide
  have e54:((s[k].toNat:Int) == 54)=false:=by rw [hc];decide
  have e55:((s[k].toNat:Int) == 55)=false:=by rw [hc];decide
  have e56:((s[k].toNat:Int) == 56)=false:=by rw [hc];decide
  have e57:((s[k].toNat:Int) == 57)=false:=by rw [hc];decide
  have e123:((s[k].toNat:Int) == 123)=false:=by rw [hc];decide
  have e43:((s[k].toNat:Int) == 43)=true:=by rw [hc];decide
  have e63:((s[k].toNat:Int) == 63)=false:=by rw [hc];decide
  clear hc hb0;go_enter func161,ntmps161;go_wp2_with fail;go_quiet (fail);generalize nq=n1;go_wp2_with fail;go_quiet (fail);go_wp2_with fail;exact ⟨rfl,A4 rfl (HGO.out (n1+nq)).2 rfl⟩
 ·have e40:((s[k].toNat:Int) == 40)=false:=by rw [hc];decide
  have e49:((s[k].toNat:Int) == 49)=false:=by rw [hc];decide
  have e50:((s[k].toNat:Int) == 50)=false:=by rw [hc];decide
  have e51:((s[k].toNat:Int) == 51)=false:=by rw [hc];decide
  have e52:((s[k].toNat:Int) == 52)=false:=by rw [hc];decide
  have e53:((s[k].toNat:Int) == 53)=false:=by rw [hc];decide
  have e54:((s[k].toNat:Int) == 54)=false:=by rw [hc];decide
  have e55:((s[k].toNat:Int) == 55)=false:=by rw [hc];decide
  have e56:((s[k].toNat:Int) == 56)=false:=by rw [hc];decide
  have e57:((s[k].toNat:Int) == 57)=false:=by rw [hc];decide
  have e123:((s[k].toNat:Int) == 123)=false:=by rw [hc];decide
  have e43:((s[k].toNat:Int) == 43)=false:=by rw [hc];decide
  have e63:((s[k].toNat:Int) == 63)=true:=by rw [hc];decide
  clear hc hb0;go_enter func161,ntmps161;go_wp2_with fail;go_quiet (fail);generalize nq=n1;go_wp2_with fail;go_quiet (fail);go_wp2_with fail;exact ⟨rfl,A4 rfl (HGO.out (n1+nq)).2 rfl⟩
 ·have e40:((s[k].toNat:Int) == 40)=false:=by rw [hc];decide
  have e49:((s[k].toNat:Int) == 49)=false:=by rw [hc];decide
  have e50:((s[k].toNat:Int) == 50)=false:=by rw [hc];decide
  have e51:((s[k].toNat:Int) == 51)=false:=by rw [hc];decide
  have e52:((s[k].toNat:Int) == 52)=false:=by rw [hc];decide
  have e53:((s[k].toNat:Int) == 53)=false:=by rw [hc];decide
  have e54:((s[k].toNat:Int) == 54)=false:=by rw [hc];decide
  have e55:((s[k].toNat:Int) == 55)=false:=by rw [hc];decide
  have e56:((s[k].toNat:Int) == 56)=false:=by rw [hc];decide
  have e57:((s[k].toNat:Int) == 57)=false:=by rw [hc];decide
  have e123:((s[k].toNat:Int) == 123)=true:=by rw [hc];decide
  have e43:((s[k].toNat:Int) == 43)=false:=by rw [hc];decide
  have e63:((s[k].toNat:Int) == 63)=false:=by rw [hc];decide
  clear hc hb0;go_enter func161,ntmps161;go_wp2_with fail;go_quiet (fail);generalize nq=n1;go_wp2_with fail;go_quiet (fail);go_wp2_with fail;exact ⟨rfl,A4 rfl (HGO.out (n1+nq)).2 rfl⟩
theorem WM {B p:Nat} {s:ByteArray} {st:ReSt} {es:List Bool} {dep:Nat} {mv cv:Value} (w:World) (h:Rd B p w s (st.to (st.pos+1)) es dep mv cv) (hlt:st.pos+1 < s.size) (c:Nat) (hc0:byt s.data.toList (st.pos+1)=c) (h49:49≤c) (h57:c≤57) :
  Calls prog 161 #[.pointer (some ⟨p,0,none⟩),.int .i64 (st.pos:Int)] w fun e w'=>BN (Dt false st c) B p s dep mv cv w e w':=by
 have he:Dt false st c=if st.closed.contains ((c:Int) - 48) then .ok (st.to (st.pos+2),.back ((c:Int) - 48)) else .error (9,st.pos):=by
  unfold Dt;rw [if_pos ⟨h49,h57⟩];rfl
 obtain ⟨R,hR0⟩:∃ R,R=Dt false st c:=⟨_,rfl⟩;rw [←hR0];have HR0:=Afj (hR0.trans he);clear he hR0;have hcc:=hc0;have h0:=I9 h hlt;clear h hlt;obtain ⟨k,hlt,hsm,hk1,hb0,Wn,c0,c2,c3,c4,z1,z2,z3,z4,c1,e0,HK,HGO,H⟩:=h0;rw [←HK.out,hb0] at hc0;have hcs:c=49∨c=50∨c=51∨c=52∨c=53∨c=54∨c=55∨c=56∨c=57:=by omega
 clear h49 h57 hcc;rcases hcs with hcs | hcs | hcs | hcs | hcs | hcs | hcs | hcs | hcs
 ·have hc:s[k].toNat=49:=hc0.trans hcs;have e40:((s[k].toNat:Int) == 40)=false:=by rw [hc];decide
  have e49:((s[k].toNat:Int) == 49)=true:=by rw [hc];decide
  have e50:((s[k].toNat:Int) == 50)=false:=by rw [hc];decide
  have e51:((s[k].toNat:Int) == 51)=false:=by rw [hc];decide
  have e52:((s[k].toNat:Int) == 52)=false:=by rw [hc];decide
  have e53:((s[k].toNat:Int) == 53)=false:=by rw [hc];decide
  have e54:((s[k].toNat:Int) == 54)=false:=by rw [hc];decide
  have e55:((s[k].toNat:Int) == 55)=false:=by rw [hc];decide
  have e56:((s[k].toNat:Int) == 56)=false:=by rw [hc];decide
  have e57:((s[k].toNat:Int) == 57)=false:=by rw [hc];decide
  have e123:((s[k].toNat:Int) == 123)=false:=by rw [hc];decide
  have e43:((s[k].toNat:Int) == 43)=false:=by rw [hc];decide
  have e63:((s[k].toNat:Int) == 63)=false:=by rw [hc];decide
  have Ws:IntKind.u8.wrap ((s[k].toNat:Int) - 48)=1:=by rw [hc];decide
  have HR1:=Afj (HR0.out.trans (by rw [show ((c:Int) - 48)=((1:Nat):Int) by rw [hcs];rfl]));clear hc hc0 hcs hb0;go_enter func161,ntmps161;go_wp2_with fail;go_quiet (fail);generalize nq=n1;go_wp2_with fail;go_quiet (fail);go_wp2_with fail;obtain ⟨hR,hS⟩:=HGO.out (n1+nq);cases hq:st.closed.contains ((1:Nat):Int) with
  | false=>
   refine (DW 1 st.pos _ hR (by decide) hq).mono ?_;rintro e w' ⟨hE,rfl⟩;obtain rfl:e=_:=hE;go_wp2_with fail
   exact ⟨rfl,A4 (HR1.out.trans (by rw [hq];rfl)) hS rfl⟩
  | true=>
   refine (Dr 1 st.pos _ hR (by decide) hq).mono ?_;rintro e w' ⟨rfl,rfl⟩;go_wp2_with fail
   go_ret;exact AQ (HR1.out.trans (by rw [hq];rfl)) hS (by rw [show k+1=st.pos+2 by rw [HK.out]] at hR;exact hR) (Cd _ _ _ _ _ _)
 ·have hc:s[k].toNat=50:=hc0.trans hcs;have e40:((s[k].toNat:Int) == 40)=false:=by rw [hc];decide
  have e49:((s[k].toNat:Int) == 49)=false:=by rw [hc];decide
  have e50:((s[k].toNat:Int) == 50)=true:=by rw [hc];decide
  have e51:((s[k].toNat:Int) == 51)=false:=by rw [hc];decide
  have e52:((s[k].toNat:Int) == 52)=false:=by rw [hc];decide
  have e53:((s[k].toNat:Int) == 53)=false:=by rw [hc];decide
  have e54:((s[k].toNat:Int) == 54)=false:=by rw [hc];decide
  have e55:((s[k].toNat:Int) == 55)=false:=by rw [hc];decide
  have e56:((s[k].toNat:Int) == 56)=false:=by rw [hc];decide
  have e57:((s[k].toNat:Int) == 57)=false:=by rw [hc];decide
  have e123:((s[k].toNat:Int) == 123)=false:=by rw [hc];decide
  have e43:((s[k].toNat:Int) == 43)=false:=by rw [hc];decide
  have e63:((s[k].toNat:Int) == 63)=false:=by rw [hc];decide
  have Ws:IntKind.u8.wrap ((s[k].toNat:Int) - 48)=2:=by rw [hc];decide
  have HR1:=Afj (HR0.out.trans (by rw [show ((c:Int) - 48)=((2:Nat):Int) by rw [hcs];rfl]));clear hc hc0 hcs hb0;go_enter func161,ntmps161;go_wp2_with fail;go_quiet (fail);generalize nq=n1;go_wp2_with fail;go_quiet (fail);go_wp2_with fail;obtain ⟨hR,hS⟩:=HGO.out (n1+nq);cases hq:st.closed.contains ((2:Nat):Int) with
  | false=>
   refine (DW 2 st.pos _ hR (by decide) hq).mono ?_;rintro e w' ⟨hE,rfl⟩;obtain rfl:e=_:=hE;go_wp2_with fail
   exact ⟨rfl,A4 (HR1.out.trans (by rw [hq];rfl)) hS rfl⟩
  | true=>
   refine (Dr 2 st.pos _ hR (by decide) hq).mono ?_;rintro e w' ⟨rfl,rfl⟩;go_wp2_with fail
   go_ret;exact AQ (HR1.out.trans (by rw [hq];rfl)) hS (by rw [show k+1=st.pos+2 by rw [HK.out]] at hR;exact hR) (Cd _ _ _ _ _ _)
 ·have hc:s[k].toNat=51:=hc0.trans hcs;have e40:((s[k].toNat:Int) == 40)=false:=by rw [hc];decide
  have e49:((s[k].toNat:Int) == 49)=false:=by rw [hc];decide
  have e50:((s[k].toNat:Int) == 50)=false:=by rw [hc];decide
  have e51:((s[k].toNat:Int) == 51)=true:=by rw [hc];decide
  have e52:((s[k].toNat:Int) == 52)=false:=by rw [hc];decide
  have e53:((s[k].toNat:Int) == 53)=false:=by rw [hc];decide
  have e54:((s[k].toNat:Int) == 54)=false:=by rw [hc];decide
  have e55:((s[k].toNat:Int) == 55)=false:=by rw [hc];decide
  have e56:((s[k].toNat:Int) == 56)=false:=by rw [hc];decide
  have e57:((s[k].toNat:Int) == 57)=false:=by rw [hc];decide
  have e123:((s[k].toNat:Int) == 123)=false:=by rw [hc];decide
  have e43:((s[k].toNat:Int) == 43)=false:=by rw [hc];decide
  have e63:((s[k].toNat:Int) == 63)=false:=by rw [hc];decide
  have Ws:IntKind.u8.wrap ((s[k].toNat:Int) - 48)=3:=by rw [hc];decide
  have HR1:=Afj (HR0.out.trans (by rw [show ((c:Int) - 48)=((3:Nat):Int) by rw [hcs];rfl]));clear hc hc0 hcs hb0;go_enter func161,ntmps161;go_wp2_with fail;go_quiet (fail);generalize nq=n1;go_wp2_with fail;go_quiet (fail);go_wp2_with fail;obtain ⟨hR,hS⟩:=HGO.out (n1+nq);cases hq:st.closed.contains ((3:Nat):Int) with
  | false=>
   refine (DW 3 st.pos _ hR (by decide) hq).mono ?_;rintro e w' ⟨hE,rfl⟩;obtain rfl:e=_:=hE;go_wp2_with fail
   exact ⟨rfl,A4 (HR1.out.trans (by rw [hq];rfl)) hS rfl⟩
  | true=>
   refine (Dr 3 st.pos _ hR (by decide) hq).mono ?_;rintro e w' ⟨rfl,rfl⟩;go_wp2_with fail
   go_ret;exact AQ (HR1.out.trans (by rw [hq];rfl)) hS (by rw [show k+1=st.pos+2 by rw [HK.out]] at hR;exact hR) (Cd _ _ _ _ _ _)
 ·have hc:s[k].toNat=52:=hc0.trans hcs;have e40:((s[k].toNat:Int) == 40)=false:=by rw [hc];decide
  have e49:((s[k].toNat:Int) == 49)=false:=by rw [hc];decide
  have e50:((s[k].toNat:Int) == 50)=false:=by rw [hc];decide
  have e51:((s[k].toNat:Int) == 51)=false:=by rw [hc];decide
  have e52:((s[k].toNat:Int) == 52)=true:=by rw [hc];decide
  have e53:((s[k].toNat:Int) == 53)=false:=by rw [hc];decide
  have e54:((s[k].toNat:Int) == 54)=false:=by rw [hc];decide
  have e55:((s[k].toNat:Int) == 55)=false:=by rw [hc];decide
  have e56:((s[k].toNat:Int) == 56)=false:=by rw [hc];decide
  have e57:((s[k].toNat:Int) == 57)=false:=by rw [hc];decide
  have e123:((s[k].toNat:Int) == 123)=false:=by rw [hc];decide
  have e43:((s[k].toNat:Int) == 43)=false:=by rw [hc];decide
  have e63:((s[k].toNat:Int) == 63)=false:=by rw [hc];decide
  have Ws:IntKind.u8.wrap ((s[k].toNat:Int) - 48)=4:=by rw [hc];decide
  have HR1:=Afj (HR0.out.trans (by rw [show ((c:Int) - 48)=((4:Nat):Int) by rw [hcs];rfl]));clear hc hc0 hcs hb0;go_enter func161,ntmps161;go_wp2_with fail;go_quiet (fail);generalize nq=n1;go_wp2_with fail;go_quiet (fail);go_wp2_with fail;obtain ⟨hR,hS⟩:=HGO.out (n1+nq);cases hq:st.closed.contains ((4:Nat):Int) with
  | false=>
   refine (DW 4 st.pos _ hR (by decide) hq).mono ?_;rintro e w' ⟨hE,rfl⟩;obtain rfl:e=_:=hE;go_wp2_with fail
   exact ⟨rfl,A4 (HR1.out.trans (by rw [hq];rfl)) hS rfl⟩
  | true=>
   refine (Dr 4 st.pos _ hR (by decide) hq).mono ?_;rintro e w' ⟨rfl,rfl⟩;go_wp2_with fail
   go_ret;exact AQ (HR1.out.trans (by rw [hq];rfl)) hS (by rw [show k+1=st.pos+2 by rw [HK.out]] at hR;exact hR) (Cd _ _ _ _ _ _)
 ·have hc:s[k].toNat=53:=hc0.trans hcs;have e40:((s[k].toNat:Int) == 40)=false:=by rw [hc];decide
  have e49:((s[k].toNat:Int) == 49)=false:=by rw [hc];decide
  have e50:((s[k].toNat:Int) == 50)=false:=by rw [hc];decide
  have e51:((s[k].toNat:Int) == 51)=false:=by rw [hc];decide
  have e52:((s[k].toNat:Int) == 52)=false:=by rw [hc];decide
  have e53:((s[k].toNat:Int) == 53)=true:=by rw [hc];decide
  have e54:((s[k].toNat:Int) == 54)=false:=by rw [hc];decide
  have e55:((s[k].toNat:Int) == 55)=false:=by rw [hc];decide
  have e56:((s[k].toNat:Int) == 56)=false:=by rw [hc];decide
  have e57:((s[k].toNat:Int) == 57)=false:=by rw [hc];decide
  have e123:((s[k].toNat:Int) == 123)=false:=by rw [hc];decide
  have e43:((s[k].toNat:Int) == 43)=false:=by rw [hc];decide
  have e63:((s[k].toNat:Int) == 63)=false:=by rw [hc];decide
  have Ws:IntKind.u8.wrap ((s[k].toNat:Int) - 48)=5:=by rw [hc];decide
  have HR1:=Afj (HR0.out.trans (by rw [show ((c:Int) - 48)=((5:Nat):Int) by rw [hcs];rfl]));clear hc hc0 hcs hb0;go_enter func161,ntmps161;go_wp2_with fail;go_quiet (fail);generalize nq=n1;go_wp2_with fail;go_quiet (fail);go_wp2_with fail;obtain ⟨hR,hS⟩:=HGO.out (n1+nq);cases hq:st.closed.contains ((5:Nat):Int) with
  | false=>
   refine (DW 5 st.pos _ hR (by decide) hq).mono ?_;rintro e w' ⟨hE,rfl⟩;obtain rfl:e=_:=hE;go_wp2_with fail
   exact ⟨rfl,A4 (HR1.out.trans (by rw [hq];rfl)) hS rfl⟩
  | true=>
   refine (Dr 5 st.pos _ hR (by decide) hq).mono ?_;rintro e w' ⟨rfl,rfl⟩;go_wp2_with fail
   go_ret;exact AQ (HR1.out.trans (by rw [hq];rfl)) hS (by rw [show k+1=st.pos+2 by rw [HK.out]] at hR;exact hR) (Cd _ _ _ _ _ _)
 ·have hc:s[k].toNat=54:=hc0.trans hcs;have e40:((s[k].toNat:Int) == 40)=false:=by rw [hc];decide
  have e49:((s[k].toNat:Int) == 49)=false:=by rw [hc];decide
  have e50:((s[k].toNat:Int) == 50)=false:=by rw [hc];decide
  have e51:((s[k].toNat:Int) == 51)=false:=by rw [hc];decide
  have e52:((s[k].toNat:Int) == 52)=false:=by rw [hc];decide
  have e53:((s[k].toNat:Int) == 53)=false:=by rw [hc];decide
  have e54:((s[k].toNat:Int) == 54)=true:=by rw [hc];decide
  have e55:((s[k].toNat:Int) == 55)=false:=by rw [hc];decide
  have e56:((s[k].toNat:Int) == 56)=false:=by rw [hc];decide
  have e57:((s[k].toNat:Int) == 57)=false:=by rw [hc];decide
  have e123:((s[k].toNat:Int) == 123)=false:=by rw [hc];decide
  have e43:((s[k].toNat:Int) == 43)=false:=by rw [hc];decide
  have e63:((s[k].toNat:Int) == 63)=false:=by rw [hc];decide
  have Ws:IntKind.u8.wrap ((s[k].toNat:Int) - 48)=6:=by rw [hc];decide
  have HR1:=Afj (HR0.out.trans (by rw [show ((c:Int) - 48)=((6:Nat):Int) by rw [hcs];rfl]));clear hc hc0 hcs hb0;go_enter func161,ntmps161;go_wp2_with fail;go_quiet (fail);generalize nq=n1;go_wp2_with fail;go_quiet (fail);go_wp2_with fail;obtain ⟨hR,hS⟩:=HGO.out (n1+nq);cases hq:st.closed.contains ((6:Nat):Int) with
  | false=>
   refine (DW 6 st.pos _ hR (by decide) hq).mono ?_;rintro e w' ⟨hE,rfl⟩;obtain rfl:e=_:=hE;go_wp2_with fail
   exact ⟨rfl,A4 (HR1.out.trans (by rw [hq];rfl)) hS rfl⟩
  | true=>
   refine (Dr 6 st.pos _ hR (by decide) hq).mono ?_;rintro e w' ⟨rfl,rfl⟩;go_wp2_with fail
   go_ret;exact AQ (HR1.out.trans (by rw [hq];rfl)) hS (by rw [show k+1=st.pos+2 by rw [HK.out]] at hR;exact hR) (Cd _ _ _ _ _ _)
 ·have hc:s[k].toNat=55:=hc0.trans hcs;have e40:((s[k].toNat:Int) == 40)=false:=by rw [hc];decide
  have e49:((s[k].toNat:Int) == 49)=false:=by rw [hc];decide
  have e50:((s[k].toNat:Int) == 50)=false:=by rw [hc];decide
  have e51:((s[k].toNat:Int) == 51)=false:=by rw [hc];decide
  have e52:((s[k].toNat:Int) == 52)=false:=by rw [hc];decide
  have e53:((s[k].toNat:Int) == 53)=false:=by rw [hc];decide
  have e54:((s[k].toNat:Int) == 54)=false:=by rw [hc];decide
  have e55:((s[k].toNat:Int) == 55)=true:=by rw [hc];decide
  have e56:((s[k].toNat:Int) == 56)=false:=by rw [hc];decide
  have e57:((s[k].toNat:Int) == 57)=false:=by rw [hc];decide
  have e123:((s[k].toNat:Int) == 123)=false:=by rw [hc];decide
  have e43:((s[k].toNat:Int) == 43)=false:=by rw [hc];decide
  have e63:((s[k].toNat:Int) == 63)=false:=by rw [hc];decide
  have Ws:IntKind.u8.wrap ((s[k].toNat:Int) - 48)=7:=by rw [hc];decide
  have HR1:=Afj (HR0.out.trans (by rw [show ((c:Int) - 48)=((7:Nat):Int) by rw [hcs];rfl]));clear hc hc0 hcs hb0;go_enter func161,ntmps161;go_wp2_with fail;go_quiet (fail);generalize nq=n1;go_wp2_with fail;go_quiet (fail);go_wp2_with fail;obtain ⟨hR,hS⟩:=HGO.out (n1+nq);cases hq:st.closed.contains ((7:Nat):Int) with
  | false=>
   refine (DW 7 st.pos _ hR (by decide) hq).mono ?_;rintro e w' ⟨hE,rfl⟩;obtain rfl:e=_:=hE;go_wp2_with fail
   exact ⟨rfl,A4 (HR1.out.trans (by rw [hq];rfl)) hS rfl⟩
  | true=>
   refine (Dr 7 st.pos _ hR (by decide) hq).mono ?_;rintro e w' ⟨rfl,rfl⟩;go_wp2_with fail
   go_ret;exact AQ (HR1.out.trans (by rw [hq];rfl)) hS (by rw [show k+1=st.pos+2 by rw [HK.out]] at hR;exact hR) (Cd _ _ _ _ _ _)
 ·have hc:s[k].toNat=56:=hc0.trans hcs;have e40:((s[k].toNat:Int) == 40)=false:=by rw [hc];decide
  have e49:((s[k].toNat:Int) == 49)=false:=by rw [hc];decide
  have e50:((s[k].toNat:Int) == 50)=false:=by rw [hc];decide
  have e51:((s[k].toNat:Int) == 51)=false:=by rw [hc];decide
  have e52:((s[k].toNat:Int) == 52)=false:=by rw [hc];decide
  have e53:((s[k].toNat:Int) == 53)=false:=by rw [hc];decide
  have e54:((s[k].toNat:Int) == 54)=false:=by rw [hc];decide
  have e55:((s[k].toNat:Int) == 55)=false:=by rw [hc];decide
  have e56:((s[k].toNat:Int) == 56)=true:=by rw [hc];decide
  have e57:((s[k].toNat:Int) == 57)=false:=by rw [hc];decide
  have e123:((s[k].toNat:Int) == 123)=false:=by rw [hc];decide
  have e43:((s[k].toNat:Int) == 43)=false:=by rw [hc];decide
  have e63:((s[k].toNat:Int) == 63)=false:=by rw [hc];decide
  have Ws:IntKind.u8.wrap ((s[k].toNat:Int) - 48)=8:=by rw [hc];decide
  have HR1:=Afj (HR0.out.trans (by rw [show ((c:Int) - 48)=((8:Nat):Int) by rw [hcs];rfl]));clear hc hc0 hcs hb0;go_enter func161,ntmps161;go_wp2_with fail;go_quiet (fail);generalize nq=n1;go_wp2_with fail;go_quiet (fail);go_wp2_with fail;obtain ⟨hR,hS⟩:=HGO.out (n1+nq);cases hq:st.closed.contains ((8:Nat):Int) with
  | false=>
   refine (DW 8 st.pos _ hR (by decide) hq).mono ?_;rintro e w' ⟨hE,rfl⟩;obtain rfl:e=_:=hE;go_wp2_with fail
   exact ⟨rfl,A4 (HR1.out.trans (by rw [hq];rfl)) hS rfl⟩
  | true=>
   refine (Dr 8 st.pos _ hR (by decide) hq).mono ?_;rintro e w' ⟨rfl,rfl⟩;go_wp2_with fail
   go_ret;exact AQ (HR1.out.trans (by rw [hq];rfl)) hS (by rw [show k+1=st.pos+2 by rw [HK.out]] at hR;exact hR) (Cd _ _ _ _ _ _)
 ·have hc:s[k].toNat=57:=hc0.trans hcs;have e40:((s[k].toNat:Int) == 40)=false:=by rw [hc];decide
  have e49:((s[k].toNat:Int) == 49)=false:=by rw [hc];decide
  have e50:((s[k].toNat:Int) == 50)=false:=by rw [hc];decide
  have e51:((s[k].toNat:Int) == 51)=false:=by rw [hc];decide
  have e52:((s[k].toNat:Int) == 52)=false:=by rw [hc];decide
  have e53:((s[k].toNat:Int) == 53)=false:=by rw [hc];decide
  have e54:((s[k].toNat:Int) == 54)=false:=by rw [hc];decide
  have e55:((s[k].toNat:Int) == 55)=false:=by rw [hc];decide
  have e56:((s[k].toNat:Int) == 56)=false:=by rw [hc];decide
  have e57:((s[k].toNat:Int) == 57)=true:=by rw [hc];decide
  have e123:((s[k].toNat:Int) == 123)=false:=by rw [hc];decide
  have e43:((s[k].toNat:Int) == 43)=false:=by rw [hc];decide
  have e63:((s[k].toNat:Int) == 63)=false:=by rw [hc];decide
  have Ws:IntKind.u8.wrap ((s[k].toNat:Int) - 48)=9:=by rw [hc];decide
  have HR1:=Afj (HR0.out.trans (by rw [show ((c:Int) - 48)=((9:Nat):Int) by rw [hcs];rfl]));clear hc hc0 hcs hb0;go_enter func161,ntmps161;go_wp2_with fail;go_quiet (fail);generalize nq=n1;go_wp2_with fail;go_quiet (fail);go_wp2_with fail;obtain ⟨hR,hS⟩:=HGO.out (n1+nq);cases hq:st.closed.contains ((9:Nat):Int) with
  | false=>
   refine (DW 9 st.pos _ hR (by decide) hq).mono ?_;rintro e w' ⟨hE,rfl⟩;obtain rfl:e=_:=hE;go_wp2_with fail
   exact ⟨rfl,A4 (HR1.out.trans (by rw [hq];rfl)) hS rfl⟩
  | true=>
   refine (Dr 9 st.pos _ hR (by decide) hq).mono ?_;rintro e w' ⟨rfl,rfl⟩;go_wp2_with fail
   go_ret;exact AQ (HR1.out.trans (by rw [hq];rfl)) hS (by rw [show k+1=st.pos+2 by rw [HK.out]] at hR;exact hR) (Cd _ _ _ _ _ _)
theorem TG (W:World) (m:Nat × Nat) (g:Nat) (hg:W.heap.size=g):∀ j u,(Ez m)[j]?=some u→(W.alloc (.cells #[.int .i64 (m.1:Int),.string ⟨#[92,UInt8.ofNat m.2]⟩] 33)).cell? ((⟨g,0,none⟩:Addr).add j)=some u:=by
 have hb:=Blk.new W #[.int .i64 (m.1:Int),.string ⟨#[92,UInt8.ofNat m.2]⟩] 33 g hg.symm;intro j u hu;rw [Go.WideShapes.add_plain,Nat.zero_add,hb.cell j,←Array.getElem?_toList];exact hu
def Io (c:Nat):Prop:=c≠40∧¬ (49≤c∧c≤57)∧c≠43∧c≠63∧c≠123
theorem TH {B p:Nat} {s:ByteArray} {st:ReSt} {es:List Bool} {dep:Nat} {mv cv:Value} (w:World) (h:Rd B p w s (st.to (st.pos+1)) es dep mv cv) (hlt:st.pos+1 < s.size) (c:Nat) (hc0:byt s.data.toList (st.pos+1)=c) (hno:Io c) (hes:CJ c=none) :
  Calls prog 161 #[.pointer (some ⟨p,0,none⟩),.int .i64 (st.pos:Int)] w fun e w'=>BN (.error (2,st.pos)) B p s dep mv cv w e w':=by
 have h0:=I9 h hlt;clear h hlt;obtain ⟨k,hlt,hsm,hk1,hb0,Wn,c0,c2,c3,c4,z1,z2,z3,z4,c1,e0,HK,HGO,H⟩:=h0;rw [←HK.out,hb0] at hc0;obtain ⟨n1',n2',n3',n4',n5'⟩:=hno;have hc:s[k].toNat=c:=hc0;have hc256:c < 256:=(by rw [←hc];exact UInt8.toNat_lt _);have e40:((s[k].toNat:Int) == 40)=false:=by rw [hc,beq_eq_false_iff_ne];omega
 have e49:((s[k].toNat:Int) == 49)=false:=by rw [hc,beq_eq_false_iff_ne];omega
 have e50:((s[k].toNat:Int) == 50)=false:=by rw [hc,beq_eq_false_iff_ne];omega
 have e51:((s[k].toNat:Int) == 51)=false:=by rw [hc,beq_eq_false_iff_ne];omega
 have e52:((s[k].toNat:Int) == 52)=false:=by rw [hc,beq_eq_false_iff_ne];omega
 have e53:((s[k].toNat:Int) == 53)=false:=by rw [hc,beq_eq_false_iff_ne];omega
 have e54:((s[k].toNat:Int) == 54)=false:=by rw [hc,beq_eq_false_iff_ne];omega
 have e55:((s[k].toNat:Int) == 55)=false:=by rw [hc,beq_eq_false_iff_ne];omega
 have e56:((s[k].toNat:Int) == 56)=false:=by rw [hc,beq_eq_false_iff_ne];omega
 have e57:((s[k].toNat:Int) == 57)=false:=by rw [hc,beq_eq_false_iff_ne];omega
 have e123:((s[k].toNat:Int) == 123)=false:=by rw [hc,beq_eq_false_iff_ne];omega
 have e43:((s[k].toNat:Int) == 43)=false:=by rw [hc,beq_eq_false_iff_ne];omega
 have e63:((s[k].toNat:Int) == 63)=false:=by rw [hc,beq_eq_false_iff_ne];omega
 have he:=fun w=>Gn s[k].toNat (UInt8.toNat_lt _) w
 rw [hc] at he;rw [hes,←hc,show Qv none=.tuple #[.agg #[.int .u64 0,.int .u64 0,.int .u64 0,.int .u64 0],.bool false,.bool false] from rfl] at he;clear hc hc0 hes hb0 n1' n2' n3' n4' n5' hc256;go_enter func161,ntmps161;go_wp2_with fail;go_quiet (fail);generalize nq=n1;go_wp2_with fail;go_quiet (fail);go_wp2_with fail;refine (he _).mono ?_;rintro e w1 ⟨rfl,b1⟩;have hS1:=((HGO.out (n1+nq)).2.trans (RStep.of_below (p:=p) (mv:=mv) (cv:=cv) b1))
 have hS2:=hS1.trans (RStep.of_below (p:=p) (mv:=mv) (cv:=cv) ((Afv w1.heap.size w1).alloc (Afq _) (.cells #[.int .u64 0,.int .u64 0,.int .u64 0,.int .u64 0] 108)));have HS2:=Afj hS2;clear hS1 hS2 b1;go_wp2_with fail
 exact ⟨rfl,A4 rfl HS2.out rfl⟩
theorem WN {B p:Nat} {s:ByteArray} {st:ReSt} {es:List Bool} {dep:Nat} {mv cv:Value} (w:World) (h:Rd B p w s (st.to (st.pos+1)) es dep mv cv) (hlt:st.pos+1 < s.size) (c:Nat) (hc0:byt s.data.toList (st.pos+1)=c) (hno:Io c) (t:OSet) (hes:CJ c=some (t,false)) :
  Calls prog 161 #[.pointer (some ⟨p,0,none⟩),.int .i64 (st.pos:Int)] w fun e w'=>BN (.ok (st.to (st.pos+2),.one t)) B p s dep mv cv w e w':=by
 have h0:=I9 h hlt;clear h hlt;obtain ⟨k,hlt,hsm,hk1,hb0,Wn,c0,c2,c3,c4,z1,z2,z3,z4,c1,e0,HK,HGO,H⟩:=h0;rw [←HK.out,hb0] at hc0;obtain ⟨n1',n2',n3',n4',n5'⟩:=hno;have hc:s[k].toNat=c:=hc0;have hc256:c < 256:=(by rw [←hc];exact UInt8.toNat_lt _);have e40:((s[k].toNat:Int) == 40)=false:=by rw [hc,beq_eq_false_iff_ne];omega
 have e49:((s[k].toNat:Int) == 49)=false:=by rw [hc,beq_eq_false_iff_ne];omega
 have e50:((s[k].toNat:Int) == 50)=false:=by rw [hc,beq_eq_false_iff_ne];omega
 have e51:((s[k].toNat:Int) == 51)=false:=by rw [hc,beq_eq_false_iff_ne];omega
 have e52:((s[k].toNat:Int) == 52)=false:=by rw [hc,beq_eq_false_iff_ne];omega
 have e53:((s[k].toNat:Int) == 53)=false:=by rw [hc,beq_eq_false_iff_ne];omega
 have e54:((s[k].toNat:Int) == 54)=false:=by rw [hc,beq_eq_false_iff_ne];omega
 have e55:((s[k].toNat:Int) == 55)=false:=by rw [hc,beq_eq_false_iff_ne];omega
 have e56:((s[k].toNat:Int) == 56)=false:=by rw [hc,beq_eq_false_iff_ne];omega
 have e57:((s[k].toNat:Int) == 57)=false:=by rw [hc,beq_eq_false_iff_ne];omega
 have e123:((s[k].toNat:Int) == 123)=false:=by rw [hc,beq_eq_false_iff_ne];omega
 have e43:((s[k].toNat:Int) == 43)=false:=by rw [hc,beq_eq_false_iff_ne];omega
 have e63:((s[k].toNat:Int) == 63)=false:=by rw [hc,beq_eq_false_iff_ne];omega
 have he:=fun w=>Gn s[k].toNat (UInt8.toNat_lt _) w
 rw [hc] at he;rw [hes,←hc,show Qv (some (t,false))=.tuple #[.agg #[.int .u64 (ow t 0),.int .u64 (ow t 1),.int .u64 (ow t 2),.int .u64 (ow t 3)],.bool false,.bool true] from rfl] at he;clear hc hc0 hes hb0 n1' n2' n3' n4' n5' hc256;go_enter func161,ntmps161;go_wp2_with fail;go_quiet (fail);generalize nq=n1;go_wp2_with fail;go_quiet (fail);go_wp2_with fail;refine (he _).mono ?_;rintro e w1 ⟨rfl,b1⟩;have hR:=(HGO.out (n1+nq)).1;rw [show k+1=st.pos+2 by rw [HK.out]] at hR;have hA:=(Afv w1.heap.size w1).alloc (Afq _) (.cells #[.int .u64 (ow t 0),.int .u64 (ow t 1),.int .u64 (ow t 2),.int .u64 (ow t 3)] 108);have HR:=Afj ((hR.below b1).below hA);have HS2:=Afj (((HGO.out (n1+nq)).2.trans (RStep.of_below (p:=p) (mv:=mv) (cv:=cv) b1)).trans (RStep.of_below (p:=p) (mv:=mv) (cv:=cv) hA));clear b1 hA hR;go_wp2_with fail
 go_ret;exact AQ rfl HS2.out HR.out (Fc _ _ _ _ _ _)
theorem TI {B p:Nat} {s:ByteArray} {st:ReSt} {es:List Bool} {dep:Nat} {mv cv:Value} (w:World) (h:Rd B p w s (st.to (st.pos+1)) es dep mv cv) (hlt:st.pos+1 < s.size) (c:Nat) (hc0:byt s.data.toList (st.pos+1)=c) (hno:Io c) (t:OSet) (hes:CJ c=some (t,true)) :
  Calls prog 161 #[.pointer (some ⟨p,0,none⟩),.int .i64 (st.pos:Int)] w fun e w'=>BN (.ok ((st.mark c).to (st.pos+2),.one t)) B p s dep mv cv w e w':=by
 have h0:=I9 h hlt;clear h hlt;obtain ⟨k,hlt,hsm,hk1,hb0,Wn,c0,c2,c3,c4,z1,z2,z3,z4,c1,e0,HK,HGO,H⟩:=h0;rw [←HK.out,hb0] at hc0;obtain ⟨n1',n2',n3',n4',n5'⟩:=hno;have hc:s[k].toNat=c:=hc0;have hc256:c < 256:=(by rw [←hc];exact UInt8.toNat_lt _);have e40:((s[k].toNat:Int) == 40)=false:=by rw [hc,beq_eq_false_iff_ne];omega
 have e49:((s[k].toNat:Int) == 49)=false:=by rw [hc,beq_eq_false_iff_ne];omega
 have e50:((s[k].toNat:Int) == 50)=false:=by rw [hc,beq_eq_false_iff_ne];omega
 have e51:((s[k].toNat:Int) == 51)=false:=by rw [hc,beq_eq_false_iff_ne];omega
 have e52:((s[k].toNat:Int) == 52)=false:=by rw [hc,beq_eq_false_iff_ne];omega
 have e53:((s[k].toNat:Int) == 53)=false:=by rw [hc,beq_eq_false_iff_ne];omega
 have e54:((s[k].toNat:Int) == 54)=false:=by rw [hc,beq_eq_false_iff_ne];omega
 have e55:((s[k].toNat:Int) == 55)=false:=by rw [hc,beq_eq_false_iff_ne];omega
 have e56:((s[k].toNat:Int) == 56)=false:=by rw [hc,beq_eq_false_iff_ne];omega
 have e57:((s[k].toNat:Int) == 57)=false:=by rw [hc,beq_eq_false_iff_ne];omega
 have e123:((s[k].toNat:Int) == 123)=false:=by rw [hc,beq_eq_false_iff_ne];omega
 have e43:((s[k].toNat:Int) == 43)=false:=by rw [hc,beq_eq_false_iff_ne];omega
 have e63:((s[k].toNat:Int) == 63)=false:=by rw [hc,beq_eq_false_iff_ne];omega
 have he:=fun w=>Gn s[k].toNat (UInt8.toNat_lt _) w
 rw [hc] at he;have hcv:∀ W:World,(convert 164 9 (.slice (some ⟨W.heap.size,0,none⟩) 2 2)).run prog (W.alloc (.cells #[.int .u8 92,.int .u8 (s[k].toNat:Int)] 5)).drew=.ok (.string ⟨#[92,UInt8.ofNat c]⟩) (W.alloc (.cells #[.int .u8 92,.int .u8 (s[k].toNat:Int)] 5)).drew:=fun W=>by
  rw [Gj W 92 (s[k].toNat:Int),hc];rfl
 obtain ⟨i0,hi,hz0,hz1,hz2⟩:=C3;rw [hes,←hc,show Qv (some (t,true))=.tuple #[.agg #[.int .u64 (ow t 0),.int .u64 (ow t 1),.int .u64 (ow t 2),.int .u64 (ow t 3)],.bool true,.bool true] from rfl] at he;have hfew:=H.out.few.1;have hfew2:st.marks.length≤k:=hfew;clear hc hc0 hes hb0 n1' n2' n3' n4' n5' hfew;go_enter func161,ntmps161;go_wp2_with fail;go_quiet (fail);generalize nq=n1;go_wp2_with fail;go_quiet (fail);go_wp2_with fail;refine (he _).mono ?_;rintro e w1 ⟨rfl,b1⟩;have hR:=(HGO.out (n1+nq)).1;have HS1:=Afj ((HGO.out (n1+nq)).2.trans (RStep.of_below (p:=p) (mv:=mv) (cv:=cv) b1));have hR1:=hR.below b1;clear hR b1 c0 c1 c2 c3 c4 z1 z2 z3 z4;have hA:=(Afv w1.heap.size w1).alloc (Afq _) (.cells #[.int .u64 (ow t 0),.int .u64 (ow t 1),.int .u64 (ow t 2),.int .u64 (ow t 3)] 108);have hRA:=hR1.below hA;have hPA:=Blk.new w1 #[.int .u64 (ow t 0),.int .u64 (ow t 1),.int .u64 (ow t 2),.int .u64 (ow t 3)] 108 w1.heap.size rfl;have HSA:=Afj (HS1.out.trans (RStep.of_below (p:=p) (mv:=mv) (cv:=cv) hA));have hmq:mv.ownBlock≠some w1.heap.size:=fun hv=>by have:=AF hR1.mo _ hv;omega
 have hq2:w1.heap.size < (w1.alloc (.cells #[.int .u64 (ow t 0),.int .u64 (ow t 1),.int .u64 (ow t 2),.int .u64 (ow t 3)] 108)).heap.size:=by simp
 have hpq:w1.heap.size≠p:=fun e=>by have:=hR1.blk.lt;omega
 have hpq2:p≠w1.heap.size:=fun e=>hpq e.symm
 clear hA hR1;go_upto_region 26 with fail;generalize hw2:w1.alloc (.cells #[.int .u64 (ow t 0),.int .u64 (ow t 1),.int .u64 (ow t 2),.int .u64 (ow t 3)] 108)=w2 at *;generalize hq:w1.heap.size=q at *;clear hw2 hq;have hpl:=hRA.blk.lt;have hBp:=hRA.bp;obtain ⟨c0,c1,c2,c3,c4,z1,z2,z3,z4⟩:=hRA.cells;have hcv2:=hcv w2;have hv1:∀ u∈Ez (st.pos,c),u.oneCell'=true:=by intro u hu;simp [Ez] at hu;rcases hu with rfl | rfl <;> rfl
 have hm1:st.marks.length+1≤maxLen:=by unfold maxLen;omega
 have hm2:(st.marks.length+1) * 24≤140737488355328:=by omega
 have HRA:=Afj hRA;have HPA:=Afj hPA;clear hcv;clear hRA hPA
 go_region_law (first
  | (refine A6 rfl _ _ 26 rfl B 33 i0 (.agg #[.int .i64 0,.string ⟨#[]⟩]) 2 24 underlying26 hi hz0 hz1 hz2 rfl (by decide) mv st.marks.length (marksC st.marks) rfl (Ah HRA.out.mo (by repeat (first | (with_reducible exact Afv _ _) | refine Agb ?_ | refine below_drewN ?_ _ | refine Agc ?_ (by first | omega | (simp;omega) | simp) _))) (some ⟨w2.heap.size+1,0,none⟩) 1 1 (Ez (st.pos,c)) rfl rfl (fun _=>⟨_,rfl,TG _ _ _ (by simp)⟩) hv1 hm1 hm2 (by simp;omega) ?_;intro v6 w6 hown6 hgrow6 hat6;have HM:=Afj ((HRA.out.below (by repeat (first | (with_reducible exact Afv _ _) | refine Agb ?_ | refine below_drewN ?_ _ | refine Agc ?_ (by first | omega | (simp;omega) | simp) _))).mark (m:=(st.pos,c)) hown6 hgrow6 hat6 (by show st.marks.length+1≤k+1;omega));have hfz:w6.frozen? ⟨p,2,none⟩=false:=(hgrow6.frozen_far ⟨p,2,none⟩ (by simp;omega) (fun e=>HRA.out.mp e.symm)).trans ((HRA.out.below (by repeat (first | (with_reducible exact Afv _ _) | refine Agb ?_ | refine below_drewN ?_ _ | refine Agc ?_ (by first | omega | (simp;omega) | simp) _))).blk.frozen 2);have hce:w6.cell? ⟨p,2,none⟩=some mv:=(hgrow6.cell_far ⟨p,2,none⟩ (by simp;omega) (fun e=>HRA.out.mp e.symm)).trans (((HRA.out.below (by repeat (first | (with_reducible exact Afv _ _) | refine Agb ?_ | refine below_drewN ?_ _ | refine Agc ?_ (by first | omega | (simp;omega) | simp) _))).blk.cell 2).trans rfl);have hs0:w6.cell? ⟨q,0,none⟩=some (.int .u64 (ow t 0)):=(hgrow6.cell_far ⟨q,0,none⟩ (by simp;omega) (fun e=>hmq e.symm)).trans (((HPA.out.below (by repeat (first | (with_reducible exact Afv _ _) | refine Agb ?_ | refine below_drewN ?_ _ | refine Agc ?_ (by first | omega | (simp;omega) | simp) _)) hq2).cell 0).trans rfl);have hs1:w6.cell? ⟨q,1,none⟩=some (.int .u64 (ow t 1)):=(hgrow6.cell_far ⟨q,1,none⟩ (by simp;omega) (fun e=>hmq e.symm)).trans (((HPA.out.below (by repeat (first | (with_reducible exact Afv _ _) | refine Agb ?_ | refine below_drewN ?_ _ | refine Agc ?_ (by first | omega | (simp;omega) | simp) _)) hq2).cell 1).trans rfl);have hs2:w6.cell? ⟨q,2,none⟩=some (.int .u64 (ow t 2)):=(hgrow6.cell_far ⟨q,2,none⟩ (by simp;omega) (fun e=>hmq e.symm)).trans (((HPA.out.below (by repeat (first | (with_reducible exact Afv _ _) | refine Agb ?_ | refine below_drewN ?_ _ | refine Agc ?_ (by first | omega | (simp;omega) | simp) _)) hq2).cell 2).trans rfl);have hs3:w6.cell? ⟨q,3,none⟩=some (.int .u64 (ow t 3)):=(hgrow6.cell_far ⟨q,3,none⟩ (by simp;omega) (fun e=>hmq e.symm)).trans (((HPA.out.below (by repeat (first | (with_reducible exact Afv _ _) | refine Agb ?_ | refine below_drewN ?_ _ | refine Agc ?_ (by first | omega | (simp;omega) | simp) _)) hq2).cell 3).trans rfl);obtain ⟨g,gcap,hv6,_,_⟩:=World.ownsRow.form hown6 (Nat.succ_pos _);subst hv6;clear hown6 hgrow6 hat6))
 all_goals
  go_wp2_with fail
  go_ret;exact AQ rfl ((HSA.out.trans (RStep.of_below (p:=p) (mv:=mv) (cv:=cv) (by repeat (first | (with_reducible exact Afv _ _) | refine Agb ?_ | refine below_drewN ?_ _ | refine Agc ?_ (by first | omega | (simp;omega) | simp) _)))).trans HM.out.2) (by have h9:=HM.out.1;rw [show st.to (k+1)=st.to (st.pos+2) by rw [HK.out]] at h9;exact h9) (Fc _ _ _ _ _ _)
def DJ (s:List UInt8) (sub:Option (ReSt→ReRes (ReSt × Nd))) (front:Bool) (st:ReSt):ReRes (ReSt × Nd):=
 if front && (A5 false s st.pos 123 || A5 false s st.pos 43 || A5 false s st.pos 63) then .error (10,st.pos) else Ba false s sub st
theorem FR {s:List UInt8} {k c:Nat} (h:k+1 < s.length) (h1:byt s k=92) (h2:byt s (k+1)=c):BP s k c=true:=by
 unfold BP;rw [decide_eq_true h,decide_eq_true h1,decide_eq_true h2];rfl
theorem E0 {s:List UInt8} {k c:Nat} (h:byt s k≠92∨byt s (k+1)≠c∨¬ k+1 < s.length):BP s k c=false:=by
 unfold BP;rcases h with h | h | h
 ·rw [decide_eq_false h];simp
 ·rw [decide_eq_false h];simp
 ·rw [decide_eq_false h];simp
theorem MY {s:List UInt8} {k c:Nat} (h:k < s.length) (h1:byt s k=c):chAt s k c=true:=by
 unfold chAt;rw [decide_eq_true h,decide_eq_true h1];rfl
theorem Oz {s:List UInt8} {sub:Option (ReSt→ReRes (ReSt × Nd))} {front:Bool} {st:ReSt} (h:byt s st.pos≠92):DJ s sub front st =
  if chAt s st.pos 91 then (if (F7 s ((st.pos:Int)+1)).2.2=0 then .ok (st.to (F7 s ((st.pos:Int)+1)).2.1.toNat,.one (F7 s ((st.pos:Int)+1)).1) else .error ((F7 s ((st.pos:Int)+1)).2.2,(F7 s ((st.pos:Int)+1)).2.1.toNat))
  else if chAt s st.pos 46 then .ok (st.to (st.pos+1),.one (Ac 0 255)) else .ok (st.to (st.pos+1),.one (Ac (byt s st.pos) (byt s st.pos))):=by
 unfold DJ Ba A5;simp only [Af2,if_false,E0 (.inl h),Bool.or_self,Bool.and_false,BF h]
theorem Q5 {s:List UInt8} {sub:Option (ReSt→ReRes (ReSt × Nd))} {front:Bool} {st:ReSt} (h:byt s st.pos=92) (hl:st.pos < s.length) (h2:¬ st.pos+1 < s.length):DJ s sub front st=.error (11,st.pos):=by
 unfold DJ Ba A5;simp only [Af2,if_false,E0 (.inr (.inr h2)),Bool.or_self,Bool.and_false,MY hl h,BF (show byt s st.pos≠91 by omega),BF (show byt s st.pos≠46 by omega),if_true];rw [if_neg h2]
theorem TJ {s:List UInt8} {sub:Option (ReSt→ReRes (ReSt × Nd))} {front:Bool} {st:ReSt} (h:byt s st.pos=92) (h2:st.pos+1 < s.length) (hc:byt s (st.pos+1)=40):DJ s sub front st=F6 false s sub st:=by
 unfold DJ Ba A5;simp only [Af2,if_false,FR h2 h hc,E0 (c:=123) (.inr (.inl (by omega:byt s (st.pos+1)≠123))),E0 (c:=43) (.inr (.inl (by omega:byt s (st.pos+1)≠43))),E0 (c:=63) (.inr (.inl (by omega:byt s (st.pos+1)≠63))),Bool.or_self,Bool.and_false,if_true]
theorem TK {s:List UInt8} {sub:Option (ReSt→ReRes (ReSt × Nd))} {st:ReSt} (h:byt s st.pos=92) (h2:st.pos+1 < s.length) (hc:byt s (st.pos+1)=43∨byt s (st.pos+1)=63∨byt s (st.pos+1)=123):DJ s sub true st=.error (10,st.pos):=by
 unfold DJ A5;simp only [Af2,if_false];rcases hc with hc | hc | hc
 ·rw [FR h2 h hc];simp
 ·rw [FR h2 h hc];simp
 ·rw [FR h2 h hc];simp
theorem TL {s:List UInt8} {k:Nat} (h:byt s k=92) (h2:k+1 < s.length) (hc:byt s (k+1)=43∨byt s (k+1)=63∨byt s (k+1)=123):repAt false s k≠.none:=by
 unfold repAt A5;simp only [Af2,if_false,BF (show byt s k≠42 by omega)];rcases hc with hc | hc | hc
 ·rw [FR h2 h hc];simp
 ·rw [E0 (.inr (.inl (show byt s (k+1)≠43 by omega))),FR h2 h hc];simp
 ·rw [E0 (.inr (.inl (show byt s (k+1)≠43 by omega))),E0 (.inr (.inl (show byt s (k+1)≠63 by omega))),FR h2 h hc];simp only [Af2,if_false,if_true];split <;> simp
theorem TM {s:List UInt8} {sub:Option (ReSt→ReRes (ReSt × Nd))} {front:Bool} {st:ReSt} {c:Nat} (h:byt s st.pos=92) (h2:st.pos+1 < s.length) (hc:byt s (st.pos+1)=c) (h40:c≠40) (h41:c≠41) (h43:c≠43) (h63:c≠63) (h123:c≠123):DJ s sub front st=Dt false st c:=by
 have hl:st.pos < s.length:=by omega
 unfold DJ Ba A5;simp only [Af2,if_false,E0 (c:=123) (.inr (.inl (by rw [hc];exact h123:byt s (st.pos+1)≠123))),E0 (c:=43) (.inr (.inl (by rw [hc];exact h43:byt s (st.pos+1)≠43))),E0 (c:=63) (.inr (.inl (by rw [hc];exact h63:byt s (st.pos+1)≠63))),E0 (c:=40) (.inr (.inl (by rw [hc];exact h40:byt s (st.pos+1)≠40))),E0 (c:=41) (.inr (.inl (by rw [hc];exact h41:byt s (st.pos+1)≠41))),Bool.or_self,Bool.and_false,MY hl h,BF (show byt s st.pos≠91 by omega),BF (show byt s st.pos≠46 by omega),if_true];rw [if_pos h2,hc]
theorem O0 {B p:Nat} {s:ByteArray} {st:ReSt} {es:List Bool} {dep:Nat} {mv cv:Value} (w:World) (h:Rd B p w s (st.to (st.pos+1)) es dep mv cv) (hb:byt s.data.toList st.pos=92) (front:Bool) (hfr:front=true∨repAt false s.data.toList st.pos=.none) (hen:AG s.data.toList st.pos=false)
  (sub:Option (ReSt→ReRes (ReSt × Nd))) (hG:Gl w) (hB:glN≤B) (hfe:es.length≤st.pos) (hgr:EB B p s st es dep sub) :
  Calls prog 161 #[.pointer (some ⟨p,0,none⟩),.int .i64 (st.pos:Int)] w fun e w'=>BN (DJ s.data.toList sub front st) B p s dep mv cv w e w':=by
 have hsl:s.data.toList.length=s.size:=by simp
 have hps:st.pos+1≤s.size:=h.pos;by_cases hlt:st.pos+1 < s.size
 ·have hl2:st.pos+1 < s.data.toList.length:=by omega
  have h41:byt s.data.toList (st.pos+1)≠41:=fun e=>by
   unfold AG at hen;rw [FR hl2 hb e] at hen;simp at hen
  by_cases hg:byt s.data.toList (st.pos+1)=40
  ·rw [TJ hb hl2 hg];exact WK w h hlt hg sub hG hB hfe hgr
  by_cases hr:byt s.data.toList (st.pos+1)=43∨byt s.data.toList (st.pos+1)=63∨byt s.data.toList (st.pos+1)=123
  ·rcases hfr with rfl | hfr
   ·rw [TK hb hl2 hr];exact WL w h hlt hr
   ·exact (TL hb hl2 hr hfr).elim
  ·obtain ⟨c,hc⟩:∃ c,byt s.data.toList (st.pos+1)=c:=⟨_,rfl⟩;rw [hc] at h41 hg hr;rw [TM hb hl2 hc hg h41 (by omega) (by omega) (by omega)];by_cases hd:49≤c∧c≤57
   ·exact WM w h hlt c hc hd.1 hd.2
   ·have hp:Io c:=⟨hg,hd,by omega,by omega,by omega⟩
    have he:Dt false st c=match CJ c with
      | none=>.error (2,st.pos)
      | some (t,m)=>.ok ((if m then st.mark c else st).to (st.pos+2),.one t):=by
     unfold Dt;rw [if_neg hd];cases CJ c with
     | none=>rfl
     | some q=>obtain ⟨t,m⟩:=q;rfl
    rw [he];cases hs:CJ c with
    | none=>exact TH w h hlt c hc hp hs
    | some q=>
     obtain ⟨t,m⟩:=q;cases m with
     | false=>exact WN w h hlt c hc hp t hs
     | true=>exact TI w h hlt c hc hp t hs
 ·rw [Q5 hb (by omega) (by omega)];exact TF w h (by omega)
theorem WO {B p:Nat} {s:ByteArray} {st:ReSt} {es:List Bool} {dep:Nat} {mv cv:Value} (w:World) (h:Rd B p w s st es dep mv cv) (hlt:st.pos < s.size) (hb:byt s.data.toList st.pos=46):Calls prog 152 #[.pointer (some ⟨p,0,none⟩)] w fun e w'=>BN (.ok (st.to (st.pos+1),.one (Ac 0 255))) B p s dep mv cv w e w':=by
 have hsm:=h.small;obtain ⟨k,hk⟩:∃ k,k=st.pos:=⟨_,rfl⟩;rw [←hk] at hlt;have hk1:(k:Int) < (s.size:Int):=(by omega);have hb0:=Dk s k hlt;have Wn:IntKind.i64.wrap ((k:Int)+1)=((k+1:Nat):Int):=(by rw [Afx _ (by omega)];omega);have hgo:Rd B p (w.setCell ⟨p,1,none⟩ (.int .i64 ((k:Int)+1))) s (st.to (k+1)) es dep mv cv∧RStep p w mv cv (w.setCell ⟨p,1,none⟩ (.int .i64 ((k:Int)+1))) mv cv:=h.goto (k+1) (show st.pos≤k+1 by omega) (show k+1≤s.size by omega);obtain ⟨c0,c1,c2,c3,c4,z1,z2,z3,z4⟩:=h.cells;rw [←hk] at c1;have HK:=Afj hk;have HGO:=Afj hgo;have H:=Afj h;clear hk hgo h;rw [←HK.out,hb0] at hb;have e46:((s[k].toNat:Int) == 46)=true:=by rw [hb];rfl
 clear hb hb0;have hn:=fun w=>Gf oz w
 rw [Wy,Ap,Ap,Ap,Ap] at hn;go_enter func152,ntmps152;go_wp2_with fail
 refine (hn _).mono ?_;rintro e w1 ⟨rfl,b1⟩;have hR:=HGO.out.1.below b1;have HS:=Afj (HGO.out.2.trans (RStep.of_below (p:=p) (mv:=mv) (cv:=cv) b1));rw [show k+1=st.pos+1 by rw [HK.out]] at hR;have HR:=Afj hR;clear hR b1;go_wp2_with fail
 go_ret;exact AQ rfl HS.out HR.out (Fc _ _ _ _ _ _)
theorem Q6 {B p:Nat} {s:ByteArray} {st:ReSt} {es:List Bool} {dep:Nat} {mv cv:Value} (w:World) (h:Rd B p w s st es dep mv cv) (hlt:st.pos < s.size) (h46:byt s.data.toList st.pos≠46) (h91:byt s.data.toList st.pos≠91) (h92:byt s.data.toList st.pos≠92) :
  Calls prog 152 #[.pointer (some ⟨p,0,none⟩)] w fun e w'=>BN (.ok (st.to (st.pos+1),.one (Ac (byt s.data.toList st.pos) (byt s.data.toList st.pos)))) B p s dep mv cv w e w':=by
 obtain ⟨R,hR0⟩:∃ R:ReRes (ReSt × Nd),R=.ok (st.to (st.pos+1),.one (Ac (byt s.data.toList st.pos) (byt s.data.toList st.pos))):=⟨_,rfl⟩;rw [←hR0];have hsm:=h.small;obtain ⟨k,hk⟩:∃ k,k=st.pos:=⟨_,rfl⟩;rw [←hk] at hlt;have hk1:(k:Int) < (s.size:Int):=(by omega);have hb0:=Dk s k hlt;have Wn:IntKind.i64.wrap ((k:Int)+1)=((k+1:Nat):Int):=(by rw [Afx _ (by omega)];omega);have hgo:Rd B p (w.setCell ⟨p,1,none⟩ (.int .i64 ((k:Int)+1))) s (st.to (k+1)) es dep mv cv∧RStep p w mv cv (w.setCell ⟨p,1,none⟩ (.int .i64 ((k:Int)+1))) mv cv:=h.goto (k+1) (show st.pos≤k+1 by omega) (show k+1≤s.size by omega);obtain ⟨c0,c1,c2,c3,c4,z1,z2,z3,z4⟩:=h.cells;rw [←hk] at c1;have HK:=Afj hk;have HGO:=Afj hgo;have H:=Afj h;clear hk hgo h;rw [←HK.out,hb0] at h46 h91 h92 hR0;have HR0:=Afj hR0;have e46:((s[k].toNat:Int) == 46)=false:=by rw [beq_eq_false_iff_ne];omega
 have e91:((s[k].toNat:Int) == 91)=false:=by rw [beq_eq_false_iff_ne];omega
 have e92:((s[k].toNat:Int) == 92)=false:=by rw [beq_eq_false_iff_ne];omega
 clear h46 h91 h92 hb0 hR0;go_enter func152,ntmps152;go_wp2_with fail
 refine (CI (s[k].toNat:Int) (Ab3 _) (Ab4 _) _ _ (by simp [World.setCell])).mono ?_;rintro e w1 ⟨rfl,b1⟩;rw [DU];have hR:=HGO.out.1.below b1;have HS:=Afj (HGO.out.2.trans (RStep.of_below (p:=p) (mv:=mv) (cv:=cv) b1));have HR:=Afj hR;clear hR b1;go_wp2_with fail
 go_ret;exact AQ HR0.out HS.out HR.out (Fc _ _ _ _ _ _)
theorem TN {B p:Nat} {s:ByteArray} {st:ReSt} {es:List Bool} {dep:Nat} {mv cv:Value} (w:World) (h:Rd B p w s st es dep mv cv) (hlt:st.pos < s.size) (hb:byt s.data.toList st.pos=92) (front:Bool) (hfr:front=true∨repAt false s.data.toList st.pos=.none) (hen:AG s.data.toList st.pos=false)
  (sub:Option (ReSt→ReRes (ReSt × Nd))) (hG:Gl w) (hB:glN≤B) (hgr:EB B p s st es dep sub) :
  Calls prog 152 #[.pointer (some ⟨p,0,none⟩)] w fun e w'=>BN (DJ s.data.toList sub front st) B p s dep mv cv w e w':=by
 obtain ⟨R,hR0⟩:∃ R:ReRes (ReSt × Nd),R=DJ s.data.toList sub front st:=⟨_,rfl⟩;have hesc:=fun (w2:World) (h2:Rd B p w2 s (st.to (st.pos+1)) es dep mv cv) (hG2:Gl w2)=>O0 w2 h2 hb front hfr hen sub hG2 hB h.few.2 hgr
 rw [←hR0] at hesc ⊢;clear hR0;have hsm:=h.small;obtain ⟨k,hk⟩:∃ k,k=st.pos:=⟨_,rfl⟩;rw [←hk] at hlt;have hk1:(k:Int) < (s.size:Int):=(by omega);have hb0:=Dk s k hlt;have Wn:IntKind.i64.wrap ((k:Int)+1)=((k+1:Nat):Int):=(by rw [Afx _ (by omega)];omega);have hgo:Rd B p (w.setCell ⟨p,1,none⟩ (.int .i64 ((k:Int)+1))) s (st.to (k+1)) es dep mv cv∧RStep p w mv cv (w.setCell ⟨p,1,none⟩ (.int .i64 ((k:Int)+1))) mv cv:=h.goto (k+1) (show st.pos≤k+1 by omega) (show k+1≤s.size by omega);obtain ⟨c0,c1,c2,c3,c4,z1,z2,z3,z4⟩:=h.cells;rw [←hk] at c1;have HK:=Afj hk;have HGO:=Afj hgo;have H:=Afj h;clear hk hgo h;rw [←HK.out,hb0] at hb;have e46:((s[k].toNat:Int) == 46)=false:=by rw [hb];rfl
 have e91:((s[k].toNat:Int) == 91)=false:=by rw [hb];rfl
 have e92:((s[k].toNat:Int) == 92)=true:=by rw [hb];rfl
 have HGl:=Afj hG;have HE:=Afj hesc;clear hb hb0 hfr hen hgr hG hesc;go_enter func152,ntmps152;go_wp2_with fail
 obtain ⟨hR,hS⟩:=HGO.out;have hkp:k+1=st.pos+1:=by rw [HK.out]
 rw [hkp] at hR;have hA:=HE.out _ hR (HGl.out.step hS H.out hB);rw [←HK.out] at hA;refine hA.mono ?_;intro e w' hA;replace hA:=hA.from hS
 obtain ⟨mv',cv',hS',hr⟩:=hA;have HS':=Afj hS';clear hS' hkp;cases R with
 | error q=>
  obtain rfl:e=_:=hr;go_wp2_with fail
  exact ⟨rfl,_,_,HS'.out,rfl⟩
 | ok q=>
  obtain ⟨es',v,rfl,hR',hN'⟩:=hr;go_wp2_with fail
  go_ret;exact ⟨_,_,HS'.out,es',v,rfl,hR',hN'⟩
theorem WP {B p:Nat} {s:ByteArray} {st:ReSt} {es:List Bool} {dep:Nat} {mv cv:Value} (w:World) (h:Rd B p w s st es dep mv cv) (hlt:st.pos < s.size) (hb:byt s.data.toList st.pos=91) (hG:Gl w) (hB:glN≤B) :
  Calls prog 152 #[.pointer (some ⟨p,0,none⟩)] w fun e w'=>BN (if (F7 s.data.toList ((st.pos:Int)+1)).2.2=0 then .ok (st.to (F7 s.data.toList ((st.pos:Int)+1)).2.1.toNat,.one (F7 s.data.toList ((st.pos:Int)+1)).1) else .error ((F7 s.data.toList ((st.pos:Int)+1)).2.2,(F7 s.data.toList ((st.pos:Int)+1)).2.1.toNat)) B p s dep mv cv w e w':=by
 have hsl:s.data.toList.length=s.size:=by simp
 obtain ⟨t,j,er,hprs,hj⟩:=JG s.data.toList (st.pos+1) (by omega);rw [hsl] at hj;have hpa:=fun (w:World) (hG:Gl w)=>L9 s ((st.pos+1:Nat):Int) w (by have:=h.small;omega) hG
 rw [hprs,show KT (t,(j:Int),er)=.tuple #[.agg #[.int .u64 (ow t 0),.int .u64 (ow t 1),.int .u64 (ow t 2),.int .u64 (ow t 3)],.int .i64 (j:Int),.int .i64 (er:Int)] from rfl] at hpa;obtain ⟨R,hR0⟩:∃ R:ReRes (ReSt × Nd),R=if er=0 then .ok (st.to j,.one t) else .error (er,j):=⟨_,rfl⟩
 rw [show ((st.pos:Int)+1)=((st.pos+1:Nat):Int) by omega,hprs];simp only [Int.toNat_natCast];rw [←hR0];have HR0:=Afj hR0;have HGl:=Afj hG;clear hprs hR0 hsl hG;have hsm:=h.small;obtain ⟨k,hk⟩:∃ k,k=st.pos:=⟨_,rfl⟩;rw [←hk] at hlt;have hk1:(k:Int) < (s.size:Int):=(by omega);have hb0:=Dk s k hlt;have Wn:IntKind.i64.wrap ((k:Int)+1)=((k+1:Nat):Int):=(by rw [Afx _ (by omega)];omega);have hgo:Rd B p (w.setCell ⟨p,1,none⟩ (.int .i64 ((k:Int)+1))) s (st.to (k+1)) es dep mv cv∧RStep p w mv cv (w.setCell ⟨p,1,none⟩ (.int .i64 ((k:Int)+1))) mv cv:=h.goto (k+1) (show st.pos≤k+1 by omega) (show k+1≤s.size by omega);obtain ⟨c0,c1,c2,c3,c4,z1,z2,z3,z4⟩:=h.cells;rw [←hk] at c1;have HK:=Afj hk;have HGO:=Afj hgo;have H:=Afj h;clear hk hgo h;rw [←HK.out,hb0] at hb;have e46:((s[k].toNat:Int) == 46)=false:=by rw [hb];rfl
 have e91:((s[k].toNat:Int) == 91)=true:=by rw [hb];rfl
 clear hb hb0;have hkp:st.pos+1=k+1:=by rw [HK.out]
 rw [hkp] at hpa hj;clear hkp;have HJ:=Afj hj;clear hj;go_enter func152,ntmps152;go_upto_region 9 with fail;obtain ⟨hR,hS⟩:=HGO.out;have hG2:=HGl.out.step hS H.out hB;clear c0 c1 c2 c3 c4 z1 z2 z3 z4 Wn;generalize hw2:w.setCell ⟨p,1,none⟩ (.int .i64 ((k:Int)+1))=w2 at *;have HW2:=Afj hw2;clear hw2;generalize hk2:k+1=k2 at *;have hall:w2.cell? ⟨p,0,none⟩=some (.string s)∧w2.cell? ⟨p,1,none⟩=some (.int .i64 (k2:Int))∧RdH w2 B p s (st.to k2) es dep mv cv w2:=L6 hR;have HR:=Afj hR;have HS:=Afj hS;have HK2:=Afj hk2;clear hR hS hk2;obtain ⟨c0,c1,c2,c3,c4,z1,z2,z3,z4⟩:=HR.out.cells;replace c1:w2.cell? ⟨p,1,none⟩=some (.int .i64 (k2:Int)):=c1;have hpl:=HR.out.blk.lt;have hkk:(st.to k2).pos=k2:=rfl;go_cut [5,6,7] (fun s5 s6 s7 wx=>∃ a:Nat,s5=.pointer (some ⟨a,0,none⟩)∧s6=.int .i64 (j:Int)∧s7=.int .i64 (er:Int)∧AtSet w2 a t wx)
 case first=>
  go_region_with (go_at_call 146;refine (hpa _ (hG2.up (by repeat (first | (with_reducible exact Afv _ _) | refine Agb ?_ | refine below_drewN ?_ _ | refine Agc ?_ (by first | omega | (simp;omega) | simp) _)))).mono ?_;rintro e w' ⟨rfl,hbX⟩;have hbQ:Below w2.heap.size w2 w':=Below.trans (by repeat (first | (with_reducible exact Afv _ _) | refine Agb ?_ | refine below_drewN ?_ _ | refine Agc ?_ (by first | omega | (simp;omega) | simp) _)) (hbX.mono (by simp));(try (have hPz:=((Blk.new w2 #[.int .u64 0,.int .u64 0,.int .u64 0,.int .u64 0] 108 w2.heap.size rfl).drew).below hbX (by simp);obtain ⟨y0,y1,y2,y3,x0,x1,x2,x3,xl⟩:=CD hPz)))
  all_goals go_wp2_with fail
  all_goals go_meet
  all_goals first
   | exact ⟨_,rfl,rfl,rfl,⟨hbQ.alloc hbQ.size _,Blk.new _ _ _ _ rfl,hbQ.size⟩⟩
   | exact ⟨_,rfl,rfl,rfl,⟨(((hbQ.setCell (p:=⟨w2.heap.size,0,none⟩) (Afq _) _).setCell (p:=⟨w2.heap.size,1,none⟩) (Afq _) _).setCell (p:=⟨w2.heap.size,2,none⟩) (Afq _) _).setCell (p:=⟨w2.heap.size,3,none⟩) (Afq _) _,(((hPz.set 0 _).set 1 _).set 2 _).set 3 _,Afq _⟩⟩
 case rest=>
  obtain ⟨a,rfl,rfl,rfl,hA⟩:=hcut;clear c0 c1 c2 c3 c4 z1 z2 z3 z4 hpa hall hG2;have hS2:=HS.out.trans (RStep.of_below (p:=p) (mv:=mv) (cv:=cv) hA.b);have hR2:=HR.out.below hA.b;have HS2:=Afj hS2;clear hS2;by_cases her:er=0
  ·subst her;have hj:=HJ.out rfl;have HF:=Afj (HR0.out.trans (if_pos rfl));have hg:=hR2.goto j (show k2≤j by omega) hj.2;have HG:=Afj hg;obtain ⟨c0,c1,c2,c3,c4,z1,z2,z3,z4⟩:=hR2.cells;obtain ⟨y0,y1,y2,y3,x0,x1,x2,x3,xl⟩:=CD hA.s;have hap:a≠p:=fun e=>by have:=hA.lo;omega
   have hap2:p≠a:=fun e=>hap e.symm
   clear hg hR2 hA hj;go_wp2_with fail
   go_ret;exact AQ HF.out (HS2.out.trans HG.out.2) HG.out.1 (Fc _ _ _ _ _ _)
  ·have HF:=Afj (HR0.out.trans (if_neg her));have e9:((er:Int) != 0)=true:=by simp;omega
   clear her hR2 hA;go_wp2_with fail
   exact ⟨rfl,A4 HF.out HS2.out rfl⟩
def Kg (s:List UInt8) (A:ReRes (ReSt × Nd)):ReRes (ReSt × Nd):=match A with
 | .error e=>.error e
 | .ok q=>D2 false s (s.length+1) q.1 q.2
def FS (s:List UInt8) (sub:Option (ReSt→ReRes (ReSt × Nd))) (front:Bool) (st:ReSt):ReRes (ReSt × Nd):=
 if chAt s st.pos 36 && AG s (st.pos+1) then .ok (st.to (st.pos+1),.fin)
 else Kg s (DJ s sub front st)
theorem TO (ere:Bool) (s:List UInt8) (k:Nat) (m n:Int) (j:Nat) (h:GA ere s k=some (m,n,j)):k < j∧j≤s.length:=by
 rw [Hw] at h;obtain ⟨q,hq,he⟩:=Option.map_eq_some_iff.1 h;have h0:CQ ere≠[]:=by cases ere <;> simp [CQ]
 have h1:q.2.2≤(s.drop k).length:=by
  unfold Lr at hq;split at hq
  ·rename_i hc;injection hq with hq;subst hq;rw [Af9] at hc;exact FH _ _ _ hc.2 h0
  ·cases hq
 have h2:0 < q.2.2:=by
  unfold Lr at hq;split at hq
  ·injection hq with hq;subst hq;have:0 < (CQ ere).length:=List.length_pos_iff.2 h0;simp only;omega
  ·cases hq
 rw [Af3] at h1;injection he with he1 he2;injection he2 with he2 he3;omega
theorem WQ (s:List UInt8) (k:Nat) (a b:Int) (c j:Nat) (h:repAt false s k=.some a b c j):k < j∧j≤s.length:=by
 unfold repAt at h;split at h
 ·rename_i h1;injection h with _ _ _ h;have:=(BK h1).1;omega
 split at h
 ·rename_i _ h1;injection h with _ _ _ h;have:=(Fk h1).1;simp [AZ] at h;omega
 split at h
 ·rename_i _ _ h1;injection h with _ _ _ h;have:=(Fk h1).1;simp [AZ] at h;omega
 split at h
 ·rename_i _ _ _ h1;split at h
  ·cases h
  ·rename_i m n j' hi;injection h with _ _ _ h;have h3:=TO _ _ _ _ _ _ hi;simp [AZ] at h3;omega
 ·cases h
theorem TP (s:List UInt8) (m:Nat) (st:ReSt) (d:Nd) (h:0 < m):D2 false s m st d=match repAt false s st.pos with
  | .none=>.ok (st,d)
  | .bad=>.error (7,st.pos)
  | .some mn mx c j=>D2 false s (m - 1) ((if c=0 then st else st.mark c).to j) (.rep d mn mx):=by
 obtain ⟨n,rfl⟩:∃ n,m=n+1:=⟨m - 1,by omega⟩;rw [D2];rfl
theorem TQ {B p:Nat} {s:ByteArray} {st:ReSt} {es:List Bool} {dep:Nat} {mv cv:Value} (w:World) (h:Rd B p w s st es dep mv cv) (hlt:st.pos < s.size) (hq:(chAt s.data.toList st.pos 36 && AG s.data.toList (st.pos+1))=true) :
  Calls prog 140 #[.pointer (some ⟨p,0,none⟩)] w fun e w'=>BN (.ok (st.to (st.pos+1),.fin)) B p s dep mv cv w e w':=by
 have hsm:=h.small;rw [Af9] at hq;obtain ⟨hq1,hq2⟩:=hq;have hst:=fun n=>Fv ⟨#[36]⟩ (w.drewN n) (h.below (below_drewN (Afv _ _) n))
 rw [show AV s.data.toList st.pos (ByteArray.mk #[36]).data.toList=true from (DH _ _ 36 (by decide)).trans hq1] at hst;have hbe:=fun w=>Gm s (st.pos+1) w
 rw [hq2] at hbe;have hgo:∀ n,Rd B p ((w.drewN n).setCell ⟨p,1,none⟩ (.int .i64 ((st.pos:Int)+1))) s (st.to (st.pos+1)) es dep mv cv∧RStep p w mv cv ((w.drewN n).setCell ⟨p,1,none⟩ (.int .i64 ((st.pos:Int)+1))) mv cv:=fun n=>⟨((h.below (below_drewN (Afv w.heap.size w) n)).goto (st.pos+1) (show st.pos≤st.pos+1 by omega) (show st.pos+1≤s.size by omega)).1,(RStep.of_below (below_drewN (Afv w.heap.size w) n)).trans ((h.below (below_drewN (Afv w.heap.size w) n)).goto (st.pos+1) (show st.pos≤st.pos+1 by omega) (show st.pos+1≤s.size by omega)).2⟩
 have HGO:=Afj hgo;obtain ⟨c0,c1,c2,c3,c4,z1,z2,z3,z4⟩:=h.cells;have hk0:(0:Int)≤((st.pos+1:Nat):Int):=by omega
 have hk1:((st.pos+1:Nat):Int)≤(s.size:Int):=by omega
 have Wn:IntKind.i64.wrap ((st.pos:Int)+1)=((st.pos+1:Nat):Int):=by rw [Afx _ (by omega)];omega
 clear h hgo hq1 hq2;go_enter func140,ntmps140;go_wp2_with fail
 go_quiet (first | (go_at_call 151;exact Calls.quiet_of (hst _)) | (go_at_call 139;exact Calls.quiet_of_same ((hbe _).mono fun _ _ h=>⟨h.1,h.2.symm⟩)))
 go_wp2_with fail
 go_ret;exact AQ rfl (HGO.out nq).2 (HGO.out nq).1 (TD _ _ _ _ _)
theorem Q7 {B p:Nat} {s:ByteArray} {st:ReSt} {es:List Bool} {dep:Nat} {mv cv:Value} (w:World) (h:Rd B p w s st es dep mv cv) (hlt:st.pos < s.size) (hq:(chAt s.data.toList st.pos 36 && AG s.data.toList (st.pos+1))=false) (A:ReRes (ReSt × Nd))
  (hat:∀ n,Calls prog 152 #[.pointer (some ⟨p,0,none⟩)] (w.drewN n) fun e w'=>BN A B p s dep mv cv (w.drewN n) e w') :
  Calls prog 140 #[.pointer (some ⟨p,0,none⟩)] w fun e w'=>BN (Kg s.data.toList A) B p s dep mv cv w e w':=by
 have hsm:=h.small;have hsl:s.data.toList.length=s.size:=by simp
 obtain ⟨R,hR0⟩:∃ R:ReRes (ReSt × Nd),R=Kg s.data.toList A:=⟨_,rfl⟩;rw [←hR0];have HR0:=Afj hR0;have HSL:=Afj hsl;clear hR0 hsl;have hst:=fun n=>Fv ⟨#[36]⟩ (w.drewN n) (h.below (below_drewN (Afv _ _) n))
 rw [show AV s.data.toList st.pos (ByteArray.mk #[36]).data.toList=chAt s.data.toList st.pos 36 from DH _ _ 36 (by decide)] at hst;have hbe:=fun w=>Gm s (st.pos+1) w
 obtain ⟨c0,c1,c2,c3,c4,z1,z2,z3,z4⟩:=h.cells;have hk0:(0:Int)≤((st.pos+1:Nat):Int):=by omega
 have hk1:((st.pos+1:Nat):Int)≤(s.size:Int):=by omega
 have Wn:IntKind.i64.wrap ((st.pos:Int)+1)=((st.pos+1:Nat):Int):=by rw [Afx _ (by omega)];omega
 have HST:=Afj (fun n=>RStep.of_below (p:=p) (mv:=mv) (cv:=cv) (below_drewN (Afv w.heap.size w) n));have hq':chAt s.data.toList st.pos 36=false∨(chAt s.data.toList st.pos 36=true∧AG s.data.toList (st.pos+1)=false):=by
  cases h1:chAt s.data.toList st.pos 36
  ·exact .inl rfl
  ·rw [h1] at hq;exact .inr ⟨rfl,hq⟩
 clear h hq;have Hq:=Afj hq';clear hq';go_enter func140,ntmps140;go_wp2_with fail
 go_cut [21] (fun s21 wx=>s21=.bool false∧∃ n,wx=w.drewN n)
 case first=>
  rcases Hq.out with hq1 | ⟨hq1,hq2⟩
  ·rw [hq1] at hst;clear hbe hq1
   go_quiet (first | (go_at_call 151;exact Calls.quiet_of (hst _)))
   go_wp2_with fail
   go_meet;exact ⟨rfl,_,rfl⟩
  ·rw [hq1] at hst;rw [hq2] at hbe;clear hq1 hq2
   go_quiet (first | (go_at_call 151;exact Calls.quiet_of (hst _)) | (go_at_call 139;exact Calls.quiet_of_same ((hbe _).mono fun _ _ h=>⟨h.1,h.2.symm⟩)))
   go_wp2_with fail
   go_meet;exact ⟨rfl,_,rfl⟩
 case rest=>
  obtain ⟨rfl,n,rfl⟩:=hcut;have ha:=hat n;have hS0:=HST.out n;have HS0:=Afj hS0;clear hat hst hbe c0 c1 c2 c3 c4 z1 z2 z3 z4 Wn hk0 hk1 HST hS0;go_wp2_with fail
  refine ha.mono ?_;intro e w1 hA;obtain ⟨mv1,cv1,hS1,hr⟩:=hA.from HS0.out
  have HS1:=Afj hS1;clear hS1 hA ha;cases A with
  | error q=>
   obtain rfl:e=_:=hr;go_wp2_with fail
   exact ⟨rfl,A4 HR0.out HS1.out rfl⟩
  | ok q=>
   obtain ⟨es1,v1,rfl,hR1,hN1⟩:=hr;have HR1:=Afj hR1;have HN1:=Afj hN1;clear hR1 hN1;go_wp2_with fail
   go_loopw [3] (fun v wr=>∃ (m:Nat) (st':ReSt) (d':Nd) (es':List Bool) (mv' cv':Value),R=D2 false s.data.toList m st' d'∧s.size < m+st'.pos∧Rd B p wr s st' es' dep mv' cv'∧RStep p w mv cv wr mv' cv'∧C6 w.heap.size p mv' cv' wr d' v) (fun _ wr=>s.size - (intOf ((wr.cell? ⟨p,1,none⟩).getD undef)).toNat)
   case atStart=>
    exact ⟨_,_,_,_,_,_,HR0.out,by rw [HSL.out];omega,HR1.out,HS1.out,HN1.out⟩
   case round=>
    obtain ⟨m,st',d',es',mv',cv',hRm,hm,hR,hS,hN⟩:=hrel;have hb:=Qx wr hR;have hm0:0 < m:=by have:=hR.pos;omega
    rw [TP _ _ _ _ hm0] at hRm;have HR:=Afj hR;have HS:=Afj hS;have HN:=Afj hN;clear hR hS hN;have hrm:=WQ s.data.toList st'.pos;have HSZ:=Afj HSL.out;cases hrp:repAt false s.data.toList st'.pos with
    | none=>
     rw [hrp] at hb hRm;have HRm:=Afj hRm;clear hRm hrm hrp;go_wp2_with fail
     refine hb.mono ?_;intro e w3 ⟨mv3,hS3,he3,hR3⟩;subst he3;have HS3:=Afj hS3;have HR3:=Afj hR3;clear hS3 hR3 hb;go_wp2_with fail
     go_ret;exact AQ HRm.out (HS.out.trans HS3.out) HR3.out (HN.out.step HS3.out)
    | bad=>
     rw [hrp] at hb hRm;have HRm:=Afj hRm;clear hRm hrm hrp;go_wp2_with fail
     refine hb.mono ?_;intro e w3 ⟨mv3,hS3,he3⟩;obtain rfl:e=_:=he3;have HS3:=Afj hS3;clear hS3 hb;go_wp2_with fail
     exact ⟨rfl,A4 HRm.out (HS.out.trans HS3.out) rfl⟩
    | some a b c j=>
     rw [hrp] at hb hRm;have hj:=hrm _ _ _ _ hrp;rw [HSZ.out] at hj;have HRm:=Afj hRm;have HJ:=Afj hj;have HM:=Afj hm;have HM0:=Afj hm0;clear hRm hrm hrp hj hm hm0;obtain ⟨nn,hnn⟩:=HN.out;rcases Ay hnn with ⟨T,x,rfl⟩ | rfl
     all_goals
      clear hnn;go_wp2_with fail
      refine hb.mono ?_;intro e w3 ⟨mv3,hS3,he3,hR3⟩;subst he3;have HS3:=Afj hS3;have HR3:=Afj hR3;clear hS3 hR3 hb;go_wp2_with fail
      go_roundw
      case rel=>
       refine ⟨m - 1,_,_,_,_,_,HRm.out,?_,HR3.out,HS.out.trans HS3.out,TE (HN.out.step HS3.out) _ _⟩;have h1:=HJ.out;have h2:=HM.out;have h3:=HM0.out;show s.size < m - 1+j;omega
      case measure=>
       have h1:=HR3.out.cells.c1;have h2:=HR.out.cells.c1;rw [h1,h2];have h3:=HJ.out;simp only [Option.getD_some,intOf];show s.size - (((j:Nat):Int)).toNat < _;omega
theorem IW (s:List UInt8) (sub:Option (ReSt→ReRes (ReSt × Nd))) (begin n:Nat) (st:ReSt) (parts:List Nd) (front:Bool) (h:AG s st.pos=false) (h94:(chAt s st.pos 94 && decide (st.pos=begin))=false) :
  branchM false s sub false begin (n+1) st parts front=match FS s sub front st with
   | .error e=>.error e
   | .ok q=>branchM false s sub false begin n q.1 (parts++[q.2]) (chAt s st.pos 36 && AG s (st.pos+1)):=by
 rw [branchM];have h':=h;unfold AG at h';simp only [A5,Af2,if_false,Bool.not_false,Bool.and_true,Bool.false_or];rw [h',h94];simp only [Af2,if_false];unfold FS;cases hq:(chAt s st.pos 36 && AG s (st.pos+1)) with
 | true=>simp
 | false=>
  simp only [Af2,if_false];unfold Kg DJ;simp only [A5,Af2,if_false,Bool.false_and,Bool.or_false];cases hf:(front && (BP s st.pos 123 || BP s st.pos 43 || BP s st.pos 63)) with
  | true=>simp
  | false=>
   simp only [Af2,if_false];cases Ba false s sub st with
   | error e=>rfl
   | ok q=>
    obtain ⟨st1,d⟩:=q;simp only;cases D2 false s (s.length+1) st1 d with
    | error e=>rfl
    | ok q2=>rfl
theorem DZ:∃ i,Tryz.prog.info? 45=some i∧i.zero=some .nilIface∧i.size=1∧i.bytes=16:=by
 have h:(Tryz.prog.info? 45).map (fun i=>(i.zero,i.size,i.bytes))=some (some .nilIface,1,16):=by kernel_rfl
 obtain ⟨i,hi,he⟩:=Option.map_eq_some_iff.1 h;injection he with h1 h2;injection h2 with h2 h3;exact ⟨i,hi,h1,h2,h3⟩
structure NdOw (F:Nat→Prop) (B:Nat) (w:World) (l:List Nd) (v:Value) (us:List Value):Prop where
 len:us.length=l.length
 row:w.ownsRow B 45 1 v l.length us
 nd:∀ i (h:i < l.length) (h2:i < us.length),NdX (fun k=>k < B∧F k) w l[i] us[i]
 one:∀ u∈us,u.oneCell'=true
theorem NdOw.nil (F:Nat→Prop) (B:Nat) (w:World):NdOw F B w [] (.slice none 0 0) []:=⟨rfl,World.ownsRow_nil _ _ _ _,fun i h=>absurd h (by simp),fun u h=>absurd h (by simp)⟩
theorem FT {F:Nat→Prop} {B:Nat} {w w':World} (hb:Below B w w') {d:Nd} {v:Value} (h:NdX (fun k=>k < B∧F k) w d v):NdX (fun k=>k < B∧F k) w' d v:=
 h.keep hb.size (fun _ hf _=>⟨hf,fun o=>hb.cell (p:=⟨_,o,none⟩) hf.1⟩)
theorem NdOw.mem {F:Nat→Prop} {B:Nat} {w w':World} {l:List Nd} {v:Value} {us:List Value} (h:NdOw F B w l v us) (hb:Below w.heap.size w w') (hB:B≤w.heap.size):NdOw F B w' l v us:=
 ⟨h.len,h.row.kept ⟨hb.os,hb.tape,hb.output,hb.size,fun k hk _=>hb.block k hk⟩ (by
  rcases hv:v.ownBlock with _ | g
  ·exact .inl rfl
  ·exact .inr (by simp:some g≠none)),fun i h1 h2=>FT (hb.mono hB) (h.nd i h1 h2),h.one⟩
theorem NdOw.push {F:Nat→Prop} {B:Nat} {w w':World} {l m:List Nd} {v v':Value} {us news:List Value} (h:NdOw F B w l v us) (hb:Below B w w') (hl:news.length=m.length) (hn:∀ i (h1:i < m.length) (h2:i < news.length),NdX (fun k=>k < B∧F k) w m[i] news[i]) (h1:∀ u∈news,u.oneCell'=true)
  (hown:w'.ownsRow B 45 1 v' (l.length+m.length) (us++news)):NdOw F B w' (l++m) v' (us++news):=by
 refine ⟨by simp [h.len,hl],by rw [Afs];exact hown,fun i g1 g2=>?_,fun u hu=>(Af1.1 hu).elim (h.one u) (h1 u)⟩;by_cases hi:i < l.length
 ·rw [Af0 hi,Af0 (by rw [h.len];exact hi)];exact FT hb (h.nd i hi (by rw [h.len];exact hi))
 ·rw [List.getElem_append_right (by omega),List.getElem_append_right (by rw [h.len];omega)];simp only [h.len];exact FT hb (hn _ (by simp at g1;omega) (by simp at g1;omega))
theorem NdOw.parts {F:Nat→Prop} {B:Nat} {w:World} {l:List Nd} {v:Value} {us:List Value} (h:NdOw F B w l v us):∃ a cap,v=.slice a l.length cap∧Be (fun k=>(k < B∧F k)∨B≤k) w l a cap:=by
 have hr:=h.row;obtain ⟨_,h2⟩:=h.row;rcases h2 with ⟨rfl,h0⟩ | ⟨g,cap,cur,rfl,hg,hh,hn,hcap,hcs,htk⟩
 ·exact ⟨none,0,by rw [h0],by omega,by decide,fun h=>by omega⟩
 ·refine ⟨_,_,rfl,hn,hcap,fun h0=>⟨g,0,rfl,.inr hg,(Af6.1 hh).1,fun i hi=>?_⟩⟩;have hiu:i < us.length:=by rw [h.len];exact hi
  refine ⟨us[i],?_,(h.nd i hi hiu).keep (Afq _) (fun _ hf _=>⟨.inl hf,fun _=>rfl⟩)⟩;rw [Nat.zero_add,hr.cellAt i (by omega),Af4 hiu]
theorem Kh {F:Nat→Prop} {w:World} {l:List Nd} {a:Option Addr} {cap:Nat} (h:Be F w l a cap):∃ news:List Value,news.length=l.length∧(∀ i (h1:i < l.length) (h2:i < news.length),NdX F w l[i] news[i])∧(∀ u∈news,u.oneCell'=true)∧
  (0 < l.length→∃ ad,a=some ad∧∃ b o,ad=⟨b,o,none⟩∧F b∧b < w.heap.size∧∀ j u,news[j]?=some u→w.cell? ⟨b,o+j,none⟩=some u):=by
 by_cases h0:0 < l.length
 ·obtain ⟨b,o,rfl,hf,hb,hx⟩:=h.2.2 h0;have hone:∀ i,i < l.length→∃ u,w.cell? ⟨b,o+i,none⟩=some u∧∀ h:i < l.length,NdX F w l[i] u:=fun i hi=>by
   obtain ⟨u,h1,h2⟩:=hx i hi;exact ⟨u,h1,fun _=>h2⟩
  obtain ⟨Q,hQ⟩:=Go.Deep.choose_lt hone;refine ⟨(List.range l.length).map Q,by simp,fun i h1 h2=>?_,fun u hu=>?_,fun _=>⟨_,rfl,b,o,rfl,hf,hb,fun j u hj=>?_⟩⟩
  ·rw [List.getElem_map,List.getElem_range];exact (hQ i h1).2 h1
  ·obtain ⟨i,hi,rfl⟩:=List.mem_map.1 hu;have hi:=List.mem_range.1 hi;obtain ⟨_,hn⟩:=(hQ i hi).2 hi;rcases Ay hn with ⟨T,p,e⟩ | e <;> rw [e] <;> rfl
  ·rw [List.getElem?_map] at hj;obtain ⟨i,hi,he⟩:=Option.map_eq_some_iff.1 hj;obtain ⟨hlt,he2⟩:=List.getElem?_eq_some_iff.1 hi;simp at hlt he2;subst he2;rw [←he];exact (hQ j hlt).1
 ·obtain rfl:l=[]:=List.eq_nil_of_length_eq_zero (by omega);exact ⟨[],rfl,fun i h1=>absurd h1 (by simp),fun u hu=>absurd hu (by simp),fun h=>absurd h (by simp)⟩
theorem Aw {w:World} {k:Nat} (hk:w.heap.size=k) (v:Value) (t:TypeId):∀ j u,[v][j]?=some u→(w.alloc (.cells #[v] t)).cell? ((⟨k,0,none⟩:Addr).add j)=some u:=by
 subst hk;exact cell_one_new w v t
theorem Bp {w:World} {base:Nat} {e:TypeId} {size:Nat} {v:Value} {n:Nat} {xs:List Value} (h:w.ownsRow base e size v n xs):∀ k,v.ownBlock=some k→base≤k:=fun k hk=>(h.lt k hk).1
theorem O1 {F:Nat→Prop} {w:World} {l:List Nd} {a:Option Addr} {cap:Nat} (h:Be F w l a cap):∃ n,Aa9 F n w l a cap:=by
 have hone:∀ i,i < l.length→∃ n:Nat,∀ (h:i < l.length) (b o:Nat),a=some ⟨b,o,none⟩→∃ u,w.cell? ⟨b,o+i,none⟩=some u∧Ew F n w l[i] u:=fun i hi=>by
  obtain ⟨b,o,rfl,_,_,hx⟩:=h.2.2 (by omega);obtain ⟨u,hu,n,hn⟩:=hx i hi;exact ⟨n,fun _ b' o' e=>by cases e;exact ⟨u,hu,hn⟩⟩
 obtain ⟨Q,hQ⟩:=Go.Deep.choose_lt hone;obtain ⟨N,hN⟩:∃ N,∀ i,i < l.length→Q i≤N:=Go.Deep.fuel_lt (q:=fun i N=>Q i≤N) (fun _ _ _ h h2=>Afr h2 h) fun i _=>⟨_,Afq _⟩
 refine ⟨N,h.1,h.2.1,fun h0=>?_⟩;obtain ⟨b,o,rfl,hf,hb,_⟩:=h.2.2 h0;refine ⟨b,o,rfl,hf,hb,fun i hi=>?_⟩;obtain ⟨u,hu,hn⟩:=hQ i hi hi b o rfl;exact ⟨u,hu,Ew.more _ _ _ _ (hN i hi) hn⟩
theorem ZM {F:Nat→Prop} {w:World} {l:List Nd} {a:Option Addr} {cap:Nat} (h:Be F w l a cap):NdX F w (.cat l) (.iface 97 (.agg #[.slice a l.length cap])):=by
 obtain ⟨n,hn⟩:=O1 h;exact ⟨n+1,a,cap,rfl,hn⟩
theorem ZN {F:Nat→Prop} {w:World} {l:List Nd} {a:Option Addr} {cap:Nat} (h:Be F w l a cap):NdX F w (.alt l) (.iface 98 (.agg #[.slice a l.length cap])):=by
 obtain ⟨n,hn⟩:=O1 h;exact ⟨n+1,a,cap,rfl,hn⟩
def O2 (G F:Nat→Prop) (w:World) (l:List Nd) (a:Option Addr) (cap:Nat):Prop:=
 l.length≤cap∧cap≤maxLen∧(0 < l.length→∃ b o,a=some ⟨b,o,none⟩∧G b∧b < w.heap.size∧∀ i (h:i < l.length),∃ u,w.cell? ⟨b,o+i,none⟩=some u∧NdX F w l[i] u)
theorem O3 {G F:Nat→Prop} {w:World} {l:List Nd} {a:Option Addr} {cap:Nat} (h:O2 G F w l a cap):O2 G (fun k=>k < w.heap.size∧F k) w l a cap:=
 ⟨h.1,h.2.1,fun h0=>by
  obtain ⟨b,o,e,hG,hl,hx⟩:=h.2.2 h0;exact ⟨b,o,e,hG,hl,fun i hi=>by obtain ⟨u,hu,hn⟩:=hx i hi;exact ⟨u,hu,hn.keep (Afq _) (fun _ hf hlt=>⟨⟨hlt,hf⟩,fun _=>rfl⟩)⟩⟩⟩
theorem Sz {G F:Nat→Prop} (l:List Nd) (a:Option Addr) (cap:Nat) (w:World) (h:O2 G F w l a cap) (hsz:(AN l).length≤4000000) :
  Calls prog 141 #[.slice a l.length cap] w fun e w'=>∃ v,e=.returned v∧NdX (fun k=>(k < w.heap.size∧F k)∨w.heap.size≤k) w' (B0 l) v∧Below w.heap.size w w':=by
 obtain ⟨i0,hi,hz0,hz1,hz2⟩:=DZ;have hin:=O3 h;have hlen:=hin.1;have hl2:=hin.2.1;unfold maxLen at hl2;have Hh:=Afj hin.2.2;clear h hin;obtain ⟨J,hJ⟩:∃ J,J=B0 l:=⟨_,rfl⟩;rw [←hJ];have HJ:=Afj hJ;clear hJ;go_enter func141,ntmps141;go_wp2_with fail
 go_loopw [3,11] (fun av i wr=>∃ (k:Nat) (us:List Value) (pv:Value),k≤l.length∧i=.int .i64 k∧pv=av∧NdOw F w.heap.size wr (AN (l.take k)) pv us∧Below w.heap.size w wr) (fun _ i _=>l.length - (intOf i).toNat)
 case atStart=>exact ⟨0,[],_,by omega,rfl,rfl,NdOw.nil _ _ _,Afv _ _⟩
 case round=>
  obtain ⟨k,us,pv,hk,rfl,hpv,hN,hW⟩:=hrel;subst hpv;by_cases hlt:k < l.length
  ·obtain ⟨b,o,rfl,hfb,hbl,hx⟩:=Hh.out (by omega);obtain ⟨u0,hu0,hxk⟩:=hx k hlt;replace hu0:=(hW.cell (p:=⟨b,o+k,none⟩) hbl).trans hu0;replace hxk:=FT hW hxk;have Htk:=Afj (Lg Br l k hlt);have hm:=RI Br l (k+1);rw [Htk.out,Afs] at hm
   change (AN (l.take k)).length+(Br l[k]).length≤(AN l).length at hm
   clear hx;generalize l[k]=x at *;rcases Ck hxk with ⟨rfl,rfl | rfl⟩ | ⟨s,rfl,rfl⟩ | ⟨l',a',cap',rfl,rfl,hr⟩ | ⟨l',a',cap',rfl,rfl,hr⟩ | ⟨d',mn,mx,u,rfl,rfl,hu⟩ | ⟨num,d',u,rfl,rfl,hu⟩ | ⟨num,rfl,rfl⟩ | ⟨rfl,rfl⟩ | ⟨rfl,rfl⟩
   ·go_wp2_with fail
    go_roundw
    case rel=>exact ⟨k+1,us,_,by omega,by go_num,rfl,by rw [show AN (l.take (k+1))=AN (l.take k) from Htk.out.trans (List.append_nil _)];exact hN,hW⟩
    case measure=>simp [intOf];omega
   ·go_wp2_with fail
    go_roundw
    case rel=>exact ⟨k+1,us,_,by omega,by go_num,rfl,by rw [show AN (l.take (k+1))=AN (l.take k) from Htk.out.trans (List.append_nil _)];exact hN,hW⟩
    case measure=>simp [intOf];omega
   ·have hm1:(AN (l.take k)).length+1≤maxLen:=by unfold maxLen;simp [Br] at hm;omega
    have hm2:((AN (l.take k)).length+1) * 16≤140737488355328:=by simp [Br] at hm;omega
    clear hm;go_wp2_with (at_builtin;refine Ag _ rfl _ _ 83 rfl w.heap.size 45 i0 .nilIface 1 16 underlying83 hi hz0 hz1 hz2 rfl (by decide) _ _ _ rfl (hN.row.alloc _) (some ⟨wr.heap.size,0,none⟩) 1 1 [_] rfl rfl (fun _=>⟨_,rfl,Aw (by simp) _ _⟩) (by intro y hy;simp at hy;subst hy;rfl) hm1 hm2 (by have:=hW.size;simp;omega) ?_;intro v3 w3 hown hgrow hat)
    go_roundw
    case rel=>
     have hb3:Below w.heap.size wr w3:=((Afv _ wr).alloc hW.size _).grown hgrow (by have:=hW.size;simp;omega) (Bp hN.row);exact ⟨k+1,_,_,by omega,by go_num,rfl,by rw [show AN (l.take (k+1))=_ from Htk.out];exact hN.push hb3 rfl (fun i h1 h2=>by simp [Br] at h1;subst h1;exact hxk) (by intro y hy;simp at hy;subst hy;rfl) hown,hW.trans hb3⟩
    case measure=>simp [intOf];omega
   ·have hm1:(AN (l.take k)).length+l'.length≤maxLen:=by unfold maxLen;simp [Br] at hm;omega
    have hm2:((AN (l.take k)).length+l'.length) * 16≤140737488355328:=by simp [Br] at hm;omega
    have hA:=(Afv wr.heap.size wr).alloc (Afq _) (.cells #[.slice a' l'.length cap'] 97);obtain ⟨news,hnl,hnd,hn1,hnc⟩:=Kh hr;have hnc2:0 < l'.length→∃ ad,a'=some ad∧∀ j u,news[j]?=some u→(wr.alloc (.cells #[.slice a' l'.length cap'] 97)).cell? (ad.add j)=some u:=fun h0=>by
     obtain ⟨ad,h1,b2,o2,rfl,_,hlt2,h2⟩:=hnc h0;exact ⟨_,h1,fun j u hj=>by rw [Go.WideShapes.add_plain];exact (hA.cell (p:=⟨b2,o2+j,none⟩) hlt2).trans (h2 j u hj)⟩
    clear hm hnc;go_wp2_with (at_builtin;refine Ag _ rfl _ _ 83 rfl w.heap.size 45 i0 .nilIface 1 16 underlying83 hi hz0 hz1 hz2 rfl (by decide) _ _ _ rfl (hN.row.alloc _) a' l'.length cap' news rfl (by omega) hnc2 hn1 hm1 hm2 (by have:=hW.size;simp;omega) ?_;intro v3 w3 hown hgrow hat)
    go_roundw
    case rel=>
     have hb3:Below w.heap.size wr w3:=((Afv _ wr).alloc hW.size _).grown hgrow (by have:=hW.size;simp;omega) (Bp hN.row);exact ⟨k+1,_,_,by omega,by go_num,rfl,by rw [show AN (l.take (k+1))=_ from Htk.out];exact hN.push hb3 hnl hnd hn1 hown,hW.trans hb3⟩
    case measure=>simp [intOf];omega
   ·have hm1:(AN (l.take k)).length+1≤maxLen:=by unfold maxLen;simp [Br] at hm;omega
    have hm2:((AN (l.take k)).length+1) * 16≤140737488355328:=by simp [Br] at hm;omega
    clear hm;go_wp2_with (at_builtin;refine Ag _ rfl _ _ 83 rfl w.heap.size 45 i0 .nilIface 1 16 underlying83 hi hz0 hz1 hz2 rfl (by decide) _ _ _ rfl (hN.row.alloc _) (some ⟨wr.heap.size,0,none⟩) 1 1 [_] rfl rfl (fun _=>⟨_,rfl,Aw (by simp) _ _⟩) (by intro y hy;simp at hy;subst hy;rfl) hm1 hm2 (by have:=hW.size;simp;omega) ?_;intro v3 w3 hown hgrow hat)
    go_roundw
    case rel=>
     have hb3:Below w.heap.size wr w3:=((Afv _ wr).alloc hW.size _).grown hgrow (by have:=hW.size;simp;omega) (Bp hN.row);exact ⟨k+1,_,_,by omega,by go_num,rfl,by rw [show AN (l.take (k+1))=_ from Htk.out];exact hN.push hb3 rfl (fun i h1 h2=>by simp [Br] at h1;subst h1;exact hxk) (by intro y hy;simp at hy;subst hy;rfl) hown,hW.trans hb3⟩
    case measure=>simp [intOf];omega
   ·have hm1:(AN (l.take k)).length+1≤maxLen:=by unfold maxLen;simp [Br] at hm;omega
    have hm2:((AN (l.take k)).length+1) * 16≤140737488355328:=by simp [Br] at hm;omega
    clear hm;go_wp2_with (at_builtin;refine Ag _ rfl _ _ 83 rfl w.heap.size 45 i0 .nilIface 1 16 underlying83 hi hz0 hz1 hz2 rfl (by decide) _ _ _ rfl (hN.row.alloc _) (some ⟨wr.heap.size,0,none⟩) 1 1 [_] rfl rfl (fun _=>⟨_,rfl,Aw (by simp) _ _⟩) (by intro y hy;simp at hy;subst hy;rfl) hm1 hm2 (by have:=hW.size;simp;omega) ?_;intro v3 w3 hown hgrow hat)
    go_roundw
    case rel=>
     have hb3:Below w.heap.size wr w3:=((Afv _ wr).alloc hW.size _).grown hgrow (by have:=hW.size;simp;omega) (Bp hN.row);exact ⟨k+1,_,_,by omega,by go_num,rfl,by rw [show AN (l.take (k+1))=_ from Htk.out];exact hN.push hb3 rfl (fun i h1 h2=>by simp [Br] at h1;subst h1;exact hxk) (by intro y hy;simp at hy;subst hy;rfl) hown,hW.trans hb3⟩
    case measure=>simp [intOf];omega
   ·have hm1:(AN (l.take k)).length+1≤maxLen:=by unfold maxLen;simp [Br] at hm;omega
    have hm2:((AN (l.take k)).length+1) * 16≤140737488355328:=by simp [Br] at hm;omega
    clear hm;go_wp2_with (at_builtin;refine Ag _ rfl _ _ 83 rfl w.heap.size 45 i0 .nilIface 1 16 underlying83 hi hz0 hz1 hz2 rfl (by decide) _ _ _ rfl (hN.row.alloc _) (some ⟨wr.heap.size,0,none⟩) 1 1 [_] rfl rfl (fun _=>⟨_,rfl,Aw (by simp) _ _⟩) (by intro y hy;simp at hy;subst hy;rfl) hm1 hm2 (by have:=hW.size;simp;omega) ?_;intro v3 w3 hown hgrow hat)
    go_roundw
    case rel=>
     have hb3:Below w.heap.size wr w3:=((Afv _ wr).alloc hW.size _).grown hgrow (by have:=hW.size;simp;omega) (Bp hN.row);exact ⟨k+1,_,_,by omega,by go_num,rfl,by rw [show AN (l.take (k+1))=_ from Htk.out];exact hN.push hb3 rfl (fun i h1 h2=>by simp [Br] at h1;subst h1;exact hxk) (by intro y hy;simp at hy;subst hy;rfl) hown,hW.trans hb3⟩
    case measure=>simp [intOf];omega
   ·have hm1:(AN (l.take k)).length+1≤maxLen:=by unfold maxLen;simp [Br] at hm;omega
    have hm2:((AN (l.take k)).length+1) * 16≤140737488355328:=by simp [Br] at hm;omega
    clear hm;go_wp2_with (at_builtin;refine Ag _ rfl _ _ 83 rfl w.heap.size 45 i0 .nilIface 1 16 underlying83 hi hz0 hz1 hz2 rfl (by decide) _ _ _ rfl (hN.row.alloc _) (some ⟨wr.heap.size,0,none⟩) 1 1 [_] rfl rfl (fun _=>⟨_,rfl,Aw (by simp) _ _⟩) (by intro y hy;simp at hy;subst hy;rfl) hm1 hm2 (by have:=hW.size;simp;omega) ?_;intro v3 w3 hown hgrow hat)
    go_roundw
    case rel=>
     have hb3:Below w.heap.size wr w3:=((Afv _ wr).alloc hW.size _).grown hgrow (by have:=hW.size;simp;omega) (Bp hN.row);exact ⟨k+1,_,_,by omega,by go_num,rfl,by rw [show AN (l.take (k+1))=_ from Htk.out];exact hN.push hb3 rfl (fun i h1 h2=>by simp [Br] at h1;subst h1;exact hxk) (by intro y hy;simp at hy;subst hy;rfl) hown,hW.trans hb3⟩
    case measure=>simp [intOf];omega
   ·have hm1:(AN (l.take k)).length+1≤maxLen:=by unfold maxLen;simp [Br] at hm;omega
    have hm2:((AN (l.take k)).length+1) * 16≤140737488355328:=by simp [Br] at hm;omega
    clear hm;go_wp2_with (at_builtin;refine Ag _ rfl _ _ 83 rfl w.heap.size 45 i0 .nilIface 1 16 underlying83 hi hz0 hz1 hz2 rfl (by decide) _ _ _ rfl (hN.row.alloc _) (some ⟨wr.heap.size,0,none⟩) 1 1 [_] rfl rfl (fun _=>⟨_,rfl,Aw (by simp) _ _⟩) (by intro y hy;simp at hy;subst hy;rfl) hm1 hm2 (by have:=hW.size;simp;omega) ?_;intro v3 w3 hown hgrow hat)
    go_roundw
    case rel=>
     have hb3:Below w.heap.size wr w3:=((Afv _ wr).alloc hW.size _).grown hgrow (by have:=hW.size;simp;omega) (Bp hN.row);exact ⟨k+1,_,_,by omega,by go_num,rfl,by rw [show AN (l.take (k+1))=_ from Htk.out];exact hN.push hb3 rfl (fun i h1 h2=>by simp [Br] at h1;subst h1;exact hxk) (by intro y hy;simp at hy;subst hy;rfl) hown,hW.trans hb3⟩
    case measure=>simp [intOf];omega
   ·have hm1:(AN (l.take k)).length+1≤maxLen:=by unfold maxLen;simp [Br] at hm;omega
    have hm2:((AN (l.take k)).length+1) * 16≤140737488355328:=by simp [Br] at hm;omega
    clear hm;go_wp2_with (at_builtin;refine Ag _ rfl _ _ 83 rfl w.heap.size 45 i0 .nilIface 1 16 underlying83 hi hz0 hz1 hz2 rfl (by decide) _ _ _ rfl (hN.row.alloc _) (some ⟨wr.heap.size,0,none⟩) 1 1 [_] rfl rfl (fun _=>⟨_,rfl,Aw (by simp) _ _⟩) (by intro y hy;simp at hy;subst hy;rfl) hm1 hm2 (by have:=hW.size;simp;omega) ?_;intro v3 w3 hown hgrow hat)
    go_roundw
    case rel=>
     have hb3:Below w.heap.size wr w3:=((Afv _ wr).alloc hW.size _).grown hgrow (by have:=hW.size;simp;omega) (Bp hN.row);exact ⟨k+1,_,_,by omega,by go_num,rfl,by rw [show AN (l.take (k+1))=_ from Htk.out];exact hN.push hb3 rfl (fun i h1 h2=>by simp [Br] at h1;subst h1;exact hxk) (by intro y hy;simp at hy;subst hy;rfl) hown,hW.trans hb3⟩
    case measure=>simp [intOf];omega
  ·obtain rfl:k=l.length:=by omega
   rw [List.take_length] at hN;clear Hh hlt;clear hsz;generalize hm:AN l=m at hN;have hJm:∀ m',m=m'→J=(match m' with | []=>.empty | [d]=>d | ds=>.cat ds):=fun m' e=>by rw [HJ.out,←e,←hm];rfl
   clear HJ hm
   match m,hN with
   | [],hN=>
    obtain rfl:J=.empty:=hJm _ rfl;clear hJm;obtain ⟨a3,c3,rfl,_⟩:=hN.parts;go_wp2_with fail
    go_ret;exact ⟨_,rfl,⟨1,.inl rfl⟩,hW⟩
   | [d],hN=>
    obtain rfl:J=d:=hJm _ rfl;clear hJm;obtain ⟨a3,c3,rfl,hp⟩:=hN.parts;obtain ⟨b3,o3,rfl,_,hb3,hx3⟩:=hp.2.2 (by simp);obtain ⟨u3,hu3,hd3⟩:=hx3 0 (by simp);rw [Nat.add_zero] at hu3;clear hN hx3;go_wp2_with fail
    go_ret;exact ⟨_,rfl,hd3,hW⟩
   | d :: d2 :: ds,hN=>
    have hJ3:J=.cat (d :: d2 :: ds):=hJm _ rfl;clear hJm;obtain ⟨a3,c3,rfl,hp⟩:=hN.parts;have e0:((((d :: d2 :: ds).length:Nat):Int) == 0)=false:=by rw [beq_eq_false_iff_ne];simp;omega
    have e1:((((d :: d2 :: ds).length:Nat):Int) == 1)=false:=by rw [beq_eq_false_iff_ne];simp;omega
    generalize d :: d2 :: ds=m at *;have HJ3:=Afj hJ3;clear hN hJ3;go_wp2_with fail
    go_ret;exact ⟨_,rfl,by rw [HJ3.out];exact ZM hp,hW⟩
theorem S0 {F:Nat→Prop} (l:List Nd) (a:Option Addr) (cap:Nat) (w:World) (h:Be F w l a cap) (hsz:(AN l).length≤4000000) :
  Calls prog 141 #[.slice a l.length cap] w fun e w'=>∃ v,e=.returned v∧NdX (fun k=>(k < w.heap.size∧F k)∨w.heap.size≤k) w' (B0 l) v∧Below w.heap.size w w':=Sz (G:=F) l a cap w h hsz
theorem LA {G F:Nat→Prop} (l:List Nd) (a:Option Addr) (cap:Nat) (w:World) (h:O2 G F w l a cap) (hsz:(AO l).length≤4000000) :
  Calls prog 126 #[.slice a l.length cap] w fun e w'=>∃ v,e=.returned v∧NdX (fun k=>(k < w.heap.size∧F k)∨w.heap.size≤k) w' (Co l) v∧Below w.heap.size w w':=by
 obtain ⟨i0,hi,hz0,hz1,hz2⟩:=DZ;have hin:=O3 h;have hlen:=hin.1;have hl2:=hin.2.1;unfold maxLen at hl2;have Hh:=Afj hin.2.2;clear h hin;obtain ⟨J,hJ⟩:∃ J,J=Co l:=⟨_,rfl⟩;rw [←hJ];have HJ:=Afj hJ;clear hJ;go_enter func126,ntmps126;go_wp2_with fail
 go_loopw [3,10] (fun av i wr=>∃ (k:Nat) (us:List Value) (pv:Value),k≤l.length∧i=.int .i64 k∧pv=av∧NdOw F w.heap.size wr (AO (l.take k)) pv us∧Below w.heap.size w wr) (fun _ i _=>l.length - (intOf i).toNat)
 case atStart=>exact ⟨0,[],_,by omega,rfl,rfl,NdOw.nil _ _ _,Afv _ _⟩
 case round=>
  obtain ⟨k,us,pv,hk,rfl,hpv,hN,hW⟩:=hrel;subst hpv;by_cases hlt:k < l.length
  ·obtain ⟨b,o,rfl,hfb,hbl,hx⟩:=Hh.out (by omega);obtain ⟨u0,hu0,hxk⟩:=hx k hlt;replace hu0:=(hW.cell (p:=⟨b,o+k,none⟩) hbl).trans hu0;replace hxk:=FT hW hxk;have Htk:=Afj (Lg AT l k hlt);have hm:=RI AT l (k+1);rw [Htk.out,Afs] at hm
   change (AO (l.take k)).length+(AT l[k]).length≤(AO l).length at hm
   clear hx;generalize l[k]=x at *;rcases Ck hxk with ⟨rfl,rfl | rfl⟩ | ⟨s,rfl,rfl⟩ | ⟨l',a',cap',rfl,rfl,hr⟩ | ⟨l',a',cap',rfl,rfl,hr⟩ | ⟨d',mn,mx,u,rfl,rfl,hu⟩ | ⟨num,d',u,rfl,rfl,hu⟩ | ⟨num,rfl,rfl⟩ | ⟨rfl,rfl⟩ | ⟨rfl,rfl⟩
   ·have hm1:(AO (l.take k)).length+1≤maxLen:=by unfold maxLen;simp [AT] at hm;omega
    have hm2:((AO (l.take k)).length+1) * 16≤140737488355328:=by simp [AT] at hm;omega
    clear hm;go_wp2_with (at_builtin;refine Ag _ rfl _ _ 83 rfl w.heap.size 45 i0 .nilIface 1 16 underlying83 hi hz0 hz1 hz2 rfl (by decide) _ _ _ rfl ((hN.row.alloc _).alloc _) (some ⟨wr.heap.size+1,0,none⟩) 1 1 [_] rfl rfl (fun _=>⟨_,rfl,Aw (by simp) _ _⟩) (by intro y hy;simp at hy;subst hy;rfl) hm1 hm2 (by have:=hW.size;simp;omega) ?_;intro v3 w3 hown hgrow hat)
    go_roundw
    case rel=>
     have hb3:Below w.heap.size wr w3:=(((Afv _ wr).alloc hW.size _).alloc (by have:=hW.size;simp;omega) _).grown hgrow (by have:=hW.size;simp;omega) (Bp hN.row);exact ⟨k+1,_,_,by omega,by go_num,rfl,by rw [show AO (l.take (k+1))=_ from Htk.out];exact hN.push hb3 rfl (fun i h1 h2=>by simp [AT] at h1;subst h1;exact hxk) (by intro y hy;simp at hy;subst hy;rfl) hown,hW.trans hb3⟩
    case measure=>simp [intOf];omega
   ·have hm1:(AO (l.take k)).length+1≤maxLen:=by unfold maxLen;simp [AT] at hm;omega
    have hm2:((AO (l.take k)).length+1) * 16≤140737488355328:=by simp [AT] at hm;omega
    clear hm;go_wp2_with (at_builtin;refine Ag _ rfl _ _ 83 rfl w.heap.size 45 i0 .nilIface 1 16 underlying83 hi hz0 hz1 hz2 rfl (by decide) _ _ _ rfl ((hN.row.alloc _).alloc _) (some ⟨wr.heap.size+1,0,none⟩) 1 1 [_] rfl rfl (fun _=>⟨_,rfl,Aw (by simp) _ _⟩) (by intro y hy;simp at hy;subst hy;rfl) hm1 hm2 (by have:=hW.size;simp;omega) ?_;intro v3 w3 hown hgrow hat)
    go_roundw
    case rel=>
     have hb3:Below w.heap.size wr w3:=(((Afv _ wr).alloc hW.size _).alloc (by have:=hW.size;simp;omega) _).grown hgrow (by have:=hW.size;simp;omega) (Bp hN.row);exact ⟨k+1,_,_,by omega,by go_num,rfl,by rw [show AO (l.take (k+1))=_ from Htk.out];exact hN.push hb3 rfl (fun i h1 h2=>by simp [AT] at h1;subst h1;exact hxk) (by intro y hy;simp at hy;subst hy;rfl) hown,hW.trans hb3⟩
    case measure=>simp [intOf];omega
   ·have hm1:(AO (l.take k)).length+1≤maxLen:=by unfold maxLen;simp [AT] at hm;omega
    have hm2:((AO (l.take k)).length+1) * 16≤140737488355328:=by simp [AT] at hm;omega
    clear hm;go_wp2_with (at_builtin;refine Ag _ rfl _ _ 83 rfl w.heap.size 45 i0 .nilIface 1 16 underlying83 hi hz0 hz1 hz2 rfl (by decide) _ _ _ rfl ((hN.row.alloc _).alloc _) (some ⟨wr.heap.size+1,0,none⟩) 1 1 [_] rfl rfl (fun _=>⟨_,rfl,Aw (by simp) _ _⟩) (by intro y hy;simp at hy;subst hy;rfl) hm1 hm2 (by have:=hW.size;simp;omega) ?_;intro v3 w3 hown hgrow hat)
    go_roundw
    case rel=>
     have hb3:Below w.heap.size wr w3:=(((Afv _ wr).alloc hW.size _).alloc (by have:=hW.size;simp;omega) _).grown hgrow (by have:=hW.size;simp;omega) (Bp hN.row);exact ⟨k+1,_,_,by omega,by go_num,rfl,by rw [show AO (l.take (k+1))=_ from Htk.out];exact hN.push hb3 rfl (fun i h1 h2=>by simp [AT] at h1;subst h1;exact hxk) (by intro y hy;simp at hy;subst hy;rfl) hown,hW.trans hb3⟩
    case measure=>simp [intOf];omega
   ·have hm1:(AO (l.take k)).length+1≤maxLen:=by unfold maxLen;simp [AT] at hm;omega
    have hm2:((AO (l.take k)).length+1) * 16≤140737488355328:=by simp [AT] at hm;omega
    clear hm;go_wp2_with (at_builtin;refine Ag _ rfl _ _ 83 rfl w.heap.size 45 i0 .nilIface 1 16 underlying83 hi hz0 hz1 hz2 rfl (by decide) _ _ _ rfl ((hN.row.alloc _).alloc _) (some ⟨wr.heap.size+1,0,none⟩) 1 1 [_] rfl rfl (fun _=>⟨_,rfl,Aw (by simp) _ _⟩) (by intro y hy;simp at hy;subst hy;rfl) hm1 hm2 (by have:=hW.size;simp;omega) ?_;intro v3 w3 hown hgrow hat)
    go_roundw
    case rel=>
     have hb3:Below w.heap.size wr w3:=(((Afv _ wr).alloc hW.size _).alloc (by have:=hW.size;simp;omega) _).grown hgrow (by have:=hW.size;simp;omega) (Bp hN.row);exact ⟨k+1,_,_,by omega,by go_num,rfl,by rw [show AO (l.take (k+1))=_ from Htk.out];exact hN.push hb3 rfl (fun i h1 h2=>by simp [AT] at h1;subst h1;exact hxk) (by intro y hy;simp at hy;subst hy;rfl) hown,hW.trans hb3⟩
    case measure=>simp [intOf];omega
   ·have hm1:(AO (l.take k)).length+l'.length≤maxLen:=by unfold maxLen;simp [AT] at hm;omega
    have hm2:((AO (l.take k)).length+l'.length) * 16≤140737488355328:=by simp [AT] at hm;omega
    have hA:=(Afv wr.heap.size wr).alloc (Afq _) (.cells #[.slice a' l'.length cap'] 98);obtain ⟨news,hnl,hnd,hn1,hnc⟩:=Kh hr;have hnc2:0 < l'.length→∃ ad,a'=some ad∧∀ j u,news[j]?=some u→(wr.alloc (.cells #[.slice a' l'.length cap'] 98)).cell? (ad.add j)=some u:=fun h0=>by
     obtain ⟨ad,h1,b2,o2,rfl,_,hlt2,h2⟩:=hnc h0;exact ⟨_,h1,fun j u hj=>by rw [Go.WideShapes.add_plain];exact (hA.cell (p:=⟨b2,o2+j,none⟩) hlt2).trans (h2 j u hj)⟩
    clear hm hnc;go_wp2_with (at_builtin;refine Ag _ rfl _ _ 83 rfl w.heap.size 45 i0 .nilIface 1 16 underlying83 hi hz0 hz1 hz2 rfl (by decide) _ _ _ rfl (hN.row.alloc _) a' l'.length cap' news rfl (by omega) hnc2 hn1 hm1 hm2 (by have:=hW.size;simp;omega) ?_;intro v3 w3 hown hgrow hat)
    go_roundw
    case rel=>
     have hb3:Below w.heap.size wr w3:=((Afv _ wr).alloc hW.size _).grown hgrow (by have:=hW.size;simp;omega) (Bp hN.row);exact ⟨k+1,_,_,by omega,by go_num,rfl,by rw [show AO (l.take (k+1))=_ from Htk.out];exact hN.push hb3 hnl hnd hn1 hown,hW.trans hb3⟩
    case measure=>simp [intOf];omega
   ·have hm1:(AO (l.take k)).length+1≤maxLen:=by unfold maxLen;simp [AT] at hm;omega
    have hm2:((AO (l.take k)).length+1) * 16≤140737488355328:=by simp [AT] at hm;omega
    clear hm;go_wp2_with (at_builtin;refine Ag _ rfl _ _ 83 rfl w.heap.size 45 i0 .nilIface 1 16 underlying83 hi hz0 hz1 hz2 rfl (by decide) _ _ _ rfl ((hN.row.alloc _).alloc _) (some ⟨wr.heap.size+1,0,none⟩) 1 1 [_] rfl rfl (fun _=>⟨_,rfl,Aw (by simp) _ _⟩) (by intro y hy;simp at hy;subst hy;rfl) hm1 hm2 (by have:=hW.size;simp;omega) ?_;intro v3 w3 hown hgrow hat)
    go_roundw
    case rel=>
     have hb3:Below w.heap.size wr w3:=(((Afv _ wr).alloc hW.size _).alloc (by have:=hW.size;simp;omega) _).grown hgrow (by have:=hW.size;simp;omega) (Bp hN.row);exact ⟨k+1,_,_,by omega,by go_num,rfl,by rw [show AO (l.take (k+1))=_ from Htk.out];exact hN.push hb3 rfl (fun i h1 h2=>by simp [AT] at h1;subst h1;exact hxk) (by intro y hy;simp at hy;subst hy;rfl) hown,hW.trans hb3⟩
    case measure=>simp [intOf];omega
   ·have hm1:(AO (l.take k)).length+1≤maxLen:=by unfold maxLen;simp [AT] at hm;omega
    have hm2:((AO (l.take k)).length+1) * 16≤140737488355328:=by simp [AT] at hm;omega
    clear hm;go_wp2_with (at_builtin;refine Ag _ rfl _ _ 83 rfl w.heap.size 45 i0 .nilIface 1 16 underlying83 hi hz0 hz1 hz2 rfl (by decide) _ _ _ rfl ((hN.row.alloc _).alloc _) (some ⟨wr.heap.size+1,0,none⟩) 1 1 [_] rfl rfl (fun _=>⟨_,rfl,Aw (by simp) _ _⟩) (by intro y hy;simp at hy;subst hy;rfl) hm1 hm2 (by have:=hW.size;simp;omega) ?_;intro v3 w3 hown hgrow hat)
    go_roundw
    case rel=>
     have hb3:Below w.heap.size wr w3:=(((Afv _ wr).alloc hW.size _).alloc (by have:=hW.size;simp;omega) _).grown hgrow (by have:=hW.size;simp;omega) (Bp hN.row);exact ⟨k+1,_,_,by omega,by go_num,rfl,by rw [show AO (l.take (k+1))=_ from Htk.out];exact hN.push hb3 rfl (fun i h1 h2=>by simp [AT] at h1;subst h1;exact hxk) (by intro y hy;simp at hy;subst hy;rfl) hown,hW.trans hb3⟩
    case measure=>simp [intOf];omega
   ·have hm1:(AO (l.take k)).length+1≤maxLen:=by unfold maxLen;simp [AT] at hm;omega
    have hm2:((AO (l.take k)).length+1) * 16≤140737488355328:=by simp [AT] at hm;omega
    clear hm;go_wp2_with (at_builtin;refine Ag _ rfl _ _ 83 rfl w.heap.size 45 i0 .nilIface 1 16 underlying83 hi hz0 hz1 hz2 rfl (by decide) _ _ _ rfl ((hN.row.alloc _).alloc _) (some ⟨wr.heap.size+1,0,none⟩) 1 1 [_] rfl rfl (fun _=>⟨_,rfl,Aw (by simp) _ _⟩) (by intro y hy;simp at hy;subst hy;rfl) hm1 hm2 (by have:=hW.size;simp;omega) ?_;intro v3 w3 hown hgrow hat)
    go_roundw
    case rel=>
     have hb3:Below w.heap.size wr w3:=(((Afv _ wr).alloc hW.size _).alloc (by have:=hW.size;simp;omega) _).grown hgrow (by have:=hW.size;simp;omega) (Bp hN.row);exact ⟨k+1,_,_,by omega,by go_num,rfl,by rw [show AO (l.take (k+1))=_ from Htk.out];exact hN.push hb3 rfl (fun i h1 h2=>by simp [AT] at h1;subst h1;exact hxk) (by intro y hy;simp at hy;subst hy;rfl) hown,hW.trans hb3⟩
    case measure=>simp [intOf];omega
   ·have hm1:(AO (l.take k)).length+1≤maxLen:=by unfold maxLen;simp [AT] at hm;omega
    have hm2:((AO (l.take k)).length+1) * 16≤140737488355328:=by simp [AT] at hm;omega
    clear hm;go_wp2_with (at_builtin;refine Ag _ rfl _ _ 83 rfl w.heap.size 45 i0 .nilIface 1 16 underlying83 hi hz0 hz1 hz2 rfl (by decide) _ _ _ rfl ((hN.row.alloc _).alloc _) (some ⟨wr.heap.size+1,0,none⟩) 1 1 [_] rfl rfl (fun _=>⟨_,rfl,Aw (by simp) _ _⟩) (by intro y hy;simp at hy;subst hy;rfl) hm1 hm2 (by have:=hW.size;simp;omega) ?_;intro v3 w3 hown hgrow hat)
    go_roundw
    case rel=>
     have hb3:Below w.heap.size wr w3:=(((Afv _ wr).alloc hW.size _).alloc (by have:=hW.size;simp;omega) _).grown hgrow (by have:=hW.size;simp;omega) (Bp hN.row);exact ⟨k+1,_,_,by omega,by go_num,rfl,by rw [show AO (l.take (k+1))=_ from Htk.out];exact hN.push hb3 rfl (fun i h1 h2=>by simp [AT] at h1;subst h1;exact hxk) (by intro y hy;simp at hy;subst hy;rfl) hown,hW.trans hb3⟩
    case measure=>simp [intOf];omega
   ·have hm1:(AO (l.take k)).length+1≤maxLen:=by unfold maxLen;simp [AT] at hm;omega
    have hm2:((AO (l.take k)).length+1) * 16≤140737488355328:=by simp [AT] at hm;omega
    clear hm;go_wp2_with (at_builtin;refine Ag _ rfl _ _ 83 rfl w.heap.size 45 i0 .nilIface 1 16 underlying83 hi hz0 hz1 hz2 rfl (by decide) _ _ _ rfl ((hN.row.alloc _).alloc _) (some ⟨wr.heap.size+1,0,none⟩) 1 1 [_] rfl rfl (fun _=>⟨_,rfl,Aw (by simp) _ _⟩) (by intro y hy;simp at hy;subst hy;rfl) hm1 hm2 (by have:=hW.size;simp;omega) ?_;intro v3 w3 hown hgrow hat)
    go_roundw
    case rel=>
     have hb3:Below w.heap.size wr w3:=(((Afv _ wr).alloc hW.size _).alloc (by have:=hW.size;simp;omega) _).grown hgrow (by have:=hW.size;simp;omega) (Bp hN.row);exact ⟨k+1,_,_,by omega,by go_num,rfl,by rw [show AO (l.take (k+1))=_ from Htk.out];exact hN.push hb3 rfl (fun i h1 h2=>by simp [AT] at h1;subst h1;exact hxk) (by intro y hy;simp at hy;subst hy;rfl) hown,hW.trans hb3⟩
    case measure=>simp [intOf];omega
  ·obtain rfl:k=l.length:=by omega
   rw [List.take_length] at hN;clear Hh hlt;clear hsz;generalize hm:AO l=m at hN;have hJm:∀ m',m=m'→J=(match m' with | []=>.empty | [d]=>d | ds=>.alt ds):=fun m' e=>by rw [HJ.out,←e,←hm];rfl
   clear HJ hm
   match m,hN with
   | [],hN=>
    obtain rfl:J=.empty:=hJm _ rfl;clear hJm;obtain ⟨a3,c3,rfl,_⟩:=hN.parts;go_wp2_with fail
    go_ret;exact ⟨_,rfl,⟨1,.inl rfl⟩,hW⟩
   | [d],hN=>
    obtain rfl:J=d:=hJm _ rfl;clear hJm;obtain ⟨a3,c3,rfl,hp⟩:=hN.parts;obtain ⟨b3,o3,rfl,_,hb3,hx3⟩:=hp.2.2 (by simp);obtain ⟨u3,hu3,hd3⟩:=hx3 0 (by simp);rw [Nat.add_zero] at hu3;clear hN hx3;go_wp2_with fail
    go_ret;exact ⟨_,rfl,hd3,hW⟩
   | d :: d2 :: ds,hN=>
    have hJ3:J=.alt (d :: d2 :: ds):=hJm _ rfl;clear hJm;obtain ⟨a3,c3,rfl,hp⟩:=hN.parts;have e0:((((d :: d2 :: ds).length:Nat):Int) == 0)=false:=by rw [beq_eq_false_iff_ne];simp;omega
    have e1:((((d :: d2 :: ds).length:Nat):Int) == 1)=false:=by rw [beq_eq_false_iff_ne];simp;omega
    generalize d :: d2 :: ds=m at *;have HJ3:=Afj hJ3;clear hN hJ3;go_wp2_with fail
    go_ret;exact ⟨_,rfl,by rw [HJ3.out];exact ZN hp,hW⟩
theorem TR {F:Nat→Prop} (l:List Nd) (a:Option Addr) (cap:Nat) (w:World) (h:Be F w l a cap) (hsz:(AO l).length≤4000000) :
  Calls prog 126 #[.slice a l.length cap] w fun e w'=>∃ v,e=.returned v∧NdX (fun k=>(k < w.heap.size∧F k)∨w.heap.size≤k) w' (Co l) v∧Below w.heap.size w w':=LA (G:=F) l a cap w h hsz
theorem Jn {s:List UInt8} {k:Nat} (h:AG s k=false):k < s.length:=by
 unfold AG at h;simp only [Bool.or_eq_false_iff,decide_eq_false_iff_not] at h;omega
theorem WR {B p:Nat} {s:ByteArray} {st:ReSt} {es:List Bool} {dep:Nat} {mv cv:Value} (w:World) (h:Rd B p w s st es dep mv cv) (hen:AG s.data.toList st.pos=false) (front:Bool) (hfr:front=true∨repAt false s.data.toList st.pos=.none)
  (sub:Option (ReSt→ReRes (ReSt × Nd))) (hG:Gl w) (hB:glN≤B) (hgr:EB B p s st es dep sub) :
  Calls prog 152 #[.pointer (some ⟨p,0,none⟩)] w fun e w'=>BN (DJ s.data.toList sub front st) B p s dep mv cv w e w':=by
 have hsl:s.data.toList.length=s.size:=by simp
 have hlt:=Jn hen;rw [hsl] at hlt;by_cases h92:byt s.data.toList st.pos=92
 ·exact TN w h hlt h92 front hfr hen sub hG hB hgr
 ·rw [Oz h92];by_cases h91:byt s.data.toList st.pos=91
  ·rw [MY (by omega) h91,if_pos rfl];exact WP w h hlt h91 hG hB
  ·rw [BF h91];simp only [Af2,if_false];by_cases h46:byt s.data.toList st.pos=46
   ·rw [MY (by omega) h46,if_pos rfl];exact WO w h hlt h46
   ·rw [BF h46];simp only [Af2,if_false];exact Q6 w h hlt h46 h91 h92
theorem LB {B p:Nat} {s:ByteArray} {st:ReSt} {es:List Bool} {dep:Nat} {mv cv:Value} (w:World) (h:Rd B p w s st es dep mv cv) (hen:AG s.data.toList st.pos=false) (front:Bool) (hfr:front=true∨repAt false s.data.toList st.pos=.none)
  (sub:Option (ReSt→ReRes (ReSt × Nd))) (hG:Gl w) (hB:glN≤B) (hgr:EB B p s st es dep sub) :
  Calls prog 140 #[.pointer (some ⟨p,0,none⟩)] w fun e w'=>BN (FS s.data.toList sub front st) B p s dep mv cv w e w':=by
 have hsl:s.data.toList.length=s.size:=by simp
 have hlt:=Jn hen;rw [hsl] at hlt;unfold FS;cases hq:(chAt s.data.toList st.pos 36 && AG s.data.toList (st.pos+1)) with
 | true=>exact TQ w h hlt hq
 | false=>
  exact Q7 w h hlt hq _ (fun n=>WR (w.drewN n) (h.below (below_drewN (Afv _ _) n)) hen front hfr sub (hG.up (below_drewN (Afv _ _) n)) hB hgr)
theorem Ki (s:List UInt8) (sub:Option (ReSt→ReRes (ReSt × Nd))) (hmv:Dj s sub) (hok:Hy sub) (front:Bool) (st st':ReSt) (d:Nd) (hl:st.pos < s.length) (h:FS s sub front st=.ok (st',d)) :
  st.pos < st'.pos∧inCat d=true∧((chAt s st.pos 36 && AG s (st.pos+1))=true∨repAt false s st'.pos=.none):=by
 unfold FS at h;split at h
 ·rename_i hq;injection h with h;injection h with h1 h2;subst h1 h2;exact ⟨show st.pos < st.pos+1 by omega,rfl,.inl hq⟩
 ·unfold Kg at h;split at h
  ·cases h
  ·rename_i q hq;obtain ⟨st1,d1⟩:=q;unfold DJ at hq;split at hq
   ·cases hq
   ·have h1:=DA _ _ _ hmv _ _ _ hl hq;have h2:=Fp _ _ _ hok _ _ _ hq;have h3:=Fo _ _ _ _ _ _ _ h1.2 h;have h4:=JH _ _ _ _ _ _ _ st h2.1 h2.2.1 h2.2.2 h;exact ⟨by omega,h4.2,.inr (N6 _ _ _ _ _ _ _ h)⟩
theorem MZ (s:List UInt8) (sub:Option (ReSt→ReRes (ReSt × Nd))) (n:Nat) (st:ReSt) (h:AG s st.pos=false) (h94:chAt s st.pos 94=true):branchM false s sub false st.pos (n+1) st [] true=branchM false s sub false st.pos n (st.to (st.pos+1)) [.start] true:=by
 rw [branchM];unfold AG at h;simp only [A5,Af2,if_false,Bool.not_false,Bool.and_true];rw [h,h94];simp
structure NdRO (lo p:Nat) (mv cv:Value) (w:World) (l:List Nd) (v:Value) (us:List Value):Prop where
 len:us.length=l.length
 row:w.ownsRow lo 45 1 v l.length us
 nd:∀ i (h:i < l.length) (h2:i < us.length),NdX (fun b=>lo≤b∧OffR p mv cv b∧v.ownBlock≠some b) w l[i] us[i]
 one:∀ u∈us,u.oneCell'=true
 off:∀ b,v.ownBlock=some b→OffR p mv cv b
theorem NdRO.nil (lo p:Nat) (mv cv:Value) (w:World):NdRO lo p mv cv w [] (.slice none 0 0) []:=
 ⟨rfl,World.ownsRow_nil _ _ _ _,fun i h=>absurd h (by simp),fun u h=>absurd h (by simp),fun b h=>by simp [Value.ownBlock] at h⟩
theorem NdRO.step {lo p:Nat} {mv cv mv' cv':Value} {w w':World} {l:List Nd} {v:Value} {us:List Value} (h:NdRO lo p mv cv w l v us) (hS:RStep p w mv cv w' mv' cv'):NdRO lo p mv' cv' w' l v us:=by
 have hoff:=h.off;refine ⟨h.len,?_,fun i h1 h2=>(h.nd i h1 h2).keep hS.size (fun b hb hlt=>⟨⟨hb.1,(hS.keep b hb.2.1 hlt).1,hb.2.2⟩,(hS.keep b hb.2.1 hlt).2⟩),h.one,fun b hb=>?_⟩
 ·obtain ⟨h1,h2⟩:=h.row;refine ⟨h1,?_⟩;rcases h2 with h2 | ⟨g,cap,cur,a,b,c,d⟩
  ·exact .inl h2
  ·have ho:=hoff g (by rw [a];rfl);exact .inr ⟨g,cap,cur,a,b,by rw [(hS.block g (Af6.1 c).1 ho.1 ho.2.1 ho.2.2).1];exact c,d⟩
 ·exact (hS.keep b (h.off b hb) (h.row.lt b hb).2).1
theorem Rd.grown {B p:Nat} {w w':World} {s:ByteArray} {st:ReSt} {es:List Bool} {dep:Nat} {mv cv:Value} {row:Option Nat} (h:Rd B p w s st es dep mv cv) (hg:w.grownBy w' row) (hrow:∀ b,row=some b→OffR p mv cv b):Rd B p w' s st es dep mv cv:=by
 have hne:∀ v:Value,(∀ b,row=some b→v.ownBlock≠some b)→v.ownBlock=none∨v.ownBlock≠row:=fun v hv=>by
  rcases hr:v.ownBlock with _ | b
  ·exact .inl rfl
  ·refine .inr (fun e=>?_);exact hv b e.symm hr
 refine { h with blk:=?_,mo:=h.mo.kept hg (hne _ fun b hb=>(hrow b hb).2.1),co:=h.co.kept hg (hne _ fun b hb=>(hrow b hb).2.2) };have h1:=h.blk;unfold Blk at h1 ⊢;rw [hg.block p h.blk.lt (fun e=>(hrow p e.symm).1 rfl)];exact h1
theorem RStep.after {p:Nat} {w w1 w2:World} {mv cv mv1 cv1:Value} (h:RStep p w mv cv w1 mv1 cv1) (hb:Below w.heap.size w1 w2):RStep p w mv cv w2 mv1 cv1:=
 ⟨hb.os.trans h.os,hb.tape.trans h.tape,hb.output.trans h.output,Afr h.size hb.size,fun b hlt h1 h2 h3=>by
  obtain ⟨e1,e2,e3⟩:=h.block b hlt h1 h2 h3;exact ⟨(hb.block b hlt).trans e1,e2,e3⟩⟩
theorem NdRO.push {B lo p:Nat} {mv cv:Value} {w w':World} {l:List Nd} {v v':Value} {us:List Value} {d:Nd} {u:Value} {s:ByteArray} {st:ReSt} {es:List Bool} {dep:Nat} (h:NdRO lo p mv cv w l v us) (hR:Rd B p w s st es dep mv cv)
  (hu:NdX (fun b=>lo≤b∧OffR p mv cv b∧v.ownBlock≠some b) w d u) (hu1:u.oneCell'=true) (hown:w'.ownsRow lo 45 1 v' (l.length+1) (us++[u])) (hg:w.grownBy w' v.ownBlock) (hat:v'.ownBlock=v.ownBlock∨v'.ownBlock=some w.heap.size):NdRO lo p mv cv w' (l++[d]) v' (us++[u]):=by
 have hpl:=hR.blk.lt;have hml:=fun b hb=>AF hR.mo b hb
 have hcl:=fun b hb=>AF hR.co b hb
 have hk:∀ d u,NdX (fun b=>lo≤b∧OffR p mv cv b∧v.ownBlock≠some b) w d u→NdX (fun b=>lo≤b∧OffR p mv cv b∧v'.ownBlock≠some b) w' d u:=fun d u hd=>
  hd.keep hg.size (fun b hf hlt=>⟨⟨hf.1,hf.2.1,by
   rcases hat with e | e
   ·rw [e];exact hf.2.2
   ·rw [e];intro he;injection he with he;omega⟩,fun o=>Afy (w:=w) (a:=⟨b,o,none⟩) (hg.block b hlt (fun e=>hf.2.2 e.symm))⟩)
 refine ⟨by simp [h.len],by rw [Afs];exact hown,fun i h1 h2=>?_,fun x hx=>?_,fun b hb=>?_⟩
 ·by_cases hi:i < l.length
  ·rw [Af0 hi,Af0 (by rw [h.len];exact hi)];exact hk _ _ (h.nd i hi (by rw [h.len];exact hi))
  ·have hie:i=l.length:=by simp at h1;omega
   subst hie;rw [List.getElem_append_right (Afq _),List.getElem_append_right (by rw [h.len];exact Afq _)];simp [h.len];exact hk _ _ hu
 ·rcases Af1.1 hx with hx | hx
  ·exact h.one x hx
  ·simp at hx;subst hx;exact hu1
 ·rcases hat with e | e
  ·exact h.off b (e▸hb)
  ·rw [e] at hb;injection hb with hb;subst hb;exact ⟨by omega,fun hm=>by have:=hml _ hm;omega,fun hm=>by have:=hcl _ hm;omega⟩
theorem NdRO.parts {lo p:Nat} {mv cv:Value} {w:World} {l:List Nd} {v:Value} {us:List Value} (h:NdRO lo p mv cv w l v us):∃ a cap,v=.slice a l.length cap∧Be (fun b=>lo≤b∧OffR p mv cv b) w l a cap:=by
 have hr:=h.row;have hoff:=h.off;obtain ⟨_,h2⟩:=h.row;rcases h2 with ⟨rfl,h0⟩ | ⟨g,cap,cur,rfl,hg,hh,hn,hcap,hcs,htk⟩
 ·exact ⟨none,0,by rw [h0],by omega,by decide,fun h=>by omega⟩
 ·refine ⟨_,_,rfl,hn,hcap,fun h0=>⟨g,0,rfl,⟨hg,hoff g rfl⟩,(Af6.1 hh).1,fun i hi=>?_⟩⟩;have hiu:i < us.length:=by rw [h.len];exact hi
  refine ⟨us[i],?_,(h.nd i hi hiu).keep (Afq _) (fun b hb _=>⟨⟨hb.1,hb.2.1⟩,fun _=>rfl⟩)⟩;rw [Nat.zero_add,hr.cellAt i (by omega),Af4 hiu]
theorem Q8 {B lo p:Nat} {mv cv:Value} {w w':World} {d:Nd} {v:Value} {s:ByteArray} {st:ReSt} {es:List Bool} {dep:Nat} (hR:Rd B p w s st es dep mv cv) (hlo:lo≤w.heap.size) (h:NdX (fun b=>(b < w.heap.size∧lo≤b∧OffR p mv cv b)∨w.heap.size≤b) w' d v):C6 lo p mv cv w' d v:=
 h.keep (Afq _) (fun b hb _=>⟨by
  rcases hb with hb | hb
  ·exact hb.2
  ·have hpl:=hR.blk.lt;exact ⟨by omega,by omega,fun hm=>by have:=AF hR.mo _ hm;omega,fun hm=>by have:=AF hR.co _ hm;omega⟩,fun _=>rfl⟩)
structure BrLoop (B p:Nat) (s:ByteArray) (dep:Nat) (mv cv:Value) (w:World) (sub:Option (ReSt→ReRes (ReSt × Nd))) (begin:Nat) (R:ReRes (ReSt × Nd)) (v:Value) (wr:World) (st':ReSt) (mv' cv':Value) (us:List Value) (parts:List Nd) (m:Nat) (front:Bool) (es':List Bool):Prop where
 r:R=branchM false s.data.toList sub false begin m st' parts front
 m:s.size < m+st'.pos
 fr:front=true∨repAt false s.data.toList st'.pos=.none
 n94:(chAt s.data.toList st'.pos 94 && decide (st'.pos=begin))=false
 rd:Rd B p wr s st' es' dep mv' cv'
 st:RStep p w mv cv wr mv' cv'
 row:NdRO w.heap.size p mv' cv' wr parts v us
 few:parts.length≤st'.pos
 all:parts.all inCat=true
 beg:begin≤st'.pos
theorem FU {B lo p:Nat} {mv cv:Value} {w w':World} {d:Nd} {v:Value} {s:ByteArray} {st:ReSt} {es:List Bool} {dep:Nat} (hR:Rd B p w s st es dep mv cv) (hlo:lo≤w.heap.size) (_:Below w.heap.size w w') (h:NdX (fun b=>(b < w.heap.size∧lo≤b∧OffR p mv cv b)∨w.heap.size≤b) w' d v):C6 lo p mv cv w' d v:=Q8 hR hlo h
theorem FV {w1 w2:World} {lo:Nat} {v:Value} {e:TypeId} {n:Nat} {us:List Value} {o:Obj} (hlo:lo≤w1.heap.size) (hown:w1.ownsRow lo e 1 v n us) (hg:(w1.alloc o).grownBy w2 v.ownBlock):Below lo w1 w2:=
 ((Afv lo w1).alloc hlo _).grown hg (by simp;omega) (Bp hown)
theorem Jo {B p:Nat} {s:ByteArray} {dep:Nat} {mv cv:Value} {w:World} {sub:Option (ReSt→ReRes (ReSt × Nd))} {begin:Nat} {R:ReRes (ReSt × Nd)} {v:Value} {wr:World} {st':ReSt} {mv' cv':Value} {us:List Value} {parts:List Nd} {m':Nat} {front:Bool} {es':List Bool} {nq:Nat}
  (hL:BrLoop B p s dep mv cv w sub begin R v wr st' mv' cv' us parts (m'+1) front es') (hS9:RStep p w mv cv (wr.drewN nq) mv' cv') (hSn:RStep p wr mv' cv' (wr.drewN nq) mv' cv')
  {w2 w3:World} {mv2 cv2 v2 v3:Value} {q:ReSt × Nd} {es2:List Bool} (hS2:RStep p (wr.drewN nq) mv' cv' w2 mv2 cv2) (hR2:Rd B p w2 s q.1 es2 dep mv2 cv2) (hrow2:NdRO w.heap.size p mv2 cv2 w2 parts v us) (hN2:C6 (wr.drewN nq).heap.size p mv2 cv2 w2 q.2 v2) (hv2:v2.oneCell'=true)
  (hown:w3.ownsRow w.heap.size 45 1 v3 (parts.length+1) (us++[v2])) (hgrow:(w2.alloc (.cells #[v2] 45)).grownBy w3 v.ownBlock) (hat:v3.ownBlock=v.ownBlock∨v3.ownBlock=some (w2.alloc (.cells #[v2] 45)).heap.size)
  (hF:R=branchM false s.data.toList sub false begin m' q.1 (parts++[q.2]) (chAt s.data.toList st'.pos 36 && AG s.data.toList (st'.pos+1)))
  (hM:st'.pos < q.1.pos∧inCat q.2=true∧((chAt s.data.toList st'.pos 36 && AG s.data.toList (st'.pos+1))=true∨repAt false s.data.toList q.1.pos=.none)) :
  BrLoop B p s dep mv cv w sub begin R v3 w3 q.1 mv2 cv2 (us++[v2]) (parts++[q.2]) m' (chAt s.data.toList st'.pos 36 && AG s.data.toList (st'.pos+1)) es2:=by
 have hsz2:w.heap.size≤w2.heap.size:=Afr hS9.size hS2.size;have hA:=(Afv w2.heap.size w2).alloc (Afq _) (.cells #[v2] 45);have hRA:=hR2.below hA;have hrowA:=hrow2.step (RStep.of_below hA);have hlt:=fun b hb=>(hL.row.row.lt b hb).2
 have hbg:=hL.beg;have hm:=hL.m;have hfw:=hL.few;have hM1:=hM.1;refine ⟨hF,by omega,hM.2.2,?_,hRA.grown hgrow hrowA.off,(hS9.trans hS2).after (FV hsz2 hrow2.row hgrow),?_,by rw [Afs];simp;omega,BR hL.all hM.2.1,by omega⟩
 ·rw [decide_eq_false (show ¬ q.1.pos=begin by omega),Bool.and_false]
 ·refine hrowA.push hRA ?_ hv2 hown hgrow hat
  refine hN2.keep hA.size (fun b hb hlt2=>⟨⟨Afr hS9.size hb.1,hb.2,fun hv=>?_⟩,fun o=>hA.cell (p:=⟨b,o,none⟩) hlt2⟩);have h1:=hlt b hv;have h2:=hSn.size;have h3:=hb.1;simp at h3;omega
theorem WS {B p:Nat} {s:ByteArray} {st:ReSt} {es:List Bool} {dep:Nat} {mv cv:Value} {w:World} {sub:Option (ReSt→ReRes (ReSt × Nd))} {R:ReRes (ReSt × Nd)} (hR0:R=branchM false s.data.toList sub false st.pos (s.data.toList.length+1) st [] true) (hsl:s.data.toList.length=s.size) (h94:chAt s.data.toList st.pos 94=true) (_:Rd B p w s st es dep mv cv)
  {w1 w3:World} {v3:Value} (hR1:Rd B p w1 s (st.to (st.pos+1)) es dep mv cv) (hS1:RStep p w mv cv w1 mv cv)
  (hown:w3.ownsRow w.heap.size 45 1 v3 (0+1) ([]++[.iface 118 (.agg #[])])) (hgrow:(w1.alloc (.cells #[.iface 118 (.agg #[])] 45)).grownBy w3 (Value.slice none 0 0).ownBlock) (hat:v3.ownBlock=(Value.slice none 0 0).ownBlock∨v3.ownBlock=some (w1.alloc (.cells #[.iface 118 (.agg #[])] 45)).heap.size) :
  BrLoop B p s dep mv cv w sub st.pos R v3 w3 (st.to (st.pos+1)) mv cv ([]++[.iface 118 (.agg #[])]) ([]++[.start]) s.data.toList.length true es:=by
 have hen:AG s.data.toList st.pos=false:=by
  have h1:=BK h94;unfold AG;rw [E0 (.inl (by omega)),E0 (.inl (by omega)),decide_eq_false (by omega)];rfl
 have hA:=(Afv w1.heap.size w1).alloc (Afq _) (.cells #[.iface 118 (.agg #[])] 45);have hRA:=hR1.below hA;have hrow:=NdRO.nil w.heap.size p mv cv (w1.alloc (.cells #[.iface 118 (.agg #[])] 45));refine ⟨hR0.trans (MZ _ _ _ _ hen h94),?_,.inl rfl,?_,hRA.grown hgrow hrow.off,hS1.after (FV hS1.size (World.ownsRow_nil _ _ _ _:w1.ownsRow w.heap.size 45 1 (.slice none 0 0) 0 []) hgrow),?_,?_,rfl,?_⟩
 ·show s.size < s.data.toList.length+(st.pos+1);omega
 ·show (chAt s.data.toList (st.pos+1) 94 && decide (st.pos+1=st.pos))=false;rw [decide_eq_false (by omega),Bool.and_false]
 ·exact hrow.push hRA ⟨1,rfl⟩ rfl hown hgrow hat
 ·show 0+1≤st.pos+1;omega
 ·show st.pos≤st.pos+1;omega
theorem Kj {B p:Nat} {s:ByteArray} {st:ReSt} {es:List Bool} {dep:Nat} {mv cv:Value} (w:World) (h:Rd B p w s st es dep mv cv)
  (sub:Option (ReSt→ReRes (ReSt × Nd))) (hmv:Dj s.data.toList sub) (hok:Hy sub) (hG:Gl w) (hB:glN≤B) (hgr:∀ st es,EB B p s st es dep sub) :
  Calls prog 124 #[.pointer (some ⟨p,0,none⟩)] w fun e w'=>BN (branchM false s.data.toList sub false st.pos (s.data.toList.length+1) st [] true) B p s dep mv cv w e w':=by
 have hsm:=h.small;have hps:=h.pos;have hsl:s.data.toList.length=s.size:=by simp
 obtain ⟨i0,hi,hz0,hz1,hz2⟩:=DZ;obtain ⟨R,hR0⟩:∃ R,R=branchM false s.data.toList sub false st.pos (s.data.toList.length+1) st [] true:=⟨_,rfl⟩;rw [←hR0];have HR0:=Afj hR0;have HSL:=Afj hsl;have HGl:=Afj hG;have H:=Afj h;have hwB:B≤w.heap.size:=Afr h.bp (Afu h.blk.lt);clear hR0 hsl hG;go_enter func124,ntmps124;cases h94:chAt s.data.toList st.pos 94 with
 | false=>
  have hsk:=Im ⟨#[94]⟩ w h ((DH _ _ 94 (by decide)).trans h94);have H94:=Afj h94;clear h h94;go_wp2_with fail
  refine hsk.mono ?_;rintro e w1 ⟨rfl,n,rfl⟩;clear hsk;go_wp2_with fail
  go_loopw [3] (fun v wr=>∃ (st':ReSt) (mv' cv':Value) (us:List Value) (parts:List Nd) (m:Nat) (front:Bool) (es':List Bool),BrLoop B p s dep mv cv w sub st.pos R v wr st' mv' cv' us parts m front es') (fun _ wr=>s.size - (intOf ((wr.cell? ⟨p,1,none⟩).getD undef)).toNat)
  case atStart=>exact ⟨st,mv,cv,[],[],_,true,es,⟨HR0.out,by rw [HSL.out];omega,.inl rfl,by rw [H94.out];rfl,H.out.below (below_drewN (Afv _ _) n),RStep.of_below (below_drewN (Afv _ _) n),NdRO.nil _ _ _ _ _,by simp,rfl,Afq _⟩⟩
  case round=>
   obtain ⟨st',mv',cv',us,parts,m,front,es',hL⟩:=hrel;have hR:=hL.rd;obtain ⟨c0,c1,c2,c3,c4,z1,z2,z3,z4⟩:=hR.cells;have hp1:(st'.pos:Int)≤(s.size:Int):=by have:=hR.pos;omega
   have hbe:=fun w=>Gm s st'.pos w
   have HL:=Afj hL;have hm0:0 < m:=by have:=hL.m;have:=hR.pos;omega
   obtain ⟨m',rfl⟩:∃ m',m=m'+1:=⟨m - 1,by omega⟩;clear hm0 hL hR;cases hen:AG s.data.toList st'.pos with
   | true=>
    rw [hen] at hbe;have HE:=Afj hen;clear hen;go_wp2_with fail
    go_quiet (first | (go_at_call 139;exact Calls.quiet_of_same ((hbe _).mono fun _ _ h=>⟨h.1,h.2.symm⟩)))
    have hbn:=below_drewN (Afv wr.heap.size wr) nq;have hSn:=RStep.of_below (p:=p) (mv:=mv') (cv:=cv') hbn;have hRn:=HL.out.rd.below hbn;have hrow:=HL.out.row.step hSn;obtain ⟨a,cap,hv,hrw⟩:=hrow.parts;subst hv;have hjf:(AN parts).length≤4000000:=by
     rw [EW _ HL.out.all];have:=HL.out.few;have:=hRn.pos;omega
    have hj:=S0 parts a cap (wr.drewN nq) hrw hjf;have HRn:=Afj hRn;have HS9:=Afj (HL.out.st.trans hSn);clear hbn hSn hRn hrow hrw hjf hbe c0 c1 c2 c3 c4 z1 z2 z3 z4;go_wp2_with fail
    refine hj.mono ?_;rintro e w5 ⟨v5,rfl,hn5,b5⟩;have HN5:=Afj hn5;have HB5:=Afj b5;clear hn5 b5 hj;go_wp2_with fail
    go_ret;have hlo:w.heap.size≤(wr.drewN nq).heap.size:=HS9.out.size;have hB5:Below w.heap.size (wr.drewN nq) w5:=HB5.out.mono hlo;exact AQ (HL.out.r.trans (JI _ _ _ _ _ _ _ HE.out)) (HS9.out.after hB5) (HRn.out.below HB5.out) (FU HRn.out hlo HB5.out HN5.out)
   | false=>
    rw [hen] at hbe;have HE:=Afj hen;have hlt:=Jn hen;rw [HSL.out] at hlt;have HLT:=Afj hlt;clear hen hlt;go_wp2_with fail
    go_quiet (first | (go_at_call 139;exact Calls.quiet_of_same ((hbe _).mono fun _ _ h=>⟨h.1,h.2.symm⟩)))
    have hbn:=below_drewN (Afv wr.heap.size wr) nq;have hSn:=RStep.of_below (p:=p) (mv:=mv') (cv:=cv') hbn;have hRn:=HL.out.rd.below hbn;have hGn:=HGl.out.step (HL.out.st.trans hSn) H.out hB;have hpc:=LB (wr.drewN nq) hRn HE.out front HL.out.fr sub hGn hB (hgr _ _);have HRow:=Afj (HL.out.row.step hSn);have HS9:=Afj (HL.out.st.trans hSn);have HSn:=Afj hSn;clear hbn hSn hRn hGn hbe c0 c1 c2 c3 c4 z1 z2 z3 z4;go_wp2_with fail
    refine hpc.mono ?_;intro e w2 hA;obtain ⟨mv2,cv2,hS2,hr⟩:=hA;have HS2:=Afj hS2;have hstep:=HL.out.r.trans (IW _ _ _ _ _ _ _ HE.out HL.out.n94);have hpm:=Ki s.data.toList sub hmv hok front st';have HPM:=Afj hpm;clear hS2 hpc hpm;cases hP:FS s.data.toList sub front st' with
    | error q=>
     rw [hP] at hr hstep;obtain rfl:e=_:=hr;have HF:=Afj hstep;clear hstep hP;go_wp2_with fail
     exact ⟨rfl,A4 HF.out (HS9.out.trans HS2.out) rfl⟩
    | ok q=>
     rw [hP] at hr hstep;obtain ⟨es2,v2,rfl,hR2,hN2⟩:=hr;have hmm:=HPM.out q.1 q.2 (by rw [HSL.out];exact HLT.out) hP;have HF:=Afj hstep;have HMM:=Afj hmm;have HR2:=Afj hR2;have hrow2:=HRow.out.step HS2.out;have HRow2:=Afj hrow2;have hq2:=hR2.pos;have hfw:=HL.out.few;have hm1:parts.length+1≤maxLen:=by unfold maxLen;omega
     have hm2:(parts.length+1) * 16≤140737488355328:=by omega
     have hown2:=hrow2.row;have hsz2:w.heap.size≤w2.heap.size:=Afr HS9.out.size HS2.out.size;have HN2:=Afj hN2;obtain ⟨nn,hnn⟩:=hN2;clear hstep hP hmm hR2 hrow2 hq2 hfw;rcases Ay hnn with ⟨T,x,rfl⟩ | rfl
     all_goals
      clear hnn;go_wp2_with (at_builtin;refine Ag _ rfl _ _ 83 rfl w.heap.size 45 i0 .nilIface 1 16 underlying83 hi hz0 hz1 hz2 rfl (by decide) _ _ _ rfl (hown2.alloc _) (some ⟨w2.heap.size,0,none⟩) 1 1 [_] rfl rfl (fun _=>⟨_,rfl,Aw (by simp) _ _⟩) (by intro y hy;simp at hy;subst hy;rfl) hm1 hm2 (by simp;omega) ?_;intro v3 w3 hown hgrow hat)
      have HO:=Afj hown;have HGr:=Afj hgrow;have HAt:=Afj hat
      clear hown hgrow hat;go_roundw
      case rel=>
       refine ⟨q.1,mv2,cv2,_,_,m',_,es2,Jo HL.out HS9.out HSn.out HS2.out HR2.out HRow2.out HN2.out rfl HO.out HGr.out HAt.out HF.out HMM.out⟩
      case measure=>
       have h1:=(Jo HL.out HS9.out HSn.out HS2.out HR2.out HRow2.out HN2.out rfl HO.out HGr.out HAt.out HF.out HMM.out).rd.cells.c1;have h2:=HL.out.rd.cells.c1;rw [h1,h2];have h3:=HMM.out.1;have h4:=HR2.out.pos;simp only [Option.getD_some,intOf];omega
 | true=>
  have hsk:=FQ ⟨#[94]⟩ w h ((DH _ _ 94 (by decide)).trans h94) (by simp);rw [show (ByteArray.mk #[94]).size=1 from rfl] at hsk;have H94:=Afj h94;clear h h94;go_wp2_with fail
  refine hsk.mono ?_;rintro e w1 ⟨rfl,hR1,hS1⟩;have HR1:=Afj hR1;have HS1:=Afj hS1;have hsz1:=hS1.size;have hown1:w1.ownsRow w.heap.size 45 1 (.slice none 0 0) 0 []:=World.ownsRow_nil _ _ _ _;clear hsk hR1 hS1;go_wp2_with (at_builtin;refine Ag _ rfl _ _ 83 rfl w.heap.size 45 i0 .nilIface 1 16 underlying83 hi hz0 hz1 hz2 rfl (by decide) _ _ _ rfl (hown1.alloc _) (some ⟨w1.heap.size,0,none⟩) 1 1 [_] rfl rfl (fun _=>⟨_,rfl,Aw (by simp) _ _⟩) (by intro y hy;simp at hy;subst hy;rfl) (by decide) (by decide) (by simp;omega) ?_;intro v3 w3 hown hgrow hat)
  have HO:=Afj hown;have HGr:=Afj hgrow;have HAt:=Afj hat
  clear hown hgrow hat;go_loopw [3] (fun v wr=>∃ (st':ReSt) (mv' cv':Value) (us:List Value) (parts:List Nd) (m:Nat) (front:Bool) (es':List Bool),BrLoop B p s dep mv cv w sub st.pos R v wr st' mv' cv' us parts m front es') (fun _ wr=>s.size - (intOf ((wr.cell? ⟨p,1,none⟩).getD undef)).toNat)
  case atStart=>exact ⟨st.to (st.pos+1),mv,cv,_,_,_,true,es,WS HR0.out HSL.out H94.out H.out HR1.out HS1.out HO.out HGr.out HAt.out⟩
  case round=>
   obtain ⟨st',mv',cv',us,parts,m,front,es',hL⟩:=hrel;have hR:=hL.rd;obtain ⟨c0,c1,c2,c3,c4,z1,z2,z3,z4⟩:=hR.cells;have hp1:(st'.pos:Int)≤(s.size:Int):=by have:=hR.pos;omega
   have hbe:=fun w=>Gm s st'.pos w
   have HL:=Afj hL;have hm0:0 < m:=by have:=hL.m;have:=hR.pos;omega
   obtain ⟨m',rfl⟩:∃ m',m=m'+1:=⟨m - 1,by omega⟩;clear hm0 hL hR;cases hen:AG s.data.toList st'.pos with
   | true=>
    rw [hen] at hbe;have HE:=Afj hen;clear hen;go_wp2_with fail
    go_quiet (first | (go_at_call 139;exact Calls.quiet_of_same ((hbe _).mono fun _ _ h=>⟨h.1,h.2.symm⟩)))
    have hbn:=below_drewN (Afv wr.heap.size wr) nq;have hSn:=RStep.of_below (p:=p) (mv:=mv') (cv:=cv') hbn;have hRn:=HL.out.rd.below hbn;have hrow:=HL.out.row.step hSn;obtain ⟨a,cap,hv,hrw⟩:=hrow.parts;subst hv;have hjf:(AN parts).length≤4000000:=by
     rw [EW _ HL.out.all];have:=HL.out.few;have:=hRn.pos;omega
    have hj:=S0 parts a cap (wr.drewN nq) hrw hjf;have HRn:=Afj hRn;have HS9:=Afj (HL.out.st.trans hSn);clear hbn hSn hRn hrow hrw hjf hbe c0 c1 c2 c3 c4 z1 z2 z3 z4;go_wp2_with fail
    refine hj.mono ?_;rintro e w5 ⟨v5,rfl,hn5,b5⟩;have HN5:=Afj hn5;have HB5:=Afj b5;clear hn5 b5 hj;go_wp2_with fail
    go_ret;have hlo:w.heap.size≤(wr.drewN nq).heap.size:=HS9.out.size;have hB5:Below w.heap.size (wr.drewN nq) w5:=HB5.out.mono hlo;exact AQ (HL.out.r.trans (JI _ _ _ _ _ _ _ HE.out)) (HS9.out.after hB5) (HRn.out.below HB5.out) (FU HRn.out hlo HB5.out HN5.out)
   | false=>
    rw [hen] at hbe;have HE:=Afj hen;have hlt:=Jn hen;rw [HSL.out] at hlt;have HLT:=Afj hlt;clear hen hlt;go_wp2_with fail
    go_quiet (first | (go_at_call 139;exact Calls.quiet_of_same ((hbe _).mono fun _ _ h=>⟨h.1,h.2.symm⟩)))
    have hbn:=below_drewN (Afv wr.heap.size wr) nq;have hSn:=RStep.of_below (p:=p) (mv:=mv') (cv:=cv') hbn;have hRn:=HL.out.rd.below hbn;have hGn:=HGl.out.step (HL.out.st.trans hSn) H.out hB;have hpc:=LB (wr.drewN nq) hRn HE.out front HL.out.fr sub hGn hB (hgr _ _);have HRow:=Afj (HL.out.row.step hSn);have HS9:=Afj (HL.out.st.trans hSn);have HSn:=Afj hSn;clear hbn hSn hRn hGn hbe c0 c1 c2 c3 c4 z1 z2 z3 z4;go_wp2_with fail
    refine hpc.mono ?_;intro e w2 hA;obtain ⟨mv2,cv2,hS2,hr⟩:=hA;have HS2:=Afj hS2;have hstep:=HL.out.r.trans (IW _ _ _ _ _ _ _ HE.out HL.out.n94);have hpm:=Ki s.data.toList sub hmv hok front st';have HPM:=Afj hpm;clear hS2 hpc hpm;cases hP:FS s.data.toList sub front st' with
    | error q=>
     rw [hP] at hr hstep;obtain rfl:e=_:=hr;have HF:=Afj hstep;clear hstep hP;go_wp2_with fail
     exact ⟨rfl,A4 HF.out (HS9.out.trans HS2.out) rfl⟩
    | ok q=>
     rw [hP] at hr hstep;obtain ⟨es2,v2,rfl,hR2,hN2⟩:=hr;have hmm:=HPM.out q.1 q.2 (by rw [HSL.out];exact HLT.out) hP;have HF:=Afj hstep;have HMM:=Afj hmm;have HR2:=Afj hR2;have hrow2:=HRow.out.step HS2.out;have HRow2:=Afj hrow2;have hq2:=hR2.pos;have hfw:=HL.out.few;have hm1:parts.length+1≤maxLen:=by unfold maxLen;omega
     have hm2:(parts.length+1) * 16≤140737488355328:=by omega
     have hown2:=hrow2.row;have hsz2:w.heap.size≤w2.heap.size:=Afr HS9.out.size HS2.out.size;have HN2:=Afj hN2;obtain ⟨nn,hnn⟩:=hN2;clear hstep hP hmm hR2 hrow2 hq2 hfw;rcases Ay hnn with ⟨T,x,rfl⟩ | rfl
     all_goals
      clear hnn;go_wp2_with (at_builtin;refine Ag _ rfl _ _ 83 rfl w.heap.size 45 i0 .nilIface 1 16 underlying83 hi hz0 hz1 hz2 rfl (by decide) _ _ _ rfl (hown2.alloc _) (some ⟨w2.heap.size,0,none⟩) 1 1 [_] rfl rfl (fun _=>⟨_,rfl,Aw (by simp) _ _⟩) (by intro y hy;simp at hy;subst hy;rfl) hm1 hm2 (by simp;omega) ?_;intro v3 w3 hown hgrow hat)
      have HO:=Afj hown;have HGr:=Afj hgrow;have HAt:=Afj hat
      clear hown hgrow hat;go_roundw
      case rel=>
       refine ⟨q.1,mv2,cv2,_,_,m',_,es2,Jo HL.out HS9.out HSn.out HS2.out HR2.out HRow2.out HN2.out rfl HO.out HGr.out HAt.out HF.out HMM.out⟩
      case measure=>
       have h1:=(Jo HL.out HS9.out HSn.out HS2.out HR2.out HRow2.out HN2.out rfl HO.out HGr.out HAt.out HF.out HMM.out).rd.cells.c1;have h2:=HL.out.rd.cells.c1;rw [h1,h2];have h3:=HMM.out.1;have h4:=HR2.out.pos;simp only [Option.getD_some,intOf];omega
def chTail (s:List UInt8) (sub:Option (ReSt→ReRes (ReSt × Nd))) (m:Nat) (st:ReSt) (l:List Nd):ReRes (ReSt × Nd):=
 if BP s st.pos 124 then At false s sub false m ((st.mark 124).to (st.pos+2)) l else .ok (st,Co l)
theorem LC (s:List UInt8) (sub:Option (ReSt→ReRes (ReSt × Nd))) (n:Nat) (st:ReSt) (l:List Nd):At false s sub false (n+1) st l=match branchM false s sub false st.pos (s.length+1) st [] true with
  | .error e=>.error e
  | .ok q=>chTail s sub n q.1 (l++[q.2]):=by
 rw [At];cases branchM false s sub false st.pos (s.length+1) st [] true with
 | error e=>rfl
 | ok q=>rfl
theorem NdRO.single {B lo p:Nat} {mv cv:Value} {w:World} {d:Nd} {u:Value} {s:ByteArray} {st:ReSt} {es:List Bool} {dep:Nat} (hR:Rd B p w s st es dep mv cv) (hlo:lo≤w.heap.size) (hu:C6 lo p mv cv w d u) (hu1:u.oneCell'=true) :
  NdRO lo p mv cv (w.alloc (.cells #[u] 45)) [d] (.slice (some ⟨w.heap.size,0,none⟩) 1 1) [u]:=by
 have hpl:=hR.blk.lt;have hA:=(Afv w.heap.size w).alloc (Afq _) (.cells #[u] 45);refine ⟨rfl,World.ownsRow_lit w #[u] 1 hlo (by decide) rfl,fun i h1 h2=>?_,fun x hx=>by simp at hx;subst hx;exact hu1,fun b hb=>?_⟩
 ·obtain rfl:i=0:=by simp at h1;exact h1
  exact hu.keep hA.size (fun b hb hlt=>⟨⟨hb.1,hb.2,fun hv=>by simp [Value.ownBlock] at hv;omega⟩,fun o=>hA.cell (p:=⟨b,o,none⟩) hlt⟩)
 ·simp [Value.ownBlock] at hb;subst hb;exact ⟨by omega,fun hm=>by have:=AF hR.mo _ hm;omega,fun hm=>by have:=AF hR.co _ hm;omega⟩
structure ChLoop (B p:Nat) (s:ByteArray) (dep:Nat) (mv cv:Value) (w:World) (sub:Option (ReSt→ReRes (ReSt × Nd))) (R:ReRes (ReSt × Nd)) (v:Value) (wr:World) (st':ReSt) (mv' cv':Value) (us:List Value) (l:List Nd) (m:Nat) (es':List Bool):Prop where
 r:R=chTail s.data.toList sub m st' l
 m:s.size≤m+st'.pos
 rd:Rd B p wr s st' es' dep mv' cv'
 st:RStep p w mv cv wr mv' cv'
 row:NdRO w.heap.size p mv' cv' wr l v us
 few:l.length≤st'.pos+1
 all:l.all inAlt=true
theorem S1 {B p:Nat} {s:ByteArray} {dep:Nat} {mv cv:Value} {w:World} {sub:Option (ReSt→ReRes (ReSt × Nd))} {R:ReRes (ReSt × Nd)} {v:Value} {wr:World} {st':ReSt} {mv' cv':Value} {us:List Value} {l:List Nd} {m':Nat} {es':List Bool}
  (hL:ChLoop B p s dep mv cv w sub R v wr st' mv' cv' us l (m'+1) es') {wk:World} {mvk:Value} (hSk:RStep p wr mv' cv' wk mvk cv')
  {w2 w3:World} {mv2 cv2 v2 v3:Value} {q:ReSt × Nd} {es2:List Bool} (hS2:RStep p wk mvk cv' w2 mv2 cv2) (hR2:Rd B p w2 s q.1 es2 dep mv2 cv2) (hrow2:NdRO w.heap.size p mv2 cv2 w2 l v us) (hN2:C6 wk.heap.size p mv2 cv2 w2 q.2 v2) (hv2:v2.oneCell'=true)
  (hown:w3.ownsRow w.heap.size 45 1 v3 (l.length+1) (us++[v2])) (hgrow:(w2.alloc (.cells #[v2] 45)).grownBy w3 v.ownBlock) (hat:v3.ownBlock=v.ownBlock∨v3.ownBlock=some (w2.alloc (.cells #[v2] 45)).heap.size)
  (hF:R=chTail s.data.toList sub m' q.1 (l++[q.2])) (hM:st'.pos+2≤q.1.pos∧inAlt q.2=true) :
  ChLoop B p s dep mv cv w sub R v3 w3 q.1 mv2 cv2 (us++[v2]) (l++[q.2]) m' es2:=by
 have hS9:=hL.st.trans hSk;have hsz2:w.heap.size≤w2.heap.size:=Afr hS9.size hS2.size;have hA:=(Afv w2.heap.size w2).alloc (Afq _) (.cells #[v2] 45);have hRA:=hR2.below hA;have hrowA:=hrow2.step (RStep.of_below hA);have hlt:=fun b hb=>(hL.row.row.lt b hb).2
 have hm:=hL.m;have hfw:=hL.few;have hM1:=hM.1;refine ⟨hF,by omega,hRA.grown hgrow hrowA.off,(hS9.trans hS2).after (FV hsz2 hrow2.row hgrow),?_,by rw [Afs];simp;omega,BR hL.all hM.2⟩;refine hrowA.push hRA ?_ hv2 hown hgrow hat
 refine hN2.keep hA.size (fun b hb hlt2=>⟨⟨Afr hS9.size hb.1,hb.2,fun hv=>?_⟩,fun o=>hA.cell (p:=⟨b,o,none⟩) hlt2⟩);have h1:=hlt b hv;have h2:=hSk.size;have h3:=hb.1;omega
theorem LD {B p:Nat} {s:ByteArray} {st:ReSt} {es:List Bool} {dep:Nat} {mv cv:Value} (w:World) (h:Rd B p w s st es dep mv cv)
  (sub:Option (ReSt→ReRes (ReSt × Nd))) (hmv:Dj s.data.toList sub) (hok:Hy sub) (hG:Gl w) (hB:glN≤B) (hgr:∀ st es,EB B p s st es dep sub) :
  Calls prog 113 #[.pointer (some ⟨p,0,none⟩)] w fun e w'=>BN (At false s.data.toList sub false (s.data.toList.length+1) st []) B p s dep mv cv w e w':=by
 have hsm:=h.small;have hsl:s.data.toList.length=s.size:=by simp
 obtain ⟨i0,hi,hz0,hz1,hz2⟩:=DZ;obtain ⟨R,hR0⟩:∃ R,R=At false s.data.toList sub false (s.data.toList.length+1) st []:=⟨_,rfl⟩;rw [←hR0];have hR1:=hR0.trans (LC _ _ _ _ _);have HSL:=Afj hsl;have HGl:=Afj hG;have H:=Afj h;have hbr:=Kj w h sub hmv hok hG hB hgr;have HBA:=Afj (fun (st:ReSt) (es:List Bool) (mv cv:Value) (w:World) (h:Rd B p w s st es dep mv cv) (hG:Gl w)=>Kj w h sub hmv hok hG hB hgr);have HBT:=Afj (fun (st st':ReSt) (d:Nd) h=>(H8 false s.data.toList sub hok false st.pos (s.data.toList.length+1) st [] true st' d st rfl rfl h).2);have HBM:=Afj (fun (st st':ReSt) (d:Nd) hl h=>Gh false s.data.toList sub hmv false st.pos (s.data.toList.length+1) st [] true st' d hl h);clear hR0 hsl hG h hgr hok hmv;go_enter func113,ntmps113;go_wp2_with fail
 refine hbr.mono ?_;intro e w1 hA;obtain ⟨mv1,cv1,hS1,hr⟩:=hA;have HS1:=Afj hS1;clear hS1 hbr;cases hP:branchM false s.data.toList sub false st.pos (s.data.toList.length+1) st [] true with
 | error q=>
  rw [hP] at hr hR1;obtain rfl:e=_:=hr;have HF:=Afj hR1;clear hR1 hP;go_wp2_with fail
  exact ⟨rfl,A4 HF.out HS1.out rfl⟩
 | ok q=>
  rw [hP] at hr hR1;obtain ⟨es1,v1,rfl,hRd1,hN1⟩:=hr;have HF:=Afj hR1;have HRd1:=Afj hRd1;have HN1:=Afj hN1;have HA1:=Afj (HBT.out _ _ _ hP);obtain ⟨nn,hnn⟩:=hN1;clear hR1 hP hRd1;rcases Ay hnn with ⟨T,x,rfl⟩ | rfl
  all_goals
   clear hnn;go_wp2_with fail
   go_loopw [3] (fun v wr=>∃ (st':ReSt) (mv' cv':Value) (us:List Value) (l:List Nd) (m:Nat) (es':List Bool),ChLoop B p s dep mv cv w sub R v wr st' mv' cv' us l m es') (fun _ wr=>s.size - (intOf ((wr.cell? ⟨p,1,none⟩).getD undef)).toNat)
   case atStart=>
    have hA:=(Afv w1.heap.size w1).alloc (Afq _);refine ⟨q.1,mv1,cv1,_,[q.2],_,es1,HF.out,?_,HRd1.out.below (hA _),HS1.out.trans (RStep.of_below (hA _)),NdRO.single HRd1.out HS1.out.size HN1.out rfl,?_,?_⟩
    ·rw [HSL.out];omega
    ·show 1≤q.1.pos+1;omega
    ·simp [HA1.out]
   case round=>
    obtain ⟨st',mv',cv',us,l,m,es',hL⟩:=hrel;have hR:=hL.rd;obtain ⟨c0,c1,c2,c3,c4,z1,z2,z3,z4⟩:=hR.cells;have HL:=Afj hL;clear hL;cases h124:BP s.data.toList st'.pos 124 with
    | false=>
     have hsk:=Kb ⟨#[92,124]⟩ wr hR ((BQ _ _ 124 (by decide)).trans h124);have HE:=Afj h124;clear h124 hR;go_wp2_with fail
     refine hsk.mono ?_;rintro e w4 ⟨rfl,n,rfl⟩;have hbn:=below_drewN (Afv wr.heap.size wr) n;have hSn:=RStep.of_below (p:=p) (mv:=mv') (cv:=cv') hbn;have hRn:=HL.out.rd.below hbn;have hrow:=HL.out.row.step hSn;obtain ⟨a,cap,hv,hrw⟩:=hrow.parts;subst hv;have hjf:(AO l).length≤4000000:=by
      rw [I1 _ HL.out.all];have:=HL.out.few;have:=hRn.pos;omega
     have hj:=TR l a cap (wr.drewN n) hrw hjf;have HRn:=Afj hRn;have HS9:=Afj (HL.out.st.trans hSn);clear hbn hSn hRn hrow hrw hjf hsk c0 c1 c2 c3 c4 z1 z2 z3 z4;go_wp2_with fail
     refine hj.mono ?_;rintro e w5 ⟨v5,rfl,hn5,b5⟩;have HN5:=Afj hn5;have HB5:=Afj b5;clear hn5 b5 hj;go_wp2_with fail
     go_ret;have hlo:w.heap.size≤(wr.drewN n).heap.size:=HS9.out.size;have hB5:Below w.heap.size (wr.drewN n) w5:=HB5.out.mono hlo;exact AQ (HL.out.r.trans (by unfold chTail;rw [HE.out];rfl)) (HS9.out.after hB5) (HRn.out.below HB5.out) (FU HRn.out hlo HB5.out HN5.out)
    | true=>
     have hsk:=I6 124 wr hR ((BQ _ _ 124 (by decide)).trans h124);have hes:=Fk h124;rw [HSL.out] at hes;have hm0:0 < m:=by have:=HL.out.m;omega
     obtain ⟨m',rfl⟩:∃ m',m=m'+1:=⟨m - 1,by omega⟩;have hstep:R=At false s.data.toList sub false (m'+1) ((st'.mark 124).to (st'.pos+2)) l:=HL.out.r.trans (by unfold chTail;rw [h124];rfl);have hstep2:=hstep.trans (LC _ _ _ _ _);have hps2:=show st'.pos+2≤s.data.toList.length by rw [HSL.out];omega
     clear hm0 h124 hR hes hstep;go_wp2_with fail
     refine hsk.mono ?_;rintro e w4 ⟨rfl,mv4,hR4,hS4⟩;have HS4:=Afj hS4;have hbr2:=HBA.out _ _ _ _ _ hR4 (HGl.out.step (HL.out.st.trans hS4) H.out hB);have HRow4:=Afj (HL.out.row.step hS4);clear hS4 hR4 hsk c0 c1 c2 c3 c4 z1 z2 z3 z4;generalize hst4:(st'.mark 124).to (st'.pos+2)=st4 at *;have hp4:st4.pos=st'.pos+2:=by rw [←hst4];rfl
     clear hst4;have HP4:=Afj hp4;clear hp4;go_wp2_with fail
     refine hbr2.mono ?_;intro e w2 hA2;obtain ⟨mv2,cv2,hS2,hr2⟩:=hA2;have HS2:=Afj hS2;clear hS2 hbr2;cases hP2:branchM false s.data.toList sub false st4.pos (s.data.toList.length+1) st4 [] true with
     | error q2=>
      rw [hP2] at hr2 hstep2;obtain rfl:e=_:=hr2;have HF2:=Afj hstep2;clear hstep2 hP2;go_wp2_with fail
      exact ⟨rfl,A4 HF2.out ((HL.out.st.trans HS4.out).trans HS2.out) rfl⟩
     | ok q2=>
      rw [hP2] at hr2 hstep2;obtain ⟨es2,v2,rfl,hR2,hN2⟩:=hr2;have hmm:=HBM.out _ _ _ (by rw [HP4.out];exact hps2) hP2;have HF2:=Afj hstep2;have HMM:=Afj (show st'.pos+2≤q2.1.pos∧inAlt q2.2=true from ⟨by have:=hmm.1;rw [HP4.out] at this;exact this,HBT.out _ _ _ hP2⟩);have HR2:=Afj hR2;have hrow2:=HRow4.out.step HS2.out;have HRow2:=Afj hrow2;have hfw:=HL.out.few;have hq2:=hR2.pos;have hm3:=HMM.out.1;have hm1:l.length+1≤maxLen:=by unfold maxLen;omega
      have hm2:(l.length+1) * 16≤140737488355328:=by omega
      have hown2:=hrow2.row;have hsz2:w.heap.size≤w2.heap.size:=Afr (HL.out.st.trans HS4.out).size HS2.out.size;have HN2:=Afj hN2;obtain ⟨nn,hnn⟩:=hN2;clear hstep2 hP2 hmm hR2 hrow2 hq2 hfw hm3 hps2;rcases Ay hnn with ⟨T,x,rfl⟩ | rfl
      all_goals
       clear hnn;go_wp2_with (at_builtin;refine Ag _ rfl _ _ 83 rfl w.heap.size 45 i0 .nilIface 1 16 underlying83 hi hz0 hz1 hz2 rfl (by decide) _ _ _ rfl (hown2.alloc _) (some ⟨w2.heap.size,0,none⟩) 1 1 [_] rfl rfl (fun _=>⟨_,rfl,Aw (by simp) _ _⟩) (by intro y hy;simp at hy;subst hy;rfl) hm1 hm2 (by simp;omega) ?_;intro v3 w3 hown hgrow hat)
       have HO:=Afj hown;have HGr:=Afj hgrow;have HAt:=Afj hat
       clear hown hgrow hat;go_roundw
       case rel=>
        exact ⟨q2.1,mv2,cv2,_,_,m',es2,S1 HL.out HS4.out HS2.out HR2.out HRow2.out HN2.out rfl HO.out HGr.out HAt.out HF2.out HMM.out⟩
       case measure=>
        have h1:=(S1 HL.out HS4.out HS2.out HR2.out HRow2.out HN2.out rfl HO.out HGr.out HAt.out HF2.out HMM.out).rd.cells.c1;have h2:=HL.out.rd.cells.c1;rw [h1,h2];have h3:=HMM.out.1;have h4:=HR2.out.pos;simp only [Option.getD_some,intOf];omega
theorem TS:∃ i,Tryz.prog.info? 4=some i∧i.zero=some (.bool false)∧i.size=1∧i.bytes=1:=by
 have h:(Tryz.prog.info? 4).map (fun i=>(i.zero,i.size,i.bytes))=some (some (.bool false),1,1):=by kernel_rfl
 obtain ⟨i,hi,he⟩:=Option.map_eq_some_iff.1 h;injection he with h1 h2;injection h2 with h2 h3;exact ⟨i,hi,h1,h2,h3⟩
theorem C6.low {lo lo' p:Nat} {mv cv:Value} {w:World} {d:Nd} {u:Value} (h:C6 lo p mv cv w d u) (hl:lo'≤lo):C6 lo' p mv cv w d u:=
 h.keep (Afq _) (fun _ hb _=>⟨⟨Afr hl hb.1,hb.2⟩,fun _=>rfl⟩)
theorem Rd.deep {B p:Nat} {w:World} {s:ByteArray} {st:ReSt} {es:List Bool} {dep:Nat} {mv cv:Value} (h:Rd B p w s st es dep mv cv) (k:Nat) :
  Rd B p (w.setCell ⟨p,4,none⟩ (.int .i64 (k:Int))) s st es k mv cv∧RStep p w mv cv (w.setCell ⟨p,4,none⟩ (.int .i64 (k:Int))) mv cv:=by
 have hset:∀ b,b≠p→(w.setCell ⟨p,4,none⟩ (.int .i64 (k:Int))).heap[b]?=w.heap[b]?:=fun b hb=>Afw _ _ _ _ (fun e=>hb e)
 have hsz:(w.setCell ⟨p,4,none⟩ (.int .i64 (k:Int))).heap.size=w.heap.size:=by simp [World.setCell]
 refine ⟨{ h with blk:=(h.blk.set 4 (.int .i64 (k:Int))),mo:=?_,co:=?_ },?_⟩
 ·exact h.mo.kept ⟨rfl,rfl,rfl,by rw [hsz];exact Afq _,fun b _ hb=>hset b (fun e=>hb (by rw [e]))⟩ (Or.inr h.mp)
 ·exact h.co.kept ⟨rfl,rfl,rfl,by rw [hsz];exact Afq _,fun b _ hb=>hset b (fun e=>hb (by rw [e]))⟩ (Or.inr h.cp)
 ·exact ⟨rfl,rfl,rfl,by rw [hsz];exact Afq _,fun b _ hp h1 h2=>⟨hset b hp,h1,h2⟩⟩
theorem Rd.opens {B p:Nat} {W w6:World} {s:ByteArray} {st:ReSt} {es:List Bool} {dep:Nat} {mv cv v6:Value} (h:Rd B p W s st es dep mv cv)
  (hown:w6.ownsRow B 4 1 v6 (es.length+1) (es.map Value.bool++[.bool false])) (hg:W.grownBy w6 cv.ownBlock) (hat:v6.ownBlock=cv.ownBlock∨v6.ownBlock=some W.heap.size) (hfew:es.length+1≤st.pos) :
  Rd B p (w6.setCell ⟨p,3,none⟩ v6) s { st with opened:=st.opened+1 } (es++[false]) dep mv v6∧RStep p W mv cv (w6.setCell ⟨p,3,none⟩ v6) mv v6:=by
 have hpl:=h.blk.lt;have hml:=fun b hb=>AF h.mo b hb
 have hset:∀ b,b≠p→(w6.setCell ⟨p,3,none⟩ v6).heap[b]?=w6.heap[b]?:=fun b hb=>Afw _ _ _ _ (fun e=>hb e)
 have hsz:(w6.setCell ⟨p,3,none⟩ v6).heap.size=w6.heap.size:=by simp [World.setCell]
 have hv6p:v6.ownBlock≠some p:=by
  rcases hat with e | e
  ·rw [e];exact h.cp
  ·rw [e];intro he;injection he with he;omega
 have hb6:Blk w6 p #[.string s,.int .i64 (st.pos:Int),mv,cv,.int .i64 (dep:Int)] 201:=by
  have h1:=h.blk;unfold Blk at h1 ⊢;rw [hg.block p hpl (fun e=>h.cp e.symm)];exact h1
 have hmo6:=h.mo.kept hg (by
  rcases hc:mv.ownBlock with _ | b
  ·exact .inl rfl
  ·refine .inr (fun e=>?_);exact h.mc b hc e.symm)
 refine ⟨{ blk:=hb6.set 3 v6,mo:=?_,co:=?_,rr:=?_,bp:=h.bp,mp:=h.mp,cp:=hv6p,mc:=?_,pos:=h.pos,small:=h.small,few:=⟨h.few.1,by simp;exact hfew⟩ },?_⟩
 ·exact hmo6.kept ⟨rfl,rfl,rfl,by rw [hsz];exact Afq _,fun b _ hb=>hset b (fun e=>hb (by rw [e]))⟩ (Or.inr h.mp)
 ·rw [Afs,List.map_append];exact hown.kept ⟨rfl,rfl,rfl,by rw [hsz];exact Afq _,fun b _ hb=>hset b (fun e=>hb (by rw [e]))⟩ (Or.inr hv6p)
 ·exact Md h.rr
 ·intro b hb;rcases hat with e | e
  ·rw [e];exact h.mc b hb
  ·rw [e];intro he;injection he with he;have:=hml b hb;omega
 ·refine ⟨hg.os,hg.tape,hg.output,by rw [hsz];exact hg.size,fun b hb hp h1 h2=>⟨?_,h1,?_⟩⟩
  ·rw [hset b hp];exact hg.block b hb (fun e=>h2 e.symm)
  ·rcases hat with e | e
   ·rw [e];exact h2
   ·rw [e];intro he;injection he with he;omega
theorem Rd.closes {B p g cap:Nat} {w:World} {s:ByteArray} {st:ReSt} {es:List Bool} {dep:Nat} {mv:Value} (h:Rd B p w s st es dep mv (.slice (some ⟨g,0,none⟩) es.length cap)) (j:Nat) (hj:j < es.length) :
  Rd B p (w.setCell ⟨g,j,none⟩ (.bool true)) s { st with closed:=st.closed++[((j+1:Nat):Int)] } (es.set j true) dep mv (.slice (some ⟨g,0,none⟩) es.length cap)∧RStep p w mv (.slice (some ⟨g,0,none⟩) es.length cap) (w.setCell ⟨g,j,none⟩ (.bool true)) mv (.slice (some ⟨g,0,none⟩) es.length cap):=by
 have hst:=World.ownsRow.stored h.co j (.bool true);have hgp:g≠p:=fun e=>h.cp (by rw [e];rfl)
 have hset:∀ b,b≠g→(w.setCell ⟨g,j,none⟩ (.bool true)).heap[b]?=w.heap[b]?:=fun b hb=>Afw _ _ _ _ (fun e=>hb e)
 have hsz:(w.setCell ⟨g,j,none⟩ (.bool true)).heap.size=w.heap.size:=by simp [World.setCell]
 refine ⟨{ h with blk:=h.blk.set_other _ hgp _,mo:=?_,co:=?_,rr:=?_,few:=⟨h.few.1,by rw [List.length_set];exact h.few.2⟩ },?_⟩
 ·exact h.mo.kept hst.2 (by
   rcases hc:mv.ownBlock with _ | b
   ·exact .inl rfl
   ·refine .inr (fun e=>?_);exact h.mc b hc (by rw [e];rfl))
 ·rw [List.length_set,List.map_set];exact hst.1
 ·have:=N2 h.rr (n:=((j+1:Nat):Int)) (by omega) (by omega);rw [show (((j+1:Nat):Int) - 1).toNat=j by omega] at this;exact this
 ·exact ⟨rfl,rfl,rfl,by rw [hsz];exact Afq _,fun b _ _ h1 h2=>⟨hset b (fun e=>h2 (by rw [e];rfl)),h1,h2⟩⟩
theorem Q9 {B p:Nat} {s:ByteArray} {st:ReSt} {es:List Bool} {mv cv:Value} (w:World) (h:Rd B p w s (st.to (st.pos+2)) es 12 mv cv) :
  Calls prog 167 #[.pointer (some ⟨p,0,none⟩),.int .i64 (st.pos:Int)] w fun e w'=>BN (.error (4,st.pos)) B p s 12 mv cv w e w':=by
 obtain ⟨c0,c1,c2,c3,c4,z1,z2,z3,z4⟩:=h.cells;clear h;go_enter func167,ntmps167;go_wp2_with fail
 exact ⟨rfl,A4 rfl (RStep.refl _ _ _ _) rfl⟩
def Kk (s:List UInt8) (st:ReSt) (F:ReRes (ReSt × Nd)):ReRes (ReSt × Nd):=match F with
 | .error e=>.error e
 | .ok q=>if BP s q.1.pos 41 then .ok ({ q.1 with pos:=q.1.pos+2,closed:=q.1.closed++[(st.opened:Int)+1] },.group ((st.opened:Int)+1) q.2) else .error (8,st.pos)
theorem ZO (s:List UInt8) (f:ReSt→ReRes (ReSt × Nd)) (st:ReSt):F6 false s (some f) st=Kk s st (f { st with pos:=st.pos+2,opened:=st.opened+1 }):=by
 unfold F6 Kk;simp only [AZ,A5,Af2,if_false];cases f { st with pos:=st.pos+2,opened:=st.opened+1 } with
 | error e=>rfl
 | ok q=>rfl
theorem WT {B p:Nat} {s:ByteArray} {st:ReSt} {es:List Bool} {dep:Nat} {mv cv:Value} (w:World) (h:Rd B p w s (st.to (st.pos+2)) es dep mv cv) (hd:dep < 12) (hfe:es.length≤st.pos) (hG:Gl w) (hB:glN≤B)
  (F:ReRes (ReSt × Nd)) (hF:∀ st' d es',F=.ok (st',d)→RR es' (st'.opened:Int) st'.closed→es.length+1≤es'.length)
  (hrx:∀ (w2:World) (mv cv:Value),Gl w2→Rd B p w2 s { st with pos:=st.pos+2,opened:=st.opened+1 } (es++[false]) (dep+1) mv cv→Calls prog 113 #[.pointer (some ⟨p,0,none⟩)] w2 fun e w'=>BN F B p s (dep+1) mv cv w2 e w') :
  Calls prog 167 #[.pointer (some ⟨p,0,none⟩),.int .i64 (st.pos:Int)] w fun e w'=>BN (Kk s.data.toList st F) B p s dep mv cv w e w':=by
 have hsm:=h.small;have hpp:=h.pos;have hop:(st.opened:Int)=(es.length:Int):=h.rr.1;obtain ⟨i0,hi,hz0,hz1,hz2⟩:=TS;obtain ⟨R,hR0⟩:∃ R,R=Kk s.data.toList st F:=⟨_,rfl⟩;rw [←hR0];have HR0:=Afj hR0;have HGl:=Afj hG;have H:=Afj h;have HFE:=Afj hF;have HRX:=Afj hrx;have hdp:=h.deep (dep+1);have HD:=Afj hdp;have hpl:=h.blk.lt;have hbp:=h.bp;obtain ⟨c0,c1,c2,c3,c4,z1,z2,z3,z4⟩:=h.cells;have e0:((dep:Int) == 12)=false:=by rw [beq_eq_false_iff_ne];omega
 have Wd:IntKind.i64.wrap ((dep:Int)+1)=((dep+1:Nat):Int):=by rw [Afx _ (by omega)];omega
 have hpp2:st.pos+2≤s.size:=hpp;have hm1:es.length+1≤maxLen:=by unfold maxLen;omega
 have hm2:(es.length+1) * 1≤140737488355328:=by omega
 have hcp:=h.cp;have HO:=Afj hop;clear hR0 hG h hF hrx hdp hpp hop;go_enter func167,ntmps167;go_upto_region 4 with fail;have hd1:Rd B p (w.setCell ⟨p,4,none⟩ (.int .i64 ((dep:Int)+1))) s (st.to (st.pos+2)) es (dep+1) mv cv∧RStep p w mv cv (w.setCell ⟨p,4,none⟩ (.int .i64 ((dep:Int)+1))) mv cv:=HD.out;generalize w.setCell ⟨p,4,none⟩ (.int .i64 ((dep:Int)+1))=w1 at *;obtain ⟨hR1,hS1⟩:=hd1;have HR1:=Afj hR1;have HS1:=Afj hS1;clear c0 c1 c2 c3 c4 z1 z2 z3 z4 HD hS1 hpl;obtain ⟨c0,c1,c2,c3,c4,z1,z2,z3,z4⟩:=hR1.cells;have hpl:=hR1.blk.lt;have hA:=(Afv w1.heap.size w1).alloc (Afq _) (.cells #[.bool false] 4);have HA:=Afj hA;clear hA hR1;go_wp2_with (at_builtin;refine Ag _ rfl _ _ 199 rfl B 4 i0 (.bool false) 1 1 underlying199 hi hz0 hz1 hz2 rfl (by decide) cv es.length (es.map Value.bool) rfl (Ah HR1.out.co HA.out) (some ⟨w1.heap.size,0,none⟩) 1 1 [.bool false] rfl rfl (fun _=>⟨_,rfl,Aw rfl _ _⟩) (by intro y hy;simp at hy;subst hy;rfl) hm1 hm2 (by simp;omega) ?_;intro v6 w6 hown6 hgrow6 hat6;have HM:=Afj ((HR1.out.below HA.out).opens hown6 hgrow6 hat6 (by show es.length+1≤st.pos+2;omega));have hfz:w6.frozen? ⟨p,3,none⟩=false:=(hgrow6.frozen_far ⟨p,3,none⟩ (by simp;omega) (fun e=>hcp e.symm)).trans ((HR1.out.below HA.out).blk.frozen 3);have hce:w6.cell? ⟨p,3,none⟩=some cv:=(hgrow6.cell_far ⟨p,3,none⟩ (by simp;omega) (fun e=>hcp e.symm)).trans (((HR1.out.below HA.out).blk.cell 3).trans rfl);obtain ⟨g,gcap,hv6,_,_⟩:=World.ownsRow.form hown6 (Nat.succ_pos _);subst hv6;clear hown6 hgrow6 hat6)
 obtain ⟨hRA,hSA⟩:=HM.out;have HSB:=Afj ((HS1.out.trans (RStep.of_below (p:=p) (mv:=mv) (cv:=cv) HA.out)).trans hSA);refine (HRX.out _ _ _ (HGl.out.step HSB.out H.out hB) hRA).mono ?_;intro e w7 hX;obtain ⟨mv7,cv7,hS7,hr⟩:=hX;have HS7:=Afj (HSB.out.trans hS7);have HLo:=Afj (HSB.out.size);clear c0 c1 c2 c3 c4 z1 z2 z3 z4 hRA hSA hS7 hcp HM hce hfz hm1 hm2;cases F with
 | error q=>
  obtain rfl:e=_:=hr;go_wp2_with fail
  exact ⟨rfl,A4 HR0.out HS7.out rfl⟩
 | ok q=>
  obtain ⟨es7,v7,rfl,hR7,hN7⟩:=hr;have HR7:=Afj hR7;have HN7:=Afj hN7;have hlen7:=HFE.out _ _ _ rfl hR7.rr;have hR2:=HR0.out;unfold Kk at hR2;simp only at hR2;clear hN7;cases h41:BP s.data.toList q.1.pos 41 with
  | false=>
   rw [h41] at hR2;have HF:=Afj (hR2.trans (if_neg (by simp)));have hsk:=Im ⟨#[92,41]⟩ w7 hR7 ((BQ _ _ 41 (by decide)).trans h41);clear hR2 hR7 h41;go_wp2_with fail
   refine hsk.mono ?_;rintro e w8 ⟨rfl,n,rfl⟩;clear hsk;go_wp2_with fail
   exact ⟨rfl,A4 HF.out (HS7.out.trans (RStep.of_below (below_drewN (Afv _ _) n))) rfl⟩
  | true=>
   rw [h41] at hR2;have HF:=Afj (hR2.trans (if_pos rfl));have hsk:=FQ ⟨#[92,41]⟩ w7 hR7 ((BQ _ _ 41 (by decide)).trans h41) (by simp);rw [show (ByteArray.mk #[92,41]).size=2 from rfl] at hsk;clear hR2 hR7 h41;go_wp2_with fail
   refine hsk.mono ?_;rintro e w8 ⟨rfl,hR8,hS8⟩;have HS8:=Afj (HS7.out.trans hS8);have HN8:=Afj (HN7.out.step hS8);clear hsk hS8;obtain ⟨a,cap,hcv,hl1,hl2,hx⟩:=Gk hR8.co (by simp);unfold maxLen at hl2;subst hcv;obtain ⟨g8,rfl,_,hg8,hc8⟩:=hx (by omega);have hcl:=hR8.closes es.length (by omega);have hdp:=hcl.1.deep dep;have HC:=Afj hcl;have HDp:=Afj hdp;have hcell:=hc8 es.length (by simp;omega);rw [List.getElem_map,Nat.zero_add] at hcell;have hfzg:=World.ownsRow.frozenAt hR8.co es.length;have hgp:g8≠p:=fun e=>hR8.cp (by rw [e];rfl)
   have hgp2:p≠g8:=fun e=>hgp e.symm
   obtain ⟨c0,c1,c2,c3,c4,z1,z2,z3,z4⟩:=hR8.cells;have hpl8:=hR8.blk.lt;have hes7:=hR8.few.2;have hs8:=hR8.pos;have hlt7:(es.length:Int) < (es7.length:Int):=by omega
   have Wn:IntKind.i64.wrap ((es.length:Int)+1 - 1)=(es.length:Int):=by rw [Afx _ (by omega)];omega
   have Wm:IntKind.i64.wrap ((dep:Int)+1 - 1)=(dep:Int):=by rw [Afx _ (by omega)];omega
   have HN9:=Afj ((HN8.out.step hcl.2).step hdp.2);have HS9:=Afj ((HS8.out.trans hcl.2).trans hdp.2);obtain ⟨nn,hnn⟩:=HN8.out;clear hx hc8 hR8 hcl hdp;rcases Ay hnn with ⟨T,x,rfl⟩ | rfl
   all_goals
    clear hnn;go_wp2_with fail
    go_ret;have hfin:R=.ok ({ q.1 with pos:=q.1.pos+2,closed:=q.1.closed++[((es.length+1:Nat):Int)] },.group ((es.length:Int)+1) q.2):=HF.out.trans (by rw [HO.out];rfl);exact AQ hfin HS9.out HDp.out.1 (Ox (HN9.out.low HLo.out) _)
def F2 (s:List UInt8) (dep:Nat):Option (ReSt→ReRes (ReSt × Nd)):=if dep < 12 then some (Cs false s (11 - dep)) else none
theorem O4 (s:List UInt8) (dep:Nat):Dj s (F2 s dep):=fun f hf=>by
 unfold F2 at hf;split at hf
 ·injection hf with hf;subst hf;exact Vs false s _
 ·cases hf
theorem O5 (s:List UInt8) (dep:Nat):Hy (F2 s dep):=fun f hf=>by
 unfold F2 at hf;split at hf
 ·injection hf with hf;subst hf;exact I3 false s _
 ·cases hf
theorem Ade (s:List UInt8) (dep:Nat) (h:dep < 12) (st:ReSt):Cs false s (11 - dep) st=At false s (F2 s (dep+1)) false (s.length+1) st []:=by
 unfold F2;by_cases h1:dep+1 < 12
 ·rw [if_pos h1,show 11 - dep=(11 - (dep+1))+1 by omega];rfl
 ·rw [if_neg h1,show 11 - dep=0 by omega];rfl
theorem TT (B p:Nat) (s:ByteArray) (hB:glN≤B):∀ (n dep:Nat),dep+n=12→∀ st es,EB B p s st es dep (F2 s.data.toList dep):=by
 intro n;induction n with
 | zero=>
  intro dep hd st es w2 mv cv hG hfe hR;obtain rfl:dep=12:=by omega
  have:F6 false s.data.toList (F2 s.data.toList 12) st=.error (4,st.pos):=rfl;rw [this];exact Q9 w2 hR
 | succ n ih=>
  intro dep hd st es w2 mv cv hG hfe hR;have hd12:dep < 12:=by omega
  have hs:F2 s.data.toList dep=some (Cs false s.data.toList (11 - dep)):=by unfold F2;rw [if_pos hd12]
  rw [hs,ZO];refine WT w2 hR hd12 hfe hG hB _ (fun st' d es' hF hrr=>?_) (fun w3 mv3 cv3 hG3 hR3=>?_)
  ·have ht:=I3 false s.data.toList _ _ _ _ hF;have he:=Gd d (es++[false]) _ _ (Md hR.rr);unfold CR at ht;have hcast:(((st.opened+1:Nat)):Int)=((st.to (st.pos+2)).opened:Int)+1:=by show ((st.opened+1:Nat):Int)=(st.opened:Int)+1;omega
   rw [show ((({ st with pos:=st.pos+2,opened:=st.opened+1 }:ReSt).opened:Nat):Int)=((st.to (st.pos+2)).opened:Int)+1 from hcast] at ht;rw [show Bz d (((st.to (st.pos+2)).opened:Int)+1) (st.to (st.pos+2)).closed=some ((st'.opened:Int),st'.closed) from ht] at he;obtain ⟨es2,_,hrr2,hle⟩:=he;have h1:=hrr.1;have h2:=hrr2.1;simp at hle h2;omega
  ·rw [Ade _ _ hd12];exact LD w3 hR3 _ (O4 _ _) (O5 _ _) hG3 hB (fun st es=>ih (dep+1) (by omega) st es)
theorem O6 (a b c d:Addr) (w:World) :
  CallsD prog 112 #[.pointer (some a),.pointer (some b),.pointer (some c),.pointer (some d)] .returning w fun e u' w'=>e=.returned (.tuple #[])∧u'=.returning∧w'=w:=by
 have hnil:∀ w:World,(binOp BinOp.eql 20 .nilIface .nilIface).run prog w=.ok (.bool true) w:=fun _=>by kernel_rfl
 refine callsD_of_wpS func112 rfl fun c₀ cs hu=>?_
 apply wpS_seq;apply wpS_region;simp [wpOpsS,go_sem,recoverD,hu,ntmps112,Exit.thenS]
 iterate 2 (apply wpS_seq)
 apply wpS_region;simp [wpOpsS,go_sem,hnil,Exit.thenS];refine wpS_cond (t:=true) (by simp [Act.eval,Array.replicate]) ?_;simp only [if_true];refine wpS_of_wp (wp_ret ?_);cases c₀
 simp_all [bodyPostS,results,results112,Exit.thenS]
structure Caught (n0 n1 n2 n3:Nat) (k e:Nat) (w w':World):Prop where
 b0:Blk w' n0 #[.nilIface] 45
 b1:Blk w' n1 #[.slice none 0 0] 26
 b2:Blk w' n2 #[.int .i64 (k:Int)] 3
 b3:Blk w' n3 #[.int .i64 (e:Int)] 27
 low:∀ B,B≤n0→B≤n1→B≤n2→B≤n3→B≤w.heap.size→Below B w w'
theorem Na {n0 n1 n2 n3:Nat} {x0 x1 x2 x3:Value} (k er:Nat) (older:List PanicEntry) (w:World) (h0:Blk w n0 #[x0] 45) (h1:Blk w n1 #[x1] 26) (h2:Blk w n2 #[x2] 3) (h3:Blk w n3 #[x3] 27)
  (d01:n0≠n1) (d02:n0≠n2) (d03:n0≠n3) (d12:n1≠n2) (d13:n1≠n3) (d23:n2≠n3) :
  CallsD prog 112 #[.pointer (some ⟨n0,0,none⟩),.pointer (some ⟨n1,0,none⟩),.pointer (some ⟨n2,0,none⟩),.pointer (some ⟨n3,0,none⟩)] (.panicking ({ v:=.iface 197 (.agg #[.int .i64 (k:Int),.int .i64 (er:Int)]),recovered:=false } :: older)) w fun e u' w'=>
   e=.returned (.tuple #[])∧u'=.panicking ({ v:=.iface 197 (.agg #[.int .i64 (k:Int),.int .i64 (er:Int)]),recovered:=true } :: older)∧Caught n0 n1 n2 n3 k er w w':=by
 have hnn:∀ w:World,(binOp BinOp.eql 20 (.iface 197 (.agg #[.int .i64 (k:Int),.int .i64 (er:Int)])) .nilIface).run prog w=.ok (.bool false) w:=fun _=>by kernel_rfl
 have hta:∀ w:World,(Instr.typeAssert (.iface 197 (.agg #[.int .i64 (k:Int),.int .i64 (er:Int)])) 20 197 true).run prog w=.ok (.tuple #[.agg #[.int .i64 (k:Int),.int .i64 (er:Int)],.bool true]) w:=fun _=>by kernel_rfl
 refine callsD_of_wpS func112 rfl fun c₀ cs hu=>?_
 apply wpS_seq;apply wpS_region;simp [wpOpsS,go_sem,recoverD,hu,ntmps112,Exit.thenS];refine wpS_of_wp (Code.wp_mono (Q:=fun e a w'=>(e=.normal∨e=.ret)∧a.defers=[]∧Caught n0 n1 n2 n3 k er w w') ?_ ?_)
 ·rintro e a w' ⟨he,hd,hc⟩;rcases he with rfl | rfl
  ·exact ⟨hd,_,rfl,.tuple #[],by simp [results,results112,go_sem],rfl,rfl,hc⟩
  ·exact ⟨hd,_,rfl,.tuple #[],by simp [results,results112,go_sem],rfl,rfl,hc⟩
 ·clear hu;have c0:w.cell? ⟨n0,0,none⟩=some x0:=(h0.cell 0).trans rfl;have c1:w.cell? ⟨n1,0,none⟩=some x1:=(h1.cell 0).trans rfl;have c2:w.cell? ⟨n2,0,none⟩=some x2:=(h2.cell 0).trans rfl;have c3:w.cell? ⟨n3,0,none⟩=some x3:=(h3.cell 0).trans rfl;have z0:=h0.frozen 0;have z1:=h1.frozen 0;have z2:=h2.frozen 0;have z3:=h3.frozen 0;have l0:=h0.lt;have l1:=h1.lt;have l2:=h2.lt;have l3:=h3.lt;have HB0:=Afj h0;have HB1:=Afj h1;have HB2:=Afj h2;have HB3:=Afj h3;clear h0 h1 h2 h3;simp only [Array.replicate_succ,Array.replicate_zero,List.push_toArray,List.append_toArray,List.nil_append,List.cons_append,Afk,Afp,Afo];go_wp2_with fail
  have d10:=d01.symm;have d20:=d02.symm;have d30:=d03.symm;have d21:=d12.symm;have d31:=d13.symm;have d32:=d23.symm
  go_region
  all_goals go_wp2_with fail
  all_goals
   refine ⟨?_,?_,?_,?_,fun B g0 g1 g2 g3 hw=>?_⟩
   ·exact (((((HB0.out.set 0 _).set_other ⟨n1,0,none⟩ d10 _).set_other ⟨n2,0,none⟩ d20 _).set_other ⟨n3,0,none⟩ d30 _).alloc _).drew
   ·exact (((((HB1.out.set_other ⟨n0,0,none⟩ d01 _).set 0 _).set_other ⟨n2,0,none⟩ d21 _).set_other ⟨n3,0,none⟩ d31 _).alloc _).drew
   ·exact (((((HB2.out.set_other ⟨n0,0,none⟩ d02 _).set_other ⟨n1,0,none⟩ d12 _).set 0 _).set_other ⟨n3,0,none⟩ d32 _).alloc _).drew
   ·exact (((((HB3.out.set_other ⟨n0,0,none⟩ d03 _).set_other ⟨n1,0,none⟩ d13 _).set_other ⟨n2,0,none⟩ d23 _).set 0 _).alloc _).drew
   ·exact ((((((Afv B w).setCell (p:=⟨n0,0,none⟩) g0 _).setCell (p:=⟨n1,0,none⟩) g1 _).setCell (p:=⟨n2,0,none⟩) g2 _).setCell (p:=⟨n3,0,none⟩) g3 _).alloc (by simp [World.setCell];exact hw) _).drew
theorem O7 (s:List UInt8) (sub:Option (ReSt→ReRes (ReSt × Nd))) (begin:Nat):∀ (n:Nat) (st:ReSt) (parts:List Nd) (front:Bool) (st':ReSt) (d:Nd),branchM false s sub false begin n st parts front=.ok (st',d)→AG s st'.pos=true:=by
 intro n;induction n with
 | zero=>intro _ _ _ _ _ h;cases h
 | succ n ih=>
  intro st parts front st' d h;rw [branchM] at h;split at h
  ·rename_i he;injection h with h;injection h with h1 _;subst h1;unfold AG;simpa [A5] using he
  split at h
  ·exact ih _ _ _ _ _ h
  split at h
  ·exact ih _ _ _ _ _ h
  split at h
  ·cases h
  split at h
  ·cases h
  ·split at h
   ·cases h
   ·exact ih _ _ _ _ _ h
theorem O8 (s:List UInt8) (sub:Option (ReSt→ReRes (ReSt × Nd))):∀ (n:Nat) (st:ReSt) (l:List Nd) (st':ReSt) (d:Nd),At false s sub false n st l=.ok (st',d)→s.length≤st'.pos∨BP s st'.pos 41=true:=by
 intro n;induction n with
 | zero=>intro _ _ _ _ h;cases h
 | succ n ih=>
  intro st l st' d h;rw [At] at h;split at h
  ·cases h
  ·rename_i st1 d1 hb;have h1:=O7 s sub _ _ _ _ _ _ _ hb;split at h
   ·exact ih _ _ _ _ h
   ·rename_i h124;injection h with h;injection h with h2 _;subst h2;unfold AG at h1;simp only [A5,Af2,if_false] at h124;simp only [Bool.or_eq_true,decide_eq_true_eq] at h1;rcases h1 with (h1 | h1) | h1
    ·exact .inl h1
    ·exact (h124 h1).elim
    ·exact .inr h1
structure Four (w0 w:World) (x0 x1 x2 x3:Value):Prop where
 b:Below w0.heap.size w0 w
 h0:Blk w w0.heap.size #[x0] 45
 h1:Blk w (w0.heap.size+1) #[x1] 26
 h2:Blk w (w0.heap.size+2) #[x2] 3
 h3:Blk w (w0.heap.size+3) #[x3] 27
theorem O9 (w:World):Four w ((((w.alloc (.cells #[.nilIface] 45)).alloc (.cells #[.slice none 0 0] 26)).alloc (.cells #[.int .i64 0] 3)).alloc (.cells #[.int .i64 0] 27)) .nilIface (.slice none 0 0) (.int .i64 0) (.int .i64 0):=
 ⟨((((Afv _ _).alloc (Afq _) _).alloc (by simp) _).alloc (by simp;omega) _).alloc (by simp;omega) _,
  (((Blk.new w _ _ _ rfl).alloc _).alloc _).alloc _,((Blk.new _ _ _ _ (by simp)).alloc _).alloc _,(Blk.new _ _ _ _ (by simp)).alloc _,Blk.new _ _ _ _ (by simp)⟩
theorem Four.below {w0 w w':World} {x0 x1 x2 x3:Value} (h:Four w0 w x0 x1 x2 x3) (hb:Below w.heap.size w w'):Four w0 w' x0 x1 x2 x3:=
 ⟨h.b.trans (hb.mono h.b.size),h.h0.below hb h.h0.lt,h.h1.below hb h.h1.lt,h.h2.below hb h.h2.lt,h.h3.below hb h.h3.lt⟩
theorem FW {w0 w:World} {x0 x1 x2 x3:Value} (h:Four w0 w x0 x1 x2 x3) (k er:Nat) :
  CallsD prog 112 #[.pointer (some ⟨w0.heap.size,0,none⟩),.pointer (some ⟨w0.heap.size+1,0,none⟩),.pointer (some ⟨w0.heap.size+2,0,none⟩),.pointer (some ⟨w0.heap.size+3,0,none⟩)] (.panicking ({ v:=.iface 197 (.agg #[.int .i64 (k:Int),.int .i64 (er:Int)]),recovered:=false } :: [])) w fun e u' w'=>
   e=.returned (.tuple #[])∧u'=.panicking ({ v:=.iface 197 (.agg #[.int .i64 (k:Int),.int .i64 (er:Int)]),recovered:=true } :: [])∧Four w0 w' .nilIface (.slice none 0 0) (.int .i64 (k:Int)) (.int .i64 (er:Int)):=
 (Na k er [] w h.h0 h.h1 h.h2 h.h3 (by omega) (by omega) (by omega) (by omega) (by omega) (by omega)).mono fun _ _ _ ⟨h1,h2,h3⟩=>
  ⟨h1,h2,h.b.trans (h3.low _ (Afq _) (by omega) (by omega) (by omega) h.b.size),h3.b0,h3.b1,h3.b2,h3.b3⟩
theorem OB (s:ByteArray) (w:World) (hs:250 < s.size):Calls prog 97 #[.string s] w fun e w'=>Qq (.error (3,250)) w e w':=by
 have hmf:∀ (fn:Fn) (first cap:Array Value) (w:World),(Instr.makeFunc fn first cap).run prog w=.ok (.func fn first cap) w:=fun _ _ _ _=>rfl
 have e1:decide ((250:Int) < (s.size:Int))=true:=by simp;omega
 have h4:=O9 w;clear hs
 go_enter_defers func97,ntmps97
 go_wp2_with fail
 refine leaves_cons (f:=112) (args:=#[.pointer (some ⟨w.heap.size,0,none⟩),.pointer (some ⟨w.heap.size+1,0,none⟩),.pointer (some ⟨w.heap.size+2,0,none⟩),.pointer (some ⟨w.heap.size+3,0,none⟩)]) (by simp) (by simp [go_sem]) ?_;refine (FW h4 250 3).mono ?_;rintro e u' w'' ⟨rfl,rfl,h5⟩;have k0:=(h5.h0.cell 0).trans rfl;have k1:=(h5.h1.cell 0).trans rfl;have k2:=(h5.h2.cell 0).trans rfl;have k3:=(h5.h3.cell 0).trans rfl;simp [Leaves,settle,results,results97,go_sem,k0,k1,k2,k3];exact ⟨h5.b,rfl⟩
theorem Four.step {w0 w w':World} {x0 x1 x2 x3:Value} {p:Nat} {mv' cv':Value} (h:Four w0 w x0 x1 x2 x3) (hp:w0.heap.size+4≤p) (hS:RStep p w (.slice none 0 0) (.slice none 0 0) w' mv' cv') (hB:Below w0.heap.size w w'):Four w0 w' x0 x1 x2 x3:=by
 have hk:∀ b x T,Blk w b #[x] T→b < p→Blk w' b #[x] T:=fun b x T hb hlt=>by
  unfold Blk at hb ⊢;rw [(hS.block b (Af6.1 hb).1 (by omega) (by simp [Value.ownBlock]) (by simp [Value.ownBlock])).1];exact hb
 exact ⟨h.b.trans hB,hk _ _ _ h.h0 (by omega),hk _ _ _ h.h1 (by omega),hk _ _ _ h.h2 (by omega),hk _ _ _ h.h3 (by omega)⟩
theorem Four.store {w0 w:World} {x0 x1 x2 x3:Value} (h:Four w0 w x0 x1 x2 x3) (y0 y1 y2 y3:Value) :
  Four w0 ((((w.setCell ⟨w0.heap.size,0,none⟩ y0).setCell ⟨w0.heap.size+1,0,none⟩ y1).setCell ⟨w0.heap.size+2,0,none⟩ y2).setCell ⟨w0.heap.size+3,0,none⟩ y3) y0 y1 y2 y3:=
 ⟨(((h.b.setCell (p:=⟨w0.heap.size,0,none⟩) (Afq _) _).setCell (p:=⟨w0.heap.size+1,0,none⟩) (by simp) _).setCell (p:=⟨w0.heap.size+2,0,none⟩) (by simp) _).setCell (p:=⟨w0.heap.size+3,0,none⟩) (by simp) _,
  (((h.h0.set 0 _).set_other ⟨w0.heap.size+1,0,none⟩ (by simp) _).set_other ⟨w0.heap.size+2,0,none⟩ (by simp) _).set_other ⟨w0.heap.size+3,0,none⟩ (by simp) _,
  (((h.h1.set_other ⟨w0.heap.size,0,none⟩ (by simp) _).set 0 _).set_other ⟨w0.heap.size+2,0,none⟩ (by simp) _).set_other ⟨w0.heap.size+3,0,none⟩ (by simp) _,
  (((h.h2.set_other ⟨w0.heap.size,0,none⟩ (by simp) _).set_other ⟨w0.heap.size+1,0,none⟩ (by simp) _).set 0 _).set_other ⟨w0.heap.size+3,0,none⟩ (by simp) _,
  (((h.h3.set_other ⟨w0.heap.size,0,none⟩ (by simp) _).set_other ⟨w0.heap.size+1,0,none⟩ (by simp) _).set_other ⟨w0.heap.size+2,0,none⟩ (by simp) _).set 0 _⟩
theorem Jp {w:World} {B:Nat} {e:TypeId} {size n:Nat} {v:Value} {us:List Value} (h:w.ownsRow B e size v n us) (b:Nat) (hv:v.ownBlock≠some b) (x:Value):(w.setCell ⟨b,0,none⟩ x).ownsRow B e size v n us:=
 h.kept ⟨rfl,rfl,rfl,by simp [World.setCell],fun k _ hk=>Afw _ _ _ _ (fun e=>hk (by rw [e]))⟩ (Or.inr hv)
theorem Jq {F:Nat→Prop} {w:World} {d:Nd} {v:Value} (h:NdX F w d v) (b:Nat) (hb:¬ F b) (x:Value):NdX F (w.setCell ⟨b,0,none⟩ x) d v:=
 h.keep (by simp [World.setCell]) (fun k hk _=>⟨hk,fun o=>Afy (w:=w) (a:=⟨k,o,none⟩) (Afw _ _ _ _ (fun e=>hb (by have e2:k=b:=e;rw [←e2];exact hk)))⟩)
theorem TU {w:World} {B:Nat} {e:TypeId} {size n:Nat} {v:Value} {us:List Value} (h:w.ownsRow B e size v n us):∃ a m c,v=.slice a m c:=by
 rcases h.2 with ⟨rfl,_⟩ | ⟨g,cap,cur,rfl,_⟩
 ·exact ⟨_,_,_,rfl⟩
 ·exact ⟨_,_,_,rfl⟩
theorem Adf (w0 W:World) (s:ByteArray) (hs:s.size≤250) (h0:w0.heap.size≤W.heap.size):Rd w0.heap.size W.heap.size (W.alloc (.cells #[.string s,.int .i64 0,.slice none 0 0,.slice none 0 0,.int .i64 0] 201)) s Ep [] 0 (.slice none 0 0) (.slice none 0 0):=
 { blk:=Blk.new W _ _ _ rfl,mo:=World.ownsRow_nil _ _ _ _,co:=World.ownsRow_nil _ _ _ _,rr:=Abp,bp:=h0,mp:=by simp [Value.ownBlock],cp:=by simp [Value.ownBlock],mc:=by intro b hb;simp [Value.ownBlock] at hb,pos:=Nat.zero_le _,small:=hs,few:=⟨Afq _,Afq _⟩ }
theorem QB {w w1 W5:World} {x0 x1 x2 x3 v mv cv:Value} {d:Nd} {n:Nat} {us:List Value} (h:Four w w1 x0 x1 x2 x3) (hsz:w.heap.size+5≤W5.heap.size) (hN:C6 W5.heap.size (w.heap.size+4) mv cv w1 d v) (hm:w1.ownsRow w.heap.size 33 2 mv n us)
  (hno:∀ b,b < W5.heap.size→b≠w.heap.size+4→mv.ownBlock≠some b) :
  Four w ((((w1.setCell ⟨w.heap.size,0,none⟩ v).setCell ⟨w.heap.size+1,0,none⟩ mv).setCell ⟨w.heap.size+2,0,none⟩ (.int .i64 0)).setCell ⟨w.heap.size+3,0,none⟩ (.int .i64 0)) v mv (.int .i64 0) (.int .i64 0)∧
  NdX (fun b=>w.heap.size≤b) ((((w1.setCell ⟨w.heap.size,0,none⟩ v).setCell ⟨w.heap.size+1,0,none⟩ mv).setCell ⟨w.heap.size+2,0,none⟩ (.int .i64 0)).setCell ⟨w.heap.size+3,0,none⟩ (.int .i64 0)) d v∧
  ((((w1.setCell ⟨w.heap.size,0,none⟩ v).setCell ⟨w.heap.size+1,0,none⟩ mv).setCell ⟨w.heap.size+2,0,none⟩ (.int .i64 0)).setCell ⟨w.heap.size+3,0,none⟩ (.int .i64 0)).ownsRow w.heap.size 33 2 mv n us:=by
 have hN':NdX (fun b=>w.heap.size+5≤b) w1 d v:=hN.keep (Afq _) (fun b hb _=>⟨Afr hsz hb.1,fun _=>rfl⟩);refine ⟨h.store _ _ _ _,?_,?_⟩
 ·exact ((((Jq hN' _ (by omega) _ |> fun h=>Jq h _ (by omega) _) |> fun h=>Jq h _ (by omega) _) |> fun h=>Jq h _ (by omega) _)).keep (Afq _) (fun b hb _=>⟨by omega,fun _=>rfl⟩)
 ·exact Jp (Jp (Jp (Jp hm _ (hno _ (by omega) (by omega)) _) _ (hno _ (by omega) (by omega)) _) _ (hno _ (by omega) (by omega)) _) _ (hno _ (by omega) (by omega)) _
theorem Nb (s:ByteArray) (w:World) (hs:s.size≤250) (hG:Gl w):Calls prog 97 #[.string s] w fun e w'=>Qq (AU false s.data.toList) w e w':=by
 have hmf:∀ (fn:Fn) (first cap:Array Value) (w:World),(Instr.makeFunc fn first cap).run prog w=.ok (.func fn first cap) w:=fun _ _ _ _=>rfl
 have hsl:s.data.toList.length=s.size:=by simp
 have e1:decide ((250:Int) < (s.size:Int))=false:=by simp;omega
 have h4:=O9 w;generalize hW4:((((w.alloc (.cells #[.nilIface] 45)).alloc (.cells #[.slice none 0 0] 26)).alloc (.cells #[.int .i64 0] 3)).alloc (.cells #[.int .i64 0] 27))=W4 at h4;have hn4:W4.heap.size=w.heap.size+4:=by rw [←hW4];simp
 have hR:=Adf w W4 s hs (by omega);rw [hn4] at hR;have hA:=(Afv W4.heap.size W4).alloc (Afq _) (.cells #[.string s,.int .i64 0,.slice none 0 0,.slice none 0 0,.int .i64 0] 201);have h5:=h4.below hA;have hG5:=hG.up h5.b;have hps:=GB false s.data.toList (by rw [hsl];exact hs);have hrx:=LD _ hR (F2 s.data.toList 0) (O4 _ _) (O5 _ _) hG5 hG.lt (fun st es=>TT w.heap.size (w.heap.size+4) s hG.lt 12 0 rfl st es);rw [show F2 s.data.toList 0=some (Cs false s.data.toList 11) from rfl] at hrx;obtain ⟨R,hR0⟩:∃ R,R=AU false s.data.toList:=⟨_,rfl⟩;rw [←hR0];have hR1:=hR0.trans hps;have HR5:=Afj hR;have H5:=Afj h5;have HW4:=Afj hW4;have HN4:=Afj hn4;have hce:=O8 s.data.toList (some (Cs false s.data.toList 11)) (s.data.toList.length+1) Ep [];have HCE:=Afj hce;have HSL:=Afj hsl;clear hR hA h4 h5 hG5 hps hR0 hG hn4 hce hsl hs;subst hW4
 go_enter_defers func97,ntmps97
 go_wp2_with fail
 generalize hW5:((((w.alloc (.cells #[.nilIface] 45)).alloc (.cells #[.slice none 0 0] 26)).alloc (.cells #[.int .i64 0] 3)).alloc (.cells #[.int .i64 0] 27)).alloc (.cells #[.string s,.int .i64 0,.slice none 0 0,.slice none 0 0,.int .i64 0] 201)=W5 at *;have hsz5:w.heap.size+5≤W5.heap.size:=by rw [←hW5];simp
 have HSZ:=Afj hsz5;clear hW5 hsz5;refine Calls.mono hrx ?_;intro e w1 hA;obtain ⟨mv1,cv1,hS1,hr⟩:=hA;have hF1:=H5.out.step (Afq _) hS1 (hS1.low HR5.out);have HS1:=Afj hS1;have HF1:=Afj hF1;clear hS1 hF1 hrx;cases hC:At false s.data.toList (some (Cs false s.data.toList 11)) false (s.data.toList.length+1) Ep [] with
 | error q=>
  rw [hC] at hr hR1;obtain rfl:e=_:=hr;have HF:=Afj hR1;clear hC hR1;go_wp2_with fail
  refine leaves_cons (f:=112) (args:=#[.pointer (some ⟨w.heap.size,0,none⟩),.pointer (some ⟨w.heap.size+1,0,none⟩),.pointer (some ⟨w.heap.size+2,0,none⟩),.pointer (some ⟨w.heap.size+3,0,none⟩)]) (by simp) (by simp [go_sem]) ?_;refine (FW HF1.out q.2 q.1).mono ?_;rintro e u' w'' ⟨rfl,rfl,h5⟩;have k0:=(h5.h0.cell 0).trans rfl;have k1:=(h5.h1.cell 0).trans rfl;have k2:=(h5.h2.cell 0).trans rfl;have k3:=(h5.h3.cell 0).trans rfl;simp [Leaves,settle,results,results97,go_sem,k0,k1,k2,k3];exact ⟨h5.b,by rw [HF.out];rfl⟩
 | ok q=>
  rw [hC] at hr hR1;obtain ⟨es1,v1,rfl,hRd1,hN1⟩:=hr;have hce:=HCE.out _ _ hC;have HRd1:=Afj hRd1;have HN1:=Afj hN1;obtain ⟨c0,c1,c2,c3,c4,z1,z2,z3,z4⟩:=hRd1.cells;have hp1:=hRd1.pos;have hsm:=hRd1.small;rw [HSL.out] at hce;clear hC hRd1 hN1;cases h41:BP s.data.toList q.1.pos 41 with
  | true=>
   have hlt:=(Fk h41).1;rw [HSL.out] at hlt;have HF:=Afj (hR1.trans (show F1 false s.data.toList (.ok q)=.error (8,q.1.pos) by unfold F1;simp only [A5,Af2,if_false];rw [h41];rfl));have e2:decide ((q.1.pos:Int) < (s.size:Int))=true:=by simp;omega
   have e3:decide (q.1.pos < s.size)=true:=by simp;omega
   clear hR1 h41 hlt hce;go_wp2_with fail
   refine leaves_cons (f:=112) (args:=#[.pointer (some ⟨w.heap.size,0,none⟩),.pointer (some ⟨w.heap.size+1,0,none⟩),.pointer (some ⟨w.heap.size+2,0,none⟩),.pointer (some ⟨w.heap.size+3,0,none⟩)]) (by simp) (by simp [go_sem]) ?_;refine (FW HF1.out q.1.pos 8).mono ?_;rintro e u' w'' ⟨rfl,rfl,h5⟩;have k0:=(h5.h0.cell 0).trans rfl;have k1:=(h5.h1.cell 0).trans rfl;have k2:=(h5.h2.cell 0).trans rfl;have k3:=(h5.h3.cell 0).trans rfl;simp [Leaves,settle,results,results97,go_sem,k0,k1,k2,k3];exact ⟨h5.b,by rw [HF.out];rfl⟩
  | false=>
   have hge:s.size≤q.1.pos:=hce.resolve_right (by rw [h41];simp);have HF:=Afj (hR1.trans (show F1 false s.data.toList (.ok q)=.ok q by unfold F1;simp only [A5,Af2,if_false];rw [h41];rfl));have e2:decide ((q.1.pos:Int) < (s.size:Int))=false:=by simp;omega
   have e3:decide (q.1.pos < s.size)=false:=by simp;omega
   clear hR1 h41 hce hge;have q0:=(HF1.out.h0.cell 0).trans rfl;have q1:=(HF1.out.h1.cell 0).trans rfl;have q2:=(HF1.out.h2.cell 0).trans rfl;have q3:=(HF1.out.h3.cell 0).trans rfl;have y0:=HF1.out.h0.frozen 0;have y1:=HF1.out.h1.frozen 0;have y2:=HF1.out.h2.frozen 0;have y3:=HF1.out.h3.frozen 0;have hno:=fun b hb hbp=>((HS1.out.block b hb hbp (by simp [Value.ownBlock]) (by simp [Value.ownBlock])).2.1)
   have HNO:=Afj hno;clear hno;obtain ⟨ma,mn,mc,hmv⟩:=TU HRd1.out.mo;subst hmv;obtain ⟨nn,hnn⟩:=HN1.out;rcases Ay hnn with ⟨T,x,rfl⟩ | rfl
   all_goals
    clear hnn;go_wp2_with fail
    go_region
    all_goals go_wp2_with fail
    all_goals
     refine leaves_cons (f:=112) (args:=#[.pointer (some ⟨w.heap.size,0,none⟩),.pointer (some ⟨w.heap.size+1,0,none⟩),.pointer (some ⟨w.heap.size+2,0,none⟩),.pointer (some ⟨w.heap.size+3,0,none⟩)]) (by simp) (by simp [go_sem]) ?_;refine (O6 _ _ _ _ _).mono ?_;rintro e u' w'' ⟨rfl,rfl,rfl⟩;have hF9:=QB HF1.out HSZ.out HN1.out HRd1.out.mo HNO.out;have k0:=(hF9.1.h0.cell 0).trans rfl;have k1:=(hF9.1.h1.cell 0).trans rfl;have k2:=(hF9.1.h2.cell 0).trans rfl;have k3:=(hF9.1.h3.cell 0).trans rfl;have HF9:=Afj hF9;clear hF9 c0 c1 c2 c3 c4 z1 z2 z3 z4 q0 q1 q2 q3 y0 y1 y2 y3;generalize (((World.setCell _ _ _).setCell _ _).setCell _ _).setCell _ _=w9 at HF9 k0 k1 k2 k3 ⊢;simp [Leaves,settle,results,results97,go_sem,k0,k1,k2,k3];refine ⟨HF9.out.1.b.drew,?_⟩;rw [HF.out];exact ⟨_,_,rfl,HF9.out.2.1.drew,HF9.out.2.2⟩
theorem QC (s:ByteArray) (w:World) (hG:Gl w):Calls prog 97 #[.string s] w fun e w'=>Qq (AU false s.data.toList) w e w':=by
 by_cases hs:s.size≤250
 ·exact Nb s w hs hG
 ·have hl:AU false s.data.toList=.error (3,250):=by
   unfold AU;rw [if_pos (by simp;omega)]
  rw [hl];exact OB s w (by omega)
end
section
open Go.RowKit
theorem ZP {a b:ByteArray} (h:a=b):Ending.returned (.string a)=.returned (.string b):=by rw [h]
theorem Kl (s:ByteArray) (k:Nat) (h:k < s.size):s.data.toList.take (k+1)=s.data.toList.take k++[s[k]]:=by
 rw [List.take_succ_eq_append_getElem (by simpa using h)];rfl
theorem WU (s:ByteArray) (w:World) (hs:s.size≤35184372088832) :
  Calls prog 127 #[.string s] w fun e w'=>e=.returned (.string (txt (Ar s.data.toList)))∧Below w.heap.size w w':=by
 go_enter func127,ntmps127
 go_wp2
 go_loopw [7] (fun i wr=>∃ k:Nat,k≤s.size∧i=.int .i64 k∧Lib.IsBuilderF 166 5 w.heap.size w.heap.size (Lib.byteCells (Ar (s.data.toList.take k))) wr∧Below w.heap.size w wr∧w.heap.size≤wr.heap.size) (fun i _=>s.size - (intOf i).toNat)
 case atStart=>
  refine ⟨0,by omega,rfl,Lib.IsBuilderF.of (Lib.fresh_isBuilder 166 5 w),(Afv _ w).alloc (Afq _) _,by simp⟩
 case round=>
  obtain ⟨k,hk,rfl,hI,hbw,hsz⟩:=hrel;have hlen:=Li (s.data.toList.take k);have hl2:(s.data.toList.take k).length≤k:=List.length_take_le _ _;have hlc:(Lib.byteCells (Ar (s.data.toList.take k))).length≤2 * k:=by rw [Lib.byteCells_length];omega
  by_cases hlt:k < s.size
  ·have hb:=s[k].toNat_lt;have Hn:=Afj (show Ar (s.data.toList.take (k+1))=Ar (s.data.toList.take k)++Dw s[k] by rw [Kl s k hlt,J6]);go_wp2_with (go_at_call 142;refine (Ny w.heap.size w.heap.size _ _ (by omega) (by omega) _ hI (by omega) hsz).mono ?_)
   rintro e W1 ⟨rfl,h1,b1,_⟩
   go_wp2
   go_roundw
   case rel=>
    refine ⟨k+1,by omega,by go_num,?_,hbw.trans b1,Afr hsz b1.size⟩;rw [Hn.out,Lib.byteCells_append,←SR,Lib.byteCells_encodeRune];exact Or.inr h1
   case measure=>simp [intOf];omega
  ·have Hk:=Afj (show s.data.toList.take k=s.data.toList from List.take_of_length_le (by rw [←Ae];omega));go_wp2_with (go_at_call 86;refine (CE w.heap.size w.heap.size _ _ hI hsz).mono ?_)
   rintro e W1 ⟨rfl,_,b1,_⟩
   go_wp2
   go_ret;exact ⟨ZP (by rw [Hk.out];rfl),hbw.trans b1⟩
end
section
structure Lv where
 op:Nat
 num:Nat
 brs:List Nd
 pcs:List Nd
structure ES where
 pos:Nat
 groups:Nat
 closed:List Int
 marks:List (Nat × Nat)
 inner:Lv
 outer:List Lv
def ES.st (e:ES):ReSt:=⟨e.pos,e.groups,e.closed,e.marks⟩
def ES.at (e:ES) (st:ReSt) (l:List Nd):ES:={ e with pos:=st.pos,groups:=st.opened,closed:=st.closed,marks:=st.marks,inner:={ e.inner with pcs:=l } }
def ES.lv (e:ES) (st:ReSt) (b l:List Nd):ES:={ e with pos:=st.pos,groups:=st.opened,closed:=st.closed,marks:=st.marks,inner:={ e.inner with brs:=b,pcs:=l } }
def A1 (l:List Nd):Bool:=match l.getLast? with
 | none=>true
 | some .start=>true
 | some .fin=>true
 | some _=>false
def Lv.whole (v:Lv):Nd:=Co (v.brs++[B0 v.pcs])
def ES.add (e:ES) (k:Nat) (d:Nd):ES:=e.at (e.st.to k) (e.inner.pcs++[d])
def Ce (s:List UInt8) (k:Nat):Bool:=chAt s k 42 || chAt s k 43 || chAt s k 63 || chAt s k 123
def Ao (s:List UInt8) (e:ES):Except (Nat × Nat) ES:=
 if chAt s e.pos 124 then .ok (e.lv (e.st.to (e.pos+1)) (e.inner.brs++[B0 e.inner.pcs]) [])
 else if chAt s e.pos 40 then (if e.outer.length=12 then .error (4,e.pos) else .ok { e with pos:=e.pos+1,groups:=e.groups+1,outer:=e.outer++[e.inner],inner:=⟨e.pos,e.groups+1,[],[]⟩ })
 else if chAt s e.pos 41 then (match e.outer.getLast? with
  | none=>.error (8,e.pos)
  | some v=>.ok { e with pos:=e.pos+1,closed:=e.closed++[(e.inner.num:Int)],outer:=e.outer.dropLast,inner:={ v with pcs:=v.pcs++[.group (e.inner.num:Int) e.inner.whole] } })
 else if chAt s e.pos 94 then .ok (e.add (e.pos+1) .start)
 else if chAt s e.pos 36 then .ok (e.add (e.pos+1) .fin)
 else if Ce s e.pos then (if A1 e.inner.pcs then .error (10,e.pos) else match repAt true s e.pos with
  | .some mn mx _ j=>.ok (e.at (e.st.to j) (e.inner.pcs.dropLast++[.rep (e.inner.pcs.getLastD .empty) mn mx]))
  | _=>.error (7,e.pos))
 else match Ba true s none e.st with
  | .error q=>.error q
  | .ok (st,d)=>.ok (e.at st (e.inner.pcs++[d]))
def OC (s:List UInt8):Nat→ES→Except (Nat × Nat) ES
 | 0,_=>.error (0,0)
 | n+1,e=>if s.length≤e.pos then (if e.outer.isEmpty then .ok e else .error (8,e.inner.op)) else match Ao s e with
  | .error q=>.error q
  | .ok e'=>OC s n e'
theorem Nc (s:List UInt8) (st st':ReSt) (d:Nd) (hl:st.pos < s.length) (h:Ba true s none st=.ok (st',d)):st.pos < st'.pos∧st'.pos≤s.length:=
 DA true s none (fun f hf=>by cases hf) st st' d hl h
theorem Aep {s:List UInt8} {k b:Nat} (h:chAt s k b=true):k+1≤s.length:=(BK h).1
theorem Ip (s:List UInt8) (e e':ES) (hl:e.pos < s.length) (h:Ao s e=.ok e'):e.pos < e'.pos∧e'.pos≤s.length:=by
 unfold Ao at h;split at h
 ·injection h with h;subst h;exact ⟨Nat.lt_succ_self _,hl⟩
 ·split at h
  ·split at h
   ·cases h
   ·injection h with h;subst h;exact ⟨Nat.lt_succ_self _,hl⟩
  ·split at h
   ·split at h
    ·cases h
    ·injection h with h;subst h;exact ⟨Nat.lt_succ_self _,hl⟩
   ·split at h
    ·injection h with h;subst h;exact ⟨Nat.lt_succ_self _,hl⟩
    ·split at h
     ·injection h with h;subst h;exact ⟨Nat.lt_succ_self _,hl⟩
     ·split at h
      ·split at h
       ·cases h
       ·split at h
        ·rename_i hr;injection h with h;subst h;exact Fm _ _ _ _ _ _ _ hr
        ·cases h
      ·split at h
       ·cases h
       ·rename_i st d ha;injection h with h;subst h;exact Nc s e.st st d hl ha
theorem TV (s:List UInt8):∀ (n m:Nat) (e:ES),e.pos≤s.length→s.length < n+e.pos→s.length < m+e.pos→OC s n e=OC s m e:=by
 intro n;induction n with
 | zero=>intro m e h0 h1;omega
 | succ n ih=>
  intro m e h0 h1 h2;obtain ⟨m,rfl⟩:∃ k,m=k+1:=⟨m - 1,by omega⟩;rw [OC,OC];split
  ·rfl
  ·rename_i hl;cases he:Ao s e with
   | error q=>rfl
   | ok e'=>
    have hm:=Ip s e e' (by omega) he;exact ih m e' hm.2 (by omega) (by omega)
def DM (s:List UInt8) (e:ES):Except (Nat × Nat) ES:=OC s (s.length+1) e
theorem BJ (s:List UInt8) (e:ES) (hl:e.pos < s.length):DM s e=(match Ao s e with
  | .error q=>.error q
  | .ok e'=>DM s e'):=by
 unfold DM;rw [OC,if_neg (by omega)];cases he:Ao s e with
 | error q=>rfl
 | ok e'=>
  have hm:=Ip s e e' hl he;exact TV s _ _ e' hm.2 (by omega) (by omega)
theorem Km (s:List UInt8) (e:ES) (hl:s.length≤e.pos):DM s e=(if e.outer.isEmpty then .ok e else .error (8,e.inner.op)):=by
 unfold DM;rw [OC,if_pos hl]
theorem E1 (l:List Nd) (d:Nd):A1 (l++[d])=(match d with | .start=>true | .fin=>true | _=>false):=by
 unfold A1;rw [List.getLast?_concat];cases d <;> rfl
theorem LE {l:List Nd} {d:Nd} (h:GU d=true):A1 (l++[d])=false:=by
 rw [E1];cases d <;> first | rfl | cases h
theorem ZQ {s:List UInt8} {k:Nat} (h:repAt true s k=.none):Ce s k=false:=by
 unfold repAt at h;unfold Ce;simp only [A5,if_true] at h;split at h
 ·cases h
 ·rename_i h1;split at h
  ·cases h
  ·rename_i h2;split at h
   ·cases h
   ·rename_i h3;split at h
    ·split at h <;> cases h
    ·rename_i h4;simp [h1,h2,h3,h4]
theorem Kn {s:List UInt8} {k:Nat} (h:repAt true s k≠.none):Ce s k=true:=by
 cases hs:Ce s k with
 | true=>rfl
 | false=>
  unfold Ce at hs;simp only [Bool.or_eq_false_iff] at hs;obtain ⟨⟨⟨h1,h2⟩,h3⟩,h4⟩:=hs;unfold repAt at h;simp only [A5,if_true] at h;rw [h1,h2,h3,h4] at h;simp at h
theorem Fw {s:List UInt8} {k:Nat} (h:Ce s k=true):k < s.length∧chAt s k 124=false∧chAt s k 40=false∧chAt s k 41=false∧chAt s k 94=false∧chAt s k 36=false:=by
 unfold Ce at h;simp only [Bool.or_eq_true] at h;rcases h with ((h | h) | h) | h
 all_goals
  have hb:=(BK h).2;exact ⟨(BK h).1,BF (by omega),BF (by omega),BF (by omega),BF (by omega),BF (by omega)⟩
theorem ZR (s:List UInt8):∀ (n:Nat) (st:ReSt) (d:Nd) (e:ES) (l:List Nd),st.pos≤s.length→s.length < n+st.pos→GU d=true→
  match D2 true s n st d with
  | .error q=>DM s (e.at st (l++[d]))=.error q
  | .ok (st',d')=>DM s (e.at st (l++[d]))=DM s (e.at st' (l++[d']))∧GU d'=true:=by
 intro n;induction n with
 | zero=>intro st d e l h1 h2;omega
 | succ n ih=>
  intro st d e l h1 h2 hr;rw [D2];have hstep:∀ (hne:repAt true s st.pos≠.none),Ao s (e.at st (l++[d]))=(match repAt true s st.pos with
    | .some mn mx _ j=>.ok (e.at (st.to j) (l++[.rep d mn mx]))
    | _=>.error (7,st.pos)):=by
   intro hne;have hs:=Kn hne;obtain ⟨_,k1,k2,k3,k4,k5⟩:=Fw hs;unfold Ao;rw [show (e.at st (l++[d])).pos=st.pos from rfl,k1,k2,k3,k4,k5,hs];simp only [Af2,if_false,if_true];rw [show (e.at st (l++[d])).inner.pcs=l++[d] from rfl,LE hr];simp only [Af2,if_false];rw [List.dropLast_concat,show (l++[d]).getLastD .empty=d by simp];rfl
  cases hra:repAt true s st.pos with
  | none=>exact ⟨rfl,hr⟩
  | bad=>
   have hne:repAt true s st.pos≠.none:=by rw [hra];intro h;cases h
   have hs:=hstep hne;rw [hra] at hs;have hl:=(Fw (Kn hne)).1;simp only;rw [BJ s _ hl,hs]
  | some mn mx c j=>
   have hne:repAt true s st.pos≠.none:=by rw [hra];intro h;cases h
   have hs:=hstep hne;rw [hra] at hs;have hl:=(Fw (Kn hne)).1;obtain ⟨m1,m2⟩:=Fm _ _ _ _ _ _ _ hra;have hc:c=0:=by
    unfold repAt at hra;simp only [A5,if_true] at hra;split at hra
    ·injection hra with _ _ h _;exact h.symm
    ·split at hra
     ·injection hra with _ _ h _;exact h.symm
     ·split at hra
      ·injection hra with _ _ h _;exact h.symm
      ·split at hra
       ·split at hra
        ·cases hra
        ·injection hra with _ _ h _;exact h.symm
       ·cases hra
   have:=ih (st.to j) (.rep d mn mx) e l m2 (by show _ < n+j;omega) rfl;simp only;rw [if_pos hc];rw [BJ s _ (show (e.at st (l++[d])).pos < _ from hl),hs];exact this
def CY (s:List UInt8):Nat→Option (ReSt→ReRes (ReSt × Nd))
 | 0=>none
 | k+1=>some (Cs true s k)
theorem Adg (s:List UInt8) (k:Nat) (st:ReSt):Cs true s k st=At true s (CY s k) false (s.length+1) st []:=by cases k <;> rfl
theorem Ko (s:List UInt8) (k:Nat):Dj s (CY s k)∧Hy (CY s k):=by
 cases k with
 | zero=>exact ⟨fun f hf=>(by cases hf),fun f hf=>(by cases hf)⟩
 | succ k=>exact Cx true s k
def WV (s:List UInt8) (k:Nat):Prop:=∀ (n:Nat) (e:ES),e.pos≤s.length→s.length < n+e.pos→e.outer.length+k=12→e.inner.pcs=[]→
 match At true s (CY s k) false n e.st e.inner.brs with
 | .error q=>DM s e=.error q
 | .ok (st',d)=>∃ b p,Co (b++[B0 p])=d∧DM s e=DM s (e.lv st' b p)∧(s.length≤st'.pos∨chAt s st'.pos 41=true)∧st'.pos≤s.length
theorem WW (s:List UInt8) (k:Nat) (hC:∀ j,k=j+1→WV s j) (e:ES) (hl:e.pos < s.length) (hk:e.outer.length+k=12) (h124:chAt s e.pos 124=false) (h41:chAt s e.pos 41=false) (h94:chAt s e.pos 94=false) (h36:chAt s e.pos 36=false) (hs:Ce s e.pos=false) :
  match Ba true s (CY s k) e.st with
  | .error q=>DM s e=.error q
  | .ok (st',d)=>DM s e=DM s (e.at st' (e.inner.pcs++[d])):=by
 by_cases h40:chAt s e.pos 40=true
 ·have ha:Ba true s (CY s k) e.st=F6 true s (CY s k) e.st:=by
   unfold Ba;rw [show A5 true s e.st.pos 40=true from h40];rfl
  rw [ha,BJ s e hl];unfold F6;have hst:Ao s e=(if e.outer.length=12 then .error (4,e.pos) else .ok { e with pos:=e.pos+1,groups:=e.groups+1,outer:=e.outer++[e.inner],inner:=⟨e.pos,e.groups+1,[],[]⟩ }):=by
   unfold Ao;rw [h124,h40];rfl
  rw [hst];cases k with
  | zero=>rw [if_pos (by omega)];rfl
  | succ j=>
   rw [if_neg (by omega)];simp only [CY];have hR:=hC j rfl (s.length+1) { e with pos:=e.pos+1,groups:=e.groups+1,outer:=e.outer++[e.inner],inner:=⟨e.pos,e.groups+1,[],[]⟩ } hl (by show _ < _+(e.pos+1);omega) (by show (e.outer++[e.inner]).length+j=12;rw [Afs,List.length_singleton];omega) rfl;have hreg:Cs true s j { e.st with pos:=e.st.pos+AZ true,opened:=e.st.opened+1 }=At true s (CY s j) false (s.length+1) (⟨e.pos+1,e.groups+1,e.closed,e.marks⟩:ReSt) []:=Adg s j _;rw [hreg];have hR':(match At true s (CY s j) false (s.length+1) (⟨e.pos+1,e.groups+1,e.closed,e.marks⟩:ReSt) [] with
    | .error q=>DM s { e with pos:=e.pos+1,groups:=e.groups+1,outer:=e.outer++[e.inner],inner:=⟨e.pos,e.groups+1,[],[]⟩ }=.error q
    | .ok (st',d)=>∃ b p,Co (b++[B0 p])=d∧DM s { e with pos:=e.pos+1,groups:=e.groups+1,outer:=e.outer++[e.inner],inner:=⟨e.pos,e.groups+1,[],[]⟩ }=DM s (({ e with pos:=e.pos+1,groups:=e.groups+1,outer:=e.outer++[e.inner],inner:=⟨e.pos,e.groups+1,[],[]⟩ }:ES).lv st' b p)∧(s.length≤st'.pos∨chAt s st'.pos 41=true)∧st'.pos≤s.length):=hR
   clear hR hreg;cases hc:At true s (CY s j) false (s.length+1) (⟨e.pos+1,e.groups+1,e.closed,e.marks⟩:ReSt) [] with
   | error q=>rw [hc] at hR';exact hR'
   | ok q=>
    obtain ⟨st',d⟩:=q;rw [hc] at hR';obtain ⟨b,p,hd,he,hend,hle⟩:=hR';simp only;rw [he];cases h41':A5 true s st'.pos 41 with
    | true=>
     have c41:chAt s st'.pos 41=true:=h41';have hlt:st'.pos < s.length:=(BK c41).1;rw [if_pos rfl,BJ s _ (show st'.pos < s.length from hlt)];have hs2:Ao s (({ e with pos:=e.pos+1,groups:=e.groups+1,outer:=e.outer++[e.inner],inner:=⟨e.pos,e.groups+1,[],[]⟩ }:ES).lv st' b p)=.ok (e.at { st' with pos:=st'.pos+AZ true,closed:=st'.closed++[(e.st.opened:Int)+1] } (e.inner.pcs++[.group ((e.st.opened:Int)+1) d])):=by
      unfold Ao;rw [show (({ e with pos:=e.pos+1,groups:=e.groups+1,outer:=e.outer++[e.inner],inner:=⟨e.pos,e.groups+1,[],[]⟩ }:ES).lv st' b p).pos=st'.pos from rfl,BF (show byt s st'.pos≠124 by rw [(BK c41).2];decide),BF (show byt s st'.pos≠40 by rw [(BK c41).2];decide),c41];simp only [Af2,if_false,if_true];rw [show (({ e with pos:=e.pos+1,groups:=e.groups+1,outer:=e.outer++[e.inner],inner:=⟨e.pos,e.groups+1,[],[]⟩ }:ES).lv st' b p).outer=e.outer++[e.inner] from rfl,List.getLast?_concat,List.dropLast_concat];simp only;rw [←hd];rfl
     rw [hs2]
    | false=>
     rw [if_neg (by decide)];have hlen:s.length≤st'.pos:=by
      rcases hend with h | h
      ·exact h
      ·rw [show chAt s st'.pos 41=false from h41'] at h;cases h
     simp only;rw [Km s _ (show s.length≤st'.pos from hlen)];have:(e.outer++[e.inner]).isEmpty=false:=by cases e.outer <;> rfl
     show (if (e.outer++[e.inner]).isEmpty=true then _ else _)=_;rw [this];rfl
 ·have h40':chAt s e.pos 40=false:=by simpa using h40
  have ha:Ba true s (CY s k) e.st=Ba true s none e.st:=by
   unfold Ba;rw [show A5 true s e.st.pos 40=false from h40'];rfl
  rw [ha,BJ s e hl];have hst:Ao s e=(match Ba true s none e.st with
    | .error q=>.error q
    | .ok (st,d)=>.ok (e.at st (e.inner.pcs++[d]))):=by
   unfold Ao;rw [h124,h40',h41,h94,h36,hs];rfl
  rw [hst];cases Ba true s none e.st with
  | error q=>rfl
  | ok q=>rfl
theorem QD (s:List UInt8) (k:Nat) (hC:∀ j,k=j+1→WV s j) (begin:Nat):∀ (n:Nat) (e:ES),e.pos≤s.length→s.length < n+e.pos→e.outer.length+k=12→(A1 e.inner.pcs=true∨repAt true s e.pos=.none)→
  match branchM true s (CY s k) false begin n e.st e.inner.pcs (A1 e.inner.pcs) with
  | .error q=>DM s e=.error q
  | .ok (st',d)=>∃ p,B0 p=d∧DM s e=DM s (e.at st' p):=by
 intro n;induction n with
 | zero=>intro e h1 h2;omega
 | succ n ih=>
  intro e h1 h2 hk hf;have hpos:e.st.pos=e.pos:=rfl;rw [branchM,hpos];by_cases hend:(decide (s.length≤e.pos) || A5 true s e.pos 124 || (A5 true s e.pos 41 && !false))=true
  ·rw [if_pos hend];exact ⟨e.inner.pcs,rfl,rfl⟩
  ·rw [if_neg hend];simp only [Bool.or_eq_true,decide_eq_true_eq,Bool.not_false,Bool.and_true,not_or,Bool.not_eq_true] at hend;obtain ⟨⟨hlt,h124⟩,h41⟩:=hend;have hl:e.pos < s.length:=by omega
   have c124:chAt s e.pos 124=false:=h124;have c41:chAt s e.pos 41=false:=h41;by_cases h94:chAt s e.pos 94=true
   ·rw [if_pos (by rw [h94];rfl)];have hst:Ao s e=.ok (e.add (e.pos+1) .start):=by
     unfold Ao;rw [c124,BF (show byt s e.pos≠40 by rw [(BK h94).2];decide),c41,h94];rfl
    have hi:=ih (e.add (e.pos+1) .start) hl (by show _ < n+(e.pos+1);omega) hk (.inl (E1 _ _));rw [BJ s e hl,hst];rw [show (e.add (e.pos+1) .start).inner.pcs=e.inner.pcs++[.start] from rfl,E1] at hi;exact hi
   ·have c94:chAt s e.pos 94=false:=by simpa using h94
    rw [if_neg (by rw [c94];simp)];by_cases h36:chAt s e.pos 36=true
    ·rw [if_pos (by rw [h36];rfl)];have hst:Ao s e=.ok (e.add (e.pos+1) .fin):=by
      unfold Ao;rw [c124,BF (show byt s e.pos≠40 by rw [(BK h36).2];decide),c41,c94,h36];rfl
     have hi:=ih (e.add (e.pos+1) .fin) hl (by show _ < n+(e.pos+1);omega) hk (.inl (E1 _ _));rw [BJ s e hl,hst];rw [show (e.add (e.pos+1) .fin).inner.pcs=e.inner.pcs++[.fin] from rfl,E1] at hi;exact hi
    ·have c36:chAt s e.pos 36=false:=by simpa using h36
     rw [if_neg (by rw [c36];simp)];have hsg:(A5 true s e.pos 123 || A5 true s e.pos 43 || A5 true s e.pos 63 || (true && chAt s e.pos 42))=Ce s e.pos:=by
      unfold Ce;simp only [A5,if_true,Bool.true_and];cases chAt s e.pos 123 <;> cases chAt s e.pos 43 <;> cases chAt s e.pos 63 <;> cases chAt s e.pos 42 <;> rfl
     rw [hsg];by_cases hfr:(A1 e.inner.pcs && Ce s e.pos)=true
     ·rw [if_pos hfr];rw [Af9] at hfr;have hst:Ao s e=.error (10,e.pos):=by
       obtain ⟨_,k1,k2,k3,k4,k5⟩:=Fw hfr.2;unfold Ao;rw [k1,k2,k3,k4,k5,hfr.2,hfr.1];rfl
      rw [BJ s e hl,hst]
     ·rw [if_neg hfr];have hns:Ce s e.pos=false:=by
       rcases hf with hf | hf
       ·rw [hf,Bool.true_and] at hfr;simpa using hfr
       ·exact ZQ hf
      have hat:=WW s k hC e hl hk c124 c41 c94 c36 hns;cases ha:Ba true s (CY s k) e.st with
      | error q=>rw [ha] at hat;exact hat
      | ok q=>
       obtain ⟨st1,d1⟩:=q;rw [ha] at hat
       simp only at hat ⊢;have m1:=DA true s (CY s k) (Ko s k).1 e.st st1 d1 hl ha;obtain ⟨_,hir,_⟩:=Fp true s (CY s k) (Ko s k).2 _ _ _ ha;have hrr:=ZR s (s.length+1) st1 d1 e e.inner.pcs m1.2 (by omega) hir;cases hr:D2 true s (s.length+1) st1 d1 with
       | error q=>rw [hr] at hrr;rw [hat];exact hrr
       | ok q=>
        obtain ⟨st2,d2⟩:=q;rw [hr] at hrr;obtain ⟨hrr,hir2⟩:=hrr;have m2:=Fo true s _ _ _ _ _ m1.2 hr;have hfz:A1 (e.inner.pcs++[d2])=false:=LE hir2;have hi:=ih (e.at st2 (e.inner.pcs++[d2])) m2.2 (by show _ < n+st2.pos;have:e.st.pos=e.pos:=rfl;omega) hk (.inr (N6 true s _ _ _ _ _ hr));rw [show (e.at st2 (e.inner.pcs++[d2])).inner.pcs=e.inner.pcs++[d2] from rfl,hfz] at hi;rw [hat,hrr];exact hi
theorem Kq (s:List UInt8) (k:Nat) (hC:∀ j,k=j+1→WV s j):WV s k:=by
 intro n;induction n with
 | zero=>intro e h1 h2;omega
 | succ n ih=>
  intro e h1 h2 hk hp;rw [At];have hb:=QD s k hC e.st.pos (s.length+1) e h1 (by omega) hk (.inl (by rw [hp];rfl));rw [hp] at hb;cases hbr:branchM true s (CY s k) false e.st.pos (s.length+1) e.st [] true with
  | error q=>rw [show A1 []=true from rfl,hbr] at hb;exact hb
  | ok q=>
   obtain ⟨st1,d1⟩:=q;rw [show A1 []=true from rfl,hbr] at hb;obtain ⟨p,hd,he⟩:=hb;have m1:=Gh true s (CY s k) (Ko s k).1 false e.st.pos _ _ _ _ _ _ h1 hbr;simp only;cases h124:A5 true s st1.pos 124 with
   | true=>
    have c124:chAt s st1.pos 124=true:=h124;have hst:Ao s (e.at st1 p)=.ok (e.lv (st1.to (st1.pos+1)) (e.inner.brs++[d1]) []):=by
     unfold Ao;rw [show (e.at st1 p).pos=st1.pos from rfl,c124];show Except.ok _=Except.ok _;rw [←hd];rfl
    have hi:=ih (e.lv (st1.to (st1.pos+1)) (e.inner.brs++[d1]) []) (Aep c124) (by show _ < n+(st1.pos+1);have:e.st.pos=e.pos:=rfl;omega) hk rfl;rw [if_pos rfl,he,BJ s _ (show st1.pos < _ from (BK c124).1),hst];exact hi
   | false=>
    rw [if_neg (by decide)];refine ⟨e.inner.brs,p,by rw [hd],he,?_,m1.2⟩;rcases NW true s (CY s k) e.st.pos _ _ _ _ _ _ hbr with h | h | h
    ·exact .inl h
    ·rw [h124] at h;cases h
    ·exact .inr h
theorem ZS (s:List UInt8):∀ k,WV s k:=by
 intro k;induction k with
 | zero=>exact Kq s 0 (fun j hj=>by omega)
 | succ k ih=>exact Kq s (k+1) (fun j hj=>by obtain rfl:k=j:=Nat.succ.inj hj;exact ih)
def F3:ES:=⟨0,0,[],[],⟨0,0,[],[]⟩,[]⟩
theorem TW (s:List UInt8) (hl:s.length≤250) :
  match AU true s with
  | .error q=>DM s F3=.error q
  | .ok (st,d)=>∃ e,DM s F3=.ok e∧e.inner.whole=d∧e.marks=st.marks:=by
 rw [GB true s hl];have hR:=ZS s 12 (s.length+1) F3 (Nat.zero_le _) (by show _ < _+0;omega) rfl rfl;have hc:At true s (CY s 12) false (s.length+1) F3.st F3.inner.brs=At true s (some (Cs true s 11)) false (s.length+1) Ep []:=rfl;rw [hc] at hR;cases h:At true s (some (Cs true s 11)) false (s.length+1) Ep [] with
 | error q=>rw [h] at hR;exact hR
 | ok q=>
  obtain ⟨st,d⟩:=q;rw [h] at hR;obtain ⟨b,p,hd,he,hend,hle⟩:=hR;unfold F1;simp only;cases h41:A5 true s st.pos 41 with
  | true=>
   have c41:chAt s st.pos 41=true:=h41;rw [if_pos rfl];simp only;rw [he,BJ s _ (show st.pos < _ from (BK c41).1)];have hst:Ao s (F3.lv st b p)=.error (8,st.pos):=by
    unfold Ao;rw [show (F3.lv st b p).pos=st.pos from rfl,BF (show byt s st.pos≠124 by rw [(BK c41).2];decide),BF (show byt s st.pos≠40 by rw [(BK c41).2];decide),c41];rfl
   rw [hst]
  | false=>
   rw [if_neg (by decide)];simp only;have hlen:s.length≤st.pos:=by
    rcases hend with h | h
    ·exact h
    ·rw [show chAt s st.pos 41=false from h41] at h;cases h
   refine ⟨F3.lv st b p,?_,hd,rfl⟩;rw [he,Km s _ (show s.length≤st.pos from hlen)];rfl
end
section
def LvOk (k:Nat) (v:Lv):Prop:=v.pcs.all inCat=true∧v.brs.all inAlt=true∧v.pcs.length≤k∧v.brs.length≤k∧v.num≤k
theorem LvOk.up {k j:Nat} {v:Lv} (h:LvOk k v) (hj:k≤j):LvOk j v:=⟨h.1,h.2.1,Afr h.2.2.1 hj,Afr h.2.2.2.1 hj,Afr h.2.2.2.2 hj⟩
structure EOk (s:List UInt8) (e:ES):Prop where
 pos:e.pos≤s.length
 inner:LvOk e.pos e.inner
 outer:∀ v∈e.outer,LvOk e.pos v
 marks:e.marks.length≤e.pos
 groups:e.groups≤e.pos
 deep:e.outer.length≤12
 closed:e.closed.length≤e.pos
theorem ZT (s:List UInt8):EOk s F3:=⟨Nat.zero_le _,⟨rfl,rfl,Afq _,Afq _,Afq _⟩,fun _ h=>(by cases h),Afq _,Afq _,Nat.zero_le _,Afq _⟩
theorem Kr (l:List Nd) (h:l.all inCat=true):inAlt (B0 l)=true:=by
 unfold B0;rw [EW l h];rcases l with _ | ⟨x,_ | ⟨y,ys⟩⟩
 ·rfl
 ·rw [List.all_cons,Af9] at h;exact Sc h.1
 ·rfl
theorem LvOk.add {k j:Nat} {v:Lv} {d:Nd} (h:LvOk k v) (hd:inCat d=true) (hj:k < j):LvOk j { v with pcs:=v.pcs++[d] }:=
 ⟨BR h.1 hd,h.2.1,by show (v.pcs++[d]).length≤j;rw [Afs];have:=h.2.2.1;simp;omega,by show v.brs.length≤j;have:=h.2.2.2.1;omega,by show v.num≤j;have:=h.2.2.2.2;omega⟩
theorem LvOk.end {k j:Nat} {v:Lv} (h:LvOk k v) (hj:k < j):LvOk j { v with brs:=v.brs++[B0 v.pcs],pcs:=[] }:=
 ⟨rfl,BR h.2.1 (Kr _ h.1),Nat.zero_le _,by show (v.brs++[B0 v.pcs]).length≤j;rw [Afs];have:=h.2.2.2.1;simp;omega,by show v.num≤j;have:=h.2.2.2.2;omega⟩
theorem LvOk.rep {k j:Nat} {v:Lv} {mn mx:Int} (h:LvOk k v) (hj:k < j):LvOk j { v with pcs:=v.pcs.dropLast++[.rep (v.pcs.getLastD .empty) mn mx] }:=by
 refine ⟨BR ?_ rfl,h.2.1,?_,?_,?_⟩
 ·have:=h.1;rw [List.all_eq_true] at this ⊢;exact fun x hx=>this x (List.dropLast_subset _ hx)
 ·show (v.pcs.dropLast++[_]).length≤j;rw [Afs,List.length_dropLast];have:=h.2.2.1;simp;omega
 ·show v.brs.length≤j;have:=h.2.2.2.1;omega
 ·show v.num≤j;have:=h.2.2.2.2;omega
theorem IA (s:List UInt8) (st st':ReSt) (d:Nd) (h:Ba true s none st=.ok (st',d)):st'.opened=st.opened:=by
 unfold Ba at h;split at h
 ·unfold F6 at h;cases h
 ·split at h
  ·cases h
  ·split at h
   ·split at h
    ·injection h with h;injection h with h1 _;subst h1;rfl
    ·cases h
   ·split at h
    ·injection h with h;injection h with h1 _;subst h1;rfl
    ·split at h
     ·split at h
      ·unfold Dt at h;split at h
       ·split at h
        ·injection h with h;injection h with h1 _;subst h1;rfl
        ·cases h
       ·split at h
        ·cases h
        ·rename_i x m _;injection h with h;injection h with h1 _;subst h1;cases m <;> rfl
      ·cases h
     ·injection h with h;injection h with h1 _;subst h1;rfl
theorem IB (s:List UInt8) (st st':ReSt) (d:Nd) (h:Ba true s none st=.ok (st',d)):st'.closed=st.closed:=by
 unfold Ba at h;split at h
 ·unfold F6 at h;cases h
 ·split at h
  ·cases h
  ·split at h
   ·split at h
    ·injection h with h;injection h with h1 _;subst h1;rfl
    ·cases h
   ·split at h
    ·injection h with h;injection h with h1 _;subst h1;rfl
    ·split at h
     ·split at h
      ·unfold Dt at h;split at h
       ·split at h
        ·injection h with h;injection h with h1 _;subst h1;rfl
        ·cases h
       ·split at h
        ·cases h
        ·rename_i x m _;injection h with h;injection h with h1 _;subst h1;cases m <;> rfl
      ·cases h
     ·injection h with h;injection h with h1 _;subst h1;rfl
theorem WX (s:List UInt8) (e e':ES) (h:EOk s e) (hl:e.pos < s.length) (hs:Ao s e=.ok e'):EOk s e':=by
 obtain ⟨hm,hp⟩:=Ip s e e' hl hs;unfold Ao at hs;split at hs
 ·injection hs with hs;subst hs;exact ⟨hp,h.inner.end hm,fun v hv=>(h.outer v hv).up (Afu hm),Afr h.marks (Afu hm),Afr h.groups (Afu hm),h.deep,Afr h.closed (Afu hm)⟩
 ·split at hs
  ·split at hs
   ·cases hs
   ·rename_i h12;injection hs with hs;subst hs;refine ⟨hp,⟨rfl,rfl,Nat.zero_le _,Nat.zero_le _,Nat.succ_le_succ h.groups⟩,fun v hv=>?_,Afr h.marks (Afu hm),Nat.succ_le_succ h.groups,?_,Afr h.closed (Afu hm)⟩
    ·rcases Af1.1 hv with hv | hv
     ·exact (h.outer v hv).up (Afu hm)
     ·rw [List.mem_singleton] at hv;subst hv;exact h.inner.up (Afu hm)
    ·show (e.outer++[e.inner]).length≤12;rw [Afs,List.length_singleton];have:=h.deep;omega
  ·split at hs
   ·split at hs
    ·cases hs
    ·rename_i v hv;injection hs with hs;subst hs;have hmem:v∈e.outer:=List.mem_of_getLast? hv;refine ⟨hp,(h.outer v hmem).add rfl hm,fun u hu=>(h.outer u (List.dropLast_subset _ hu)).up (Afu hm),Afr h.marks (Afu hm),Afr h.groups (Afu hm),?_,?_⟩
     ·show e.outer.dropLast.length≤12;rw [List.length_dropLast];have:=h.deep;omega
     ·show (e.closed++[(e.inner.num:Int)]).length≤e.pos+1;rw [Afs,List.length_singleton];have:=h.closed;omega
   ·split at hs
    ·injection hs with hs;subst hs;exact ⟨hp,h.inner.add rfl hm,fun v hv=>(h.outer v hv).up (Afu hm),Afr h.marks (Afu hm),Afr h.groups (Afu hm),h.deep,Afr h.closed (Afu hm)⟩
    ·split at hs
     ·injection hs with hs;subst hs;exact ⟨hp,h.inner.add rfl hm,fun v hv=>(h.outer v hv).up (Afu hm),Afr h.marks (Afu hm),Afr h.groups (Afu hm),h.deep,Afr h.closed (Afu hm)⟩
     ·split at hs
      ·split at hs
       ·cases hs
       ·split at hs
        ·injection hs with hs;subst hs;exact ⟨hp,h.inner.rep hm,fun v hv=>(h.outer v hv).up (Afu hm),Afr h.marks (Afu hm),Afr h.groups (Afu hm),h.deep,Afr h.closed (Afu hm)⟩
        ·cases hs
      ·split at hs
       ·cases hs
       ·rename_i st d ha;injection hs with hs;subst hs;have hmk:=Oa true s none (fun f hf=>(by cases hf)) (fun f hf=>(by cases hf)) e.st st d hl ha;obtain ⟨_,_,hic⟩:=Fp true s none (fun f hf=>by cases hf) _ _ _ ha;have hop:st.opened=e.groups:=IA s e.st st d ha;refine ⟨hp,h.inner.add hic hm,fun v hv=>(h.outer v hv).up (Afu hm),?_,?_,h.deep,?_⟩
        ·show st.marks.length≤st.pos;unfold Po at hmk;have h1:=h.marks;have h2:e.st.pos=e.pos:=rfl;have h3:e.st.marks=e.marks:=rfl;rw [h2,h3] at hmk;omega
        ·show st.opened≤st.pos;rw [hop];have:=h.groups;have hm':e.pos < st.pos:=hm;omega
        ·show st.closed.length≤st.pos;rw [IB s e.st st d ha];have:=h.closed;have hm':e.pos < st.pos:=hm;show e.closed.length≤st.pos;omega
end
end Go.Proofs.YtnognicabhgmcaaGreatDoor
