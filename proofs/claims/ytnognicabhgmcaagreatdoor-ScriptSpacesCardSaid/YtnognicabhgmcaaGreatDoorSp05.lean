/- Texts. -/
import Derived.Test.YtnognicabhgmcaaGreatDoorSp04
import Derived.Deep.RegionHeld
import Derived.Laws.Rows
import Derived.Deep.MidRow
import Derived.Laws.Tables
import Derived.Laws.CopyOwn
import Derived.Laws.Runes
import Derived.Shelf.Small.Utf8
import Derived.WalkMore
import Derived.RangeFuncBound
import Derived.RangeFuncCalls
import Derived.Shelf.Abstract
import Derived.Shelf.RegionOpen
import Derived.OwnWalkIn
import Derived.TacticsInMore
import Derived.LoopNIn
import Derived.LoopIn
import Derived.Sort.LoopGhostIn
import Derived.Sort.CutIn
import Derived.Maps.OwnIn
import Derived.ProofKit
import Derived.OpenShut
import Derived.Lib.LaidTab
import Derived.Deep.RegionWith
set_option linter.unusedSimpArgs false
set_option linter.unusedVariables false
set_option maxHeartbeats 8000000
set_option maxRecDepth 1000000
namespace Go.Proofs.YtnognicabhgmcaaGreatDoor
open Go.Lib renaming hid→Afj
open Nat renaming le_refl→Afq,le_trans→Afr,lt_of_lt_of_le→Aft,le_of_lt→Afu
open List renaming length_append→Afs,mem_cons→Afz,length_drop→Af3,getD_eq_getElem?_getD→Af7
open Go.RowKit.Below renaming refl→Afv,heap_setCell→Afw,setCell→Aga,drew→Agb,alloc→Agc
open Go.IntWalk renaming i64_in→Afx
open Go.World renaming cell?_of_block→Afy
open _root_.Array renaming getElem?_eq_some_iff→Af6
open Bool renaming and_eq_true→Af9
open Go.Proofs.Tryz
section
open Go Go.RowKit
def TrO (F:Nat→Prop) (w:World):Option Nd→Value→Prop
 | none,v=>v=.nilIface
 | some d,v=>NdX F w d v
theorem TrO.keep {F G:Nat→Prop} {w w':World} (hs:w.heap.size≤w'.heap.size) (hF:∀ b,F b→b < w.heap.size→G b∧∀ o,w'.cell? ⟨b,o,none⟩=w.cell? ⟨b,o,none⟩):∀ {t:Option Nd} {v:Value},TrO F w t v→TrO G w' t v
 | none,_,h=>h
 | some _,_,h=>NdX.keep hs hF h
theorem TrO.below {F:Nat→Prop} {w w':World} (hb:Below w.heap.size w w'):∀ {t:Option Nd} {v:Value},TrO F w t v→TrO F w' t v
 | none,_,h=>h
 | some _,_,h=>NdX.below hb h
theorem TrO.shape {F:Nat→Prop} {w:World}:∀ {t:Option Nd} {v:Value},TrO F w t v→(∃ T q,v=.iface T q)∨v=.nilIface
 | none,_,h=>.inr h
 | some _,_,h=>h.elim fun _ k=>Ay k
theorem Fe {ext:Bool} {L:List UInt8} {b:Nat} {d:UInt8} {q:Nat × Nat} (h:An ext L b d=.error q):q.1≠0:=by
 unfold An at h;simp only at h;split at h
 ·split at h
  ·injection h with h;subst h;simp
  ·split at h
   ·rename_i he;injection h with h;have hq:=I4 he;rw [←h];exact hq
   ·cases h
 ·rename_i he;injection h with h;subst h;exact he
def IX (w:World) (r:BO Adr) (e:Ending) (w':World):Prop:=Below w.heap.size w w'∧match r with
 | .error q=>e=.returned (.tuple #[.agg #[.int .i64 0,.int .i64 0,.string ⟨#[]⟩,.nilIface],.slice none 0 0,.int .i64 (q.2:Int),.int .i64 (q.1:Int)])
 | .ok q=>∃ tv ma mc,e=.returned (.tuple #[.agg #[.int .i64 (q.1.kind:Int),.int .i64 (q.1.line:Int),.string (txt q.1.text),tv],.slice ma q.2.1.length mc,.int .i64 (q.2.2:Int),.int .i64 0])∧
  TrO (fun b=>w.heap.size≤b∧(Value.slice ma q.2.1.length mc).ownBlock≠some b) w' q.1.tree tv∧w'.ownsRow w.heap.size 33 2 (.slice ma q.2.1.length mc) q.2.1.length (wmC q.2.1)
abbrev Gv:Array Value:=#[.int .i64 0,.int .i64 0,.string ⟨#[]⟩,.nilIface]
theorem U1 (s:ByteArray) (k:Nat) (w:World) (hs:s.size≤4000000) (hk:k≤s.size) :
  Calls prog 60 #[.string s,.int .i64 (k:Int)] w (IX w (CK s.data.toList k)):=by
 have hA:=(Afv w.heap.size w).alloc (Afq _) (.cells Gv 47);have hR0:=Blk.new w Gv 47 w.heap.size rfl;obtain ⟨W,hW⟩:∃ W,w.alloc (.cells Gv 47)=W:=⟨_,rfl⟩;rw [hW] at hA hR0;have hnm:=G8 s k W hs hk;obtain ⟨⟨n,p,e0⟩,hR⟩:∃ R,B9 s.data.toList k=R:=⟨_,rfl⟩;rw [hR] at hnm;unfold CK;rw [hR];have hnm:Calls prog 81 #[.string s,.int .i64 k] W fun e w'=>e=.returned (.tuple #[.int .i64 (n:Int),.int .i64 (p:Int),.int .i64 (e0:Int)])∧Below W.heap.size W w':=hnm
 have HA:=Afj hA;have HR0:=Afj hR0;clear hR hA hR0;obtain ⟨z0,z1,z2,z3,v0,v1,v2,v3,hz⟩:=Bj HR0.out;simp only;by_cases he:e0=0
 ·subst he;rw [if_pos rfl];by_cases hn:n=0
  ·subst hn;rw [if_pos rfl];go_enter func60,ntmps60;go_wp2_with (go_at_call 81;refine hnm.mono ?_;clear hnm;rintro e w1 ⟨rfl,b1⟩;have B1:=Afj (HA.out.trans (b1.mono HA.out.size));have K1:=Afj (HR0.out.below b1 HR0.out.lt);clear b1 z0 z1 z2 z3 v0 v1 v2 v3 hz;obtain ⟨z0,z1,z2,z3,v0,v1,v2,v3,hz⟩:=Bj K1.out)
   first
    | (with_reducible refine Cy B1.out K1.out (Afq _) ?_;intro w9 hB9 hk9 hs9 hz9)
    | (have hB9:=B1.out;have hk9:=K1.out;generalize w1=w9 at *)
   clear z0 z1 z2 z3 v0 v1 v2 v3 hz;obtain ⟨z0,z1,z2,z3,_⟩:=Bj hk9;refine bodyPost_ret (v:=.tuple #[.agg Gv,.slice none 0 0,.int .i64 (k:Int),.int .i64 12]) (by simp [results,results60,go_sem,z0,z1,z2,z3]) rfl ?_;exact ⟨hB9,rfl⟩
  ·rw [if_neg hn];have hnn:((n:Int) == 0)=false:=by simp;omega
   clear hn;go_enter func60,ntmps60;go_wp2_with (go_at_call 81;refine hnm.mono ?_;clear hnm;rintro e w1 ⟨rfl,b1⟩;have B1:=Afj (HA.out.trans (b1.mono HA.out.size));have K1:=Afj (HR0.out.below b1 HR0.out.lt);clear b1 z0 z1 z2 z3 v0 v1 v2 v3 hz;obtain ⟨z0,z1,z2,z3,v0,v1,v2,v3,hz⟩:=Bj K1.out)
   with_reducible refine Cy B1.out K1.out (Afq _) ?_
   intro w9 hB9 hk9 hs9 hz9;clear z0 z1 z2 z3 v0 v1 v2 v3 hz;obtain ⟨z0,z1,z2,z3,_⟩:=Bj hk9;refine bodyPost_ret (v:=.tuple #[.agg #[.int .i64 1,.int .i64 (n:Int),.string ⟨#[]⟩,.nilIface],.slice none 0 0,.int .i64 (p:Int),.int .i64 0]) (by simp [results,results60,go_sem,z0,z1,z2,z3]) rfl ?_;exact ⟨hB9,.nilIface,none,0,rfl,rfl,World.ownsRow_nil _ _ _ _⟩
 ·rw [if_neg he];have hnn:((e0:Int) != 0)=true:=by simp;omega
  clear he;go_enter func60,ntmps60;go_wp2_with (go_at_call 81;refine hnm.mono ?_;clear hnm;rintro e w1 ⟨rfl,b1⟩;have B1:=Afj (HA.out.trans (b1.mono HA.out.size));have K1:=Afj (HR0.out.below b1 HR0.out.lt);clear b1 z0 z1 z2 z3 v0 v1 v2 v3 hz;obtain ⟨z0,z1,z2,z3,v0,v1,v2,v3,hz⟩:=Bj K1.out)
  first
   | (with_reducible refine Cy B1.out K1.out (Afq _) ?_;intro w9 hB9 hk9 hs9 hz9)
   | (have hB9:=B1.out;have hk9:=K1.out;generalize w1=w9 at *)
  clear z0 z1 z2 z3 v0 v1 v2 v3 hz;obtain ⟨z0,z1,z2,z3,_⟩:=Bj hk9;refine bodyPost_ret (v:=.tuple #[.agg Gv,.slice none 0 0,.int .i64 (p:Int),.int .i64 (e0:Int)]) (by simp [results,results60,go_sem,z0,z1,z2,z3]) rfl ?_;exact ⟨hB9,rfl⟩
theorem U2 (s:ByteArray) (k:Nat) (w:World) (hs:s.size≤4000000) (hk:k < s.size) :
  Calls prog 63 #[.string s,.int .i64 (k:Int)] w (IX w (CL s.data.toList k)):=by
 have hA:=(Afv w.heap.size w).alloc (Afq _) (.cells Gv 47);have hR0:=Blk.new w Gv 47 w.heap.size rfl;obtain ⟨W,hW⟩:∃ W,w.alloc (.cells Gv 47)=W:=⟨_,rfl⟩;rw [hW] at hA hR0;obtain ⟨k1,hk1⟩:∃ k1,k+1=k1:=⟨_,rfl⟩;have hnm:=G8 s k1 W hs (by omega);have Wk:IntKind.i64.wrap ((k:Int)+1)=(k1:Int):=by rw [Afx _ (by omega)];omega
 unfold CL;rw [hk1];obtain ⟨⟨n,p,e0⟩,hR⟩:∃ R,B9 s.data.toList k1=R:=⟨_,rfl⟩;rw [hR] at hnm ⊢;have hnm:Calls prog 81 #[.string s,.int .i64 k1] W fun e w'=>e=.returned (.tuple #[.int .i64 (n:Int),.int .i64 (p:Int),.int .i64 (e0:Int)])∧Below W.heap.size W w':=hnm
 have HA:=Afj hA;have HR0:=Afj hR0;clear hR hA hR0 hk1;obtain ⟨z0,z1,z2,z3,v0,v1,v2,v3,hz⟩:=Bj HR0.out;simp only;by_cases he:e0=0
 ·subst he;rw [if_pos rfl];go_enter func63,ntmps63;go_upto_region 4 with (go_at_call 81;refine hnm.mono ?_;clear hnm;rintro e w1 ⟨rfl,b1⟩;have B1:=Afj (HA.out.trans (b1.mono HA.out.size));have K1:=Afj (HR0.out.below b1 HR0.out.lt);clear b1 z0 z1 z2 z3 v0 v1 v2 v3 hz)
  have b2:=B1.out.alloc B1.out.size (.cells #[.int .i64 (k:Int),.string ⟨#[43]⟩] 33);have k2:=K1.out.alloc (.cells #[.int .i64 (k:Int),.string ⟨#[43]⟩] 33);have ho2:=World.ownsRow_lit (base:=w.heap.size) (size:=2) (e:=33) w1 #[.int .i64 (k:Int),.string ⟨#[43]⟩] 1 B1.out.size (by decide) rfl;have hlt:=K1.out.lt;obtain ⟨g,hg⟩:∃ g,w1.heap.size=g:=⟨_,rfl⟩;obtain ⟨W2,hW2⟩:∃ W2,w1.alloc (.cells #[.int .i64 (k:Int),.string ⟨#[43]⟩] 33)=W2:=⟨_,rfl⟩;rw [hW2] at b2 k2 ho2;rw [hg] at ho2 hlt;have HO:=Afj ho2;have B2:=Afj b2;have K2:=Afj k2;have Hlt:=Afj hlt;clear b2 k2 ho2 hlt;obtain ⟨z0,z1,z2,z3,v0,v1,v2,v3,hz⟩:=Bj K2.out;go_wp2_with fail
  with_reducible refine Cy B2.out K2.out (Afq _) ?_
  intro w9 hB9 hk9 hs9 hz9;clear z0 z1 z2 z3 v0 v1 v2 v3 hz;obtain ⟨z0,z1,z2,z3,_⟩:=Bj hk9;refine bodyPost_ret (v:=.tuple #[.agg #[.int .i64 4,.int .i64 (n:Int),.string ⟨#[]⟩,.nilIface],.slice (some ⟨g,0,none⟩) 1 1,.int .i64 (p:Int),.int .i64 0]) (by simp [results,results63,go_sem,z0,z1,z2,z3]) rfl ?_;refine ⟨hB9,.nilIface,_,_,rfl,rfl,Ab HO.out fun b hb=>hs9 b fun e=>?_⟩;have:some g=some b:=hb;injection this with this;have:=Hlt.out;omega
 ·rw [if_neg he];have hnn:((e0:Int) != 0)=true:=by simp;omega
  clear he;go_enter func63,ntmps63;go_wp2_with (go_at_call 81;refine hnm.mono ?_;clear hnm;rintro e w1 ⟨rfl,b1⟩;have B1:=Afj (HA.out.trans (b1.mono HA.out.size));have K1:=Afj (HR0.out.below b1 HR0.out.lt);clear b1 z0 z1 z2 z3 v0 v1 v2 v3 hz;obtain ⟨z0,z1,z2,z3,v0,v1,v2,v3,hz⟩:=Bj K1.out)
  first
   | (with_reducible refine Cy B1.out K1.out (Afq _) ?_;intro w9 hB9 hk9 hs9 hz9)
   | (have hB9:=B1.out;have hk9:=K1.out;generalize w1=w9 at *)
  clear z0 z1 z2 z3 v0 v1 v2 v3 hz;obtain ⟨z0,z1,z2,z3,_⟩:=Bj hk9;refine bodyPost_ret (v:=.tuple #[.agg Gv,.slice none 0 0,.int .i64 (p:Int),.int .i64 (e0:Int)]) (by simp [results,results63,go_sem,z0,z1,z2,z3]) rfl ?_;exact ⟨hB9,rfl⟩
theorem LK (ext:Bool) (s:ByteArray) (b:Nat) (d:UInt8) (w:World) (hs:s.size≤4000000) (hb:b≤s.size) (hG:Gl w) (hP:GP w) :
  Calls prog 61 #[.string s,.int .i64 (b:Int),.int .u8 d.toNat,.bool ext] w (IX w (Du ext s.data.toList b d)):=by
 have hA:=(Afv w.heap.size w).alloc (Afq _) (.cells Gv 47);have hR0:=Blk.new w Gv 47 w.heap.size rfl;obtain ⟨W,hW⟩:∃ W,w.alloc (.cells Gv 47)=W:=⟨_,rfl⟩;rw [hW] at hA hR0;have hde:=Kz ext s b d W hs hb (hG.up hA) (hP.up hA);have hwe:∀ q,An ext s.data.toList b d=.error q→q.1≠0:=fun q h=>Fe h
 unfold Du;obtain ⟨R,hR⟩:∃ R,An ext s.data.toList b d=R:=⟨_,rfl⟩;rw [hR] at hde hwe ⊢;have HA:=Afj hA;have HR0:=Afj hR0;clear hR hA hR0 hG hP;obtain ⟨z0,z1,z2,z3,v0,v1,v2,v3,hz⟩:=Bj HR0.out;cases R with
 | error q=>
  obtain ⟨n,p⟩:=q;have hn:n≠0:=hwe _ rfl;have hnn:((n:Int) != 0)=true:=by simp;omega
  clear hwe hn;go_enter func61,ntmps61;go_upto_region 2 with (go_at_call 82;refine hde.mono ?_;clear hde;rintro e w1 ⟨b1,rfl⟩;have B1:=Afj (HA.out.trans (b1.mono HA.out.size));have K1:=Afj (HR0.out.below b1 HR0.out.lt);clear b1 z0 z1 z2 z3 v0 v1 v2 v3 hz)
  have b2:=B1.out.alloc B1.out.size (.cells #[.string ⟨#[]⟩,.nilIface,.slice none 0 0] 159);have k2:=K1.out.alloc (.cells #[.string ⟨#[]⟩,.nilIface,.slice none 0 0] 159);generalize w1.alloc (.cells #[.string ⟨#[]⟩,.nilIface,.slice none 0 0] 159)=w2 at *;have B2:=Afj b2;have K2:=Afj k2;clear b2 k2;obtain ⟨z0,z1,z2,z3,v0,v1,v2,v3,hz⟩:=Bj K2.out;go_wp2_with fail
  first
   | (with_reducible refine Cy B2.out K2.out (Afq _) ?_;intro w9 hB9 hk9 hs9 hz9)
   | (have hB9:=B2.out;have hk9:=K2.out;generalize w2=w9 at *)
  clear z0 z1 z2 z3 v0 v1 v2 v3 hz;obtain ⟨z0,z1,z2,z3,_⟩:=Bj hk9;refine bodyPost_ret (v:=.tuple #[.agg Gv,.slice none 0 0,.int .i64 (p:Int),.int .i64 (n:Int)]) (by simp [results,results61,go_sem,z0,z1,z2,z3]) rfl ?_;exact ⟨hB9,rfl⟩
 | ok q=>
  obtain ⟨⟨t,dn⟩,ms,p⟩:=q;show Calls _ _ _ _ (IX w (.ok (⟨3,0,t,some dn⟩,ms,p)));have hde:Calls prog 82 #[.string s,.int .i64 (b:Int),.int .u8 d.toNat,.bool ext] W fun e w'=>Uz W (.ok ((t,dn),ms,p)) e w':=hde
  simp only [Uz] at hde;clear hwe;obtain ⟨n,hn⟩:∃ n,ms.length=n:=⟨_,rfl⟩;rw [hn] at hde;obtain ⟨T,hT⟩:∃ T,txt t=T:=⟨_,rfl⟩;rw [hT] at hde;have HF:=Afj (fun (w':World) (tv:Value) (a':Option Addr) (c':Nat) (h1:Below w.heap.size w w') (h2:NdX (fun b=>w.heap.size≤b∧(Value.slice a' n c').ownBlock≠some b) w' dn tv) (h3:w'.ownsRow w.heap.size 33 2 (.slice a' n c') n (wmC ms))=>
   (show IX w (.ok (⟨3,0,t,some dn⟩,ms,p)) (.returned (.tuple #[.agg #[.int .i64 3,.int .i64 0,.string T,tv],.slice a' n c',.int .i64 (p:Int),.int .i64 0])) w' from by
    subst hn hT;exact ⟨h1,tv,a',c',rfl,h2,h3⟩))
  clear hn hT;go_enter func61,ntmps61;go_upto_region 2 with (go_at_call 82;refine hde.mono ?_;clear hde;rintro e w1 ⟨b1,tv,mv,rfl,hd,hm⟩;obtain ⟨ma,mc,rfl⟩:=AB hm;have HD1:=Afj hd;have HM1:=Afj hm;have hsh:=hd.elim fun _ h=>Ay h;have B1:=Afj (HA.out.trans (b1.mono HA.out.size));have K1:=Afj (HR0.out.below b1 HR0.out.lt);clear b1 hd hm z0 z1 z2 z3 v0 v1 v2 v3 hz;rcases hsh with ⟨T9,q9,rfl⟩ | rfl)
  all_goals
   have hlt1:=K1.out.lt;generalize hW2:w1.alloc _=w2;have b2:=Ad hW2;have hX:=Af hW2;have B2:=Afj (B1.out.trans (b2.mono B1.out.size));have K2:=Afj (K1.out.below b2 hlt1);have HD2:=Afj (NdX.below b2 HD1.out);have HM2:=Afj (Ah HM1.out b2);have Hlt:=Afj (show w.heap.size < W.heap.size from HR0.out.lt);obtain ⟨x0,x1,x2,_,_,_,hxl⟩:=Gu hX;generalize w1.heap.size=r at *;obtain ⟨z0,z1,z2,z3,v0,v1,v2,v3,hz⟩:=Bj K2.out;clear b2 hX hW2;go_wp2_with fail
   go_region
   all_goals
    go_wp2_with fail
    first
     | (with_reducible refine Cy B2.out K2.out (Afq _) ?_)
     | (with_reducible refine Ac8 B2.out K2.out (Afq _) ?_)
    intro w9 hB9 hk9 hs9 hz9;have hfin:=HF.out w9 _ ma mc hB9 (NdX.keep (G:=fun b=>w.heap.size≤b∧(Value.slice ma n mc).ownBlock≠some b) (by first | omega | (simp at hz9;omega)) (fun b hb hl=>⟨⟨Afr (Afu Hlt.out) hb.1,hb.2⟩,fun o=>Afy (w:=w2) (a:=⟨b,o,none⟩) (hs9 b (by have:=Hlt.out;have:=hb.1;omega))⟩) HD2.out) (Ab (BW (Afu Hlt.out) HM2.out) fun g hg=>hs9 g (by have:=AS HM2.out g hg;have:=Hlt.out;omega));clear z0 z1 z2 z3 v0 v1 v2 v3 hz;obtain ⟨z0,z1,z2,z3,_⟩:=Bj hk9;refine bodyPost_ret (by simp [results,results61,go_sem,z0,z1,z2,z3]) rfl hfin
theorem K0 {x:UInt8} {n:Nat} (hn:n < 256) (h:x≠UInt8.ofNat n):((x.toNat:Int) == (n:Int))=false:=beq_eq_false_iff_ne.2 fun e=>h (UInt8.toNat_inj.1 (by
 have h2:(UInt8.ofNat n).toNat=n:=by simp;omega
 rw [h2];omega))
theorem IX.hand {w W:World} {r:BO Adr} {e:Ending} {w1:World} (hA:Below w.heap.size w W) (hk:Blk W w.heap.size Gv 47) (h:IX W r e w1) :
  ∃ k l t v mv p n,e=.returned (.tuple #[.agg #[k,l,t,v],mv,.int .i64 p,.int .i64 n])∧Below w.heap.size w w1∧Blk w1 w.heap.size Gv 47∧
   ((∃ T q,v=.iface T q)∨v=.nilIface)∧(∃ i,k=.int .i64 i)∧(∃ i,l=.int .i64 i)∧(∃ s,t=.string s)∧(∃ a m c,mv=.slice a m c)∧
   ∀ w9,Below w.heap.size w w9→(∀ b,b≠w.heap.size→w9.heap[b]?=w1.heap[b]?)→w9.heap.size=w1.heap.size→IX w r e w9:=by
 obtain ⟨h1,h2⟩:=h;have hlt:=hk.lt;have hkk:=hk.below h1 hk.lt;have hbb:=hA.trans (h1.mono hA.size);cases r with
 | error q=>
  subst h2;exact ⟨_,_,_,_,_,_,_,rfl,hbb,hkk,.inr rfl,⟨_,rfl⟩,⟨_,rfl⟩,⟨_,rfl⟩,⟨_,_,_,rfl⟩,fun w9 hb _ _=>⟨hb,rfl⟩⟩
 | ok q=>
  obtain ⟨tv,ma,mc,rfl,h4,h5⟩:=h2;refine ⟨_,_,_,_,_,_,_,rfl,hbb,hkk,h4.shape,⟨_,rfl⟩,⟨_,rfl⟩,⟨_,rfl⟩,⟨_,_,_,rfl⟩,fun w9 hb hs hz=>⟨hb,tv,ma,mc,rfl,TrO.keep (by omega) (fun b hb _=>⟨⟨Afr hA.size hb.1,hb.2⟩,fun o=>Afy (w:=w1) (a:=⟨b,o,none⟩) (hs b (by have:=hb.1;omega))⟩) h4,Ab (BW hA.size h5) fun g hg=>hs g (by have:=AS h5 g hg;omega)⟩⟩
theorem QS (ext:Bool) (s:ByteArray) (k:Nat) (w:World) (hs:s.size≤4000000) (hk:k < s.size) (hG:Gl w) (hP:GP w) :
  Calls prog 62 #[.string s,.int .i64 (k:Int),.bool ext] w (IX w (Es ext s.data.toList k)):=by
 have hA:=(Afv w.heap.size w).alloc (Afq _) (.cells Gv 47);have hR0:=Blk.new w Gv 47 w.heap.size rfl;obtain ⟨W,hW⟩:∃ W,w.alloc (.cells Gv 47)=W:=⟨_,rfl⟩;rw [hW] at hA hR0;have hGW:=hG.up hA;have hPW:=hP.up hA;have HA:=Afj hA;have HR0:=Afj hR0;clear hA hR0 hG hP;obtain ⟨z0,z1,z2,z3,v0,v1,v2,v3,hz⟩:=Bj HR0.out;obtain ⟨k1,hk1⟩:∃ k1,k+1=k1:=⟨_,rfl⟩;have Wk:IntKind.i64.wrap ((k:Int)+1)=(k1:Int):=by rw [Afx _ (by omega)];omega
 have Wk2:IntKind.i64.wrap ((k:Int)+2)=((k+2:Nat):Int):=by rw [Afx _ (by omega)];omega
 unfold Es;rw [hk1];by_cases he:k1=s.size
 ·rw [Bs s k1 (by omega)];have hE:((k1:Int) == (s.size:Int))=true:=by simp [he]
  clear he hk1 hGW hPW;simp only;go_enter func62,ntmps62;go_wp2_with fail
  first
   | (with_reducible refine Cy HA.out HR0.out (Afq _) ?_;intro w9 hB9 hk9 hs9 hz9)
   | (have hB9:=HA.out;have hk9:=HR0.out;generalize W=w9 at *)
  clear z0 z1 z2 z3 v0 v1 v2 v3 hz;obtain ⟨z0,z1,z2,z3,_⟩:=Bj hk9;refine bodyPost_ret (v:=.tuple #[.agg Gv,.slice none 0 0,.int .i64 (k:Int),.int .i64 12]) (by simp [results,results62,go_sem,z0,z1,z2,z3]) rfl ?_;exact ⟨hB9,rfl⟩
 ·have hlt:k1 < s.size:=by omega
  rw [Bm s k1 hlt];have hE:((k1:Int) == (s.size:Int))=false:=by simp;omega
  have hx0:(0:Int)≤(k1:Int):=by omega
  have hx1:(k1:Int) < (s.size:Int):=by omega
  simp only;generalize hx:s[k1]=x;by_cases h92:x=92
  ·rw [if_pos (.inl h92)];have q92:((s[k1].toNat:Int) == 92)=true:=by rw [hx,h92];rfl
   clear he hk1 hGW hPW hx h92;go_enter func62,ntmps62;go_wp2_with fail
   first
    | (with_reducible refine Cy HA.out HR0.out (Afq _) ?_;intro w9 hB9 hk9 hs9 hz9)
    | (have hB9:=HA.out;have hk9:=HR0.out;generalize W=w9 at *)
   clear z0 z1 z2 z3 v0 v1 v2 v3 hz;obtain ⟨z0,z1,z2,z3,_⟩:=Bj hk9;refine bodyPost_ret (v:=.tuple #[.agg Gv,.slice none 0 0,.int .i64 (k:Int),.int .i64 12]) (by simp [results,results62,go_sem,z0,z1,z2,z3]) rfl ?_;exact ⟨hB9,rfl⟩
  ·have q92:((s[k1].toNat:Int) == 92)=false:=by rw [hx];exact K0 (n:=92) (by decide) h92
   by_cases h10:x=10
   ·rw [if_pos (.inr h10)];have q10:((s[k1].toNat:Int) == 10)=true:=by rw [hx,h10];rfl
    clear he hk1 hGW hPW hx h92 h10;go_enter func62,ntmps62;go_wp2_with fail
    first
     | (with_reducible refine Cy HA.out HR0.out (Afq _) ?_;intro w9 hB9 hk9 hs9 hz9)
     | (have hB9:=HA.out;have hk9:=HR0.out;generalize W=w9 at *)
    clear z0 z1 z2 z3 v0 v1 v2 v3 hz;obtain ⟨z0,z1,z2,z3,_⟩:=Bj hk9;refine bodyPost_ret (v:=.tuple #[.agg Gv,.slice none 0 0,.int .i64 (k:Int),.int .i64 12]) (by simp [results,results62,go_sem,z0,z1,z2,z3]) rfl ?_;exact ⟨hB9,rfl⟩
   ·rw [if_neg (by intro h;exact h.elim h92 h10)];have q10:((s[k1].toNat:Int) == 10)=false:=by rw [hx];exact K0 (n:=10) (by decide) h10
    have hC:=LK ext s (k+2) s[k1] W hs (by omega) hGW hPW;rw [hx] at hC;generalize Du ext s.data.toList (k+2) x=R at hC ⊢;obtain ⟨xn,hxn⟩:∃ xn,x.toNat=xn:=⟨_,rfl⟩;have hxe:s[k1].toNat=xn:=by rw [hx,hxn]
    rw [hxn] at hC;have HX:=Afj hxe;clear he hk1 hGW hPW h92 h10 hxn hx hxe;go_enter func62,ntmps62;go_wp2_with (go_at_call 61;rw [HX.out];refine hC.mono ?_;clear hC;intro e w1 h;obtain ⟨k',l',t',v',mv,p',n',rfl,hb1,hk1,hsh,⟨ki,rfl⟩,⟨li,rfl⟩,⟨ti,rfl⟩,⟨a',m',c',rfl⟩,hF⟩:=IX.hand HA.out HR0.out h;have HB1:=Afj hb1;have HK1:=Afj hk1;have HF:=Afj hF;clear h hb1 hk1 hF z0 z1 z2 z3 v0 v1 v2 v3 hz;obtain ⟨z0,z1,z2,z3,v0,v1,v2,v3,hz⟩:=Bj HK1.out;rcases hsh with ⟨T9,q9,rfl⟩ | rfl)
    all_goals
     with_reducible refine Cy HB1.out HK1.out (Afq _) ?_
     intro w9 hB9 hk9 hs9 hz9;clear z0 z1 z2 z3 v0 v1 v2 v3 hz;obtain ⟨z0,z1,z2,z3,_⟩:=Bj hk9;exact bodyPost_ret (by simp [results,results62,go_sem,z0,z1,z2,z3]) rfl (HF.out w9 hB9 hs9 hz9)
theorem S4 (ext second:Bool) (s:ByteArray) (k:Nat) (w:World) (hs:s.size≤4000000) (hk:k≤s.size) (hG:Gl w) (hP:GP w) :
  Calls prog 38 #[.string s,.int .i64 (k:Int),.bool ext,.bool second] w (IX w (DQ ext second s.data.toList k)):=by
 have hA:=(Afv w.heap.size w).alloc (Afq _) (.cells Gv 47);have hR0:=Blk.new w Gv 47 w.heap.size rfl;obtain ⟨W,hW⟩:∃ W,w.alloc (.cells Gv 47)=W:=⟨_,rfl⟩;rw [hW] at hA hR0;have hGW:=hG.up hA;have hPW:=hP.up hA;have HA:=Afj hA;have HR0:=Afj hR0;clear hA hR0 hG hP;obtain ⟨z0,z1,z2,z3,v0,v1,v2,v3,hz⟩:=Bj HR0.out;have hx0:¬ (k:Int) < 0:=by omega
 have hx1:¬ (s.size:Int) < (k:Int):=by omega
 have Wk:IntKind.i64.wrap ((k:Int)+1)=((k+1:Nat):Int):=by rw [Afx _ (by omega)];omega
 have HW:=Afj hW;unfold DQ;by_cases he:k=s.size
 ·rw [Bs s k (by omega)];have hE:((k:Int) == (s.size:Int))=true:=by simp [he]
  clear he hGW hPW;simp only;go_enter func38,ntmps38;go_wp2_with fail
  first
   | (with_reducible refine Cy HA.out HR0.out (Afq _) ?_;intro w9 hB9 hk9 hs9 hz9)
   | (have hB9:=HA.out;have hk9:=HR0.out;generalize W=w9 at *)
  clear z0 z1 z2 z3 v0 v1 v2 v3 hz;obtain ⟨z0,z1,z2,z3,_⟩:=Bj hk9;refine bodyPost_ret (v:=.tuple #[.agg Gv,.slice none 0 0,.int .i64 (k:Int),.int .i64 0]) (by simp [results,results38,go_sem,z0,z1,z2,z3]) rfl ?_;exact ⟨hB9,.nilIface,none,0,rfl,rfl,World.ownsRow_nil _ _ _ _⟩
 ·have hlt:k < s.size:=by omega
  rw [Bm s k hlt];have hE:((k:Int) == (s.size:Int))=false:=by simp;omega
  have hy0:(0:Int)≤(k:Int):=by omega
  have hy1:(k:Int) < (s.size:Int):=by omega
  simp only;have hl:=U1 s k W hs hk;have hp:=U2 s k W hs hlt;have hd:=QS ext s k W hs hlt hGW hPW;have hr:=LK ext s (k+1) s[k] W hs (by omega) hGW hPW;clear hGW hPW he;by_cases hdg:48≤s[k].toNat∧s[k].toNat≤57
  ·rw [if_pos hdg];have d1:(48:Int)≤(s[k].toNat:Int):=by omega
   have d2:(s[k].toNat:Int)≤57:=by omega
   have hC:=hl;clear hdg hl hp hd hr;generalize CK s.data.toList k=R at hC ⊢;go_enter func38,ntmps38;go_wp2_with (go_at_call 60;refine hC.mono ?_;clear hC;intro e w1 h;obtain ⟨k',l',t',v',mv,p',n',rfl,hb1,hk1,hsh,⟨ki,rfl⟩,⟨li,rfl⟩,⟨ti,rfl⟩,⟨a',m',c',rfl⟩,hF⟩:=IX.hand HA.out HR0.out h;have HB1:=Afj hb1;have HK1:=Afj hk1;have HF:=Afj hF;clear h hb1 hk1 hF z0 z1 z2 z3 v0 v1 v2 v3 hz;obtain ⟨z0,z1,z2,z3,v0,v1,v2,v3,hz⟩:=Bj HK1.out;rcases hsh with ⟨T9,q9,rfl⟩ | rfl)
   all_goals
    with_reducible refine Cy HB1.out HK1.out (Afq _) ?_
    intro w9 hB9 hk9 hs9 hz9;clear z0 z1 z2 z3 v0 v1 v2 v3 hz;obtain ⟨z0,z1,z2,z3,_⟩:=Bj hk9;exact bodyPost_ret (by simp [results,results38,go_sem,z0,z1,z2,z3]) rfl (HF.out w9 hB9 hs9 hz9)
  ·rw [if_neg hdg];have hD:=Afj (show (48:Int)≤(s[k].toNat:Int)→¬ (s[k].toNat:Int)≤57 from fun a b=>hdg ⟨by omega,by omega⟩);clear hdg hl;have hdig:(¬ (48:Int)≤(s[k].toNat:Int))∨((48:Int)≤(s[k].toNat:Int)∧¬ (s[k].toNat:Int)≤57):=by
    by_cases h:(48:Int)≤(s[k].toNat:Int)
    ·exact .inr ⟨h,hD.out h⟩
    ·exact .inl h
   clear hD;by_cases h36:s[k]=36
   ·rw [if_pos h36];have q36:((s[k].toNat:Int) == 36)=true:=by rw [h36];rfl
    clear h36 hp hd hr;rcases hdig with d1 | ⟨d1,d2⟩
    all_goals
     go_enter func38,ntmps38;go_wp2_with fail
     first
      | (with_reducible refine Cy HA.out HR0.out (Afq _) ?_;intro w9 hB9 hk9 hs9 hz9)
      | (have hB9:=HA.out;have hk9:=HR0.out;generalize W=w9 at *)
     clear z0 z1 z2 z3 v0 v1 v2 v3 hz;obtain ⟨z0,z1,z2,z3,_⟩:=Bj hk9;refine bodyPost_ret (v:=.tuple #[.agg #[.int .i64 2,.int .i64 0,.string ⟨#[]⟩,.nilIface],.slice none 0 0,.int .i64 ((k+1:Nat):Int),.int .i64 0]) (by simp [results,results38,go_sem,z0,z1,z2,z3]) rfl ?_;exact ⟨hB9,.nilIface,none,0,rfl,rfl,World.ownsRow_nil _ _ _ _⟩
   ·rw [if_neg h36];have q36:((s[k].toNat:Int) == 36)=false:=K0 (n:=36) (by decide) h36;clear h36;by_cases h47:s[k]=47
    ·rw [if_pos h47];have q47:((s[k].toNat:Int) == 47)=true:=by rw [h47];rfl
     have hC:Calls prog 61 #[.string s,.int .i64 ((k+1:Nat):Int),.int .u8 s[k].toNat,.bool ext] W (IX W (Du ext s.data.toList (k+1) 47)):=by
      have h:=hr;rw [show Du ext s.data.toList (k+1) s[k]=Du ext s.data.toList (k+1) 47 by rw [h47]] at h;exact h
     clear h47 hp hd hr;generalize Du ext s.data.toList (k+1) 47=R at hC ⊢;rcases hdig with d1 | ⟨d1,d2⟩
     all_goals
      go_enter func38,ntmps38;go_wp2_with (go_at_call 61;refine hC.mono ?_;clear hC;intro e w1 h;obtain ⟨k',l',t',v',mv,p',n',rfl,hb1,hk1,hsh,⟨ki,rfl⟩,⟨li,rfl⟩,⟨ti,rfl⟩,⟨a',m',c',rfl⟩,hF⟩:=IX.hand HA.out HR0.out h;have HB1:=Afj hb1;have HK1:=Afj hk1;have HF:=Afj hF;clear h hb1 hk1 hF z0 z1 z2 z3 v0 v1 v2 v3 hz;obtain ⟨z0,z1,z2,z3,v0,v1,v2,v3,hz⟩:=Bj HK1.out;rcases hsh with ⟨T9,q9,rfl⟩ | rfl)
      all_goals
       with_reducible refine Cy HB1.out HK1.out (Afq _) ?_
       intro w9 hB9 hk9 hs9 hz9;clear z0 z1 z2 z3 v0 v1 v2 v3 hz;obtain ⟨z0,z1,z2,z3,_⟩:=Bj hk9;exact bodyPost_ret (by simp [results,results38,go_sem,z0,z1,z2,z3]) rfl (HF.out w9 hB9 hs9 hz9)
    ·rw [if_neg h47];have q47:((s[k].toNat:Int) == 47)=false:=K0 (n:=47) (by decide) h47;clear h47 hr;by_cases h92:s[k]=92
     ·rw [if_pos h92];have q92:((s[k].toNat:Int) == 92)=true:=by rw [h92];rfl
      have hC:=hd;clear h92 hp hd;generalize Es ext s.data.toList k=R at hC ⊢;rcases hdig with d1 | ⟨d1,d2⟩
      all_goals
       go_enter func38,ntmps38;go_wp2_with (go_at_call 62;refine hC.mono ?_;clear hC;intro e w1 h;obtain ⟨k',l',t',v',mv,p',n',rfl,hb1,hk1,hsh,⟨ki,rfl⟩,⟨li,rfl⟩,⟨ti,rfl⟩,⟨a',m',c',rfl⟩,hF⟩:=IX.hand HA.out HR0.out h;have HB1:=Afj hb1;have HK1:=Afj hk1;have HF:=Afj hF;clear h hb1 hk1 hF z0 z1 z2 z3 v0 v1 v2 v3 hz;obtain ⟨z0,z1,z2,z3,v0,v1,v2,v3,hz⟩:=Bj HK1.out;rcases hsh with ⟨T9,q9,rfl⟩ | rfl)
       all_goals
        with_reducible refine Cy HB1.out HK1.out (Afq _) ?_
        intro w9 hB9 hk9 hs9 hz9;clear z0 z1 z2 z3 v0 v1 v2 v3 hz;obtain ⟨z0,z1,z2,z3,_⟩:=Bj hk9;exact bodyPost_ret (by simp [results,results38,go_sem,z0,z1,z2,z3]) rfl (HF.out w9 hB9 hs9 hz9)
     ·rw [if_neg h92];have q92:((s[k].toNat:Int) == 92)=false:=K0 (n:=92) (by decide) h92;clear h92 hd;by_cases h43:s[k]=43
      ·have q43:((s[k].toNat:Int) == 43)=true:=by rw [h43];rfl
       cases second with
       | true=>
        rw [if_pos ⟨h43,rfl⟩];have hC:=hp;clear h43 hp;generalize CL s.data.toList k=R at hC ⊢;rcases hdig with d1 | ⟨d1,d2⟩
        all_goals
         go_enter func38,ntmps38;go_wp2_with (go_at_call 63;refine hC.mono ?_;clear hC;intro e w1 h;obtain ⟨k',l',t',v',mv,p',n',rfl,hb1,hk1,hsh,⟨ki,rfl⟩,⟨li,rfl⟩,⟨ti,rfl⟩,⟨a',m',c',rfl⟩,hF⟩:=IX.hand HA.out HR0.out h;have HB1:=Afj hb1;have HK1:=Afj hk1;have HF:=Afj hF;clear h hb1 hk1 hF z0 z1 z2 z3 v0 v1 v2 v3 hz;obtain ⟨z0,z1,z2,z3,v0,v1,v2,v3,hz⟩:=Bj HK1.out;rcases hsh with ⟨T9,q9,rfl⟩ | rfl)
         all_goals
          with_reducible refine Cy HB1.out HK1.out (Afq _) ?_
          intro w9 hB9 hk9 hs9 hz9;clear z0 z1 z2 z3 v0 v1 v2 v3 hz;obtain ⟨z0,z1,z2,z3,_⟩:=Bj hk9;exact bodyPost_ret (by simp [results,results38,go_sem,z0,z1,z2,z3]) rfl (HF.out w9 hB9 hs9 hz9)
       | false=>
        rw [if_neg (by simp)];clear h43 hp;rcases hdig with d1 | ⟨d1,d2⟩
        all_goals
         go_enter func38,ntmps38;go_wp2_with fail
         first
          | (with_reducible refine Cy HA.out HR0.out (Afq _) ?_;intro w9 hB9 hk9 hs9 hz9)
          | (have hB9:=HA.out;have hk9:=HR0.out;generalize W=w9 at *)
         clear z0 z1 z2 z3 v0 v1 v2 v3 hz;obtain ⟨z0,z1,z2,z3,_⟩:=Bj hk9;refine bodyPost_ret (v:=.tuple #[.agg Gv,.slice none 0 0,.int .i64 (k:Int),.int .i64 0]) (by simp [results,results38,go_sem,z0,z1,z2,z3]) rfl ?_;exact ⟨hB9,.nilIface,none,0,rfl,rfl,World.ownsRow_nil _ _ _ _⟩
      ·rw [if_neg (fun h=>h43 h.1)];have q43:((s[k].toNat:Int) == 43)=false:=K0 (n:=43) (by decide) h43;clear h43 hp;rcases hdig with d1 | ⟨d1,d2⟩
       all_goals
        go_enter func38,ntmps38;go_wp2_with fail
        first
         | (with_reducible refine Cy HA.out HR0.out (Afq _) ?_;intro w9 hB9 hk9 hs9 hz9)
         | (have hB9:=HA.out;have hk9:=HR0.out;generalize W=w9 at *)
        clear z0 z1 z2 z3 v0 v1 v2 v3 hz;obtain ⟨z0,z1,z2,z3,_⟩:=Bj hk9;refine bodyPost_ret (v:=.tuple #[.agg Gv,.slice none 0 0,.int .i64 (k:Int),.int .i64 0]) (by simp [results,results38,go_sem,z0,z1,z2,z3]) rfl ?_;exact ⟨hB9,.nilIface,none,0,rfl,rfl,World.ownsRow_nil _ _ _ _⟩
theorem Xn (l:List UInt8) (b:UInt8):Lib.hasPrefix l [b]=decide (l.head?=some b):=by
 cases l with
 | nil=>rfl
 | cons c l=>
  show (b == c && List.isPrefixOf [] l)=decide (some c=some b);by_cases h:c=b
  ·rw [h];simp
  ·rw [decide_eq_false (by simpa using h),beq_eq_false_iff_ne.2 (Ne.symm h)];rfl
theorem Nj (s:ByteArray) (k:Nat) (b:UInt8) (w:World):Calls prog 21 #[.string (s.extract k s.size),.string ⟨#[b]⟩] w fun e w'=>e=.returned (.bool (decide ((s.data.toList.drop k).head?=some b)))∧w=w':=by
 have h:=Cw (s.extract k s.size) ⟨#[b]⟩ w;rw [Ci,show (⟨#[b]⟩:ByteArray).data.toList=[b] from rfl,Xn] at h;exact h
theorem Jr (s:ByteArray) (k:Nat) (w:World) (hs:s.size≤4000000) (hk:k≤s.size) :
  Calls prog 64 #[.string s,.int .i64 (k:Int)] w fun e w'=>e=.returned (.int .i64 (Ak s.data.toList k:Int))∧Below w.heap.size w w':=by
 have h:=IP s k w hs;rw [DF _ _ _ (by rw [←Ae];exact hk)] at h;exact h
theorem EK (s:ByteArray) (k:Nat) (hk:k≤s.size):Ak s.data.toList k≤s.size:=by
 have:=(FL s.data.toList k (by rw [←Ae];exact hk)).2;rw [Ae];exact this
theorem Gr {s:ByteArray} {k:Nat} {b:UInt8} (h:(s.data.toList.drop k).head?=some b):k < s.size:=by
 by_cases hk:k < s.size
 ·exact hk
 ·rw [Bs s k (by omega)] at h;cases h
theorem OO (s:ByteArray) (k:Nat) (w:World) (hs:s.size≤4000000) (hk:k≤s.size) :
  Calls prog 40 #[.string s,.int .i64 (k:Int)] w fun e w'=>Below w.heap.size w w'∧e=match C4 s.data.toList k with
   | .error q=>.returned (.tuple #[.bool false,.int .i64 (q.2:Int),.int .i64 (q.1:Int)])
   | .ok q=>.returned (.tuple #[.bool q.1,.int .i64 (q.2:Int),.int .i64 0]):=by
 have hB:=Jr s k w hs hk;have hble:=EK s k hk;unfold C4;obtain ⟨b,hb⟩:∃ b,Ak s.data.toList k=b:=⟨_,rfl⟩;rw [hb] at hB hble ⊢;have hx0:(0:Int)≤(b:Int):=by omega
 have hx1:(b:Int)≤(s.size:Int):=by omega
 have hpf:=fun w=>Nj s b 33 w
 clear hb;by_cases h33:(s.data.toList.drop b).head?=some 33
 ·rw [if_pos h33];have hlt:=Gr h33;rw [decide_eq_true h33] at hpf;obtain ⟨b1,hb1⟩:∃ b1,b+1=b1:=⟨_,rfl⟩;rw [hb1];have Wb:IntKind.i64.wrap ((b:Int)+1)=(b1:Int):=by rw [Afx _ (by omega)];omega
  have hB2:=fun w=>Jr s b1 w hs (by omega)
  have hble2:=EK s b1 (by omega);obtain ⟨c,hc⟩:∃ c,Ak s.data.toList b1=c:=⟨_,rfl⟩;rw [hc] at hB2 hble2 ⊢;have hy0:(0:Int)≤(c:Int):=by omega
  have hy1:(c:Int)≤(s.size:Int):=by omega
  have hpf2:=fun w=>Nj s c 33 w
  have hbc:b≠c:=by
   have:=(FL s.data.toList b1 (by rw [←Ae];omega)).1;omega
  clear hc hb1 h33 hlt;by_cases h33':(s.data.toList.drop c).head?=some 33
  ·rw [if_pos h33'];rw [decide_eq_true h33'] at hpf2;clear h33';go_enter func40,ntmps40;go_upto_region 2 with (go_at_call 64;refine hB.mono ?_;clear hB;rintro e w1 ⟨rfl,b1'⟩;have B1:=Afj b1';clear b1')
   go_upto_region 4 with (go_at_call 21;go_loud (refine (hpf _).mono ?_;clear hpf;rintro e w2 ⟨rfl,rfl⟩))
   go_upto_region 5 with (go_at_call 64;refine (hB2 _).mono ?_;clear hB2;rintro e w3 ⟨rfl,b3⟩;have B3:=Afj b3;clear b3)
   go_wp2_with (go_at_call 21;refine (hpf2 _).mono ?_;clear hpf2;rintro e w4 ⟨rfl,rfl⟩)
   go_ret3
   exact ⟨B1.out.trans (B3.out.mono B1.out.size),rfl⟩
  ·rw [if_neg h33'];rw [decide_eq_false h33'] at hpf2;clear h33';go_enter func40,ntmps40;go_upto_region 2 with (go_at_call 64;refine hB.mono ?_;clear hB;rintro e w1 ⟨rfl,b1'⟩;have B1:=Afj b1';clear b1')
   go_upto_region 4 with (go_at_call 21;go_loud (refine (hpf _).mono ?_;clear hpf;rintro e w2 ⟨rfl,rfl⟩))
   go_upto_region 5 with (go_at_call 64;refine (hB2 _).mono ?_;clear hB2;rintro e w3 ⟨rfl,b3⟩;have B3:=Afj b3;clear b3)
   go_wp2_with (go_at_call 21;refine (hpf2 _).mono ?_;clear hpf2;rintro e w4 ⟨rfl,rfl⟩)
   go_ret3
   exact ⟨B1.out.trans (B3.out.mono B1.out.size),rfl⟩
 ·rw [if_neg h33];rw [decide_eq_false h33] at hpf;clear h33;go_enter func40,ntmps40;go_wp2_with (first
   | (go_at_call 64;refine hB.mono ?_;clear hB;rintro e w1 ⟨rfl,b1'⟩;have B1:=Afj b1';clear b1')
   | (go_at_call 21;refine (hpf _).mono ?_;clear hpf;rintro e w2 ⟨rfl,rfl⟩))
  go_ret3
  exact ⟨B1.out,rfl⟩
theorem QT {L:List UInt8} {k:Nat} {q:Nat × Nat} (h:CK L k=.error q):q.1≠0:=by
 unfold CK at h;simp only at h;split at h
 ·split at h
  ·injection h with h;rw [←h];exact Nat.succ_ne_zero _
  ·cases h
 ·rename_i he;injection h with h;rw [←h];exact he
theorem QU {L:List UInt8} {k:Nat} {q:Nat × Nat} (h:CL L k=.error q):q.1≠0:=by
 unfold CL at h;simp only at h;split at h
 ·cases h
 ·rename_i he;injection h with h;rw [←h];exact he
theorem OP {ext:Bool} {L:List UInt8} {k:Nat} {d:UInt8} {q:Nat × Nat} (h:Du ext L k d=.error q):q.1≠0:=by
 unfold Du at h;split at h
 ·rename_i he;injection h with h;rw [←h];exact Fe he
 ·cases h
theorem U3 {ext:Bool} {L:List UInt8} {k:Nat} {q:Nat × Nat} (h:Es ext L k=.error q):q.1≠0:=by
 unfold Es at h;split at h
 ·injection h with h;rw [←h];exact Nat.succ_ne_zero _
 ·split at h
  ·injection h with h;rw [←h];exact Nat.succ_ne_zero _
  ·exact OP h
theorem Js {ext second:Bool} {L:List UInt8} {k:Nat} {q:Nat × Nat} (h:DQ ext second L k=.error q):q.1≠0:=by
 unfold DQ at h;split at h
 ·cases h
 ·split at h
  ·exact QT h
  ·split at h
   ·cases h
   ·split at h
    ·exact OP h
    ·split at h
     ·exact U3 h
     ·split at h
      ·exact QU h
      ·cases h
theorem LL {ext:Bool} {L:List UInt8} {k:Nat} {q:Nat × Nat} (h:BC ext L k=.error q):q.1≠0:=by
 unfold BC DB at h;split at h
 ·split at h
  ·rename_i he;injection h with h;rw [←h];exact Js he
  ·split at h
   ·injection h with h;rw [←h];exact Nat.succ_ne_zero _
   ·cases h
 ·cases h
theorem K6 {ext:Bool} {L:List UInt8} {b:Nat} {d:UInt8} {q:(List UInt8 × Nd) × List Wm × Nat} (hb:b≤L.length) (h:An ext L b d=.ok q):q.2.2≤L.length∧q.2.1.length≤250:=by
 unfold An at h;simp only at h;split at h
 ·split at h
  ·cases h
  ·split at h
   ·cases h
   ·rename_i hp;injection h with h;subst h;refine ⟨?_,?_⟩
    ·show (Aj L b d true).2.1≤_;unfold Aj;rw [D9 _ _ _ _ hb];exact JJ d true L _ _ _ hb
    ·show (BH _ _).length≤_;rw [Ka,List.length_map];rename_i q';have h1:=Ly (st:=q'.1) (d:=q'.2) hp;unfold AU at hp;split at hp
     ·cases hp
     ·omega
 ·cases h
theorem S7 {ext:Bool} {L:List UInt8} {b:Nat} {d:UInt8} {q:Adr × List Wm × Nat} (hb:b≤L.length) (h:Du ext L b d=.ok q):q.2.2≤L.length∧q.2.1.length≤251:=by
 unfold Du at h;split at h
 ·cases h
 ·rename_i hp;injection h with h;subst h;have:=K6 hb hp;exact ⟨this.1,Nat.le_succ_of_le this.2⟩
theorem ZZ {ext second:Bool} {L:List UInt8} {k:Nat} {q:Adr × List Wm × Nat} (hk:k≤L.length) (h:DQ ext second L k=.ok q):q.2.2≤L.length∧q.2.1.length≤251:=by
 unfold DQ at h;split at h
 ·injection h with h;subst h;exact ⟨hk,by simp⟩
 ·rename_i c t hd;have hlt:k < L.length:=by
   by_cases e:k < L.length
   ·exact e
   ·rw [List.drop_eq_nil_of_le (by omega)] at hd;cases hd
  split at h
  ·unfold CK at h;simp only at h;split at h
   ·split at h
    ·cases h
    ·injection h with h;subst h;exact ⟨(EY L k hk).2,by simp⟩
   ·cases h
  ·split at h
   ·injection h with h;subst h;exact ⟨by show k+1≤_;omega,by simp⟩
   ·split at h
    ·exact S7 (by omega) h
    ·split at h
     ·unfold Es at h;split at h
      ·cases h
      ·rename_i x t2 hd2;have:k+1 < L.length:=by
        by_cases e:k+1 < L.length
        ·exact e
        ·rw [List.drop_eq_nil_of_le (by omega)] at hd2;cases hd2
       split at h
       ·cases h
       ·exact S7 (by omega) h
     ·split at h
      ·unfold CL at h;simp only at h;split at h
       ·injection h with h;subst h;exact ⟨(EY L (k+1) (by omega)).2,by simp⟩
       ·cases h
      ·injection h with h;subst h;exact ⟨hk,by simp⟩
theorem Nk {ext second:Bool} {k:Nat} {q:Adr × List Wm × Nat} (s:ByteArray) (hk:k≤s.size) (h:DQ ext second s.data.toList k=.ok q):q.2.2≤s.size∧q.2.1.length≤251:=by
 have:=ZZ (by rw [←Ae];exact hk) h;rw [←Ae] at this;exact this
theorem Xo {ext:Bool} {k:Nat} {q:Adr × List Wm × Nat} (s:ByteArray) (hk:k≤s.size) (h:BC ext s.data.toList k=.ok q):q.2.2≤s.size∧q.2.1.length≤251:=by
 unfold BC at h;split at h
 ·rename_i h44;have h1:=EK s k hk;have h2:=Gr h44;have h3:=EK s (Ak s.data.toList k+1) (by omega);unfold DB at h;split at h
  ·cases h
  ·rename_i he;split at h
   ·cases h
   ·injection h with h;subst h;exact Nk s h3 he
 ·injection h with h;subst h;exact ⟨hk,by simp⟩
theorem K7 {B:Nat} {w:World} {e:TypeId} {size n:Nat} {v:Value} {us:List Value} (h:w.ownsRow B e size v n us) (g:Nat) (hg:v.ownBlock=some g):g < w.heap.size:=AF h g hg
theorem IX.mk' {w w9:World} {A:BO Adr} {kd ln p:Nat} {tx:List UInt8} {tr:Option Nd} {ms:List Wm} {tv:Value} {ma:Option Addr} {mc:Nat} (hE:(.ok (⟨kd,ln,tx,tr⟩,ms,p):BO Adr)=A) (h1:Below w.heap.size w w9) (h2:TrO (fun b=>w.heap.size≤b∧(Value.slice ma ms.length mc).ownBlock≠some b) w9 tr tv)
  (h3:w9.ownsRow w.heap.size 33 2 (.slice ma ms.length mc) ms.length (wmC ms)):IX w A (.returned (.tuple #[.agg #[.int .i64 (kd:Int),.int .i64 (ln:Int),.string (txt tx),tv],.slice ma ms.length mc,.int .i64 (p:Int),.int .i64 0])) w9:=by
 subst hE;exact ⟨h1,tv,ma,mc,rfl,h2,h3⟩
theorem Xp (ext:Bool) (s:ByteArray) (k:Nat) (w:World) (hs:s.size≤4000000) (hk:k≤s.size) (hG:Gl w) (hP:GP w) :
  Calls prog 39 #[.string s,.int .i64 (k:Int),.bool ext] w (IX w (BC ext s.data.toList k)):=by
 have hA:=(Afv w.heap.size w).alloc (Afq _) (.cells Gv 47);have hR0:=Blk.new w Gv 47 w.heap.size rfl;obtain ⟨W,hW⟩:∃ W,w.alloc (.cells Gv 47)=W:=⟨_,rfl⟩;rw [hW] at hA hR0;have hB:=Jr s k W hs hk;have hble:=EK s k hk;unfold BC;obtain ⟨b,hb⟩:∃ b,Ak s.data.toList k=b:=⟨_,rfl⟩;rw [hb] at hB hble ⊢;have hx0:(0:Int)≤(b:Int):=by omega
 have hx1:(b:Int)≤(s.size:Int):=by omega
 have hpf:=fun w=>Nj s b 44 w
 have hGW:=hG.up hA;have hPW:=hP.up hA;have HA:=Afj hA;have HR0:=Afj hR0;clear hb hA hR0 hG hP;obtain ⟨z0,z1,z2,z3,v0,v1,v2,v3,hz⟩:=Bj HR0.out;by_cases h44:(s.data.toList.drop b).head?=some 44
 ·rw [if_pos h44];have hlt:=Gr h44;rw [decide_eq_true h44] at hpf;obtain ⟨b1,hb1⟩:∃ b1,b+1=b1:=⟨_,rfl⟩;rw [hb1];have Wb:IntKind.i64.wrap ((b:Int)+1)=(b1:Int):=by rw [Afx _ (by omega)];omega
  have hB2:=fun w=>Jr s b1 w hs (by omega)
  have hble2:=EK s b1 (by omega);obtain ⟨c,hc⟩:∃ c,Ak s.data.toList b1=c:=⟨_,rfl⟩;rw [hc] at hB2 hble2 ⊢;have hAd:=fun (w':World) (hb:Below W.heap.size W w')=>S4 ext true s c w' hs hble2 (hGW.up hb) (hPW.up hb)
  have hwe:∀ q,DQ ext true s.data.toList c=.error q→q.1≠0:=fun q h=>Js h
  generalize DQ ext true s.data.toList c=R at hAd hwe ⊢;obtain ⟨A,hans⟩:∃ A,DB c R=A:=⟨_,rfl⟩;rw [hans];have HAN:=Afj hans;have HAd:=Afj hAd;clear hans;clear hc hb1 h44 hlt hGW hPW hAd;go_enter func39,ntmps39;go_upto_region 2 with (go_at_call 64;refine hB.mono ?_;clear hB;rintro e w1 ⟨rfl,b1'⟩;have B1:=Afj b1';clear b1')
  go_upto_region 4 with (go_at_call 21;refine (hpf _).mono ?_;clear hpf;rintro e w2 ⟨rfl,rfl⟩)
  go_upto_region 5 with (go_at_call 64;refine (hB2 _).mono ?_;clear hB2;rintro e w3 ⟨rfl,b3⟩;have B3:=Afj (B1.out.trans (b3.mono B1.out.size));clear b3)
  have A3:=Afj (HA.out.trans (B3.out.mono HA.out.size));have K3:=Afj (HR0.out.below B3.out HR0.out.lt);have hC:=HAd.out _ B3.out;clear z0 z1 z2 z3 v0 v1 v2 v3 hz;obtain ⟨z0,z1,z2,z3,v0,v1,v2,v3,hz⟩:=Bj K3.out;cases R with
  | error q=>
   obtain ⟨n,p⟩:=q;have hn:n≠0:=hwe _ rfl;have hnn:((n:Int) == 0)=false:=by simp;omega
   have HAE:=Afj (show (.error (n,p):BO Adr)=A from HAN.out);clear hwe hn;go_upto_region 6 with (go_at_call 38;refine hC.mono ?_;clear hC;rintro e w4 ⟨b4,rfl⟩;have B4:=Afj (A3.out.trans (b4.mono A3.out.size));have K4:=Afj (K3.out.below b4 K3.out.lt);clear b4 z0 z1 z2 z3 v0 v1 v2 v3 hz)
   have hlt4:=K4.out.lt;generalize hW5:w4.alloc _=w5;have hb5:=Ad hW5;have hX:=Af hW5;have B5:=Afj (B4.out.trans (hb5.mono B4.out.size));have K5:=Afj (K4.out.below hb5 hlt4);obtain ⟨x0,x1,x2,x3,_,_,_,_,hxl⟩:=Bj hX;obtain ⟨z0,z1,z2,z3,v0,v1,v2,v3,hz⟩:=Bj K5.out;clear hb5 hX hW5;go_wp2_with fail
   first
    | (with_reducible refine Cy B5.out K5.out (Afq _) ?_;intro w9 hB9 hk9 hs9 hz9)
    | (have hB9:=B5.out;have hk9:=K5.out;generalize w5=w9 at *)
   clear z0 z1 z2 z3 v0 v1 v2 v3 hz;obtain ⟨z0,z1,z2,z3,_⟩:=Bj hk9;refine bodyPost_ret (v:=.tuple #[.agg Gv,.slice none 0 0,.int .i64 (p:Int),.int .i64 (n:Int)]) (by simp [results,results39,go_sem,z0,z1,z2,z3]) rfl ?_;rw [←HAE.out];exact ⟨hB9,rfl⟩
  | ok q=>
   obtain ⟨⟨kd,ln,tx,tr⟩,ms,p⟩:=q;clear hwe;have hC:Calls prog 38 #[.string s,.int .i64 (c:Int),.bool ext,.bool true] w3 fun e w'=>IX w3 (.ok (⟨kd,ln,tx,tr⟩,ms,p)) e w':=hC
   simp only [IX] at hC;by_cases hkd:kd=0
   ·subst hkd;have HAE:=Afj (show (.error (12,c):BO Adr)=A from HAN.out);go_upto_region 6 with (go_at_call 38;refine hC.mono ?_;clear hC;rintro e w4 ⟨b4,tv,ma,mc,rfl,ht,_⟩;have hsh:=ht.shape;have B4:=Afj (A3.out.trans (b4.mono A3.out.size));have K4:=Afj (K3.out.below b4 K3.out.lt);clear b4 ht z0 z1 z2 z3 v0 v1 v2 v3 hz;rcases hsh with ⟨T9,q9,rfl⟩ | rfl)
    all_goals
     have hlt4:=K4.out.lt;generalize hW5:w4.alloc _=w5;have hb5:=Ad hW5;have hX:=Af hW5;have B5:=Afj (B4.out.trans (hb5.mono B4.out.size));have K5:=Afj (K4.out.below hb5 hlt4);obtain ⟨x0,x1,x2,x3,_,_,_,_,hxl⟩:=Bj hX;obtain ⟨z0,z1,z2,z3,v0,v1,v2,v3,hz⟩:=Bj K5.out;clear hb5 hX hW5;go_wp2_with fail
     first
      | (with_reducible refine Cy B5.out K5.out (Afq _) ?_;intro w9 hB9 hk9 hs9 hz9)
      | (have hB9:=B5.out;have hk9:=K5.out;generalize w5=w9 at *)
     clear z0 z1 z2 z3 v0 v1 v2 v3 hz;obtain ⟨z0,z1,z2,z3,_⟩:=Bj hk9;refine bodyPost_ret (v:=.tuple #[.agg Gv,.slice none 0 0,.int .i64 (c:Int),.int .i64 12]) (by simp [results,results39,go_sem,z0,z1,z2,z3]) rfl ?_;rw [←HAE.out];exact ⟨hB9,rfl⟩
   ·have hkk:((kd:Int) == 0)=false:=by simp;omega
    have HAE:=Afj (show (.ok (⟨kd,ln,tx,tr⟩,ms,p):BO Adr)=A from (if_neg hkd).symm.trans HAN.out);clear hkd;go_upto_region 6 with (go_at_call 38;refine hC.mono ?_;clear hC;rintro e w4 ⟨b4,tv,ma,mc,rfl,ht,hm⟩;have hsh:=ht.shape;have HT4:=Afj ht;have HM4:=Afj hm;have B4:=Afj (A3.out.trans (b4.mono A3.out.size));have K4:=Afj (K3.out.below b4 K3.out.lt);clear b4 ht hm z0 z1 z2 z3 v0 v1 v2 v3 hz;rcases hsh with ⟨T9,q9,rfl⟩ | rfl)
    all_goals
     have hlt4:=K4.out.lt;generalize hW5:w4.alloc _=w5;have hb5:=Ad hW5;have hX:=Af hW5;have B5:=Afj (B4.out.trans (hb5.mono B4.out.size));have K5:=Afj (K4.out.below hb5 hlt4);have HT5:=Afj (TrO.below hb5 HT4.out);have HM5:=Afj (Ah HM4.out hb5);have Hlt:=Afj K3.out.lt;obtain ⟨x0,x1,x2,x3,_,_,_,_,hxl⟩:=Bj hX;obtain ⟨z0,z1,z2,z3,v0,v1,v2,v3,hz⟩:=Bj K5.out;clear hb5 hX hW5;go_wp2_with fail
     with_reducible refine Cy B5.out K5.out (Afq _) ?_
     intro w9 hB9 hk9 hs9 hz9;clear z0 z1 z2 z3 v0 v1 v2 v3 hz;obtain ⟨z0,z1,z2,z3,_⟩:=Bj hk9;have hfin:=IX.mk' HAE.out hB9 (TrO.keep (by omega) (fun b hb _=>⟨⟨Afr A3.out.size hb.1,hb.2⟩,fun o=>Afy (w:=w5) (a:=⟨b,o,none⟩) (hs9 b (by have:=Hlt.out;have:=hb.1;omega))⟩) HT5.out) (Ab (BW A3.out.size HM5.out) fun g hg=>hs9 g (by have:=AS HM5.out g hg;have:=Hlt.out;omega));exact bodyPost_ret (by simp [results,results39,go_sem,z0,z1,z2,z3]) rfl hfin
 ·rw [if_neg h44];rw [decide_eq_false h44] at hpf;clear h44 hGW hPW;go_enter func39,ntmps39;go_wp2_with (first
   | (go_at_call 64;refine hB.mono ?_;clear hB;rintro e w1 ⟨rfl,b1'⟩;have B1:=Afj (HA.out.trans (b1'.mono HA.out.size));have K1:=Afj (HR0.out.below b1' HR0.out.lt);clear b1' z0 z1 z2 z3 v0 v1 v2 v3 hz;obtain ⟨z0,z1,z2,z3,v0,v1,v2,v3,hz⟩:=Bj K1.out)
   | (go_at_call 21;refine (hpf _).mono ?_;clear hpf;rintro e w2 ⟨rfl,rfl⟩))
  first
   | (with_reducible refine Cy B1.out K1.out (Afq _) ?_;intro w9 hB9 hk9 hs9 hz9)
   | (have hB9:=B1.out;have hk9:=K1.out;generalize w1=w9 at *)
  clear z0 z1 z2 z3 v0 v1 v2 v3 hz;obtain ⟨z0,z1,z2,z3,_⟩:=Bj hk9;refine bodyPost_ret (v:=.tuple #[.agg Gv,.slice none 0 0,.int .i64 (k:Int),.int .i64 0]) (by simp [results,results39,go_sem,z0,z1,z2,z3]) rfl ?_;exact ⟨hB9,.nilIface,none,0,rfl,rfl,World.ownsRow_nil _ _ _ _⟩
abbrev gdZ:Array Value:=#[.int .i64 0,.int .i64 0,.string ⟨#[]⟩,.nilIface,.int .i64 0,.int .i64 0,.string ⟨#[]⟩,.nilIface,.bool false]
def GdA (w:World) (r:BO Grd) (e:Ending) (w':World):Prop:=Below w.heap.size w w'∧match r with
 | .error q=>e=.returned (.tuple #[.agg gdZ,.slice none 0 0,.int .i64 (q.2:Int),.int .i64 (q.1:Int)])
 | .ok q=>∃ ta tb ma mc,e=.returned (.tuple #[.agg #[.int .i64 (q.1.a.kind:Int),.int .i64 (q.1.a.line:Int),.string (txt q.1.a.text),ta,.int .i64 (q.1.b.kind:Int),.int .i64 (q.1.b.line:Int),.string (txt q.1.b.text),tb,.bool q.1.no],.slice ma q.2.1.length mc,.int .i64 (q.2.2:Int),.int .i64 0])∧
  TrO (fun b=>w.heap.size < b∧(Value.slice ma q.2.1.length mc).ownBlock≠some b) w' q.1.a.tree ta∧TrO (fun b=>w.heap.size < b∧(Value.slice ma q.2.1.length mc).ownBlock≠some b) w' q.1.b.tree tb∧w'.ownsRow (w.heap.size+1) 33 2 (.slice ma q.2.1.length mc) q.2.1.length (wmC q.2.1)
theorem BX {w:World} {b:Nat} {T:TypeId} {v0 v1 v2 v3 v4 v5 v6 v7 v8:Value} (h:Blk w b #[v0,v1,v2,v3,v4,v5,v6,v7,v8] T) :
  (w.cell? ⟨b,0,none⟩=some v0∧w.cell? ⟨b,1,none⟩=some v1∧w.cell? ⟨b,2,none⟩=some v2∧w.cell? ⟨b,3,none⟩=some v3∧w.cell? ⟨b,4,none⟩=some v4∧w.cell? ⟨b,5,none⟩=some v5∧w.cell? ⟨b,6,none⟩=some v6∧w.cell? ⟨b,7,none⟩=some v7∧w.cell? ⟨b,8,none⟩=some v8)∧
  (w.frozen? ⟨b,0,none⟩=false∧w.frozen? ⟨b,1,none⟩=false∧w.frozen? ⟨b,2,none⟩=false∧w.frozen? ⟨b,3,none⟩=false∧w.frozen? ⟨b,4,none⟩=false∧w.frozen? ⟨b,5,none⟩=false∧w.frozen? ⟨b,6,none⟩=false∧w.frozen? ⟨b,7,none⟩=false∧w.frozen? ⟨b,8,none⟩=false∧b < w.heap.size):=
 ⟨⟨(h.cell 0).trans rfl,(h.cell 1).trans rfl,(h.cell 2).trans rfl,(h.cell 3).trans rfl,(h.cell 4).trans rfl,(h.cell 5).trans rfl,(h.cell 6).trans rfl,(h.cell 7).trans rfl,(h.cell 8).trans rfl⟩,h.frozen 0,h.frozen 1,h.frozen 2,h.frozen 3,h.frozen 4,h.frozen 5,h.frozen 6,h.frozen 7,h.frozen 8,h.lt⟩
theorem IE {P:Program} {fn:Func} {Q:Ending→World→Prop} {e:Exit} {act:Act} {w0 w:World} {p:Nat} {T:TypeId} {u0 u1 u2 u3 u4 u5 u6 u7 u8:Value} (hb:Below w0.heap.size w0 w) (h:Blk w p #[u0,u1,u2,u3,u4,u5,u6,u7,u8] T) (hp:w0.heap.size≤p) {v0 v1 v2 v3 v4 v5 v6 v7 v8:Value}
  (H:∀ w',Below w0.heap.size w0 w'→Blk w' p #[v0,v1,v2,v3,v4,v5,v6,v7,v8] T→(∀ b,b≠p→w'.heap[b]?=w.heap[b]?)→w'.heap.size=w.heap.size→bodyPost P fn Q e act w') :
  bodyPost P fn Q e act (((((((((w.setCell ⟨p,0,none⟩ v0).setCell ⟨p,1,none⟩ v1).setCell ⟨p,2,none⟩ v2).setCell ⟨p,3,none⟩ v3).setCell ⟨p,4,none⟩ v4).setCell ⟨p,5,none⟩ v5).setCell ⟨p,6,none⟩ v6).setCell ⟨p,7,none⟩ v7).setCell ⟨p,8,none⟩ v8):=by
 have h9:=((((((((h.set 0 v0).set 1 v1).set 2 v2).set 3 v3).set 4 v4).set 5 v5).set 6 v6).set 7 v7).set 8 v8;have hcs:((((((((((#[u0,u1,u2,u3,u4,u5,u6,u7,u8]:Array Value).setIfInBounds 0 v0).setIfInBounds 1 v1).setIfInBounds 2 v2).setIfInBounds 3 v3).setIfInBounds 4 v4).setIfInBounds 5 v5).setIfInBounds 6 v6).setIfInBounds 7 v7).setIfInBounds 8 v8)=#[v0,v1,v2,v3,v4,v5,v6,v7,v8]:=by
  simp
 rw [hcs] at h9;clear hcs h;have o1:∀ (w:World) (j:Nat) (v:Value) b,b≠p→(w.setCell ⟨p,j,none⟩ v).heap[b]?=w.heap[b]?:=fun w j v b hb=>Afw _ _ _ _ (fun e=>hb e)
 have s1:∀ (w:World) (j:Nat) (v:Value),(w.setCell ⟨p,j,none⟩ v).heap.size=w.heap.size:=fun w j v=>by simp [World.setCell]
 refine H _ ?_ h9 (fun b hb=>?_) ?_
 ·exact ((((((((hb.setCell (p:=⟨p,0,none⟩) hp v0).setCell (p:=⟨p,1,none⟩) hp v1).setCell (p:=⟨p,2,none⟩) hp v2).setCell (p:=⟨p,3,none⟩) hp v3).setCell (p:=⟨p,4,none⟩) hp v4).setCell (p:=⟨p,5,none⟩) hp v5).setCell (p:=⟨p,6,none⟩) hp v6).setCell (p:=⟨p,7,none⟩) hp v7).setCell (p:=⟨p,8,none⟩) hp v8
 ·exact (o1 _ 8 v8 b hb).trans ((o1 _ 7 v7 b hb).trans ((o1 _ 6 v6 b hb).trans ((o1 _ 5 v5 b hb).trans ((o1 _ 4 v4 b hb).trans ((o1 _ 3 v3 b hb).trans ((o1 _ 2 v2 b hb).trans ((o1 _ 1 v1 b hb).trans (o1 _ 0 v0 b hb))))))))
 ·exact (s1 _ 8 v8).trans ((s1 _ 7 v7).trans ((s1 _ 6 v6).trans ((s1 _ 5 v5).trans ((s1 _ 4 v4).trans ((s1 _ 3 v3).trans ((s1 _ 2 v2).trans ((s1 _ 1 v1).trans (s1 _ 0 v0))))))))
structure GdSt (w:World) (g:Nat) (a b:Adr) (ta tb:Value) (no:Value) (ms:List Wm) (ma:Option Addr) (mc:Nat) (W:World):Prop where
 b0:Below w.heap.size w W
 p:Blk W w.heap.size gdZ 49
 q:Blk W g #[.int .i64 (a.kind:Int),.int .i64 (a.line:Int),.string (txt a.text),ta,.int .i64 (b.kind:Int),.int .i64 (b.line:Int),.string (txt b.text),tb,no] 49
 pg:w.heap.size < g
 ha:TrO (fun b=>w.heap.size < b∧b≠g∧(Value.slice ma ms.length mc).ownBlock≠some b) W a.tree ta
 hb:TrO (fun b=>w.heap.size < b∧b≠g∧(Value.slice ma ms.length mc).ownBlock≠some b) W b.tree tb
 r:W.ownsRow (w.heap.size+1) 33 2 (.slice ma ms.length mc) ms.length (wmC ms)
 rg:(Value.slice ma ms.length mc).ownBlock≠some g
theorem GdSt.step {w:World} {g:Nat} {a b:Adr} {ta tb no:Value} {ms:List Wm} {ma:Option Addr} {mc:Nat} {W W':World} (h:GdSt w g a b ta tb no ms ma mc W) (hb:Below W.heap.size W W'):GdSt w g a b ta tb no ms ma mc W':=
 ⟨h.b0.trans (hb.mono h.b0.size),h.p.below hb h.p.lt,h.q.below hb h.q.lt,h.pg,h.ha.below hb,h.hb.below hb,Ah h.r hb,h.rg⟩
theorem GdSt.not {w:World} {g:Nat} {a b:Adr} {ta tb no:Value} {ms:List Wm} {ma:Option Addr} {mc:Nat} {W:World} (h:GdSt w g a b ta tb no ms ma mc W) (n:Value):GdSt w g a b ta tb n ms ma mc (W.setCell ⟨g,8,none⟩ n):=by
 have hpg:=h.pg;have o1:∀ b,b≠g→(W.setCell ⟨g,8,none⟩ n).heap[b]?=W.heap[b]?:=fun b hb=>Afw _ _ _ _ (fun e=>hb e)
 have hsz:(W.setCell ⟨g,8,none⟩ n).heap.size=W.heap.size:=by simp [World.setCell]
 have hk:∀ {t v},TrO (fun b=>w.heap.size < b∧b≠g∧(Value.slice ma ms.length mc).ownBlock≠some b) W t v→TrO (fun b=>w.heap.size < b∧b≠g∧(Value.slice ma ms.length mc).ownBlock≠some b) (W.setCell ⟨g,8,none⟩ n) t v:=fun hk=>TrO.keep (by omega) (fun b hb _=>⟨hb,fun o=>Afy (w:=W) (a:=⟨b,o,none⟩) (o1 b hb.2.1)⟩) hk
 exact ⟨h.b0.setCell (p:=⟨g,8,none⟩) (Afu hpg) n,Ey h.p (o1 _ (by omega)),h.q.set 8 n,hpg,hk h.ha,hk h.hb,Ab h.r fun b hb=>o1 b fun e=>h.rg (by rw [hb,e]),h.rg⟩
theorem GdSt.end {w:World} {g:Nat} {a b:Adr} {ta tb:Value} {no:Bool} {ms:List Wm} {ma:Option Addr} {mc:Nat} {W W':World} (h:GdSt w g a b ta tb (.bool no) ms ma mc W) (h1:Below w.heap.size w W') (hs:∀ b,b≠w.heap.size→W'.heap[b]?=W.heap[b]?) (hz:W'.heap.size=W.heap.size) (p:Nat) :
  GdA w (.ok (⟨a,b,no⟩,ms,p)) (.returned (.tuple #[.agg #[.int .i64 (a.kind:Int),.int .i64 (a.line:Int),.string (txt a.text),ta,.int .i64 (b.kind:Int),.int .i64 (b.line:Int),.string (txt b.text),tb,.bool no],.slice ma ms.length mc,.int .i64 (p:Int),.int .i64 0])) W':=by
 have hk:∀ {t v},TrO (fun b=>w.heap.size < b∧b≠g∧(Value.slice ma ms.length mc).ownBlock≠some b) W t v→TrO (fun b=>w.heap.size < b∧(Value.slice ma ms.length mc).ownBlock≠some b) W' t v:=fun hk=>TrO.keep (by omega) (fun b hb _=>⟨⟨hb.1,hb.2.2⟩,fun o=>Afy (w:=W) (a:=⟨b,o,none⟩) (hs b (by have:=hb.1;omega))⟩) hk
 exact ⟨h1,ta,tb,ma,mc,rfl,hk h.ha,hk h.hb,Ab h.r fun b hb=>hs b (by have:=AS h.r b hb;omega)⟩
theorem Gs {L:List UInt8} {k:Nat} {q:Nat × Nat} (h:C4 L k=.error q):q.1≠0:=by
 unfold C4 at h;split at h
 ·split at h
  ·injection h with h;rw [←h];exact Nat.succ_ne_zero _
  ·cases h
 ·cases h
theorem QV {w:World} {B:Nat} {T:TypeId} {a:Option Addr} {n c:Nat} {xs:List Value} {size:Nat} (h:w.ownsRow B T size (.slice a n c) n xs):0 < n→∃ ad,a=some ad∧∀ j u,xs[j]?=some u→w.cell? (ad.add j)=some u:=fun h0=>by
 have h2:=h;rcases h.2 with ⟨_,h3⟩ | ⟨q,cap,cur,e,_⟩
 ·omega
 ·injection e with e1 _ e2;subst e1 e2;exact ⟨_,rfl,h2.cells rfl⟩
theorem GdSt.sec {w:World} {g:Nat} {a:Adr} {ta:Value} {ms:List Wm} {ma:Option Addr} {mc:Nat} {W:World} (h:GdSt w g a GD ta .nilIface (.bool false) ms ma mc W) {b:Adr} {tb:Value} {ms2:List Wm} {mb:Option Addr} {mcb B2:Nat} (hg:g < B2) (hq:∀ q,(Value.slice ma ms.length mc).ownBlock=some q→q < B2)
  (hb2:TrO (fun x=>B2≤x∧(Value.slice mb ms2.length mcb).ownBlock≠some x) W b.tree tb) {W9:World} {m9:Option Addr} {c9:Nat} (e0:Below w.heap.size w W9) (hsz:W.heap.size≤W9.heap.size)
  (hp9:∀ x,x < W.heap.size→x≠g→(Value.slice ma ms.length mc).ownBlock≠some x→W9.heap[x]?=W.heap[x]?)
  (hq9:Blk W9 g #[.int .i64 (a.kind:Int),.int .i64 (a.line:Int),.string (txt a.text),ta,.int .i64 (b.kind:Int),.int .i64 (b.line:Int),.string (txt b.text),tb,.bool false] 49)
  (hr9:W9.ownsRow (w.heap.size+1) 33 2 (.slice m9 (ms.length+ms2.length) c9) (ms.length+ms2.length) (wmC ms++wmC ms2)) (hat:(Value.slice m9 (ms.length+ms2.length) c9).ownBlock=(Value.slice ma ms.length mc).ownBlock∨∃ x,(Value.slice m9 (ms.length+ms2.length) c9).ownBlock=some x∧W.heap.size≤x) :
  GdSt w g a b ta tb (.bool false) (ms++ms2) m9 c9 W9:=by
 have hpg:=h.pg;have hgl:=h.q.lt;have hn:∀ x,x < W.heap.size→(Value.slice ma ms.length mc).ownBlock≠some x→(Value.slice m9 (ms.length+ms2.length) c9).ownBlock≠some x:=fun x hx h1 e=>by
  rcases hat with h2 | ⟨y,h2,hy⟩
  ·exact h1 (h2.symm.trans e)
  ·rw [h2] at e;injection e with e;omega
 have hl:(ms++ms2).length=ms.length+ms2.length:=Afs;refine ⟨e0,Ey h.p (hp9 _ (by omega) (by omega) fun e=>by have:=AS h.r _ e;omega),hq9,hpg,?_,?_,?_,?_⟩
 ·rw [hl];exact TrO.keep hsz (fun x hx hl=>⟨⟨hx.1,hx.2.1,hn x hl hx.2.2⟩,fun o=>Afy (w:=W) (a:=⟨x,o,none⟩) (hp9 x hl hx.2.1 hx.2.2)⟩) h.ha
 ·rw [hl];refine TrO.keep hsz (fun x hx hl=>?_) hb2;have h1:(Value.slice ma ms.length mc).ownBlock≠some x:=fun e=>by have:=hq x e;have:=hx.1;omega
  have h2:x≠g:=by have:=hx.1;omega
  exact ⟨⟨by have:=hx.1;omega,h2,hn x hl h1⟩,fun o=>Afy (w:=W) (a:=⟨x,o,none⟩) (hp9 x hl h2 h1)⟩
 ·rw [hl,MR];exact hr9
 ·rw [hl];exact hn g hgl h.rg
theorem Adi {W:World} {g:Nat} {T:TypeId} {u0 u1 u2 u3 u4 u5 u6 u7 u8:Value} (h:Blk W g #[u0,u1,u2,u3,u4,u5,u6,u7,u8] T) (v4 v5 v6 v7:Value) (w':World)
  (hw:((((W.setCell ⟨g,4,none⟩ v4).setCell ⟨g,5,none⟩ v5).setCell ⟨g,6,none⟩ v6).setCell ⟨g,7,none⟩ v7)=w') :
  Blk w' g #[u0,u1,u2,u3,v4,v5,v6,v7,u8] T∧(∀ b,b≠g→w'.heap[b]?=W.heap[b]?)∧w'.heap.size=W.heap.size∧(∀ B,B≤g→Below B W w'):=by
 subst hw;have o1:∀ (w:World) (j:Nat) (v:Value) b,b≠g→(w.setCell ⟨g,j,none⟩ v).heap[b]?=w.heap[b]?:=fun w j v b hb=>Afw _ _ _ _ (fun e=>hb e)
 refine ⟨(((h.set 4 v4).set 5 v5).set 6 v6).set 7 v7,fun b hb=>?_,by simp [World.setCell],fun B hB=>?_⟩
 ·rw [o1 _ _ _ _ hb,o1 _ _ _ _ hb,o1 _ _ _ _ hb,o1 _ _ _ _ hb]
 ·exact (((((Afv _ _).setCell (p:=⟨g,4,none⟩) hB v4).setCell (p:=⟨g,5,none⟩) hB v5).setCell (p:=⟨g,6,none⟩) hB v6).setCell (p:=⟨g,7,none⟩) hB v7)
theorem U4 (ext:Bool) (s:ByteArray) (k:Nat) (w:World) (hs:s.size≤4000000) (hk:k≤s.size) (hG:Gl w) (hP:GP w) :
  Calls prog 31 #[.string s,.int .i64 (k:Int),.bool ext] w (GdA w (GS ext s.data.toList k)):=by
 have hA:=(Afv w.heap.size w).alloc (Afq _) (.cells gdZ 49);have hR0:=Blk.new w gdZ 49 w.heap.size rfl;obtain ⟨W,hW⟩:∃ W,w.alloc (.cells gdZ 49)=W:=⟨_,rfl⟩;rw [hW] at hA hR0;have hGW:=hG.up hA;have hPW:=hP.up hA;have hAd:=S4 ext false s k W hs hk hGW hPW;unfold GS;have hwe:∀ q,DQ ext false s.data.toList k=.error q→q.1≠0:=fun q h=>Js h
 have hle:∀ q,DQ ext false s.data.toList k=.ok q→q.2.2≤s.size∧q.2.1.length≤251:=fun q h=>Nk s (by omega) h
 generalize DQ ext false s.data.toList k=R at hAd hwe hle ⊢;obtain ⟨A,hans⟩:∃ A,FK s.data.toList (CT ext s.data.toList R)=A:=⟨_,rfl⟩;rw [hans];have HAN:=Afj hans;have HA:=Afj hA;have HR0:=Afj hR0;have HG:=Afj hGW;have HP:=Afj hPW;clear hans hA hR0 hG hP hGW hPW;cases R with
 | error q=>
  obtain ⟨n,p⟩:=q;have hn:n≠0:=hwe _ rfl;have hnn:((n:Int) != 0)=true:=by simp;omega
  have HAE:=Afj (show (.error (n,p):BO Grd)=A from HAN.out);clear hwe hn hle;go_enter func31,ntmps31;go_upto_region 2 with (go_at_call 38;refine hAd.mono ?_;clear hAd;rintro e w1 ⟨b1,rfl⟩;have B1:=Afj (HA.out.trans (b1.mono HA.out.size));have K1:=Afj (HR0.out.below b1 HR0.out.lt);clear b1)
  have hlt1:=K1.out.lt;generalize hW2:w1.alloc _=w2;have hb2:=Ad hW2;have B2:=Afj (B1.out.trans (hb2.mono B1.out.size));have K2:=Afj (K1.out.below hb2 hlt1);clear hb2 hW2;obtain ⟨⟨z0,z1,z2,z3,z4,z5,z6,z7,z8⟩,v0,v1,v2,v3,v4,v5,v6,v7,v8,hz⟩:=BX K2.out;go_wp2_with fail
  first
   | (with_reducible refine IE B2.out K2.out (Afq _) ?_;intro w9 hB9 hk9 hs9 hz9)
   | (have hB9:=B2.out;have hk9:=K2.out;generalize w2=w9 at *)
  clear z0 z1 z2 z3 z4 z5 z6 z7 z8 v0 v1 v2 v3 v4 v5 v6 v7 v8 hz;obtain ⟨⟨z0,z1,z2,z3,z4,z5,z6,z7,z8⟩,_⟩:=BX hk9;refine bodyPost_ret (v:=.tuple #[.agg gdZ,.slice none 0 0,.int .i64 (p:Int),.int .i64 (n:Int)]) (by simp [results,results31,go_sem,z0,z1,z2,z3,z4,z5,z6,z7,z8]) rfl ?_;rw [←HAE.out];exact ⟨hB9,rfl⟩
 | ok q=>
  obtain ⟨a,ms,p⟩:=q;clear hwe;obtain ⟨hpl,hml⟩:=hle _ rfl;simp only at hpl hml;clear hle;have hAd:Calls prog 38 #[.string s,.int .i64 (k:Int),.bool ext,.bool false] W fun e w'=>IX W (.ok (a,ms,p)) e w':=hAd
  simp only [IX] at hAd;go_enter func31,ntmps31;go_upto_region 2 with (go_at_call 38;refine hAd.mono ?_;clear hAd;rintro e w1 ⟨b1,ta,ma,mc,rfl,hta,hm⟩;have HT1:=Afj hta;have HM1:=Afj hm;have hsh:=hta.shape;have B1:=Afj (HA.out.trans (b1.mono HA.out.size));have C1:=Afj b1;have K1:=Afj (HR0.out.below b1 HR0.out.lt);clear b1 hta hm;rcases hsh with ⟨T9,q9,rfl⟩ | rfl)
  all_goals
   have hlt1:=K1.out.lt;generalize hW2:w1.alloc _=w2;have hb2:=Ad hW2;have hX:=Af hW2;obtain ⟨x0,x1,x2,x3,_,_,_,_,hxl⟩:=Bj hX;have B2:=Afj hb2;clear hX;go_upto_region 5 with fail;generalize hW3:w2.alloc _=w3;have hb3:=Ad hW3;have hY:=Af hW3;have hW0:=HR0.out.lt;have hg:w.heap.size < w2.heap.size:=by have:=hb2.size;omega
   have hb13:=(B2.out.trans (hb3.mono B2.out.size))
   have S3:=Afj (show GdSt w w2.heap.size a GD _ .nilIface (.bool false) ms ma mc w3 from
    ⟨B1.out.trans (hb13.mono B1.out.size),K1.out.below hb13 hlt1,hY,hg,
     TrO.keep (F:=fun b=>W.heap.size≤b∧(Value.slice ma ms.length mc).ownBlock≠some b) hb13.size (fun b hb hl=>⟨⟨by have:=hb.1;omega,by have:=B2.out.size;omega,hb.2⟩,fun o=>hb13.cell (p:=⟨b,o,none⟩) hl⟩) HT1.out,rfl,
     BW (by omega) (Ah HM1.out hb13),fun e=>by have:=K7 HM1.out _ e;have:=hb2.size;omega⟩)
   have D3:=Afj (C1.out.trans (hb13.mono C1.out.size));obtain ⟨g,hgq⟩:∃ g,w2.heap.size=g:=⟨_,rfl⟩;rw [hgq] at S3 ⊢;have hxl3:w1.heap.size < w3.heap.size:=by have:=hb13.size;have:=hb3.size;omega
   replace x0:=(hb3.cell (p:=⟨w1.heap.size,0,none⟩) hxl).trans x0;replace x1:=(hb3.cell (p:=⟨w1.heap.size,1,none⟩) hxl).trans x1;replace x2:=(hb3.cell (p:=⟨w1.heap.size,2,none⟩) hxl).trans x2;replace x3:=(hb3.cell (p:=⟨w1.heap.size,3,none⟩) hxl).trans x3;clear hb2 hb3 hY hb13 hg hlt1 hW2 hW3 hW0 hgq;obtain ⟨kd,hkd⟩:∃ kd,a.kind=kd:=⟨_,rfl⟩;rw [hkd] at x0;have Hkd:=Afj hkd;by_cases hk0:kd=0
   ·subst hk0;have HAE:=Afj (show EX a GD ms (C4 s.data.toList p)=A from by
     rw [←HAN.out];show _=FK s.data.toList (if a.kind=0 then _ else _);rw [if_pos Hkd.out];rfl)
    clear hkd;go_upto_region 10 with fail
    (try clear x0);(try clear x1);(try clear x2);(try clear x3)
    have hnt:=OO s p w3 hs hpl;have hne9:∀ q,C4 s.data.toList p=.error q→q.1≠0:=fun q h=>Gs h
    generalize C4 s.data.toList p=N at hnt hne9 HAE;obtain ⟨⟨y0,y1,y2,y3,y4,y5,y6,y7,y8⟩,f0,f1,f2,f3,f4,f5,f6,f7,f8,hyl⟩:=BX S3.out.q;cases N with
    | error q=>
     obtain ⟨n2,p2⟩:=q;have hn:n2≠0:=hne9 _ rfl;have hnn:((n2:Int) != 0)=true:=by simp;omega
     clear hne9 hn;go_upto_region 11 with (go_at_call 40;refine hnt.mono ?_;clear hnt;rintro e w8 ⟨b8,rfl⟩;have S8:=Afj (S3.out.step b8);clear b8 y0 y1 y2 y3 y4 y5 y6 y7 y8 f0 f1 f2 f3 f4 f5 f6 f7 f8 hyl;obtain ⟨⟨y0,y1,y2,y3,y4,y5,y6,y7,y8⟩,f0,f1,f2,f3,f4,f5,f6,f7,f8,hyl⟩:=BX S8.out.q)
     have S9:=Afj (S8.out.not (.bool false));clear y0 y1 y2 y3 y4 y5 y6 y7 y8 f0 f1 f2 f3 f4 f5 f6 f7 f8 hyl;first
      | generalize w8.setCell ⟨g,8,none⟩ (.bool false)=w9 at *
      | (replace S9:=S8;generalize w8=w9 at *)
     obtain ⟨⟨z0,z1,z2,z3,z4,z5,z6,z7,z8⟩,v0,v1,v2,v3,v4,v5,v6,v7,v8,hz⟩:=BX S9.out.p;go_wp2_with fail
     first
      | (with_reducible refine IE S9.out.b0 S9.out.p (Afq _) ?_;intro w10 hB9 hk9 hs9 hz9)
      | (have hB9:=S9.out.b0;have hk9:=S9.out.p;generalize w9=w10 at *)
     clear z0 z1 z2 z3 z4 z5 z6 z7 z8 v0 v1 v2 v3 v4 v5 v6 v7 v8 hz;obtain ⟨⟨z0,z1,z2,z3,z4,z5,z6,z7,z8⟩,_⟩:=BX hk9;refine bodyPost_ret (v:=.tuple #[.agg gdZ,.slice none 0 0,.int .i64 (p2:Int),.int .i64 (n2:Int)]) (by simp [results,results31,go_sem,z0,z1,z2,z3,z4,z5,z6,z7,z8]) rfl ?_;rw [←HAE.out];exact ⟨hB9,rfl⟩
    | ok q=>
     obtain ⟨no,p2⟩:=q;clear hne9;go_upto_region 11 with (go_at_call 40;refine hnt.mono ?_;clear hnt;rintro e w8 ⟨b8,rfl⟩;have S8:=Afj (S3.out.step b8);clear b8 y0 y1 y2 y3 y4 y5 y6 y7 y8 f0 f1 f2 f3 f4 f5 f6 f7 f8 hyl;obtain ⟨⟨y0,y1,y2,y3,y4,y5,y6,y7,y8⟩,f0,f1,f2,f3,f4,f5,f6,f7,f8,hyl⟩:=BX S8.out.q)
     have S9:=Afj (S8.out.not (.bool no));clear y0 y1 y2 y3 y4 y5 y6 y7 y8 f0 f1 f2 f3 f4 f5 f6 f7 f8 hyl;generalize w8.setCell ⟨g,8,none⟩ (.bool no)=w9 at *;obtain ⟨⟨y0,y1,y2,y3,y4,y5,y6,y7,y8⟩,f0,f1,f2,f3,f4,f5,f6,f7,f8,hyl⟩:=BX S9.out.q;obtain ⟨⟨z0,z1,z2,z3,z4,z5,z6,z7,z8⟩,v0,v1,v2,v3,v4,v5,v6,v7,v8,hz⟩:=BX S9.out.p;have hwg:=S9.out.pg;go_wp2_with fail
     with_reducible refine IE S9.out.b0 S9.out.p (Afq _) ?_
     intro w10 hB9 hk9 hs9 hz9;clear z0 z1 z2 z3 z4 z5 z6 z7 z8 v0 v1 v2 v3 v4 v5 v6 v7 v8 hz y0 y1 y2 y3 y4 y5 y6 y7 y8 f0 f1 f2 f3 f4 f5 f6 f7 f8 hyl;obtain ⟨⟨z0,z1,z2,z3,z4,z5,z6,z7,z8⟩,_⟩:=BX hk9;have hfin:=S9.out.end hB9 hs9 hz9 p2;rw [show (.ok (⟨_,_,no⟩,_,p2):BO Grd)=A from HAE.out] at hfin;exact bodyPost_ret (by simp [results,results31,go_sem,z0,z1,z2,z3,z4,z5,z6,z7,z8]) rfl hfin
   ·have hkk:((kd:Int) != 0)=true:=by simp;omega
    have HAE:=Afj (show FK s.data.toList (EG a ms (BC ext s.data.toList p))=A from by
     rw [←HAN.out];show _=FK s.data.toList (if a.kind=0 then _ else _);rw [if_neg (by rw [Hkd.out];exact hk0)])
    have hsc:=Xp ext s p w3 hs hpl (HG.out.up D3.out) (HP.out.up D3.out);have hne:∀ q,BC ext s.data.toList p=.error q→q.1≠0:=fun q h=>LL h
    have hle2:∀ q,BC ext s.data.toList p=.ok q→q.2.2≤s.size∧q.2.1.length≤251:=fun q h=>Xo s hpl h
    generalize BC ext s.data.toList p=R2 at hsc hne hle2 HAE;clear hkd hk0;go_upto_region 6 with fail;clear x0 x1 x2 x3;cases R2 with
    | error q=>
     obtain ⟨n2,p2⟩:=q;have hn:n2≠0:=hne _ rfl;have hnn:((n2:Int) != 0)=true:=by simp;omega
     clear hne hle2 hn;go_upto_region 7 with (go_at_call 39;refine hsc.mono ?_;clear hsc;rintro e w5 ⟨b5,rfl⟩;have S5:=Afj (S3.out.step b5);clear b5)
     generalize hW6:w5.alloc _=w6;have S6:=Afj (S5.out.step (Ad hW6));clear hW6;obtain ⟨⟨z0,z1,z2,z3,z4,z5,z6,z7,z8⟩,v0,v1,v2,v3,v4,v5,v6,v7,v8,hz⟩:=BX S6.out.p;go_wp2_with fail
     first
      | (with_reducible refine IE S6.out.b0 S6.out.p (Afq _) ?_;intro w10 hB9 hk9 hs9 hz9)
      | (have hB9:=S6.out.b0;have hk9:=S6.out.p;generalize w6=w10 at *)
     clear z0 z1 z2 z3 z4 z5 z6 z7 z8 v0 v1 v2 v3 v4 v5 v6 v7 v8 hz;obtain ⟨⟨z0,z1,z2,z3,z4,z5,z6,z7,z8⟩,_⟩:=BX hk9;refine bodyPost_ret (v:=.tuple #[.agg gdZ,.slice none 0 0,.int .i64 (p2:Int),.int .i64 (n2:Int)]) (by simp [results,results31,go_sem,z0,z1,z2,z3,z4,z5,z6,z7,z8]) rfl ?_;rw [←HAE.out];exact ⟨hB9,rfl⟩
    | ok q=>
     obtain ⟨b,ms2,p2⟩:=q;clear hne;obtain ⟨hpl2,hml2⟩:=hle2 _ rfl;simp only at hpl2 hml2;clear hle2;replace HAE:=Afj (show EX a b (ms++ms2) (C4 s.data.toList p2)=A from HAE.out);have hsc:Calls prog 39 #[.string s,.int .i64 (p:Int),.bool ext] w3 fun e w'=>IX w3 (.ok (b,ms2,p2)) e w':=hsc
     simp only [IX] at hsc;go_upto_region 7 with (go_at_call 39;refine hsc.mono ?_;clear hsc;rintro e w5 ⟨b5,tb,mb,mcb,rfl,htb,hmb⟩;have S5:=Afj (S3.out.step b5);have T5:=Afj htb;have M5:=Afj hmb;have Z5:=Afj b5.size;have hsh2:=htb.shape;clear b5 htb hmb;rcases hsh2 with ⟨T8,q8,rfl⟩ | rfl)
     all_goals
      generalize hW6:w5.alloc _=w6;have hb6:=Ad hW6;have hX:=Af hW6;have S6:=Afj (S5.out.step hb6);have T6:=Afj (TrO.below hb6 T5.out);have M6:=Afj (Ah M5.out hb6);have HX:=Afj hX;have Hg3:=Afj S3.out.q.lt;have Hq3:=Afj (fun q (e:(Value.slice ma ms.length mc).ownBlock=some q)=>K7 S3.out.r q e);have Hx5:=Afj (show w3.heap.size≤w5.heap.size from Z5.out);obtain ⟨x,hx⟩:∃ x,w5.heap.size=x:=⟨_,rfl⟩;have Hxl:=Afj (show x < w6.heap.size by rw [←hx];exact hX.lt);rw [hx] at HX Hx5 ⊢;clear hb6 hX hW6 hx;obtain ⟨x0,x1,x2,x3,_,_,_,_,hxl⟩:=Bj HX.out;obtain ⟨⟨y0,y1,y2,y3,y4,y5,y6,y7,y8⟩,f0,f1,f2,f3,f4,f5,f6,f7,f8,hyl⟩:=BX S6.out.q;obtain ⟨i0,hi,hz0,hz1,hz2⟩:=C3;have hm1:ms.length+ms2.length≤maxLen:=by unfold maxLen;omega
      have hm2:(ms.length+ms2.length) * 24≤140737488355328:=by omega
      have hbs:w.heap.size+1≤w6.heap.size:=by have:=S6.out.pg;omega
      have hxo:(Value.slice ma ms.length mc).ownBlock≠some x:=fun e=>by have:=Hq3.out x e;have:=Hx5.out;omega
      have HXO:=Afj hxo;clear hxo;go_upto_region 9 with fail
      go_region_law (first
       | (refine A6 rfl _ _ 26 rfl (w.heap.size+1) 33 i0 (.agg #[.int .i64 0,.string ⟨#[]⟩]) 2 24 underlying26 hi hz0 hz1 hz2 rfl (by decide) (.slice ma ms.length mc) ms.length (wmC ms) rfl S6.out.r mb ms2.length mcb (wmC ms2) rfl (MS ms2) (QV M6.out) (MU ms2) hm1 hm2 hbs ?_;intro v7 w7 hown7 hgr7 hat7;obtain ⟨m7,c7,rfl⟩:=AB hown7;have HO7:=Afj hown7;have HG7:=Afj hgr7;have HA7:=Afj hat7;have HX7:=Afj (AM HX.out.drew hgr7 HXO.out);have HY7:=Afj (AM S6.out.q.drew hgr7 S6.out.rg);clear hown7 hgr7 hat7 x0 x1 x2 x3 hxl y0 y1 y2 y3 y4 y5 y6 y7 y8 f0 f1 f2 f3 f4 f5 f6 f7 f8 hyl;obtain ⟨x0,x1,x2,x3,_,_,_,_,hxl⟩:=Bj HX7.out;obtain ⟨⟨y0,y1,y2,y3,y4,y5,y6,y7,y8⟩,f0,f1,f2,f3,f4,f5,f6,f7,f8,hyl⟩:=BX HY7.out))
      all_goals
       have hS7:=HG7.out.size;generalize hW8:((((w7.setCell ⟨g,4,none⟩ _).setCell ⟨g,5,none⟩ _).setCell ⟨g,6,none⟩ _).setCell ⟨g,7,none⟩ _)=w8;obtain ⟨k1,k2,k3,k4⟩:=Adi HY7.out _ _ _ _ w8 hW8;have hgl:=S6.out.q.lt;have hpg:=S6.out.pg;have hng:∀ q,(Value.slice m7 (ms.length+ms2.length) c7).ownBlock=some q→q≠g:=fun q e e2=>by
        subst e2;rcases HA7.out with h | h
        ·exact S6.out.rg (h.symm.trans e)
        ·rw [h] at e;injection e with e;have:w6.heap.size=q:=e;omega
       have S9:=Afj (GdSt.sec S6.out Hg3.out Hq3.out T6.out (((S6.out.b0.drew).grown HG7.out S6.out.b0.size (fun q e=>Nat.le_of_succ_le (AS S6.out.r q e))).trans (k4 _ (Afu hpg))) (by have:w6.heap.size≤w7.heap.size:=hS7;omega)
        (fun y hy h1 h2=>(k2 y h1).trans (HG7.out.block y hy fun e=>h2 e.symm)) k1 (Ab HO7.out fun q e=>k2 q (hng q e)) (HA7.out.imp id fun e=>⟨_,e,Afq _⟩))
       have Hm7:=Afj (show (ms++ms2).length=ms.length+ms2.length from Afs);clear k1 k2 k3 k4 hgl hpg hng hS7 hW8 x0 x1 x2 x3 hxl y0 y1 y2 y3 y4 y5 y6 y7 y8 f0 f1 f2 f3 f4 f5 f6 f7 f8 hyl;go_upto_region 10 with fail;have hnt:=OO s p2 w8 hs hpl2;have hne9:∀ q,C4 s.data.toList p2=.error q→q.1≠0:=fun q h=>Gs h
       generalize C4 s.data.toList p2=N at hnt hne9 HAE;obtain ⟨⟨y0,y1,y2,y3,y4,y5,y6,y7,y8⟩,f0,f1,f2,f3,f4,f5,f6,f7,f8,hyl⟩:=BX S9.out.q;cases N with
       | error q=>
        obtain ⟨n2,p2⟩:=q;have hn:n2≠0:=hne9 _ rfl;have hnn:((n2:Int) != 0)=true:=by simp;omega
        clear hne9 hn;go_upto_region 11 with (go_at_call 40;refine hnt.mono ?_;clear hnt;rintro e w8 ⟨b8,rfl⟩;have S8:=Afj (S9.out.step b8);clear b8 y0 y1 y2 y3 y4 y5 y6 y7 y8 f0 f1 f2 f3 f4 f5 f6 f7 f8 hyl;obtain ⟨⟨y0,y1,y2,y3,y4,y5,y6,y7,y8⟩,f0,f1,f2,f3,f4,f5,f6,f7,f8,hyl⟩:=BX S8.out.q)
        have S9:=Afj (S8.out.not (.bool false));clear y0 y1 y2 y3 y4 y5 y6 y7 y8 f0 f1 f2 f3 f4 f5 f6 f7 f8 hyl;first
         | generalize w8.setCell ⟨g,8,none⟩ (.bool false)=w9 at *
         | (replace S9:=S8;generalize w8=w9 at *)
        obtain ⟨⟨z0,z1,z2,z3,z4,z5,z6,z7,z8⟩,v0,v1,v2,v3,v4,v5,v6,v7,v8,hz⟩:=BX S9.out.p;go_wp2_with fail
        first
         | (with_reducible refine IE S9.out.b0 S9.out.p (Afq _) ?_;intro w10 hB9 hk9 hs9 hz9)
         | (have hB9:=S9.out.b0;have hk9:=S9.out.p;generalize w9=w10 at *)
        clear z0 z1 z2 z3 z4 z5 z6 z7 z8 v0 v1 v2 v3 v4 v5 v6 v7 v8 hz;obtain ⟨⟨z0,z1,z2,z3,z4,z5,z6,z7,z8⟩,_⟩:=BX hk9;refine bodyPost_ret (v:=.tuple #[.agg gdZ,.slice none 0 0,.int .i64 (p2:Int),.int .i64 (n2:Int)]) (by simp [results,results31,go_sem,z0,z1,z2,z3,z4,z5,z6,z7,z8]) rfl ?_;rw [←HAE.out];exact ⟨hB9,rfl⟩
       | ok q=>
        obtain ⟨no,p2⟩:=q;clear hne9;go_upto_region 11 with (go_at_call 40;refine hnt.mono ?_;clear hnt;rintro e w8 ⟨b8,rfl⟩;have S8:=Afj (S9.out.step b8);clear b8 y0 y1 y2 y3 y4 y5 y6 y7 y8 f0 f1 f2 f3 f4 f5 f6 f7 f8 hyl;obtain ⟨⟨y0,y1,y2,y3,y4,y5,y6,y7,y8⟩,f0,f1,f2,f3,f4,f5,f6,f7,f8,hyl⟩:=BX S8.out.q)
        have S9:=Afj (S8.out.not (.bool no));clear y0 y1 y2 y3 y4 y5 y6 y7 y8 f0 f1 f2 f3 f4 f5 f6 f7 f8 hyl;generalize w8.setCell ⟨g,8,none⟩ (.bool no)=w9 at *;obtain ⟨⟨y0,y1,y2,y3,y4,y5,y6,y7,y8⟩,f0,f1,f2,f3,f4,f5,f6,f7,f8,hyl⟩:=BX S9.out.q;obtain ⟨⟨z0,z1,z2,z3,z4,z5,z6,z7,z8⟩,v0,v1,v2,v3,v4,v5,v6,v7,v8,hz⟩:=BX S9.out.p;have hwg:=S9.out.pg;go_wp2_with fail
        with_reducible refine IE S9.out.b0 S9.out.p (Afq _) ?_
        intro w10 hB9 hk9 hs9 hz9;clear z0 z1 z2 z3 z4 z5 z6 z7 z8 v0 v1 v2 v3 v4 v5 v6 v7 v8 hz y0 y1 y2 y3 y4 y5 y6 y7 y8 f0 f1 f2 f3 f4 f5 f6 f7 f8 hyl;obtain ⟨⟨z0,z1,z2,z3,z4,z5,z6,z7,z8⟩,_⟩:=BX hk9;have hfin:=S9.out.end hB9 hs9 hz9 p2;rw [show (.ok (⟨_,_,no⟩,_,p2):BO Grd)=A from HAE.out] at hfin;exact bodyPost_ret (by simp [results,results31,go_sem,z0,z1,z2,z3,z4,z5,z6,z7,z8]) rfl hfin
theorem AJ {P:Program} {md:Region.Mode} {ops:Array Oper} {Q:Exit→Act→World→Prop} {S:World→Prop} (i:Nat) {oi:Oper} (v:Value) {fuel:Nat} {listed:Array Bool} {a:Act} {w:World} (hi:ops[i]?=some oi) (hS:S w) (hy:YieldsIf P ops S oi v a) (h:wpAnyH P md ops Q S fuel (listed.setIfInBounds i true) (a.put oi.dst v) w)
  (hs:Region.noSelect ops=true:=by kernel_rfl) (hf:Region.free md ops listed i=true:=by kernel_rfl) (hr:(Region.ready md ops listed).contains i=true:=by kernel_rfl) (hQ:∀ c a w,Q (.panic c) (a.put oi.dst v) w→Q (.panic c) a w:=by exact fun _ _ _ h=>h):wpAnyH P md ops Q S (fuel+1) listed a w:=
 wpAnyH_take hi hs hf hr hQ hy hS h
theorem Adj {w:World} {b:Nat} {T:TypeId} {v0 v1 v2 v3 v4 v5 v6 v7 v8 v9 v10 v11 v12 v13 v14 v15 v16 v17 v18 v19 v20 v21 v22 v23:Value} (h:Blk w b #[v0,v1,v2,v3,v4,v5,v6,v7,v8,v9,v10,v11,v12,v13,v14,v15,v16,v17,v18,v19,v20,v21,v22,v23] T) :
  (w.cell? ⟨b,0,none⟩=some v0∧w.cell? ⟨b,1,none⟩=some v1∧w.cell? ⟨b,2,none⟩=some v2)∧(w.cell? ⟨b,3,none⟩=some v3∧w.cell? ⟨b,4,none⟩=some v4∧w.cell? ⟨b,5,none⟩=some v5∧w.cell? ⟨b,6,none⟩=some v6∧w.cell? ⟨b,7,none⟩=some v7∧w.cell? ⟨b,8,none⟩=some v8∧w.cell? ⟨b,9,none⟩=some v9∧w.cell? ⟨b,10,none⟩=some v10∧w.cell? ⟨b,11,none⟩=some v11∧w.cell? ⟨b,12,none⟩=some v12)∧(w.cell? ⟨b,13,none⟩=some v13∧w.cell? ⟨b,14,none⟩=some v14∧w.cell? ⟨b,15,none⟩=some v15∧w.cell? ⟨b,16,none⟩=some v16∧w.cell? ⟨b,17,none⟩=some v17∧w.cell? ⟨b,18,none⟩=some v18∧w.cell? ⟨b,19,none⟩=some v19∧w.cell? ⟨b,20,none⟩=some v20∧w.cell? ⟨b,21,none⟩=some v21∧w.cell? ⟨b,22,none⟩=some v22∧w.cell? ⟨b,23,none⟩=some v23)∧b < w.heap.size:=
 ⟨⟨(h.cell 0).trans rfl,(h.cell 1).trans rfl,(h.cell 2).trans rfl⟩,⟨(h.cell 3).trans rfl,(h.cell 4).trans rfl,(h.cell 5).trans rfl,(h.cell 6).trans rfl,(h.cell 7).trans rfl,(h.cell 8).trans rfl,(h.cell 9).trans rfl,(h.cell 10).trans rfl,(h.cell 11).trans rfl,(h.cell 12).trans rfl⟩,⟨(h.cell 13).trans rfl,(h.cell 14).trans rfl,(h.cell 15).trans rfl,(h.cell 16).trans rfl,(h.cell 17).trans rfl,(h.cell 18).trans rfl,(h.cell 19).trans rfl,(h.cell 20).trans rfl,(h.cell 21).trans rfl,(h.cell 22).trans rfl,(h.cell 23).trans rfl⟩,h.lt⟩
def cpC (l:List Cp):List Value:=l.flatMap fun c=>[.int .i64 c.1,.string (txt c.2)]
theorem OQ (l:List Cp) (c:Cp):cpC (l++[c])=cpC l++[.int .i64 c.1,.string (txt c.2)]:=by simp [cpC]
def cmC (s:ByteArray) (ext:Bool) (st:CS) (ta tb ts pv mv:Value):Array Value:=
 #[.string s,.bool ext,.int .i64 (st.k:Int),.int .i64 (st.c.pl:Int),.int .i64 (st.c.g.a.kind:Int),.int .i64 (st.c.g.a.line:Int),.string (txt st.c.g.a.text),ta,.int .i64 (st.c.g.b.kind:Int),.int .i64 (st.c.g.b.line:Int),.string (txt st.c.g.b.text),tb,.bool st.c.g.no,.int .u8 st.c.name.toNat,.string (txt st.c.arg),.string (txt st.c.sub.text),ts,pv,.int .i64 (st.c.sub.nth:Int),.bool st.c.sub.all,.bool st.c.sub.prt,.string (txt st.c.sub.file),.string (txt st.c.table),mv]
structure CmSt (w:World) (p:Nat) (s:ByteArray) (ext:Bool) (st:CS) (ta tb ts:Value) (pa:Option Addr) (pc:Nat) (ma:Option Addr) (mc:Nat) (W:World):Prop where
 b0:Below w.heap.size w W
 q:Blk W p (cmC s ext st ta tb ts (.slice pa st.c.sub.parts.length pc) (.slice ma st.ms.length mc)) 78
 pg:w.heap.size≤p
 ha:TrO (fun b=>w.heap.size≤b∧b≠p∧(Value.slice ma st.ms.length mc).ownBlock≠some b) W st.c.g.a.tree ta
 hb:TrO (fun b=>w.heap.size≤b∧b≠p∧(Value.slice ma st.ms.length mc).ownBlock≠some b) W st.c.g.b.tree tb
 hs:TrO (fun b=>w.heap.size≤b∧b≠p∧(Value.slice ma st.ms.length mc).ownBlock≠some b) W st.c.sub.tree ts
 r:W.ownsRow w.heap.size 33 2 (.slice ma st.ms.length mc) st.ms.length (wmC st.ms)
 rg:(Value.slice ma st.ms.length mc).ownBlock≠some p
 pr:W.ownsRow w.heap.size 73 2 (.slice pa st.c.sub.parts.length pc) st.c.sub.parts.length (cpC st.c.sub.parts)
 pp:∀ b,(Value.slice pa st.c.sub.parts.length pc).ownBlock=some b→b≠p∧(Value.slice ma st.ms.length mc).ownBlock≠some b
def Dy (w:World) (p:Nat) (s:ByteArray) (ext:Bool) (st:CS) (W:World):Prop:=∃ ta tb ts pa pc ma mc,CmSt w p s ext st ta tb ts pa pc ma mc W
theorem CmSt.step {w:World} {p:Nat} {s:ByteArray} {ext:Bool} {st:CS} {ta tb ts:Value} {pa:Option Addr} {pc:Nat} {ma:Option Addr} {mc:Nat} {W W':World} (h:CmSt w p s ext st ta tb ts pa pc ma mc W) (hb:Below W.heap.size W W'):CmSt w p s ext st ta tb ts pa pc ma mc W':=
 ⟨h.b0.trans (hb.mono h.b0.size),h.q.below hb h.q.lt,h.pg,h.ha.below hb,h.hb.below hb,h.hs.below hb,Ah h.r hb,h.rg,Ah h.pr hb,h.pp⟩
theorem Dy.step {w:World} {p:Nat} {s:ByteArray} {ext:Bool} {st:CS} {W W':World} (h:Dy w p s ext st W) (hb:Below W.heap.size W W'):Dy w p s ext st W':=by
 obtain ⟨ta,tb,ts,pa,pc,ma,mc,h⟩:=h;exact ⟨ta,tb,ts,pa,pc,ma,mc,h.step hb⟩
theorem CmSt.put {w:World} {p:Nat} {s:ByteArray} {ext:Bool} {st:CS} {ta tb ts:Value} {pa:Option Addr} {pc:Nat} {ma:Option Addr} {mc:Nat} {W:World} (h:CmSt w p s ext st ta tb ts pa pc ma mc W) (j:Nat) (v:Value) (st':CS) (hg:st'.c.g=st.c.g) (ht:st'.c.sub.tree=st.c.sub.tree) (hp:st'.c.sub.parts=st.c.sub.parts) (hm:st'.ms=st.ms)
  (e:∀ pv mv,(cmC s ext st ta tb ts pv mv).setIfInBounds j v=cmC s ext st' ta tb ts pv mv):CmSt w p s ext st' ta tb ts pa pc ma mc (W.setCell ⟨p,j,none⟩ v):=by
 have o1:∀ b,b≠p→(W.setCell ⟨p,j,none⟩ v).heap[b]?=W.heap[b]?:=fun b hb=>Afw _ _ _ _ (fun e=>hb e)
 have hsz:(W.setCell ⟨p,j,none⟩ v).heap.size=W.heap.size:=by simp [World.setCell]
 have hk:∀ {t x},TrO (fun b=>w.heap.size≤b∧b≠p∧(Value.slice ma st.ms.length mc).ownBlock≠some b) W t x→TrO (fun b=>w.heap.size≤b∧b≠p∧(Value.slice ma st.ms.length mc).ownBlock≠some b) (W.setCell ⟨p,j,none⟩ v) t x:=fun hk=>TrO.keep (by omega) (fun b hb _=>⟨hb,fun o=>Afy (w:=W) (a:=⟨b,o,none⟩) (o1 b hb.2.1)⟩) hk
 refine ⟨h.b0.setCell (p:=⟨p,j,none⟩) h.pg v,?_,h.pg,?_,?_,?_,?_,?_,?_,?_⟩
 ·have h9:=h.q.set j v;rw [e] at h9;rw [hp,hm];exact h9
 ·rw [hg,hm];exact hk h.ha
 ·rw [hg,hm];exact hk h.hb
 ·rw [ht,hm];exact hk h.hs
 ·rw [hm];exact Ab h.r fun b hb=>o1 b fun e=>h.rg (by rw [hb,e])
 ·rw [hm];exact h.rg
 ·rw [hp];exact Ab h.pr fun b hb=>o1 b (h.pp b hb).1
 ·rw [hp,hm];exact h.pp
theorem CmSt.go {w:World} {p:Nat} {s:ByteArray} {ext:Bool} {st:CS} {ta tb ts:Value} {pa:Option Addr} {pc:Nat} {ma:Option Addr} {mc:Nat} {W:World} (h:CmSt w p s ext st ta tb ts pa pc ma mc W) (k:Nat):CmSt w p s ext (st.go k) ta tb ts pa pc ma mc (W.setCell ⟨p,2,none⟩ (.int .i64 (k:Int))):=
 h.put 2 _ (st.go k) rfl rfl rfl rfl fun _ _=>rfl
theorem CmSt.push {w:World} {p:Nat} {s:ByteArray} {ext:Bool} {st:CS} {ta tb ts:Value} {pa:Option Addr} {pc:Nat} {ma:Option Addr} {mc:Nat} {W:World} (h:CmSt w p s ext st ta tb ts pa pc ma mc W) {W1 W6:World} (hb:Below W.heap.size W W1) {n:Nat} {ms2:List Wm} (hn:ms2.length=n) {a6:Option Addr} {c6:Nat}
  (hg:W1.grownBy W6 (Value.slice ma st.ms.length mc).ownBlock) (ho:W6.ownsRow w.heap.size 33 2 (.slice a6 (st.ms.length+n) c6) (st.ms.length+n) (wmC st.ms++wmC ms2))
  (hat:(Value.slice a6 (st.ms.length+n) c6).ownBlock=(Value.slice ma st.ms.length mc).ownBlock∨(Value.slice a6 (st.ms.length+n) c6).ownBlock=some W1.heap.size) :
  CmSt w p s ext { st with ms:=st.ms++ms2 } ta tb ts pa pc a6 c6 (W6.setCell ⟨p,23,none⟩ (.slice a6 (st.ms.length+n) c6)):=by
 subst hn;have hl:(st.ms++ms2).length=st.ms.length+ms2.length:=Afs;have hs1:=hb.size;have hs6:=hg.size;have hp1:=h.q.lt;have o1:∀ b,b≠p→(W6.setCell ⟨p,23,none⟩ (.slice a6 (st.ms.length+ms2.length) c6)).heap[b]?=W6.heap[b]?:=fun b hb=>Afw _ _ _ _ (fun e=>hb e)
 have hsz:(W6.setCell ⟨p,23,none⟩ (.slice a6 (st.ms.length+ms2.length) c6)).heap.size=W6.heap.size:=by simp [World.setCell]
 have hnew:∀ b,b < W.heap.size→(Value.slice ma st.ms.length mc).ownBlock≠some b→(Value.slice a6 (st.ms.length+ms2.length) c6).ownBlock≠some b:=fun b hl h1 e=>by
  rcases hat with h2 | h2
  ·exact h1 (h2.symm.trans e)
  ·rw [h2] at e;injection e with e;omega
 have hkb:∀ b,b < W.heap.size→b≠p→(Value.slice ma st.ms.length mc).ownBlock≠some b→(W6.setCell ⟨p,23,none⟩ (.slice a6 (st.ms.length+ms2.length) c6)).heap[b]?=W.heap[b]?:=fun b hl h1 h2=>by
  rw [o1 b h1,hg.block b (by omega) (fun e=>h2 e.symm),hb.block b hl]
 have hk:∀ {t x},TrO (fun b=>w.heap.size≤b∧b≠p∧(Value.slice ma st.ms.length mc).ownBlock≠some b) W t x→TrO (fun b=>w.heap.size≤b∧b≠p∧(Value.slice a6 (st.ms.length+ms2.length) c6).ownBlock≠some b) (W6.setCell ⟨p,23,none⟩ (.slice a6 (st.ms.length+ms2.length) c6)) t x:=fun hk=>TrO.keep (by omega) (fun b hb hl=>⟨⟨hb.1,hb.2.1,hnew b hl hb.2.2⟩,fun o=>Afy (w:=W) (a:=⟨b,o,none⟩) (hkb b hl hb.2.1 hb.2.2)⟩) hk
 have hb0:Below w.heap.size w (W6.setCell ⟨p,23,none⟩ (.slice a6 (st.ms.length+ms2.length) c6)):=by
  have h0:=h.b0;have hs0:=h0.size;refine ⟨hg.os.trans (hb.os.trans h0.os),hg.tape.trans (hb.tape.trans h0.tape),hg.output.trans (hb.output.trans h0.output),by omega,fun b hl=>?_⟩;have:=h.pg;rw [hkb b (by omega) (by omega) (fun e=>by have:=AS h.r b e;omega),h0.block b hl]
 refine ⟨hb0,?_,h.pg,?_,?_,?_,?_,?_,?_,?_⟩
 ·have h9:=(AM (h.q.below hb h.q.lt) hg h.rg).set 23 (.slice a6 (st.ms.length+ms2.length) c6);show Blk _ p (cmC s ext { st with ms:=st.ms++ms2 } ta tb ts (.slice pa st.c.sub.parts.length pc) (.slice a6 (st.ms++ms2).length c6)) _;rw [hl];exact h9
 ·show TrO (fun b=>w.heap.size≤b∧b≠p∧(Value.slice a6 (st.ms++ms2).length c6).ownBlock≠some b) _ _ _;rw [hl];exact hk h.ha
 ·show TrO (fun b=>w.heap.size≤b∧b≠p∧(Value.slice a6 (st.ms++ms2).length c6).ownBlock≠some b) _ _ _;rw [hl];exact hk h.hb
 ·show TrO (fun b=>w.heap.size≤b∧b≠p∧(Value.slice a6 (st.ms++ms2).length c6).ownBlock≠some b) _ _ _;rw [hl];exact hk h.hs
 ·show World.ownsRow _ w.heap.size _ 2 (.slice a6 (st.ms++ms2).length c6) (st.ms++ms2).length (wmC (st.ms++ms2));rw [hl,MR];exact Ab ho fun b hb=>o1 b fun e=>hnew p hp1 h.rg (by rw [hb,e])
 ·show (Value.slice a6 (st.ms++ms2).length c6).ownBlock≠some p;rw [hl];exact hnew p hp1 h.rg
 ·exact Ab h.pr fun b hb=>hkb b (AF h.pr b hb) (h.pp b hb).1 (h.pp b hb).2
 ·intro b hb;show b≠p∧(Value.slice a6 (st.ms++ms2).length c6).ownBlock≠some b;rw [hl];exact ⟨(h.pp b hb).1,hnew b (AF h.pr b hb) (h.pp b hb).2⟩
theorem LM (w:World) (p:Nat) (s:ByteArray) (ext:Bool) (st:CS) (ta tb ts:Value) (pa:Option Addr) (pc:Nat) (ma:Option Addr) (mc:Nat) (wd:ByteArray) (W:World) (h:CmSt w p s ext st ta tb ts pa pc ma mc W) (hl:st.ms.length≤100000) :
  Calls prog 67 #[.pointer (some ⟨p,0,none⟩),.string wd] W fun e W'=>e=.returned (.tuple #[])∧∃ a6 c6,CmSt w p s ext (st.mark st.k wd.data.toList) ta tb ts pa pc a6 c6 W':=by
 obtain ⟨i0,hi,hz0,hz1,hz2⟩:=C3;have HH:=Afj h;have hplt:=h.q.lt;have k2:W.cell? ⟨p,2,none⟩=some (.int .i64 (st.k:Int)):=(h.q.cell 2).trans rfl;have k23:W.cell? ⟨p,23,none⟩=some (.slice ma st.ms.length mc):=(h.q.cell 23).trans rfl;have hm1:st.ms.length+1≤maxLen:=by unfold maxLen;omega
 have hm2:(st.ms.length+1) * 24≤140737488355328:=by omega
 have hlo:w.heap.size≤W.heap.size:=h.b0.size;have Hl:=Afj hlo;clear h;go_enter func67,ntmps67
 go_region_law (first
  | (refine A6 rfl _ _ 26 rfl w.heap.size 33 i0 (.agg #[.int .i64 0,.string ⟨#[]⟩]) 2 24 underlying26 hi hz0 hz1 hz2 rfl (by decide) (.slice ma st.ms.length mc) st.ms.length (wmC st.ms) rfl (Ah HH.out.r (by repeat (first | (with_reducible exact Afv _ _) | refine Agb ?_ | refine Agc ?_ (Afq _) _))) (some ⟨W.heap.size,0,none⟩) 1 1 (JY ((st.k:Int),wd)) rfl rfl (fun _=>⟨_,rfl,JZ W ((st.k:Int),wd) _⟩) (Il _) hm1 hm2 (by simp;omega) ?_;intro v6 w6 hown6 hgrow6 hat6;obtain ⟨a6,c6,rfl⟩:=AB hown6;have HP:=Afj (HH.out.push (n:=1) (ms2:=[((st.k:Int),wd)]) (((Afv W.heap.size W).alloc (Afq _) _).drew) rfl hgrow6 (by simpa [wmC] using hown6) hat6);have f23:=(AM (HH.out.q.below (((Afv W.heap.size W).alloc (Afq _) _).drew) HH.out.q.lt) hgrow6 HH.out.rg).frozen 23;have g23:w6.cell? ⟨p,23,none⟩=some (.slice ma st.ms.length mc):=((AM (HH.out.q.below (((Afv W.heap.size W).alloc (Afq _) _).drew) HH.out.q.lt) hgrow6 HH.out.rg).cell 23).trans rfl;clear hown6 hgrow6 hat6))
 all_goals go_wp2_with fail
 all_goals go_end0
 all_goals exact ⟨rfl,_,_,HP.out⟩
theorem CmSt.drewN {w:World} {p:Nat} {s:ByteArray} {ext:Bool} {st:CS} {ta tb ts:Value} {pa:Option Addr} {pc:Nat} {ma:Option Addr} {mc:Nat} {W:World} (h:CmSt w p s ext st ta tb ts pa pc ma mc W) (n:Nat):CmSt w p s ext st ta tb ts pa pc ma mc (W.drewN n):=h.step (below_drewN (Afv _ _) n)
theorem CmSt.drew {w:World} {p:Nat} {s:ByteArray} {ext:Bool} {st:CS} {ta tb ts:Value} {pa:Option Addr} {pc:Nat} {ma:Option Addr} {mc:Nat} {W:World} (h:CmSt w p s ext st ta tb ts pa pc ma mc W):CmSt w p s ext st ta tb ts pa pc ma mc W.drew:=h.step (Afv _ _).drew
theorem CmSt.R {w:World} {p:Nat} {s:ByteArray} {ext:Bool} {st:CS} {ta tb ts:Value} {pa:Option Addr} {pc:Nat} {ma:Option Addr} {mc:Nat} {W:World} (h:CmSt w p s ext st ta tb ts pa pc ma mc W):Dy w p s ext st W:=⟨_,_,_,_,_,_,_,h⟩
theorem Iq (s:ByteArray) (k:Nat) (hs:s.size≤4000000) (hk:k≤s.size) (w:World):Calls prog 64 #[.string s,.int .i64 (k:Int)] w fun e w'=>e=.returned (.int .i64 (Ak s.data.toList k:Int))∧Below w.heap.size w w':=by
 have e:=IP s k w hs;rw [DF _ _ _ (by rw [←Ae];exact hk)] at e;exact e
theorem K8 (w:World) (p:Nat) (s:ByteArray) (ext:Bool) (st:CS) (W:World) (h:Dy w p s ext st W) (hs:s.size≤4000000) (hk:st.k≤s.size) (hl:st.ms.length≤100000) :
  Calls prog 48 #[.pointer (some ⟨p,0,none⟩)] W fun e W'=>e=.returned (.int .i64 ((BG s.data.toList st).1:Int))∧Dy w p s ext (BG s.data.toList st).2 W':=by
 obtain ⟨ta,tb,ts,pa,pc,ma,mc,h⟩:=h;have hB:=Iq s st.k hs hk;obtain ⟨K,hK⟩:∃ K,Ak s.data.toList st.k=K:=⟨_,rfl⟩;have hKl:K≤s.size:=by rw [←hK,Ae];exact (FL _ _ (by rw [←Ae];exact hk)).2
 unfold BG;rw [hK] at hB ⊢;have HH:=Afj h;have k0:W.cell? ⟨p,0,none⟩=some (.string s):=(h.q.cell 0).trans rfl;have k2:W.cell? ⟨p,2,none⟩=some (.int .i64 (st.k:Int)):=(h.q.cell 2).trans rfl;have Hl:=Afj hl;clear h hK hk hl;by_cases hz:K=s.size
 ·rw [Bs s K (by omega)];have hE:((K:Int) == (s.size:Int))=true:=by simp [hz]
  clear hz;simp only;go_enter func48,ntmps48;go_upto_region 1 with fail;go_cut [] (fun wx=>CmSt w p s ext (st.go K) ta tb ts pa pc ma mc wx);(case first=>((go_region_law (first | (go_simp;go_at_call 64;refine (hB _).mono ?_;rintro e w1 ⟨rfl,b1⟩;have H1:=Afj (by first | exact HH.out.step b1 | exact HH.out.drew.step b1:CmSt w p s ext st ta tb ts pa pc ma mc w1);have f2:=H1.out.q.frozen 2;have g2:w1.cell? ⟨p,2,none⟩=some (.int .i64 (st.k:Int)):=(H1.out.q.cell 2).trans rfl;clear b1)));all_goals ((try go_wp2_with fail);go_meet;exact H1.out.go K)));have H2:=Afj hcut;clear hcut k0 k2;have k0:World.cell? wc ⟨p,0,none⟩=some (.string s):=(H2.out.q.cell 0).trans rfl;have k2:World.cell? wc ⟨p,2,none⟩=some (.int .i64 (K:Int)):=(H2.out.q.cell 2).trans rfl;go_upto_region 2 with fail;go_quiet (fail);generalize nq=n1;go_wp2_with fail
  go_ret;exact ⟨rfl,(H2.out.drewN n1).R⟩
 ·have hlt:K < s.size:=by omega
  rw [Bm s K hlt];have hE:((K:Int) == (s.size:Int))=false:=by simp;omega
  have hy0:(0:Int)≤(K:Int):=by omega
  have hy1:(K:Int) < (s.size:Int):=by omega
  clear hz;simp only;by_cases h1:s[K]=59∨s[K]=10∨s[K]=35
  ·rw [if_pos h1];rcases h1 with h1 | h1 | h1
   all_goals
    have e1:s[K].toNat=_:=congrArg UInt8.toNat h1;clear h1;go_enter func48,ntmps48;go_upto_region 1 with fail;go_cut [] (fun wx=>CmSt w p s ext (st.go K) ta tb ts pa pc ma mc wx);(case first=>((go_region_law (first | (go_simp;go_at_call 64;refine (hB _).mono ?_;rintro e w1 ⟨rfl,b1⟩;have H1:=Afj (by first | exact HH.out.step b1 | exact HH.out.drew.step b1:CmSt w p s ext st ta tb ts pa pc ma mc w1);have f2:=H1.out.q.frozen 2;have g2:w1.cell? ⟨p,2,none⟩=some (.int .i64 (st.k:Int)):=(H1.out.q.cell 2).trans rfl;clear b1)));all_goals ((try go_wp2_with fail);go_meet;exact H1.out.go K)));have H2:=Afj hcut;clear hcut k0 k2;have k0:World.cell? wc ⟨p,0,none⟩=some (.string s):=(H2.out.q.cell 0).trans rfl;have k2:World.cell? wc ⟨p,2,none⟩=some (.int .i64 (K:Int)):=(H2.out.q.cell 2).trans rfl;go_upto_region 2 with fail;go_quiet (fail);generalize nq=n1;go_upto_region 4 with fail;go_quiet (fail);have H4:=Afj (H2.out.drewN (n1+nq));go_wp2_with fail
    go_ret;exact ⟨rfl,H4.out.R⟩
  ·rw [if_neg h1];have n1:¬ s[K]=59:=fun e=>h1 (.inl e)
   have n2:¬ s[K]=10:=fun e=>h1 (.inr (.inl e))
   have n3:¬ s[K]=35:=fun e=>h1 (.inr (.inr e))
   have m1:¬ (s[K].toNat:Int)=59:=fun e=>n1 (UInt8.toNat_inj.1 (by show s[K].toNat=59;omega))
   have m2:¬ (s[K].toNat:Int)=10:=fun e=>n2 (UInt8.toNat_inj.1 (by show s[K].toNat=10;omega))
   have m3:¬ (s[K].toNat:Int)=35:=fun e=>n3 (UInt8.toNat_inj.1 (by show s[K].toNat=35;omega))
   have c1:((s[K].toNat:Int) == 59)=false:=by simpa using m1
   have c2:((s[K].toNat:Int) == 10)=false:=by simpa using m2
   have c3:((s[K].toNat:Int) == 35)=false:=by simpa using m3
   clear h1 n1 n2 n3 m1 m2 m3;by_cases h2:s[K]=125
   ·rw [if_pos h2];have c4:((s[K].toNat:Int) == 125)=true:=by rw [h2];rfl
    clear h2;go_enter func48,ntmps48;go_upto_region 1 with fail;go_cut [] (fun wx=>CmSt w p s ext (st.go K) ta tb ts pa pc ma mc wx);(case first=>((go_region_law (first | (go_simp;go_at_call 64;refine (hB _).mono ?_;rintro e w1 ⟨rfl,b1⟩;have H1:=Afj (by first | exact HH.out.step b1 | exact HH.out.drew.step b1:CmSt w p s ext st ta tb ts pa pc ma mc w1);have f2:=H1.out.q.frozen 2;have g2:w1.cell? ⟨p,2,none⟩=some (.int .i64 (st.k:Int)):=(H1.out.q.cell 2).trans rfl;clear b1)));all_goals ((try go_wp2_with fail);go_meet;exact H1.out.go K)));have H2:=Afj hcut;clear hcut k0 k2;have k0:World.cell? wc ⟨p,0,none⟩=some (.string s):=(H2.out.q.cell 0).trans rfl;have k2:World.cell? wc ⟨p,2,none⟩=some (.int .i64 (K:Int)):=(H2.out.q.cell 2).trans rfl;go_upto_region 2 with fail;go_quiet (fail);generalize nq=n1;go_upto_region 4 with fail;go_quiet (fail);have H4:=Afj (H2.out.drewN (n1+nq));have hM:=LM w p s ext (st.go K) ta tb ts pa pc ma mc ⟨#[125]⟩ _ H4.out Hl.out;clear H4;go_wp2_with (go_at_call 67;refine hM.mono ?_;clear hM;rintro e w5 ⟨rfl,a6,c6,h5⟩)
    go_ret;exact ⟨rfl,h5.R⟩
   ·rw [if_neg h2];have c4:((s[K].toNat:Int) == 125)=false:=by
     have m4:¬ (s[K].toNat:Int)=125:=fun e=>h2 (UInt8.toNat_inj.1 (by show s[K].toNat=125;omega))
     simpa using m4
    clear h2;go_enter func48,ntmps48;go_upto_region 1 with fail;go_cut [] (fun wx=>CmSt w p s ext (st.go K) ta tb ts pa pc ma mc wx);(case first=>((go_region_law (first | (go_simp;go_at_call 64;refine (hB _).mono ?_;rintro e w1 ⟨rfl,b1⟩;have H1:=Afj (by first | exact HH.out.step b1 | exact HH.out.drew.step b1:CmSt w p s ext st ta tb ts pa pc ma mc w1);have f2:=H1.out.q.frozen 2;have g2:w1.cell? ⟨p,2,none⟩=some (.int .i64 (st.k:Int)):=(H1.out.q.cell 2).trans rfl;clear b1)));all_goals ((try go_wp2_with fail);go_meet;exact H1.out.go K)));have H2:=Afj hcut;clear hcut k0 k2;have k0:World.cell? wc ⟨p,0,none⟩=some (.string s):=(H2.out.q.cell 0).trans rfl;have k2:World.cell? wc ⟨p,2,none⟩=some (.int .i64 (K:Int)):=(H2.out.q.cell 2).trans rfl;go_upto_region 2 with fail;go_quiet (fail);generalize nq=n1;go_upto_region 4 with fail;go_quiet (fail);have H4:=Afj (H2.out.drewN (n1+nq));go_wp2_with fail
    go_ret;exact ⟨rfl,H4.out.R⟩
abbrev RxR:=BO (List UInt8 × Nd)
def dT (R:RxR):List UInt8:=match R with | .ok q=>q.1.1 | .error _=>[]
def dN (R:RxR):Option Nd:=match R with | .ok q=>some q.1.2 | .error _=>none
def dMs (R:RxR):List Wm:=match R with | .ok q=>q.2.1 | .error _=>[]
def dP (R:RxR):Nat:=match R with | .ok q=>q.2.2 | .error q=>q.2
def dE (R:RxR):Nat:=match R with | .ok _=>0 | .error q=>q.1
theorem Aeq (st:CS) (R:RxR):JK st R=(dE R,st.rx (dT R) (dN R) (dMs R) (dP R)):=by cases R <;> rfl
theorem Xq {W:World} {R:RxR} {e:Ending} {w':World} (h:Uz W R e w'):∃ tv na nc,e=.returned (.tuple #[.agg #[.string (txt (dT R)),tv,.slice na (dMs R).length nc],.int .i64 (dP R:Int),.int .i64 (dE R:Int)])∧
  TrO (fun b=>W.heap.size≤b∧(Value.slice na (dMs R).length nc).ownBlock≠some b) w' (dN R) tv∧w'.ownsRow W.heap.size 33 2 (.slice na (dMs R).length nc) (dMs R).length (wmC (dMs R))∧Below W.heap.size W w':=by
 obtain ⟨hb,h⟩:=h;cases R with
 | error q=>exact ⟨.nilIface,none,0,h,rfl,World.ownsRow_nil _ _ _ _,hb⟩
 | ok q=>
  obtain ⟨tv,mv,he,ht,hr⟩:=h;obtain ⟨na,nc,rfl⟩:=AB hr;exact ⟨tv,na,nc,he,ht,hr,hb⟩
structure RxH (w:World) (p:Nat) (s:ByteArray) (ext:Bool) (st:CS) (ta tb ts:Value) (pa:Option Addr) (pc:Nat) (ma:Option Addr) (mc:Nat) (B g:Nat) (R:RxR) (tv:Value) (na:Option Addr) (nc:Nat) (W:World):Prop where
 c:CmSt w p s ext st ta tb ts pa pc ma mc W
 x:Blk W g #[.string (txt (dT R)),tv,.slice na (dMs R).length nc] 159
 gb:B≤g
 t:TrO (fun b=>B≤b∧b≠g∧(Value.slice na (dMs R).length nc).ownBlock≠some b) W (dN R) tv
 r:W.ownsRow B 33 2 (.slice na (dMs R).length nc) (dMs R).length (wmC (dMs R))
def CS.rxn (st:CS) (t:List UInt8) (d:Option Nd) (k:Nat):CS:={ st with k:=k,c:={ st.c with sub:={ st.c.sub with text:=t,tree:=d } } }
theorem CmSt.treeS {w:World} {p:Nat} {s:ByteArray} {ext:Bool} {st:CS} {ta tb ts:Value} {pa:Option Addr} {pc:Nat} {ma:Option Addr} {mc:Nat} {W:World} (h:CmSt w p s ext st ta tb ts pa pc ma mc W) (t:List UInt8) {d:Option Nd} {tv:Value} (ht:TrO (fun b=>w.heap.size≤b∧b≠p∧(Value.slice ma st.ms.length mc).ownBlock≠some b) W d tv) :
  CmSt w p s ext (st.rxn t d st.k) ta tb tv pa pc ma mc ((W.setCell ⟨p,15,none⟩ (.string (txt t))).setCell ⟨p,16,none⟩ tv):=by
 have h1:=h.put 15 (.string (txt t)) { st with c:={ st.c with sub:={ st.c.sub with text:=t } } } rfl rfl rfl rfl fun _ _=>rfl
 have ht1:TrO (fun b=>w.heap.size≤b∧b≠p∧(Value.slice ma st.ms.length mc).ownBlock≠some b) (W.setCell ⟨p,15,none⟩ (.string (txt t))) d tv:=TrO.keep (by simp [World.setCell]) (fun b hb _=>⟨hb,fun o=>Afy (w:=W) (a:=⟨b,o,none⟩) (Afw _ _ _ _ (fun e=>hb.2.1 e))⟩) ht;generalize W.setCell ⟨p,15,none⟩ (.string (txt t))=W1 at h1 ht1 ⊢;have o1:∀ b,b≠p→(W1.setCell ⟨p,16,none⟩ tv).heap[b]?=W1.heap[b]?:=fun b hb=>Afw _ _ _ _ (fun e=>hb e)
 have hk:∀ {t x},TrO (fun b=>w.heap.size≤b∧b≠p∧(Value.slice ma st.ms.length mc).ownBlock≠some b) W1 t x→TrO (fun b=>w.heap.size≤b∧b≠p∧(Value.slice ma st.ms.length mc).ownBlock≠some b) (W1.setCell ⟨p,16,none⟩ tv) t x:=fun hk=>TrO.keep (by simp [World.setCell]) (fun b hb _=>⟨hb,fun o=>Afy (w:=W1) (a:=⟨b,o,none⟩) (o1 b hb.2.1)⟩) hk
 exact ⟨h1.b0.setCell (p:=⟨p,16,none⟩) h1.pg _,h1.q.set 16 _,h1.pg,hk h1.ha,hk h1.hb,hk ht1,Ab h1.r fun b hb=>o1 b fun e=>h1.rg (hb.trans (congrArg some e)),h1.rg,Ab h1.pr fun b hb=>o1 b (h1.pp b hb).1,h1.pp⟩
theorem RxH.go {w:World} {p:Nat} {s:ByteArray} {ext:Bool} {st:CS} {ta tb ts:Value} {pa:Option Addr} {pc:Nat} {ma:Option Addr} {mc B g:Nat} {R:RxR} {tv:Value} {na:Option Addr} {nc:Nat} {W:World} (h:RxH w p s ext st ta tb ts pa pc ma mc B g R tv na nc W) (hp:p < B) (k:Nat):RxH w p s ext (st.go k) ta tb ts pa pc ma mc B g R tv na nc (W.setCell ⟨p,2,none⟩ (.int .i64 (k:Int))):=by
 have hgb:=h.gb;have o1:∀ b,b≠p→(W.setCell ⟨p,2,none⟩ (.int .i64 (k:Int))).heap[b]?=W.heap[b]?:=fun b hb=>Afw _ _ _ _ (fun e=>hb e)
 exact ⟨h.c.go k,Ey h.x (o1 g (by omega)),hgb,TrO.keep (by simp [World.setCell]) (fun b hb _=>⟨hb,fun o=>Afy (w:=W) (a:=⟨b,o,none⟩) (o1 b (by have:=hb.1;omega))⟩) h.t,Ab h.r fun b hb=>o1 b (by have:=AS h.r b hb;omega)⟩
theorem RxH.drew {w:World} {p:Nat} {s:ByteArray} {ext:Bool} {st:CS} {ta tb ts:Value} {pa:Option Addr} {pc:Nat} {ma:Option Addr} {mc B g:Nat} {R:RxR} {tv:Value} {na:Option Addr} {nc:Nat} {W:World} (h:RxH w p s ext st ta tb ts pa pc ma mc B g R tv na nc W):RxH w p s ext st ta tb ts pa pc ma mc B g R tv na nc W.drew:=
 ⟨h.c.step (Afv _ _).drew,h.x,h.gb,h.t.below (Afv _ _).drew,Ah h.r (Afv _ _).drew⟩
theorem RxH.tree {w:World} {p:Nat} {s:ByteArray} {ext:Bool} {st:CS} {ta tb ts:Value} {pa:Option Addr} {pc:Nat} {ma:Option Addr} {mc B g:Nat} {R:RxR} {tv:Value} {na:Option Addr} {nc:Nat} {W:World} (h:RxH w p s ext st ta tb ts pa pc ma mc B g R tv na nc W) (hp:p < B) (hB:w.heap.size≤B) (hm:∀ q,(Value.slice ma st.ms.length mc).ownBlock=some q→q < B) :
  RxH w p s ext (st.rxn (dT R) (dN R) st.k) ta tb tv pa pc ma mc B g R tv na nc ((W.setCell ⟨p,15,none⟩ (.string (txt (dT R)))).setCell ⟨p,16,none⟩ tv):=by
 have hgb:=h.gb;have o1:∀ b,b≠p→((W.setCell ⟨p,15,none⟩ (.string (txt (dT R)))).setCell ⟨p,16,none⟩ tv).heap[b]?=W.heap[b]?:=fun b hb=>(Afw _ _ _ _ (fun e=>hb e)).trans (Afw _ _ _ _ (fun e=>hb e))
 exact ⟨h.c.treeS (dT R) (TrO.keep (Afq _) (fun b hb _=>⟨⟨Afr hB hb.1,by have:=hb.1;omega,fun e=>by have:=hm b e;have:=hb.1;omega⟩,fun _=>rfl⟩) h.t),Ey h.x (o1 g (by omega)),hgb,TrO.keep (by simp [World.setCell]) (fun b hb _=>⟨hb,fun o=>Afy (w:=W) (a:=⟨b,o,none⟩) (o1 b (by have:=hb.1;omega))⟩) h.t,Ab h.r fun b hb=>o1 b (by have:=AS h.r b hb;omega)⟩
theorem Xr {T tv:Value} {sv:Value} (hT:T.oneCell'=true) (htv:tv.oneCell'=true) (hs:sv.oneCell'=true):(#[T,tv,sv]:Array Value).all (·.oneCell')=true:=by
 simp [hT,htv,hs]
theorem Aaa (w:World) (p:Nat) (s:ByteArray) (ext:Bool) (st:CS) (d:UInt8) (W:World) (h:Dy w p s ext st W) (hs:s.size≤4000000) (hk:st.k≤s.size) (hl:st.ms.length≤90000) (hG:Gl w) (hP:GP w) :
  Calls prog 71 #[.pointer (some ⟨p,0,none⟩),.int .u8 (d.toNat:Int)] W fun e W'=>e=.returned (.int .i64 ((Dm ext s.data.toList d st).1:Int))∧Dy w p s ext (Dm ext s.data.toList d st).2 W':=by
 obtain ⟨ta,tb,ts,pa,pc,ma,mc,h⟩:=h;have hN:=fun w1 (hb:Below W.heap.size W w1)=>(Kz ext s st.k d w1 hs hk ((hG.up h.b0).up hb) ((hP.up h.b0).up hb)).mono fun _ _ k=>Xq k
 have hRl:∀ q,An ext s.data.toList st.k d=.ok q→q.2.1.length≤250:=fun q h=>(K6 (by rw [←Ae];exact hk) h).2
 unfold Dm;rw [Aeq];generalize An ext s.data.toList st.k d=R at hN hRl ⊢;have hml:(dMs R).length≤250:=by
  cases R with
  | error q=>exact Nat.zero_le _
  | ok q=>exact hRl q rfl
 have HML:=Afj hml;have HL:=Afj hl;have HH:=Afj h;have hlt:=h.q.lt;have k0:W.cell? ⟨p,0,none⟩=some (.string s):=(h.q.cell 0).trans rfl;have k1:W.cell? ⟨p,1,none⟩=some (.bool ext):=(h.q.cell 1).trans rfl;have k2:W.cell? ⟨p,2,none⟩=some (.int .i64 (st.k:Int)):=(h.q.cell 2).trans rfl;have hmix:Tryz.prog.follows .mixedOrders=true:=by kernel_rfl
 have hS0:∀ W':World,Below W.heap.size W W'→(fun W':World=>W'.cell? ⟨p,0,none⟩=some (.string s)∧W'.cell? ⟨p,1,none⟩=some (.bool ext)∧W'.cell? ⟨p,2,none⟩=some (.int .i64 (st.k:Int))) W':=fun W' hW=>⟨(hW.cell (p:=⟨p,0,none⟩) hlt).trans k0,(hW.cell (p:=⟨p,1,none⟩) hlt).trans k1,(hW.cell (p:=⟨p,2,none⟩) hlt).trans k2⟩
 clear h hG hP hml hl hRl hlt k0 k1 k2;go_enter func71,ntmps71;go_upto_region 1 with fail;go_cut [5,6,7] (fun s5 s6 s7 wx=>∃ g tv na nc,s5=.pointer (some ⟨g,0,none⟩)∧s6=.int .i64 (dP R:Int)∧s7=.int .i64 (dE R:Int)∧RxH w p s ext st ta tb ts pa pc ma mc W.heap.size g R tv na nc wx)
 case first=>
  refine wp_region_held_drew (S:=fun W':World=>W'.cell? ⟨p,0,none⟩=some (.string s)∧W'.cell? ⟨p,1,none⟩=some (.bool ext)∧W'.cell? ⟨p,2,none⟩=some (.int .i64 (st.k:Int))) hmix (hS0 _ (Agb (Afv _ _))) (fun hHeld=>?_);refine AJ 0 ?_ rfl (by assumption) (Or.inl ⟨by rfl,?_⟩) ?_
  rotate_left
  ·intro W' hSw;obtain ⟨c0,c1,c2⟩:=hSw;(try go_simp);try with_reducible rfl
  try simp only [Aa,Act.put]
  refine AJ 1 ?_ rfl (by assumption) (Or.inl ⟨by rfl,?_⟩) ?_
  rotate_left
  ·intro W' hSw;obtain ⟨c0,c1,c2⟩:=hSw;(try go_simp);try with_reducible rfl
  try simp only [Aa,Act.put]
  refine AJ 2 ?_ rfl (by assumption) (Or.inl ⟨by rfl,?_⟩) ?_
  rotate_left
  ·intro W' hSw;obtain ⟨c0,c1,c2⟩:=hSw;(try go_simp);try with_reducible rfl
  try simp only [Aa,Act.put]
  refine AJ 3 ?_ rfl (by assumption) (Or.inl ⟨by rfl,?_⟩) ?_
  rotate_left
  ·intro W' hSw;obtain ⟨c0,c1,c2⟩:=hSw;(try go_simp);try with_reducible rfl
  try simp only [Aa,Act.put]
  refine AJ 4 ?_ rfl (by assumption) (Or.inl ⟨by rfl,?_⟩) ?_
  rotate_left
  ·intro W' hSw;obtain ⟨c0,c1,c2⟩:=hSw;(try go_simp);try with_reducible rfl
  try simp only [Aa,Act.put]
  refine AJ 5 ?_ rfl (by assumption) (Or.inl ⟨by rfl,?_⟩) ?_
  rotate_left
  ·intro W' hSw;obtain ⟨c0,c1,c2⟩:=hSw;(try go_simp);try with_reducible rfl
  try simp only [Aa,Act.put]
  refine AJ 6 ?_ rfl (by assumption) (Or.inl ⟨by rfl,?_⟩) ?_
  rotate_left
  ·intro W' hSw;obtain ⟨c0,c1,c2⟩:=hSw;(try go_simp);try with_reducible rfl
  try simp only [Aa,Act.put]
  refine AJ 7 ?_ rfl (by assumption) (Or.inl ⟨by rfl,?_⟩) ?_
  rotate_left
  ·intro W' hSw;obtain ⟨c0,c1,c2⟩:=hSw;(try go_simp);try with_reducible rfl
  try simp only [Aa,Act.put]
  refine AJ 8 ?_ rfl (by assumption) (Or.inl ⟨by rfl,?_⟩) ?_
  rotate_left
  ·intro W' hSw;obtain ⟨c0,c1,c2⟩:=hSw;(try go_simp);try with_reducible rfl
  try simp only [Aa,Act.put]
  refine AJ 9 ?_ rfl (by assumption) (Or.inl ⟨by rfl,?_⟩) ?_
  rotate_left
  ·intro W' hSw;obtain ⟨c0,c1,c2⟩:=hSw;(try go_simp);try with_reducible rfl
  try simp only [Aa,Act.put]
  refine AJ 10 ?_ rfl (by assumption) (Or.inl ⟨by rfl,?_⟩) ?_
  rotate_left
  ·intro W' hSw;obtain ⟨c0,c1,c2⟩:=hSw;(try go_simp);try with_reducible rfl
  try simp only [Aa,Act.put]
  refine AJ 11 ?_ rfl (by assumption) (Or.inl ⟨by rfl,?_⟩) ?_
  rotate_left
  ·intro W' hSw;obtain ⟨c0,c1,c2⟩:=hSw;(try go_simp);try with_reducible rfl
  try simp only [Aa,Act.put]
  refine AJ 12 ?_ rfl (by assumption) (Or.inl ⟨by rfl,?_⟩) ?_
  rotate_left
  ·intro W' hSw;obtain ⟨c0,c1,c2⟩:=hSw;(try go_simp);try with_reducible rfl
  try simp only [Aa,Act.put]
  generalize hv0:W.drew=v0 at hHeld ⊢;have hb0:Below W.heap.size W v0:=by rw [←hv0];exact (Afv _ _).drew
  clear hv0;refine wpAnyH_ready (rs:=[13,18]) (by kernel_rfl) (by simp) ?_;refine AllReadyH.cons rfl (fun K hK=>?_) ?_
  ·skip
   go_simp;go_wp2_with (go_at_call 82;refine (hN v0 hb0).mono ?_;rintro e v1 ⟨tv,na,nc,rfl,ht,hr,b1⟩)
   have hb1:Below W.heap.size W v1:=hb0.trans (b1.mono hb0.size);refine hK.out _ _ (hS0 _ hb1) (fun hHeld=>?_);clear hK K;try simp only [Aa,Act.put]
   have hg1:W.heap.size≤v0.heap.size:=hb0.size;have ht1:TrO (fun b=>W.heap.size≤b∧b < v1.heap.size∧(Value.slice na (dMs R).length nc).ownBlock≠some b) v1 (dN R) tv:=TrO.keep (Afq _) (fun b hb hl=>⟨⟨Afr hg1 hb.1,hl,hb.2⟩,fun _=>rfl⟩) ht;have hr1:=BW hg1 hr;clear hg1;refine AJ 14 ?_ rfl (by assumption) (Or.inl ⟨by rfl,?_⟩) ?_
   rotate_left
   ·intro W' hSw;(try go_simp);try with_reducible rfl
   try simp only [Aa,Act.put]
   refine AJ 15 ?_ rfl (by assumption) (Or.inl ⟨by rfl,?_⟩) ?_
   rotate_left
   ·intro W' hSw;(try go_simp);try with_reducible rfl
   try simp only [Aa,Act.put]
   refine AJ 16 ?_ rfl (by assumption) (Or.inl ⟨by rfl,?_⟩) ?_
   rotate_left
   ·intro W' hSw;(try go_simp);try with_reducible rfl
   try simp only [Aa,Act.put]
   refine AJ 17 ?_ rfl (by assumption) (Or.inl ⟨by rfl,?_⟩) ?_
   rotate_left
   ·intro W' hSw;(try go_simp);try with_reducible rfl
   try simp only [Aa,Act.put]
   refine wpAnyH_ready (rs:=[18]) (by kernel_rfl) (by simp) ?_;refine AllReadyH.cons rfl (fun K hK=>?_) AllReadyH.nil;go_simp;generalize hA:v1.alloc _=v2;have ba:=Ad hA;have qa:=Af hA;have hb2:Below W.heap.size W v2:=hb1.trans (ba.mono hb1.size);refine hK.out _ _ (hS0 _ hb2) (fun hHeld=>?_);clear hK K hA;try simp only [Aa,Act.put]
   have ht2:TrO (fun b=>W.heap.size≤b∧b≠v1.heap.size∧(Value.slice na (dMs R).length nc).ownBlock≠some b) v2 (dN R) tv:=TrO.keep (G:=fun b=>W.heap.size≤b∧b≠v1.heap.size∧(Value.slice na (dMs R).length nc).ownBlock≠some b) ba.size (fun b hb hl=>⟨⟨hb.1,Nat.ne_of_lt hb.2.1,hb.2.2⟩,fun o=>ba.cell (p:=⟨b,o,none⟩) hl⟩) ht1;have hr2:=Ah hr1 ba;have hno:∀ q,(Value.slice na (dMs R).length nc).ownBlock=some q→q≠v1.heap.size:=fun q e=>Nat.ne_of_lt (AF hr1 q e)
   have hgb:W.heap.size≤v1.heap.size:=hb1.size;generalize v1.heap.size=g at qa ht2 hno hgb ⊢;have hv1:tv.oneCell'=true:=(by rcases ht2.shape with ⟨T,q,rfl⟩ | rfl <;> rfl)
   refine wpAnyH_ready (rs:=[19]) (by kernel_rfl) (by simp) ?_;refine AllReadyH.cons rfl (fun K hK=>?_) AllReadyH.nil;rw [if_pos (by rfl)];refine wp_store_row 159 _ _ rfl g #[.string (txt (dT R)),tv,.slice na (dMs R).length nc] rfl rfl 159 #[.string ⟨#[]⟩,.nilIface,.slice none 0 0] qa (by kernel_rfl) rfl (Xr rfl hv1 rfl) ?_;have hb3:Below W.heap.size W (v2.setRow g #[.string (txt (dT R)),tv,.slice na (dMs R).length nc]):=below_setRow hb2 hgb _;refine hK.out _ _ (hS0 _ hb3) (fun hHeld=>?_);clear hK K;try simp only [Aa,Act.put]
   refine AJ 20 ?_ rfl (by assumption) (Or.inl ⟨by rfl,?_⟩) ?_
   rotate_left
   ·intro W' hSw;(try go_simp);try with_reducible rfl
   try simp only [Aa,Act.put]
   refine AJ 21 ?_ rfl (by assumption) (Or.inl ⟨by rfl,?_⟩) ?_
   rotate_left
   ·intro W' hSw;(try go_simp);try with_reducible rfl
   try simp only [Aa,Act.put]
   refine wpAnyH_done (by kernel_rfl) ?_ _
   (try go_wp2_with fail)
   go_meet;refine ⟨g,tv,na,nc,rfl,rfl,rfl,HH.out.step hb3,setRow_heap v2 g _ _ _ _ qa,hgb,TrO.keep (by simp) (fun b hb _=>⟨hb,fun o=>Afy (w:=v2) (a:=⟨b,o,none⟩) (setRow_other v2 g b _ hb.2.1)⟩) ht2,Ab hr2 fun b hb=>setRow_other v2 g b _ (hno b hb)⟩
  refine AllReadyH.cons rfl (fun K hK=>?_) AllReadyH.nil
  ·skip
   go_simp;generalize hA:v0.alloc _=v1;have ba:=Ad hA;have qa:=Af hA;have hb1:Below W.heap.size W v1:=hb0.trans (ba.mono hb0.size);refine hK.out _ _ (hS0 _ hb1) (fun hHeld=>?_);clear hK K hA;try simp only [Aa,Act.put]
   have hgb:W.heap.size≤v0.heap.size:=hb0.size;have hgl:v0.heap.size < v1.heap.size:=qa.lt;generalize v0.heap.size=g at qa hgb hgl ⊢;refine wpAnyH_ready (rs:=[13]) (by kernel_rfl) (by simp) ?_;refine AllReadyH.cons rfl (fun K hK=>?_) AllReadyH.nil;go_simp;go_wp2_with (go_at_call 82;refine (hN v1 hb1).mono ?_;rintro e v2 ⟨tv,na,nc,rfl,ht,hr,b1⟩)
   have hb2:Below W.heap.size W v2:=hb1.trans (b1.mono hb1.size);refine hK.out _ _ (hS0 _ hb2) (fun hHeld=>?_);clear hK K;try simp only [Aa,Act.put]
   replace qa:=qa.below b1 hgl;have hg1:W.heap.size≤v1.heap.size:=hb1.size;have ht2:TrO (fun b=>W.heap.size≤b∧b≠g∧(Value.slice na (dMs R).length nc).ownBlock≠some b) v2 (dN R) tv:=TrO.keep (Afq _) (fun b hb _=>⟨⟨Afr hg1 hb.1,by have:=hb.1;omega,hb.2⟩,fun _=>rfl⟩) ht;have hr2:=BW hg1 hr;have hno:∀ q,(Value.slice na (dMs R).length nc).ownBlock=some q→q≠g:=fun q e=>by have:=AS hr q e;omega
   refine AJ 14 ?_ rfl (by assumption) (Or.inl ⟨by rfl,?_⟩) ?_
   rotate_left
   ·intro W' hSw;(try go_simp);try with_reducible rfl
   try simp only [Aa,Act.put]
   refine AJ 15 ?_ rfl (by assumption) (Or.inl ⟨by rfl,?_⟩) ?_
   rotate_left
   ·intro W' hSw;(try go_simp);try with_reducible rfl
   try simp only [Aa,Act.put]
   refine AJ 16 ?_ rfl (by assumption) (Or.inl ⟨by rfl,?_⟩) ?_
   rotate_left
   ·intro W' hSw;(try go_simp);try with_reducible rfl
   try simp only [Aa,Act.put]
   refine AJ 17 ?_ rfl (by assumption) (Or.inl ⟨by rfl,?_⟩) ?_
   rotate_left
   ·intro W' hSw;(try go_simp);try with_reducible rfl
   try simp only [Aa,Act.put]
   have hv1:tv.oneCell'=true:=(by rcases ht2.shape with ⟨T,q,rfl⟩ | rfl <;> rfl)
   refine wpAnyH_ready (rs:=[19]) (by kernel_rfl) (by simp) ?_;refine AllReadyH.cons rfl (fun K hK=>?_) AllReadyH.nil;rw [if_pos (by rfl)];refine wp_store_row 159 _ _ rfl g #[.string (txt (dT R)),tv,.slice na (dMs R).length nc] rfl rfl 159 #[.string ⟨#[]⟩,.nilIface,.slice none 0 0] qa (by kernel_rfl) rfl (Xr rfl hv1 rfl) ?_;have hb3:Below W.heap.size W (v2.setRow g #[.string (txt (dT R)),tv,.slice na (dMs R).length nc]):=below_setRow hb2 hgb _;refine hK.out _ _ (hS0 _ hb3) (fun hHeld=>?_);clear hK K;try simp only [Aa,Act.put]
   refine AJ 20 ?_ rfl (by assumption) (Or.inl ⟨by rfl,?_⟩) ?_
   rotate_left
   ·intro W' hSw;(try go_simp);try with_reducible rfl
   try simp only [Aa,Act.put]
   refine AJ 21 ?_ rfl (by assumption) (Or.inl ⟨by rfl,?_⟩) ?_
   rotate_left
   ·intro W' hSw;(try go_simp);try with_reducible rfl
   try simp only [Aa,Act.put]
   refine wpAnyH_done (by kernel_rfl) ?_ _
   (try go_wp2_with fail)
   go_meet;refine ⟨g,tv,na,nc,rfl,rfl,rfl,HH.out.step hb3,setRow_heap v2 g _ _ _ _ qa,hgb,TrO.keep (by simp) (fun b hb _=>⟨hb,fun o=>Afy (w:=v2) (a:=⟨b,o,none⟩) (setRow_other v2 g b _ hb.2.1)⟩) ht2,Ab hr2 fun b hb=>setRow_other v2 g b _ (hno b hb)⟩
 case rest=>
  obtain ⟨g,tv,na,nc,rfl,rfl,rfl,hx⟩:=hcut;have HX:=Afj hx;have hgb:=hx.gb;have hpl:=HH.out.q.lt;have hgp:g≠p:=by omega
  clear hx hS0 hN;have c2:World.cell? wc ⟨p,2,none⟩=some (.int .i64 (st.k:Int)):=(HX.out.c.q.cell 2).trans rfl;have f2:=HX.out.c.q.frozen 2;go_upto_region 3 with fail;have HY:=Afj (HX.out.go hpl (dP R));clear c2 f2 HX;generalize wc.setCell ⟨p,2,none⟩ (.int .i64 (dP R:Int))=wy at HY ⊢;have c15:wy.cell? ⟨p,15,none⟩=some (.string (txt st.c.sub.text)):=(HY.out.c.q.cell 15).trans rfl;have c16:wy.cell? ⟨p,16,none⟩=some ts:=(HY.out.c.q.cell 16).trans rfl;have f15:=HY.out.c.q.frozen 15;have f16:=HY.out.c.q.frozen 16;obtain ⟨x0,x1,x2,_,_,_,hxl⟩:=Gu HY.out.x;have hsh:=HY.out.t.shape;go_cut [] (fun wx=>RxH w p s ext (st.rxn (dT R) (dN R) (dP R)) ta tb tv pa pc ma mc W.heap.size g R tv na nc wx)
  case first=>
   have HM:=Afj (fun q hq=>AF HH.out.r q hq);have HZ:=Afj (HY.out.tree hpl HH.out.b0.size HM.out);rcases hsh with ⟨T8,q8,rfl⟩ | rfl
   all_goals
    go_region_law (first | fail)
    all_goals
     (try go_wp2_with fail)
     go_meet;exact HZ.out.drew
  case rest=>
   have HX:=Afj hcut;clear hcut c15 c16 f15 f16 x0 x1 x2 hxl hsh HY;generalize hst5:st.rxn (dT R) (dN R) (dP R)=st5 at HX;have hms:st5.ms=st.ms:=by rw [←hst5];rfl
   have hl5:st5.ms.length≤90000:=by rw [hms];exact HL.out
   have c23:World.cell? wc ⟨p,23,none⟩=some (.slice ma st5.ms.length mc):=(HX.out.c.q.cell 23).trans rfl;obtain ⟨x0,x1,x2,_,_,_,hxl⟩:=Gu HX.out.x;have hml:=HML.out;obtain ⟨i0,hi,hz0,hz1,hz2⟩:=C3;have hm1:st5.ms.length+(dMs R).length≤maxLen:=by unfold maxLen;omega
   have hm2:(st5.ms.length+(dMs R).length) * 24≤140737488355328:=by omega
   have hbs:w.heap.size≤(World.heap wc).size:=HX.out.c.b0.size;have Hst:=Afj hst5;have Hl5:=Afj hl5;clear hst5 hms hl5 hml hgb hpl hgp;go_upto_region 4 with fail
   go_region_law (first
    | (refine A6 rfl _ _ 26 rfl w.heap.size 33 i0 (.agg #[.int .i64 0,.string ⟨#[]⟩]) 2 24 underlying26 hi hz0 hz1 hz2 rfl (by decide) (.slice ma st5.ms.length mc) st5.ms.length (wmC st5.ms) rfl (Ah HX.out.c.r (by first | exact Afv _ _ | exact (Afv _ _).drew)) na (dMs R).length nc (wmC (dMs R)) rfl (MS _) (QV HX.out.r) (MU _) hm1 hm2 hbs ?_;intro v6 w6 hown6 hgrow6 hat6;obtain ⟨a6,c6,rfl⟩:=AB hown6;have HP:=Afj (HX.out.c.push (n:=(dMs R).length) (ms2:=dMs R) (Afv _ _).drew rfl hgrow6 hown6 hat6);have f23:=(AM (HX.out.c.q.below (Afv _ _).drew HX.out.c.q.lt) hgrow6 HX.out.c.rg).frozen 23;have g23:w6.cell? ⟨p,23,none⟩=some (.slice ma st5.ms.length mc):=((AM (HX.out.c.q.below (Afv _ _).drew HX.out.c.q.lt) hgrow6 HX.out.c.rg).cell 23).trans rfl;clear hown6 hgrow6 hat6))
   all_goals
    have hst:=Hst.out;subst hst
    (try go_wp2_with fail)
    go_ret;exact ⟨rfl,HP.out.R⟩
theorem Aq {b c:UInt8} (h:¬ b=c):((b.toNat:Int) == (c.toNat:Int))=false:=by
 have:¬ (b.toNat:Int)=(c.toNat:Int):=fun e=>h (UInt8.toNat_inj.1 (by omega))
 simpa using this
theorem OR (w:World) (p:Nat) (s:ByteArray) (ext:Bool) (st:CS) (W:World) (h:Dy w p s ext st W) (hs:s.size≤4000000) (hk:st.k≤s.size) :
  Calls prog 70 #[.pointer (some ⟨p,0,none⟩)] W fun e W'=>e=.returned (.tuple #[.int .u8 ((Au s.data.toList st).1.toNat:Int),.int .i64 ((Au s.data.toList st).2.1:Int)])∧Dy w p s ext (Au s.data.toList st).2.2 W':=by
 obtain ⟨ta,tb,ts,pa,pc,ma,mc,h⟩:=h;unfold Au;have HH:=Afj h;have k0:W.cell? ⟨p,0,none⟩=some (.string s):=(h.q.cell 0).trans rfl;have k2:W.cell? ⟨p,2,none⟩=some (.int .i64 (st.k:Int)):=(h.q.cell 2).trans rfl;have f2:=h.q.frozen 2;clear h;by_cases hz:st.k=s.size
 ·rw [Bs s st.k (by omega)];have hE:((st.k:Int) == (s.size:Int))=true:=by simp [hz]
  clear hz;simp only;go_enter func70,ntmps70;go_upto_region 1 with fail
  go_quiet (fail)
  generalize nq=n1;go_wp2_with fail
  go_ret2
  exact ⟨rfl,(HH.out.drewN n1).R⟩
 ·have hlt:st.k < s.size:=by omega
  rw [Bm s st.k hlt];have hE:((st.k:Int) == (s.size:Int))=false:=by simp;omega
  have hy0:(0:Int)≤(st.k:Int):=by omega
  have hy1:(st.k:Int) < (s.size:Int):=by omega
  clear hz;simp only;by_cases h1:s[st.k]=92∨s[st.k]=10
  ·rw [if_pos h1];rcases h1 with h1 | h1
   all_goals
    have e1:s[st.k].toNat=_:=congrArg UInt8.toNat h1;clear h1;go_enter func70,ntmps70;go_upto_region 1 with fail;go_quiet (fail);generalize nq=n1;go_upto_region 3 with fail;go_quiet (fail);have H4:=Afj (HH.out.drewN (n1+nq));generalize nq=n2 at H4 ⊢;go_wp2_with fail
    go_ret2
    exact ⟨rfl,H4.out.R⟩
  ·rw [if_neg h1];have c1:((s[st.k].toNat:Int) == 92)=false:=Aq (c:=92) fun e=>h1 (.inl e)
   have c2:((s[st.k].toNat:Int) == 10)=false:=Aq (c:=10) fun e=>h1 (.inr e)
   have Wk:IntKind.i64.wrap ((st.k:Int)+1)=((st.k+1:Nat):Int):=by rw [Afx _ (by omega)];omega
   clear h1;go_enter func70,ntmps70;go_upto_region 1 with fail;go_quiet (fail);generalize nq=n1;go_upto_region 3 with fail;go_quiet (fail);have H4:=Afj (HH.out.drewN (n1+nq));generalize nq=n2 at H4 ⊢;have H5:=Afj (H4.out.go (st.k+1));clear H4;go_wp2_with fail
   go_ret2
   exact ⟨rfl,H5.out.R⟩
theorem CmSt.all {w:World} {p:Nat} {s:ByteArray} {ext:Bool} {st:CS} {ta tb ts:Value} {pa:Option Addr} {pc:Nat} {ma:Option Addr} {mc:Nat} {W:World} (h:CmSt w p s ext st ta tb ts pa pc ma mc W):CmSt w p s ext st.all ta tb ts pa pc ma mc ((W.setCell ⟨p,19,none⟩ (.bool true)).setCell ⟨p,2,none⟩ (.int .i64 ((st.k+1:Nat):Int))):=
 (h.put 19 (.bool true) { st with c:={ st.c with sub:={ st.c.sub with all:=true } } } rfl rfl rfl rfl fun _ _=>rfl).go (st.k+1)
theorem CmSt.prt {w:World} {p:Nat} {s:ByteArray} {ext:Bool} {st:CS} {ta tb ts:Value} {pa:Option Addr} {pc:Nat} {ma:Option Addr} {mc:Nat} {W:World} (h:CmSt w p s ext st ta tb ts pa pc ma mc W):CmSt w p s ext st.prt ta tb ts pa pc ma mc ((W.setCell ⟨p,20,none⟩ (.bool true)).setCell ⟨p,2,none⟩ (.int .i64 ((st.k+1:Nat):Int))):=
 (h.put 20 (.bool true) { st with c:={ st.c with sub:={ st.c.sub with prt:=true } } } rfl rfl rfl rfl fun _ _=>rfl).go (st.k+1)
theorem Xs (w:World) (p:Nat) (s:ByteArray) (ext:Bool) (st:CS) (W:World) (h:Dy w p s ext st W) (hs:s.size≤4000000) (hk:st.k≤s.size) :
  Calls prog 89 #[.pointer (some ⟨p,0,none⟩),.pointer (some ⟨p,19,none⟩)] W fun e W'=>e=.returned (.int .i64 ((CU st).1:Int))∧Dy w p s ext (CU st).2 W':=by
 obtain ⟨ta,tb,ts,pa,pc,ma,mc,h⟩:=h;unfold CU;have HH:=Afj h;have k2:W.cell? ⟨p,2,none⟩=some (.int .i64 (st.k:Int)):=(h.q.cell 2).trans rfl;have kf:W.cell? ⟨p,19,none⟩=some (.bool st.c.sub.all):=(h.q.cell 19).trans rfl;have f2:=h.q.frozen 2;have ff:=h.q.frozen 19;have Wk:IntKind.i64.wrap ((st.k:Int)+1)=((st.k+1:Nat):Int):=by rw [Afx _ (by omega)];omega
 clear h;obtain ⟨b,hb⟩:∃ b,st.c.sub.all=b:=⟨_,rfl⟩;rw [hb] at kf ⊢;clear hb;cases b
 ·rw [if_neg (by decide)];have H5:=Afj HH.out.all;go_enter func89,ntmps89;go_wp2_with fail
  go_ret;exact ⟨rfl,H5.out.R⟩
 ·rw [if_pos rfl];go_enter func89,ntmps89;go_wp2_with fail
  go_ret;exact ⟨rfl,HH.out.R⟩
theorem Xt (w:World) (p:Nat) (s:ByteArray) (ext:Bool) (st:CS) (W:World) (h:Dy w p s ext st W) (hs:s.size≤4000000) (hk:st.k≤s.size) :
  Calls prog 89 #[.pointer (some ⟨p,0,none⟩),.pointer (some ⟨p,20,none⟩)] W fun e W'=>e=.returned (.int .i64 ((CW st).1:Int))∧Dy w p s ext (CW st).2 W':=by
 obtain ⟨ta,tb,ts,pa,pc,ma,mc,h⟩:=h;unfold CW;have HH:=Afj h;have k2:W.cell? ⟨p,2,none⟩=some (.int .i64 (st.k:Int)):=(h.q.cell 2).trans rfl;have kf:W.cell? ⟨p,20,none⟩=some (.bool st.c.sub.prt):=(h.q.cell 20).trans rfl;have f2:=h.q.frozen 2;have ff:=h.q.frozen 20;have Wk:IntKind.i64.wrap ((st.k:Int)+1)=((st.k+1:Nat):Int):=by rw [Afx _ (by omega)];omega
 clear h;obtain ⟨b,hb⟩:∃ b,st.c.sub.prt=b:=⟨_,rfl⟩;rw [hb] at kf ⊢;clear hb;cases b
 ·rw [if_neg (by decide)];have H5:=Afj HH.out.prt;go_enter func89,ntmps89;go_wp2_with fail
  go_ret;exact ⟨rfl,H5.out.R⟩
 ·rw [if_pos rfl];go_enter func89,ntmps89;go_wp2_with fail
  go_ret;exact ⟨rfl,HH.out.R⟩
theorem AY (b:UInt8) (w:World):Calls prog 90 #[.int .u8 (b.toNat:Int)] w fun e w'=>e=.returned (.bool (A7.contains b))∧w'=w:=by
 rw [DT];by_cases h1:48≤b.toNat
 ·have d1:(48:Int)≤(b.toNat:Int):=by omega
  rw [decide_eq_true h1,Bool.true_and];by_cases h2:b.toNat≤57
  ·have d2:(b.toNat:Int)≤57:=by omega
   rw [decide_eq_true h2];go_enter func90,ntmps90;go_wp2_with fail
   go_ret;exact ⟨rfl,rfl⟩
  ·have d2:¬ (b.toNat:Int)≤57:=by omega
   rw [decide_eq_false h2];go_enter func90,ntmps90;go_wp2_with fail
   go_ret;exact ⟨rfl,rfl⟩
 ·have d1:¬ (48:Int)≤(b.toNat:Int):=by omega
  rw [decide_eq_false h1,Bool.false_and];go_enter func90,ntmps90;go_wp2_with fail
  go_ret;exact ⟨rfl,rfl⟩
def Aab (m:Option Nat):Value:=match m with
 | some n=>.tuple #[.int .i64 (n:Int),.bool true]
 | none=>.tuple #[.int .i64 0,.bool false]
theorem U5 (b:UInt8) (w:World):Calls prog 65 #[.int .u8 (b.toNat:Int)] w fun e w'=>e=.returned (Aab (Et b))∧w'=w:=by
 by_cases h:b∈[125,58,61,113,81,97,105,114,123,100,68,103,71,104,72,108,110,78,112,80,120,122,98,116,84,99,119,115,121]
 ·simp only [Afz,List.not_mem_nil,or_false] at h;rcases h with rfl | rfl | rfl | rfl | rfl | rfl | rfl | rfl | rfl | rfl | rfl | rfl | rfl | rfl | rfl | rfl | rfl | rfl | rfl | rfl | rfl | rfl | rfl | rfl | rfl | rfl | rfl | rfl | rfl
  all_goals
   go_enter func65,ntmps65;go_wp2_with fail
   go_ret2
   exact ⟨rfl,rfl⟩
 ·simp only [Afz,List.not_mem_nil,or_false,not_or] at h;obtain ⟨q125,q58,q61,q113,q81,q97,q105,q114,q123,q100,q68,q103,q71,q104,q72,q108,q110,q78,q112,q80,q120,q122,q98,q116,q84,q99,q119,q115,q121⟩:=h;have c125:((b.toNat:Int) == 125)=false:=Aq (c:=125) q125;have c58:((b.toNat:Int) == 58)=false:=Aq (c:=58) q58;have c61:((b.toNat:Int) == 61)=false:=Aq (c:=61) q61;have c113:((b.toNat:Int) == 113)=false:=Aq (c:=113) q113;have c81:((b.toNat:Int) == 81)=false:=Aq (c:=81) q81;have c97:((b.toNat:Int) == 97)=false:=Aq (c:=97) q97;have c105:((b.toNat:Int) == 105)=false:=Aq (c:=105) q105;have c114:((b.toNat:Int) == 114)=false:=Aq (c:=114) q114;have c123:((b.toNat:Int) == 123)=false:=Aq (c:=123) q123;have c100:((b.toNat:Int) == 100)=false:=Aq (c:=100) q100;have c68:((b.toNat:Int) == 68)=false:=Aq (c:=68) q68;have c103:((b.toNat:Int) == 103)=false:=Aq (c:=103) q103;have c71:((b.toNat:Int) == 71)=false:=Aq (c:=71) q71;have c104:((b.toNat:Int) == 104)=false:=Aq (c:=104) q104;have c72:((b.toNat:Int) == 72)=false:=Aq (c:=72) q72;have c108:((b.toNat:Int) == 108)=false:=Aq (c:=108) q108;have c110:((b.toNat:Int) == 110)=false:=Aq (c:=110) q110;have c78:((b.toNat:Int) == 78)=false:=Aq (c:=78) q78;have c112:((b.toNat:Int) == 112)=false:=Aq (c:=112) q112;have c80:((b.toNat:Int) == 80)=false:=Aq (c:=80) q80;have c120:((b.toNat:Int) == 120)=false:=Aq (c:=120) q120;have c122:((b.toNat:Int) == 122)=false:=Aq (c:=122) q122;have c98:((b.toNat:Int) == 98)=false:=Aq (c:=98) q98;have c116:((b.toNat:Int) == 116)=false:=Aq (c:=116) q116;have c84:((b.toNat:Int) == 84)=false:=Aq (c:=84) q84;have c99:((b.toNat:Int) == 99)=false:=Aq (c:=99) q99;have c119:((b.toNat:Int) == 119)=false:=Aq (c:=119) q119;have c115:((b.toNat:Int) == 115)=false:=Aq (c:=115) q115;have c121:((b.toNat:Int) == 121)=false:=Aq (c:=121) q121;have hm:Et b=none:=by
   unfold Et;rw [if_neg (by simp [q125,q58]),if_neg (by simp [q61,q113,q81,q97,q105,q114]),if_neg (by simp [q123,q100,q68,q103,q71,q104,q72,q108,q110,q78,q112,q80,q120,q122,q98,q116,q84,q99,q119,q115,q121])]
  rw [hm];clear hm q125 q58 q61 q113 q81 q97 q105 q114 q123 q100 q68 q103 q71 q104 q72 q108 q110 q78 q112 q80 q120 q122 q98 q116 q84 q99 q119 q115 q121;go_enter func65,ntmps65;go_wp2_with fail
  go_ret2
  exact ⟨rfl,rfl⟩
theorem U6 (g:Grd) (la lb:Int) (sa sb:ByteArray) (ta tb:Value) (w:World) (hx:(∃ T q,ta=.iface T q)∨ta=.nilIface) (hy:(∃ T q,tb=.iface T q)∨tb=.nilIface):Calls prog 66 #[.agg #[.int .i64 (g.a.kind:Int),.int .i64 la,.string sa,ta,.int .i64 (g.b.kind:Int),.int .i64 lb,.string sb,tb,.bool g.no]] w fun e w'=>e=.returned (.int .i64 (GE g:Int))∧Below w.heap.size w w':=by
 obtain ⟨W1,hW1⟩:∃ W1,w.alloc (.cells #[.int .i64 (g.a.kind:Int),.int .i64 la,.string sa,ta,.int .i64 (g.b.kind:Int),.int .i64 lb,.string sb,tb,.bool g.no] 49)=W1:=⟨_,rfl⟩;have hb1:=Ad hW1;obtain ⟨⟨x0,x1,x2,x3,x4,x5,x6,x7,x8⟩,_,_,_,_,_,_,_,_,_,hxl⟩:=BX (Af hW1);unfold GE;by_cases h1:g.a.kind=0
 ·rw [if_pos h1];have c1:((g.a.kind:Int) == 0)=true:=by simp [h1]
  clear h1;rcases hx with ⟨T8,q8,rfl⟩ | rfl <;> rcases hy with ⟨T9,q9,rfl⟩ | rfl
  all_goals
   go_enter func66,ntmps66;go_wp2_with fail
   go_ret;exact ⟨rfl,hb1⟩
 ·rw [if_neg h1];have c1:((g.a.kind:Int) == 0)=false:=by simpa using h1
  clear h1;by_cases h2:g.b.kind=0
  ·rw [if_pos h2];have c2:((g.b.kind:Int) == 0)=true:=by simp [h2]
   clear h2;rcases hx with ⟨T8,q8,rfl⟩ | rfl <;> rcases hy with ⟨T9,q9,rfl⟩ | rfl
   all_goals
    go_enter func66,ntmps66;go_wp2_with fail
    go_ret;exact ⟨rfl,hb1⟩
  ·rw [if_neg h2];have c2:((g.b.kind:Int) == 0)=false:=by simpa using h2
   clear h2;rcases hx with ⟨T8,q8,rfl⟩ | rfl <;> rcases hy with ⟨T9,q9,rfl⟩ | rfl
   all_goals
    go_enter func66,ntmps66;go_wp2_with fail
    go_ret;exact ⟨rfl,hb1⟩
theorem CmSt.nth {w:World} {p:Nat} {s:ByteArray} {ext:Bool} {st:CS} {ta tb ts:Value} {pa:Option Addr} {pc:Nat} {ma:Option Addr} {mc:Nat} {W:World} (h:CmSt w p s ext st ta tb ts pa pc ma mc W) (n k:Nat):CmSt w p s ext (st.nth n k) ta tb ts pa pc ma mc ((W.setCell ⟨p,18,none⟩ (.int .i64 (n:Int))).setCell ⟨p,2,none⟩ (.int .i64 (k:Int))):=
 (h.put 18 (.int .i64 (n:Int)) { st with c:={ st.c with sub:={ st.c.sub with nth:=n } } } rfl rfl rfl rfl fun _ _=>rfl).go k
theorem Xu (w:World) (p:Nat) (s:ByteArray) (ext:Bool) (st:CS) (W:World) (h:Dy w p s ext st W) (hs:s.size≤4000000) (hk:st.k≤s.size) :
  Calls prog 91 #[.pointer (some ⟨p,0,none⟩)] W fun e W'=>e=.returned (.int .i64 ((CB s.data.toList st).1:Int))∧Dy w p s ext (CB s.data.toList st).2 W':=by
 obtain ⟨ta,tb,ts,pa,pc,ma,mc,h⟩:=h;have hN:=fun w1=>G8 s st.k w1 hs hk
 unfold CB;obtain ⟨⟨n,q,e0⟩,hR⟩:∃ R,B9 s.data.toList st.k=R:=⟨_,rfl⟩;rw [hR] at hN ⊢;have hN:∀ w1,Calls prog 81 #[.string s,.int .i64 (st.k:Int)] w1 fun e w'=>e=.returned (.tuple #[.int .i64 (n:Int),.int .i64 (q:Int),.int .i64 (e0:Int)])∧Below w1.heap.size w1 w':=hN
 have HH:=Afj h;have k0:W.cell? ⟨p,0,none⟩=some (.string s):=(h.q.cell 0).trans rfl;have k2:W.cell? ⟨p,2,none⟩=some (.int .i64 (st.k:Int)):=(h.q.cell 2).trans rfl;clear h hR;obtain ⟨Z,hZ⟩:∃ Z,Cr st (n,q,e0)=Z:=⟨_,rfl⟩;rw [hZ];have HZ:=Afj hZ;clear hZ;go_enter func91,ntmps91;go_upto_region 1 with fail;go_cut [3,4,5] (fun s3 s4 s5 wx=>s3=.int .i64 (n:Int)∧s4=.int .i64 (q:Int)∧s5=.int .i64 (e0:Int)∧CmSt w p s ext st ta tb ts pa pc ma mc wx)
 case first=>
  go_region_held3 (fun w'=>w'.cell? ⟨p,0,none⟩=some (.string s)∧w'.cell? ⟨p,2,none⟩=some (.int .i64 (st.k:Int))) (first | exact ⟨k0,k2⟩ | (refine ⟨?_,?_⟩ <;> assumption)) (first | (go_at_call 81;refine (hN _).mono ?_;rintro e w1 ⟨rfl,b1⟩;have H1:=Afj (by first | exact HH.out.step b1 | exact HH.out.drew.step b1:CmSt w p s ext st ta tb ts pa pc ma mc w1);have m0:w1.cell? ⟨p,0,none⟩=some (.string s):=(H1.out.q.cell 0).trans rfl;have m2:w1.cell? ⟨p,2,none⟩=some (.int .i64 (st.k:Int)):=(H1.out.q.cell 2).trans rfl;clear b1))
  all_goals ((try go_wp2_with fail);go_meet;exact ⟨rfl,rfl,rfl,H1.out⟩)
 case rest=>
  obtain ⟨rfl,rfl,rfl,h2⟩:=hcut;have H2:=Afj h2;clear h2 k0 k2;have k2:World.cell? wc ⟨p,2,none⟩=some (.int .i64 (st.k:Int)):=(H2.out.q.cell 2).trans rfl;have k18:World.cell? wc ⟨p,18,none⟩=some (.int .i64 (st.c.sub.nth:Int)):=(H2.out.q.cell 18).trans rfl;have f2:=H2.out.q.frozen 2;have f18:=H2.out.q.frozen 18;by_cases he:e0=0
  ·subst he;by_cases h18:st.c.sub.nth=0
   ·have c18:((st.c.sub.nth:Int) != 0)=false:=by simp [h18]
    by_cases hn:n=0
    ·subst hn;obtain rfl:(1,st)=Z:=by rw [←HZ.out];unfold Cr;simp [h18]
     clear h18;go_wp2_with fail
     go_ret;exact ⟨rfl,H2.out.R⟩
    ·obtain rfl:(0,st.nth n q)=Z:=by rw [←HZ.out];unfold Cr;simp [h18,hn]
     have cn:((n:Int) == 0)=false:=by simpa using hn
     have H3:=Afj (H2.out.nth n q);clear h18 hn;go_wp2_with fail
     go_ret;exact ⟨rfl,H3.out.R⟩
   ·obtain rfl:(15,st)=Z:=by rw [←HZ.out];unfold Cr;simp [h18]
    have c18:((st.c.sub.nth:Int) != 0)=true:=by simpa using h18
    clear h18;go_wp2_with fail
    go_ret;exact ⟨rfl,H2.out.R⟩
  ·obtain rfl:(e0,st)=Z:=by rw [←HZ.out];unfold Cr;simp [he]
   have ce:((e0:Int) != 0)=true:=by simpa using he
   clear he;go_wp2_with fail
   go_ret;exact ⟨rfl,H2.out.R⟩
theorem CmSt.name {w:World} {p:Nat} {s:ByteArray} {ext:Bool} {st:CS} {ta tb ts:Value} {pa:Option Addr} {pc:Nat} {ma:Option Addr} {mc:Nat} {W:World} (h:CmSt w p s ext st ta tb ts pa pc ma mc W) (b:UInt8) {k1:Nat} (hk:st.k+1=k1):CmSt w p s ext (st.name b) ta tb ts pa pc ma mc ((W.setCell ⟨p,13,none⟩ (.int .u8 (b.toNat:Int))).setCell ⟨p,2,none⟩ (.int .i64 (k1:Int))):=by
 subst hk;exact (h.put 13 (.int .u8 (b.toNat:Int)) { st with c:={ st.c with name:=b } } rfl rfl rfl rfl fun _ _=>rfl).go (st.k+1)
theorem Xv (s:ByteArray) (k:Nat) (h:k < s.size):(s.extract k (k+1)).data.toList=[s[k]]:=by
 rw [ByteArray.data_extract,Array.toList_extract,List.extract_eq_take_drop,Bm s k h];rw [show k+1 - k=1 by omega];rfl
theorem QW {b:UInt8} (h:FM b=false):¬ b=81∧¬ b=84∧¬ b=122:=by
 simpa [FM,and_assoc] using h
theorem QX {b:UInt8} (h:FM b=true):b=81∨b=84∨b=122:=by
 simpa [FM,or_assoc] using h
theorem U7 (w:World) (p:Nat) (s:ByteArray) (ext:Bool) (st:CS) (W:World) (h:Dy w p s ext st W) (hs:s.size≤4000000) (hk:st.k≤s.size) (hl:st.ms.length≤100000) :
  Calls prog 41 #[.pointer (some ⟨p,0,none⟩)] W fun e W'=>e=.returned (.int .i64 ((AW s.data.toList st).1:Int))∧Dy w p s ext (AW s.data.toList st).2 W':=by
 obtain ⟨ta,tb,ts,pa,pc,ma,mc,h⟩:=h;unfold AW;have HH:=Afj h;have Hl:=Afj hl;have k0:W.cell? ⟨p,0,none⟩=some (.string s):=(h.q.cell 0).trans rfl;have k2:W.cell? ⟨p,2,none⟩=some (.int .i64 (st.k:Int)):=(h.q.cell 2).trans rfl;clear h hl;by_cases hz:st.k=s.size
 ·rw [Bs s st.k (by omega)];have hE:((st.k:Int) == (s.size:Int))=true:=by simp [hz]
  clear hz;simp only;go_enter func41,ntmps41;go_upto_region 1 with fail
  go_quiet (fail)
  generalize nq=n1;go_wp2_with fail
  go_ret;exact ⟨rfl,(HH.out.drewN n1).R⟩
 ·have hlt:st.k < s.size:=by omega
  rw [Bm s st.k hlt];have hE:((st.k:Int) == (s.size:Int))=false:=by simp;omega
  have hy0:(0:Int)≤(st.k:Int):=by omega
  have hy1:(st.k:Int) < (s.size:Int):=by omega
  obtain ⟨K1,hK1⟩:∃ K1,st.k+1=K1:=⟨_,rfl⟩;have Wk:IntKind.i64.wrap ((st.k:Int)+1)=(K1:Int):=by rw [Afx _ (by omega)];omega
  have hs1:(st.k:Int)≤(K1:Int):=by omega
  have hs2:(K1:Int)≤(s.size:Int):=by omega
  have hs3:st.k≤K1:=by omega
  have hs4:K1≤s.size:=by omega
  have HK1:=Afj hK1;clear hz;simp only;have hMo:=fun w1=>U5 s[st.k] w1
  have hO:=Xv s st.k hlt;rw [hK1] at hO;clear hK1;obtain ⟨b,hb⟩:∃ b,s[st.k]=b:=⟨_,rfl⟩;rw [hb] at hMo hO ⊢;have hsx:s[st.k]'hlt=b:=hb;obtain ⟨M,hM⟩:∃ M,Et b=M:=⟨_,rfl⟩;rw [hM] at hMo ⊢;clear hM hb;obtain ⟨Z,hZ⟩:∃ Z,Bt st b M=Z:=⟨_,rfl⟩;rw [hZ];have HZ:=Afj hZ;clear hZ;have hA:=fun w1=>U6 st.c.g (st.c.g.a.line:Int) (st.c.g.b.line:Int) (txt st.c.g.a.text) (txt st.c.g.b.text) ta tb w1 HH.out.ha.shape HH.out.hb.shape
  have hsa:=HH.out.ha.shape;have hsb:=HH.out.hb.shape;go_enter func41,ntmps41;go_upto_region 1 with fail
  go_quiet (fail)
  generalize nq=n1;go_upto_region 3 with fail
  go_quiet (fail)
  have H4:=Afj (HH.out.drewN (n1+nq));generalize nq=n2 at H4 ⊢;cases M with
  | none=>
   have hMo:∀ w1,Calls prog 65 #[.int .u8 (b.toNat:Int)] w1 fun e w'=>e=.returned (.tuple #[.int .i64 0,.bool false])∧w'=w1:=hMo
   obtain rfl:(13,st)=Z:=HZ.out;go_wp2_with (go_at_call 65;refine (hMo _).mono ?_;rintro e w4 ⟨rfl,rfl⟩)
   go_ret;exact ⟨rfl,H4.out.R⟩
  | some n=>
   have hMo:∀ w1,Calls prog 65 #[.int .u8 (b.toNat:Int)] w1 fun e w'=>e=.returned (.tuple #[.int .i64 (n:Int),.bool true])∧w'=w1:=hMo
   obtain ⟨_,⟨k3,k4,k5,k6,k7,k8,k9,k10,k11,k12⟩,_,hpl⟩:=Adj HH.out.q;obtain ⟨m,hm⟩:∃ m,GE st.c.g=m:=⟨_,rfl⟩;rw [hm] at hA;by_cases hx:n < m
   ·obtain rfl:(19,st)=Z:=by rw [←HZ.out];unfold Bt;simp [hm,hx]
    have hxi:(n:Int) < (m:Int):=by omega
    clear hx hm;go_wp2_with (first
     | (go_at_call 65;refine (hMo _).mono ?_;rintro e w4 ⟨rfl,rfl⟩)
     | (go_at_call 66;refine (hA _).mono ?_;clear hA;rintro e w5 ⟨rfl,b5⟩))
    go_ret;exact ⟨rfl,(H4.out.step b5).R⟩
   ·have hxi:¬ (n:Int) < (m:Int):=by omega
    go_upto_region 9 with (first
     | (go_at_call 65;refine (hMo _).mono ?_;rintro e w4 ⟨rfl,rfl⟩)
     | (go_at_call 66;refine (hA _).mono ?_;rintro e w5 ⟨rfl,b5⟩))
    have H5:=Afj (H4.out.step b5);clear H4 b5 k0 k2 k3 k4 k5 k6 k7 k8 k9 k10 k11 k12 hpl hA hMo;have k0:w5.cell? ⟨p,0,none⟩=some (.string s):=(H5.out.q.cell 0).trans rfl;have k2:w5.cell? ⟨p,2,none⟩=some (.int .i64 (st.k:Int)):=(H5.out.q.cell 2).trans rfl;have k13:w5.cell? ⟨p,13,none⟩=some (.int .u8 (st.c.name.toNat:Int)):=(H5.out.q.cell 13).trans rfl;have f2:=H5.out.q.frozen 2;have f13:=H5.out.q.frozen 13;obtain ⟨T,hT⟩:∃ T,FM b=T:=⟨_,rfl⟩;cases T with
    | false=>
     obtain rfl:(0,st.name b)=Z:=by rw [←HZ.out];unfold Bt;simp [hm,hx,hT]
     obtain ⟨q1,q2,q3⟩:=QW hT;have c1:((b.toNat:Int) == 81)=false:=Aq (c:=81) q1;have c2:((b.toNat:Int) == 84)=false:=Aq (c:=84) q2;have c3:((b.toNat:Int) == 122)=false:=Aq (c:=122) q3;have H6:=Afj (H5.out.name b HK1.out);clear q1 q2 q3 hT hm hx;go_wp2_with fail
     go_ret;exact ⟨rfl,H6.out.R⟩
    | true=>
     obtain rfl:(0,(st.mark st.k [b]).name b)=Z:=by rw [←HZ.out];unfold Bt;simp [hm,hx,hT]
     have hMk:=fun w1 (h1:CmSt w p s ext st ta tb ts pa pc ma mc w1)=>LM w p s ext st ta tb ts pa pc ma mc (s.extract st.k K1) w1 h1 Hl.out
     rw [hO] at hMk;rcases QX hT with rfl | rfl | rfl
     all_goals
      clear hT hm hx;go_upto_region 13 with fail
      go_region_held3 (fun w'=>w'.cell? ⟨p,0,none⟩=some (.string s)∧w'.cell? ⟨p,2,none⟩=some (.int .i64 (st.k:Int))) (first | exact ⟨k0,k2⟩ | (refine ⟨?_,?_⟩ <;> assumption)) (first | (go_at_call 67;refine (hMk _ (by first | exact H5.out | exact H5.out.drew)).mono ?_;rintro e w6 ⟨rfl,a6,c6,h6⟩;have H6:=Afj h6;have m0:w6.cell? ⟨p,0,none⟩=some (.string s):=(h6.q.cell 0).trans rfl;have m2:w6.cell? ⟨p,2,none⟩=some (.int .i64 (st.k:Int)):=(h6.q.cell 2).trans rfl;clear h6))
      all_goals
       clear k0 k2 k13 f2 f13;have k13:w6.cell? ⟨p,13,none⟩=some (.int .u8 (st.c.name.toNat:Int)):=(H6.out.q.cell 13).trans rfl;have f2:=H6.out.q.frozen 2;have f13:=H6.out.q.frozen 13;have H7:=Afj (fun b=>H6.out.name b HK1.out);go_wp2_with fail
       go_ret;exact ⟨rfl,(H7.out _).R⟩
end
section
open Go.RowKit
/-- The rune that is no rune: none of the two. -/
theorem Lc (t:ByteArray) (ht:t.size=2) (ha:∀ i (h:i < t.size),t[i].toNat < 128) (w:World) :
  Calls prog 96 #[.string t,.int .i32 65533] w fun e w'=>e=.returned (.int .i64 (-1))∧Below w.heap.size w w':=by
 go_enter func96,ntmps96;have HA:=Afj ha;clear ha
 go_wp2
 go_loopg [5,6] 2 (fun g _ _ wx=>∃ i:Nat,i+g=2∧wx=w.iter t i)
 case atStart=>exact ⟨0,by omega,rfl⟩
 case round=>
  obtain ⟨i,hig,rfl⟩:=hrel;cases gk with
  | zero=>
   obtain rfl:i=2:=by omega
   have hnx:=fun ty=>run_next_end (P:=prog) w t 2 ty (by omega)
   go_wp2
   go_ret;exact ⟨rfl,(Afv _ w).alloc (Afq _) _⟩
  | succ g=>
   have hi:i < t.size:=by omega
   have h128:=HA.out i hi;have hnx:=fun ty=>run_next_ascii (P:=prog) w t i ty hi h128
   have hq:((t[i].toNat:Int) == 65533)=false:=beq_eq_false_iff_ne.2 (by omega)
   go_wp2
   go_roundg g
   case measure=>omega
   case rel=>exact ⟨i+1,by omega,rfl⟩
/-- Any other rune beyond ASCII. -/
theorem Nl (t:ByteArray) (ht:t.size=2) (ha:∀ i (h:i < t.size),t[i].toNat < 128) (r:Int) (hv:Utf8.valid r=true) (h128:128≤r) (hm:r≤1114111) (hne:¬ r=65533) (w:World) :
  Calls prog 96 #[.string t,.int .i32 r] w fun e w'=>e=.returned (.int .i64 (-1))∧Below w.heap.size w w':=by
 obtain ⟨e2,e4,elast⟩:=encode_facts r hv h128;have hq:(r == 65533)=false:=beq_eq_false_iff_ne.2 hne;have hV:Calls prog 111 #[.int .i32 r] w fun e w'=>e=.returned (.bool true)∧w'=w:=by
  have:=Any.utf8_ValidRune (P:=prog) (ρ:=RL) { RM with } r w;rw [show Lib.validRune r=true from by rw [←hv,validRune_eq];rfl] at this;exact this
 generalize hE:Utf8.encode r=E at e2 e4 elast;have hc1:(r < 128)=False:=eq_false (by omega);have h0:(0:Int)≤r:=by omega
 have hL1:IntKind.i64.wrap ((E.size:Int) - 1)=(E.size:Int) - 1:=Afx _ (by omega);clear hne hv;have hcv:∀ w,(convert 21 9 (.int .i32 r)).run prog w=.ok (.string E) w:=fun w=>by
  rw [←hE];exact run_convert_int_string w 21 9 .i32 r (by rw [underlying21];rfl) underlying9
 go_enter func96,ntmps96;by_cases hs2:E.size=2
 ·have hlast:=elast (by omega);have hL2:IntKind.i64.wrap ((E.size:Int) - 1)=1:=by rw [hL1];omega
  have h1a:=ha 1 (by omega);have hq59:((t[1]'(by omega)).toNat:Int) != (E[1]'(by omega)).toNat:=bne_iff_ne.2 (by
   have:(E[E.size - 1]'(by omega))=E[1]'(by omega):=by congr 1;omega
   rw [this] at hlast;omega)
  have hlt1:(1:Int) < (E.size:Int):=by omega
  have htt:(t.size:Int)=2:=by omega
  have hw2:IntKind.i64.wrap 2=2:=by decide
  have hle2:(2:Int)≤(t.size:Int):=by omega
  have hIB:∀ (c:UInt8) w,Calls prog 110 #[.string ByteArray.empty,.int .u8 c.toNat] w fun e w'=>e=.returned (.int .i64 (-1))∧w'=w:=fun c w=>
   FD ByteArray.empty c w
  clear hlast elast hE ha h1a;go_wp2_with (go_at_call 111;refine hV.mono ?_;rintro e w' ⟨rfl,rfl⟩)
  go_step3
  go_wp2
  refine wp_loop_rounds 1 ?_;rw [rounds_succ]
  go_wp2
  go_step3
  go_wp2
  go_quiet (fail)
  generalize hW1:w'.drewN _=W1
  go_wp2
  go_quiet (first | (go_at_call 110;exact Calls.quiet_of_same (hIB _ _)))
  go_wp2
  simp only [Exit.inBlock,Exit.then,Exit.noGoto];go_ret;refine ⟨rfl,below_drewN ?_ _⟩;rw [←hW1];exact below_drewN (Afv _ _) _
 ·have hge:¬ ((E.size:Int) - 1 < (t.size:Int)):=by omega
  clear elast hE ha;go_wp2_with (go_at_call 111;refine hV.mono ?_;rintro e w' ⟨rfl,rfl⟩)
  go_step3
  go_wp2
  refine wp_loop_rounds 1 ?_;rw [rounds_succ]
  go_wp2
  try rw [Exit.noGoto_ret]
  go_ret;exact ⟨rfl,Afv _ _⟩
theorem OS (n b c d e:Nat) (hn:1≤n) (h:¬ b < 128) (hb:b < 256) :
  128≤(Lib.decodeN n b c d e).1∧(Lib.decodeN n b c d e).1≤1114111∧((Lib.decodeN n b c d e).1 < 55296∨57343 < (Lib.decodeN n b c d e).1)∧1≤(Lib.decodeN n b c d e).2∧(Lib.decodeN n b c d e).2≤n∧(Lib.decodeN n b c d e).2≤4∧
   (2≤(Lib.decodeN n b c d e).2→128≤c)∧(3≤(Lib.decodeN n b c d e).2→128≤d)∧(4≤(Lib.decodeN n b c d e).2→128≤e):=by
 unfold Lib.decodeN;rw [if_neg h]
 repeat' split
 all_goals (simp only;omega)
theorem QY (s:ByteArray) (pos:Nat) (hp:pos < s.size) (h:¬ s[pos].toNat < 128) :
  128≤(Utf8.decode s pos).1∧(Utf8.decode s pos).1≤1114111∧Utf8.valid ((Utf8.decode s pos).1:Int)=true∧1≤(Utf8.decode s pos).2∧pos+(Utf8.decode s pos).2≤s.size∧
   ∀ (j:Nat) b,pos≤j→j < pos+(Utf8.decode s pos).2→s.data.toList[j]?=some b→128≤b.toNat:=by
 have hx:s.data.toList[pos]?=some s[pos]:=Lib.data_getElem? s pos hp;have h0:(s.data.toList.getD pos 0)=s[pos]:=by rw [Af7,hx];rfl
 have H:=OS (s.data.toList.length - pos) (s.data.toList.getD pos 0).toNat (s.data.toList.getD (pos+1) 0).toNat (s.data.toList.getD (pos+2) 0).toNat (s.data.toList.getD (pos+3) 0).toNat (by rw [←Ae];omega) (by rw [h0];exact h) (UInt8.toNat_lt _)
 rw [←E7] at H;obtain ⟨h1,h2,h3,h4,h5,h6,h7,h8,h9⟩:=H;rw [←Ae] at h5;refine ⟨h1,h2,?_,h4,by omega,fun j b hj1 hj2 hb=>?_⟩
 ·simp only [Utf8.valid,Bool.or_eq_true,Af9,decide_eq_true_eq];omega
 ·have hg:∀ k,j=k→(s.data.toList.getD k 0)=b:=fun k hk=>by rw [Af7,←hk,hb];rfl
  by_cases c0:j=pos
  ·rw [←hg pos c0,h0];omega
  by_cases c1:j=pos+1
  ·rw [←hg (pos+1) c1];exact h7 (by omega)
  by_cases c2:j=pos+2
  ·rw [←hg (pos+2) c2];exact h8 (by omega)
  ·rw [←hg (pos+3) (by omega)];exact h9 (by omega)
theorem SA:∀ i (h:i < (⟨#[10,59]⟩:ByteArray).size),(⟨#[10,59]⟩:ByteArray)[i].toNat < 128:=fun i h=>by
 match i,h with
 | 0,_=>exact of_decide_eq_true rfl
 | 1,_=>exact of_decide_eq_true rfl
theorem Xw:∀ (j:Nat) b,(⟨#[10,59]⟩:ByteArray).data.toList[j]?=some b→b.toNat < 128:=ascii_of_all (by decide)
theorem Xx:∀ (j:Nat) b,(⟨#[10]⟩:ByteArray).data.toList[j]?=some b→b.toNat < 128:=ascii_of_all (by decide)
theorem K9 (s:ByteArray) (w:World) (h8:s.size≤8) :
  Calls prog 100 #[.string s,.string ⟨#[10,59]⟩] w fun e w'=>e=.returned (.int .i64 (Lib.indexAny s.data.toList [10,59]))∧Below w.heap.size w w':=by
 have h8z:decide ((8:Int) < (s.size:Int))=false:=decide_eq_false (by omega);have hU:=Any.strings_shouldUseASCIISet (P:=prog) (ρ:=Jf) { Jg with } (s.size:Int) w;rw [h8z] at hU;have hA:∀ (x:UInt8) w,x.toNat < 128→Calls prog 96 #[.string ⟨#[10,59]⟩,.int .i32 x.toNat] w fun e w'=>e=.returned (.int .i64 (Lib.indexByte [10,59] x))∧w'=w:=fun x w h=>by
  have:=Any.strings_IndexRune_ascii (P:=prog) (ρ:=Jf) { Jg with } ⟨#[10,59]⟩ (x.toNat:Int) w (by omega) (by omega);rw [Lib.byte_back'] at this;exact this
 have hH:∀ (r:Int) w,Utf8.valid r=true→128≤r→r≤1114111→Calls prog 96 #[.string ⟨#[10,59]⟩,.int .i32 r] w fun e w'=>e=.returned (.int .i64 (-1))∧Below w.heap.size w w':=fun r w hv h1 h2=>by
  by_cases h:r=65533
  ·rw [h];exact Lc ⟨#[10,59]⟩ rfl SA w
  ·exact Nl ⟨#[10,59]⟩ rfl SA r hv h1 h2 h w
 go_enter func100,ntmps100;go_wp2_with (go_at_call 117;refine hU.mono ?_;rintro e w' ⟨rfl,rfl⟩)
 go_loopw [9,10] (fun _ _ wr=>∃ pos:Nat,wr.heap[w'.heap.size]?=some (.stringIter s pos)∧Below w'.heap.size w' wr∧pos≤s.size∧Lib.NoAny s.data.toList [10,59] pos) (fun _ _ wr=>s.size - wr.iterPos w'.heap.size)
 case atStart=>
  refine ⟨0,?_,(Afv _ w').alloc (Afq _) _,by omega,Lib.NoAny.zero _ _⟩;have:=World.iter_heap w' s 0;simpa using this
 case round=>
  obtain ⟨pos,hit,hbw,hple,hno⟩:=hrel;have HN:=Afj hno;clear hno;have hsz:w'.heap.size < wr.heap.size:=(Af6.1 hit).1;by_cases hp:pos < s.size
  ·obtain ⟨x,hx⟩:∃ x,s[pos]=x:=⟨_,rfl⟩;have hxl:s.data.toList[pos]?=some x:=by rw [←hx];exact Lib.data_getElem? s pos hp
   by_cases h128:x.toNat < 128
   ·have hnx:∀ ty,(Instr.next (.pointer (some ⟨w'.heap.size,0,none⟩)) true ty).run prog wr=_:=fun ty=>Lib.run_next_ascii_at wr w'.heap.size s pos ty hit hp (by rw [hx];exact h128)
    rw [hx] at hnx;have Hx:=Afj hxl;have hA1:=hA x (wr.iterAt w'.heap.size s (pos+1)) h128;have hit2:=Lib.iterAt_heap wr w'.heap.size s pos (pos+1) hit;have hbw2:=Lib.below_iterAt hbw (k:=w'.heap.size) (by omega) s (pos+1);clear hxl hx hA hH;cases hin:([10,59]:List UInt8).contains x with
    | true=>
     have hge:(0:Int)≤Lib.indexByte [10,59] x:=of_decide_eq_true ((Lib.contains_iff_indexByte _ _).symm.trans hin);have Hin:=Afj hin;clear hin;generalize Lib.indexByte [10,59] x=ix at *;go_wp2_with (go_at_call 96;refine hA1.mono ?_;rintro e w' ⟨rfl,rfl⟩)
     go_ret;exact ⟨by rw [Lib.indexAny_hit HN.out Hx.out Hin.out];rfl,hbw2⟩
    | false=>
     have hlt:¬ (0:Int)≤Lib.indexByte [10,59] x:=of_decide_eq_false ((Lib.contains_iff_indexByte _ _).symm.trans hin);have Hin:=Afj hin;clear hin;generalize Lib.indexByte [10,59] x=ix at *;go_wp2_with (go_at_call 96;refine hA1.mono ?_;rintro e w' ⟨rfl,rfl⟩)
     go_roundw
     case rel=>exact ⟨pos+1,hit2,hbw2,by omega,HN.out.succ Hx.out Hin.out⟩
     case measure=>simp only [World.iterPos,hit2,hit];omega
   ·have hnx:∀ ty,(Instr.next (.pointer (some ⟨w'.heap.size,0,none⟩)) true ty).run prog wr=_:=fun ty=>Lib.run_next_any_at wr w'.heap.size s pos ty hit hp
    obtain ⟨d1,d2,d3,d4,d5,d6⟩:=QY s pos hp (by rw [hx];exact h128);have hH1:=hH ((Utf8.decode s pos).1:Int) (wr.iterAt w'.heap.size s (pos+(Utf8.decode s pos).2)) d3 (by omega) (by omega);have hit2:=Lib.iterAt_heap wr w'.heap.size s pos (pos+(Utf8.decode s pos).2) hit;have hbw2:=Lib.below_iterAt hbw (k:=w'.heap.size) (by omega) s (pos+(Utf8.decode s pos).2);have hsz2:w'.heap.size < (wr.iterAt w'.heap.size s (pos+(Utf8.decode s pos).2)).heap.size:=by rw [Lib.iterAt_size];exact hsz
    have Hno:=Afj (show Lib.NoAny s.data.toList [10,59] (pos+(Utf8.decode s pos).2) from fun j b hj hb=>by
     by_cases hjp:j < pos
     ·exact HN.out j b hjp hb
     ·have:=d6 j b (by omega) hj hb;cases hc:([10,59]:List UInt8).contains b with
      | false=>rfl
      | true=>
       simp at hc;rcases hc with rfl | rfl <;> simp at this)
    clear d1 d2 d3 d6 hxl hx hA hH h128 HN;generalize (Utf8.decode s pos).1=dr at *;generalize (Utf8.decode s pos).2=dn at *;go_wp2_with (go_at_call 96;refine hH1.mono ?_;rintro e w1 ⟨rfl,hb1⟩)
    have hit3:w1.heap[w'.heap.size]?=some (.stringIter s (pos+dn)):=by rw [hb1.block _ hsz2];exact hit2
    go_roundw
    case rel=>exact ⟨pos+dn,hit3,hbw2.trans (hb1.mono (by omega)),d5,Hno.out⟩
    case measure=>simp only [World.iterPos,hit3,hit];omega
  ·have hnx:∀ ty,(Instr.next (.pointer (some ⟨w'.heap.size,0,none⟩)) true ty).run prog wr=_:=fun ty=>Lib.run_next_end_at wr w'.heap.size s pos ty hit hp
   clear hA hH
   go_wp2
   go_ret;refine ⟨?_,hbw⟩;rw [Lib.indexAny_none (by rw [←Lib.size_eq,show s.size=pos by omega];exact HN.out)];rfl
theorem Nm (s:ByteArray) (label:Bool) (w:World) (hs:s.size≤4000000) :
  Calls prog 100 #[.string s,.string (if label then ⟨#[10,59]⟩ else ⟨#[10]⟩)] w fun e w'=>e=.returned (.int .i64 (Lib.indexAny s.data.toList (if label then [10,59] else [10])))∧Below w.heap.size w w':=by
 cases label with
 | false=>exact (Mg s ⟨#[10]⟩ w rfl Xx).mono fun e w' ⟨h1,h2⟩=>⟨h1,h2▸Afv _ _⟩
 | true=>
  by_cases h8:s.size≤8
  ·exact K9 s w h8
  ·exact KQ s ⟨#[10,59]⟩ w (by decide) (by omega) (by omega) (by decide) Xw
theorem QZ (label:Bool) (b:UInt8):(if label then [10,59] else [10]:List UInt8).contains b=Fi label b:=by
 cases label with
 | false=>
  show List.elem b [10]=(b == 10 || (false && b == 59))
  cases h:(b == 10) <;> simp only [List.elem,h,Bool.false_and,Bool.or_false]
 | true=>
  show List.elem b [10,59]=(b == 10 || (true && b == 59))
  cases h:(b == 10) <;> cases h2:(b == 59) <;> simp only [List.elem,h,h2,Bool.true_and,Bool.or_false,Bool.or_true]
theorem OT (s:ByteArray) (k:Nat) (label:Bool) (w:World) (hs:s.size≤4000000) (hk:k≤s.size) :
  Calls prog 83 #[.string s,.int .i64 k,.bool label] w fun e w'=>e=.returned (.int .i64 ((k+Ej label (s.data.toList.drop k):Nat):Int))∧Below w.heap.size w w':=by
 have hI:=Nm (s.extract k s.size) label w (by simp;omega);rw [Ci,GZ] at hI;have hf:(fun b=>!(if label then [10,59] else [10]:List UInt8).contains b)=fun b=>!Fi label b:=funext fun b=>by rw [QZ]
 rw [hf] at hI;have hle:=B8 (fun b=>!Fi label b) (s.data.toList.drop k);rw [Af3,←Ae] at hI hle;unfold Ej;generalize AK (fun b=>!Fi label b) (s.data.toList.drop k)=m at hI hle ⊢;clear hf;by_cases hm:m < s.size - k
 ·rw [if_pos hm] at hI;have h0:(0:Int)≤(m:Int):=by omega
  have hW:IntKind.i64.wrap ((k:Int)+(m:Int))=((k+m:Nat):Int):=by rw [Afx _ (by omega)];omega
  go_enter func83,ntmps83;cases label
  ·go_wp2_with (go_at_call 100;refine hI.mono ?_;rintro e w1 ⟨rfl,hb⟩)
   go_ret;exact ⟨by go_num,hb⟩
  ·go_wp2_with (go_at_call 100;refine hI.mono ?_;rintro e w1 ⟨rfl,hb⟩)
   go_ret;exact ⟨by go_num,hb⟩
 ·rw [if_neg hm] at hI;have hE:((k+m:Nat):Int)=(s.size:Int):=by omega
  rw [hE];go_enter func83,ntmps83;cases label
  ·go_wp2_with (go_at_call 100;refine hI.mono ?_;rintro e w1 ⟨rfl,hb⟩)
   go_ret;exact ⟨rfl,hb⟩
  ·go_wp2_with (go_at_call 100;refine hI.mono ?_;rintro e w1 ⟨rfl,hb⟩)
   go_ret;exact ⟨rfl,hb⟩
theorem KC (s:ByteArray) (k:Nat) (label:Bool) (w:World) (hs:s.size≤4000000) (hk:k≤s.size) :
  Calls prog 68 #[.string s,.int .i64 k,.bool label] w fun e w'=>e=pcA (Bu s.data.toList k label)∧Below w.heap.size w w':=by
 have hP:=ET s k w hk;have hE:=OT s k label w hs hk;have hle:=GX (fun b=>!Fi label b) s k hk;have hR:Bu s.data.toList k label=Ek (Lib.trimS ((s.data.toList.drop k).take (Ej label (s.data.toList.drop k))) [32,9]) k (k+Ej label (s.data.toList.drop k)):=rfl;rw [hR];clear hR;have hle':k+Ej label (s.data.toList.drop k)≤s.size:=hle;clear hle;generalize Ej label (s.data.toList.drop k)=m at hE hle' ⊢;have hT:=fun w=>Abs (s.extract k (k+m)) ⟨#[32,9]⟩ w (by simp;omega) (by decide) JB
 rw [Cl,show k+m - k=m by omega] at hT;rw [show (⟨#[32,9]⟩:ByteArray).data.toList=[32,9] from rfl] at hT;generalize Lib.trimS ((s.data.toList.drop k).take m) [32,9]=n at hT ⊢;have hns:=C7 n;obtain ⟨E,hEE⟩:∃ E:Nat,k+m=E:=⟨_,rfl⟩;rw [hEE] at hE hT hle' ⊢;have hE0:(k:Int)≤(E:Int):=by omega
 have hE1:(E:Int)≤(s.size:Int):=by omega
 have hE2:k≤E:=by omega
 obtain ⟨R,hRR⟩:∃ R,Ek n k E=R:=⟨_,rfl⟩;rw [hRR];unfold Ek at hRR;have HR:=Afj hRR;clear hRR hEE;have hb0:((txt n).toList == [])=n.isEmpty:=by rw [ByteArray.toList_eq,Ef];cases n <;> rfl
 have hb1:(txt n).toList.isEmpty=n.isEmpty:=by rw [ByteArray.toList_eq,Ef]
 obtain ⟨r,hr⟩:∃ r,txt n=r:=⟨_,rfl⟩;rw [hr] at hT hns hb0 hb1;have Hr:=Afj hr;clear hr;go_enter func68,ntmps68;by_cases hn:n=[]
 ·have c0:(r.toList == [])=true:=by rw [hb0,hn];rfl
  have c1:r.toList.isEmpty=true:=by rw [hb1,hn];rfl
  have c2:r.toList=[]:=List.isEmpty_iff.1 c1;have Hn:=Afj hn;clear hb0 hb1 hn;go_wp2_with (first
   | (go_at_call 36;refine hP.mono ?_;rintro e w' ⟨rfl,rfl⟩)
   | (go_at_call 83;refine hE.mono ?_;rintro e w1 ⟨rfl,hb⟩)
   | (go_at_call 84;refine (hT _).mono ?_;rintro e w2 ⟨rfl,hb2⟩))
  go_ret3
  refine ⟨?_,hb.trans (hb2.mono hb.size)⟩;rw [←HR.out,if_pos Hn.out];rfl
 ·have c1:r.toList.isEmpty=false:=by rw [hb1];cases n <;> simp_all
  have c0:(r.toList == [])=false:=by rw [hb0,←hb1];exact c1
  have c2:¬ r.toList=[]:=fun h=>by rw [h] at c1;cases c1
  have Hn:=Afj hn;clear hb0 hb1 hn;by_cases h40:40 < n.length
  ·have h40':(40:Int) < (r.size:Int):=by omega
   go_wp2_with (first
    | (go_at_call 36;refine hP.mono ?_;rintro e w' ⟨rfl,rfl⟩)
    | (go_at_call 83;refine hE.mono ?_;rintro e w1 ⟨rfl,hb⟩)
    | (go_at_call 84;refine (hT _).mono ?_;rintro e w2 ⟨rfl,hb2⟩))
   go_ret3
   refine ⟨?_,hb.trans (hb2.mono hb.size)⟩;rw [←HR.out,if_neg Hn.out,if_pos h40];rfl
  ·have h40':¬ (40:Int) < (r.size:Int):=by omega
   go_wp2_with (first
    | (go_at_call 36;refine hP.mono ?_;rintro e w' ⟨rfl,rfl⟩)
    | (go_at_call 83;refine hE.mono ?_;rintro e w1 ⟨rfl,hb⟩)
    | (go_at_call 84;refine (hT _).mono ?_;rintro e w2 ⟨rfl,hb2⟩))
   go_ret3
   refine ⟨?_,hb.trans (hb2.mono hb.size)⟩;rw [←HR.out,if_neg Hn.out,if_neg h40];exact Db Hr.out.symm rfl rfl
end
section
open Go Go.RowKit
theorem CmSt.arg {w:World} {p:Nat} {s:ByteArray} {ext:Bool} {st:CS} {ta tb ts:Value} {pa:Option Addr} {pc:Nat} {ma:Option Addr} {mc:Nat} {W:World} (h:CmSt w p s ext st ta tb ts pa pc ma mc W) (t:List UInt8) (k:Nat):CmSt w p s ext (st.arg t k) ta tb ts pa pc ma mc ((W.setCell ⟨p,14,none⟩ (.string (txt t))).setCell ⟨p,2,none⟩ (.int .i64 (k:Int))):=
 (h.put 14 (.string (txt t)) { st with c:={ st.c with arg:=t } } rfl rfl rfl rfl fun _ _=>rfl).go k
theorem CmSt.file {w:World} {p:Nat} {s:ByteArray} {ext:Bool} {st:CS} {ta tb ts:Value} {pa:Option Addr} {pc:Nat} {ma:Option Addr} {mc:Nat} {W:World} (h:CmSt w p s ext st ta tb ts pa pc ma mc W) (t:List UInt8) (k:Nat):CmSt w p s ext (st.file t k) ta tb ts pa pc ma mc ((W.setCell ⟨p,21,none⟩ (.string (txt t))).setCell ⟨p,2,none⟩ (.int .i64 (k:Int))):=
 (h.put 21 (.string (txt t)) { st with c:={ st.c with sub:={ st.c.sub with file:=t } } } rfl rfl rfl rfl fun _ _=>rfl).go k
theorem KD (w:World) (p:Nat) (s:ByteArray) (ext:Bool) (st:CS) (W:World) (h:Dy w p s ext st W) (hs:s.size≤4000000) (hk:st.k≤s.size) :
  Calls prog 42 #[.pointer (some ⟨p,0,none⟩)] W fun e W'=>e=.returned (.int .i64 ((BE s.data.toList st).1:Int))∧Dy w p s ext (BE s.data.toList st).2 W':=by
 obtain ⟨ta,tb,ts,pa,pc,ma,mc,h⟩:=h;have hN:=fun w1=>KC s st.k true w1 hs hk
 unfold BE;obtain ⟨⟨t,q,e0⟩,hR⟩:∃ R,Bu s.data.toList st.k true=R:=⟨_,rfl⟩;rw [hR] at hN ⊢;have hN:∀ w1,Calls prog 68 #[.string s,.int .i64 (st.k:Int),.bool true] w1 fun e w'=>e=.returned (.tuple #[.string (txt t),.int .i64 (q:Int),.int .i64 (e0:Int)])∧Below w1.heap.size w1 w':=hN
 have HH:=Afj h;have k0:W.cell? ⟨p,0,none⟩=some (.string s):=(h.q.cell 0).trans rfl;have k2:W.cell? ⟨p,2,none⟩=some (.int .i64 (st.k:Int)):=(h.q.cell 2).trans rfl;clear h hR;simp only;go_enter func42,ntmps42;go_upto_region 1 with fail
 go_region_held3 (fun w'=>w'.cell? ⟨p,0,none⟩=some (.string s)∧w'.cell? ⟨p,2,none⟩=some (.int .i64 (st.k:Int))) (first | exact ⟨k0,k2⟩ | (refine ⟨?_,?_⟩ <;> assumption)) (first | (go_at_call 68;refine (hN _).mono ?_;rintro e w1 ⟨rfl,b1⟩;have H1:=Afj (by first | exact HH.out.step b1 | exact HH.out.drew.step b1:CmSt w p s ext st ta tb ts pa pc ma mc w1);have m0:(w1).cell? ⟨p,0,none⟩=some (.string s):=(H1.out.q.cell 0).trans rfl;have m2:(w1).cell? ⟨p,2,none⟩=some (.int .i64 (st.k:Int)):=(H1.out.q.cell 2).trans rfl;clear b1))
 all_goals
  clear k0 k2 m0;have k14:w1.cell? ⟨p,14,none⟩=some (.string (txt st.c.arg)):=(H1.out.q.cell 14).trans rfl;have f2:=H1.out.q.frozen 2;have f14:=H1.out.q.frozen 14;have H2:=Afj (H1.out.arg t q);go_wp2_with fail
  go_ret;exact ⟨rfl,H2.out.R⟩
theorem KE (w:World) (p:Nat) (s:ByteArray) (ext:Bool) (st:CS) (W:World) (h:Dy w p s ext st W) (hs:s.size≤4000000) (hk:st.k≤s.size) :
  Calls prog 43 #[.pointer (some ⟨p,0,none⟩)] W fun e W'=>e=.returned (.int .i64 ((C9 s.data.toList st).1:Int))∧Dy w p s ext (C9 s.data.toList st).2 W':=by
 have hL:=KD w p s ext st W h hs hk;have hB:=Iq s st.k hs hk;obtain ⟨ta,tb,ts,pa,pc,ma,mc,h⟩:=h;have k2:W.cell? ⟨p,2,none⟩=some (.int .i64 (st.k:Int)):=(h.q.cell 2).trans rfl;unfold C9;obtain ⟨⟨e0,st1⟩,hR⟩:∃ R,BE s.data.toList st=R:=⟨_,rfl⟩;rw [hR] at hL ⊢;obtain ⟨K,hK⟩:∃ K,Ak s.data.toList st.k=K:=⟨_,rfl⟩;rw [hK] at hB ⊢;clear h hR hK;simp only at hL ⊢;by_cases he:e0=14
 ·rw [if_pos he];have ce:((e0:Int) == 14)=true:=by simp [he]
  clear he;go_enter func43,ntmps43;go_upto_region 4 with (go_at_call 42;refine hL.mono ?_;clear hL;rintro e w1 ⟨rfl,h1⟩)
  obtain ⟨ta,tb,ts,pa,pc,ma,mc,h1⟩:=h1;have H1:=Afj h1;have j0:w1.cell? ⟨p,0,none⟩=some (.string s):=(h1.q.cell 0).trans rfl;clear k2 h1;go_wp2_with (go_at_call 64;refine (hB _).mono ?_;rintro e w2 ⟨rfl,b2⟩;have H2:=Afj (H1.out.step b2);have j2:w2.cell? ⟨p,2,none⟩=some (.int .i64 (st1.k:Int)):=(H2.out.q.cell 2).trans rfl;have f2:=H2.out.q.frozen 2;have H3:=Afj (H2.out.go K);clear b2)
  go_ret;exact ⟨rfl,H3.out.R⟩
 ·rw [if_neg he];have ce:((e0:Int) == 14)=false:=by simp;omega
  clear he;go_enter func43,ntmps43;go_wp2_with (go_at_call 42;refine hL.mono ?_;clear hL;rintro e w1 ⟨rfl,h1⟩)
  go_ret;exact ⟨rfl,h1⟩
theorem KF (w:World) (p:Nat) (s:ByteArray) (ext:Bool) (st:CS) (W:World) (h:Dy w p s ext st W) (hs:s.size≤4000000) (hk:st.k≤s.size) :
  Calls prog 45 #[.pointer (some ⟨p,0,none⟩),.pointer (some ⟨p,14,none⟩)] W fun e W'=>e=.returned (.int .i64 ((Bn s.data.toList st).1:Int))∧Dy w p s ext (Bn s.data.toList st).2 W':=by
 obtain ⟨ta,tb,ts,pa,pc,ma,mc,h⟩:=h;have hN:=fun w1=>KC s st.k false w1 hs hk
 have hB:=Iq s st.k hs hk;unfold Bn;obtain ⟨⟨t,q,e0⟩,hR⟩:∃ R,Bu s.data.toList st.k false=R:=⟨_,rfl⟩;rw [hR] at hN ⊢;obtain ⟨K,hK⟩:∃ K,Ak s.data.toList st.k=K:=⟨_,rfl⟩;rw [hK] at hB ⊢;have hN:∀ w1,Calls prog 68 #[.string s,.int .i64 (st.k:Int),.bool false] w1 fun e w'=>e=.returned (.tuple #[.string (txt t),.int .i64 (q:Int),.int .i64 (e0:Int)])∧Below w1.heap.size w1 w':=hN
 have HH:=Afj h;have k0:W.cell? ⟨p,0,none⟩=some (.string s):=(h.q.cell 0).trans rfl;have k2:W.cell? ⟨p,2,none⟩=some (.int .i64 (st.k:Int)):=(h.q.cell 2).trans rfl;clear h hR hK;simp only;by_cases he:K=st.k
 ·rw [if_pos he];have ce:((K:Int) == (st.k:Int))=true:=by simp [he]
  clear he;go_enter func45,ntmps45;go_upto_region 1 with fail
  go_region_held3 (fun w'=>w'.cell? ⟨p,0,none⟩=some (.string s)∧w'.cell? ⟨p,2,none⟩=some (.int .i64 (st.k:Int))) (first | exact ⟨k0,k2⟩ | (refine ⟨?_,?_⟩ <;> assumption)) (first | (go_at_call 64;refine (hB _).mono ?_;rintro e w1 ⟨rfl,b1⟩;have H1:=Afj (by first | exact HH.out.step b1 | exact HH.out.drew.step b1:CmSt w p s ext st ta tb ts pa pc ma mc w1);have m0:(w1).cell? ⟨p,0,none⟩=some (.string s):=(H1.out.q.cell 0).trans rfl;have m2:(w1).cell? ⟨p,2,none⟩=some (.int .i64 (st.k:Int)):=(H1.out.q.cell 2).trans rfl;clear b1))
  all_goals
   go_wp2_with fail
   go_ret;exact ⟨rfl,H1.out.R⟩
 ·rw [if_neg he];have ce:((K:Int) == (st.k:Int))=false:=by simp;omega
  clear he;go_enter func45,ntmps45;go_upto_region 1 with fail
  go_region_held3 (fun w'=>w'.cell? ⟨p,0,none⟩=some (.string s)∧w'.cell? ⟨p,2,none⟩=some (.int .i64 (st.k:Int))) (first | exact ⟨k0,k2⟩ | (refine ⟨?_,?_⟩ <;> assumption)) (first | (go_at_call 64;refine (hB _).mono ?_;rintro e w1 ⟨rfl,b1⟩;have H1:=Afj (by first | exact HH.out.step b1 | exact HH.out.drew.step b1:CmSt w p s ext st ta tb ts pa pc ma mc w1);have m0:(w1).cell? ⟨p,0,none⟩=some (.string s):=(H1.out.q.cell 0).trans rfl;have m2:(w1).cell? ⟨p,2,none⟩=some (.int .i64 (st.k:Int)):=(H1.out.q.cell 2).trans rfl;clear b1))
  all_goals
   go_upto_region 3 with fail;clear k0 k2;have k0:=m0;have k2:=m2;clear m0 m2
   go_region_held3 (fun w'=>w'.cell? ⟨p,0,none⟩=some (.string s)∧w'.cell? ⟨p,2,none⟩=some (.int .i64 (st.k:Int))) (first | exact ⟨k0,k2⟩ | (refine ⟨?_,?_⟩ <;> assumption)) (first | (go_at_call 68;refine (hN _).mono ?_;rintro e w2 ⟨rfl,b1⟩;have H2:=Afj (by first | exact H1.out.step b1 | exact H1.out.drew.step b1:CmSt w p s ext st ta tb ts pa pc ma mc w2);have m0:(w2).cell? ⟨p,0,none⟩=some (.string s):=(H2.out.q.cell 0).trans rfl;have m2:(w2).cell? ⟨p,2,none⟩=some (.int .i64 (st.k:Int)):=(H2.out.q.cell 2).trans rfl;clear b1))
   all_goals
    clear k0 k2 m0;have k14:w2.cell? ⟨p,14,none⟩=some (.string (txt st.c.arg)):=(H2.out.q.cell 14).trans rfl;have f2:=H2.out.q.frozen 2;have f14:=H2.out.q.frozen 14;have H3:=Afj (H2.out.arg t q);go_wp2_with fail
    go_ret;exact ⟨rfl,H3.out.R⟩
theorem Rb (w:World) (p:Nat) (s:ByteArray) (ext:Bool) (st:CS) (W:World) (h:Dy w p s ext st W) (hs:s.size≤4000000) (hk:st.k≤s.size) :
  Calls prog 45 #[.pointer (some ⟨p,0,none⟩),.pointer (some ⟨p,21,none⟩)] W fun e W'=>e=.returned (.int .i64 ((Bi s.data.toList st).1:Int))∧Dy w p s ext (Bi s.data.toList st).2 W':=by
 obtain ⟨ta,tb,ts,pa,pc,ma,mc,h⟩:=h;have hN:=fun w1=>KC s st.k false w1 hs hk
 have hB:=Iq s st.k hs hk;unfold Bi;obtain ⟨⟨t,q,e0⟩,hR⟩:∃ R,Bu s.data.toList st.k false=R:=⟨_,rfl⟩;rw [hR] at hN ⊢;obtain ⟨K,hK⟩:∃ K,Ak s.data.toList st.k=K:=⟨_,rfl⟩;rw [hK] at hB ⊢;have hN:∀ w1,Calls prog 68 #[.string s,.int .i64 (st.k:Int),.bool false] w1 fun e w'=>e=.returned (.tuple #[.string (txt t),.int .i64 (q:Int),.int .i64 (e0:Int)])∧Below w1.heap.size w1 w':=hN
 have HH:=Afj h;have k0:W.cell? ⟨p,0,none⟩=some (.string s):=(h.q.cell 0).trans rfl;have k2:W.cell? ⟨p,2,none⟩=some (.int .i64 (st.k:Int)):=(h.q.cell 2).trans rfl;clear h hR hK;simp only;by_cases he:K=st.k
 ·rw [if_pos he];have ce:((K:Int) == (st.k:Int))=true:=by simp [he]
  clear he;go_enter func45,ntmps45;go_upto_region 1 with fail
  go_region_held3 (fun w'=>w'.cell? ⟨p,0,none⟩=some (.string s)∧w'.cell? ⟨p,2,none⟩=some (.int .i64 (st.k:Int))) (first | exact ⟨k0,k2⟩ | (refine ⟨?_,?_⟩ <;> assumption)) (first | (go_at_call 64;refine (hB _).mono ?_;rintro e w1 ⟨rfl,b1⟩;have H1:=Afj (by first | exact HH.out.step b1 | exact HH.out.drew.step b1:CmSt w p s ext st ta tb ts pa pc ma mc w1);have m0:(w1).cell? ⟨p,0,none⟩=some (.string s):=(H1.out.q.cell 0).trans rfl;have m2:(w1).cell? ⟨p,2,none⟩=some (.int .i64 (st.k:Int)):=(H1.out.q.cell 2).trans rfl;clear b1))
  all_goals
   go_wp2_with fail
   go_ret;exact ⟨rfl,H1.out.R⟩
 ·rw [if_neg he];have ce:((K:Int) == (st.k:Int))=false:=by simp;omega
  clear he;go_enter func45,ntmps45;go_upto_region 1 with fail
  go_region_held3 (fun w'=>w'.cell? ⟨p,0,none⟩=some (.string s)∧w'.cell? ⟨p,2,none⟩=some (.int .i64 (st.k:Int))) (first | exact ⟨k0,k2⟩ | (refine ⟨?_,?_⟩ <;> assumption)) (first | (go_at_call 64;refine (hB _).mono ?_;rintro e w1 ⟨rfl,b1⟩;have H1:=Afj (by first | exact HH.out.step b1 | exact HH.out.drew.step b1:CmSt w p s ext st ta tb ts pa pc ma mc w1);have m0:(w1).cell? ⟨p,0,none⟩=some (.string s):=(H1.out.q.cell 0).trans rfl;have m2:(w1).cell? ⟨p,2,none⟩=some (.int .i64 (st.k:Int)):=(H1.out.q.cell 2).trans rfl;clear b1))
  all_goals
   go_upto_region 3 with fail;clear k0 k2;have k0:=m0;have k2:=m2;clear m0 m2
   go_region_held3 (fun w'=>w'.cell? ⟨p,0,none⟩=some (.string s)∧w'.cell? ⟨p,2,none⟩=some (.int .i64 (st.k:Int))) (first | exact ⟨k0,k2⟩ | (refine ⟨?_,?_⟩ <;> assumption)) (first | (go_at_call 68;refine (hN _).mono ?_;rintro e w2 ⟨rfl,b1⟩;have H2:=Afj (by first | exact H1.out.step b1 | exact H1.out.drew.step b1:CmSt w p s ext st ta tb ts pa pc ma mc w2);have m0:(w2).cell? ⟨p,0,none⟩=some (.string s):=(H2.out.q.cell 0).trans rfl;have m2:(w2).cell? ⟨p,2,none⟩=some (.int .i64 (st.k:Int)):=(H2.out.q.cell 2).trans rfl;clear b1))
   all_goals
    clear k0 k2 m0;have k14:w2.cell? ⟨p,21,none⟩=some (.string (txt st.c.sub.file)):=(H2.out.q.cell 21).trans rfl;have f2:=H2.out.q.frozen 2;have f14:=H2.out.q.frozen 21;have H3:=Afj (H2.out.file t q);go_wp2_with fail
    go_ret;exact ⟨rfl,H3.out.R⟩
theorem Xy {L:List UInt8} {k:Nat} (h:(B9 L k).2.2=0):k < (B9 L k).2.1:=by
 unfold B9 at h ⊢;simp only at h ⊢;split at h
 ·cases h
 ·split at h
  ·cases h
  ·rename_i h1 h2;rw [if_neg h1,if_neg h2];simp only;omega
theorem U8 {L:List UInt8} {n:Nat} {st:CS} (h:L.drop st.k=[]):A2 L (n+1) st=(0,st):=by
 rw [A2,h]
theorem IF {L t:List UInt8} {n:Nat} {st:CS} {b:UInt8} {r:CO} (h:L.drop st.k=b :: t) (hf:AH L b st=some r):A2 L (n+1) st=if r.1=0 then A2 L n r.2 else r:=by
 rw [A2,h];simp only [hf]
theorem Xz {L t:List UInt8} {n:Nat} {st:CS} {b:UInt8} (h:L.drop st.k=b :: t) (hf:AH L b st=none):A2 L (n+1) st=if b=119 then Bi L (st.go (st.k+1)) else BG L st:=by
 rw [A2,h];simp only [hf]
theorem Rc (w:World) (p:Nat) (s:ByteArray) (ext:Bool) (st:CS) (W:World) (h:Dy w p s ext st W) (hs:s.size≤4000000) (hk:st.k≤s.size) (hl:st.ms.length≤100000) :
  Calls prog 73 #[.pointer (some ⟨p,0,none⟩)] W fun e W'=>e=.returned (.int .i64 ((A2 s.data.toList (s.size+1) st).1:Int))∧Dy w p s ext (A2 s.data.toList (s.size+1) st).2 W':=by
 obtain ⟨R,hR⟩:∃ R,A2 s.data.toList (s.size+1) st=R:=⟨_,rfl⟩;rw [hR];have HR:=Afj hR;have H0:=Afj h;clear hR h;go_enter func73,ntmps73;go_wp2_with fail
 go_loopg [] (s.size+1) (fun gk wr=>∃ st':CS,Dy w p s ext st' wr∧A2 s.data.toList gk st'=R∧s.size - st'.k < gk∧st'.k≤s.size∧st'.ms.length≤100000)
 case atStart=>exact ⟨st,H0.out,HR.out,by omega,hk,hl⟩
 case round=>
  obtain ⟨st',hc,hf,hgk,hk',hl'⟩:=hrel;clear HR H0;obtain ⟨m,rfl⟩:∃ m,gk=m+1:=⟨gk - 1,by omega⟩;have HC:=Afj hc;obtain ⟨ta,tb,ts,pa,pc,ma,mc,h1⟩:=hc;have HH:=Afj h1;have k0:wr.cell? ⟨p,0,none⟩=some (.string s):=(h1.q.cell 0).trans rfl;have k2:wr.cell? ⟨p,2,none⟩=some (.int .i64 (st'.k:Int)):=(h1.q.cell 2).trans rfl;clear h1;by_cases hz:st'.k=s.size
  ·rw [U8 (Bs s st'.k (by omega))] at hf;have hE:¬ (st'.k:Int) < (s.size:Int):=by omega
   have HF:=Afj hf;clear hz hf;go_upto_region 2 with fail
   go_quiet (fail)
   generalize nq=n1;go_wp2_with fail
   go_ret;rw [←HF.out];exact ⟨rfl,(HH.out.drewN n1).R⟩
  ·have hlt:st'.k < s.size:=by omega
   have hE:(st'.k:Int) < (s.size:Int):=by omega
   have hy0:(0:Int)≤(st'.k:Int):=by omega
   have hd:=Bm s st'.k hlt;obtain ⟨b,hb⟩:∃ b,s[st'.k]=b:=⟨_,rfl⟩;have hsx:s[st'.k]'hlt=b:=hb;rw [hb] at hd;have Hd:=Afj hd;clear hz hd hb;go_upto_region 2 with fail
   go_quiet (fail)
   generalize nq=n1;go_upto_region 4 with fail
   go_quiet (fail)
   have H4:=Afj (HH.out.drewN (n1+nq));generalize nq=n2 at H4 ⊢;by_cases h103:b=103
   ·have q103:((b.toNat:Int) == 103)=true:=by rw [h103];rfl
    have hX:=Xs w p s ext st' _ H4.out.R hs hk';rw [IF Hd.out (show AH s.data.toList b st'=some (CU st') by unfold AH;rw [if_pos h103])] at hf;have hg:(CU st').1=0→st'.k < (CU st').2.k∧(CU st').2.k≤s.size∧(CU st').2.ms=st'.ms:=fun h=>by
     unfold CU at h ⊢;split at h
     ·cases h
     ·rename_i h1;rw [if_neg h1];exact ⟨Nat.lt_succ_self _,by show st'.k+1≤s.size;omega,rfl⟩
    have hdc:A7.contains b=false:=by rw [h103];rfl
    clear h103;obtain ⟨⟨e1,s1⟩,hr⟩:∃ r,CU st'=r:=⟨_,rfl⟩;rw [hr] at hX hf hg;simp only at hX hf hg;by_cases he:e1=0
    ·subst he;rw [if_pos rfl] at hf;obtain ⟨g1,g2,g3⟩:=hg rfl;have HF:=Afj hf;have HG:=Afj (And.intro g1 (And.intro g2 g3));clear hf hg hr g1 g2 g3;go_wp2_with (first | (go_at_call 90;refine (AY _ _).mono ?_;rintro e w5 ⟨rfl,hw5⟩;have hw5':=hw5.symm;subst hw5';rw [hdc]) | (go_at_call 89;refine hX.mono ?_;clear hX;rintro e w6 ⟨rfl,h6⟩))
     go_roundg m
     case rel=>exact ⟨s1,h6,HF.out,by have:=HG.out;omega,HG.out.2.1,by rw [HG.out.2.2];exact hl'⟩
     case measure=>omega
    ·rw [if_neg he] at hf;have ce:((e1:Int) != 0)=true:=by simpa using he
     have HF:=Afj hf;clear hf hg hr he;go_wp2_with (first | (go_at_call 90;refine (AY _ _).mono ?_;rintro e w5 ⟨rfl,hw5⟩;have hw5':=hw5.symm;subst hw5';rw [hdc]) | (go_at_call 89;refine hX.mono ?_;clear hX;rintro e w6 ⟨rfl,h6⟩))
     go_ret;rw [←HF.out];exact ⟨rfl,h6⟩
   ·have q103:((b.toNat:Int) == 103)=false:=Aq (c:=103) h103;by_cases h112:b=112
    ·have q112:((b.toNat:Int) == 112)=true:=by rw [h112];rfl
     have hX:=Xt w p s ext st' _ H4.out.R hs hk';rw [IF Hd.out (show AH s.data.toList b st'=some (CW st') by unfold AH;rw [if_neg h103,if_pos h112])] at hf;have hg:(CW st').1=0→st'.k < (CW st').2.k∧(CW st').2.k≤s.size∧(CW st').2.ms=st'.ms:=fun h=>by
      unfold CW at h ⊢;split at h
      ·cases h
      ·rename_i h1;rw [if_neg h1];exact ⟨Nat.lt_succ_self _,by show st'.k+1≤s.size;omega,rfl⟩
     have hdc:A7.contains b=false:=by rw [h112];rfl
     clear h103 h112;obtain ⟨⟨e1,s1⟩,hr⟩:∃ r,CW st'=r:=⟨_,rfl⟩;rw [hr] at hX hf hg;simp only at hX hf hg;by_cases he:e1=0
     ·subst he;rw [if_pos rfl] at hf;obtain ⟨g1,g2,g3⟩:=hg rfl;have HF:=Afj hf;have HG:=Afj (And.intro g1 (And.intro g2 g3));clear hf hg hr g1 g2 g3;go_wp2_with (first | (go_at_call 90;refine (AY _ _).mono ?_;rintro e w5 ⟨rfl,hw5⟩;have hw5':=hw5.symm;subst hw5';rw [hdc]) | (go_at_call 89;refine hX.mono ?_;clear hX;rintro e w6 ⟨rfl,h6⟩))
      go_roundg m
      case rel=>exact ⟨s1,h6,HF.out,by have:=HG.out;omega,HG.out.2.1,by rw [HG.out.2.2];exact hl'⟩
      case measure=>omega
     ·rw [if_neg he] at hf;have ce:((e1:Int) != 0)=true:=by simpa using he
      have HF:=Afj hf;clear hf hg hr he;go_wp2_with (first | (go_at_call 90;refine (AY _ _).mono ?_;rintro e w5 ⟨rfl,hw5⟩;have hw5':=hw5.symm;subst hw5';rw [hdc]) | (go_at_call 89;refine hX.mono ?_;clear hX;rintro e w6 ⟨rfl,h6⟩))
      go_ret;rw [←HF.out];exact ⟨rfl,h6⟩
    ·have q112:((b.toNat:Int) == 112)=false:=Aq (c:=112) h112;by_cases hdg:A7.contains b=true
     ·have hdc:=hdg;have hX:=Xu w p s ext st' _ H4.out.R hs hk';rw [IF Hd.out (show AH s.data.toList b st'=some (CB s.data.toList st') by unfold AH;rw [if_neg h103,if_neg h112,if_pos hdg])] at hf;have hg:(CB s.data.toList st').1=0→st'.k < (CB s.data.toList st').2.k∧(CB s.data.toList st').2.k≤s.size∧(CB s.data.toList st').2.ms=st'.ms:=fun h=>by
       have hle:=EY s.data.toList st'.k (by rw [←Ae];exact hk');have hgt:=Xy (L:=s.data.toList) (k:=st'.k);unfold CB Cr at h ⊢;split at h
       ·rename_i h1;rw [if_pos h1];split at h
        ·rename_i h2;rw [if_pos h2];split at h
         ·cases h
         ·rename_i h3;rw [if_neg h3];exact ⟨hgt h1,by rw [Ae];exact hle.2,rfl⟩
        ·cases h
       ·rename_i h1;exact absurd h h1
      clear h103 h112 hdg;obtain ⟨⟨e1,s1⟩,hr⟩:∃ r,CB s.data.toList st'=r:=⟨_,rfl⟩;rw [hr] at hX hf hg;simp only at hX hf hg;by_cases he:e1=0
      ·subst he;rw [if_pos rfl] at hf;obtain ⟨g1,g2,g3⟩:=hg rfl;have HF:=Afj hf;have HG:=Afj (And.intro g1 (And.intro g2 g3));clear hf hg hr g1 g2 g3;go_wp2_with (first | (go_at_call 90;refine (AY _ _).mono ?_;rintro e w5 ⟨rfl,hw5⟩;have hw5':=hw5.symm;subst hw5';rw [hdc]) | (go_at_call 91;refine hX.mono ?_;clear hX;rintro e w6 ⟨rfl,h6⟩))
       go_roundg m
       case rel=>exact ⟨s1,h6,HF.out,by have:=HG.out;omega,HG.out.2.1,by rw [HG.out.2.2];exact hl'⟩
       case measure=>omega
      ·rw [if_neg he] at hf;have ce:((e1:Int) != 0)=true:=by simpa using he
       have HF:=Afj hf;clear hf hg hr he;go_wp2_with (first | (go_at_call 90;refine (AY _ _).mono ?_;rintro e w5 ⟨rfl,hw5⟩;have hw5':=hw5.symm;subst hw5';rw [hdc]) | (go_at_call 91;refine hX.mono ?_;clear hX;rintro e w6 ⟨rfl,h6⟩))
       go_ret;rw [←HF.out];exact ⟨rfl,h6⟩
     ·have hdc:A7.contains b=false:=by simpa using hdg
      rw [Xz Hd.out (show AH s.data.toList b st'=none by unfold AH;rw [if_neg h103,if_neg h112,if_neg hdg])] at hf;by_cases h119:b=119
      ·have q119:((b.toNat:Int) == 119)=true:=by rw [h119];rfl
       rw [if_pos h119] at hf;have Wk:IntKind.i64.wrap ((st'.k:Int)+1)=((st'.k+1:Nat):Int):=by rw [Afx _ (by omega)];omega
       have f2:=HH.out.q.frozen 2;have hX:=Rb w p s ext (st'.go (st'.k+1)) _ (H4.out.go (st'.k+1)).R hs (by show st'.k+1≤s.size;omega);have HF:=Afj hf;clear h103 h112 hdg h119 hf;go_wp2_with (first | (go_at_call 90;refine (AY _ _).mono ?_;rintro e w5 ⟨rfl,hw5⟩;have hw5':=hw5.symm;subst hw5';rw [hdc]) | (go_at_call 45;refine hX.mono ?_;clear hX;rintro e w6 ⟨rfl,h6⟩))
       go_ret;rw [←HF.out];exact ⟨rfl,h6⟩
      ·have q119:((b.toNat:Int) == 119)=false:=Aq (c:=119) h119;rw [if_neg h119] at hf;have hX:=K8 w p s ext st' _ H4.out.R hs hk' hl';have HF:=Afj hf;clear h103 h112 hdg h119 hf;go_wp2_with (first | (go_at_call 90;refine (AY _ _).mono ?_;rintro e w5 ⟨rfl,hw5⟩;have hw5':=hw5.symm;subst hw5';rw [hdc]) | (go_at_call 48;refine hX.mono ?_;clear hX;rintro e w6 ⟨rfl,h6⟩))
       go_ret;rw [←HF.out];exact ⟨rfl,h6⟩
structure MkS (B b:Nat) (ps:List Cp) (t:List UInt8) (pv av bv:Value) (W:World):Prop where
 q:Blk W b #[pv,av,bv] 187
 bb:B≤b
 a:av=.pointer none∨av=.pointer (some ⟨b,1,none⟩)
 pr:W.ownsRow B 73 2 pv ps.length (cpC ps)
 br:W.ownsRowF B 5 1 bv t.length (Lib.byteCells t)
theorem Gt {w w':World} {base:Nat} {e:TypeId} {size n:Nat} {v:Value} {xs:List Value} (h:w.ownsRowF base e size v n xs) (hb:∀ g,v.ownBlock=some g→w'.heap[g]?=w.heap[g]?):w'.ownsRowF base e size v n xs:=by
 refine ⟨h.1,?_⟩;rcases h.2 with hn | ⟨g,cap,cur,fz,rfl,hb0,hg,rest⟩
 ·exact .inl hn
 ·exact .inr ⟨g,cap,cur,fz,rfl,hb0,(hb g rfl).trans hg,rest⟩
theorem Nn {w:World} {B:Nat} {e T:TypeId} {v:Value} {size n:Nat} {xs:List Value} {b:Nat} {cs:Array Value} {fr:Nat × Nat} (hown:w.ownsRow B e size v n xs) (hb:w.heap[b]?=some (.cells cs T fr)) (hTe:T≠e):v.ownBlock≠some b:=by
 rcases hown.2 with ⟨rfl,_⟩ | ⟨g,cap,cur,rfl,_,hg,_⟩
 ·simp [Value.ownBlock]
 ·intro h;simp only [Value.ownBlock,Option.some.injEq] at h;subst h;rw [hg] at hb;simp only [Option.some.injEq,Obj.cells.injEq] at hb;exact hTe hb.2.1.symm
theorem MkS.np {B b:Nat} {ps:List Cp} {t:List UInt8} {pv av bv:Value} {W:World} (h:MkS B b ps t pv av bv W):pv.ownBlock≠some b:=Nn h.pr h.q (by decide)
theorem MkS.nb {B b:Nat} {ps:List Cp} {t:List UInt8} {pv av bv:Value} {W:World} (h:MkS B b ps t pv av bv W):bv.ownBlock≠some b:=Lib.ownBlock_neF h.br h.q (by decide)
theorem MkS.npb {B b:Nat} {ps:List Cp} {t:List UInt8} {pv av bv:Value} {W:World} (h:MkS B b ps t pv av bv W):∀ g,pv.ownBlock=some g→bv.ownBlock≠some g:=fun g hg=>by
 rcases h.pr.2 with ⟨h1,_⟩ | ⟨g',cap,cur,h1,_,hg',_⟩
 ·rw [h1] at hg;simp [Value.ownBlock] at hg
 ·rw [h1] at hg;simp only [Value.ownBlock,Option.some.injEq] at hg;subst hg;exact Lib.ownBlock_neF h.br hg' (by decide)
theorem MkS.own {B b:Nat} {ps:List Cp} {t:List UInt8} {pv av bv:Value} {W W':World} (h:MkS B b ps t pv av bv W) {av':Value} (ha:av'=.pointer none∨av'=.pointer (some ⟨b,1,none⟩)) (hq:Blk W' b #[pv,av',bv] 187) (hk:∀ k,k≠b→W'.heap[k]?=W.heap[k]?):MkS B b ps t pv av' bv W':=
 ⟨hq,h.bb,ha,Ab h.pr fun g hg=>hk g fun e=>h.np (by rw [hg,e]),Gt h.br fun g hg=>hk g fun e=>h.nb (by rw [hg,e])⟩
theorem Ld:(Tryz.prog.info? 166).map (·.size)=some 2:=by kernel_rfl
theorem Re:liesAt prog Tryz.prog.depth 187 (3 / Tryz.prog.cellsOf 187) 1 166 1=true:=by kernel_rfl
theorem Rf {w:World} {b:Nat} {T:TypeId} {v0 v1 v2:Value} (h:Blk w b #[v0,v1,v2] T):w.shape? b=some (T,3):=by
 unfold Blk at h;simp [World.shape?,h]
theorem EE (W:World) (b j:Nat) (v:Value):∀ k,k≠b→(W.setCell ⟨b,j,none⟩ v).heap[k]?=W.heap[k]?:=fun _ hk=>Afw _ _ _ _ (fun e=>hk e)
theorem U9 {B b:Nat} {ps:List Cp} {t:List UInt8} {pv av bv:Value} {W:World} (h:MkS B b ps t pv av bv W) :
  Calls prog 104 #[.pointer (some ⟨b,1,none⟩)] W fun e W'=>e=.returned (.tuple #[])∧MkS B b ps t pv (.pointer (some ⟨b,1,none⟩)) bv W'∧Below B W W'∧W'.heap.size=W.heap.size:=by
 obtain ⟨j,hj,hjs⟩:=Option.map_eq_some_iff.1 Ld;have hf:=h.q.frozen 1;have hsh:=Rf h.q;rcases h.a with rfl | rfl
 ·have h0:W.cell? ⟨b,1,none⟩=some (.pointer none):=(h.q.cell 1).trans rfl;have hF:=Afj (h.own (W':=W.setCell ⟨b,1,none⟩ (.pointer (some ⟨b,1,none⟩))) (.inr rfl) (h.q.set 1 _) (EE _ _ _ _));have hB:=Afj ((Afv B W).setCell (p:=⟨b,1,none⟩) h.bb (.pointer (some ⟨b,1,none⟩)));clear h;go_enter func104,ntmps104
  go_wp2
  rw [Lib.run_to_unsafe W ⟨b,1,none⟩ underlying163 underlying212 hj (by rw [hjs];decide) hsh (Nat.succ_lt_succ (Nat.zero_lt_succ 1))];simp only [Result.andThen];rw [Oper.upon_value]
  go_wp2
  rw [run_callFunc_extern func119 (by kernel_rfl) (by kernel_rfl) (by kernel_rfl) (e:=Extern.AbiNoEscape.same) (by kernel_rfl)];rw [Lib.run_noEscape];simp only [Result.andThen];rw [Oper.upon_value]
  go_wp2
  rw [Lib.run_from_unsafe W ⟨b,1,none⟩ underlying212 underlying163 hj hsh Re];simp only [Result.andThen];rw [Oper.upon_value]
  go_wp2
  go_end0;exact ⟨rfl,hF.out,hB.out,by simp [World.setCell]⟩
 ·have h0:W.cell? ⟨b,1,none⟩=some (.pointer (some ⟨b,1,none⟩)):=(h.q.cell 1).trans rfl;have hF:=Afj h;clear h;go_enter func104,ntmps104
  go_wp2
  rw [Lib.run_neq_ptr_same W _ underlying163 hj]
  go_wp2
  go_end0;exact ⟨rfl,hF.out,Afv B _,rfl⟩
theorem OU:∃ i,Tryz.prog.info? 5=some i∧i.zero=some (.int .u8 0)∧i.size=1∧i.bytes=1:=by
 have h:(Tryz.prog.info? 5).map (fun i=>(i.zero,i.size,i.bytes))=some (some (.int .u8 0),1,1):=by kernel_rfl
 obtain ⟨i,hi,he⟩:=Option.map_eq_some_iff.1 h;injection he with h1 h2;injection h2 with h2 h3;exact ⟨i,hi,h1,h2,h3⟩
theorem Jt (w:World) (v:Value) (t:TypeId):∀ j u,[v][j]?=some u→(w.alloc (.cells #[v] t)).cell? ((⟨w.heap.size,0,none⟩:Addr).add j)=some u:=by
 intro j u hu;cases j with
 | zero=>
  have e:v=u:=by simpa using hu
  subst e;rw [Go.WideShapes.add_plain,Nat.add_zero];have hb:=Blk.new w #[v] t w.heap.size rfl;exact (hb.cell 0).trans rfl
 | succ j=>simp at hu
theorem Ds (t:List UInt8) (c:UInt8):Lib.byteCells (t++[c])=Lib.byteCells t++[.int .u8 (c.toNat:Int)]:=by simp [Lib.byteCells]
/-- A byte is written. -/
theorem GL {B b:Nat} {ps:List Cp} {t:List UInt8} {pv av bv:Value} {W:World} (c:UInt8) (h:MkS B b ps t pv av bv W) (hl:t.length≤4000000) (hBw:B≤W.heap.size) :
  Calls prog 85 #[.pointer (some ⟨b,1,none⟩),.int .u8 (c.toNat:Int)] W fun e W'=>e=.returned .nilIface∧(∃ bv',MkS B b ps (t++[c]) pv (.pointer (some ⟨b,1,none⟩)) bv' W')∧Below B W W':=by
 obtain ⟨i0,hi,hz0,hz1,hz2⟩:=OU;have hcp:=U9 h;clear h;go_enter func85,ntmps85;go_wp2_with fail
 refine hcp.mono ?_;rintro e w1 ⟨rfl,h1,hb1,hs1⟩;have H1:=Afj h1;have HB1:=Afj hb1;have hbs:B≤w1.heap.size:=by omega
 clear hs1;have hlt:=h1.q.lt;have c2:w1.cell? ⟨b,2,none⟩=some bv:=(h1.q.cell 2).trans rfl;have hm1:t.length+1≤maxLen:=by unfold maxLen;omega
 have hnw:∀ j u,[Value.int .u8 (c.toNat:Int)][j]?=some u→(w1.alloc (.cells #[.int .u8 (c.toNat:Int)] 5)).cell? ((⟨w1.heap.size,0,none⟩:Addr).add j)=some u:=Jt w1 _ _;have hbl:=(Afv w1.heap.size w1).alloc (Afq _) (.cells #[.int .u8 (c.toNat:Int)] 5);have hbr:=Gt h1.br (fun g hg=>hbl.block g (h1.br.lt g hg).2);have HBL:=Afj hbl;clear h1 hb1 hcp hbl;go_wp2_with (at_builtin;refine wpList_append_ownF _ rfl _ _ 164 rfl B 5 i0 (.int .u8 0) 1 1 underlying164 hi hz0 hz1 hz2 rfl (by decide) _ _ _ rfl hbr ⟨w1.heap.size,0,none⟩ 1 1 [.int .u8 (c.toNat:Int)] rfl rfl hnw (by intro u hu;simp at hu;subst hu;rfl) hm1 (by omega) (by simp;omega) ?_)
 intro v' w2 hown' hgrow _;have hne:=H1.out.nb;have hq2:=AM (H1.out.q.below HBL.out H1.out.q.lt) hgrow hne;have d2:w2.cell? ⟨b,2,none⟩=some bv:=(hq2.cell 2).trans rfl;have f2:=hq2.frozen 2;obtain ⟨g,cap,rfl⟩:∃ g cap,v'=.slice (some ⟨g,0,none⟩) (t.length+1) cap:=by
  rcases hown'.2 with ⟨_,h0⟩ | ⟨g,cap,cur,fz,hv,_⟩
  ·omega
  ·exact ⟨g,cap,hv⟩
 have hpr2:w2.ownsRow B 73 2 pv ps.length (cpC ps):=Ab H1.out.pr (fun k hk=>(hgrow.block k (by have:=AF H1.out.pr k hk;have:=HBL.out.size;omega) (fun e=>H1.out.npb k hk e.symm)).trans (HBL.out.block k (AF H1.out.pr k hk)));have hnp:=H1.out.np;have hB2:Below B W w2:=(HB1.out.trans (HBL.out.mono (by omega))).grown hgrow (by simp;omega) (fun k hk=>(H1.out.br.lt k hk).1);have hnb':(Value.slice (some ⟨g,0,none⟩) (t.length+1) cap).ownBlock≠some b:=Lib.ownBlock_neF hown' hq2 (by decide);have HF:=Afj (show MkS B b ps (t++[c]) pv (.pointer (some ⟨b,1,none⟩)) (.slice (some ⟨g,0,none⟩) (t.length+1) cap) (w2.setCell ⟨b,2,none⟩ (.slice (some ⟨g,0,none⟩) (t.length+1) cap)) from
  ⟨hq2.set 2 _,H1.out.bb,.inr rfl,Ab hpr2 fun k hk=>EE _ _ _ _ k fun e=>hnp (by rw [hk,e]),by
   rw [Ds,Afs];exact Gt hown' fun k hk=>EE _ _ _ _ k fun e=>hnb' (by rw [hk,e])⟩)
 have HB2:=Afj (hB2.setCell (p:=⟨b,2,none⟩) H1.out.bb (.slice (some ⟨g,0,none⟩) (t.length+1) cap));clear hown' hgrow hq2 hpr2 hB2
 go_wp2
 go_ret;exact ⟨rfl,⟨_,HF.out⟩,HB2.out⟩
theorem X0 {B b:Nat} {ps:List Cp} {t:List UInt8} {pv av bv:Value} {W:World} (h:MkS B b ps t pv av bv W) :
  Calls prog 120 #[.pointer (some ⟨b,1,none⟩)] W fun e W'=>e=.returned (.int .i64 (t.length:Int))∧W'=W:=by
 have c2:W.cell? ⟨b,2,none⟩=some bv:=(h.q.cell 2).trans rfl;obtain ⟨a,k,rfl⟩:∃ a k,bv=.slice a t.length k:=by
  rcases h.br.2 with ⟨rfl,h0⟩ | ⟨g,cap,cur,fz,hv,_⟩
  ·exact ⟨none,0,by rw [h0]⟩
  ·exact ⟨_,cap,hv⟩
 clear h;go_enter func120,ntmps120;go_wp2_with fail
 go_ret;exact ⟨rfl,rfl⟩
theorem Rg {B b:Nat} {ps:List Cp} {pv av bv:Value} {W:World} (hq:Blk W b #[pv,av,bv] 187) (hb:B≤b) (hp:W.ownsRow B 73 2 pv ps.length (cpC ps)) :
  Calls prog 121 #[.pointer (some ⟨b,1,none⟩)] W fun e W'=>e=.returned (.tuple #[])∧MkS B b ps [] pv (.pointer none) (.slice none 0 0) W'∧Below B W W':=by
 have c1:W.cell? ⟨b,1,none⟩=some av:=(hq.cell 1).trans rfl;have c2:W.cell? ⟨b,2,none⟩=some bv:=(hq.cell 2).trans rfl;have f1:=hq.frozen 1;have f2:=hq.frozen 2;have hnp:=Nn hp hq (by decide);have HF:=Afj (show MkS B b ps [] pv (.pointer none) (.slice none 0 0) ((W.setCell ⟨b,1,none⟩ (.pointer none)).setCell ⟨b,2,none⟩ (.slice none 0 0)) from
  ⟨(hq.set 1 _).set 2 _,hb,.inl rfl,Ab hp fun k hk=>(EE _ _ _ _ k fun e=>hnp (by rw [hk,e])).trans (EE _ _ _ _ k fun e=>hnp (by rw [hk,e])),World.ownsRowF_nil _ _ _ _⟩)
 have HB:=Afj (((Afv B W).setCell (p:=⟨b,1,none⟩) hb (.pointer none)).setCell (p:=⟨b,2,none⟩) hb (.slice none 0 0));clear hq hp hnp;go_enter func121,ntmps121;go_wp2_with fail
 go_end0;exact ⟨rfl,HF.out,HB.out⟩
theorem Rh (W:World) (g n k:Nat) (h:k≠g):(W.freeze ⟨g,0,none⟩ n).heap[k]?=W.heap[k]?:=by
 unfold World.freeze;split
 ·rfl
 ·simp [Array.getElem?_modify,Ne.symm h]
theorem OV (W:World) (a:Addr) (n:Nat):(W.freeze a n).heap.size=W.heap.size:=by
 unfold World.freeze;split
 ·rfl
 ·simp
/-- What was written, as a string. -/
theorem OW {B b:Nat} {ps:List Cp} {t:List UInt8} {pv av bv:Value} {W:World} (h:MkS B b ps t pv av bv W) (h0:t≠[]) (hl:t.length≤4000000) :
  Calls prog 86 #[.pointer (some ⟨b,1,none⟩)] W fun e W'=>e=.returned (.string ⟨t.toArray⟩)∧(∀ k,bv.ownBlock≠some k→W'.heap[k]?=W.heap[k]?)∧Below B W W'∧W'.heap.size=W.heap.size:=by
 have hown:=h.br;have hbk:=h.q;have hl0:t.length≠0:=by simpa using h0
 rcases hown.2 with ⟨_,hz⟩ | ⟨g,cap,cur,fz,rfl,hbg,hg,hfz,hnc,hcm,hcs,htk⟩
 ·exact absurd hz hl0
 ·have c1:W.drew.cell? ⟨b,2,none⟩=some (.slice (some ⟨g,0,none⟩) t.length cap):=(hbk.cell 2).trans rfl;have hSD:(Builtin.unsafeSliceData_ #[164] 185 #[.slice (some ⟨g,0,none⟩) t.length cap]).run prog W.drew=.ok (.pointer (some ⟨g,0,none⟩)) W.drew:=Lib.run_unsafeSliceData_row _ _ _ _ _ _ (by omega);have hUS:(Builtin.unsafeString_ #[185,3] 9 #[.pointer (some ⟨g,0,none⟩),.int .i64 t.length]).run prog W.drew=.ok (.string ⟨t.toArray⟩) (W.drew.freeze ⟨g,0,none⟩ t.length):=by
   refine Lib.run_unsafeString_row W.drew 185 3 9 5 underlying185 (by kernel_rfl) g cur.size (by have hg':W.drew.heap[g]?=some (.cells cur 5 fz):=hg;simp [World.shape?,hg']) t h0 (by omega) (by unfold maxLen at hcm;omega) ?_;intro j x hx;exact hown.cells (g:=g) rfl j (.int .u8 x.toNat) (by simp [Lib.byteCells,hx])
  clear h hown hbk;go_enter func86,ntmps86
  go_wp2
  go_region
  all_goals
   go_wp2
   go_ret;refine ⟨rfl,fun k hk=>?_,Lib.below_freeze (Agb (Afv B W)) (p:=⟨g,0,none⟩) hbg _,OV _ _ _⟩;exact Rh W.drew g _ k (fun e=>hk (by rw [e];rfl))
theorem LN:∃ i,Tryz.prog.info? 73=some i∧i.zero=some (.agg #[.int .i64 0,.string ⟨#[]⟩])∧i.size=2∧i.bytes=24:=by
 have h:(Tryz.prog.info? 73).map (fun i=>(i.zero,i.size,i.bytes))=some (some (.agg #[.int .i64 0,.string ⟨#[]⟩]),2,24):=by kernel_rfl
 obtain ⟨i,hi,he⟩:=Option.map_eq_some_iff.1 h;injection he with h1 h2;injection h2 with h2 h3;exact ⟨i,hi,h1,h2,h3⟩
theorem SB (w:World) (u v:Value) (t:TypeId):∀ j x,[u,v][j]?=some x→(w.alloc (.cells #[u,v] t)).cell? ((⟨w.heap.size,0,none⟩:Addr).add j)=some x:=by
 have hb:=Blk.new w #[u,v] t w.heap.size rfl;intro j x hx;rw [Go.WideShapes.add_plain,Nat.zero_add,hb.cell j,←Array.getElem?_toList];exact hx
theorem MkS.part {B b:Nat} {ps:List Cp} {t:List UInt8} {pv av bv:Value} {W W1 w6:World} (h:MkS B b ps t pv av bv W) (hb:Below W.heap.size W W1) (c:Cp) {v6:Value} (hg:W1.grownBy w6 pv.ownBlock) (ho:w6.ownsRow B 73 2 v6 (ps.length+1) (cpC ps++[.int .i64 c.1,.string (txt c.2)])) :
  MkS B b (ps++[c]) t v6 av bv (w6.setCell ⟨b,0,none⟩ v6):=by
 have hs1:=hb.size;have hq6:=AM (h.q.below hb h.q.lt) hg h.np;have hn6:v6.ownBlock≠some b:=Nn ho hq6 (by decide);refine ⟨hq6.set 0 _,h.bb,h.a,?_,?_⟩
 ·rw [OQ,Afs];exact Ab ho fun k hk=>EE _ _ _ _ k fun e=>hn6 (by rw [hk,e])
 ·refine Gt h.br fun k hk=>?_
  rw [EE _ _ _ _ k fun e=>h.nb (by rw [hk,e]),hg.block k (by have:=(h.br.lt k hk).2;omega) (fun e=>h.npb k e.symm hk),hb.block k (h.br.lt k hk).2]
/-- The text is ended. -/
theorem LO {B b:Nat} {ps:List Cp} {t:List UInt8} {pv av bv:Value} {W:World} (h:MkS B b ps t pv av bv W) (hl:t.length≤4000000) (hp:ps.length≤4000000) (hBw:B≤W.heap.size) :
  Calls prog 106 #[.pointer (some ⟨b,0,none⟩)] W fun e W'=>e=.returned (.tuple #[])∧(∃ pv' av' bv',MkS B b (DR ps t) [] pv' av' bv' W')∧Below B W W':=by
 have hL:=X0 h;unfold DR;by_cases ht:t=[]
 ·rw [if_pos ht];have hz:¬ (0:Int) < (t.length:Int):=by simp [ht]
  have HH:=Afj (show MkS B b ps [] pv av bv W by rw [←ht];exact h);clear h ht;go_enter func106,ntmps106;go_wp2_with (go_at_call 120;refine hL.mono ?_;rintro e w1 ⟨rfl,rfl⟩)
  go_end0;exact ⟨rfl,⟨_,_,_,HH.out⟩,Afv _ _⟩
 ·rw [if_neg ht];have hz:(0:Int) < (t.length:Int):=by have:=List.length_pos_iff.2 ht;omega
  have hS:=fun (W1:World) (h1:MkS B b ps t pv av bv W1)=>OW h1 ht hl
  obtain ⟨i0,hi,hz0,hz1,hz2⟩:=LN;have hm1:ps.length+1≤maxLen:=by unfold maxLen;omega
  have hm2:(ps.length+1) * 24≤140737488355328:=by omega
  have c0:W.cell? ⟨b,0,none⟩=some pv:=(h.q.cell 0).trans rfl;obtain ⟨pa,pc,rfl⟩:=AB h.pr;have hlt:=h.q.lt;have HH:=Afj h;have HB:=Afj hBw;have Ht:=Afj ht;clear h hBw ht;go_enter func106,ntmps106;go_upto_region 1 with (go_at_call 120;refine hL.mono ?_;rintro e w0 ⟨rfl,hw⟩;have hw':=hw.symm;subst hw')
  go_cut [] (fun wx=>∃ v6,Blk wx b #[v6,av,bv] 187∧wx.ownsRow B 73 2 v6 (ps.length+1) (cpC ps++[.int .i64 (-1),.string (txt t)])∧Below B W wx)
  case first=>
   go_region_law (first
    | (refine A6 rfl _ _ 50 rfl B 73 i0 (.agg #[.int .i64 0,.string ⟨#[]⟩]) 2 24 underlying50 hi hz0 hz1 hz2 rfl (by decide) (.slice pa ps.length pc) ps.length (cpC ps) rfl (Ah HR1.out (by repeat (first | (with_reducible exact Afv _ _) | refine Agb ?_ | refine Agc ?_ (Afq _) _))) (some ⟨w1.heap.size,0,none⟩) 1 1 [.int .i64 (-1),.string ⟨t.toArray⟩] rfl rfl (fun _=>⟨_,rfl,SB _ _ _ _⟩) (by intro u hu;simp at hu;rcases hu with rfl | rfl <;> rfl) hm1 hm2 (by simp;omega) ?_;intro v6 w6 hown6 hgrow6 hat6;obtain ⟨a6,c6,rfl⟩:=AB hown6;have hbl:=(Afv w1.heap.size w1).alloc (Afq _) (.cells #[.int .i64 (-1),.string ⟨t.toArray⟩] 73);have hq6:=AM (HQ1.out.below hbl HQ1.out.lt) hgrow6 HH.out.np;have HG:=Afj (show Blk w6 b #[_,av,bv] _∧World.ownsRow w6 B 73 2 (.slice a6 (ps.length+1) c6) (ps.length+1) (cpC ps++[.int .i64 (-1),.string (txt t)])∧Below B W w6 from ⟨hq6,hown6,(HB1.out.trans (hbl.mono hbs)).grown hgrow6 (by simp;omega) (fun k hk=>AS HH.out.pr k hk)⟩);have f0:=hq6.frozen 0;have g0:w6.cell? ⟨b,0,none⟩=some (.slice pa ps.length pc):=(hq6.cell 0).trans rfl;clear hown6 hgrow6 hat6 hq6 hbl)
    | (go_simp;go_at_call 86;refine (hS _ (by first | exact HH.out | exact (show MkS B b ps t _ av bv W.drew from ⟨HH.out.q,HH.out.bb,HH.out.a,HH.out.pr,HH.out.br⟩))).mono ?_;rintro e w1 ⟨rfl,k1,b1,s1⟩;have HB1:=Afj (by first | exact b1 | exact (Afv B W).drew.trans b1:Below B W w1);have HQ1:=Afj (show Blk w1 b _ _ from (k1 b HH.out.nb).trans HH.out.q);have HR1:=Afj (Ab (w:=W) HH.out.pr fun g hg=>k1 g (HH.out.npb g hg));have hbs:B≤w1.heap.size:=Afr HB.out HB1.out.size;have d0:w1.cell? ⟨b,0,none⟩=some (.slice pa ps.length pc):=(HQ1.out.cell 0).trans rfl;have hlt1:b < w1.heap.size:=HQ1.out.lt;clear k1 b1 s1))
   all_goals
    (try go_wp2_with fail)
    go_meet;refine ⟨_,HG.out.1.set 0 _,Ab HG.out.2.1 fun k hk=>EE _ _ _ _ k fun e=>Nn HG.out.2.1 HG.out.1 (by decide) (by rw [hk,e]),HG.out.2.2.setCell (p:=⟨b,0,none⟩) HH.out.bb _⟩
  case rest=>
   obtain ⟨v6,q6,r6,b6⟩:=hcut;have hR:=Rg q6 HH.out.bb (ps:=ps++[(-1,t)]) (by rw [OQ,Afs];exact r6);have HB6:=Afj b6;clear q6 r6 b6 hL hS c0;go_wp2_with (go_at_call 121;refine hR.mono ?_;rintro e w7 ⟨rfl,h7,b7⟩)
   go_end0;exact ⟨rfl,⟨_,_,_,h7⟩,HB6.out.trans b7⟩
/-- A group is put behind. -/
theorem LP {B b:Nat} {ps:List Cp} {t:List UInt8} {pv av bv:Value} {W:World} (n:Int) (h:MkS B b ps t pv av bv W) (hl:t.length≤4000000) (hp:ps.length≤3000000) (hBw:B≤W.heap.size) :
  Calls prog 105 #[.pointer (some ⟨b,0,none⟩),.int .i64 n] W fun e W'=>e=.returned (.tuple #[])∧(∃ pv' av' bv',MkS B b (DR ps t++[(n,[])]) [] pv' av' bv' W')∧Below B W W':=by
 have hE:=LO h hl (by omega) hBw;have hpl:(DR ps t).length≤3000001:=by
  unfold DR;split
  ·omega
  ·simp;omega
 generalize DR ps t=qs at hE hpl ⊢;obtain ⟨i0,hi,hz0,hz1,hz2⟩:=LN;have HBw:=Afj hBw;clear h hBw;go_enter func105,ntmps105;go_upto_region 1 with (go_at_call 106;refine hE.mono ?_;clear hE;rintro e w1 ⟨rfl,⟨pv1,av1,bv1,h1⟩,b1⟩;have H1:=Afj h1;have HB1:=Afj b1;obtain ⟨pa,pc,rfl⟩:=AB h1.pr;have hlt:=h1.q.lt;have c0:w1.cell? ⟨b,0,none⟩=some (.slice pa qs.length pc):=(h1.q.cell 0).trans rfl;clear h1 b1)
 have hm1:qs.length+1≤maxLen:=by unfold maxLen;omega
 have hm2:(qs.length+1) * 24≤140737488355328:=by omega
 have hbs:B≤w1.heap.size:=Afr HBw.out HB1.out.size;have hbl:=(Afv w1.heap.size w1).alloc (Afq _) (.cells #[.int .i64 n,.string ⟨#[]⟩] 73);have hbs2:B≤(w1.alloc (.cells #[.int .i64 n,.string ⟨#[]⟩] 73)).heap.size:=by have:=hbl.size;omega
 have HBL:=Afj hbl;clear hbl;go_wp2_with (at_builtin;go_loud (refine wpList_append_own_at _ rfl _ _ 50 rfl B 73 i0 (.agg #[.int .i64 0,.string ⟨#[]⟩]) 2 24 underlying50 hi hz0 hz1 hz2 rfl (by decide) (.slice pa qs.length pc) qs.length (cpC qs) rfl (Ah H1.out.pr HBL.out) ⟨w1.heap.size,0,none⟩ 1 1 [.int .i64 n,.string ⟨#[]⟩] rfl rfl (SB _ _ _ _) (by intro u hu;simp at hu;rcases hu with rfl | rfl <;> rfl) hm1 hm2 hbs2 ?_;intro v6 w6 hown6 hgr6 _ hat6;obtain ⟨a6,c6,rfl⟩:=AB hown6;have HP:=Afj (H1.out.part HBL.out (n,[]) hgr6 hown6);have hq6:=AM (H1.out.q.below HBL.out H1.out.q.lt) hgr6 H1.out.np;have f0:=hq6.frozen 0;have g0:w6.cell? ⟨b,0,none⟩=some (.slice pa qs.length pc):=(hq6.cell 0).trans rfl;have HB6:=Afj (((HB1.out.trans (HBL.out.mono hbs)).grown hgr6 (by simp;omega) (fun k hk=>AS H1.out.pr k hk)).setCell (p:=⟨b,0,none⟩) H1.out.bb (.slice a6 (qs.length+1) c6));clear hown6 hgr6 hat6 hq6))
 go_end0;exact ⟨rfl,⟨_,_,_,HP.out⟩,HB6.out⟩
def PtA (W:World) (R:List Cp × Nat) (e:Ending) (W':World):Prop:=Below W.heap.size W W'∧∃ pa pc,e=.returned (.tuple #[.slice pa R.1.length pc,.int .i64 (R.2:Int)])∧W'.ownsRow W.heap.size 73 2 (.slice pa R.1.length pc) R.1.length (cpC R.1)
theorem SC {W W':World} (hb:Below W.heap.size W W') (k:Nat):PtA W ([],k) (.returned (.tuple #[.slice none 0 0,.int .i64 (k:Int)])) W':=⟨hb,none,0,rfl,World.ownsRow_nil _ _ _ _⟩
theorem LQ (ps:List Cp) (t:List UInt8):(DR ps t).length≤ps.length+1:=by
 unfold DR;split
 ·omega
 ·simp
theorem Ri (s:ByteArray) (n:Nat) (W:World) (hs:s.size≤4000) :
  Calls prog 87 #[.string s,.int .i64 (n:Int)] W (PtA W (Cj n s.data.toList false [] [])):=by
 obtain ⟨R,hR⟩:∃ R,Cj n s.data.toList false [] []=R:=⟨_,rfl⟩;rw [hR];have HR:=Afj hR;clear hR;obtain ⟨W0,hW0⟩:∃ W0,W.alloc (.cells #[.slice none 0 0,.pointer none,.slice none 0 0] 187)=W0:=⟨_,rfl⟩;have hq0:=Af hW0;have hb0:=Ad hW0;have hM0:MkS W.heap.size W.heap.size [] [] (.slice none 0 0) (.pointer none) (.slice none 0 0) W0:=⟨hq0,Afq _,.inl rfl,World.ownsRow_nil _ _ _ _,World.ownsRowF_nil _ _ _ _⟩
 have HB0:=Afj hb0;have HM0:=Afj hM0;clear hq0 hb0 hM0;go_enter func87,ntmps87;go_wp2_with fail
 go_loopw [7,13] (fun e i wr=>∃ (j:Nat) (esc:Bool) (ps:List Cp) (t:List UInt8) (pv av bv:Value),j≤s.size∧e=.bool esc∧i=.int .i64 j∧MkS W.heap.size W.heap.size ps t pv av bv wr∧Below W.heap.size W wr∧Cj n (s.data.toList.drop j) esc ps t=R∧t.length≤j∧ps.length≤2 * j) (fun _ i _=>s.size - (intOf i).toNat)
 case atStart=>exact ⟨0,false,[],[],_,_,_,by omega,rfl,rfl,HM0.out,HB0.out,HR.out,by simp,by simp⟩
 case round=>
  obtain ⟨j,esc,ps,t,pv,av,bv,hj,rfl,rfl,hm,hbw,hc,htl,hpl⟩:=hrel;have HM:=Afj hm;have HB:=Afj hbw;have hBs:W.heap.size≤wr.heap.size:=hbw.size;clear hm hbw;by_cases hlt:j < s.size
  ·have hji:(j:Int) < (s.size:Int):=by omega
   have hy0:(0:Int)≤(j:Int):=by omega
   rw [Bm s j hlt] at hc;obtain ⟨b,hb⟩:∃ b,s[j]=b:=⟨_,rfl⟩;have hsx:s[j]'hlt=b:=hb;rw [hb] at hc;clear hb;have Wj:IntKind.i64.wrap ((j:Int)+1)=(j:Int)+1:=Afx _ (by omega);cases esc with
   | false=>
    by_cases h92:b=92
    ·have q92:((b.toNat:Int) == 92)=true:=by rw [h92];rfl
     have HC:=Afj (show Cj n (s.data.toList.drop (j+1)) true ps t=R by rw [←hc,h92];simp [Cj]);clear h92 hc;go_wp2_with fail
     go_roundw
     case rel=>exact ⟨j+1,true,ps,t,pv,av,bv,by omega,rfl,by go_num,HM.out,HB.out,HC.out,by omega,by omega⟩
     case measure=>simp [intOf];omega
    ·have q92:((b.toNat:Int) == 92)=false:=Aq (c:=92) h92;by_cases h38:b=38
     ·have q38:((b.toNat:Int) == 38)=true:=by rw [h38];rfl
      have HC:=Afj (show Cj n (s.data.toList.drop (j+1)) false (DR ps t++[(0,[])]) []=R by rw [←hc,h38];simp [Cj]);clear h92 h38 hc;have hAg:=LP 0 HM.out (by omega) (by omega) hBs;go_wp2_with (first | (go_at_call 90;refine (AY _ _).mono ?_;rintro e w5 ⟨rfl,hw5⟩;have hw5':=hw5.symm;subst hw5') | (go_at_call 105;with_reducible refine hAg.mono ?_;clear hAg;rintro e w6 ⟨rfl,⟨pv6,av6,bv6,h6⟩,b6⟩));go_roundw;(case rel=>exact ⟨j+1,false,DR ps t++[(0,[])],[],pv6,av6,bv6,by omega,rfl,by go_num,h6,HB.out.trans b6,HC.out,by simp,by have:=LQ ps t;simp;omega⟩);(case measure=>simp [intOf];omega)
     ·have q38:((b.toNat:Int) == 38)=false:=Aq (c:=38) h38;have HC:=Afj (show Cj n (s.data.toList.drop (j+1)) false ps (t++[b])=R by rw [←hc];simp [Cj,h92,h38]);clear h92 h38 hc;have hWb:=GL b HM.out (by omega) hBs;go_wp2_with (first | (go_at_call 90;refine (AY _ _).mono ?_;rintro e w5 ⟨rfl,hw5⟩;have hw5':=hw5.symm;subst hw5') | (go_at_call 85;with_reducible refine hWb.mono ?_;clear hWb;rintro e w6 ⟨rfl,⟨bv6,h6⟩,b6⟩));go_roundw;(case rel=>exact ⟨j+1,false,ps,t++[b],pv,_,bv6,by omega,rfl,by go_num,h6,HB.out.trans b6,HC.out,by simp;omega,by omega⟩);(case measure=>simp [intOf];omega)
   | true=>
    by_cases hd:A7.contains b=true
    ·have hd2:=hd;rw [DT] at hd2;simp only [Af9,decide_eq_true_eq] at hd2;obtain ⟨m,hmb⟩:∃ m,b.toNat - 48=m:=⟨_,rfl⟩;have Wm:IntKind.u8.wrap ((b.toNat:Int) - 48)=(m:Int):=by
      rw [show ((b.toNat:Int) - 48)=(m:Int) by omega];simp [IntKind.wrap,IntKind.bits,IntKind.signed];omega
     have Wi:IntKind.i64.wrap (m:Int)=(m:Int):=Afx _ (by omega);have hdc:A7.contains b=true:=hd;by_cases hnm:n < m
     ·have hni:(n:Int) < (m:Int):=by omega
      have HC:=Afj (show R=([],9) by rw [←hc];unfold Cj;rw [if_pos hd,hmb,if_pos hnm]);clear hd hc hd2;go_wp2_with (go_at_call 90;refine (AY _ _).mono ?_;rintro e w5 ⟨rfl,hw5⟩;have hw5':=hw5.symm;subst hw5';rw [hdc])
      go_ret2
      rw [HC.out];exact SC HB.out 9
     ·have hni:¬ (n:Int) < (m:Int):=by omega
      have HC:=Afj (show Cj n (s.data.toList.drop (j+1)) false (DR ps t++[((m:Int),[])]) []=R by rw [←hc];conv=>rhs;unfold Cj;rw [if_pos hd,hmb,if_neg hnm]);clear hd hc hd2;have hAg:=LP (m:Int) HM.out (by omega) (by omega) hBs;go_wp2_with (first | (go_at_call 90;refine (AY _ _).mono ?_;rintro e w5 ⟨rfl,hw5⟩;have hw5':=hw5.symm;subst hw5';rw [hdc]) | (go_at_call 105;go_loud (refine hAg.mono ?_;clear hAg;rintro e w6 ⟨rfl,⟨pv6,av6,bv6,h6⟩,b6⟩)));go_roundw;(case rel=>exact ⟨j+1,false,DR ps t++[((m:Int),[])],[],pv6,av6,bv6,by omega,rfl,by go_num,h6,HB.out.trans b6,HC.out,by simp,by have:=LQ ps t;simp;omega⟩);(case measure=>simp [intOf];omega)
    ·have hdc:A7.contains b=false:=by simpa using hd
     by_cases h110:b=110
     ·have q110:((b.toNat:Int) == 110)=true:=by rw [h110];rfl
      have HC:=Afj (show Cj n (s.data.toList.drop (j+1)) false ps (t++[10])=R by rw [←hc,h110];simp [Cj,A7]);clear hd hc h110;have hWb:=GL 10 HM.out (by omega) hBs;rw [show (((10:UInt8).toNat:Nat):Int)=10 from rfl] at hWb;go_wp2_with (first | (go_at_call 90;refine (AY _ _).mono ?_;rintro e w5 ⟨rfl,hw5⟩;have hw5':=hw5.symm;subst hw5';rw [hdc]) | (go_at_call 85;with_reducible refine hWb.mono ?_;clear hWb;rintro e w6 ⟨rfl,⟨bv6,h6⟩,b6⟩));go_roundw;(case rel=>exact ⟨j+1,false,ps,t++[10],pv,_,bv6,by omega,rfl,by go_num,h6,HB.out.trans b6,HC.out,by simp;omega,by omega⟩);(case measure=>simp [intOf];omega)
     ·have q110:((b.toNat:Int) == 110)=false:=Aq (c:=110) h110;have HC:=Afj (show Cj n (s.data.toList.drop (j+1)) false ps (t++[b])=R by rw [←hc];conv=>rhs;unfold Cj;rw [if_neg hd,if_neg h110]);clear hd hc h110;have hWb:=GL b HM.out (by omega) hBs;go_wp2_with (first | (go_at_call 90;refine (AY _ _).mono ?_;rintro e w5 ⟨rfl,hw5⟩;have hw5':=hw5.symm;subst hw5';rw [hdc]) | (go_at_call 85;with_reducible refine hWb.mono ?_;clear hWb;rintro e w6 ⟨rfl,⟨bv6,h6⟩,b6⟩));go_roundw;(case rel=>exact ⟨j+1,false,ps,t++[b],pv,_,bv6,by omega,rfl,by go_num,h6,HB.out.trans b6,HC.out,by simp;omega,by omega⟩);(case measure=>simp [intOf];omega)
  ·obtain rfl:j=s.size:=by omega
   rw [Bs s s.size (Afq _)] at hc;cases esc with
   | true=>
    have HC:=Afj (show R=([],11) by rw [←hc];rfl);clear hc;go_wp2_with fail
    go_ret2
    rw [HC.out];exact SC HB.out 11
   | false=>
    have HC:=Afj (show R=(DR ps t,0) by rw [←hc];rfl);have hE:=LO HM.out (by omega) (by omega) hBs;clear hc;go_wp2_with (go_at_call 106;with_reducible refine hE.mono ?_;clear hE;rintro e w6 ⟨rfl,⟨pv6,av6,bv6,h6⟩,b6⟩;have H6:=Afj h6;have c0:w6.cell? ⟨W.heap.size,0,none⟩=some pv6:=(h6.q.cell 0).trans rfl;clear h6)
    go_ret2
    rw [HC.out];obtain ⟨a6,c6,rfl⟩:=AB H6.out.pr;exact ⟨HB.out.trans b6,a6,c6,rfl,H6.out.pr⟩
attribute [local go_sem] Oper.semAt_some
theorem Jd {m m':Nat} {P:Program} {l:Nat} {f:FuncId} {tmps:Array Value} {assign body:Code} {w:World} {R:Ending→World→Prop}
  (h:RoundIn Fence.wide m P l f tmps assign body w R):RoundIn Fence.wide m' P l f tmps assign body w R:=⟨h.1,fun c cs _=>h.2 c cs (room_wide _)⟩
theorem DN {m:Nat} (m':Nat) {P:Program} {l:Nat} {args:Array Value} {W:World} {R:Ending→World→Prop} (h:YieldAt Fence.wide m P l args W R):YieldAt Fence.wide m' P l args W R:=by
 obtain ⟨fn,tmps,assign,body,hy,hR⟩:=h;exact ⟨fn,tmps,assign,body,hy,Jd hR⟩
theorem UA:∃ i,Tryz.prog.info? 219=some i∧i.zero=some (.agg #[.nilIface,.slice none 0 0])∧i.size=2∧i.bytes=40:=by
 have h:(Tryz.prog.info? 219).map (fun i=>(i.zero,i.size,i.bytes))=some (some (.agg #[.nilIface,.slice none 0 0]),2,40):=by kernel_rfl
 obtain ⟨i,hi,he⟩:=Option.map_eq_some_iff.1 h;injection he with h1 h2;injection h2 with h2 h3;exact ⟨i,hi,h1,h2,h3⟩
def X1 (n₀:Nat) (root:Nd) (pre:List (Nd × Bool)) (x:Nd × Bool) (args:Array Value) (C:Nat→Prop) (base:Nat) (W:World):Prop:=
 ∃ v,args=#[v,.bool x.2]∧(∃ suf,pre++x :: suf=F4 root)∧NdX (fun k=>k < n₀∨(base≤k∧¬ C k)) W x.1 v
theorem LR (n l base n₀ S Y:Nat) (root:Nd) (hsz:Ax root≤4000000) (J:List (Nd × Bool)→(Nat→Prop)→World→Prop) (Jx:World→Prop)
  (hJ:∀ pre C X Y,J pre C X→Other base C X Y→J pre C Y)
  (hR:∀ pre x args C X,J pre C X→X1 n₀ root pre x args C base X→YieldAt Fence.wide 0 prog l args X fun e Y=>
   (e=.returned (.bool true)∧∃ C',J (pre++[x]) C' Y∧Rdn n₀ base C C' X Y)∨(e=.returned (.bool false)∧Jx Y∧Rdn n₀ base C C X Y))
  (pre:List (Nd × Bool)) (C:Nat→Prop) (W:World) (s:List (Nd × List Nd)) (sv:Value) (us:List Value) (d:Nd) (v:Value)
  (hS:Stk n₀ base S Y l C W s sv us) (h0:J pre C W) (hd:NdX (Lies n₀ base C S sv) W d v) (hp:pre++(F4 d++Je s)=F4 root) (hC:∀ k,C k→k < W.heap.size) :
  CallsIn Fence.wide n prog 123 #[v,.pointer (some ⟨S,0,none⟩),.pointer (some ⟨Y,0,none⟩)] W fun e Z=>
   ∃ b,e=.returned (.bool b)∧(b=true→∃ C' sv' us',J (pre++[(d,true)]) C' Z∧Stk n₀ base S Y l C' Z (s++[(d,Cn d)]) sv' us'∧∀ k,C' k→k < Z.heap.size)∧(b=false→Jx Z):=by
 obtain ⟨i0,hi,hz0,hz1,hz2⟩:=UA;have hlen:s.length+2≤8000000:=by
  have h1:=Fh root;have h2:=RJ s;have h3:=congrArg List.length hp;have h4:2≤(F4 d).length:=by rw [EO];simp
  simp at h3;omega
 have hI:=fun (w':World) (hb:Below W.heap.size W w')=>I5 (F:=Lies n₀ base C S sv) d v w' (hd.below hb)
 have hdep:∀ k:Nat,(Fence.wide.depth.isSome=true→1≤k):=fun k h=>by simp [Fence.wide] at h
 have hbs:base≤W.heap.size:=by have:=hS.bS;have:=hS.lS;omega
 have hsh:(∃ T q,v=.iface T q)∨v=.nilIface:=hd.elim fun _ h=>Ay h
 have hv1:v.oneCell'=true:=by rcases hsh with ⟨_,_,rfl⟩ | rfl <;> rfl
 have hm1:s.length+1≤maxLen:=by unfold maxLen;omega
 have hm2:(s.length+1) * 40≤140737488355328:=by omega
 have hone:∀ (a2:Option Addr) (k cap2:Nat),∀ y∈[v,.slice a2 k cap2],y.oneCell'=true:=by
  intro a2 k cap2 y hy;simp at hy;rcases hy with rfl | rfl
  ·exact hv1
  ·rfl
 have hPush:∀ (w2 w3:World) (a2:Option Addr) (cap2:Nat) (v':Value),Below W.heap.size W w2→Be (fun b=>Lies n₀ base C S sv b∨W.heap.size≤b) w2 (Cn d) a2 cap2→
   w3.ownsRow base 219 2 v' (s.length+1) (us++[v,.slice a2 (Cn d).length cap2])→(w2.alloc (.cells #[v,.slice a2 (Cn d).length cap2] 219)).grownBy w3 sv.ownBlock→(v'.ownBlock=sv.ownBlock∨v'.ownBlock=some (w2.alloc (.cells #[v,.slice a2 (Cn d).length cap2] 219)).heap.size)→
   Boxed w3 S 217 sv∧Stk n₀ base S Y l C (w3.setCell ⟨S,0,none⟩ v') (s++[(d,Cn d)]) v' (us++[v,.slice a2 (Cn d).length cap2])∧Other base C W (w3.setCell ⟨S,0,none⟩ v')∧NdX (Lies n₀ base C S v') (w3.setCell ⟨S,0,none⟩ v') d v:=by
  intro w2 w3 a2 cap2 v' hb2 hr2 hown' hgrow hat;exact hS.push (hb2.trans ((Afv _ w2).alloc hb2.size (.cells #[v,.slice a2 (Cn d).length cap2] 219))) hd (hr2.below ((Afv _ w2).alloc (Afq _) _)) hC hown' hgrow hat
 have hc:=hS.box.cell;have hf:=hS.box.frozen;have hmix:Tryz.prog.follows .mixedOrders=true:=by kernel_rfl
 rcases hsh with ⟨T,q,rfl⟩ | rfl
 all_goals
  refine callsIn_of_wp func123 rfl trivial ?_ rfl;simp only [ntmps123,List.size_toArray,List.length_cons,List.length_nil,Nat.reduceAdd,Nat.reduceSub,Array.replicate_succ,Array.replicate_zero,List.push_toArray,List.append_toArray,List.nil_append,List.cons_append]
  gi_upto_region 1 with fail
  gi_cut [] from 5 (fun wx=>∃ sv' us',J pre C wx∧Stk n₀ base S Y l C wx (s++[(d,Cn d)]) sv' us'∧Other base C W wx∧NdX (Lies n₀ base C S sv') wx d _)
  case first=>
   refine wpIn_wide.2 ?_
   go_region_law (first
    | (refine By rfl _ _ _ rfl 33 _ rfl (by rfl) (enters_of func33 (by kernel_rfl) rfl) (hI _ (by first | exact Afv _ _ | exact Agb (Afv _ _))) ?_;rintro e w2 ⟨a2,cap2,rfl,hr2,hb2'⟩;refine ⟨_,rfl,?_⟩;have hb2:Below W.heap.size W w2:=(by first | exact hb2' | exact (Agb (Afv _ _)).trans hb2');clear hb2';have hS2:=hS.below hb2;have hc2:=hS2.box.cell;have hcA:=fun o=>(hS2.box.alloc o).cell;have hf2:=hS2.box.frozen)
    | (refine step_append_lies _ rfl _ _ 217 rfl base 219 i0 (.agg #[.nilIface,.slice none 0 0]) 2 40 underlying217 hi hz0 hz1 hz2 rfl (by decide) sv s.length us rfl (hS2.row.alloc _) ⟨w2.heap.size,0,none⟩ 1 1 [_,.slice a2 (Cn d).length cap2] rfl rfl (cell_two_new _ _ _ _) (hone _ _ _) (by decide) hm1 hm2 (by simp;have:=hb2.size;omega) _ rfl ?_;intro g' cap' w3 hown' hgrow hat _;obtain ⟨hS3,hS4,hO4,hd4⟩:=hPush w2 w3 a2 cap2 _ hb2 hr2 hown' hgrow (hat.elim (fun h=>.inl h.symm) (fun h=>.inr (by rw [h];rfl)));have hc3:=hS3.cell;have hf3:=hS3.frozen))
   all_goals go_wp2_with fail
   all_goals gi_meet
   all_goals exact ⟨_,_,hJ _ _ _ _ h0 hO4,hS4,hO4,hd4⟩
  case rest=>
   obtain ⟨sv',us',hJ1,hS1,hO1,hd1⟩:=hcut;have hC1:∀ k,C k→k < wc.heap.size:=fun k hk=>Aft (hC k hk) hO1.size
   have hcC:=hS1.cC;have hy1:=hS1.yld.cell;have hf1:=hS1.yld.frozen;obtain ⟨fn,tmps,assign,body,hy,hR⟩:=DN (n - 1) (hR pre (d,true) #[_,.bool true] C wc hJ1 ⟨_,rfl,⟨F5 (Cn d)++((d,false) :: Je s),by rw [←hp,EO];simp⟩,Oq hd1⟩)
   gi_wp2
   refine ⟨hdep _,hR.mono ?_⟩;rintro e Z (⟨rfl,C',hJ2,hr⟩ | ⟨rfl,hx,_⟩)
   ·gi_wp2
    go_ret;have hcC':∀ k,C' k→base≤k:=fun k hk=>(hr.new k hk).elim (hcC k) (fun h=>by have:=hO1.size;omega)
    exact ⟨true,rfl,fun _=>⟨C',sv',us',hJ2,hS1.round hr hcC',fun k hk=>(hr.new k hk).elim (fun h=>Aft (hC1 k h) hr.size) (fun h=>h.2)⟩,fun h=>absurd h (by decide)⟩
   ·gi_wp2
    go_ret;exact ⟨false,rfl,fun h=>absurd h (by decide),fun _=>hx⟩
theorem X2 (n l base n₀ R:Nat) (root:Nd) (hsz:Ax root≤4000000) (J:List (Nd × Bool)→(Nat→Prop)→World→Prop) (Jx:World→Prop)
  (hJ:∀ pre C X Y,J pre C X→Other base C X Y→J pre C Y) (hJx:∀ X Y,Jx X→Other base (fun _=>False) X Y→Jx Y)
  (hR:∀ pre x args C X,J pre C X→X1 n₀ root pre x args C base X→YieldAt Fence.wide 0 prog l args X fun e Y=>
   (e=.returned (.bool true)∧∃ C',J (pre++[x]) C' Y∧Rdn n₀ base C C' X Y)∨(e=.returned (.bool false)∧Jx Y∧Rdn n₀ base C C X Y))
  (W:World) (v:Value) (hb:base=W.heap.size) (hn:n₀≤base) (h0:J [] (fun _=>False) W) (hv:NdX (fun k=>k < n₀) W root v) (hc:W.cell? ⟨R,0,none⟩=some v) :
  CallsIn Fence.wide n prog 122 #[.func (.yield l) #[] #[],.pointer (some ⟨R,0,none⟩)] W fun e Z=>(∃ v,e=.returned v)∧((∃ C,J (F4 root) C Z)∨Jx Z):=by
 have hdep:∀ k:Nat,(Fence.wide.depth.isSome=true→1≤k):=fun k h=>by simp [Fence.wide] at h
 refine callsIn_of_wp func122 rfl trivial ?_ rfl;simp only [ntmps122,List.size_toArray,List.length_cons,List.length_nil,Nat.reduceAdd,Nat.reduceSub,Array.replicate_succ,Array.replicate_zero,List.push_toArray,List.append_toArray,List.nil_append,List.cons_append];obtain ⟨W0,hW0⟩:∃ W0,(W.alloc (.cells #[.func (.yield l) #[] #[]] 216)).alloc (.cells #[.slice none 0 0] 217)=W0:=⟨_,rfl⟩;have hB0:Below W.heap.size W W0:=by rw [←hW0];exact ((Afv _ W).alloc (Afq _) _).alloc (by simp) _
 have hRlt:R < W.heap.size:=World.block_lt_of_cell? W _ hc;have hcR:W0.cell? ⟨R,0,none⟩=some v:=(hB0.cell (p:=⟨R,0,none⟩) hRlt).trans hc;have hS0:Stk n₀ base (W.heap.size+1) W.heap.size l (fun _=>False) W0 [] (.slice none 0 0) []:=by
  have hY:=Boxed.new W 216 (.func (.yield l) #[] #[]);have hS:=Boxed.new (W.alloc (.cells #[.func (.yield l) #[] #[]] 216)) 217 (.slice none 0 0);rw [World.size_alloc,hW0] at hS;have hY2:=hY.alloc (.cells #[.slice none 0 0] 217);rw [hW0] at hY2;exact ⟨hS,hY2,by omega,by omega,hn,fun h=>h,fun h=>h,fun k h=>h.elim,World.ownsRow_nil _ _ _ _,fun g h=>by simp [Value.ownBlock] at h,rfl⟩
 have hJ0:J [] (fun _=>False) W0:=hJ _ _ _ _ h0 (Other.of_below hB0);have hbeg:=LR (n - 1) l base n₀ (W.heap.size+1) W.heap.size root hsz J Jx hJ hR [] (fun _=>False) W0 [] (.slice none 0 0) [] root v hS0 hJ0
  ((hv.below hB0).keep (Afq _) (fun b hb _=>⟨.inl hb,fun _=>rfl⟩)) (by simp [Je]) (fun k h=>h.elim)
 gi_wp2_with (refine ⟨trivial,hdep _,?_⟩;gi_at_call 123;refine hbeg.mono ?_;clear hbeg;rintro e Z1 ⟨b1,rfl,hg1⟩)
 clear hS0 hJ0 hcR hB0 hc hv h0
 gi_loopg [5] (2 * Ax root) (fun k go wr=>∃ b,go=.bool b∧(b=true→∃ pre C s sv us,J pre C wr∧Stk n₀ base (W.heap.size+1) W.heap.size l C wr s sv us∧pre++Je s=F4 root∧(∀ k,C k→k < wr.heap.size)∧(Je s).length+1≤k)∧(b=false→Jx wr))
 case atStart=>
  refine ⟨b1,rfl,fun h=>?_,hg1.2⟩;obtain ⟨C1,sv1,us1,hJ1,hS1,hC1⟩:=hg1.1 h;have hr:F4 root=(root,true) :: Je [(root,Cn root)]:=by rw [EO];simp [Je]
  refine ⟨_,C1,_,sv1,us1,hJ1,hS1,by rw [hr];rfl,hC1,?_⟩;have:=Fh root;rw [hr] at this;simp at this;simp;omega
 case round=>
  obtain ⟨b,rfl,ht,hf⟩:=hrel;cases b with
  | false=>
   have hx:=hf rfl;clear ht hf
   gi_wp2
   go_end0;exact ⟨⟨_,rfl⟩,.inr hx⟩
  | true=>
   obtain ⟨pre,C,s,sv,us,hJ1,hS1,hp,hC,hk⟩:=ht rfl;clear ht hf hg1;rcases List.eq_nil_or_concat s with rfl | ⟨s,⟨d,r⟩,rfl⟩
   ·obtain ⟨a,c,rfl⟩:∃ a c,sv=.slice a 0 c:=by
     rcases hS1.row.2 with ⟨e,_⟩ | ⟨g,cap,cur,e,_⟩
     ·exact ⟨_,_,e⟩
     ·exact ⟨_,_,e⟩
    have hc1:=hS1.box.cell
    gi_wp2
    go_end0;exact ⟨⟨_,rfl⟩,.inl ⟨C,by rw [←hp];simpa [Je] using hJ1⟩⟩
   ·rw [List.concat_eq_append] at hS1 hp hk;have hlen:s.length+1≤8000000:=by
     have h1:=Fh root;have h2:=RJ (s++[(d,r)]);have h3:=congrArg List.length hp;simp at h2 h3;omega
    obtain ⟨g,cap,us',v2,a2,cap2,rfl,_,hul,q0,q1,qf,hd2,hr2⟩:=hS1.top;have hc1:=hS1.box.cell;have hf1:=hS1.box.frozen;have hbw:base≤wr.heap.size:=by have:=hS1.bS;have:=hS1.lS;omega
    have Wn:IntKind.i64.wrap ((s.length:Int)+1 - 1)=(s.length:Int):=by rw [Afx _ (by omega)];omega
    cases r with
    | nil=>
     have hp2:(pre++[(d,false)])++Je s=F4 root:=by rw [←hp,Da];simp [F5]
     have hk2:(Je s).length+1 < gk:=by rw [Da] at hk;simp [F5] at hk;omega
     obtain ⟨fn,tmps,assign,body,hy,hR2⟩:=DN (n - 1) (hR pre (d,false) #[v2,.bool false] C wr.drew (hJ _ _ _ _ hJ1 (Other.drew (Other.refl _ _ _))) ⟨_,rfl,⟨Je s,by rw [←hp2];simp⟩,(Oq hd2).drew⟩);have hyd:=hS1.yld.cell;have hR3:=hR2.mono (R':=fun e Z=>∃ b,e=.returned (.bool b)∧∃ C',(b=true→J (pre++[(d,false)]) C' Z)∧(b=false→Jx Z∧C'=C)∧Rdn n₀ base C C' wr.drew Z) (fun e Z h=>h.elim (fun ⟨he,C',h1,h2⟩=>⟨true,he,C',fun _=>h1,fun h=>absurd h (by decide),h2⟩) (fun ⟨he,h1,h2⟩=>⟨false,he,C,fun h=>absurd h (by decide),fun _=>⟨h1,rfl⟩,h2⟩));clear hR2 hd2 hr2;have hcC:=hS1.cC;have hmix:Tryz.prog.follows .mixedOrders=true:=by kernel_rfl
     gi_upto_region 10 with fail
     gi_cut [5] from 12 (fun x wx=>∃ b,x=.bool b∧∃ C',(b=true→J (pre++[(d,false)]) C' wx)∧(b=false→Jx wx)∧Stk n₀ base (W.heap.size+1) W.heap.size l C' wx (s++[(d,[])]) (.slice (some ⟨g,0,none⟩) (s.length+1) cap) us∧∀ k,C' k→k < wx.heap.size)
     case first=>
      gi_region_with_o (refine ⟨hdep _,hR3.mono ?_⟩;rintro e Z ⟨b,rfl,C',h1,h2,hr⟩)
      all_goals gi_wp2
      all_goals gi_meet
      all_goals exact ⟨b,rfl,C',h1,fun h=>(h2 h).1,(hS1.below (Agb (Afv _ _))).round hr (fun k hk=>Or.elim (hr.new k hk) (hcC k) (fun h=>Afr hbw h.1)),fun k hk=>Or.elim (hr.new k hk) (fun h=>Aft (hC k h) hr.size) (fun h=>h.2)⟩
     case rest=>
      obtain ⟨b,rfl,C',h1,h2,hS3,hC3⟩:=hcut;obtain ⟨us3,hS4,hO4⟩:=hS3.pop;have hc3:=hS3.box.cell;have hf3:=hS3.box.frozen;have hcp:s.length+1≤cap:=by
       exact Sw hS3.row
      have hcp2:(s.length:Int)≤(cap:Int):=by omega
      have hcp3:¬ cap=0:=by omega
      gi_wp2
      gi_roundg ((Je s).length+1)
      case measure=>exact hk2
      case rel=>exact ⟨b,rfl,fun h=>⟨_,C',s,_,us3,hJ _ _ _ _ (h1 h) hO4,hS4,hp2,fun k hk=>Aft (hC3 k hk) hO4.size,Afq _⟩,fun h=>hJx _ _ (h2 h) hO4.none⟩
    | cons c r'=>
     obtain ⟨b2,o2,u,rfl,hfb,hlt,hcap,hu,hdu,htl⟩:=hr2.tail;obtain ⟨a4,cap4,htl4,hcase⟩:∃ a4 cap4,Be (Lies n₀ base C (W.heap.size+1) (.slice (some ⟨g,0,none⟩) (s.length+1) cap)) wr r' a4 cap4∧((cap2=1∧a4=some ⟨b2,o2,none⟩∧cap4=0∧r'=[])∨(1 < cap2∧a4=some ⟨b2,o2+1,none⟩∧cap4=cap2 - 1)):=by
      rcases Nat.eq_or_lt_of_le hcap with h1 | h1
      ·have h2:=hr2.1;simp at h2;have h3:r'=[]:=List.eq_nil_of_length_eq_zero (by omega);subst h3;exact ⟨_,_,Be.nil _ _ _ _ (by decide),.inl ⟨h1.symm,rfl,rfl,rfl⟩⟩
      ·exact ⟨_,_,htl,.inr ⟨h1,rfl,rfl⟩⟩
     have hr2c:=hr2.1;simp at hr2c;clear htl hr2;obtain ⟨us2,hS2,hO2⟩:=hS1.shift htl4;have hp2:pre++(F4 c++Je (s++[(d,r')]))=F4 root:=by rw [←hp,Da,Da];simp [F5]
     have hk2:(Je (s++[(d,r')])).length+(F4 c).length < gk:=by
      have h1:=congrArg List.length (EO c);rw [Da] at hk;rw [Da];simp [F5] at hk h1 ⊢;omega
     have hl2:=congrArg List.length (EO c);simp at hl2;obtain ⟨mz,hmz⟩:∃ mz,mz=(Je (s++[(d,r')])).length+(F4 c).length:=⟨_,rfl⟩;rw [←hmz] at hk2;have hrem:(Je ((s++[(d,r')])++[(c,Cn c)])).length+1≤mz:=by rw [Da];simp;omega
     clear hmz hl2;have hbeg:=LR (n - 1) l base n₀ (W.heap.size+1) W.heap.size root hsz J Jx hJ hR pre C _ _ _ us2 c u hS2 (hJ _ _ _ _ hJ1 hO2)
      (hdu.keep hO2.size (fun k hk hlt=>⟨hk,fun o=>Afy (w:=wr) (a:=⟨k,o,none⟩) (Afw _ _ _ _ (Tx hS1 hk))⟩)) hp2 (fun k hk=>Aft (hC k hk) hO2.size)
     clear hS1 hS2 hdu htl4 hd2;rcases hcase with ⟨rfl,rfl,rfl,rfl⟩ | ⟨hc1,rfl,rfl⟩
     all_goals
      gi_wp2_with (refine ⟨trivial,hdep _,?_⟩;gi_at_call 123;refine hbeg.mono ?_;clear hbeg;rintro e Z ⟨b,rfl,h1,h2⟩)
      gi_roundg mz
      case measure=>exact hk2
      case rel=>
       refine ⟨b,rfl,fun h=>?_,h2⟩;obtain ⟨C',sv',us',g1,g2,g3⟩:=h1 h;exact ⟨_,C',_,sv',us',g1,g2,by rw [←hp2,EO,Da,Da];simp,g3,hrem⟩
theorem X4 (v:Value) (w:World) (hsh:(∃ T q,v=.iface T q)∨v=.nilIface):Calls prog 107 #[v] w fun e w'=>e=.returned (.func (.func 122) #[] #[.pointer (some ⟨w.heap.size,0,none⟩)])∧w'=w.alloc (.cells #[v] 45):=by
 rcases hsh with ⟨T,q,rfl⟩ | rfl
 all_goals
  go_enter func107,ntmps107;go_wp2_with fail
  go_ret;exact ⟨rfl,rfl⟩
theorem Rj (root:Nd) (hsz:Ax root≤4000000) (n₀ R:Nat) (v:Value) (w:World) (hn:n₀≤w.heap.size) (hc:w.cell? ⟨R,0,none⟩=some v) (hv:NdX (fun k=>k < n₀) w root v) :
  Aa6 prog 122 #[.pointer (some ⟨R,0,none⟩)] n₀ (X1 n₀ root) (fun xs=>xs=F4 root) w:=by
 intro l m J Jx W hb hJ hJx hR h0;refine callsIn_wide.1 ((X2 0 l W.heap.size n₀ R root hsz J Jx hJ hJx (fun pre x args C X h1 h2=>DN 0 (hR pre x args C X h1 h2)) W v rfl (Afr hn hb.size) h0 (hv.below hb) ((hb.cell (p:=⟨R,0,none⟩) (World.block_lt_of_cell? w _ hc)).trans hc)).mono ?_);rintro e Y ⟨h1,h2⟩;refine ⟨h1,h2.elim (fun ⟨C,h⟩=>.inl ⟨_,C,rfl,h⟩) .inr⟩
theorem UB {n₀:Nat} {root:Nd} {pre:List (Nd × Bool)} {x:Nd × Bool} {args:Array Value} {C:Nat→Prop} {base k:Nat} {W:World} {o:Obj} (h:X1 n₀ root pre x args C base W) (h1:n₀≤k) (h2:k < base):X1 n₀ root pre x args C base (W.putObj k o):=by
 obtain ⟨v,ha,hs,hv⟩:=h;refine ⟨v,ha,hs,hv.keep (by simp) (fun b hb _=>⟨hb,fun p=>Afy (w:=W) (a:=⟨b,p,none⟩) (World.putObj_heap_other ?_)⟩)⟩;show b≠k;rcases hb with hb | hb
 ·omega
 ·omega
attribute [local go_sem] Oper.semAt_some
def LS (p:Nd × Bool→Bool) (l:List (Nd × Bool)):Nat:=(l.filter p).length
theorem OX (p:Nd × Bool→Bool) (l:List (Nd × Bool)) (x:Nd × Bool):LS p (l++[x])=LS p l+(if p x then 1 else 0):=by
 unfold LS;rw [List.filter_append,Afs];cases h:p x <;> simp [h]
theorem D7 (p:Nd × Bool→Bool) (l m:List (Nd × Bool)):LS p (l++m)=LS p l+LS p m:=by
 unfold LS;rw [List.filter_append,Afs]
theorem Ir (p:Nd × Bool→Bool) (x:Nd × Bool) (l:List (Nd × Bool)):LS p (x :: l)=(if p x then 1 else 0)+LS p l:=by
 rw [show x :: l=[x]++l from rfl,D7];unfold LS;cases h:p x <;> simp [h]
theorem Ju (p:Nd × Bool→Bool):LS p []=0:=rfl
theorem Adk (p:Nd × Bool→Bool) (l:List (Nd × Bool)):LS p l≤l.length:=List.length_filter_le _ _
def Pp (x:Nd × Bool):Bool:=Jb x.1 && x.2
theorem Aac (l:List Nd) (b:Bool):Pp (.cat l,b)=false:=rfl
theorem Aad (l:List Nd) (b:Bool):Pp (.alt l,b)=false:=rfl
theorem Aae (d:Nd) (m n:Int) (b:Bool):Pp (.rep d m n,b)=false:=rfl
theorem UC (d:Nd) (n:Int) (b:Bool):Pp (.group n d,b)=b:=Bool.true_and b
mutual
theorem Fz:∀ d:Nd,LS Pp (F4 d)=Cz d
 | .cat l=>by have:=FZ l;simp [F4,Cz,Ir,D7,Ju,Aac,this]
 | .alt l=>by have:=FZ l;simp [F4,Cz,Ir,D7,Ju,Aad,this]
 | .rep d _ _=>by have:=Fz d;simp [F4,Cz,Ir,D7,Ju,Aae,this]
 | .group _ d=>by have:=Fz d;simp [F4,Cz,Ir,D7,Ju,UC,this];omega
 | .empty=>rfl
 | .one _=>rfl
 | .back _=>rfl
 | .start=>rfl
 | .fin=>rfl
theorem FZ:∀ l:List Nd,LS Pp (F5 l)=F9 l
 | []=>rfl
 | d :: ds=>by have:=Fz d;have:=FZ ds;simp [F5,F9,D7, *]
end
structure Ctr (w0:World) (B t:Nat) (d:Nd) (val:List (Nd × Bool)→Value) (pre:List (Nd × Bool)) (C:Nat→Prop) (W:World):Prop where
 nonc:∀ k,¬ C k
 box:Boxed W B t (val pre)
 below:Below w0.heap.size w0 W
 size:w0.heap.size≤B
theorem Ctr.other {w0:World} {B t D:Nat} {d:Nd} {val:List (Nd × Bool)→Value} {pre:List (Nd × Bool)} {C:Nat→Prop} {X Y:World} (h:Ctr w0 B t d val pre C X) (ho:Other D C X Y) (hB:B < D) (hD:w0.heap.size≤D):Ctr w0 B t d val pre C Y:=
 ⟨h.nonc,Boxed.same h.box (ho.block _ h.box.lt (.inl hB)),h.below.trans ⟨ho.os,ho.tape,ho.output,ho.size,fun k hk=>ho.block k (Aft hk h.below.size) (.inl (Aft hk hD))⟩,h.size⟩
theorem Ctr.skip {w0:World} {B t:Nat} {d:Nd} {val:List (Nd × Bool)→Value} {pre:List (Nd × Bool)} {x:Nd × Bool} {C:Nat→Prop} {X:World} (h:Ctr w0 B t d val pre C X) (hv:val (pre++[x])=val pre):Ctr w0 B t d val (pre++[x]) C X:=
 ⟨h.nonc,by rw [hv];exact h.box,h.below,h.size⟩
theorem Ctr.step {w0:World} {B t:Nat} {d:Nd} {val:List (Nd × Bool)→Value} {pre:List (Nd × Bool)} {x:Nd × Bool} {C:Nat→Prop} {X:World} {u:Value} (h:Ctr w0 B t d val pre C X) (hv:val (pre++[x])=u):Ctr w0 B t d val (pre++[x]) C (X.setCell ⟨B,0,none⟩ u):=
 ⟨h.nonc,by rw [hv];exact Boxed.set u h.box,h.below.setCell (p:=⟨B,0,none⟩) h.size u,h.size⟩
theorem Ctr.mem {w0:World} {B t:Nat} {d:Nd} {val:List (Nd × Bool)→Value} {pre:List (Nd × Bool)} {C:Nat→Prop} {X Y:World} (h:Ctr w0 B t d val pre C X) (hb:Below X.heap.size X Y):Ctr w0 B t d val pre C Y:=
 ⟨h.nonc,Boxed.same h.box (hb.block _ h.box.lt),h.below.trans (hb.mono h.below.size),h.size⟩
theorem Rdn.refl (n₀ B:Nat) (C:Nat→Prop) (W:World):Rdn n₀ B C C W W:=⟨Afq _,fun _ _ _=>rfl,fun _ h=>.inl h⟩
theorem Rdn.setCell (n₀ B:Nat) (C:Nat→Prop) (W:World) {p:Addr} {u:Value} (h1:n₀≤p.block) (h2:p.block < B):Rdn n₀ B C C W (W.setCell p u):=
 ⟨by simp [World.setCell],fun k _ hk=>Afw _ _ _ _ (fun e=>by subst e;rcases hk with h | h <;> omega),fun _ h=>.inl h⟩
theorem Rdn.below {n₀ B:Nat} {C:Nat→Prop} {W W':World} (h:Below W.heap.size W W'):Rdn n₀ B C C W W':=⟨h.size,fun k hk _=>h.block k hk,fun _ h=>.inl h⟩
theorem Rdn.trans {n₀ B:Nat} {C:Nat→Prop} {X Y Z:World} (h:Rdn n₀ B C C X Y) (k:Rdn n₀ B C C Y Z):Rdn n₀ B C C X Z:=
 ⟨Afr h.size k.size,fun i hi hc=>(k.block i (Aft hi h.size) hc).trans (h.block i hi hc),fun _ h=>.inl h⟩
theorem UD {w0 W:World} {D:Nat} {o':Obj} (hD:w0.heap.size≤D):Below w0.heap.size W (W.putObj D o'):=
 ⟨rfl,rfl,rfl,by simp,fun k hk=>World.putObj_heap_other (by omega)⟩
theorem Aaf {pre:List (Nd × Bool)} {x:Nd × Bool} {d:Nd} (h:∃ suf,pre++x :: suf=F4 d):pre.length+1≤2 * Ax d:=by
 obtain ⟨suf,h⟩:=h;have:=congrArg List.length h;rw [Fh] at this;simp at this;omega
theorem Is {F:Nat→Prop} {w0:World} {d:Nd} {v:Value} (h:NdX F w0 d v):∃ (num:Int) (u:Value),((∃ T q,u=.iface T q)∨u=.nilIface)∧
  (∀ w,(Instr.typeAssert v 45 102 true).run prog w=.ok (.tuple #[.agg #[.int .i64 num,u],.bool (Jb d)]) w)∧∀ n d',d=.group n d'→num=n:=by
 obtain ⟨n,h⟩:=h;cases n with
 | zero=>exact h.elim
 | succ n=>
  cases d with
  | empty=>
   rcases h with rfl | rfl
   ·exact ⟨0,.nilIface,.inr rfl,JS _,fun _ _ h=>by cases h⟩
   ·exact ⟨0,.nilIface,.inr rfl,MP,fun _ _ h=>by cases h⟩
  | one s=>obtain rfl:=h;exact ⟨0,.nilIface,.inr rfl,M4 _,fun _ _ h=>by cases h⟩
  | cat l=>obtain ⟨a,cap,rfl,_⟩:=h;exact ⟨0,.nilIface,.inr rfl,M8 _,fun _ _ h=>by cases h⟩
  | alt l=>obtain ⟨a,cap,rfl,_⟩:=h;exact ⟨0,.nilIface,.inr rfl,MC _,fun _ _ h=>by cases h⟩
  | rep d mn mx=>obtain ⟨u,rfl,_⟩:=h;exact ⟨0,.nilIface,.inr rfl,ME _,fun _ _ h=>by cases h⟩
  | group num d=>obtain ⟨u,rfl,hu⟩:=h;exact ⟨num,u,Ay hu,JU _,fun _ _ h=>by cases h;rfl⟩
  | back num=>obtain rfl:=h;exact ⟨0,.nilIface,.inr rfl,KW _,fun _ _ h=>by cases h⟩
  | start=>obtain rfl:=h;exact ⟨0,.nilIface,.inr rfl,JW _,fun _ _ h=>by cases h⟩
  | fin=>obtain rfl:=h;exact ⟨0,.nilIface,.inr rfl,MN _,fun _ _ h=>by cases h⟩
theorem OY (d:Nd) (v:Value) (w:World) (h:NdX (fun k=>k < w.heap.size) w d v) (hsz:Ax d≤4000000) :
  Calls prog 88 #[v] w fun e w'=>e=.returned (.int .i64 (Cz d:Int))∧Below w.heap.size w w':=by
 have hsh:(∃ T q,v=.iface T q)∨v=.nilIface:=h.elim fun _ h=>Ay h
 refine (callsIn_wide (n:=3)).1 ?_;refine callsIn_of_wp_marks func88 rfl trivial ?_ rfl;simp only [ntmps88,List.size_toArray,List.length_cons,List.length_nil,Nat.reduceAdd,Nat.reduceSub,Array.replicate_succ,Array.replicate_zero,List.push_toArray,List.append_toArray,List.nil_append,List.cons_append]
 gi_wp2_with (refine ⟨trivial,?_⟩;gi_at_call 107;refine (callsIn_wide.2 (X4 _ _ hsh)).mono ?_;rintro e w' ⟨rfl,rfl⟩)
 obtain ⟨V,hV⟩:∃ V,(w.alloc (.cells #[.int .i64 0] 3)).alloc (.cells #[v] 45)=V:=⟨_,rfl⟩;have hB:Below w.heap.size w V:=by rw [←hV];exact ((Afv _ w).alloc (Afq _) _).alloc (by simp) _
 have hVs:V.heap.size=w.heap.size+2:=by rw [←hV];simp
 have hc:V.cell? ⟨w.heap.size+1,0,none⟩=some v:=by
  have h1:=(Boxed.new (w.alloc (.cells #[.int .i64 0] 3)) 45 v).cell;rw [World.size_alloc,hV] at h1;exact h1
 have hb0:Boxed V w.heap.size 3 (.int .i64 ((LS Pp []:Nat):Int)):=by
  have h1:=(Boxed.new w 3 (.int .i64 0)).alloc (.cells #[v] 45);rw [hV] at h1;exact h1
 rw [hV];refine FE (gf:=122) (lb:=#[.pointer (some ⟨w.heap.size+1,0,none⟩)]) rfl (enters_of func122 (by kernel_rfl) rfl)
  (Rj d hsz w.heap.size (w.heap.size+1) v V (by omega) hc (h.below hB)) (Afv _ _) (by omega)
  (fun pre x args C b W hk=>by obtain ⟨_,rfl,_⟩:=hk;rfl)
  (fun pre x args C b W k o hk h1 h2=>UB hk h1 h2)
  (fun pre C W=>Ctr w w.heap.size 3 d (fun pre=>.int .i64 ((LS Pp pre:Nat):Int)) pre C W) (fun _ _=>False)
  (fun pre C X Y hk ho=>hk.other ho (by omega) (by omega)) (fun _ _ _ hk _=>hk) ⟨fun _ h=>h,hb0,hB,Afq _⟩ ?round ?done ?stop
 case round=>
  rintro l pre ⟨d',b⟩ args C W hI hOk hC hlt;obtain ⟨v',rfl,hsuf,hv'⟩:=hOk;obtain ⟨num,u,hu,hTA,_⟩:=Is hv'
  gi_wp2
  clear hI hlt hv';intro W hI hOk hlt;clear hOk;have hc:=hI.box.cell;have hf:=hI.box.frozen;have hcA:=fun o=>(hI.mem ((Afv _ W).alloc (Afq _) o)).box.cell
  have hfA:=fun o=>(hI.mem ((Afv _ W).alloc (Afq _) o)).box.frozen
  have hIA:=fun o=>hI.mem ((Afv _ W).alloc (Afq _) o)
  have hRA:=fun o=>Rdn.below (n₀:=w.heap.size) (B:=w.heap.size+2) (C:=C) ((Afv _ W).alloc (Afq _) o)
  have Wn:Pp (d',b)=true→IntKind.i64.wrap (((LS Pp pre:Nat):Int)+1)=((LS Pp (pre++[(d',b)]):Nat):Int):=by
   intro hn;have h1:=Adk Pp pre;have h2:=Aaf hsuf;rw [OX,Afx _ (by omega),hn];rfl
  have hno:Pp (d',b)=false→LS Pp (pre++[(d',b)])=LS Pp pre:=fun hn=>by rw [OX,hn];rfl
  have hgb:Pp (d',b)=(Jb d' && b):=rfl;rw [hgb] at Wn hno;cases hG:Jb d'
  ·rw [hG] at hTA hno;have Hno:=Afj (hno rfl);clear hno hgb Wn hG;rcases hu with ⟨T,q,rfl⟩ | rfl
   all_goals
    gi_wp2
    exact ⟨C,hRA _,(hIA _).skip (by rw [Hno.out])⟩
  ·rw [hG] at hTA hno Wn;cases b with
   | false=>
    have Hno:=Afj (hno rfl);clear hno hgb Wn hG;rcases hu with ⟨T,q,rfl⟩ | rfl
    all_goals
     gi_wp2
     exact ⟨C,hRA _,(hIA _).skip (by rw [Hno.out])⟩
   | true=>
    replace Wn:=Wn rfl;clear hno hgb hG;rcases hu with ⟨T,q,rfl⟩ | rfl
    all_goals
     gi_wp2
     exact ⟨C,(hRA _).trans (Rdn.setCell _ _ _ _ (Afq _) (by simp)),(hIA _).step rfl⟩
 case done=>
  rintro xs C W rfl hI hK;have hc:=hI.box.cell;rw [Fz] at hc
  gi_wp2
  refine ⟨by simp,.inl ⟨_,_,rfl,run_takeDeferred hK,?_⟩⟩;exact ⟨_,results_tmp rfl _ _ _,rfl,hI.below.trans (UD (by omega))⟩
 case stop=>
  intro c W hk _;exact hk.elim
attribute [local go_sem] Oper.semAt_some
theorem No (d:UInt8) (rx:Bool) (L:List UInt8):∀ (n p:Nat) (acc:List UInt8),p≤L.length→(Cq d rx L n p acc).1.length≤acc.length+(L.length - p)
 | 0,p,acc,h=>Nat.zero_le _
 | n+1,p,acc,h=>by
  cases hd:L.drop p with
  | nil=>rw [D0 hd];exact Nat.zero_le _
  | cons c t=>
   have hl:t.length+1=L.length - p:=by rw [←Af3,hd];rfl
   by_cases hc:c=d
   ·subst hc;rw [D1 hd];simp only;omega
   ·obtain ⟨x,k,e,he⟩:∃ x k e,Bd d rx c t p=(x,k,e):=⟨_,_,_,rfl⟩;by_cases h0:e=0
    ·subst h0;rw [CH hd hc he];obtain ⟨h1,h2,h3⟩:=ER he;have ih:=No d rx L n k (acc++x) (by omega);rw [Afs] at ih;omega
    ·rw [DY hd hc h0 he];obtain ⟨h1,_,_⟩:=G6 he h0;rw [h1];exact Nat.zero_le _
theorem CmSt.partsR {w:World} {p:Nat} {s:ByteArray} {ext:Bool} {st:CS} {ta tb ts:Value} {pa:Option Addr} {pc:Nat} {ma:Option Addr} {mc:Nat} {W:World} (h:CmSt w p s ext st ta tb ts pa pc ma mc W) {ps:List Cp} {a:Option Addr} {c B:Nat} (hB:w.heap.size≤B) (hr:W.ownsRow B 73 2 (.slice a ps.length c) ps.length (cpC ps)) (hn:∀ g,(Value.slice a ps.length c).ownBlock=some g→g≠p∧(Value.slice ma st.ms.length mc).ownBlock≠some g) (k:Nat) :
  CmSt w p s ext (st.parts ps k) ta tb ts a c ma mc ((W.setCell ⟨p,17,none⟩ (.slice a ps.length c)).setCell ⟨p,2,none⟩ (.int .i64 (k:Int))):=by
 refine CmSt.go (st:={ st with c:={ st.c with sub:={ st.c.sub with parts:=ps } } }) ?_ k;have o1:∀ b,b≠p→(W.setCell ⟨p,17,none⟩ (.slice a ps.length c)).heap[b]?=W.heap[b]?:=fun b hb=>Afw _ _ _ _ (fun e=>hb e)
 have hsz:(W.setCell ⟨p,17,none⟩ (.slice a ps.length c)).heap.size=W.heap.size:=by simp [World.setCell]
 have hk:∀ {t x},TrO (fun b=>w.heap.size≤b∧b≠p∧(Value.slice ma st.ms.length mc).ownBlock≠some b) W t x→TrO (fun b=>w.heap.size≤b∧b≠p∧(Value.slice ma st.ms.length mc).ownBlock≠some b) (W.setCell ⟨p,17,none⟩ (.slice a ps.length c)) t x:=fun hk=>TrO.keep (by omega) (fun b hb _=>⟨hb,fun o=>Afy (w:=W) (a:=⟨b,o,none⟩) (o1 b hb.2.1)⟩) hk
 exact ⟨h.b0.setCell (p:=⟨p,17,none⟩) h.pg _,h.q.set 17 _,h.pg,hk h.ha,hk h.hb,hk h.hs,Ab h.r fun b hb=>o1 b fun e=>h.rg (by rw [hb,e]),h.rg,BW hB (Ab hr fun b hb=>o1 b (hn b hb).1),hn⟩
theorem X5 (w:World) (p:Nat) (s:ByteArray) (ext:Bool) (st:CS) (d:UInt8) (D:Nd) (W:World) (h:Dy w p s ext st W) (hD:st.c.sub.tree=some D) (hsz:Ax D≤4000000) (hs:s.size≤4000) (hk:st.k≤s.size) (hP:GP w) :
  Calls prog 72 #[.pointer (some ⟨p,0,none⟩),.int .u8 (d.toNat:Int)] W fun e W'=>e=.returned (.int .i64 ((CA s.data.toList d st).1:Int))∧Dy w p s ext (CA s.data.toList d st).2 W':=by
 obtain ⟨ta,tb,ts,pa,pc,ma,mc,h⟩:=h;have hs4:s.size≤4000000:=by omega
 have hN:=fun w1 (hb:Below W.heap.size W w1)=>FY s st.k d false w1 hs4 hk ((hP.up h.b0).up hb)
 unfold CA Aj;rw [D9 _ _ _ _ (by rw [←Ae];exact hk),←Ae,hD,show Fq (some D)=Cz D from rfl];have hln:=No d false s.data.toList (s.size+1) st.k [] (by rw [←Ae];exact hk);obtain ⟨⟨t,q,e0⟩,hR⟩:∃ R,Cq d false s.data.toList (s.size+1) st.k []=R:=⟨_,rfl⟩;rw [hR] at hN hln ⊢;rw [←Ae] at hln;simp only [List.length_nil] at hln;have hN:∀ w1,Below W.heap.size W w1→Calls prog 74 #[.string s,.int .i64 (st.k:Int),.int .u8 d.toNat,.bool false] w1 fun e w'=>e=.returned (.tuple #[.string (txt t),.int .i64 (q:Int),.int .i64 (e0:Int)])∧Below w1.heap.size w1 w':=hN
 obtain ⟨T,hT⟩:∃ T,txt t=T:=⟨_,rfl⟩;have hTl:T.data.toList=t:=by rw [←hT,Ef]
 have hTs:T.size≤4000:=by rw [←hT,C7];omega
 rw [hT] at hN;have hQ:=fun w2=>Ri T (Cz D) w2 hTs
 rw [hTl] at hQ;obtain ⟨⟨ps,e1⟩,hR2⟩:∃ R,Cj (Cz D) t false [] []=R:=⟨_,rfl⟩;simp only [hR2] at hQ ⊢;have HH:=Afj h;have k0:W.cell? ⟨p,0,none⟩=some (.string s):=(h.q.cell 0).trans rfl;have k2:W.cell? ⟨p,2,none⟩=some (.int .i64 (st.k:Int)):=(h.q.cell 2).trans rfl;have hsh:=h.hs.shape;clear h hR hR2 hT hTl hln hP;unfold DC;simp only;by_cases he:e0=0
 ·rw [if_pos he];have ce:((e0:Int) != 0)=false:=by simp [he]
  clear he;obtain ⟨Z,hZ⟩:∃ Z,(if e1=0 then ((0,st.parts ps q):CO) else (e1,st))=Z:=⟨_,rfl⟩;rw [hZ];have HZ:=Afj hZ;clear hZ;rcases hsh with ⟨T8,q8,rfl⟩ | rfl
  all_goals
   go_enter func72,ntmps72;go_upto_region 1 with fail
   go_region_held3 (fun w'=>w'.cell? ⟨p,0,none⟩=some (.string s)∧w'.cell? ⟨p,2,none⟩=some (.int .i64 (st.k:Int))) (first | exact ⟨k0,k2⟩ | (refine ⟨?_,?_⟩ <;> assumption)) (first | (go_at_call 74;refine (hN _ (by first | exact Afv _ _ | exact (Afv _ _).drew)).mono ?_;rintro e w1 ⟨rfl,b1⟩;have H1:=Afj (by first | exact HH.out.step b1 | exact HH.out.drew.step b1:CmSt w p s ext st ta tb _ pa pc ma mc w1);have m0:(w1).cell? ⟨p,0,none⟩=some (.string s):=(H1.out.q.cell 0).trans rfl;have m2:(w1).cell? ⟨p,2,none⟩=some (.int .i64 (st.k:Int)):=(H1.out.q.cell 2).trans rfl;clear b1))
   have hgr:=OY D _ w1 (by have h9:=H1.out.hs;rw [hD] at h9;exact NdX.keep (Afq _) (fun b _ hl=>⟨hl,fun _=>rfl⟩) h9) hsz;have k16:w1.cell? ⟨p,16,none⟩=some _:=(H1.out.q.cell 16).trans rfl;clear k0 k2 m0 m2;go_upto_region 6 with (first
    | (go_at_call 88;refine hgr.mono ?_;clear hgr;rintro e w2 ⟨rfl,b2⟩;have H2:=Afj (H1.out.step b2);clear b2)
    | (go_at_call 87;refine (hQ _).mono ?_;rintro e w3 ⟨b3,a3,c3,rfl,r3⟩;have H3:=Afj (H2.out.step b3);have R3:=Afj r3;have HL:=Afj (And.intro H2.out.b0.size H2.out.q.lt);have HM:=Afj (fun g hg=>AF H2.out.r g hg);clear b3 r3))
   by_cases h1:e1=0
   ·subst h1;obtain rfl:(0,st.parts ps q)=Z:=by rw [←HZ.out,if_pos rfl]
    have k2:w3.cell? ⟨p,2,none⟩=some (.int .i64 (st.k:Int)):=(H3.out.q.cell 2).trans rfl;have k17:w3.cell? ⟨p,17,none⟩=some (.slice pa st.c.sub.parts.length pc):=(H3.out.q.cell 17).trans rfl;have f2:=H3.out.q.frozen 2;have f17:=H3.out.q.frozen 17;have H4:=Afj (H3.out.partsR HL.out.1 R3.out (fun g hg=>by
     have hge:=AS R3.out g hg;have hlp:=HL.out.2;refine ⟨by omega,fun e=>?_⟩;have:=HM.out g e;omega) q)
    go_wp2_with fail
    go_ret;exact ⟨rfl,H4.out.R⟩
   ·obtain rfl:(e1,st)=Z:=by rw [←HZ.out,if_neg h1]
    have c1:((e1:Int) != 0)=true:=by simpa using h1
    clear h1;go_wp2_with fail
    go_ret;exact ⟨rfl,H3.out.R⟩
 ·rw [if_neg he];have ce:((e0:Int) != 0)=true:=by simpa using he
  clear he;go_enter func72,ntmps72;go_upto_region 1 with fail
  go_region_held3 (fun w'=>w'.cell? ⟨p,0,none⟩=some (.string s)∧w'.cell? ⟨p,2,none⟩=some (.int .i64 (st.k:Int))) (first | exact ⟨k0,k2⟩ | (refine ⟨?_,?_⟩ <;> assumption)) (first | (go_at_call 74;refine (hN _ (by first | exact Afv _ _ | exact (Afv _ _).drew)).mono ?_;rintro e w1 ⟨rfl,b1⟩;have H1:=Afj (by first | exact HH.out.step b1 | exact HH.out.drew.step b1:CmSt w p s ext st ta tb _ pa pc ma mc w1);have m0:(w1).cell? ⟨p,0,none⟩=some (.string s):=(H1.out.q.cell 0).trans rfl;have m2:(w1).cell? ⟨p,2,none⟩=some (.int .i64 (st.k:Int)):=(H1.out.q.cell 2).trans rfl;clear b1))
  have f2:=H1.out.q.frozen 2;have H2:=Afj (H1.out.go q);go_wp2_with fail
  go_ret;exact ⟨rfl,H2.out.R⟩
end
section
open Go.ChangeShapes Go.WideShapes Go.ChangeAt Go.RowKit
theorem own:ownKnob Tryz.prog.godebug=none:=by kernel_rfl
theorem Np:laidOutB prog=true:=by kernel_rfl
end
section
open Go.RowKit
def kb (t:Tr):Nat:=if (t.kind=4∨t.kind=5)∧t.parts=[] then 1 else 0
theorem Adl (a b c d:Int) (w:World):(part 106 #[.int .u64 a,.int .u64 b,.int .u64 c,.int .u64 d] (0 * 1)).run prog w=.ok (.int .u64 a) w:=by kernel_rfl
theorem Adm (a b c d:Int) (w:World):(part 106 #[.int .u64 a,.int .u64 b,.int .u64 c,.int .u64 d] 1).run prog w=.ok (.int .u64 b) w:=by kernel_rfl
theorem Adn (a b c d:Int) (w:World):(part 106 #[.int .u64 a,.int .u64 b,.int .u64 c,.int .u64 d] 2).run prog w=.ok (.int .u64 c) w:=by kernel_rfl
theorem Ado (a b c d:Int) (w:World):(part 106 #[.int .u64 a,.int .u64 b,.int .u64 c,.int .u64 d] 3).run prog w=.ok (.int .u64 d) w:=by kernel_rfl
theorem UE (a b c d a' b' c' d':Int) (w:World):(Op.eqItems 9999 106 1 #[.int .u64 a,.int .u64 b,.int .u64 c,.int .u64 d] #[.int .u64 a',.int .u64 b',.int .u64 c',.int .u64 d'] [0,1,2,3]).run prog w=.ok (a == a' && (b == b' && (c == c' && d == d'))) w:=by
 have h:=fun (x y:Int) (w:World)=>(run_equalIn_int (P:=prog) w 9998 106 .u64 .u64 x y underlying106:(Op.equalIn 9999 106 (.int .u64 x) (.int .u64 y)).run prog w=_)
 simp only [Op.eqItems,Sem.run_bind,Adl,h,Result.andThen_ok];cases ha:a == a' <;> cases hb:b == b' <;> cases hc:c == c' <;> cases hd:d == d' <;> simp [ha,hb,hc,hd,h,Adm,Adn,Ado]
theorem X6 (s t:OSet):(ow s 0 == ow t 0 && (ow s 1 == ow t 1 && (ow s 2 == ow t 2 && ow s 3 == ow t 3)))=decide (s=t):=by
 by_cases h:s=t
 ·subst h;simp
 ·have h2:=RG h;rw [decide_eq_false h];cases hx:(ow s 0 == ow t 0 && (ow s 1 == ow t 1 && (ow s 2 == ow t 2 && ow s 3 == ow t 3)))
  ·rfl
  ·exfalso;simp only [Af9,beq_iff_eq] at hx;exact h2 hx
end
section
open Go Go.RowKit
def Rk (d:Nd) (s:OSet):Bool:=match d with
 | .one t=>decide (t=s)
 | _=>false
theorem X7 (s t:OSet) (w:World):(Op.equalIn 10000 108 (.agg #[.int .u64 (ow s 0),.int .u64 (ow s 1),.int .u64 (ow s 2),.int .u64 (ow s 3)]) (.agg #[.int .u64 (ow t 0),.int .u64 (ow t 1),.int .u64 (ow t 2),.int .u64 (ow t 3)])).run prog w=.ok (decide (s=t)) w:=by
 have hc:Tryz.prog.cellsOf 106=1:=by kernel_rfl
 have hi0:(Tryz.prog.info? 106).isSome=true:=by kernel_rfl
 obtain ⟨i,hi⟩:=Option.isSome_iff_exists.1 hi0;rw [run_equalIn_array w 9999 (e:=106) (n:=4) _ _ underlying108 hi];rw [hc,show List.range 4=[0,1,2,3] from rfl,UE,X6]
theorem UF {F:Nat→Prop} (d:Nd) (v:Value) (t:OSet) (w:World) (h:NdX F w d v):Calls prog 50 #[v,.agg #[.int .u64 (ow t 0),.int .u64 (ow t 1),.int .u64 (ow t 2),.int .u64 (ow t 3)]] w fun e w'=>e=.returned (.bool (Rk d t))∧Below w.heap.size w w':=by
 have hq:=X7;rcases Ck h with ⟨rfl,rfl | rfl⟩ | ⟨s,rfl,rfl⟩ | ⟨l,a,cap,rfl,rfl,hr⟩ | ⟨l,a,cap,rfl,rfl,hr⟩ | ⟨d',mn,mx,u,rfl,rfl,hu⟩ | ⟨num,d',u,rfl,rfl,hu⟩ | ⟨num,rfl,rfl⟩ | ⟨rfl,rfl⟩ | ⟨rfl,rfl⟩
 all_goals
  go_enter func50,ntmps50;go_wp2_with fail
  go_ret;refine ⟨rfl,?_⟩
  repeat (first | (with_reducible exact Afv _ _) | refine Agb ?_ | refine Aga ?_ (by first | omega | (simp;omega) | simp) _ | refine Agc ?_ (by first | omega | (simp;omega) | simp) _)
end
end Go.Proofs.YtnognicabhgmcaaGreatDoor
