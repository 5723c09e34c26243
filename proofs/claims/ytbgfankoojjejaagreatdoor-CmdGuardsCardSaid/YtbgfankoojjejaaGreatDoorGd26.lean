/- The proof's texts AdWb, AdWc, AdWd, AdWe, AdWf: what the claim reaches of them. -/
import Derived.Test.YtbgfankoojjejaaGreatDoorGd06
import Derived.Test.YtbgfankoojjejaaGreatDoorGd17
import Derived.Test.YtbgfankoojjejaaGreatDoorGd24
import Derived.Test.YtbgfankoojjejaaGreatDoorGd25
import Derived.Test.YtbgfankoojjejaaGreatDoorGd18
set_option linter.unusedSimpArgs false
set_option linter.unusedVariables false
set_option maxHeartbeats 8000000
set_option maxRecDepth 1000000
namespace Go.Proofs.YtbgfankoojjejaaGreatDoor
open Go Go.RowKit
def DelA (w:World) (r:AdRd (List UInt8 × Nd)) (e:Ending) (w':World):Prop:=Below w.heap.size w w'∧match r with
 | .error q=>e=.returned (.tuple #[.agg #[.string ⟨#[]⟩,.nilIface,.slice none 0 0],.int .i64 (q.2:Int),.int .i64 (q.1:Int)])
 | .ok q=>∃ tv mv,e=.returned (.tuple #[.agg #[.string (txt q.1.1),tv,mv],.int .i64 (q.2.2:Int),.int .i64 0])∧NdX (fun b=>w.heap.size≤b∧mv.ownBlock≠some b) w' q.1.2 tv∧w'.ownsRow w.heap.size 77 2 mv q.2.1.length (wmC q.2.1)
theorem delim_btw {ext:Bool} {L:List UInt8} {b:Nat} {d:UInt8} {t:List UInt8} {p e:Nat} (hb:b≤L.length) (h:pcBtw d true L (L.length+1) b []=(t,p,e)) :
  delimM ext L b d=if e=0 then (if t=[] then .error (2,b) else match parseM ext t with | .error q=>.error (q.1,b) | .ok q=>.ok ((t,q.2),wmMove b (q.1.marks.map wmOf),p)) else .error (e,p):=by
 unfold delimM pcBetween
 rw [pcAt_at _ _ _ _ hb,h]
 rfl
theorem anyparse (ext:Bool) (s:ByteArray) (w:World) (hG:Gl w):Calls Tryz.prog (if ext then 68 else 67) #[.string s] w fun e w'=>PAns (parseM ext s.data.toList) w e w':=by
 cases ext
 ·exact bparse_any s w hG
 ·exact eparse_any s w hG
theorem pdelim_any (ext:Bool) (s:ByteArray) (b:Nat) (d:UInt8) (w:World) (hs:s.size≤4000000) (hb:b≤s.size) (hG:Gl w) (hP:GP w) :
  Calls Tryz.prog 48 #[.string s,.int .i64 (b:Int),.int .u8 d.toNat,.bool ext] w (DelA w (delimM ext s.data.toList b d)):=by
 have hA:=(Below.refl w.heap.size w).alloc (Nat.le_refl _) (.cells #[.string ⟨#[]⟩,.nilIface,.slice none 0 0] 93)
 have hR0:=Blk.new w #[.string ⟨#[]⟩,.nilIface,.slice none 0 0] 93 w.heap.size rfl
 obtain ⟨W,hW⟩:∃ W,w.alloc (.cells #[.string ⟨#[]⟩,.nilIface,.slice none 0 0] 93)=W:=⟨_,rfl⟩
 rw [hW] at hA hR0
 have hbt:=pbetween_at s b d true W hs hb (hP.up hA)
 obtain ⟨⟨t,p,e0⟩,hR⟩:∃ R,pcBtw d true s.data.toList (s.size+1) b []=R:=⟨_,rfl⟩
 rw [hR] at hbt
 rw [delim_btw (ext:=ext) (t:=t) (p:=p) (e:=e0) (by rw [←size_list];exact hb) (by rw [←size_list];exact hR)]
 have HA:=Lib.hid hA
 have HR0:=Lib.hid hR0
 have HG:=Lib.hid (hG.up hA)
 clear hR hA hR0 hG hP
 obtain ⟨z0,z1,z2,v0,v1,v2,hz⟩:=blk3 HR0.out
 have hbt:Calls Tryz.prog 43 #[.string s,.int .i64 b,.int .u8 d.toNat,.bool true] W fun e w'=>e=.returned (.tuple #[.string (txt t),.int .i64 (p:Int),.int .i64 (e0:Int)])∧Below W.heap.size W w':=hbt
 obtain ⟨T,hT⟩:∃ T,txt t=T:=⟨_,rfl⟩
 have hTl:T.data.toList=t:=by rw [←hT,txt_list]
 have hT1:T.toList.isEmpty=t.isEmpty:=by rw [ByteArray.toList_eq,hTl]
 rw [hT] at hbt
 have HT:=Lib.hid hTl
 have HTx:=Lib.hid hT
 clear hTl hT
 by_cases he:e0=0
 ·subst he
  rw [if_pos rfl]
  by_cases ht:t=[]
  ·rw [if_pos ht]
   have c1:T.toList.isEmpty=true:=by rw [hT1,ht];rfl
   have c2:T.toList=[]:=List.isEmpty_iff.1 c1
   clear ht hT1
   go_enter Tryz.func48,Tryz.ntmps48
   go_wp2_with (go_at_call 43;refine hbt.mono ?_;clear hbt;rintro e w1 ⟨rfl,b1⟩;have B1:=Lib.hid (HA.out.trans (b1.mono HA.out.size));have K1:=Lib.hid (HR0.out.below b1 HR0.out.lt);clear b1 z0 z1 z2 v0 v1 v2 hz;obtain ⟨z0,z1,z2,v0,v1,v2,hz⟩:=blk3 K1.out)
   first
    | (with_reducible refine post3 B1.out K1.out (Nat.le_refl _) ?_;intro w9 hB9 hk9 hs9 hz9)
    | (have hB9:=B1.out;have hk9:=K1.out;generalize w1=w9 at *)
   clear z0 z1 z2 v0 v1 v2 hz
   obtain ⟨z0,z1,z2,_⟩:=blk3 hk9
   refine bodyPost_ret (v:=.tuple #[.agg #[.string ⟨#[]⟩,.nilIface,.slice none 0 0],.int .i64 (b:Int),.int .i64 2]) (by simp [results,Tryz.results48,go_sem,z0,z1,z2]) rfl ?_
   exact ⟨hB9,rfl⟩
  ·rw [if_neg ht]
   have c1:T.toList.isEmpty=false:=by rw [hT1];cases t <;> simp_all
   have c2:¬ T.toList=[]:=fun h=>by rw [h] at c1;cases c1
   clear ht hT1
   have hpa:=fun w1 (hb1:Below W.heap.size W w1)=>anyparse ext T w1 (HG.out.up hb1)
   rw [HT.out] at hpa
   have hwe:∀ q,parseM ext t=.error q→q.1≠0:=fun q h=>whole_err h
   have hwm:∀ q,parseM ext t=.ok q→q.1.marks.length≤250:=fun q h=>by
    have:=whole_mks (st:=q.1) (d:=q.2) h
    unfold parseM at h
    split at h
    ·cases h
    ·omega
   obtain ⟨R,hRp⟩:∃ R,parseM ext t=R:=⟨_,rfl⟩
   rw [hRp] at hpa hwe hwm ⊢
   clear hRp
   cases R with
   | error q=>
    obtain ⟨n,k⟩:=q
    have hn:n≠0:=hwe _ rfl
    have hnn:((n:Int) != 0)=true:=by simp;omega
    clear hwe hwm hn
    cases ext
    all_goals
     simp only [Bool.false_eq_true,if_false,if_true] at hpa
     go_enter Tryz.func48,Tryz.ntmps48
     go_wp2_with (first
      | (go_at_call 43;refine hbt.mono ?_;clear hbt;rintro e w1 ⟨rfl,b1⟩;have hp1:=hpa w1 b1;have B1:=Lib.hid (HA.out.trans (b1.mono HA.out.size));have K1:=Lib.hid (HR0.out.below b1 HR0.out.lt);clear b1 hpa z0 z1 z2 v0 v1 v2 hz;obtain ⟨z0,z1,z2,v0,v1,v2,hz⟩:=blk3 K1.out)
      | (go_at_call 67;refine hp1.mono ?_;clear hp1;rintro e w2 ⟨b2,rfl⟩;have B2:=Lib.hid (B1.out.trans (b2.mono B1.out.size));have K2:=Lib.hid (K1.out.below b2 K1.out.lt);clear b2 z0 z1 z2 v0 v1 v2 hz;obtain ⟨z0,z1,z2,v0,v1,v2,hz⟩:=blk3 K2.out)
      | (go_at_call 68;refine hp1.mono ?_;clear hp1;rintro e w2 ⟨b2,rfl⟩;have B2:=Lib.hid (B1.out.trans (b2.mono B1.out.size));have K2:=Lib.hid (K1.out.below b2 K1.out.lt);clear b2 z0 z1 z2 v0 v1 v2 hz;obtain ⟨z0,z1,z2,v0,v1,v2,hz⟩:=blk3 K2.out))
     first
      | (with_reducible refine post3 B2.out K2.out (Nat.le_refl _) ?_;intro w9 hB9 hk9 hs9 hz9)
      | (have hB9:=B2.out;have hk9:=K2.out;generalize w2=w9 at *)
     clear z0 z1 z2 v0 v1 v2 hz
     obtain ⟨z0,z1,z2,_⟩:=blk3 hk9
     refine bodyPost_ret (v:=.tuple #[.agg #[.string ⟨#[]⟩,.nilIface,.slice none 0 0],.int .i64 (b:Int),.int .i64 (n:Int)]) (by simp [results,Tryz.results48,go_sem,z0,z1,z2]) rfl ?_
     exact ⟨hB9,rfl⟩
   | ok q=>
    obtain ⟨st,dn⟩:=q
    show Calls _ _ _ _ (DelA w (.ok ((t,dn),wmMove (b:Int) (st.marks.map wmOf),p)))
    have hm250:st.marks.length≤250:=hwm _ rfl
    obtain ⟨n,hn⟩:∃ n,st.marks.length=n:=⟨_,rfl⟩
    have hmn:(st.marks.map wmOf).length=n:=by simp [hn]
    simp only [PAns,hn,marksC_wm] at hpa
    rw [hn] at hm250
    have Hmn:=Lib.hid hmn
    clear hwe hwm hn hmn
    generalize st.marks.map wmOf=l at hpa Hmn ⊢
    have HF:∀ (w':World) (tv:Value) (a':Option Addr) (c':Nat),Below w.heap.size w w'→NdX (fun b=>w.heap.size≤b∧(Value.slice a' n c').ownBlock≠some b) w' dn tv→w'.ownsRow w.heap.size 77 2 (.slice a' n c') n (wmC (wmMove (b:Int) l))→
      DelA w (.ok ((t,dn),wmMove (b:Int) l,p)) (.returned (.tuple #[.agg #[.string T,tv,.slice a' n c'],.int .i64 (p:Int),.int .i64 0])) w':=fun w' tv a' c' h1 h2 h3=>by
     refine ⟨h1,tv,.slice a' n c',?_,h2,?_⟩
     ·rw [←HTx.out]
     ·show w'.ownsRow w.heap.size 77 2 _ (wmMove (b:Int) l).length (wmC (wmMove (b:Int) l))
      rw [wmMove_len,Hmn.out]
      exact h3
    have HFh:=Lib.hid HF
    clear HF
    cases ext
    all_goals
     simp only [Bool.false_eq_true,if_false,if_true] at hpa
     go_enter Tryz.func48,Tryz.ntmps48
     go_upto_region 10 with (first
      | (go_at_call 43;refine hbt.mono ?_;clear hbt;rintro e w1 ⟨rfl,b1⟩;have hp1:=hpa w1 b1;have B1:=Lib.hid (HA.out.trans (b1.mono HA.out.size));have K1:=Lib.hid (HR0.out.below b1 HR0.out.lt);clear b1 hpa z0 z1 z2 v0 v1 v2 hz;obtain ⟨z0,z1,z2,v0,v1,v2,hz⟩:=blk3 K1.out)
      | (go_at_call 67;refine hp1.mono ?_;clear hp1;rintro e w2 ⟨b2,tv,mv,rfl,hd,hm⟩)
      | (go_at_call 68;refine hp1.mono ?_;clear hp1;rintro e w2 ⟨b2,tv,mv,rfl,hd,hm⟩))
     obtain ⟨ma,mc,rfl⟩:=own_form' hm
     have B2:=Lib.hid (B1.out.trans (b2.mono B1.out.size))
     have K2:=Lib.hid (K1.out.below b2 K1.out.lt)
     have HD2:=Lib.hid (NdX.keep (G:=fun b=>w1.heap.size≤b∧b < w2.heap.size) (Nat.le_refl _) (fun b hb hl=>⟨⟨hb,hl⟩,fun _=>rfl⟩) hd)
     have hmv:=pmoved' Hmn.out ma mc (b:Int) w1.heap.size w2 hm (by omega)
     have hsh:=hd.elim fun _ h=>nd_shape h
     clear b2 hd hm z0 z1 z2 v0 v1 v2 hz
     obtain ⟨z0,z1,z2,v0,v1,v2,hz⟩:=blk3 K2.out
     rcases hsh with ⟨T9,q9,rfl⟩ | rfl
     all_goals
      go_wp2_with (go_at_call 69;refine hmv.mono ?_;clear hmv;rintro e w3 ⟨a3,c3,rfl,b3,ho3⟩;have B3:=Lib.hid (B2.out.trans (b3.mono B2.out.size));have K3:=Lib.hid (K2.out.below b3 K2.out.lt);have HD3:=Lib.hid (NdX.below b3 HD2.out);have HO3:=Lib.hid ho3;have hb3:=Lib.hid b3.size;clear b3 ho3 z0 z1 z2 v0 v1 v2 hz;obtain ⟨z0,z1,z2,v0,v1,v2,hz⟩:=blk3 K3.out)
      with_reducible refine post3 B3.out K3.out (Nat.le_refl _) ?_
      intro w9 hB9 hk9 hs9 hz9
      have hne:∀ g,(Value.slice a3 n c3).ownBlock=some g→g≠w.heap.size:=fun g hg e=>by
       have:=own_of HO3.out g hg
       have:=K2.out.lt
       omega
      have hfin:=HFh.out w9 _ a3 c3 hB9 (NdX.keep (G:=fun b=>w.heap.size≤b∧(Value.slice a3 n c3).ownBlock≠some b) (by omega) (fun b hb hl=>⟨⟨Nat.le_trans B1.out.size hb.1,fun e=>by have:=own_of HO3.out b e;have:=hb.2;omega⟩,fun o=>World.cell?_of_block (w:=w3) (a:=⟨b,o,none⟩) (hs9 b (by have:=K1.out.lt;have:=hb.1;omega))⟩) HD3.out) (own_row_same (own_less (Nat.le_trans B2.out.size (Nat.le_refl _)) HO3.out) fun g hg=>hs9 g (hne g hg))
      clear z0 z1 z2 v0 v1 v2 hz
      obtain ⟨z0,z1,z2,_⟩:=blk3 hk9
      refine bodyPost_ret (by simp [results,Tryz.results48,go_sem,z0,z1,z2]) rfl hfin
 ·rw [if_neg he]
  have hnn:((e0:Int) != 0)=true:=by simp;omega
  clear he hT1
  go_enter Tryz.func48,Tryz.ntmps48
  go_wp2_with (go_at_call 43;refine hbt.mono ?_;clear hbt;rintro e w1 ⟨rfl,b1⟩;have B1:=Lib.hid (HA.out.trans (b1.mono HA.out.size));have K1:=Lib.hid (HR0.out.below b1 HR0.out.lt);clear b1 z0 z1 z2 v0 v1 v2 hz;obtain ⟨z0,z1,z2,v0,v1,v2,hz⟩:=blk3 K1.out)
  first
   | (with_reducible refine post3 B1.out K1.out (Nat.le_refl _) ?_;intro w9 hB9 hk9 hs9 hz9)
   | (have hB9:=B1.out;have hk9:=K1.out;generalize w1=w9 at *)
  clear z0 z1 z2 v0 v1 v2 hz
  obtain ⟨z0,z1,z2,_⟩:=blk3 hk9
  refine bodyPost_ret (v:=.tuple #[.agg #[.string ⟨#[]⟩,.nilIface,.slice none 0 0],.int .i64 (p:Int),.int .i64 (e0:Int)]) (by simp [results,Tryz.results48,go_sem,z0,z1,z2]) rfl ?_
  exact ⟨hB9,rfl⟩
end Go.Proofs.YtbgfankoojjejaaGreatDoor
namespace Go.Proofs.YtbgfankoojjejaaGreatDoor
open Go Go.RowKit
def TrO (F:Nat→Prop) (w:World):Option Nd→Value→Prop
 | none,v=>v=.nilIface
 | some d,v=>NdX F w d v
theorem TrO.keep {F G:Nat→Prop} {w w':World} (hs:w.heap.size≤w'.heap.size) (hF:∀ b,F b→b < w.heap.size→G b∧∀ o,w'.cell? ⟨b,o,none⟩=w.cell? ⟨b,o,none⟩):∀ {t:Option Nd} {v:Value},TrO F w t v→TrO G w' t v
 | none,_,h=>h
 | some _,_,h=>NdX.keep hs hF h
theorem TrO.below {F:Nat→Prop} {w w':World} (hb:Below w.heap.size w w'):∀ {t:Option Nd} {v:Value},TrO F w t v→TrO F w' t v
 | none,_,h=>h
 | some _,_,h=>NdX.below hb h
theorem TrO.shape {F:Nat→Prop} {w:World}:∀ {t:Option Nd} {v:Value},TrO F w t v→(∃ T q,v=.iface T q)∨v=.nilIface
 | none,_,h=>.inr h
 | some _,_,h=>h.elim fun _ k=>nd_shape k
theorem delim_err {ext:Bool} {L:List UInt8} {b:Nat} {d:UInt8} {q:Nat × Nat} (h:delimM ext L b d=.error q):q.1≠0:=by
 unfold delimM at h
 simp only at h
 split at h
 ·split at h
  ·injection h with h;subst h;simp
  ·split at h
   ·rename_i he
    injection h with h
    have hq:=whole_err he
    rw [←h]
    exact hq
   ·cases h
 ·rename_i he
  injection h with h
  subst h
  exact he
def AdA (w:World) (r:AdRd Adr) (e:Ending) (w':World):Prop:=Below w.heap.size w w'∧match r with
 | .error q=>e=.returned (.tuple #[.agg #[.int .i64 0,.int .i64 0,.string ⟨#[]⟩,.nilIface],.slice none 0 0,.int .i64 (q.2:Int),.int .i64 (q.1:Int)])
 | .ok q=>∃ tv ma mc,e=.returned (.tuple #[.agg #[.int .i64 (q.1.kind:Int),.int .i64 (q.1.line:Int),.string (txt q.1.text),tv],.slice ma q.2.1.length mc,.int .i64 (q.2.2:Int),.int .i64 0])∧
  TrO (fun b=>w.heap.size≤b∧(Value.slice ma q.2.1.length mc).ownBlock≠some b) w' q.1.tree tv∧w'.ownsRow w.heap.size 77 2 (.slice ma q.2.1.length mc) q.2.1.length (wmC q.2.1)
abbrev adZ:Array Value:=#[.int .i64 0,.int .i64 0,.string ⟨#[]⟩,.nilIface]
theorem pline_any (s:ByteArray) (k:Nat) (w:World) (hs:s.size≤4000000) (hk:k≤s.size) :
  Calls Tryz.prog 28 #[.string s,.int .i64 (k:Int)] w (AdA w (adLine s.data.toList k)):=by
 have hA:=(Below.refl w.heap.size w).alloc (Nat.le_refl _) (.cells adZ 28)
 have hR0:=Blk.new w adZ 28 w.heap.size rfl
 obtain ⟨W,hW⟩:∃ W,w.alloc (.cells adZ 28)=W:=⟨_,rfl⟩
 rw [hW] at hA hR0
 have hnm:=pnumber_at s k W hs hk
 obtain ⟨⟨n,p,e0⟩,hR⟩:∃ R,pcNum s.data.toList k=R:=⟨_,rfl⟩
 rw [hR] at hnm
 unfold adLine
 rw [hR]
 have hnm:Calls Tryz.prog 47 #[.string s,.int .i64 k] W fun e w'=>e=.returned (.tuple #[.int .i64 (n:Int),.int .i64 (p:Int),.int .i64 (e0:Int)])∧Below W.heap.size W w':=hnm
 have HA:=Lib.hid hA
 have HR0:=Lib.hid hR0
 clear hR hA hR0
 obtain ⟨z0,z1,z2,z3,v0,v1,v2,v3,hz⟩:=blk4 HR0.out
 simp only
 by_cases he:e0=0
 ·subst he
  rw [if_pos rfl]
  by_cases hn:n=0
  ·subst hn
   rw [if_pos rfl]
   go_enter Tryz.func28,Tryz.ntmps28
   go_wp2_with (go_at_call 47;refine hnm.mono ?_;clear hnm;rintro e w1 ⟨rfl,b1⟩;have B1:=Lib.hid (HA.out.trans (b1.mono HA.out.size));have K1:=Lib.hid (HR0.out.below b1 HR0.out.lt);clear b1 z0 z1 z2 z3 v0 v1 v2 v3 hz;obtain ⟨z0,z1,z2,z3,v0,v1,v2,v3,hz⟩:=blk4 K1.out)
   first
    | (with_reducible refine post4 B1.out K1.out (Nat.le_refl _) ?_;intro w9 hB9 hk9 hs9 hz9)
    | (have hB9:=B1.out;have hk9:=K1.out;generalize w1=w9 at *)
   clear z0 z1 z2 z3 v0 v1 v2 v3 hz
   obtain ⟨z0,z1,z2,z3,_⟩:=blk4 hk9
   refine bodyPost_ret (v:=.tuple #[.agg adZ,.slice none 0 0,.int .i64 (k:Int),.int .i64 12]) (by simp [results,Tryz.results28,go_sem,z0,z1,z2,z3]) rfl ?_
   exact ⟨hB9,rfl⟩
  ·rw [if_neg hn]
   have hnn:((n:Int) == 0)=false:=by simp;omega
   clear hn
   go_enter Tryz.func28,Tryz.ntmps28
   go_wp2_with (go_at_call 47;refine hnm.mono ?_;clear hnm;rintro e w1 ⟨rfl,b1⟩;have B1:=Lib.hid (HA.out.trans (b1.mono HA.out.size));have K1:=Lib.hid (HR0.out.below b1 HR0.out.lt);clear b1 z0 z1 z2 z3 v0 v1 v2 v3 hz;obtain ⟨z0,z1,z2,z3,v0,v1,v2,v3,hz⟩:=blk4 K1.out)
   with_reducible refine post4 B1.out K1.out (Nat.le_refl _) ?_
   intro w9 hB9 hk9 hs9 hz9
   clear z0 z1 z2 z3 v0 v1 v2 v3 hz
   obtain ⟨z0,z1,z2,z3,_⟩:=blk4 hk9
   refine bodyPost_ret (v:=.tuple #[.agg #[.int .i64 1,.int .i64 (n:Int),.string ⟨#[]⟩,.nilIface],.slice none 0 0,.int .i64 (p:Int),.int .i64 0]) (by simp [results,Tryz.results28,go_sem,z0,z1,z2,z3]) rfl ?_
   exact ⟨hB9,.nilIface,none,0,rfl,rfl,World.ownsRow_nil _ _ _ _⟩
 ·rw [if_neg he]
  have hnn:((e0:Int) != 0)=true:=by simp;omega
  clear he
  go_enter Tryz.func28,Tryz.ntmps28
  go_wp2_with (go_at_call 47;refine hnm.mono ?_;clear hnm;rintro e w1 ⟨rfl,b1⟩;have B1:=Lib.hid (HA.out.trans (b1.mono HA.out.size));have K1:=Lib.hid (HR0.out.below b1 HR0.out.lt);clear b1 z0 z1 z2 z3 v0 v1 v2 v3 hz;obtain ⟨z0,z1,z2,z3,v0,v1,v2,v3,hz⟩:=blk4 K1.out)
  first
   | (with_reducible refine post4 B1.out K1.out (Nat.le_refl _) ?_;intro w9 hB9 hk9 hs9 hz9)
   | (have hB9:=B1.out;have hk9:=K1.out;generalize w1=w9 at *)
  clear z0 z1 z2 z3 v0 v1 v2 v3 hz
  obtain ⟨z0,z1,z2,z3,_⟩:=blk4 hk9
  refine bodyPost_ret (v:=.tuple #[.agg adZ,.slice none 0 0,.int .i64 (p:Int),.int .i64 (e0:Int)]) (by simp [results,Tryz.results28,go_sem,z0,z1,z2,z3]) rfl ?_
  exact ⟨hB9,rfl⟩
theorem pplus_any (s:ByteArray) (k:Nat) (w:World) (hs:s.size≤4000000) (hk:k < s.size) :
  Calls Tryz.prog 31 #[.string s,.int .i64 (k:Int)] w (AdA w (adPlus s.data.toList k)):=by
 have hA:=(Below.refl w.heap.size w).alloc (Nat.le_refl _) (.cells adZ 28)
 have hR0:=Blk.new w adZ 28 w.heap.size rfl
 obtain ⟨W,hW⟩:∃ W,w.alloc (.cells adZ 28)=W:=⟨_,rfl⟩
 rw [hW] at hA hR0
 obtain ⟨k1,hk1⟩:∃ k1,k+1=k1:=⟨_,rfl⟩
 have hnm:=pnumber_at s k1 W hs (by omega)
 have Wk:IntKind.i64.wrap ((k:Int)+1)=(k1:Int):=by rw [IntWalk.i64_in _ (by omega)];omega
 unfold adPlus
 rw [hk1]
 obtain ⟨⟨n,p,e0⟩,hR⟩:∃ R,pcNum s.data.toList k1=R:=⟨_,rfl⟩
 rw [hR] at hnm ⊢
 have hnm:Calls Tryz.prog 47 #[.string s,.int .i64 k1] W fun e w'=>e=.returned (.tuple #[.int .i64 (n:Int),.int .i64 (p:Int),.int .i64 (e0:Int)])∧Below W.heap.size W w':=hnm
 have HA:=Lib.hid hA
 have HR0:=Lib.hid hR0
 clear hR hA hR0 hk1
 obtain ⟨z0,z1,z2,z3,v0,v1,v2,v3,hz⟩:=blk4 HR0.out
 simp only
 by_cases he:e0=0
 ·subst he
  rw [if_pos rfl]
  go_enter Tryz.func31,Tryz.ntmps31
  go_upto_region 4 with (go_at_call 47;refine hnm.mono ?_;clear hnm;rintro e w1 ⟨rfl,b1⟩;have B1:=Lib.hid (HA.out.trans (b1.mono HA.out.size));have K1:=Lib.hid (HR0.out.below b1 HR0.out.lt);clear b1 z0 z1 z2 z3 v0 v1 v2 v3 hz)
  have b2:=B1.out.alloc B1.out.size (.cells #[.int .i64 (k:Int),.string ⟨#[43]⟩] 77)
  have k2:=K1.out.alloc (.cells #[.int .i64 (k:Int),.string ⟨#[43]⟩] 77)
  have ho2:=World.ownsRow_lit (base:=w.heap.size) (size:=2) (e:=77) w1 #[.int .i64 (k:Int),.string ⟨#[43]⟩] 1 B1.out.size (by decide) rfl
  have hlt:=K1.out.lt
  obtain ⟨g,hg⟩:∃ g,w1.heap.size=g:=⟨_,rfl⟩
  obtain ⟨W2,hW2⟩:∃ W2,w1.alloc (.cells #[.int .i64 (k:Int),.string ⟨#[43]⟩] 77)=W2:=⟨_,rfl⟩
  rw [hW2] at b2 k2 ho2
  rw [hg] at ho2 hlt
  have HO:=Lib.hid ho2
  have B2:=Lib.hid b2
  have K2:=Lib.hid k2
  have Hlt:=Lib.hid hlt
  clear b2 k2 ho2 hlt
  obtain ⟨z0,z1,z2,z3,v0,v1,v2,v3,hz⟩:=blk4 K2.out
  go_wp2_with fail
  with_reducible refine post4 B2.out K2.out (Nat.le_refl _) ?_
  intro w9 hB9 hk9 hs9 hz9
  clear z0 z1 z2 z3 v0 v1 v2 v3 hz
  obtain ⟨z0,z1,z2,z3,_⟩:=blk4 hk9
  refine bodyPost_ret (v:=.tuple #[.agg #[.int .i64 4,.int .i64 (n:Int),.string ⟨#[]⟩,.nilIface],.slice (some ⟨g,0,none⟩) 1 1,.int .i64 (p:Int),.int .i64 0]) (by simp [results,Tryz.results31,go_sem,z0,z1,z2,z3]) rfl ?_
  refine ⟨hB9,.nilIface,_,_,rfl,rfl,own_row_same HO.out fun b hb=>hs9 b fun e=>?_⟩
  have:some g=some b:=hb
  injection this with this
  have:=Hlt.out
  omega
 ·rw [if_neg he]
  have hnn:((e0:Int) != 0)=true:=by simp;omega
  clear he
  go_enter Tryz.func31,Tryz.ntmps31
  go_wp2_with (go_at_call 47;refine hnm.mono ?_;clear hnm;rintro e w1 ⟨rfl,b1⟩;have B1:=Lib.hid (HA.out.trans (b1.mono HA.out.size));have K1:=Lib.hid (HR0.out.below b1 HR0.out.lt);clear b1 z0 z1 z2 z3 v0 v1 v2 v3 hz;obtain ⟨z0,z1,z2,z3,v0,v1,v2,v3,hz⟩:=blk4 K1.out)
  first
   | (with_reducible refine post4 B1.out K1.out (Nat.le_refl _) ?_;intro w9 hB9 hk9 hs9 hz9)
   | (have hB9:=B1.out;have hk9:=K1.out;generalize w1=w9 at *)
  clear z0 z1 z2 z3 v0 v1 v2 v3 hz
  obtain ⟨z0,z1,z2,z3,_⟩:=blk4 hk9
  refine bodyPost_ret (v:=.tuple #[.agg adZ,.slice none 0 0,.int .i64 (p:Int),.int .i64 (e0:Int)]) (by simp [results,Tryz.results31,go_sem,z0,z1,z2,z3]) rfl ?_
  exact ⟨hB9,rfl⟩
theorem padrx_any (ext:Bool) (s:ByteArray) (b:Nat) (d:UInt8) (w:World) (hs:s.size≤4000000) (hb:b≤s.size) (hG:Gl w) (hP:GP w) :
  Calls Tryz.prog 29 #[.string s,.int .i64 (b:Int),.int .u8 d.toNat,.bool ext] w (AdA w (adRx ext s.data.toList b d)):=by
 have hA:=(Below.refl w.heap.size w).alloc (Nat.le_refl _) (.cells adZ 28)
 have hR0:=Blk.new w adZ 28 w.heap.size rfl
 obtain ⟨W,hW⟩:∃ W,w.alloc (.cells adZ 28)=W:=⟨_,rfl⟩
 rw [hW] at hA hR0
 have hde:=pdelim_any ext s b d W hs hb (hG.up hA) (hP.up hA)
 have hwe:∀ q,delimM ext s.data.toList b d=.error q→q.1≠0:=fun q h=>delim_err h
 unfold adRx
 obtain ⟨R,hR⟩:∃ R,delimM ext s.data.toList b d=R:=⟨_,rfl⟩
 rw [hR] at hde hwe ⊢
 have HA:=Lib.hid hA
 have HR0:=Lib.hid hR0
 clear hR hA hR0 hG hP
 obtain ⟨z0,z1,z2,z3,v0,v1,v2,v3,hz⟩:=blk4 HR0.out
 cases R with
 | error q=>
  obtain ⟨n,p⟩:=q
  have hn:n≠0:=hwe _ rfl
  have hnn:((n:Int) != 0)=true:=by simp;omega
  clear hwe hn
  go_enter Tryz.func29,Tryz.ntmps29
  go_upto_region 2 with (go_at_call 48;refine hde.mono ?_;clear hde;rintro e w1 ⟨b1,rfl⟩;have B1:=Lib.hid (HA.out.trans (b1.mono HA.out.size));have K1:=Lib.hid (HR0.out.below b1 HR0.out.lt);clear b1 z0 z1 z2 z3 v0 v1 v2 v3 hz)
  have b2:=B1.out.alloc B1.out.size (.cells #[.string ⟨#[]⟩,.nilIface,.slice none 0 0] 93)
  have k2:=K1.out.alloc (.cells #[.string ⟨#[]⟩,.nilIface,.slice none 0 0] 93)
  generalize w1.alloc (.cells #[.string ⟨#[]⟩,.nilIface,.slice none 0 0] 93)=w2 at *
  have B2:=Lib.hid b2
  have K2:=Lib.hid k2
  clear b2 k2
  obtain ⟨z0,z1,z2,z3,v0,v1,v2,v3,hz⟩:=blk4 K2.out
  go_wp2_with fail
  first
   | (with_reducible refine post4 B2.out K2.out (Nat.le_refl _) ?_;intro w9 hB9 hk9 hs9 hz9)
   | (have hB9:=B2.out;have hk9:=K2.out;generalize w2=w9 at *)
  clear z0 z1 z2 z3 v0 v1 v2 v3 hz
  obtain ⟨z0,z1,z2,z3,_⟩:=blk4 hk9
  refine bodyPost_ret (v:=.tuple #[.agg adZ,.slice none 0 0,.int .i64 (p:Int),.int .i64 (n:Int)]) (by simp [results,Tryz.results29,go_sem,z0,z1,z2,z3]) rfl ?_
  exact ⟨hB9,rfl⟩
 | ok q=>
  obtain ⟨⟨t,dn⟩,ms,p⟩:=q
  show Calls _ _ _ _ (AdA w (.ok (⟨3,0,t,some dn⟩,ms,p)))
  have hde:Calls Tryz.prog 48 #[.string s,.int .i64 (b:Int),.int .u8 d.toNat,.bool ext] W fun e w'=>DelA W (.ok ((t,dn),ms,p)) e w':=hde
  simp only [DelA] at hde
  clear hwe
  obtain ⟨n,hn⟩:∃ n,ms.length=n:=⟨_,rfl⟩
  rw [hn] at hde
  obtain ⟨T,hT⟩:∃ T,txt t=T:=⟨_,rfl⟩
  rw [hT] at hde
  have HF:=Lib.hid (fun (w':World) (tv:Value) (a':Option Addr) (c':Nat) (h1:Below w.heap.size w w') (h2:NdX (fun b=>w.heap.size≤b∧(Value.slice a' n c').ownBlock≠some b) w' dn tv) (h3:w'.ownsRow w.heap.size 77 2 (.slice a' n c') n (wmC ms))=>
   (show AdA w (.ok (⟨3,0,t,some dn⟩,ms,p)) (.returned (.tuple #[.agg #[.int .i64 3,.int .i64 0,.string T,tv],.slice a' n c',.int .i64 (p:Int),.int .i64 0])) w' from by
    subst hn hT
    exact ⟨h1,tv,a',c',rfl,h2,h3⟩))
  clear hn hT
  go_enter Tryz.func29,Tryz.ntmps29
  go_upto_region 2 with (go_at_call 48;refine hde.mono ?_;clear hde;rintro e w1 ⟨b1,tv,mv,rfl,hd,hm⟩;obtain ⟨ma,mc,rfl⟩:=own_form' hm;have HD1:=Lib.hid hd;have HM1:=Lib.hid hm;have hsh:=hd.elim fun _ h=>nd_shape h;have B1:=Lib.hid (HA.out.trans (b1.mono HA.out.size));have K1:=Lib.hid (HR0.out.below b1 HR0.out.lt);clear b1 hd hm z0 z1 z2 z3 v0 v1 v2 v3 hz;rcases hsh with ⟨T9,q9,rfl⟩ | rfl)
  all_goals
   have hlt1:=K1.out.lt
   generalize hW2:w1.alloc _=w2
   have b2:=belowOfAlloc hW2
   have hX:=blkOfAlloc hW2
   have B2:=Lib.hid (B1.out.trans (b2.mono B1.out.size))
   have K2:=Lib.hid (K1.out.below b2 hlt1)
   have HD2:=Lib.hid (NdX.below b2 HD1.out)
   have HM2:=Lib.hid (nd_own_below HM1.out b2)
   have Hlt:=Lib.hid (show w.heap.size < W.heap.size from HR0.out.lt)
   obtain ⟨x0,x1,x2,_,_,_,hxl⟩:=blk3 hX
   generalize w1.heap.size=r at *
   obtain ⟨z0,z1,z2,z3,v0,v1,v2,v3,hz⟩:=blk4 K2.out
   clear b2 hX hW2
   go_wp2_with fail
   go_region
   all_goals
    go_wp2_with fail
    first
     | (with_reducible refine post4 B2.out K2.out (Nat.le_refl _) ?_)
     | (with_reducible refine post4d B2.out K2.out (Nat.le_refl _) ?_)
    intro w9 hB9 hk9 hs9 hz9
    have hfin:=HF.out w9 _ ma mc hB9 (NdX.keep (G:=fun b=>w.heap.size≤b∧(Value.slice ma n mc).ownBlock≠some b) (by first | omega | (simp at hz9;omega)) (fun b hb hl=>⟨⟨Nat.le_trans (Nat.le_of_lt Hlt.out) hb.1,hb.2⟩,fun o=>World.cell?_of_block (w:=w2) (a:=⟨b,o,none⟩) (hs9 b (by have:=Hlt.out;have:=hb.1;omega))⟩) HD2.out) (own_row_same (own_less (Nat.le_of_lt Hlt.out) HM2.out) fun g hg=>hs9 g (by have:=own_of HM2.out g hg;have:=Hlt.out;omega))
    clear z0 z1 z2 z3 v0 v1 v2 v3 hz
    obtain ⟨z0,z1,z2,z3,_⟩:=blk4 hk9
    refine bodyPost_ret (by simp [results,Tryz.results29,go_sem,z0,z1,z2,z3]) rfl hfin
end Go.Proofs.YtbgfankoojjejaaGreatDoor
namespace Go.Proofs.YtbgfankoojjejaaGreatDoor
open Go Go.RowKit
theorem u8_ne {x:UInt8} {n:Nat} (hn:n < 256) (h:x≠UInt8.ofNat n):((x.toNat:Int) == (n:Int))=false:=beq_eq_false_iff_ne.2 fun e=>h (UInt8.toNat_inj.1 (by
 have h2:(UInt8.ofNat n).toNat=n:=by simp;omega
 rw [h2]
 omega))
theorem AdA.hand {w W:World} {r:AdRd Adr} {e:Ending} {w1:World} (hA:Below w.heap.size w W) (hk:Blk W w.heap.size adZ 28) (h:AdA W r e w1) :
  ∃ k l t v mv p n,e=.returned (.tuple #[.agg #[k,l,t,v],mv,.int .i64 p,.int .i64 n])∧Below w.heap.size w w1∧Blk w1 w.heap.size adZ 28∧
   ((∃ T q,v=.iface T q)∨v=.nilIface)∧(∃ i,k=.int .i64 i)∧(∃ i,l=.int .i64 i)∧(∃ s,t=.string s)∧(∃ a m c,mv=.slice a m c)∧
   ∀ w9,Below w.heap.size w w9→(∀ b,b≠w.heap.size→w9.heap[b]?=w1.heap[b]?)→w9.heap.size=w1.heap.size→AdA w r e w9:=by
 obtain ⟨h1,h2⟩:=h
 have hlt:=hk.lt
 have hkk:=hk.below h1 hk.lt
 have hbb:=hA.trans (h1.mono hA.size)
 cases r with
 | error q=>
  subst h2
  exact ⟨_,_,_,_,_,_,_,rfl,hbb,hkk,.inr rfl,⟨_,rfl⟩,⟨_,rfl⟩,⟨_,rfl⟩,⟨_,_,_,rfl⟩,fun w9 hb _ _=>⟨hb,rfl⟩⟩
 | ok q=>
  obtain ⟨tv,ma,mc,rfl,h4,h5⟩:=h2
  refine ⟨_,_,_,_,_,_,_,rfl,hbb,hkk,h4.shape,⟨_,rfl⟩,⟨_,rfl⟩,⟨_,rfl⟩,⟨_,_,_,rfl⟩,fun w9 hb hs hz=>⟨hb,tv,ma,mc,rfl,TrO.keep (by omega) (fun b hb _=>⟨⟨Nat.le_trans hA.size hb.1,hb.2⟩,fun o=>World.cell?_of_block (w:=w1) (a:=⟨b,o,none⟩) (hs b (by have:=hb.1;omega))⟩) h4,own_row_same (own_less hA.size h5) fun g hg=>hs g (by have:=own_of h5 g hg;omega)⟩⟩
theorem paddel_any (ext:Bool) (s:ByteArray) (k:Nat) (w:World) (hs:s.size≤4000000) (hk:k < s.size) (hG:Gl w) (hP:GP w) :
  Calls Tryz.prog 30 #[.string s,.int .i64 (k:Int),.bool ext] w (AdA w (adDel ext s.data.toList k)):=by
 have hA:=(Below.refl w.heap.size w).alloc (Nat.le_refl _) (.cells adZ 28)
 have hR0:=Blk.new w adZ 28 w.heap.size rfl
 obtain ⟨W,hW⟩:∃ W,w.alloc (.cells adZ 28)=W:=⟨_,rfl⟩
 rw [hW] at hA hR0
 have hGW:=hG.up hA
 have hPW:=hP.up hA
 have HA:=Lib.hid hA
 have HR0:=Lib.hid hR0
 clear hA hR0 hG hP
 obtain ⟨z0,z1,z2,z3,v0,v1,v2,v3,hz⟩:=blk4 HR0.out
 obtain ⟨k1,hk1⟩:∃ k1,k+1=k1:=⟨_,rfl⟩
 have Wk:IntKind.i64.wrap ((k:Int)+1)=(k1:Int):=by rw [IntWalk.i64_in _ (by omega)];omega
 have Wk2:IntKind.i64.wrap ((k:Int)+2)=((k+2:Nat):Int):=by rw [IntWalk.i64_in _ (by omega)];omega
 unfold adDel
 rw [hk1]
 by_cases he:k1=s.size
 ·rw [drop_end s k1 (by omega)]
  have hE:((k1:Int) == (s.size:Int))=true:=by simp [he]
  clear he hk1 hGW hPW
  simp only
  go_enter Tryz.func30,Tryz.ntmps30
  go_wp2_with fail
  first
   | (with_reducible refine post4 HA.out HR0.out (Nat.le_refl _) ?_;intro w9 hB9 hk9 hs9 hz9)
   | (have hB9:=HA.out;have hk9:=HR0.out;generalize W=w9 at *)
  clear z0 z1 z2 z3 v0 v1 v2 v3 hz
  obtain ⟨z0,z1,z2,z3,_⟩:=blk4 hk9
  refine bodyPost_ret (v:=.tuple #[.agg adZ,.slice none 0 0,.int .i64 (k:Int),.int .i64 12]) (by simp [results,Tryz.results30,go_sem,z0,z1,z2,z3]) rfl ?_
  exact ⟨hB9,rfl⟩
 ·have hlt:k1 < s.size:=by omega
  rw [drop_at s k1 hlt]
  have hE:((k1:Int) == (s.size:Int))=false:=by simp;omega
  have hx0:(0:Int)≤(k1:Int):=by omega
  have hx1:(k1:Int) < (s.size:Int):=by omega
  simp only
  generalize hx:s[k1]=x
  by_cases h92:x=92
  ·rw [if_pos (.inl h92)]
   have q92:((s[k1].toNat:Int) == 92)=true:=by rw [hx,h92];rfl
   clear he hk1 hGW hPW hx h92
   go_enter Tryz.func30,Tryz.ntmps30
   go_wp2_with fail
   first
    | (with_reducible refine post4 HA.out HR0.out (Nat.le_refl _) ?_;intro w9 hB9 hk9 hs9 hz9)
    | (have hB9:=HA.out;have hk9:=HR0.out;generalize W=w9 at *)
   clear z0 z1 z2 z3 v0 v1 v2 v3 hz
   obtain ⟨z0,z1,z2,z3,_⟩:=blk4 hk9
   refine bodyPost_ret (v:=.tuple #[.agg adZ,.slice none 0 0,.int .i64 (k:Int),.int .i64 12]) (by simp [results,Tryz.results30,go_sem,z0,z1,z2,z3]) rfl ?_
   exact ⟨hB9,rfl⟩
  ·have q92:((s[k1].toNat:Int) == 92)=false:=by rw [hx];exact u8_ne (n:=92) (by decide) h92
   by_cases h10:x=10
   ·rw [if_pos (.inr h10)]
    have q10:((s[k1].toNat:Int) == 10)=true:=by rw [hx,h10];rfl
    clear he hk1 hGW hPW hx h92 h10
    go_enter Tryz.func30,Tryz.ntmps30
    go_wp2_with fail
    first
     | (with_reducible refine post4 HA.out HR0.out (Nat.le_refl _) ?_;intro w9 hB9 hk9 hs9 hz9)
     | (have hB9:=HA.out;have hk9:=HR0.out;generalize W=w9 at *)
    clear z0 z1 z2 z3 v0 v1 v2 v3 hz
    obtain ⟨z0,z1,z2,z3,_⟩:=blk4 hk9
    refine bodyPost_ret (v:=.tuple #[.agg adZ,.slice none 0 0,.int .i64 (k:Int),.int .i64 12]) (by simp [results,Tryz.results30,go_sem,z0,z1,z2,z3]) rfl ?_
    exact ⟨hB9,rfl⟩
   ·rw [if_neg (by intro h;exact h.elim h92 h10)]
    have q10:((s[k1].toNat:Int) == 10)=false:=by rw [hx];exact u8_ne (n:=10) (by decide) h10
    have hC:=padrx_any ext s (k+2) s[k1] W hs (by omega) hGW hPW
    rw [hx] at hC
    generalize adRx ext s.data.toList (k+2) x=R at hC ⊢
    obtain ⟨xn,hxn⟩:∃ xn,x.toNat=xn:=⟨_,rfl⟩
    have hxe:s[k1].toNat=xn:=by rw [hx,hxn]
    rw [hxn] at hC
    have HX:=Lib.hid hxe
    clear he hk1 hGW hPW h92 h10 hxn hx hxe
    go_enter Tryz.func30,Tryz.ntmps30
    go_wp2_with (go_at_call 29;rw [HX.out];refine hC.mono ?_;clear hC;intro e w1 h;obtain ⟨k',l',t',v',mv,p',n',rfl,hb1,hk1,hsh,⟨ki,rfl⟩,⟨li,rfl⟩,⟨ti,rfl⟩,⟨a',m',c',rfl⟩,hF⟩:=AdA.hand HA.out HR0.out h;have HB1:=Lib.hid hb1;have HK1:=Lib.hid hk1;have HF:=Lib.hid hF;clear h hb1 hk1 hF z0 z1 z2 z3 v0 v1 v2 v3 hz;obtain ⟨z0,z1,z2,z3,v0,v1,v2,v3,hz⟩:=blk4 HK1.out;rcases hsh with ⟨T9,q9,rfl⟩ | rfl)
    all_goals
     with_reducible refine post4 HB1.out HK1.out (Nat.le_refl _) ?_
     intro w9 hB9 hk9 hs9 hz9
     clear z0 z1 z2 z3 v0 v1 v2 v3 hz
     obtain ⟨z0,z1,z2,z3,_⟩:=blk4 hk9
     exact bodyPost_ret (by simp [results,Tryz.results30,go_sem,z0,z1,z2,z3]) rfl (HF.out w9 hB9 hs9 hz9)
end Go.Proofs.YtbgfankoojjejaaGreatDoor
namespace Go.Proofs.YtbgfankoojjejaaGreatDoor
open Go Go.RowKit
theorem padr_at (ext second:Bool) (s:ByteArray) (k:Nat) (w:World) (hs:s.size≤4000000) (hk:k≤s.size) (hG:Gl w) (hP:GP w) :
  Calls Tryz.prog 14 #[.string s,.int .i64 (k:Int),.bool ext,.bool second] w (AdA w (adM ext second s.data.toList k)):=by
 have hA:=(Below.refl w.heap.size w).alloc (Nat.le_refl _) (.cells adZ 28)
 have hR0:=Blk.new w adZ 28 w.heap.size rfl
 obtain ⟨W,hW⟩:∃ W,w.alloc (.cells adZ 28)=W:=⟨_,rfl⟩
 rw [hW] at hA hR0
 have hGW:=hG.up hA
 have hPW:=hP.up hA
 have HA:=Lib.hid hA
 have HR0:=Lib.hid hR0
 clear hA hR0 hG hP
 obtain ⟨z0,z1,z2,z3,v0,v1,v2,v3,hz⟩:=blk4 HR0.out
 have hx0:¬ (k:Int) < 0:=by omega
 have hx1:¬ (s.size:Int) < (k:Int):=by omega
 have Wk:IntKind.i64.wrap ((k:Int)+1)=((k+1:Nat):Int):=by rw [IntWalk.i64_in _ (by omega)];omega
 have HW:=Lib.hid hW
 unfold adM
 by_cases he:k=s.size
 ·rw [drop_end s k (by omega)]
  have hE:((k:Int) == (s.size:Int))=true:=by simp [he]
  clear he hGW hPW
  simp only
  go_enter Tryz.func14,Tryz.ntmps14
  go_wp2_with fail
  first
   | (with_reducible refine post4 HA.out HR0.out (Nat.le_refl _) ?_;intro w9 hB9 hk9 hs9 hz9)
   | (have hB9:=HA.out;have hk9:=HR0.out;generalize W=w9 at *)
  clear z0 z1 z2 z3 v0 v1 v2 v3 hz
  obtain ⟨z0,z1,z2,z3,_⟩:=blk4 hk9
  refine bodyPost_ret (v:=.tuple #[.agg adZ,.slice none 0 0,.int .i64 (k:Int),.int .i64 0]) (by simp [results,Tryz.results14,go_sem,z0,z1,z2,z3]) rfl ?_
  exact ⟨hB9,.nilIface,none,0,rfl,rfl,World.ownsRow_nil _ _ _ _⟩
 ·have hlt:k < s.size:=by omega
  rw [drop_at s k hlt]
  have hE:((k:Int) == (s.size:Int))=false:=by simp;omega
  have hy0:(0:Int)≤(k:Int):=by omega
  have hy1:(k:Int) < (s.size:Int):=by omega
  simp only
  have hl:=pline_any s k W hs hk
  have hp:=pplus_any s k W hs hlt
  have hd:=paddel_any ext s k W hs hlt hGW hPW
  have hr:=padrx_any ext s (k+1) s[k] W hs (by omega) hGW hPW
  clear hGW hPW he
  by_cases hdg:48≤s[k].toNat∧s[k].toNat≤57
  ·rw [if_pos hdg]
   have d1:(48:Int)≤(s[k].toNat:Int):=by omega
   have d2:(s[k].toNat:Int)≤57:=by omega
   have hC:=hl
   clear hdg hl hp hd hr
   generalize adLine s.data.toList k=R at hC ⊢
   go_enter Tryz.func14,Tryz.ntmps14
   go_wp2_with (go_at_call 28;refine hC.mono ?_;clear hC;intro e w1 h;obtain ⟨k',l',t',v',mv,p',n',rfl,hb1,hk1,hsh,⟨ki,rfl⟩,⟨li,rfl⟩,⟨ti,rfl⟩,⟨a',m',c',rfl⟩,hF⟩:=AdA.hand HA.out HR0.out h;have HB1:=Lib.hid hb1;have HK1:=Lib.hid hk1;have HF:=Lib.hid hF;clear h hb1 hk1 hF z0 z1 z2 z3 v0 v1 v2 v3 hz;obtain ⟨z0,z1,z2,z3,v0,v1,v2,v3,hz⟩:=blk4 HK1.out;rcases hsh with ⟨T9,q9,rfl⟩ | rfl)
   all_goals
    with_reducible refine post4 HB1.out HK1.out (Nat.le_refl _) ?_
    intro w9 hB9 hk9 hs9 hz9
    clear z0 z1 z2 z3 v0 v1 v2 v3 hz
    obtain ⟨z0,z1,z2,z3,_⟩:=blk4 hk9
    exact bodyPost_ret (by simp [results,Tryz.results14,go_sem,z0,z1,z2,z3]) rfl (HF.out w9 hB9 hs9 hz9)
  ·rw [if_neg hdg]
   have hD:=Lib.hid (show (48:Int)≤(s[k].toNat:Int)→¬ (s[k].toNat:Int)≤57 from fun a b=>hdg ⟨by omega,by omega⟩)
   clear hdg hl
   have hdig:(¬ (48:Int)≤(s[k].toNat:Int))∨((48:Int)≤(s[k].toNat:Int)∧¬ (s[k].toNat:Int)≤57):=by
    by_cases h:(48:Int)≤(s[k].toNat:Int)
    ·exact .inr ⟨h,hD.out h⟩
    ·exact .inl h
   clear hD
   by_cases h36:s[k]=36
   ·rw [if_pos h36]
    have q36:((s[k].toNat:Int) == 36)=true:=by rw [h36];rfl
    clear h36 hp hd hr
    rcases hdig with d1 | ⟨d1,d2⟩
    all_goals
     go_enter Tryz.func14,Tryz.ntmps14
     go_wp2_with fail
     first
      | (with_reducible refine post4 HA.out HR0.out (Nat.le_refl _) ?_;intro w9 hB9 hk9 hs9 hz9)
      | (have hB9:=HA.out;have hk9:=HR0.out;generalize W=w9 at *)
     clear z0 z1 z2 z3 v0 v1 v2 v3 hz
     obtain ⟨z0,z1,z2,z3,_⟩:=blk4 hk9
     refine bodyPost_ret (v:=.tuple #[.agg #[.int .i64 2,.int .i64 0,.string ⟨#[]⟩,.nilIface],.slice none 0 0,.int .i64 ((k+1:Nat):Int),.int .i64 0]) (by simp [results,Tryz.results14,go_sem,z0,z1,z2,z3]) rfl ?_
     exact ⟨hB9,.nilIface,none,0,rfl,rfl,World.ownsRow_nil _ _ _ _⟩
   ·rw [if_neg h36]
    have q36:((s[k].toNat:Int) == 36)=false:=u8_ne (n:=36) (by decide) h36
    clear h36
    by_cases h47:s[k]=47
    ·rw [if_pos h47]
     have q47:((s[k].toNat:Int) == 47)=true:=by rw [h47];rfl
     have hC:Calls Tryz.prog 29 #[.string s,.int .i64 ((k+1:Nat):Int),.int .u8 s[k].toNat,.bool ext] W (AdA W (adRx ext s.data.toList (k+1) 47)):=by
      have h:=hr
      rw [show adRx ext s.data.toList (k+1) s[k]=adRx ext s.data.toList (k+1) 47 by rw [h47]] at h
      exact h
     clear h47 hp hd hr
     generalize adRx ext s.data.toList (k+1) 47=R at hC ⊢
     rcases hdig with d1 | ⟨d1,d2⟩
     all_goals
      go_enter Tryz.func14,Tryz.ntmps14
      go_wp2_with (go_at_call 29;refine hC.mono ?_;clear hC;intro e w1 h;obtain ⟨k',l',t',v',mv,p',n',rfl,hb1,hk1,hsh,⟨ki,rfl⟩,⟨li,rfl⟩,⟨ti,rfl⟩,⟨a',m',c',rfl⟩,hF⟩:=AdA.hand HA.out HR0.out h;have HB1:=Lib.hid hb1;have HK1:=Lib.hid hk1;have HF:=Lib.hid hF;clear h hb1 hk1 hF z0 z1 z2 z3 v0 v1 v2 v3 hz;obtain ⟨z0,z1,z2,z3,v0,v1,v2,v3,hz⟩:=blk4 HK1.out;rcases hsh with ⟨T9,q9,rfl⟩ | rfl)
      all_goals
       with_reducible refine post4 HB1.out HK1.out (Nat.le_refl _) ?_
       intro w9 hB9 hk9 hs9 hz9
       clear z0 z1 z2 z3 v0 v1 v2 v3 hz
       obtain ⟨z0,z1,z2,z3,_⟩:=blk4 hk9
       exact bodyPost_ret (by simp [results,Tryz.results14,go_sem,z0,z1,z2,z3]) rfl (HF.out w9 hB9 hs9 hz9)
    ·rw [if_neg h47]
     have q47:((s[k].toNat:Int) == 47)=false:=u8_ne (n:=47) (by decide) h47
     clear h47 hr
     by_cases h92:s[k]=92
     ·rw [if_pos h92]
      have q92:((s[k].toNat:Int) == 92)=true:=by rw [h92];rfl
      have hC:=hd
      clear h92 hp hd
      generalize adDel ext s.data.toList k=R at hC ⊢
      rcases hdig with d1 | ⟨d1,d2⟩
      all_goals
       go_enter Tryz.func14,Tryz.ntmps14
       go_wp2_with (go_at_call 30;refine hC.mono ?_;clear hC;intro e w1 h;obtain ⟨k',l',t',v',mv,p',n',rfl,hb1,hk1,hsh,⟨ki,rfl⟩,⟨li,rfl⟩,⟨ti,rfl⟩,⟨a',m',c',rfl⟩,hF⟩:=AdA.hand HA.out HR0.out h;have HB1:=Lib.hid hb1;have HK1:=Lib.hid hk1;have HF:=Lib.hid hF;clear h hb1 hk1 hF z0 z1 z2 z3 v0 v1 v2 v3 hz;obtain ⟨z0,z1,z2,z3,v0,v1,v2,v3,hz⟩:=blk4 HK1.out;rcases hsh with ⟨T9,q9,rfl⟩ | rfl)
       all_goals
        with_reducible refine post4 HB1.out HK1.out (Nat.le_refl _) ?_
        intro w9 hB9 hk9 hs9 hz9
        clear z0 z1 z2 z3 v0 v1 v2 v3 hz
        obtain ⟨z0,z1,z2,z3,_⟩:=blk4 hk9
        exact bodyPost_ret (by simp [results,Tryz.results14,go_sem,z0,z1,z2,z3]) rfl (HF.out w9 hB9 hs9 hz9)
     ·rw [if_neg h92]
      have q92:((s[k].toNat:Int) == 92)=false:=u8_ne (n:=92) (by decide) h92
      clear h92 hd
      by_cases h43:s[k]=43
      ·have q43:((s[k].toNat:Int) == 43)=true:=by rw [h43];rfl
       cases second with
       | true=>
        rw [if_pos ⟨h43,rfl⟩]
        have hC:=hp
        clear h43 hp
        generalize adPlus s.data.toList k=R at hC ⊢
        rcases hdig with d1 | ⟨d1,d2⟩
        all_goals
         go_enter Tryz.func14,Tryz.ntmps14
         go_wp2_with (go_at_call 31;refine hC.mono ?_;clear hC;intro e w1 h;obtain ⟨k',l',t',v',mv,p',n',rfl,hb1,hk1,hsh,⟨ki,rfl⟩,⟨li,rfl⟩,⟨ti,rfl⟩,⟨a',m',c',rfl⟩,hF⟩:=AdA.hand HA.out HR0.out h;have HB1:=Lib.hid hb1;have HK1:=Lib.hid hk1;have HF:=Lib.hid hF;clear h hb1 hk1 hF z0 z1 z2 z3 v0 v1 v2 v3 hz;obtain ⟨z0,z1,z2,z3,v0,v1,v2,v3,hz⟩:=blk4 HK1.out;rcases hsh with ⟨T9,q9,rfl⟩ | rfl)
         all_goals
          with_reducible refine post4 HB1.out HK1.out (Nat.le_refl _) ?_
          intro w9 hB9 hk9 hs9 hz9
          clear z0 z1 z2 z3 v0 v1 v2 v3 hz
          obtain ⟨z0,z1,z2,z3,_⟩:=blk4 hk9
          exact bodyPost_ret (by simp [results,Tryz.results14,go_sem,z0,z1,z2,z3]) rfl (HF.out w9 hB9 hs9 hz9)
       | false=>
        rw [if_neg (by simp)]
        clear h43 hp
        rcases hdig with d1 | ⟨d1,d2⟩
        all_goals
         go_enter Tryz.func14,Tryz.ntmps14
         go_wp2_with fail
         first
          | (with_reducible refine post4 HA.out HR0.out (Nat.le_refl _) ?_;intro w9 hB9 hk9 hs9 hz9)
          | (have hB9:=HA.out;have hk9:=HR0.out;generalize W=w9 at *)
         clear z0 z1 z2 z3 v0 v1 v2 v3 hz
         obtain ⟨z0,z1,z2,z3,_⟩:=blk4 hk9
         refine bodyPost_ret (v:=.tuple #[.agg adZ,.slice none 0 0,.int .i64 (k:Int),.int .i64 0]) (by simp [results,Tryz.results14,go_sem,z0,z1,z2,z3]) rfl ?_
         exact ⟨hB9,.nilIface,none,0,rfl,rfl,World.ownsRow_nil _ _ _ _⟩
      ·rw [if_neg (fun h=>h43 h.1)]
       have q43:((s[k].toNat:Int) == 43)=false:=u8_ne (n:=43) (by decide) h43
       clear h43 hp
       rcases hdig with d1 | ⟨d1,d2⟩
       all_goals
        go_enter Tryz.func14,Tryz.ntmps14
        go_wp2_with fail
        first
         | (with_reducible refine post4 HA.out HR0.out (Nat.le_refl _) ?_;intro w9 hB9 hk9 hs9 hz9)
         | (have hB9:=HA.out;have hk9:=HR0.out;generalize W=w9 at *)
        clear z0 z1 z2 z3 v0 v1 v2 v3 hz
        obtain ⟨z0,z1,z2,z3,_⟩:=blk4 hk9
        refine bodyPost_ret (v:=.tuple #[.agg adZ,.slice none 0 0,.int .i64 (k:Int),.int .i64 0]) (by simp [results,Tryz.results14,go_sem,z0,z1,z2,z3]) rfl ?_
        exact ⟨hB9,.nilIface,none,0,rfl,rfl,World.ownsRow_nil _ _ _ _⟩
end Go.Proofs.YtbgfankoojjejaaGreatDoor
namespace Go.Proofs.YtbgfankoojjejaaGreatDoor
open Go Go.RowKit
theorem pfx_head (l:List UInt8) (b:UInt8):Lib.hasPrefix l [b]=decide (l.head?=some b):=by
 cases l with
 | nil=>rfl
 | cons c l=>
  show (b == c && List.isPrefixOf [] l)=decide (some c=some b)
  by_cases h:c=b
  ·rw [h];simp
  ·rw [decide_eq_false (by simpa using h),beq_eq_false_iff_ne.2 (Ne.symm h)]
   rfl
theorem pfx_at (s:ByteArray) (k:Nat) (b:UInt8) (w:World):Calls Tryz.prog 33 #[.string (s.extract k s.size),.string ⟨#[b]⟩] w fun e w'=>e=.returned (.bool (decide ((s.data.toList.drop k).head?=some b)))∧w=w':=by
 have h:=prefix_any (s.extract k s.size) ⟨#[b]⟩ w
 rw [extractEnd_list,show (⟨#[b]⟩:ByteArray).data.toList=[b] from rfl,pfx_head] at h
 exact h
theorem pblk_at (s:ByteArray) (k:Nat) (w:World) (hs:s.size≤4000000) (hk:k≤s.size) :
  Calls Tryz.prog 32 #[.string s,.int .i64 (k:Int)] w fun e w'=>e=.returned (.int .i64 (pcBlk s.data.toList k:Int))∧Below w.heap.size w w':=by
 have h:=pblanks_any s k w hs
 rw [pcBehind_at _ _ _ (by rw [←size_list];exact hk)] at h
 exact h
theorem blk_le (s:ByteArray) (k:Nat) (hk:k≤s.size):pcBlk s.data.toList k≤s.size:=by
 have:=(pcBlk_le s.data.toList k (by rw [←size_list];exact hk)).2
 rw [size_list];exact this
theorem head_lt {s:ByteArray} {k:Nat} {b:UInt8} (h:(s.data.toList.drop k).head?=some b):k < s.size:=by
 by_cases hk:k < s.size
 ·exact hk
 ·rw [drop_end s k (by omega)] at h;cases h
theorem pnot_any (s:ByteArray) (k:Nat) (w:World) (hs:s.size≤4000000) (hk:k≤s.size) :
  Calls Tryz.prog 16 #[.string s,.int .i64 (k:Int)] w fun e w'=>Below w.heap.size w w'∧e=match adNot s.data.toList k with
   | .error q=>.returned (.tuple #[.bool false,.int .i64 (q.2:Int),.int .i64 (q.1:Int)])
   | .ok q=>.returned (.tuple #[.bool q.1,.int .i64 (q.2:Int),.int .i64 0]):=by
 have hB:=pblk_at s k w hs hk
 have hble:=blk_le s k hk
 unfold adNot
 obtain ⟨b,hb⟩:∃ b,pcBlk s.data.toList k=b:=⟨_,rfl⟩
 rw [hb] at hB hble ⊢
 have hx0:(0:Int)≤(b:Int):=by omega
 have hx1:(b:Int)≤(s.size:Int):=by omega
 have hpf:=fun w=>pfx_at s b 33 w
 clear hb
 by_cases h33:(s.data.toList.drop b).head?=some 33
 ·rw [if_pos h33]
  have hlt:=head_lt h33
  rw [decide_eq_true h33] at hpf
  obtain ⟨b1,hb1⟩:∃ b1,b+1=b1:=⟨_,rfl⟩
  rw [hb1]
  have Wb:IntKind.i64.wrap ((b:Int)+1)=(b1:Int):=by rw [IntWalk.i64_in _ (by omega)];omega
  have hB2:=fun w=>pblk_at s b1 w hs (by omega)
  have hble2:=blk_le s b1 (by omega)
  obtain ⟨c,hc⟩:∃ c,pcBlk s.data.toList b1=c:=⟨_,rfl⟩
  rw [hc] at hB2 hble2 ⊢
  have hy0:(0:Int)≤(c:Int):=by omega
  have hy1:(c:Int)≤(s.size:Int):=by omega
  have hpf2:=fun w=>pfx_at s c 33 w
  have hbc:b≠c:=by
   have:=(pcBlk_le s.data.toList b1 (by rw [←size_list];omega)).1
   omega
  clear hc hb1 h33 hlt
  by_cases h33':(s.data.toList.drop c).head?=some 33
  ·rw [if_pos h33']
   rw [decide_eq_true h33'] at hpf2
   clear h33'
   go_enter Tryz.func16,Tryz.ntmps16
   go_upto_region 2 with (go_at_call 32;refine hB.mono ?_;clear hB;rintro e w1 ⟨rfl,b1'⟩;have B1:=Lib.hid b1';clear b1')
   go_upto_region 4 with (go_at_call 33;go_loud (refine (hpf _).mono ?_;clear hpf;rintro e w2 ⟨rfl,rfl⟩))
   go_upto_region 5 with (go_at_call 32;refine (hB2 _).mono ?_;clear hB2;rintro e w3 ⟨rfl,b3⟩;have B3:=Lib.hid b3;clear b3)
   go_wp2_with (go_at_call 33;refine (hpf2 _).mono ?_;clear hpf2;rintro e w4 ⟨rfl,rfl⟩)
   go_ret3
   exact ⟨B1.out.trans (B3.out.mono B1.out.size),rfl⟩
  ·rw [if_neg h33']
   rw [decide_eq_false h33'] at hpf2
   clear h33'
   go_enter Tryz.func16,Tryz.ntmps16
   go_upto_region 2 with (go_at_call 32;refine hB.mono ?_;clear hB;rintro e w1 ⟨rfl,b1'⟩;have B1:=Lib.hid b1';clear b1')
   go_upto_region 4 with (go_at_call 33;go_loud (refine (hpf _).mono ?_;clear hpf;rintro e w2 ⟨rfl,rfl⟩))
   go_upto_region 5 with (go_at_call 32;refine (hB2 _).mono ?_;clear hB2;rintro e w3 ⟨rfl,b3⟩;have B3:=Lib.hid b3;clear b3)
   go_wp2_with (go_at_call 33;refine (hpf2 _).mono ?_;clear hpf2;rintro e w4 ⟨rfl,rfl⟩)
   go_ret3
   exact ⟨B1.out.trans (B3.out.mono B1.out.size),rfl⟩
 ·rw [if_neg h33]
  rw [decide_eq_false h33] at hpf
  clear h33
  go_enter Tryz.func16,Tryz.ntmps16
  go_wp2_with (first
   | (go_at_call 32;refine hB.mono ?_;clear hB;rintro e w1 ⟨rfl,b1'⟩;have B1:=Lib.hid b1';clear b1')
   | (go_at_call 33;refine (hpf _).mono ?_;clear hpf;rintro e w2 ⟨rfl,rfl⟩))
  go_ret3
  exact ⟨B1.out,rfl⟩
end Go.Proofs.YtbgfankoojjejaaGreatDoor
