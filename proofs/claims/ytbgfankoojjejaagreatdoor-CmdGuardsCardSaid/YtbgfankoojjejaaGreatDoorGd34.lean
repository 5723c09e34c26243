/- The proof's texts NdAlike, NdPrS, AdWj, AdWk, AdWl: what the claim reaches of them. -/
import Derived.Test.YtbgfankoojjejaaGreatDoorGd33
import Derived.Test.YtbgfankoojjejaaGreatDoorGd32
import Derived.Test.YtbgfankoojjejaaGreatDoorGd15
import Derived.Test.YtbgfankoojjejaaGreatDoorGd06
import Derived.Deep.LoopGhost
import Derived.Deep.DeepCutAuto
import Derived.Deep.RegionWith
import Derived.Test.YtbgfankoojjejaaGreatDoorGd27
import Derived.Test.YtbgfankoojjejaaGreatDoorGd05
set_option linter.unusedSimpArgs false
set_option linter.unusedVariables false
set_option maxHeartbeats 8000000
set_option maxRecDepth 1000000
namespace Go.Proofs.YtbgfankoojjejaaGreatDoor
open Go Go.RowKit
def nemp:Nd→Bool
 | .empty=>true
 | _=>false
def ncat:Nd→Bool
 | .cat _=>true
 | _=>false
def nrep:Nd→Bool
 | .rep _ _ _=>true
 | _=>false
def nsta:Nd→Bool
 | .start=>true
 | _=>false
def nend:Nd→Bool
 | .fin=>true
 | _=>false
theorem isempty_any {F:Nat→Prop} (d:Nd) (v:Value) (w:World) (h:NdX F w d v):Calls Tryz.prog 64 #[v] w fun e w'=>e=.returned (.bool (nemp d))∧Below w.heap.size w w':=by
 rcases nd_kinds h with ⟨rfl,rfl | rfl⟩ | ⟨s,rfl,rfl⟩ | ⟨l,a,cap,rfl,rfl,hr⟩ | ⟨l,a,cap,rfl,rfl,hr⟩ | ⟨d',mn,mx,u,rfl,rfl,hu⟩ | ⟨num,d',u,rfl,rfl,hu⟩ | ⟨num,rfl,rfl⟩ | ⟨rfl,rfl⟩ | ⟨rfl,rfl⟩
 all_goals
  go_enter Tryz.func64,Tryz.ntmps64
  go_wp2_with fail
  go_ret
  exact ⟨rfl,Below.refl _ _⟩
theorem assert_cat {F:Nat→Prop} {w0:World} {d:Nd} {v:Value} (h:NdX F w0 d v):∃ a n c,∀ w,(Instr.typeAssert v 26 121 true).run Tryz.prog w=.ok (.tuple #[.agg #[.slice a n c],.bool (ncat d)]) w:=by
 rcases nd_kinds h with ⟨rfl,rfl | rfl⟩ | ⟨s,rfl,rfl⟩ | ⟨l,a,cap,rfl,rfl,hr⟩ | ⟨l,a,cap,rfl,rfl,hr⟩ | ⟨d',mn,mx,u,rfl,rfl,hu⟩ | ⟨num,d',u,rfl,rfl,hu⟩ | ⟨num,rfl,rfl⟩ | ⟨rfl,rfl⟩ | ⟨rfl,rfl⟩
 ·exact ⟨none,0,0,ta_Empty_Cat _⟩
 ·exact ⟨none,0,0,ta_nil_Cat⟩
 ·exact ⟨none,0,0,ta_One_Cat _⟩
 ·exact ⟨_,_,_,ta_Cat_Cat _⟩
 ·exact ⟨none,0,0,ta_Alt_Cat _⟩
 ·exact ⟨none,0,0,ta_Rep_Cat _⟩
 ·exact ⟨none,0,0,ta_Group_Cat _⟩
 ·exact ⟨none,0,0,ta_Back_Cat _⟩
 ·exact ⟨none,0,0,ta_Start_Cat _⟩
 ·exact ⟨none,0,0,ta_End_Cat _⟩
theorem assert_rep {F:Nat→Prop} {w0:World} {d:Nd} {v:Value} (h:NdX F w0 d v):∃ u mn mx,((∃ T q,u=.iface T q)∨u=.nilIface)∧(∀ w,(Instr.typeAssert v 26 124 true).run Tryz.prog w=.ok (.tuple #[.agg #[u,.int .i64 mn,.int .i64 mx],.bool (nrep d)]) w)∧∀ d' a b,d=.rep d' a b→mn=a∧mx=b:=by
 rcases nd_kinds h with ⟨rfl,rfl | rfl⟩ | ⟨s,rfl,rfl⟩ | ⟨l,a,cap,rfl,rfl,hr⟩ | ⟨l,a,cap,rfl,rfl,hr⟩ | ⟨d',mn,mx,u,rfl,rfl,hu⟩ | ⟨num,d',u,rfl,rfl,hu⟩ | ⟨num,rfl,rfl⟩ | ⟨rfl,rfl⟩ | ⟨rfl,rfl⟩
 ·exact ⟨.nilIface,0,0,.inr rfl,ta_Empty_Rep _,fun _ _ _ h=>by cases h⟩
 ·exact ⟨.nilIface,0,0,.inr rfl,ta_nil_Rep,fun _ _ _ h=>by cases h⟩
 ·exact ⟨.nilIface,0,0,.inr rfl,ta_One_Rep _,fun _ _ _ h=>by cases h⟩
 ·exact ⟨.nilIface,0,0,.inr rfl,ta_Cat_Rep _,fun _ _ _ h=>by cases h⟩
 ·exact ⟨.nilIface,0,0,.inr rfl,ta_Alt_Rep _,fun _ _ _ h=>by cases h⟩
 ·exact ⟨u,mn,mx,hu.elim fun _ h=>nd_shape h,ta_Rep_Rep _,fun _ _ _ h=>by cases h;exact ⟨rfl,rfl⟩⟩
 ·exact ⟨.nilIface,0,0,.inr rfl,ta_Group_Rep _,fun _ _ _ h=>by cases h⟩
 ·exact ⟨.nilIface,0,0,.inr rfl,ta_Back_Rep _,fun _ _ _ h=>by cases h⟩
 ·exact ⟨.nilIface,0,0,.inr rfl,ta_Start_Rep _,fun _ _ _ h=>by cases h⟩
 ·exact ⟨.nilIface,0,0,.inr rfl,ta_End_Rep _,fun _ _ _ h=>by cases h⟩
theorem assert_backn {F:Nat→Prop} {w0:World} {d:Nd} {v:Value} (h:NdX F w0 d v):∃ num:Int,(∀ w,(Instr.typeAssert v 26 140 true).run Tryz.prog w=.ok (.tuple #[.agg #[.int .i64 num],.bool (nbck d)]) w)∧∀ n,d=.back n→num=n:=by
 rcases nd_kinds h with ⟨rfl,rfl | rfl⟩ | ⟨s,rfl,rfl⟩ | ⟨l,a,cap,rfl,rfl,hr⟩ | ⟨l,a,cap,rfl,rfl,hr⟩ | ⟨d',mn,mx,u,rfl,rfl,hu⟩ | ⟨num,d',u,rfl,rfl,hu⟩ | ⟨num,rfl,rfl⟩ | ⟨rfl,rfl⟩ | ⟨rfl,rfl⟩
 ·exact ⟨0,ta_Empty_Back _,fun _ h=>by cases h⟩
 ·exact ⟨0,ta_nil_Back,fun _ h=>by cases h⟩
 ·exact ⟨0,ta_One_Back _,fun _ h=>by cases h⟩
 ·exact ⟨0,ta_Cat_Back _,fun _ h=>by cases h⟩
 ·exact ⟨0,ta_Alt_Back _,fun _ h=>by cases h⟩
 ·exact ⟨0,ta_Rep_Back _,fun _ h=>by cases h⟩
 ·exact ⟨0,ta_Group_Back _,fun _ h=>by cases h⟩
 ·exact ⟨num,ta_Back_Back _,fun _ h=>by cases h;rfl⟩
 ·exact ⟨0,ta_Start_Back _,fun _ h=>by cases h⟩
 ·exact ⟨0,ta_End_Back _,fun _ h=>by cases h⟩
theorem assert_start {F:Nat→Prop} {w0:World} {d:Nd} {v:Value} (h:NdX F w0 d v):∀ w,(Instr.typeAssert v 26 142 true).run Tryz.prog w=.ok (.tuple #[.agg #[],.bool (nsta d)]) w:=by
 rcases nd_kinds h with ⟨rfl,rfl | rfl⟩ | ⟨s,rfl,rfl⟩ | ⟨l,a,cap,rfl,rfl,hr⟩ | ⟨l,a,cap,rfl,rfl,hr⟩ | ⟨d',mn,mx,u,rfl,rfl,hu⟩ | ⟨num,d',u,rfl,rfl,hu⟩ | ⟨num,rfl,rfl⟩ | ⟨rfl,rfl⟩ | ⟨rfl,rfl⟩
 ·exact ta_Empty_Start _
 ·exact ta_nil_Start
 ·exact ta_One_Start _
 ·exact ta_Cat_Start _
 ·exact ta_Alt_Start _
 ·exact ta_Rep_Start _
 ·exact ta_Group_Start _
 ·exact ta_Back_Start _
 ·exact ta_Start_Start _
 ·exact ta_End_Start _
theorem assert_end {F:Nat→Prop} {w0:World} {d:Nd} {v:Value} (h:NdX F w0 d v):∀ w,(Instr.typeAssert v 26 144 true).run Tryz.prog w=.ok (.tuple #[.agg #[],.bool (nend d)]) w:=by
 rcases nd_kinds h with ⟨rfl,rfl | rfl⟩ | ⟨s,rfl,rfl⟩ | ⟨l,a,cap,rfl,rfl,hr⟩ | ⟨l,a,cap,rfl,rfl,hr⟩ | ⟨d',mn,mx,u,rfl,rfl,hu⟩ | ⟨num,d',u,rfl,rfl,hu⟩ | ⟨num,rfl,rfl⟩ | ⟨rfl,rfl⟩ | ⟨rfl,rfl⟩
 ·exact ta_Empty_End _
 ·exact ta_nil_End
 ·exact ta_One_End _
 ·exact ta_Cat_End _
 ·exact ta_Alt_End _
 ·exact ta_Rep_End _
 ·exact ta_Group_End _
 ·exact ta_Back_End _
 ·exact ta_Start_End _
 ·exact ta_End_End _
theorem head_empty (e:Nd):nhead .empty e=nemp e:=by cases e <;> rfl
theorem head_one (s:OSet) (e:Nd):nhead (.one s) e=nholds e s:=by cases e <;> first | rfl | exact decide_eq_decide.2 ⟨Eq.symm,Eq.symm⟩
theorem head_cat (l:List Nd) (e:Nd):nhead (.cat l) e=ncat e:=by cases e <;> rfl
theorem head_alt (l:List Nd) (e:Nd):nhead (.alt l) e=!inAlt e:=by cases e <;> rfl
theorem head_start (e:Nd):nhead .start e=nsta e:=by cases e <;> rfl
theorem head_end (e:Nd):nhead .fin e=nend e:=by cases e <;> rfl
theorem head_rep (d:Nd) (mn mx:Int) (e:Nd) (p q:Int) (h:∀ d' a b,e=.rep d' a b→p=a∧q=b):nhead (.rep d mn mx) e=(nrep e && (mn == p) && (mx == q)):=by
 cases e with
 | rep e a b=>obtain ⟨rfl,rfl⟩:=h _ _ _ rfl;rfl
 | _=>rfl
theorem head_group (d:Nd) (n:Int) (e:Nd) (p:Int) (h:∀ k d',e=.group k d'→p=k):nhead (.group n d) e=(ngrp e && (n == p)):=by
 cases e with
 | group k e=>obtain rfl:=h _ _ rfl;rfl
 | _=>rfl
theorem head_back (n:Int) (e:Nd) (p:Int) (h:∀ k,e=.back k→p=k):nhead (.back n) e=(nbck e && (n == p)):=by
 cases e with
 | back k=>obtain rfl:=h _ rfl;rfl
 | _=>rfl
theorem alike_any {F:Nat→Prop} (d e:Nd) (v y:Value) (w:World) (h:NdX F w d v) (k:NdX F w e y):Calls Tryz.prog 46 #[v,y] w fun r w'=>r=.returned (.bool (nhead d e))∧Below w.heap.size w w':=by
 rcases nd_kinds h with ⟨rfl,rfl | rfl⟩ | ⟨s,rfl,rfl⟩ | ⟨l,a,cap,rfl,rfl,hr⟩ | ⟨l,a,cap,rfl,rfl,hr⟩ | ⟨d',mn,mx,u,rfl,rfl,hu⟩ | ⟨num,d',u,rfl,rfl,hu⟩ | ⟨num,rfl,rfl⟩ | ⟨rfl,rfl⟩ | ⟨rfl,rfl⟩
 ·rw [head_empty]
  have hC:=isempty_any e y w k
  generalize nemp e=R at hC ⊢
  go_enter Tryz.func46,Tryz.ntmps46
  go_wp2_with (go_at_call 64;refine hC.mono ?_;rintro r w2 ⟨rfl,b2⟩)
  go_ret
  exact ⟨rfl,b2⟩
 ·rw [head_empty]
  have hC:=isempty_any e y w k
  generalize nemp e=R at hC ⊢
  go_enter Tryz.func46,Tryz.ntmps46
  go_wp2_with (go_at_call 64;refine hC.mono ?_;rintro r w2 ⟨rfl,b2⟩)
  go_ret
  exact ⟨rfl,b2⟩
 ·rw [head_one]
  have hB:=(Below.refl w.heap.size w).alloc (Nat.le_refl _) (.cells #[.int .u64 (ow s 0),.int .u64 (ow s 1),.int .u64 (ow s 2),.int .u64 (ow s 3)] 134)
  have hC:=holds_any e y s _ (k.below hB)
  generalize nholds e s=R at hC ⊢
  go_enter Tryz.func46,Tryz.ntmps46
  go_wp2_with (go_at_call 65;refine hC.mono ?_;rintro r w2 ⟨rfl,b2⟩)
  go_ret
  exact ⟨rfl,hB.trans (b2.mono hB.size)⟩
 ·rw [head_cat]
  obtain ⟨a2,n2,c2,hTA⟩:=assert_cat k
  generalize ncat e=R at hTA ⊢
  go_enter Tryz.func46,Tryz.ntmps46
  go_wp2_with fail
  go_ret
  refine ⟨rfl,?_⟩
  repeat (first | (with_reducible exact hW) | (with_reducible exact Below.refl _ _) | refine Below.drew ?_ | refine Below.setCell ?_ (by first | omega | (simp;omega) | simp) _ | refine Below.alloc ?_ (by first | omega | (simp;omega) | simp) _)
 ·rw [head_alt]
  have hB:=(Below.refl w.heap.size w).alloc (Nat.le_refl _) (.cells #[.slice a l.length cap] 122)
  have hC:=isalt_any e y _ (k.below hB)
  generalize (!inAlt e)=R at hC ⊢
  go_enter Tryz.func46,Tryz.ntmps46
  go_wp2_with (go_at_call 66;refine hC.mono ?_;rintro r w2 ⟨rfl,b2⟩)
  go_ret
  exact ⟨rfl,hB.trans (b2.mono hB.size)⟩
 ·obtain ⟨u2,p,q,hu2,hTA,hpq⟩:=assert_rep k
  rw [head_rep d' mn mx e p q hpq]
  have hu1:(∃ T q,u=.iface T q)∨u=.nilIface:=hu.elim fun _ h=>nd_shape h
  generalize nrep e=R at hTA ⊢
  clear hpq k h hu
  rcases hu1 with ⟨T,q1,rfl⟩ | rfl
  all_goals
   rcases hu2 with ⟨T2,q2,rfl⟩ | rfl
   all_goals
    cases R
    ·go_enter Tryz.func46,Tryz.ntmps46
     go_wp2_with fail
     go_ret
     refine ⟨rfl,?_⟩
     repeat (first | (with_reducible exact hW) | (with_reducible exact Below.refl _ _) | refine Below.drew ?_ | refine Below.setCell ?_ (by first | omega | (simp;omega) | simp) _ | refine Below.alloc ?_ (by first | omega | (simp;omega) | simp) _)
    ·cases hE:mn == p
     ·go_enter Tryz.func46,Tryz.ntmps46
      go_wp2_with fail
      go_ret
      refine ⟨rfl,?_⟩
      repeat (first | (with_reducible exact hW) | (with_reducible exact Below.refl _ _) | refine Below.drew ?_ | refine Below.setCell ?_ (by first | omega | (simp;omega) | simp) _ | refine Below.alloc ?_ (by first | omega | (simp;omega) | simp) _)
     ·go_enter Tryz.func46,Tryz.ntmps46
      go_wp2_with fail
      go_ret
      refine ⟨rfl,?_⟩
      repeat (first | (with_reducible exact hW) | (with_reducible exact Below.refl _ _) | refine Below.drew ?_ | refine Below.setCell ?_ (by first | omega | (simp;omega) | simp) _ | refine Below.alloc ?_ (by first | omega | (simp;omega) | simp) _)
 ·obtain ⟨p,u2,hu2,hTA,hpq⟩:=assert_group k
  rw [head_group d' num e p hpq]
  have hu1:(∃ T q,u=.iface T q)∨u=.nilIface:=hu.elim fun _ h=>nd_shape h
  generalize ngrp e=R at hTA ⊢
  clear hpq k h hu
  rcases hu1 with ⟨T,q1,rfl⟩ | rfl
  all_goals
   rcases hu2 with ⟨T2,q2,rfl⟩ | rfl
   all_goals
    cases R
    all_goals
     go_enter Tryz.func46,Tryz.ntmps46
     go_wp2_with fail
     go_ret
     refine ⟨rfl,?_⟩
     repeat (first | (with_reducible exact hW) | (with_reducible exact Below.refl _ _) | refine Below.drew ?_ | refine Below.setCell ?_ (by first | omega | (simp;omega) | simp) _ | refine Below.alloc ?_ (by first | omega | (simp;omega) | simp) _)
 ·obtain ⟨p,hTA,hpq⟩:=assert_backn k
  rw [head_back num e p hpq]
  generalize nbck e=R at hTA ⊢
  clear hpq k h
  cases R
  all_goals
   go_enter Tryz.func46,Tryz.ntmps46
   go_wp2_with fail
   go_ret
   refine ⟨rfl,?_⟩
   repeat (first | (with_reducible exact hW) | (with_reducible exact Below.refl _ _) | refine Below.drew ?_ | refine Below.setCell ?_ (by first | omega | (simp;omega) | simp) _ | refine Below.alloc ?_ (by first | omega | (simp;omega) | simp) _)
 ·have hTA:=assert_start k
  rw [head_start]
  generalize nsta e=R at hTA ⊢
  go_enter Tryz.func46,Tryz.ntmps46
  go_wp2_with fail
  go_ret
  refine ⟨rfl,?_⟩
  repeat (first | (with_reducible exact hW) | (with_reducible exact Below.refl _ _) | refine Below.drew ?_ | refine Below.setCell ?_ (by first | omega | (simp;omega) | simp) _ | refine Below.alloc ?_ (by first | omega | (simp;omega) | simp) _)
 ·have hTA:=assert_end k
  rw [head_end]
  generalize nend e=R at hTA ⊢
  go_enter Tryz.func46,Tryz.ntmps46
  go_wp2_with fail
  go_ret
  refine ⟨rfl,?_⟩
  repeat (first | (with_reducible exact hW) | (with_reducible exact Below.refl _ _) | refine Below.drew ?_ | refine Below.setCell ?_ (by first | omega | (simp;omega) | simp) _ | refine Below.alloc ?_ (by first | omega | (simp;omega) | simp) _)
end Go.Proofs.YtbgfankoojjejaaGreatDoor
namespace Go.Proofs.YtbgfankoojjejaaGreatDoor
open Go Go.RowKit
def psame (T:List (Nd × Nd)):Bool:=T.all (fun p=>nsame p.1 p.2)
def psize (T:List (Nd × Nd)):Nat:=nsizes (T.map Prod.fst)
theorem psame_snoc (T:List (Nd × Nd)) (d e:Nd):psame (T++[(d,e)])=(psame T && nsame d e):=by unfold psame;rw [List.all_append];simp
theorem psame_append (T U:List (Nd × Nd)):psame (T++U)=(psame T && psame U):=by unfold psame;rw [List.all_append]
theorem nsames_zip (l m:List Nd) (h:l.length=m.length):nsames l m=psame (l.zip m):=by
 induction l generalizing m with
 | nil=>
  cases m with
  | nil=>rfl
  | cons e es=>simp at h
 | cons d ds ih=>
  cases m with
  | nil=>simp at h
  | cons e es=>rw [nsames,ih es (by simpa using h)];rfl
theorem psize_append (T U:List (Nd × Nd)):psize (T++U)=psize T+psize U:=by unfold psize;rw [List.map_append,nsizes_append]
theorem psize_one (d e:Nd):psize [(d,e)]=nsize d:=by simp [psize,nsizes]
theorem psize_zip (l m:List Nd) (h:l.length=m.length):psize (l.zip m)=nsizes l:=by unfold psize;rw [List.map_fst_zip (by omega)]
theorem psize_len (T:List (Nd × Nd)):T.length≤psize T:=by have:=nsizes_length (T.map Prod.fst);unfold psize;simpa using this
theorem zip_take (l m:List Nd) (k:Nat) (h1:k < l.length) (h2:k < m.length):(l.zip m).take (k+1)=(l.zip m).take k++[(l[k],m[k])]:=by
 rw [List.take_succ_eq_append_getElem (by rw [List.length_zip];omega),List.getElem_zip]
def Off (sv:Value) (b:Nat):Prop:=sv.ownBlock≠some b
def PrC (G:Nat→Prop) (W:World):List (Nd × Nd)→List Value→Prop
 | [],us=>us=[]
 | x :: s,us=>∃ v y us',us=v :: y :: us'∧NdX G W x.1 v∧NdX G W x.2 y∧PrC G W s us'
theorem PrC.len {G:Nat→Prop} {W:World}:∀ {s:List (Nd × Nd)} {us:List Value},PrC G W s us→us.length=s.length * 2
 | [],us,h=>by rw [show us=[] from h];rfl
 | x :: s,us,⟨v,y,us',h,_,_,h4⟩=>by rw [h];have:=PrC.len h4;simp [this];omega
theorem PrC.keep {F G:Nat→Prop} {W W':World} (hs:W.heap.size≤W'.heap.size) (hF:∀ b,F b→b < W.heap.size→G b∧∀ o,W'.cell? ⟨b,o,none⟩=W.cell? ⟨b,o,none⟩) :
  ∀ {s:List (Nd × Nd)} {us:List Value},PrC F W s us→PrC G W' s us
 | [],_,h=>h
 | _ :: _,_,⟨v,y,us',h,h2,h3,h4⟩=>⟨v,y,us',h,h2.keep hs hF,h3.keep hs hF,PrC.keep hs hF h4⟩
theorem PrC.snoc {G:Nat→Prop} {W:World} {d e:Nd} {v y:Value} (hd:NdX G W d v) (he:NdX G W e y) :
  ∀ {s:List (Nd × Nd)} {us:List Value},PrC G W s us→PrC G W (s++[(d,e)]) (us++[v,y])
 | [],us,h=>by obtain rfl:us=[]:=h;exact ⟨v,y,[],rfl,hd,he,rfl⟩
 | _ :: _,_,⟨v',y',us',h,h2,h3,h4⟩=>⟨v',y',_,by rw [h];rfl,h2,h3,PrC.snoc hd he h4⟩
theorem PrC.last {G:Nat→Prop} {W:World} {d e:Nd} :
  ∀ {s:List (Nd × Nd)} {us:List Value},PrC G W (s++[(d,e)]) us→∃ us' v y,us=us'++[v,y]∧NdX G W d v∧NdX G W e y∧PrC G W s us'
 | [],us,⟨v,y,us',h,h2,h3,h4⟩=>by obtain rfl:us'=[]:=h4;exact ⟨[],v,y,h,h2,h3,rfl⟩
 | x :: s,us,⟨v',y',us',h,h2,h3,h4⟩=>by
  obtain ⟨us2,v,y,e,g2,g3,g4⟩:=PrC.last h4
  exact ⟨v' :: y' :: us2,v,y,by rw [h,e];rfl,g2,g3,v',y',us2,rfl,h2,h3,g4⟩
structure Prs (base:Nat) (W:World) (T:List (Nd × Nd)) (sv:Value) (us:List Value):Prop where
 row:W.ownsRow base 86 2 sv T.length us
 cells:PrC (Off sv) W T us
theorem off_below {sv:Value} {W W':World} (hb:Below W.heap.size W W'):∀ b,Off sv b→b < W.heap.size→Off sv b∧∀ o,W'.cell? ⟨b,o,none⟩=W.cell? ⟨b,o,none⟩:=
 fun b hf hlt=>⟨hf,fun o=>hb.cell (p:=⟨b,o,none⟩) hlt⟩
theorem off_grown {sv v':Value} {W W':World} (hg:W.grownBy W' sv.ownBlock) (hat:v'.ownBlock=sv.ownBlock∨v'.ownBlock=some W.heap.size):∀ b,Off sv b→b < W.heap.size→Off v' b∧∀ o,W'.cell? ⟨b,o,none⟩=W.cell? ⟨b,o,none⟩:=by
 intro b hf hlt
 refine ⟨?_,fun o=>World.cell?_of_block (w:=W) (a:=⟨b,o,none⟩) (hg.block b hlt (fun e=>hf e.symm))⟩
 rcases hat with e | e
 ·unfold Off;rw [e];exact hf
 ·unfold Off;rw [e];intro e2;injection e2 with e2;omega
theorem Prs.mem {base:Nat} {W W':World} {T:List (Nd × Nd)} {sv:Value} {us:List Value} (h:Prs base W T sv us) (hb:Below W.heap.size W W'):Prs base W' T sv us:=
 ⟨own_row_same h.row (fun g hg=>hb.block _ (h.row.lt g hg).2),h.cells.keep hb.size (off_below hb)⟩
theorem Prs.push {base:Nat} {W W':World} {T:List (Nd × Nd)} {sv v' v y:Value} {us:List Value} {d e:Nd} (h:Prs base W T sv us) (hd:NdX (Off sv) W d v) (he:NdX (Off sv) W e y)
  (hown:W'.ownsRow base 86 2 v' (T.length+1) (us++[v,y])) (hg:W.grownBy W' sv.ownBlock) (hat:v'.ownBlock=sv.ownBlock∨v'.ownBlock=some W.heap.size):Prs base W' (T++[(d,e)]) v' (us++[v,y]):=by
 have hk:=off_grown hg hat
 exact ⟨by rw [List.length_append];exact hown,PrC.snoc (hd.keep hg.size hk) (he.keep hg.size hk) (h.cells.keep hg.size hk)⟩
theorem Prs.top {base:Nat} {W:World} {T:List (Nd × Nd)} {sv:Value} {us:List Value} {d e:Nd} (h:Prs base W (T++[(d,e)]) sv us) :
  ∃ g cap v y us',sv=.slice (some ⟨g,0,none⟩) (T.length+1) cap∧T.length+1≤cap∧base≤g∧g < W.heap.size∧W.cell? ⟨g,T.length * 2,none⟩=some v∧W.cell? ⟨g,T.length * 2+1,none⟩=some y∧NdX (Off sv) W d v∧NdX (Off sv) W e y∧Prs base W T (.slice (some ⟨g,0,none⟩) T.length cap) us':=by
 have hrow:=h.row
 rw [List.length_append] at hrow
 obtain ⟨g,cap,rfl⟩:=ownsRow_succ hrow
 obtain ⟨us',v,y,rfl,h1,h2,h3⟩:=h.cells.last
 have hl:=h3.len
 have hg:=hrow.lt g rfl
 refine ⟨g,cap,v,y,us',rfl,row_cap hrow,hg.1,hg.2,?_,?_,h1,h2,ownsRow_pop hl hrow,h3⟩
 ·rw [hrow.cellAt (T.length * 2) (show T.length * 2 < (T.length+1) * 2 by omega),←hl,List.getElem?_append_right (Nat.le_refl _)]
  simp
 ·rw [hrow.cellAt (T.length * 2+1) (show T.length * 2+1 < (T.length+1) * 2 by omega),←hl,List.getElem?_append_right (by omega)]
  rw [show us'.length+1 - us'.length=1 by omega]
  rfl
theorem pair_info:∃ i,Tryz.prog.info? 86=some i∧i.zero=some (.agg #[.nilIface,.nilIface])∧i.size=2∧i.bytes=32:=by
 have h:(Tryz.prog.info? 86).map (fun i=>(i.zero,i.size,i.bytes))=some (some (.agg #[.nilIface,.nilIface]),2,32):=by kernel_rfl
 obtain ⟨i,hi,he⟩:=Option.map_eq_some_iff.1 h
 injection he with h1 h2
 injection h2 with h2 h3
 exact ⟨i,hi,h1,h2,h3⟩
end Go.Proofs.YtbgfankoojjejaaGreatDoor
namespace Go.Proofs.YtbgfankoojjejaaGreatDoor
open Go Go.RowKit
theorem ndrw_off {g n n' cap b0:Nat} {w:World} {l:List Nd} {a:Option Addr} {c:Nat} (h:NdRw (fun b=>Off (.slice (some ⟨g,0,none⟩) n cap) b∨b0≤b) w l a c) (hg:g < b0):NdRw (Off (.slice (some ⟨g,0,none⟩) n' cap)) w l a c:=
 h.keep (Nat.le_refl _) (fun b hb _=>⟨Or.elim hb (fun h=>h) (fun h e=>by simp [Value.ownBlock] at e;omega),fun _=>rfl⟩)
theorem psame_any (d e:Nd) (v y:Value) (w:World) (h:NdX (fun k=>k < w.heap.size) w d v) (k:NdX (fun k=>k < w.heap.size) w e y) (hsz:nsize d≤4000000) :
  Calls Tryz.prog 26 #[v,y] w fun r w'=>r=.returned (.bool (nsame d e))∧Below w.heap.size w w':=by
 obtain ⟨i0,hi,hz0,hz1,hz2⟩:=pair_info
 obtain ⟨R,hR⟩:∃ R,R=nsame d e:=⟨_,rfl⟩
 rw [←hR]
 have HR:=Lib.hid hR
 clear hR
 have hs1:(∃ T q,v=.iface T q)∨v=.nilIface:=h.elim fun _ h=>nd_shape h
 have hs2:(∃ T q,y=.iface T q)∨y=.nilIface:=k.elim fun _ h=>nd_shape h
 go_enter Tryz.func26,Tryz.ntmps26
 go_upto_region 1 with fail
 go_cut [5] from 11 (fun tv wx=>∃ us,Prs w.heap.size wx [(d,e)] tv us∧Below w.heap.size w wx)
 case first=>
  have hP:∀ (v y:Value),NdX (fun k=>k < w.heap.size) w d v→NdX (fun k=>k < w.heap.size) w e y→Prs w.heap.size (w.alloc (.cells #[v,y] 86)) [(d,e)] (.slice (some ⟨w.heap.size,0,none⟩) 1 1) [v,y]:=by
   intro v y h k
   have hB:=(Below.refl w.heap.size w).alloc (Nat.le_refl _) (.cells #[v,y] 86)
   have hk:∀ b,b < w.heap.size→b < w.heap.size→Off (.slice (some ⟨w.heap.size,0,none⟩) 1 1) b∧∀ o,(w.alloc (.cells #[v,y] 86)).cell? ⟨b,o,none⟩=w.cell? ⟨b,o,none⟩:=fun b hb _=>
    ⟨fun e2=>by simp [Value.ownBlock] at e2;omega,fun o=>hB.cell (p:=⟨b,o,none⟩) hb⟩
   exact ⟨World.ownsRow_lit w #[v,y] 1 (Nat.le_refl _) (by decide) rfl,v,y,[],rfl,h.keep hB.size hk,k.keep hB.size hk,rfl⟩
  have hP2:=hP v y h k
  clear hP h k
  rcases hs1 with ⟨T1,q1,rfl⟩ | rfl
  all_goals
   rcases hs2 with ⟨T2,q2,rfl⟩ | rfl
   all_goals
    go_wp2_with fail
    go_meet
    exact ⟨_,hP2,(Below.refl w.heap.size w).alloc (Nat.le_refl _) _⟩
 case rest=>
  clear hs1 hs2 h k
  obtain ⟨us0,hP0,hW0⟩:=hcut
  go_wp2_with fail
  go_loopg [5] (psize [(d,e)]+1) (fun gk tv wr=>∃ T us pv,pv=tv∧Prs w.heap.size wr T pv us∧R=psame T∧psize T+1≤gk∧psize T≤4000000∧Below w.heap.size w wr)
  case atStart=>exact ⟨_,us0,_,rfl,hP0,by rw [HR.out];simp [psame],Nat.le_refl _,by rw [psize_one];exact hsz,hW0⟩
  case round=>
   obtain ⟨T,us,pv,hpv,hP,hRT,hgk,hsT,hW⟩:=hrel
   subst hpv
   clear hP0 hW0
   rcases List.eq_nil_or_concat T with rfl | ⟨T,⟨d1,e1⟩,rfl⟩
   ·obtain ⟨a0,c0,rfl⟩:∃ a c,pv=.slice a 0 c:=by
     rcases hP.row.2 with ⟨e,_⟩ | ⟨g,cap,cur,e,_⟩
     ·exact ⟨_,_,e⟩
     ·exact ⟨_,_,e⟩
    have Hr:=Lib.hid hRT
    clear hRT hgk hsT
    go_wp2_with fail
    go_ret
    exact ⟨by rw [Hr.out];rfl,hW⟩
   ·rw [List.concat_eq_append] at hP hRT hgk hsT
    have hlT:=psize_len T
    rw [psize_append,psize_one] at hgk hsT
    rw [psame_snoc,nsame_kids] at hRT
    have Hr:=Lib.hid hRT
    have Hg:=Lib.hid hgk
    have Hs:=Lib.hid hsT
    have Hk:=Lib.hid (nsize_kids d1)
    obtain ⟨g,cap,va,vb,us',rfl,hcap,hbg,hgl,q0,q1,hd1,he1,hP1⟩:=hP.top
    have Wn:IntKind.i64.wrap ((T.length:Int)+1 - 1)=(T.length:Int):=by rw [IntWalk.i64_in _ (by omega)];omega
    have hcp2:(T.length:Int)≤(cap:Int):=by omega
    have hcp3:¬ cap=0:=by omega
    have hT8:T.length≤4000000:=by omega
    clear hRT hgk hsT hP hlT
    go_upto_region 3 with fail
    go_cut [6] from 18 (fun x wx=>∃ p,x=.pointer (some ⟨p,0,none⟩)∧wx.cell? ⟨p,0,none⟩=some va∧wx.cell? ⟨p,1,none⟩=some vb∧p < wx.heap.size∧Below wr.heap.size wr wx)
    case first=>
     have h1:(∃ T q,va=.iface T q)∨va=.nilIface:=hd1.elim fun _ h=>nd_shape h
     have h2:(∃ T q,vb=.iface T q)∨vb=.nilIface:=he1.elim fun _ h=>nd_shape h
     clear hd1 he1 hP1
     rcases h1 with ⟨T1,q1,rfl⟩ | rfl
     all_goals
      rcases h2 with ⟨T2,q2,rfl⟩ | rfl
      all_goals
       go_wp2_with fail
       go_meet
       have hbk:=fun a b=>Blk.new wr #[a,b] 86 _ rfl
       exact ⟨_,rfl,((hbk _ _).cell 0).trans rfl,((hbk _ _).cell 1).trans rfl,(hbk _ _).lt,(Below.refl wr.heap.size wr).alloc (Nat.le_refl _) _⟩
    case rest=>
     obtain ⟨p,rfl,p0,p1,hpl,hV⟩:=hcut
     clear q0 q1
     replace hd1:=hd1.below hV
     replace he1:=he1.below hV
     replace hP1:=hP1.mem hV
     replace hW:=hW.trans (hV.mono hW.size)
     have hgl2:g < wc.heap.size:=Nat.lt_of_lt_of_le hgl hV.size
     have hI1:=fun w' (hb:Below wc.heap.size wc w')=>inner_any d1 va w' (hd1.below hb)
     have hI2:=fun w' (hb:Below wc.heap.size wc w')=>inner_any e1 vb w' (he1.below hb)
     have hAl:=fun w' (hb:Below wc.heap.size wc w')=>alike_any d1 e1 va vb w' (hd1.below hb) (he1.below hb)
     clear hV
     generalize nkids d1=l at hI1 Hr Hk
     generalize nkids e1=m at hI2 Hr
     generalize nhead d1 e1=hh at hAl Hr
     clear hd1 he1
     go_upto_region 5 with fail
     go_cut [7,8] from 29 (fun x z wx=>∃ a1 c1 a2 c2,x=.slice a1 l.length c1∧z=.slice a2 m.length c2∧NdRw (Off (.slice (some ⟨g,0,none⟩) T.length cap)) wx l a1 c1∧NdRw (Off (.slice (some ⟨g,0,none⟩) T.length cap)) wx m a2 c2∧Below wc.heap.size wc wx)
     case first=>
      clear hAl
      go_region_with (first
       | (go_at_call_of 45 va;refine (hI1 _ (by first | exact hX9 | exact Below.drew (Below.refl _ _))).mono ?_;rintro r w8 ⟨a1,c1,rfl,hR1,b8⟩;have hX8:Below wc.heap.size wc w8:=(by first | exact hX9.trans (b8.mono hX9.size) | exact (Below.drew (Below.refl _ _)).trans b8);have k80:=(hX8.cell (p:=⟨p,0,none⟩) hpl).trans p0;have k81:=(hX8.cell (p:=⟨p,1,none⟩) hpl).trans p1;replace hR1:=ndrw_off (n':=T.length) hR1 (by first | exact Nat.lt_of_lt_of_le hgl2 hX9.size | exact hgl2);(try have hR2':=hR2.below b8))
       | (go_at_call_of 45 vb;refine (hI2 _ (by first | exact hX8 | exact Below.drew (Below.refl _ _))).mono ?_;rintro r w9 ⟨a2,c2,rfl,hR2,b9⟩;have hX9:Below wc.heap.size wc w9:=(by first | exact hX8.trans (b9.mono hX8.size) | exact (Below.drew (Below.refl _ _)).trans b9);have k90:=(hX9.cell (p:=⟨p,0,none⟩) hpl).trans p0;have k91:=(hX9.cell (p:=⟨p,1,none⟩) hpl).trans p1;replace hR2:=ndrw_off (n':=T.length) hR2 (by first | exact Nat.lt_of_lt_of_le hgl2 hX8.size | exact hgl2);(try have hR1':=hR1.below b9)))
      all_goals go_wp2_with fail
      all_goals go_meet
      all_goals first | exact ⟨a1,c1,a2,c2,rfl,rfl,hR1',hR2,hX9⟩ | exact ⟨a1,c1,a2,c2,rfl,rfl,hR1,hR2',hX8⟩
     case rest=>
      obtain ⟨a1,c1,a2,c2,rfl,rfl,hR1,hR2,hV⟩:=hcut
      have hA2:=hAl _ hV
      clear hAl hI1 hI2
      have k0:=(hV.cell (p:=⟨p,0,none⟩) hpl).trans p0
      have k1:=(hV.cell (p:=⟨p,1,none⟩) hpl).trans p1
      clear p0 p1
      replace hP1:=hP1.mem hV
      replace hW:=hW.trans (hV.mono hW.size)
      clear hV
      cases hh
      ·have Hf:=Lib.hid (show R=false by rw [Hr.out,Bool.false_and,Bool.and_false])
       go_wp2_with (go_at_call 46;refine hA2.mono ?_;rintro r w3 ⟨rfl,b3⟩)
       go_ret
       exact ⟨nd_ret_bool Hf.out.symm,hW.trans (b3.mono hW.size)⟩
      ·by_cases hl:l.length=m.length
       ·have e1:((l.length:Int) != (m.length:Int))=false:=by simp [hl]
        have Hl:=Lib.hid hl
        have HRn:=Lib.hid (show R=psame (T++l.zip m) by rw [Hr.out,psame_append,nsames_zip _ _ hl];rfl)
        have Hgn:=Lib.hid (show psize (T++l.zip m)+1 < gk by have h1:=Hg.out;have h2:=Hk.out;rw [psize_append,psize_zip _ _ hl];omega)
        have Hsn:=Lib.hid (show psize (T++l.zip m)≤4000000 by have h1:=Hs.out;have h2:=Hk.out;rw [psize_append,psize_zip _ _ hl];omega)
        have hbd:T.length+l.length+1≤4000000:=by have h1:=Hs.out;have h2:=Hk.out;have h3:=psize_len T;have h4:=nsizes_length l;omega
        have hq1:=hR1.1
        have hq2:=hR1.2.1
        have hq3:=hR2.1
        have hq4:=hR2.2.1
        unfold maxLen at hq2 hq4
        clear hl Hr Hg Hs Hk HR
        go_wp2_with (go_at_call 46;refine hA2.mono ?_;rintro r w3 ⟨rfl,b3⟩)
        replace hP1:=hP1.mem b3
        replace hR1:=hR1.below b3
        replace hR2:=hR2.below b3
        replace hW:=hW.trans (b3.mono hW.size)
        clear b3 hA2 k0 k1
        go_loopw [5,50] (fun tv i wq=>∃ (k:Nat) (us2:List Value) (pv:Value),k≤l.length∧i=.int .i64 k∧pv=tv∧Prs w.heap.size wq (T++(l.zip m).take k) pv us2∧NdRw (Off pv) wq l a1 c1∧NdRw (Off pv) wq m a2 c2∧Below w.heap.size w wq) (fun _ i _=>l.length - (intOf i).toNat)
        case atStart=>exact ⟨0,us',_,Nat.zero_le _,rfl,rfl,by rw [List.take_zero,List.append_nil];exact hP1,hR1,hR2,hW⟩
        case round=>
         clear hP1 hR1 hR2 hW
         obtain ⟨k,us2,pv,hk,rfl,hpv,hP,hR1,hR2,hW⟩:=hrel
         subst hpv
         by_cases hlt:k < l.length
         ·have hkm:k < m.length:=by have:=Hl.out;omega
          obtain ⟨b1,o1,rfl,_,hb1,hx1⟩:=hR1.2.2 (by omega)
          obtain ⟨b2,o2,rfl,_,hb2,hx2⟩:=hR2.2.2 (by omega)
          obtain ⟨u1,hu1,hn1⟩:=hx1 k hlt
          obtain ⟨u2,hu2,hn2⟩:=hx2 k hkm
          have Hz:=Lib.hid (zip_take l m k hlt hkm)
          have hlen2:(T++(l.zip m).take k).length=T.length+k:=by have:=Hl.out;rw [List.length_append,List.length_take,List.length_zip];omega
          have hA:=fun o=>(Below.refl wr.heap.size wr).alloc (Nat.le_refl _) o
          have hPd:=fun o=>hP.mem (hA o)
          have hrow:=fun o=>(hPd o).row
          rw [hlen2] at hrow
          have hm1:T.length+k+1≤maxLen:=by unfold maxLen;omega
          have hm2:(T.length+k+1) * 32≤140737488355328:=by omega
          clear hx1 hx2
          have hPush:∀ (o:Obj) (w4:World) (v4:Value),w4.ownsRow w.heap.size 86 2 v4 (T.length+k+1) (us2++[u1,u2])→(wr.alloc o).grownBy w4 pv.ownBlock→(v4.ownBlock=pv.ownBlock∨v4.ownBlock=some (wr.alloc o).heap.size)→
            Prs w.heap.size w4 (T++(l.zip m).take (k+1)) v4 (us2++[u1,u2])∧NdRw (Off v4) w4 l (some ⟨b1,o1,none⟩) c1∧NdRw (Off v4) w4 m (some ⟨b2,o2,none⟩) c2∧Below w.heap.size w w4:=by
           intro o w4 v4 hown hgrow hat
           have hkp:=off_grown hgrow hat
           refine ⟨?_,(hR1.below (hA o)).keep hgrow.size hkp,(hR2.below (hA o)).keep hgrow.size hkp,(hW.trans ((hA o).mono hW.size)).grown hgrow (Nat.le_trans hW.size (hA o).size) (fun k hk=>(hP.row.lt k hk).1)⟩
           rw [Hz.out,←List.append_assoc]
           exact (hPd o).push (hn1.below (hA o)) (hn2.below (hA o)) (by rw [hlen2];exact hown) hgrow hat
          have h1:(∃ T q,u1=.iface T q)∨u1=.nilIface:=hn1.elim fun _ h=>nd_shape h
          have h2:(∃ T q,u2=.iface T q)∨u2=.nilIface:=hn2.elim fun _ h=>nd_shape h
          have hbase:=fun o=>Nat.le_trans hW.size (hA o).size
          clear hPd hR1 hR2 hW hP hn1 hn2 hA hlen2
          rcases h1 with ⟨T1,r1,rfl⟩ | rfl
          all_goals
           rcases h2 with ⟨T2,r2,rfl⟩ | rfl
           all_goals
            go_wp2_with (at_builtin;refine wpList_append_any _ rfl _ _ 87 rfl w.heap.size 86 i0 (.agg #[.nilIface,.nilIface]) 2 32 Tryz.underlying87 hi hz0 hz1 hz2 rfl (by decide) _ _ _ rfl (hrow _) (some ⟨wr.heap.size,0,none⟩) 1 1 [_,_] rfl rfl (fun _=>⟨_,rfl,cell_two_new _ _ _ _⟩) (by intro y hy;simp at hy;rcases hy with rfl | rfl <;> rfl) hm1 hm2 (hbase _) ?_;intro v4 w4 hown hgrow hat)
            obtain ⟨g1,g2,g3,g4⟩:=hPush _ _ _ hown hgrow hat
            clear hrow hbase hPush hown hgrow hat
            go_roundw
            case rel=>exact ⟨k+1,_,_,by omega,by go_num,rfl,g1,g2,g3,g4⟩
            case measure=>simp [intOf];omega
         ·obtain rfl:k=l.length:=by omega
          have hz2:(l.zip m).take l.length=l.zip m:=List.take_of_length_le (by rw [List.length_zip];omega)
          rw [hz2] at hP
          go_wp2_with fail
          go_roundg (psize (T++l.zip m)+1)
          case measure=>exact Hgn.out
          case rel=>exact ⟨_,_,_,rfl,hP,HRn.out,Nat.le_refl _,Hsn.out,hW⟩
       ·have e1:((l.length:Int) != (m.length:Int))=true:=by simp;omega
        have Hf:=Lib.hid (show R=false by rw [Hr.out,nsames_len _ _ hl,Bool.and_false,Bool.and_false])
        clear hl
        go_wp2_with (go_at_call 46;refine hA2.mono ?_;rintro r w3 ⟨rfl,b3⟩)
        go_ret
        exact ⟨nd_ret_bool Hf.out.symm,hW.trans (b3.mono hW.size)⟩
end Go.Proofs.YtbgfankoojjejaaGreatDoor
namespace Go.Proofs.YtbgfankoojjejaaGreatDoor
open Go Go.RowKit
def adSame (x y:Adr):Bool:=
 if x.kind=y.kind then (if x.kind=1∨x.kind=4 then decide (x.line=y.line) else if x.kind=3 then (match x.tree,y.tree with | some d,some e=>nsame d e | _,_=>true) else true) else false
def adSameI (x y:Adr) (R:Bool):Bool:=
 if x.kind=y.kind then (if x.kind=1∨x.kind=4 then R else if x.kind=3 then (match x.tree,y.tree with | some d,some e=>nsame d e | _,_=>true) else true) else false
theorem adSameI_line (x y:Adr):adSameI x y (decide ((x.line:Int)=(y.line:Int)))=adSame x y:=by
 unfold adSameI adSame
 rw [show decide ((x.line:Int)=(y.line:Int))=decide (x.line=y.line) from decide_eq_decide.2 (by omega)]
theorem adSame_refl (x:Adr):adSame x x=true:=by
 unfold adSame
 rw [if_pos rfl]
 split
 ·simp
 ·split
  ·cases x.tree with
   | none=>rfl
   | some d=>exact nsame_refl d
  ·rfl
def AdFine (x:Adr):Prop:=x.kind=3→∃ d,x.tree=some d∧nsize d≤4000000
theorem psameI_any (x y:Adr) (lx ly:Int) (sx sy:ByteArray) (tx ty:Value) (w:World) (hx:TrO (fun b=>b < w.heap.size) w x.tree tx) (hy:TrO (fun b=>b < w.heap.size) w y.tree ty) (fx:AdFine x) (fy:AdFine y) :
  Calls Tryz.prog 25 #[.agg #[.int .i64 (x.kind:Int),.int .i64 lx,.string sx,tx],.agg #[.int .i64 (y.kind:Int),.int .i64 ly,.string sy,ty]] w fun e w'=>e=.returned (.bool (adSameI x y (decide (lx=ly))))∧Below w.heap.size w w':=by
 have hw2:∀ W2,Below w.heap.size w W2→∀ {t v},TrO (fun b=>b < w.heap.size) w t v→TrO (fun b=>b < W2.heap.size) W2 t v:=fun W2 hb t v h=>TrO.keep hb.size (fun b hb1 hl=>⟨Nat.lt_of_lt_of_le hl hb.size,fun o=>hb.cell (p:=⟨b,o,none⟩) hl⟩) h
 have hX:=Blk.new w #[.int .i64 (x.kind:Int),.int .i64 lx,.string sx,tx] 28 _ rfl
 have hb1:=(Below.refl w.heap.size w).alloc (Nat.le_refl _) (.cells #[.int .i64 (x.kind:Int),.int .i64 lx,.string sx,tx] 28)
 have hs1:=World.size_alloc w (.cells #[.int .i64 (x.kind:Int),.int .i64 lx,.string sx,tx] 28)
 obtain ⟨W1,hW1⟩:∃ W1,w.alloc (.cells #[.int .i64 (x.kind:Int),.int .i64 lx,.string sx,tx] 28)=W1:=⟨_,rfl⟩
 rw [hW1] at hX hb1 hs1
 have hY:=Blk.new W1 #[.int .i64 (y.kind:Int),.int .i64 ly,.string sy,ty] 28 _ rfl
 have hb2:=hb1.alloc hb1.size (.cells #[.int .i64 (y.kind:Int),.int .i64 ly,.string sy,ty] 28)
 replace hX:=hX.alloc (.cells #[.int .i64 (y.kind:Int),.int .i64 ly,.string sy,ty] 28)
 obtain ⟨W2,hW2⟩:∃ W2,W1.alloc (.cells #[.int .i64 (y.kind:Int),.int .i64 ly,.string sy,ty] 28)=W2:=⟨_,rfl⟩
 rw [hW2] at hX hY hb2
 obtain ⟨p,hp⟩:∃ p,W1.heap.size=p:=⟨_,rfl⟩
 rw [hp] at hY
 obtain ⟨x0,x1,x2,x3,_,_,_,_,hxl⟩:=blk4 hX
 obtain ⟨y0,y1,y2,y3,_,_,_,_,hyl⟩:=blk4 hY
 have HB:=Lib.hid hb2
 have HX:=Lib.hid (hw2 _ hb2 hx)
 have HY:=Lib.hid (hw2 _ hb2 hy)
 have hshx:=hx.shape
 have hshy:=hy.shape
 clear hX hY hb1 hb2 hs1 hx hy hw2
 by_cases hk:x.kind=y.kind
 ·have hkk:((x.kind:Int) != (y.kind:Int))=false:=by simp [hk]
  by_cases h14:x.kind=1∨x.kind=4
  ·rw [show adSameI x y (decide (lx=ly))=decide (lx=ly) by unfold adSameI;rw [if_pos hk,if_pos h14]]
   have hl:(lx == ly)=decide (lx=ly):=by
    by_cases h:lx=ly
    ·rw [decide_eq_true h];simp [h]
    ·rw [decide_eq_false h];simp;omega
   generalize decide (lx=ly)=R at hl ⊢
   rcases h14 with h | h
   ·have q1:((x.kind:Int) == 1)=true:=by simp [h]
    clear h hk fx fy
    rcases hshx with ⟨T8,q8,rfl⟩ | rfl <;> rcases hshy with ⟨T9,q9,rfl⟩ | rfl
    all_goals
     go_enter Tryz.func25,Tryz.ntmps25
     go_wp2_with fail
     go_ret
     exact ⟨rfl,HB.out⟩
   ·have q1:((x.kind:Int) == 1)=false:=by simp [h]
    have q4:((x.kind:Int) == 4)=true:=by simp [h]
    clear h hk fx fy
    rcases hshx with ⟨T8,q8,rfl⟩ | rfl <;> rcases hshy with ⟨T9,q9,rfl⟩ | rfl
    all_goals
     go_enter Tryz.func25,Tryz.ntmps25
     go_wp2_with fail
     go_ret
     exact ⟨rfl,HB.out⟩
  ·have q1:((x.kind:Int) == 1)=false:=by simp;omega
   have q4:((x.kind:Int) == 4)=false:=by simp;omega
   by_cases h3:x.kind=3
   ·obtain ⟨d,hd,hsz⟩:=fx h3
    obtain ⟨e,he,_⟩:=fy (hk▸h3)
    rw [show adSameI x y (decide (lx=ly))=nsame d e by unfold adSameI;rw [if_pos hk,if_neg h14,if_pos h3,hd,he]]
    have q3:((x.kind:Int) == 3)=true:=by simp [h3]
    have hX:=HX.out
    have hY:=HY.out
    rw [hd] at hX
    rw [he] at hY
    have hS:=psame_any d e tx ty W2 hX hY hsz
    generalize nsame d e=R at hS ⊢
    clear hk h14 h3 fx fy hX hY hd he
    rcases hshx with ⟨T8,q8,rfl⟩ | rfl <;> rcases hshy with ⟨T9,q9,rfl⟩ | rfl
    all_goals
     go_enter Tryz.func25,Tryz.ntmps25
     go_wp2_with (go_at_call 26;refine hS.mono ?_;clear hS;rintro e w3 ⟨rfl,b3⟩)
     go_ret
     exact ⟨rfl,HB.out.trans (b3.mono HB.out.size)⟩
   ·rw [show adSameI x y (decide (lx=ly))=true by unfold adSameI;rw [if_pos hk,if_neg h14,if_neg h3]]
    have q3:((x.kind:Int) == 3)=false:=by simp;omega
    clear hk h14 h3 fx fy
    rcases hshx with ⟨T8,q8,rfl⟩ | rfl <;> rcases hshy with ⟨T9,q9,rfl⟩ | rfl
    all_goals
     go_enter Tryz.func25,Tryz.ntmps25
     go_wp2_with fail
     go_ret
     exact ⟨rfl,HB.out⟩
 ·rw [show adSameI x y (decide (lx=ly))=false by unfold adSameI;rw [if_neg hk]]
  have hkk:((x.kind:Int) != (y.kind:Int))=true:=by simp;omega
  clear hk fx fy
  rcases hshx with ⟨T8,q8,rfl⟩ | rfl <;> rcases hshy with ⟨T9,q9,rfl⟩ | rfl
  all_goals
   go_enter Tryz.func25,Tryz.ntmps25
   go_wp2_with fail
   go_ret
   exact ⟨rfl,HB.out⟩
end Go.Proofs.YtbgfankoojjejaaGreatDoor
namespace Go.Proofs.YtbgfankoojjejaaGreatDoor
open Go Go.RowKit
def gdSame (g h:Grd):Bool:=g.no == h.no && (adSame g.a h.a && adSame g.b h.b)
def gdSameI (g h:Grd) (R1 R2:Bool):Bool:=g.no == h.no && (adSameI g.a h.a R1 && adSameI g.b h.b R2)
structure Gd3 (B:Nat) (g h:Grd) (ta tb tc td:Value) (W:World):Prop where
 a:TrO (fun b=>b < B) W g.a.tree ta
 b:TrO (fun b=>b < B) W g.b.tree tb
 c:TrO (fun b=>b < B) W h.a.tree tc
 d:TrO (fun b=>b < B) W h.b.tree td
abbrev Gd2 (g h:Grd) (ta tb tc td:Value) (W:World):Prop:=Gd3 W.heap.size g h ta tb tc td W
theorem tro_all {F:Nat→Prop} {w:World} {t:Option Nd} {v:Value} (h:TrO F w t v):TrO (fun b=>b < w.heap.size) w t v:=TrO.keep (Nat.le_refl _) (fun _ _ hl=>⟨hl,fun _=>rfl⟩) h
theorem Gd3.keep {B:Nat} {g h:Grd} {ta tb tc td:Value} {w W:World} (k:Gd3 B g h ta tb tc td w) (hs:w.heap.size≤W.heap.size) (hb:∀ b,b < B→W.heap[b]?=w.heap[b]?):Gd3 B g h ta tb tc td W:=by
 have e:∀ {t:Option Nd} {v:Value},TrO (fun b=>b < B) w t v→TrO (fun b=>b < B) W t v:=fun k=>TrO.keep hs (fun b h1 _=>⟨h1,fun o=>World.cell?_of_block (w:=w) (a:=⟨b,o,none⟩) (hb b h1)⟩) k
 exact ⟨e k.a,e k.b,e k.c,e k.d⟩
theorem Gd3.wide {B:Nat} {g h:Grd} {ta tb tc td:Value} {W:World} (k:Gd3 B g h ta tb tc td W):Gd2 g h ta tb tc td W:=⟨tro_all k.a,tro_all k.b,tro_all k.c,tro_all k.d⟩
theorem tro_up {w W:World} (hb:Below w.heap.size w W) {t:Option Nd} {v:Value} (h:TrO (fun b=>b < w.heap.size) w t v):TrO (fun b=>b < W.heap.size) W t v:=
 TrO.keep hb.size (fun b _ hl=>⟨Nat.lt_of_lt_of_le hl hb.size,fun o=>hb.cell (p:=⟨b,o,none⟩) hl⟩) h
theorem gd2_up {g h:Grd} {ta tb tc td:Value} {w W:World} (k:Gd2 g h ta tb tc td w) (hb:Below w.heap.size w W):Gd2 g h ta tb tc td W:=⟨tro_up hb k.a,tro_up hb k.b,tro_up hb k.c,tro_up hb k.d⟩
theorem psameJ_any (g h:Grd) (la lb lc ld:Int) (sa sb sc sd:ByteArray) (ta tb tc td:Value) (w:World) (k:Gd2 g h ta tb tc td w) (fa:AdFine g.a) (fb:AdFine g.b) (fc:AdFine h.a) (fd:AdFine h.b) :
  Calls Tryz.prog 12 #[.agg #[.int .i64 (g.a.kind:Int),.int .i64 la,.string sa,ta,.int .i64 (g.b.kind:Int),.int .i64 lb,.string sb,tb,.bool g.no],.agg #[.int .i64 (h.a.kind:Int),.int .i64 lc,.string sc,tc,.int .i64 (h.b.kind:Int),.int .i64 ld,.string sd,td,.bool h.no]] w fun e w'=>e=.returned (.bool (gdSameI g h (decide (la=lc)) (decide (lb=ld))))∧Below w.heap.size w w':=by
 have hX:=Blk.new w #[.int .i64 (g.a.kind:Int),.int .i64 la,.string sa,ta,.int .i64 (g.b.kind:Int),.int .i64 lb,.string sb,tb,.bool g.no] 30 _ rfl
 have hb1:=(Below.refl w.heap.size w).alloc (Nat.le_refl _) (.cells #[.int .i64 (g.a.kind:Int),.int .i64 la,.string sa,ta,.int .i64 (g.b.kind:Int),.int .i64 lb,.string sb,tb,.bool g.no] 30)
 obtain ⟨W1,hW1⟩:∃ W1,w.alloc (.cells #[.int .i64 (g.a.kind:Int),.int .i64 la,.string sa,ta,.int .i64 (g.b.kind:Int),.int .i64 lb,.string sb,tb,.bool g.no] 30)=W1:=⟨_,rfl⟩
 rw [hW1] at hX hb1
 have hY:=Blk.new W1 #[.int .i64 (h.a.kind:Int),.int .i64 lc,.string sc,tc,.int .i64 (h.b.kind:Int),.int .i64 ld,.string sd,td,.bool h.no] 30 _ rfl
 have hb2:=hb1.alloc hb1.size (.cells #[.int .i64 (h.a.kind:Int),.int .i64 lc,.string sc,tc,.int .i64 (h.b.kind:Int),.int .i64 ld,.string sd,td,.bool h.no] 30)
 replace hX:=hX.alloc (.cells #[.int .i64 (h.a.kind:Int),.int .i64 lc,.string sc,tc,.int .i64 (h.b.kind:Int),.int .i64 ld,.string sd,td,.bool h.no] 30)
 obtain ⟨W2,hW2⟩:∃ W2,W1.alloc (.cells #[.int .i64 (h.a.kind:Int),.int .i64 lc,.string sc,tc,.int .i64 (h.b.kind:Int),.int .i64 ld,.string sd,td,.bool h.no] 30)=W2:=⟨_,rfl⟩
 rw [hW2] at hX hY hb2
 obtain ⟨p,hp⟩:∃ p,W1.heap.size=p:=⟨_,rfl⟩
 rw [hp] at hY
 have HX:=Lib.hid hX
 have HY:=Lib.hid hY
 obtain ⟨⟨x0,x1,x2,x3,x4,x5,x6,x7,x8⟩,_,_,_,_,_,_,_,_,_,hxl⟩:=blk9v hX
 obtain ⟨⟨y0,y1,y2,y3,y4,y5,y6,y7,y8⟩,_,_,_,_,_,_,_,_,_,hyl⟩:=blk9v hY
 have HB:=Lib.hid hb2
 have hK:=gd2_up k hb2
 have hs1:=psameI_any g.a h.a la lc sa sc ta tc W2 hK.a hK.c fa fc
 have hs2:=fun w' (hb:Below W2.heap.size W2 w')=>psameI_any g.b h.b lb ld sb sd tb td w' (gd2_up hK hb).b (gd2_up hK hb).d fb fd
 clear hX hY hb1 hb2 k hK fa fb fc fd
 unfold gdSameI
 generalize adSameI g.a h.a (decide (la=lc))=R1 at hs1 ⊢
 generalize adSameI g.b h.b (decide (lb=ld))=R2 at hs2 ⊢
 obtain ⟨n,hn⟩:∃ n,(g.no == h.no)=n:=⟨_,rfl⟩
 rw [hn]
 cases n
 ·clear hs1 hs2
  go_enter Tryz.func12,Tryz.ntmps12
  go_wp2_with fail
  go_ret
  exact ⟨rfl,HB.out⟩
 ·cases R1
  ·clear hs2
   go_enter Tryz.func12,Tryz.ntmps12
   go_wp2_with (go_at_call 25;refine hs1.mono ?_;clear hs1;rintro e w3 ⟨rfl,b3⟩)
   go_ret
   exact ⟨rfl,HB.out.trans (b3.mono HB.out.size)⟩
  ·go_enter Tryz.func12,Tryz.ntmps12
   go_wp2_with (first
    | (go_at_call 25;refine hs1.mono ?_;clear hs1;rintro e w3 ⟨rfl,b3⟩;have hs4:=hs2 w3 b3;clear hs2;have B3:=Lib.hid (HB.out.trans (b3.mono HB.out.size));have X3:=Lib.hid (HX.out.below b3 HX.out.lt);have Y3:=Lib.hid (HY.out.below b3 HY.out.lt);clear b3 x0 x1 x2 x3 x4 x5 x6 x7 x8 hxl y0 y1 y2 y3 y4 y5 y6 y7 y8 hyl;obtain ⟨⟨x0,x1,x2,x3,x4,x5,x6,x7,x8⟩,_,_,_,_,_,_,_,_,_,hxl⟩:=blk9v X3.out;obtain ⟨⟨y0,y1,y2,y3,y4,y5,y6,y7,y8⟩,_,_,_,_,_,_,_,_,_,hyl⟩:=blk9v Y3.out)
    | (go_at_call 25;refine hs4.mono ?_;clear hs4;rintro e w4 ⟨rfl,b4⟩))
   go_ret
   exact ⟨rfl,B3.out.trans (b4.mono B3.out.size)⟩
theorem psameG_any (g h:Grd) (ta tb tc td:Value) (w:World) (k:Gd2 g h ta tb tc td w) (fa:AdFine g.a) (fb:AdFine g.b) (fc:AdFine h.a) (fd:AdFine h.b) :
  Calls Tryz.prog 12 #[.agg #[.int .i64 (g.a.kind:Int),.int .i64 (g.a.line:Int),.string (txt g.a.text),ta,.int .i64 (g.b.kind:Int),.int .i64 (g.b.line:Int),.string (txt g.b.text),tb,.bool g.no],.agg #[.int .i64 (h.a.kind:Int),.int .i64 (h.a.line:Int),.string (txt h.a.text),tc,.int .i64 (h.b.kind:Int),.int .i64 (h.b.line:Int),.string (txt h.b.text),td,.bool h.no]] w fun e w'=>e=.returned (.bool (gdSame g h))∧Below w.heap.size w w':=by
 have e:=psameJ_any g h g.a.line g.b.line h.a.line h.b.line (txt g.a.text) (txt g.b.text) (txt h.a.text) (txt h.b.text) ta tb tc td w k fa fb fc fd
 unfold gdSameI at e
 rwa [adSameI_line,adSameI_line] at e
end Go.Proofs.YtbgfankoojjejaaGreatDoor
namespace Go.Proofs.YtbgfankoojjejaaGreatDoor
open Go Go.RowKit
theorem delim_fine {ext:Bool} {L:List UInt8} {b:Nat} {d:UInt8} {q:(List UInt8 × Nd) × List Wm × Nat} (h:delimM ext L b d=.ok q):nsize q.1.2≤4000000:=by
 unfold delimM at h
 simp only at h
 split at h
 ·split at h
  ·cases h
  ·split at h
   ·cases h
   ·rename_i q' hp
    injection h with h
    subst h
    have:=whole_size (st:=q'.1) (d:=q'.2) hp
    show nsize q'.2≤_
    omega
 ·cases h
theorem fine_not {a:Adr} (h:a.kind≠3):AdFine a:=fun h3=>absurd h3 h
theorem gdM_err {ext:Bool} {L:List UInt8} {k:Nat} {q:Nat × Nat} (h:gdM ext L k=.error q):q.1≠0:=by
 unfold gdM at h
 cases h1:adM ext false L k with
 | error q2=>
  rw [h1] at h
  have e:=adM_err h1
  unfold adTwo gdOf at h
  injection h with h
  rw [←h]
  exact e
 | ok r=>
  rw [h1] at h
  unfold adTwo at h
  simp only at h
  split at h
  ·unfold gdOf gdEnd at h
   simp only at h
   split at h
   ·rename_i h2
    injection h with h
    rw [←h]
    exact adNot_err h2
   ·cases h
  ·cases h2:adSec ext L r.2.2 with
   | error q2=>
    rw [h2] at h
    have e:=adSec_err h2
    unfold adJoin gdOf at h
    injection h with h
    rw [←h]
    exact e
   | ok r2=>
    rw [h2] at h
    unfold adJoin gdOf gdEnd at h
    simp only at h
    split at h
    ·rename_i h3
     injection h with h
     rw [←h]
     exact adNot_err h3
    ·cases h
end Go.Proofs.YtbgfankoojjejaaGreatDoor
