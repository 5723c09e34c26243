/- Texts. -/
import Derived.Test.YtnognicabhgmcaaGreatDoorSp05
import Derived.Deep.DeepMust
set_option linter.unusedSimpArgs false
set_option linter.unusedVariables false
set_option maxHeartbeats 8000000
set_option maxRecDepth 1000000
namespace Go.Proofs.YtnognicabhgmcaaGreatDoor
open Go.Lib renaming hid→Afj
open List renaming setIfInBounds_toArray→Afk,length_append→Afs,mem_cons→Afz,mem_append→Af1,length_drop→Af3,getElem?_eq_getElem→Af4,mem_append_right→Af8
open Nat renaming le_refl→Afq,le_trans→Afr,lt_of_lt_of_le→Aft,le_of_lt→Afu
open Go.RowKit.Below renaming refl→Afv,heap_setCell→Afw,setCell→Aga,drew→Agb,alloc→Agc
open Go.IntWalk renaming i64_in→Afx
open Go.World renaming cell?_of_block→Afy
open _root_.Array renaming getElem?_eq_some_iff→Af6
open Go.Proofs.Tryz
section
open Go Go.RowKit
def Aag:Nd→Bool
 | .empty=>true
 | _=>false
def Adp:Nd→Bool
 | .cat _=>true
 | _=>false
def Adq:Nd→Bool
 | .rep _ _ _=>true
 | _=>false
def Ads:Nd→Bool
 | .start=>true
 | _=>false
def Adt:Nd→Bool
 | .fin=>true
 | _=>false
theorem IY {F:Nat→Prop} (d:Nd) (v:Value) (w:World) (h:NdX F w d v):Calls prog 49 #[v] w fun e w'=>e=.returned (.bool (Aag d))∧Below w.heap.size w w':=by
 rcases Ck h with ⟨rfl,rfl | rfl⟩ | ⟨s,rfl,rfl⟩ | ⟨l,a,cap,rfl,rfl,hr⟩ | ⟨l,a,cap,rfl,rfl,hr⟩ | ⟨d',mn,mx,u,rfl,rfl,hu⟩ | ⟨num,d',u,rfl,rfl,hu⟩ | ⟨num,rfl,rfl⟩ | ⟨rfl,rfl⟩ | ⟨rfl,rfl⟩
 all_goals
  go_enter func49,ntmps49;go_wp2_with fail
  go_ret;exact ⟨rfl,Afv _ _⟩
theorem Rl {F:Nat→Prop} {w0:World} {d:Nd} {v:Value} (h:NdX F w0 d v):∃ a n c,∀ w,(Instr.typeAssert v 45 97 true).run prog w=.ok (.tuple #[.agg #[.slice a n c],.bool (Adp d)]) w:=by
 rcases Ck h with ⟨rfl,rfl | rfl⟩ | ⟨s,rfl,rfl⟩ | ⟨l,a,cap,rfl,rfl,hr⟩ | ⟨l,a,cap,rfl,rfl,hr⟩ | ⟨d',mn,mx,u,rfl,rfl,hu⟩ | ⟨num,d',u,rfl,rfl,hu⟩ | ⟨num,rfl,rfl⟩ | ⟨rfl,rfl⟩ | ⟨rfl,rfl⟩
 ·exact ⟨none,0,0,M1 _⟩
 ·exact ⟨none,0,0,Qn⟩
 ·exact ⟨none,0,0,PY _⟩
 ·exact ⟨_,_,_,Qb _⟩
 ·exact ⟨none,0,0,Qe _⟩
 ·exact ⟨none,0,0,Qh _⟩
 ·exact ⟨none,0,0,MG _⟩
 ·exact ⟨none,0,0,Oj _⟩
 ·exact ⟨none,0,0,MK _⟩
 ·exact ⟨none,0,0,Qk _⟩
theorem Rm {F:Nat→Prop} {w0:World} {d:Nd} {v:Value} (h:NdX F w0 d v):∃ u mn mx,((∃ T q,u=.iface T q)∨u=.nilIface)∧(∀ w,(Instr.typeAssert v 45 100 true).run prog w=.ok (.tuple #[.agg #[u,.int .i64 mn,.int .i64 mx],.bool (Adq d)]) w)∧∀ d' a b,d=.rep d' a b→mn=a∧mx=b:=by
 rcases Ck h with ⟨rfl,rfl | rfl⟩ | ⟨s,rfl,rfl⟩ | ⟨l,a,cap,rfl,rfl,hr⟩ | ⟨l,a,cap,rfl,rfl,hr⟩ | ⟨d',mn,mx,u,rfl,rfl,hu⟩ | ⟨num,d',u,rfl,rfl,hu⟩ | ⟨num,rfl,rfl⟩ | ⟨rfl,rfl⟩ | ⟨rfl,rfl⟩
 ·exact ⟨.nilIface,0,0,.inr rfl,M2 _,fun _ _ _ h=>by cases h⟩
 ·exact ⟨.nilIface,0,0,.inr rfl,Qo,fun _ _ _ h=>by cases h⟩
 ·exact ⟨.nilIface,0,0,.inr rfl,PZ _,fun _ _ _ h=>by cases h⟩
 ·exact ⟨.nilIface,0,0,.inr rfl,Qc _,fun _ _ _ h=>by cases h⟩
 ·exact ⟨.nilIface,0,0,.inr rfl,Qf _,fun _ _ _ h=>by cases h⟩
 ·exact ⟨u,mn,mx,hu.elim fun _ h=>Ay h,Qi _,fun _ _ _ h=>by cases h;exact ⟨rfl,rfl⟩⟩
 ·exact ⟨.nilIface,0,0,.inr rfl,MH _,fun _ _ _ h=>by cases h⟩
 ·exact ⟨.nilIface,0,0,.inr rfl,Ol _,fun _ _ _ h=>by cases h⟩
 ·exact ⟨.nilIface,0,0,.inr rfl,ML _,fun _ _ _ h=>by cases h⟩
 ·exact ⟨.nilIface,0,0,.inr rfl,Ql _,fun _ _ _ h=>by cases h⟩
theorem Nq {F:Nat→Prop} {w0:World} {d:Nd} {v:Value} (h:NdX F w0 d v):∃ num:Int,(∀ w,(Instr.typeAssert v 45 116 true).run prog w=.ok (.tuple #[.agg #[.int .i64 num],.bool (Abo d)]) w)∧∀ n,d=.back n→num=n:=by
 rcases Ck h with ⟨rfl,rfl | rfl⟩ | ⟨s,rfl,rfl⟩ | ⟨l,a,cap,rfl,rfl,hr⟩ | ⟨l,a,cap,rfl,rfl,hr⟩ | ⟨d',mn,mx,u,rfl,rfl,hu⟩ | ⟨num,d',u,rfl,rfl,hu⟩ | ⟨num,rfl,rfl⟩ | ⟨rfl,rfl⟩ | ⟨rfl,rfl⟩
 ·exact ⟨0,KU _,fun _ h=>by cases h⟩
 ·exact ⟨0,Oo,fun _ h=>by cases h⟩
 ·exact ⟨0,Of _,fun _ h=>by cases h⟩
 ·exact ⟨0,Og _,fun _ h=>by cases h⟩
 ·exact ⟨0,Oh _,fun _ h=>by cases h⟩
 ·exact ⟨0,Oi _,fun _ h=>by cases h⟩
 ·exact ⟨0,KV _,fun _ h=>by cases h⟩
 ·exact ⟨num,MJ _,fun _ h=>by cases h;rfl⟩
 ·exact ⟨0,KY _,fun _ h=>by cases h⟩
 ·exact ⟨0,On _,fun _ h=>by cases h⟩
theorem Nr {F:Nat→Prop} {w0:World} {d:Nd} {v:Value} (h:NdX F w0 d v):∀ w,(Instr.typeAssert v 45 118 true).run prog w=.ok (.tuple #[.agg #[],.bool (Ads d)]) w:=by
 rcases Ck h with ⟨rfl,rfl | rfl⟩ | ⟨s,rfl,rfl⟩ | ⟨l,a,cap,rfl,rfl,hr⟩ | ⟨l,a,cap,rfl,rfl,hr⟩ | ⟨d',mn,mx,u,rfl,rfl,hu⟩ | ⟨num,d',u,rfl,rfl,hu⟩ | ⟨num,rfl,rfl⟩ | ⟨rfl,rfl⟩ | ⟨rfl,rfl⟩
 ·exact JT _
 ·exact MQ
 ·exact M7 _
 ·exact M9 _
 ·exact MD _
 ·exact MF _
 ·exact JV _
 ·exact KX _
 ·exact JX _
 ·exact MO _
theorem Rn {F:Nat→Prop} {w0:World} {d:Nd} {v:Value} (h:NdX F w0 d v):∀ w,(Instr.typeAssert v 45 120 true).run prog w=.ok (.tuple #[.agg #[],.bool (Adt d)]) w:=by
 rcases Ck h with ⟨rfl,rfl | rfl⟩ | ⟨s,rfl,rfl⟩ | ⟨l,a,cap,rfl,rfl,hr⟩ | ⟨l,a,cap,rfl,rfl,hr⟩ | ⟨d',mn,mx,u,rfl,rfl,hu⟩ | ⟨num,d',u,rfl,rfl,hu⟩ | ⟨num,rfl,rfl⟩ | ⟨rfl,rfl⟩ | ⟨rfl,rfl⟩
 ·exact M3 _
 ·exact Qp
 ·exact Qa _
 ·exact Qd _
 ·exact Qg _
 ·exact Qj _
 ·exact MI _
 ·exact Om _
 ·exact MM _
 ·exact Qm _
theorem KG (e:Nd):EM .empty e=Aag e:=by cases e <;> rfl
theorem X8 (s:OSet) (e:Nd):EM (.one s) e=Rk e s:=by cases e <;> first | rfl | exact decide_eq_decide.2 ⟨Eq.symm,Eq.symm⟩
theorem X9 (l:List Nd) (e:Nd):EM (.cat l) e=Adp e:=by cases e <;> rfl
theorem XA (l:List Nd) (e:Nd):EM (.alt l) e=!inAlt e:=by cases e <;> rfl
theorem Ro (e:Nd):EM .start e=Ads e:=by cases e <;> rfl
theorem XB (e:Nd):EM .fin e=Adt e:=by cases e <;> rfl
theorem XC (d:Nd) (mn mx:Int) (e:Nd) (p q:Int) (h:∀ d' a b,e=.rep d' a b→p=a∧q=b):EM (.rep d mn mx) e=(Adq e && (mn == p) && (mx == q)):=by
 cases e with
 | rep e a b=>obtain ⟨rfl,rfl⟩:=h _ _ _ rfl;rfl
 | _=>rfl
theorem Rp (d:Nd) (n:Int) (e:Nd) (p:Int) (h:∀ k d',e=.group k d'→p=k):EM (.group n d) e=(Jb e && (n == p)):=by
 cases e with
 | group k e=>obtain rfl:=h _ _ rfl;rfl
 | _=>rfl
theorem UG (n:Int) (e:Nd) (p:Int) (h:∀ k,e=.back k→p=k):EM (.back n) e=(Abo e && (n == p)):=by
 cases e with
 | back k=>obtain rfl:=h _ rfl;rfl
 | _=>rfl
theorem UH {F:Nat→Prop} (d e:Nd) (v y:Value) (w:World) (h:NdX F w d v) (k:NdX F w e y):Calls prog 34 #[v,y] w fun r w'=>r=.returned (.bool (EM d e))∧Below w.heap.size w w':=by
 rcases Ck h with ⟨rfl,rfl | rfl⟩ | ⟨s,rfl,rfl⟩ | ⟨l,a,cap,rfl,rfl,hr⟩ | ⟨l,a,cap,rfl,rfl,hr⟩ | ⟨d',mn,mx,u,rfl,rfl,hu⟩ | ⟨num,d',u,rfl,rfl,hu⟩ | ⟨num,rfl,rfl⟩ | ⟨rfl,rfl⟩ | ⟨rfl,rfl⟩
 ·rw [KG];have hC:=IY e y w k;generalize Aag e=R at hC ⊢;go_enter func34,ntmps34;go_wp2_with (go_at_call 49;refine hC.mono ?_;rintro r w2 ⟨rfl,b2⟩)
  go_ret;exact ⟨rfl,b2⟩
 ·rw [KG];have hC:=IY e y w k;generalize Aag e=R at hC ⊢;go_enter func34,ntmps34;go_wp2_with (go_at_call 49;refine hC.mono ?_;rintro r w2 ⟨rfl,b2⟩)
  go_ret;exact ⟨rfl,b2⟩
 ·rw [X8];have hB:=(Afv w.heap.size w).alloc (Afq _) (.cells #[.int .u64 (ow s 0),.int .u64 (ow s 1),.int .u64 (ow s 2),.int .u64 (ow s 3)] 110);have hC:=UF e y s _ (k.below hB);generalize Rk e s=R at hC ⊢;go_enter func34,ntmps34;go_wp2_with (go_at_call 50;refine hC.mono ?_;rintro r w2 ⟨rfl,b2⟩)
  go_ret;exact ⟨rfl,hB.trans (b2.mono hB.size)⟩
 ·rw [X9];obtain ⟨a2,n2,c2,hTA⟩:=Rl k;generalize Adp e=R at hTA ⊢;go_enter func34,ntmps34;go_wp2_with fail
  go_ret;refine ⟨rfl,?_⟩
  repeat (first | (with_reducible exact hW) | (with_reducible exact Afv _ _) | refine Agb ?_ | refine Aga ?_ (by first | omega | (simp;omega) | simp) _ | refine Agc ?_ (by first | omega | (simp;omega) | simp) _)
 ·rw [XA];have hB:=(Afv w.heap.size w).alloc (Afq _) (.cells #[.slice a l.length cap] 98);have hC:=TC e y _ (k.below hB);generalize (!inAlt e)=R at hC ⊢;go_enter func34,ntmps34;go_wp2_with (go_at_call 51;refine hC.mono ?_;rintro r w2 ⟨rfl,b2⟩)
  go_ret;exact ⟨rfl,hB.trans (b2.mono hB.size)⟩
 ·obtain ⟨u2,p,q,hu2,hTA,hpq⟩:=Rm k;rw [XC d' mn mx e p q hpq];have hu1:(∃ T q,u=.iface T q)∨u=.nilIface:=hu.elim fun _ h=>Ay h
  generalize Adq e=R at hTA ⊢;clear hpq k h hu;rcases hu1 with ⟨T,q1,rfl⟩ | rfl
  all_goals
   rcases hu2 with ⟨T2,q2,rfl⟩ | rfl
   all_goals
    cases R
    ·go_enter func34,ntmps34;go_wp2_with fail
     go_ret;refine ⟨rfl,?_⟩
     repeat (first | (with_reducible exact hW) | (with_reducible exact Afv _ _) | refine Agb ?_ | refine Aga ?_ (by first | omega | (simp;omega) | simp) _ | refine Agc ?_ (by first | omega | (simp;omega) | simp) _)
    ·cases hE:mn == p
     ·go_enter func34,ntmps34;go_wp2_with fail
      go_ret;refine ⟨rfl,?_⟩
      repeat (first | (with_reducible exact hW) | (with_reducible exact Afv _ _) | refine Agb ?_ | refine Aga ?_ (by first | omega | (simp;omega) | simp) _ | refine Agc ?_ (by first | omega | (simp;omega) | simp) _)
     ·go_enter func34,ntmps34;go_wp2_with fail
      go_ret;refine ⟨rfl,?_⟩
      repeat (first | (with_reducible exact hW) | (with_reducible exact Afv _ _) | refine Agb ?_ | refine Aga ?_ (by first | omega | (simp;omega) | simp) _ | refine Agc ?_ (by first | omega | (simp;omega) | simp) _)
 ·obtain ⟨p,u2,hu2,hTA,hpq⟩:=Is k;rw [Rp d' num e p hpq];have hu1:(∃ T q,u=.iface T q)∨u=.nilIface:=hu.elim fun _ h=>Ay h
  generalize Jb e=R at hTA ⊢;clear hpq k h hu;rcases hu1 with ⟨T,q1,rfl⟩ | rfl
  all_goals
   rcases hu2 with ⟨T2,q2,rfl⟩ | rfl
   all_goals
    cases R
    all_goals
     go_enter func34,ntmps34;go_wp2_with fail
     go_ret;refine ⟨rfl,?_⟩
     repeat (first | (with_reducible exact hW) | (with_reducible exact Afv _ _) | refine Agb ?_ | refine Aga ?_ (by first | omega | (simp;omega) | simp) _ | refine Agc ?_ (by first | omega | (simp;omega) | simp) _)
 ·obtain ⟨p,hTA,hpq⟩:=Nq k;rw [UG num e p hpq];generalize Abo e=R at hTA ⊢;clear hpq k h;cases R
  all_goals
   go_enter func34,ntmps34;go_wp2_with fail
   go_ret;refine ⟨rfl,?_⟩
   repeat (first | (with_reducible exact hW) | (with_reducible exact Afv _ _) | refine Agb ?_ | refine Aga ?_ (by first | omega | (simp;omega) | simp) _ | refine Agc ?_ (by first | omega | (simp;omega) | simp) _)
 ·have hTA:=Nr k;rw [Ro];generalize Ads e=R at hTA ⊢;go_enter func34,ntmps34;go_wp2_with fail
  go_ret;refine ⟨rfl,?_⟩
  repeat (first | (with_reducible exact hW) | (with_reducible exact Afv _ _) | refine Agb ?_ | refine Aga ?_ (by first | omega | (simp;omega) | simp) _ | refine Agc ?_ (by first | omega | (simp;omega) | simp) _)
 ·have hTA:=Rn k;rw [XB];generalize Adt e=R at hTA ⊢;go_enter func34,ntmps34;go_wp2_with fail
  go_ret;refine ⟨rfl,?_⟩
  repeat (first | (with_reducible exact hW) | (with_reducible exact Afv _ _) | refine Agb ?_ | refine Aga ?_ (by first | omega | (simp;omega) | simp) _ | refine Agc ?_ (by first | omega | (simp;omega) | simp) _)
def Ga (T:List (Nd × Nd)):Bool:=T.all (fun p=>Dv p.1 p.2)
def DS (T:List (Nd × Nd)):Nat:=A0 (T.map Prod.fst)
theorem Rq (T:List (Nd × Nd)) (d e:Nd):Ga (T++[(d,e)])=(Ga T && Dv d e):=by unfold Ga;rw [List.all_append];simp
theorem Ns (T U:List (Nd × Nd)):Ga (T++U)=(Ga T && Ga U):=by unfold Ga;rw [List.all_append]
theorem Rr (l m:List Nd) (h:l.length=m.length):Eb l m=Ga (l.zip m):=by
 induction l generalizing m with
 | nil=>
  cases m with
  | nil=>rfl
  | cons e es=>simp at h
 | cons d ds ih=>
  cases m with
  | nil=>simp at h
  | cons e es=>rw [Eb,ih es (by simpa using h)];rfl
theorem F0 (T U:List (Nd × Nd)):DS (T++U)=DS T+DS U:=by unfold DS;rw [List.map_append,D8]
theorem LT (d e:Nd):DS [(d,e)]=Ax d:=by simp [DS,A0]
theorem LU (l m:List Nd) (h:l.length=m.length):DS (l.zip m)=A0 l:=by unfold DS;rw [List.map_fst_zip (by omega)]
theorem LV (T:List (Nd × Nd)):T.length≤DS T:=by have:=Gw (T.map Prod.fst);unfold DS;simpa using this
theorem XD (l m:List Nd) (k:Nat) (h1:k < l.length) (h2:k < m.length):(l.zip m).take (k+1)=(l.zip m).take k++[(l[k],m[k])]:=by
 rw [List.take_succ_eq_append_getElem (by rw [List.length_zip];omega),List.getElem_zip]
def Off (sv:Value) (b:Nat):Prop:=sv.ownBlock≠some b
def PrC (G:Nat→Prop) (W:World):List (Nd × Nd)→List Value→Prop
 | [],us=>us=[]
 | x :: s,us=>∃ v y us',us=v :: y :: us'∧NdX G W x.1 v∧NdX G W x.2 y∧PrC G W s us'
theorem PrC.len {G:Nat→Prop} {W:World}:∀ {s:List (Nd × Nd)} {us:List Value},PrC G W s us→us.length=s.length * 2
 | [],us,h=>by rw [show us=[] from h];rfl
 | x :: s,us,⟨v,y,us',h,_,_,h4⟩=>by rw [h];have:=PrC.len h4;simp [this];omega
theorem PrC.keep {F G:Nat→Prop} {W W':World} (hs:W.heap.size≤W'.heap.size) (hF:∀ b,F b→b < W.heap.size→G b∧∀ o,W'.cell? ⟨b,o,none⟩=W.cell? ⟨b,o,none⟩) :
  ∀ {s:List (Nd × Nd)} {us:List Value},PrC F W s us→PrC G W' s us
 | [],_,h=>h
 | _ :: _,_,⟨v,y,us',h,h2,h3,h4⟩=>⟨v,y,us',h,h2.keep hs hF,h3.keep hs hF,PrC.keep hs hF h4⟩
theorem PrC.snoc {G:Nat→Prop} {W:World} {d e:Nd} {v y:Value} (hd:NdX G W d v) (he:NdX G W e y) :
  ∀ {s:List (Nd × Nd)} {us:List Value},PrC G W s us→PrC G W (s++[(d,e)]) (us++[v,y])
 | [],us,h=>by obtain rfl:us=[]:=h;exact ⟨v,y,[],rfl,hd,he,rfl⟩
 | _ :: _,_,⟨v',y',us',h,h2,h3,h4⟩=>⟨v',y',_,by rw [h];rfl,h2,h3,PrC.snoc hd he h4⟩
theorem PrC.last {G:Nat→Prop} {W:World} {d e:Nd} :
  ∀ {s:List (Nd × Nd)} {us:List Value},PrC G W (s++[(d,e)]) us→∃ us' v y,us=us'++[v,y]∧NdX G W d v∧NdX G W e y∧PrC G W s us'
 | [],us,⟨v,y,us',h,h2,h3,h4⟩=>by obtain rfl:us'=[]:=h4;exact ⟨[],v,y,h,h2,h3,rfl⟩
 | x :: s,us,⟨v',y',us',h,h2,h3,h4⟩=>by
  obtain ⟨us2,v,y,e,g2,g3,g4⟩:=PrC.last h4;exact ⟨v' :: y' :: us2,v,y,by rw [h,e];rfl,g2,g3,v',y',us2,rfl,h2,h3,g4⟩
structure Prs (base:Nat) (W:World) (T:List (Nd × Nd)) (sv:Value) (us:List Value):Prop where
 row:W.ownsRow base 81 2 sv T.length us
 cells:PrC (Off sv) W T us
theorem UI {sv:Value} {W W':World} (hb:Below W.heap.size W W'):∀ b,Off sv b→b < W.heap.size→Off sv b∧∀ o,W'.cell? ⟨b,o,none⟩=W.cell? ⟨b,o,none⟩:=
 fun b hf hlt=>⟨hf,fun o=>hb.cell (p:=⟨b,o,none⟩) hlt⟩
theorem LW {sv v':Value} {W W':World} (hg:W.grownBy W' sv.ownBlock) (hat:v'.ownBlock=sv.ownBlock∨v'.ownBlock=some W.heap.size):∀ b,Off sv b→b < W.heap.size→Off v' b∧∀ o,W'.cell? ⟨b,o,none⟩=W.cell? ⟨b,o,none⟩:=by
 intro b hf hlt;refine ⟨?_,fun o=>Afy (w:=W) (a:=⟨b,o,none⟩) (hg.block b hlt (fun e=>hf e.symm))⟩;rcases hat with e | e
 ·unfold Off;rw [e];exact hf
 ·unfold Off;rw [e];intro e2;injection e2 with e2;omega
theorem Prs.mem {base:Nat} {W W':World} {T:List (Nd × Nd)} {sv:Value} {us:List Value} (h:Prs base W T sv us) (hb:Below W.heap.size W W'):Prs base W' T sv us:=
 ⟨Ab h.row (fun g hg=>hb.block _ (h.row.lt g hg).2),h.cells.keep hb.size (UI hb)⟩
theorem Prs.push {base:Nat} {W W':World} {T:List (Nd × Nd)} {sv v' v y:Value} {us:List Value} {d e:Nd} (h:Prs base W T sv us) (hd:NdX (Off sv) W d v) (he:NdX (Off sv) W e y)
  (hown:W'.ownsRow base 81 2 v' (T.length+1) (us++[v,y])) (hg:W.grownBy W' sv.ownBlock) (hat:v'.ownBlock=sv.ownBlock∨v'.ownBlock=some W.heap.size):Prs base W' (T++[(d,e)]) v' (us++[v,y]):=by
 have hk:=LW hg hat
 exact ⟨by rw [Afs];exact hown,PrC.snoc (hd.keep hg.size hk) (he.keep hg.size hk) (h.cells.keep hg.size hk)⟩
theorem Prs.top {base:Nat} {W:World} {T:List (Nd × Nd)} {sv:Value} {us:List Value} {d e:Nd} (h:Prs base W (T++[(d,e)]) sv us) :
  ∃ g cap v y us',sv=.slice (some ⟨g,0,none⟩) (T.length+1) cap∧T.length+1≤cap∧base≤g∧g < W.heap.size∧W.cell? ⟨g,T.length * 2,none⟩=some v∧W.cell? ⟨g,T.length * 2+1,none⟩=some y∧NdX (Off sv) W d v∧NdX (Off sv) W e y∧Prs base W T (.slice (some ⟨g,0,none⟩) T.length cap) us':=by
 have hrow:=h.row;rw [Afs] at hrow;obtain ⟨g,cap,rfl⟩:=ownsRow_succ hrow;obtain ⟨us',v,y,rfl,h1,h2,h3⟩:=h.cells.last;have hl:=h3.len;have hg:=hrow.lt g rfl;refine ⟨g,cap,v,y,us',rfl,Sw hrow,hg.1,hg.2,?_,?_,h1,h2,ownsRow_pop hl hrow,h3⟩
 ·rw [hrow.cellAt (T.length * 2) (show T.length * 2 < (T.length+1) * 2 by omega),←hl,List.getElem?_append_right (Afq _)];simp
 ·rw [hrow.cellAt (T.length * 2+1) (show T.length * 2+1 < (T.length+1) * 2 by omega),←hl,List.getElem?_append_right (by omega)];rw [show us'.length+1 - us'.length=1 by omega];rfl
theorem UJ:∃ i,Tryz.prog.info? 81=some i∧i.zero=some (.agg #[.nilIface,.nilIface])∧i.size=2∧i.bytes=32:=by
 have h:(Tryz.prog.info? 81).map (fun i=>(i.zero,i.size,i.bytes))=some (some (.agg #[.nilIface,.nilIface]),2,32):=by kernel_rfl
 obtain ⟨i,hi,he⟩:=Option.map_eq_some_iff.1 h;injection he with h1 h2;injection h2 with h2 h3;exact ⟨i,hi,h1,h2,h3⟩
theorem OZ {g n n' cap b0:Nat} {w:World} {l:List Nd} {a:Option Addr} {c:Nat} (h:Be (fun b=>Off (.slice (some ⟨g,0,none⟩) n cap) b∨b0≤b) w l a c) (hg:g < b0):Be (Off (.slice (some ⟨g,0,none⟩) n' cap)) w l a c:=
 h.keep (Afq _) (fun b hb _=>⟨Or.elim hb (fun h=>h) (fun h e=>by simp [Value.ownBlock] at e;omega),fun _=>rfl⟩)
theorem LX (d e:Nd) (v y:Value) (w:World) (h:NdX (fun k=>k < w.heap.size) w d v) (k:NdX (fun k=>k < w.heap.size) w e y) (hsz:Ax d≤4000000) :
  Calls prog 26 #[v,y] w fun r w'=>r=.returned (.bool (Dv d e))∧Below w.heap.size w w':=by
 obtain ⟨i0,hi,hz0,hz1,hz2⟩:=UJ;obtain ⟨R,hR⟩:∃ R,R=Dv d e:=⟨_,rfl⟩;rw [←hR];have HR:=Afj hR;clear hR;have hs1:(∃ T q,v=.iface T q)∨v=.nilIface:=h.elim fun _ h=>Ay h
 have hs2:(∃ T q,y=.iface T q)∨y=.nilIface:=k.elim fun _ h=>Ay h
 go_enter func26,ntmps26;go_upto_region 1 with fail;go_cut [5] from 11 (fun tv wx=>∃ us,Prs w.heap.size wx [(d,e)] tv us∧Below w.heap.size w wx)
 case first=>
  have hP:∀ (v y:Value),NdX (fun k=>k < w.heap.size) w d v→NdX (fun k=>k < w.heap.size) w e y→Prs w.heap.size (w.alloc (.cells #[v,y] 81)) [(d,e)] (.slice (some ⟨w.heap.size,0,none⟩) 1 1) [v,y]:=by
   intro v y h k;have hB:=(Afv w.heap.size w).alloc (Afq _) (.cells #[v,y] 81);have hk:∀ b,b < w.heap.size→b < w.heap.size→Off (.slice (some ⟨w.heap.size,0,none⟩) 1 1) b∧∀ o,(w.alloc (.cells #[v,y] 81)).cell? ⟨b,o,none⟩=w.cell? ⟨b,o,none⟩:=fun b hb _=>
    ⟨fun e2=>by simp [Value.ownBlock] at e2;omega,fun o=>hB.cell (p:=⟨b,o,none⟩) hb⟩
   exact ⟨World.ownsRow_lit w #[v,y] 1 (Afq _) (by decide) rfl,v,y,[],rfl,h.keep hB.size hk,k.keep hB.size hk,rfl⟩
  have hP2:=hP v y h k;clear hP h k;rcases hs1 with ⟨T1,q1,rfl⟩ | rfl
  all_goals
   rcases hs2 with ⟨T2,q2,rfl⟩ | rfl
   all_goals
    go_wp2_with fail
    go_meet;exact ⟨_,hP2,(Afv w.heap.size w).alloc (Afq _) _⟩
 case rest=>
  clear hs1 hs2 h k;obtain ⟨us0,hP0,hW0⟩:=hcut;go_wp2_with fail
  go_loopg [5] (DS [(d,e)]+1) (fun gk tv wr=>∃ T us pv,pv=tv∧Prs w.heap.size wr T pv us∧R=Ga T∧DS T+1≤gk∧DS T≤4000000∧Below w.heap.size w wr)
  case atStart=>exact ⟨_,us0,_,rfl,hP0,by rw [HR.out];simp [Ga],Afq _,by rw [LT];exact hsz,hW0⟩
  case round=>
   obtain ⟨T,us,pv,hpv,hP,hRT,hgk,hsT,hW⟩:=hrel;subst hpv;clear hP0 hW0;rcases List.eq_nil_or_concat T with rfl | ⟨T,⟨d1,e1⟩,rfl⟩
   ·obtain ⟨a0,c0,rfl⟩:∃ a c,pv=.slice a 0 c:=by
     rcases hP.row.2 with ⟨e,_⟩ | ⟨g,cap,cur,e,_⟩
     ·exact ⟨_,_,e⟩
     ·exact ⟨_,_,e⟩
    have Hr:=Afj hRT;clear hRT hgk hsT;go_wp2_with fail
    go_ret;exact ⟨by rw [Hr.out];rfl,hW⟩
   ·rw [List.concat_eq_append] at hP hRT hgk hsT;have hlT:=LV T;rw [F0,LT] at hgk hsT;rw [Rq,Pr] at hRT;have Hr:=Afj hRT;have Hg:=Afj hgk;have Hs:=Afj hsT;have Hk:=Afj (J3 d1);obtain ⟨g,cap,va,vb,us',rfl,hcap,hbg,hgl,q0,q1,hd1,he1,hP1⟩:=hP.top;have Wn:IntKind.i64.wrap ((T.length:Int)+1 - 1)=(T.length:Int):=by rw [Afx _ (by omega)];omega
    have hcp2:(T.length:Int)≤(cap:Int):=by omega
    have hcp3:¬ cap=0:=by omega
    have hT8:T.length≤4000000:=by omega
    clear hRT hgk hsT hP hlT;go_upto_region 3 with fail;go_cut [6] from 18 (fun x wx=>∃ p,x=.pointer (some ⟨p,0,none⟩)∧wx.cell? ⟨p,0,none⟩=some va∧wx.cell? ⟨p,1,none⟩=some vb∧p < wx.heap.size∧Below wr.heap.size wr wx)
    case first=>
     have h1:(∃ T q,va=.iface T q)∨va=.nilIface:=hd1.elim fun _ h=>Ay h
     have h2:(∃ T q,vb=.iface T q)∨vb=.nilIface:=he1.elim fun _ h=>Ay h
     clear hd1 he1 hP1;rcases h1 with ⟨T1,q1,rfl⟩ | rfl
     all_goals
      rcases h2 with ⟨T2,q2,rfl⟩ | rfl
      all_goals
       go_wp2_with fail
       go_meet;have hbk:=fun a b=>Blk.new wr #[a,b] 81 _ rfl
       exact ⟨_,rfl,((hbk _ _).cell 0).trans rfl,((hbk _ _).cell 1).trans rfl,(hbk _ _).lt,(Afv wr.heap.size wr).alloc (Afq _) _⟩
    case rest=>
     obtain ⟨p,rfl,p0,p1,hpl,hV⟩:=hcut;clear q0 q1;replace hd1:=hd1.below hV;replace he1:=he1.below hV;replace hP1:=hP1.mem hV;replace hW:=hW.trans (hV.mono hW.size);have hgl2:g < wc.heap.size:=Aft hgl hV.size;have hI1:=fun w' (hb:Below wc.heap.size wc w')=>I5 d1 va w' (hd1.below hb)
     have hI2:=fun w' (hb:Below wc.heap.size wc w')=>I5 e1 vb w' (he1.below hb)
     have hAl:=fun w' (hb:Below wc.heap.size wc w')=>UH d1 e1 va vb w' (hd1.below hb) (he1.below hb)
     clear hV;generalize Cn d1=l at hI1 Hr Hk;generalize Cn e1=m at hI2 Hr;generalize EM d1 e1=hh at hAl Hr;clear hd1 he1;go_upto_region 5 with fail;go_cut [7,8] from 29 (fun x z wx=>∃ a1 c1 a2 c2,x=.slice a1 l.length c1∧z=.slice a2 m.length c2∧Be (Off (.slice (some ⟨g,0,none⟩) T.length cap)) wx l a1 c1∧Be (Off (.slice (some ⟨g,0,none⟩) T.length cap)) wx m a2 c2∧Below wc.heap.size wc wx)
     case first=>
      clear hAl
      go_region_with (first
       | (go_at_call_of 33 va;refine (hI1 _ (by first | exact hX9 | exact Agb (Afv _ _))).mono ?_;rintro r w8 ⟨a1,c1,rfl,hR1,b8⟩;have hX8:Below wc.heap.size wc w8:=(by first | exact hX9.trans (b8.mono hX9.size) | exact (Agb (Afv _ _)).trans b8);have k80:=(hX8.cell (p:=⟨p,0,none⟩) hpl).trans p0;have k81:=(hX8.cell (p:=⟨p,1,none⟩) hpl).trans p1;replace hR1:=OZ (n':=T.length) hR1 (by first | exact Aft hgl2 hX9.size | exact hgl2);(try have hR2':=hR2.below b8))
       | (go_at_call_of 33 vb;refine (hI2 _ (by first | exact hX8 | exact Agb (Afv _ _))).mono ?_;rintro r w9 ⟨a2,c2,rfl,hR2,b9⟩;have hX9:Below wc.heap.size wc w9:=(by first | exact hX8.trans (b9.mono hX8.size) | exact (Agb (Afv _ _)).trans b9);have k90:=(hX9.cell (p:=⟨p,0,none⟩) hpl).trans p0;have k91:=(hX9.cell (p:=⟨p,1,none⟩) hpl).trans p1;replace hR2:=OZ (n':=T.length) hR2 (by first | exact Aft hgl2 hX8.size | exact hgl2);(try have hR1':=hR1.below b9)))
      all_goals go_wp2_with fail
      all_goals go_meet
      all_goals first | exact ⟨a1,c1,a2,c2,rfl,rfl,hR1',hR2,hX9⟩ | exact ⟨a1,c1,a2,c2,rfl,rfl,hR1,hR2',hX8⟩
     case rest=>
      obtain ⟨a1,c1,a2,c2,rfl,rfl,hR1,hR2,hV⟩:=hcut;have hA2:=hAl _ hV;clear hAl hI1 hI2;have k0:=(hV.cell (p:=⟨p,0,none⟩) hpl).trans p0;have k1:=(hV.cell (p:=⟨p,1,none⟩) hpl).trans p1;clear p0 p1;replace hP1:=hP1.mem hV;replace hW:=hW.trans (hV.mono hW.size);clear hV;cases hh
      ·have Hf:=Afj (show R=false by rw [Hr.out,Bool.false_and,Bool.and_false]);go_wp2_with (go_at_call 34;refine hA2.mono ?_;rintro r w3 ⟨rfl,b3⟩)
       go_ret;exact ⟨IV Hf.out.symm,hW.trans (b3.mono hW.size)⟩
      ·by_cases hl:l.length=m.length
       ·have e1:((l.length:Int) != (m.length:Int))=false:=by simp [hl]
        have Hl:=Afj hl;have HRn:=Afj (show R=Ga (T++l.zip m) by rw [Hr.out,Ns,Rr _ _ hl];rfl);have Hgn:=Afj (show DS (T++l.zip m)+1 < gk by have h1:=Hg.out;have h2:=Hk.out;rw [F0,LU _ _ hl];omega);have Hsn:=Afj (show DS (T++l.zip m)≤4000000 by have h1:=Hs.out;have h2:=Hk.out;rw [F0,LU _ _ hl];omega);have hbd:T.length+l.length+1≤4000000:=by have h1:=Hs.out;have h2:=Hk.out;have h3:=LV T;have h4:=Gw l;omega
        have hq1:=hR1.1;have hq2:=hR1.2.1;have hq3:=hR2.1;have hq4:=hR2.2.1;unfold maxLen at hq2 hq4;clear hl Hr Hg Hs Hk HR;go_wp2_with (go_at_call 34;refine hA2.mono ?_;rintro r w3 ⟨rfl,b3⟩)
        replace hP1:=hP1.mem b3;replace hR1:=hR1.below b3;replace hR2:=hR2.below b3;replace hW:=hW.trans (b3.mono hW.size);clear b3 hA2 k0 k1;go_loopw [5,50] (fun tv i wq=>∃ (k:Nat) (us2:List Value) (pv:Value),k≤l.length∧i=.int .i64 k∧pv=tv∧Prs w.heap.size wq (T++(l.zip m).take k) pv us2∧Be (Off pv) wq l a1 c1∧Be (Off pv) wq m a2 c2∧Below w.heap.size w wq) (fun _ i _=>l.length - (intOf i).toNat)
        case atStart=>exact ⟨0,us',_,Nat.zero_le _,rfl,rfl,by rw [List.take_zero,List.append_nil];exact hP1,hR1,hR2,hW⟩
        case round=>
         clear hP1 hR1 hR2 hW;obtain ⟨k,us2,pv,hk,rfl,hpv,hP,hR1,hR2,hW⟩:=hrel;subst hpv;by_cases hlt:k < l.length
         ·have hkm:k < m.length:=by have:=Hl.out;omega
          obtain ⟨b1,o1,rfl,_,hb1,hx1⟩:=hR1.2.2 (by omega);obtain ⟨b2,o2,rfl,_,hb2,hx2⟩:=hR2.2.2 (by omega);obtain ⟨u1,hu1,hn1⟩:=hx1 k hlt;obtain ⟨u2,hu2,hn2⟩:=hx2 k hkm;have Hz:=Afj (XD l m k hlt hkm);have hlen2:(T++(l.zip m).take k).length=T.length+k:=by have:=Hl.out;rw [Afs,List.length_take,List.length_zip];omega
          have hA:=fun o=>(Afv wr.heap.size wr).alloc (Afq _) o
          have hPd:=fun o=>hP.mem (hA o)
          have hrow:=fun o=>(hPd o).row
          rw [hlen2] at hrow;have hm1:T.length+k+1≤maxLen:=by unfold maxLen;omega
          have hm2:(T.length+k+1) * 32≤140737488355328:=by omega
          clear hx1 hx2;have hPush:∀ (o:Obj) (w4:World) (v4:Value),w4.ownsRow w.heap.size 81 2 v4 (T.length+k+1) (us2++[u1,u2])→(wr.alloc o).grownBy w4 pv.ownBlock→(v4.ownBlock=pv.ownBlock∨v4.ownBlock=some (wr.alloc o).heap.size)→
            Prs w.heap.size w4 (T++(l.zip m).take (k+1)) v4 (us2++[u1,u2])∧Be (Off v4) w4 l (some ⟨b1,o1,none⟩) c1∧Be (Off v4) w4 m (some ⟨b2,o2,none⟩) c2∧Below w.heap.size w w4:=by
           intro o w4 v4 hown hgrow hat;have hkp:=LW hgrow hat
           refine ⟨?_,(hR1.below (hA o)).keep hgrow.size hkp,(hR2.below (hA o)).keep hgrow.size hkp,(hW.trans ((hA o).mono hW.size)).grown hgrow (Afr hW.size (hA o).size) (fun k hk=>(hP.row.lt k hk).1)⟩;rw [Hz.out,←List.append_assoc];exact (hPd o).push (hn1.below (hA o)) (hn2.below (hA o)) (by rw [hlen2];exact hown) hgrow hat
          have h1:(∃ T q,u1=.iface T q)∨u1=.nilIface:=hn1.elim fun _ h=>Ay h
          have h2:(∃ T q,u2=.iface T q)∨u2=.nilIface:=hn2.elim fun _ h=>Ay h
          have hbase:=fun o=>Afr hW.size (hA o).size
          clear hPd hR1 hR2 hW hP hn1 hn2 hA hlen2;rcases h1 with ⟨T1,r1,rfl⟩ | rfl
          all_goals
           rcases h2 with ⟨T2,r2,rfl⟩ | rfl
           all_goals
            go_wp2_with (at_builtin;refine Ag _ rfl _ _ 82 rfl w.heap.size 81 i0 (.agg #[.nilIface,.nilIface]) 2 32 underlying82 hi hz0 hz1 hz2 rfl (by decide) _ _ _ rfl (hrow _) (some ⟨wr.heap.size,0,none⟩) 1 1 [_,_] rfl rfl (fun _=>⟨_,rfl,cell_two_new _ _ _ _⟩) (by intro y hy;simp at hy;rcases hy with rfl | rfl <;> rfl) hm1 hm2 (hbase _) ?_;intro v4 w4 hown hgrow hat)
            obtain ⟨g1,g2,g3,g4⟩:=hPush _ _ _ hown hgrow hat;clear hrow hbase hPush hown hgrow hat;go_roundw
            case rel=>exact ⟨k+1,_,_,by omega,by go_num,rfl,g1,g2,g3,g4⟩
            case measure=>simp [intOf];omega
         ·obtain rfl:k=l.length:=by omega
          have hz2:(l.zip m).take l.length=l.zip m:=List.take_of_length_le (by rw [List.length_zip];omega);rw [hz2] at hP;go_wp2_with fail
          go_roundg (DS (T++l.zip m)+1)
          case measure=>exact Hgn.out
          case rel=>exact ⟨_,_,_,rfl,hP,HRn.out,Afq _,Hsn.out,hW⟩
       ·have e1:((l.length:Int) != (m.length:Int))=true:=by simp;omega
        have Hf:=Afj (show R=false by rw [Hr.out,Ps _ _ hl,Bool.and_false,Bool.and_false]);clear hl;go_wp2_with (go_at_call 34;refine hA2.mono ?_;rintro r w3 ⟨rfl,b3⟩)
        go_ret;exact ⟨IV Hf.out.symm,hW.trans (b3.mono hW.size)⟩
def IG (x y:Adr):Bool:=
 if x.kind=y.kind then (if x.kind=1∨x.kind=4 then decide (x.line=y.line) else if x.kind=3 then (match x.tree,y.tree with | some d,some e=>Dv d e | _,_=>true) else true) else false
def Cg (x y:Adr) (R:Bool):Bool:=
 if x.kind=y.kind then (if x.kind=1∨x.kind=4 then R else if x.kind=3 then (match x.tree,y.tree with | some d,some e=>Dv d e | _,_=>true) else true) else false
theorem It (x y:Adr):Cg x y (decide ((x.line:Int)=(y.line:Int)))=IG x y:=by
 unfold Cg IG;rw [show decide ((x.line:Int)=(y.line:Int))=decide (x.line=y.line) from decide_eq_decide.2 (by omega)]
theorem IZ (x:Adr):IG x x=true:=by
 unfold IG;rw [if_pos rfl];split
 ·simp
 ·split
  ·cases x.tree with
   | none=>rfl
   | some d=>exact Ee d
  ·rfl
def Bx (x:Adr):Prop:=x.kind=3→∃ d,x.tree=some d∧Ax d≤4000000
theorem KH (x y:Adr) (lx ly:Int) (sx sy:ByteArray) (tx ty:Value) (w:World) (hx:TrO (fun b=>b < w.heap.size) w x.tree tx) (hy:TrO (fun b=>b < w.heap.size) w y.tree ty) (fx:Bx x) (fy:Bx y) :
  Calls prog 25 #[.agg #[.int .i64 (x.kind:Int),.int .i64 lx,.string sx,tx],.agg #[.int .i64 (y.kind:Int),.int .i64 ly,.string sy,ty]] w fun e w'=>e=.returned (.bool (Cg x y (decide (lx=ly))))∧Below w.heap.size w w':=by
 have hw2:∀ W2,Below w.heap.size w W2→∀ {t v},TrO (fun b=>b < w.heap.size) w t v→TrO (fun b=>b < W2.heap.size) W2 t v:=fun W2 hb t v h=>TrO.keep hb.size (fun b hb1 hl=>⟨Aft hl hb.size,fun o=>hb.cell (p:=⟨b,o,none⟩) hl⟩) h
 have hX:=Blk.new w #[.int .i64 (x.kind:Int),.int .i64 lx,.string sx,tx] 47 _ rfl;have hb1:=(Afv w.heap.size w).alloc (Afq _) (.cells #[.int .i64 (x.kind:Int),.int .i64 lx,.string sx,tx] 47);have hs1:=World.size_alloc w (.cells #[.int .i64 (x.kind:Int),.int .i64 lx,.string sx,tx] 47);obtain ⟨W1,hW1⟩:∃ W1,w.alloc (.cells #[.int .i64 (x.kind:Int),.int .i64 lx,.string sx,tx] 47)=W1:=⟨_,rfl⟩;rw [hW1] at hX hb1 hs1;have hY:=Blk.new W1 #[.int .i64 (y.kind:Int),.int .i64 ly,.string sy,ty] 47 _ rfl;have hb2:=hb1.alloc hb1.size (.cells #[.int .i64 (y.kind:Int),.int .i64 ly,.string sy,ty] 47);replace hX:=hX.alloc (.cells #[.int .i64 (y.kind:Int),.int .i64 ly,.string sy,ty] 47);obtain ⟨W2,hW2⟩:∃ W2,W1.alloc (.cells #[.int .i64 (y.kind:Int),.int .i64 ly,.string sy,ty] 47)=W2:=⟨_,rfl⟩;rw [hW2] at hX hY hb2;obtain ⟨p,hp⟩:∃ p,W1.heap.size=p:=⟨_,rfl⟩;rw [hp] at hY;obtain ⟨x0,x1,x2,x3,_,_,_,_,hxl⟩:=Bj hX;obtain ⟨y0,y1,y2,y3,_,_,_,_,hyl⟩:=Bj hY;have HB:=Afj hb2;have HX:=Afj (hw2 _ hb2 hx);have HY:=Afj (hw2 _ hb2 hy);have hshx:=hx.shape;have hshy:=hy.shape;clear hX hY hb1 hb2 hs1 hx hy hw2;by_cases hk:x.kind=y.kind
 ·have hkk:((x.kind:Int) != (y.kind:Int))=false:=by simp [hk]
  by_cases h14:x.kind=1∨x.kind=4
  ·rw [show Cg x y (decide (lx=ly))=decide (lx=ly) by unfold Cg;rw [if_pos hk,if_pos h14]];have hl:(lx == ly)=decide (lx=ly):=by
    by_cases h:lx=ly
    ·rw [decide_eq_true h];simp [h]
    ·rw [decide_eq_false h];simp;omega
   generalize decide (lx=ly)=R at hl ⊢;rcases h14 with h | h
   ·have q1:((x.kind:Int) == 1)=true:=by simp [h]
    clear h hk fx fy;rcases hshx with ⟨T8,q8,rfl⟩ | rfl <;> rcases hshy with ⟨T9,q9,rfl⟩ | rfl
    all_goals
     go_enter func25,ntmps25;go_wp2_with fail
     go_ret;exact ⟨rfl,HB.out⟩
   ·have q1:((x.kind:Int) == 1)=false:=by simp [h]
    have q4:((x.kind:Int) == 4)=true:=by simp [h]
    clear h hk fx fy;rcases hshx with ⟨T8,q8,rfl⟩ | rfl <;> rcases hshy with ⟨T9,q9,rfl⟩ | rfl
    all_goals
     go_enter func25,ntmps25;go_wp2_with fail
     go_ret;exact ⟨rfl,HB.out⟩
  ·have q1:((x.kind:Int) == 1)=false:=by simp;omega
   have q4:((x.kind:Int) == 4)=false:=by simp;omega
   by_cases h3:x.kind=3
   ·obtain ⟨d,hd,hsz⟩:=fx h3;obtain ⟨e,he,_⟩:=fy (hk▸h3);rw [show Cg x y (decide (lx=ly))=Dv d e by unfold Cg;rw [if_pos hk,if_neg h14,if_pos h3,hd,he]];have q3:((x.kind:Int) == 3)=true:=by simp [h3]
    have hX:=HX.out;have hY:=HY.out;rw [hd] at hX;rw [he] at hY;have hS:=LX d e tx ty W2 hX hY hsz;generalize Dv d e=R at hS ⊢;clear hk h14 h3 fx fy hX hY hd he;rcases hshx with ⟨T8,q8,rfl⟩ | rfl <;> rcases hshy with ⟨T9,q9,rfl⟩ | rfl
    all_goals
     go_enter func25,ntmps25;go_wp2_with (go_at_call 26;refine hS.mono ?_;clear hS;rintro e w3 ⟨rfl,b3⟩)
     go_ret;exact ⟨rfl,HB.out.trans (b3.mono HB.out.size)⟩
   ·rw [show Cg x y (decide (lx=ly))=true by unfold Cg;rw [if_pos hk,if_neg h14,if_neg h3]];have q3:((x.kind:Int) == 3)=false:=by simp;omega
    clear hk h14 h3 fx fy;rcases hshx with ⟨T8,q8,rfl⟩ | rfl <;> rcases hshy with ⟨T9,q9,rfl⟩ | rfl
    all_goals
     go_enter func25,ntmps25;go_wp2_with fail
     go_ret;exact ⟨rfl,HB.out⟩
 ·rw [show Cg x y (decide (lx=ly))=false by unfold Cg;rw [if_neg hk]];have hkk:((x.kind:Int) != (y.kind:Int))=true:=by simp;omega
  clear hk fx fy;rcases hshx with ⟨T8,q8,rfl⟩ | rfl <;> rcases hshy with ⟨T9,q9,rfl⟩ | rfl
  all_goals
   go_enter func25,ntmps25;go_wp2_with fail
   go_ret;exact ⟨rfl,HB.out⟩
def Rs (g h:Grd):Bool:=g.no == h.no && (IG g.a h.a && IG g.b h.b)
def Nt (g h:Grd) (R1 R2:Bool):Bool:=g.no == h.no && (Cg g.a h.a R1 && Cg g.b h.b R2)
structure Gd3 (B:Nat) (g h:Grd) (ta tb tc td:Value) (W:World):Prop where
 a:TrO (fun b=>b < B) W g.a.tree ta
 b:TrO (fun b=>b < B) W g.b.tree tb
 c:TrO (fun b=>b < B) W h.a.tree tc
 d:TrO (fun b=>b < B) W h.b.tree td
abbrev Gd2 (g h:Grd) (ta tb tc td:Value) (W:World):Prop:=Gd3 W.heap.size g h ta tb tc td W
theorem Jv {F:Nat→Prop} {w:World} {t:Option Nd} {v:Value} (h:TrO F w t v):TrO (fun b=>b < w.heap.size) w t v:=TrO.keep (Afq _) (fun _ _ hl=>⟨hl,fun _=>rfl⟩) h
theorem Gd3.keep {B:Nat} {g h:Grd} {ta tb tc td:Value} {w W:World} (k:Gd3 B g h ta tb tc td w) (hs:w.heap.size≤W.heap.size) (hb:∀ b,b < B→W.heap[b]?=w.heap[b]?):Gd3 B g h ta tb tc td W:=by
 have e:∀ {t:Option Nd} {v:Value},TrO (fun b=>b < B) w t v→TrO (fun b=>b < B) W t v:=fun k=>TrO.keep hs (fun b h1 _=>⟨h1,fun o=>Afy (w:=w) (a:=⟨b,o,none⟩) (hb b h1)⟩) k
 exact ⟨e k.a,e k.b,e k.c,e k.d⟩
theorem Gd3.wide {B:Nat} {g h:Grd} {ta tb tc td:Value} {W:World} (k:Gd3 B g h ta tb tc td W):Gd2 g h ta tb tc td W:=⟨Jv k.a,Jv k.b,Jv k.c,Jv k.d⟩
theorem DO {w W:World} (hb:Below w.heap.size w W) {t:Option Nd} {v:Value} (h:TrO (fun b=>b < w.heap.size) w t v):TrO (fun b=>b < W.heap.size) W t v:=
 TrO.keep hb.size (fun b _ hl=>⟨Aft hl hb.size,fun o=>hb.cell (p:=⟨b,o,none⟩) hl⟩) h
theorem Rt {g h:Grd} {ta tb tc td:Value} {w W:World} (k:Gd2 g h ta tb tc td w) (hb:Below w.heap.size w W):Gd2 g h ta tb tc td W:=⟨DO hb k.a,DO hb k.b,DO hb k.c,DO hb k.d⟩
theorem Ru (g h:Grd) (la lb lc ld:Int) (sa sb sc sd:ByteArray) (ta tb tc td:Value) (w:World) (k:Gd2 g h ta tb tc td w) (fa:Bx g.a) (fb:Bx g.b) (fc:Bx h.a) (fd:Bx h.b) :
  Calls prog 17 #[.agg #[.int .i64 (g.a.kind:Int),.int .i64 la,.string sa,ta,.int .i64 (g.b.kind:Int),.int .i64 lb,.string sb,tb,.bool g.no],.agg #[.int .i64 (h.a.kind:Int),.int .i64 lc,.string sc,tc,.int .i64 (h.b.kind:Int),.int .i64 ld,.string sd,td,.bool h.no]] w fun e w'=>e=.returned (.bool (Nt g h (decide (la=lc)) (decide (lb=ld))))∧Below w.heap.size w w':=by
 have hX:=Blk.new w #[.int .i64 (g.a.kind:Int),.int .i64 la,.string sa,ta,.int .i64 (g.b.kind:Int),.int .i64 lb,.string sb,tb,.bool g.no] 49 _ rfl;have hb1:=(Afv w.heap.size w).alloc (Afq _) (.cells #[.int .i64 (g.a.kind:Int),.int .i64 la,.string sa,ta,.int .i64 (g.b.kind:Int),.int .i64 lb,.string sb,tb,.bool g.no] 49);obtain ⟨W1,hW1⟩:∃ W1,w.alloc (.cells #[.int .i64 (g.a.kind:Int),.int .i64 la,.string sa,ta,.int .i64 (g.b.kind:Int),.int .i64 lb,.string sb,tb,.bool g.no] 49)=W1:=⟨_,rfl⟩;rw [hW1] at hX hb1;have hY:=Blk.new W1 #[.int .i64 (h.a.kind:Int),.int .i64 lc,.string sc,tc,.int .i64 (h.b.kind:Int),.int .i64 ld,.string sd,td,.bool h.no] 49 _ rfl;have hb2:=hb1.alloc hb1.size (.cells #[.int .i64 (h.a.kind:Int),.int .i64 lc,.string sc,tc,.int .i64 (h.b.kind:Int),.int .i64 ld,.string sd,td,.bool h.no] 49);replace hX:=hX.alloc (.cells #[.int .i64 (h.a.kind:Int),.int .i64 lc,.string sc,tc,.int .i64 (h.b.kind:Int),.int .i64 ld,.string sd,td,.bool h.no] 49);obtain ⟨W2,hW2⟩:∃ W2,W1.alloc (.cells #[.int .i64 (h.a.kind:Int),.int .i64 lc,.string sc,tc,.int .i64 (h.b.kind:Int),.int .i64 ld,.string sd,td,.bool h.no] 49)=W2:=⟨_,rfl⟩;rw [hW2] at hX hY hb2;obtain ⟨p,hp⟩:∃ p,W1.heap.size=p:=⟨_,rfl⟩;rw [hp] at hY;have HX:=Afj hX;have HY:=Afj hY;obtain ⟨⟨x0,x1,x2,x3,x4,x5,x6,x7,x8⟩,_,_,_,_,_,_,_,_,_,hxl⟩:=BX hX;obtain ⟨⟨y0,y1,y2,y3,y4,y5,y6,y7,y8⟩,_,_,_,_,_,_,_,_,_,hyl⟩:=BX hY;have HB:=Afj hb2;have hK:=Rt k hb2;have hs1:=KH g.a h.a la lc sa sc ta tc W2 hK.a hK.c fa fc;have hs2:=fun w' (hb:Below W2.heap.size W2 w')=>KH g.b h.b lb ld sb sd tb td w' (Rt hK hb).b (Rt hK hb).d fb fd
 clear hX hY hb1 hb2 k hK fa fb fc fd;unfold Nt;generalize Cg g.a h.a (decide (la=lc))=R1 at hs1 ⊢;generalize Cg g.b h.b (decide (lb=ld))=R2 at hs2 ⊢;obtain ⟨n,hn⟩:∃ n,(g.no == h.no)=n:=⟨_,rfl⟩;rw [hn];cases n
 ·clear hs1 hs2;go_enter func17,ntmps17;go_wp2_with fail
  go_ret;exact ⟨rfl,HB.out⟩
 ·cases R1
  ·clear hs2;go_enter func17,ntmps17;go_wp2_with (go_at_call 25;refine hs1.mono ?_;clear hs1;rintro e w3 ⟨rfl,b3⟩)
   go_ret;exact ⟨rfl,HB.out.trans (b3.mono HB.out.size)⟩
  ·go_enter func17,ntmps17;go_wp2_with (first
    | (go_at_call 25;refine hs1.mono ?_;clear hs1;rintro e w3 ⟨rfl,b3⟩;have hs4:=hs2 w3 b3;clear hs2;have B3:=Afj (HB.out.trans (b3.mono HB.out.size));have X3:=Afj (HX.out.below b3 HX.out.lt);have Y3:=Afj (HY.out.below b3 HY.out.lt);clear b3 x0 x1 x2 x3 x4 x5 x6 x7 x8 hxl y0 y1 y2 y3 y4 y5 y6 y7 y8 hyl;obtain ⟨⟨x0,x1,x2,x3,x4,x5,x6,x7,x8⟩,_,_,_,_,_,_,_,_,_,hxl⟩:=BX X3.out;obtain ⟨⟨y0,y1,y2,y3,y4,y5,y6,y7,y8⟩,_,_,_,_,_,_,_,_,_,hyl⟩:=BX Y3.out)
    | (go_at_call 25;refine hs4.mono ?_;clear hs4;rintro e w4 ⟨rfl,b4⟩))
   go_ret;exact ⟨rfl,B3.out.trans (b4.mono B3.out.size)⟩
theorem Rv (g h:Grd) (ta tb tc td:Value) (w:World) (k:Gd2 g h ta tb tc td w) (fa:Bx g.a) (fb:Bx g.b) (fc:Bx h.a) (fd:Bx h.b) :
  Calls prog 17 #[.agg #[.int .i64 (g.a.kind:Int),.int .i64 (g.a.line:Int),.string (txt g.a.text),ta,.int .i64 (g.b.kind:Int),.int .i64 (g.b.line:Int),.string (txt g.b.text),tb,.bool g.no],.agg #[.int .i64 (h.a.kind:Int),.int .i64 (h.a.line:Int),.string (txt h.a.text),tc,.int .i64 (h.b.kind:Int),.int .i64 (h.b.line:Int),.string (txt h.b.text),td,.bool h.no]] w fun e w'=>e=.returned (.bool (Rs g h))∧Below w.heap.size w w':=by
 have e:=Ru g h g.a.line g.b.line h.a.line h.b.line (txt g.a.text) (txt g.b.text) (txt h.a.text) (txt h.b.text) ta tb tc td w k fa fb fc fd;unfold Nt at e
 rwa [It,It] at e
theorem GM {ext:Bool} {L:List UInt8} {b:Nat} {d:UInt8} {q:(List UInt8 × Nd) × List Wm × Nat} (h:An ext L b d=.ok q):Ax q.1.2≤4000000:=by
 unfold An at h;simp only at h;split at h
 ·split at h
  ·cases h
  ·split at h
   ·cases h
   ·rename_i q' hp;injection h with h;subst h;have:=PR (st:=q'.1) (d:=q'.2) hp;show Ax q'.2≤_;omega
 ·cases h
theorem LY {ext:Bool} {L:List UInt8} {b:Nat} {d:UInt8} {q:Adr × List Wm × Nat} (h:Du ext L b d=.ok q):Bx q.1:=by
 unfold Du at h;split at h
 ·cases h
 ·rename_i hp;injection h with h;subst h;exact fun _=>⟨_,rfl,GM hp⟩
theorem E3 {a:Adr} (h:a.kind≠3):Bx a:=fun h3=>absurd h3 h
theorem Pa {ext second:Bool} {L:List UInt8} {k:Nat} {q:Adr × List Wm × Nat} (h:DQ ext second L k=.ok q):Bx q.1:=by
 unfold DQ at h;split at h
 ·injection h with h;subst h;exact E3 (Nat.ne_of_lt (Nat.lt_of_sub_eq_succ rfl))
 ·split at h
  ·unfold CK at h;simp only at h;split at h
   ·split at h
    ·cases h
    ·injection h with h;subst h;exact E3 (Nat.ne_of_lt (Nat.lt_of_sub_eq_succ rfl))
   ·cases h
  ·split at h
   ·injection h with h;subst h;exact E3 (Nat.ne_of_lt (Nat.lt_of_sub_eq_succ rfl))
   ·split at h
    ·exact LY h
    ·split at h
     ·unfold Es at h;split at h
      ·cases h
      ·split at h
       ·cases h
       ·exact LY h
     ·split at h
      ·unfold CL at h;simp only at h;split at h
       ·injection h with h;subst h;exact E3 (Nat.ne_of_gt (Nat.lt_of_sub_eq_succ rfl))
       ·cases h
      ·injection h with h;subst h;exact E3 (Nat.ne_of_lt (Nat.lt_of_sub_eq_succ rfl))
theorem XE {ext:Bool} {L:List UInt8} {k:Nat} {q:Grd × List Wm × Nat} (h:GS ext L k=.ok q):Bx q.1.a∧Bx q.1.b:=by
 unfold GS at h;cases h1:DQ ext false L k with
 | error q=>rw [h1] at h;cases h
 | ok r=>
  rw [h1] at h;have f1:=Pa h1;unfold CT at h;simp only at h;split at h
  ·unfold FK EX at h;simp only at h;split at h
   ·cases h
   ·injection h with h;subst h;exact ⟨f1,E3 (show (0:Nat)≠3 by decide)⟩
  ·cases h2:BC ext L r.2.2 with
   | error q=>rw [h2] at h;cases h
   | ok r2=>
    rw [h2] at h;have f2:Bx r2.1:=by
     unfold BC at h2;split at h2
     ·unfold DB at h2;split at h2
      ·cases h2
      ·rename_i h3;split at h2
       ·cases h2
       ·injection h2 with h2;subst h2;exact Pa h3
     ·injection h2 with h2;subst h2;exact E3 (show (0:Nat)≠3 by decide)
    unfold EG FK EX at h;simp only at h;split at h
    ·cases h
    ·injection h with h;subst h;exact ⟨f1,f2⟩
theorem SD {ext:Bool} {L:List UInt8} {k:Nat} {q:Nat × Nat} (h:GS ext L k=.error q):q.1≠0:=by
 unfold GS at h;cases h1:DQ ext false L k with
 | error q2=>
  rw [h1] at h;have e:=Js h1;unfold CT FK at h;injection h with h;rw [←h];exact e
 | ok r=>
  rw [h1] at h;unfold CT at h;simp only at h;split at h
  ·unfold FK EX at h;simp only at h;split at h
   ·rename_i h2;injection h with h;rw [←h];exact Gs h2
   ·cases h
  ·cases h2:BC ext L r.2.2 with
   | error q2=>
    rw [h2] at h;have e:=LL h2;unfold EG FK at h;injection h with h;rw [←h];exact e
   | ok r2=>
    rw [h2] at h;unfold EG FK EX at h;simp only at h;split at h
    ·rename_i h3;injection h with h;rw [←h];exact Gs h3
    ·cases h
theorem Abd {ext:Bool} {L:List UInt8} {d:UInt8} {st:CS} (hk:st.k≤L.length) (h0:(Dm ext L d st).1=0):(Dm ext L d st).2.k≤L.length∧(Dm ext L d st).2.ms.length≤st.ms.length+250∧∃ D,(Dm ext L d st).2.c.sub.tree=some D∧Ax D≤4000000:=by
 unfold Dm at h0 ⊢;cases hR:An ext L st.k d with
 | error q=>rw [hR] at h0;exact absurd h0 (Fe hR)
 | ok q=>
  obtain ⟨h1,h2⟩:=K6 hk hR;refine ⟨h1,?_,_,rfl,GM hR⟩;show (st.ms++q.2.1).length≤_;rw [Afs];omega
theorem XF (w:World) (p:Nat) (s:ByteArray) (ext:Bool) (st:CS) (W:World) (h:Dy w p s ext st W) (hs:s.size≤4000) (hk:st.k≤s.size) (hl:st.ms.length≤90000) (hG:Gl w) (hP:GP w) :
  Calls prog 46 #[.pointer (some ⟨p,0,none⟩)] W fun e W'=>e=.returned (.int .i64 ((BU ext s.data.toList st).1:Int))∧Dy w p s ext (BU ext s.data.toList st).2 W':=by
 have hs4:s.size≤4000000:=by omega
 have hA:=OR w p s ext st W h hs4 hk;have hk1:=Eu (L:=s.data.toList) (st:=st) (by rw [←Ae];exact hk);have hm1:=DI s.data.toList st;rw [←Ae] at hk1;obtain ⟨Z,hZ⟩:∃ Z,BU ext s.data.toList st=Z:=⟨_,rfl⟩;rw [hZ];unfold BU at hZ;obtain ⟨⟨d,e1,s1⟩,hR1⟩:∃ R,Au s.data.toList st=R:=⟨_,rfl⟩;rw [hR1] at hA hk1 hm1 hZ;simp only at hA hk1 hm1 hZ;unfold CO.then at hZ
 simp only at hZ;clear hR1 h;by_cases h1:e1=0
 ·subst h1;rw [if_pos rfl] at hZ;have hB:=fun W1 (h1:Dy w p s ext s1 W1)=>Aaa w p s ext s1 d W1 h1 hs4 hk1 (by rw [hm1];exact hl) hG hP
  have hok2:=Abd (ext:=ext) (d:=d) (st:=s1) (L:=s.data.toList) (by rw [←Ae];exact hk1);obtain ⟨⟨e2,s2⟩,hR2⟩:∃ R,Dm ext s.data.toList d s1=R:=⟨_,rfl⟩;rw [hR2] at hB hok2 hZ;simp only at hB hok2 hZ;clear hR2;by_cases h2:e2=0
  ·subst h2;rw [if_pos rfl] at hZ;obtain ⟨hk2,hm2,D,hD,hDz⟩:=hok2 rfl;rw [←Ae] at hk2;have hC:=fun W1 (h1:Dy w p s ext s2 W1)=>X5 w p s ext s2 d D W1 h1 hD hDz hs hk2 hP
   have hk3:=Ic (L:=s.data.toList) (d:=d) (st:=s2) (by rw [←Ae];exact hk2);have hm3:=Mz s.data.toList d s2;rw [←Ae] at hk3;obtain ⟨⟨e3,s3⟩,hR3⟩:∃ R,CA s.data.toList d s2=R:=⟨_,rfl⟩;rw [hR3] at hC hk3 hm3 hZ;simp only at hC hk3 hm3 hZ;by_cases h3:e3=0
   ·subst h3;rw [if_pos rfl,←Ae] at hZ;have hE:=fun W1 (h1:Dy w p s ext s3 W1)=>Rc w p s ext s3 W1 h1 hs4 hk3 (by rw [hm3];rw [hm1] at hm2;omega)
    rw [hZ] at hE;clear hR3 hZ hok2 hD hDz hk3 hm3 hm2 hk2 hm1 hk1 hG hP hl hk;go_enter func46,ntmps46;go_wp2_with (first
     | (go_at_call 70;refine hA.mono ?_;clear hA;rintro e w1 ⟨rfl,h1⟩)
     | (go_at_call 71;refine (hB _ h1).mono ?_;clear hB;rintro e w2 ⟨rfl,h2⟩)
     | (go_at_call 72;refine (hC _ h2).mono ?_;clear hC;rintro e w3 ⟨rfl,h3⟩)
     | (go_at_call 73;refine (hE _ h3).mono ?_;clear hE;rintro e w4 ⟨rfl,h4⟩))
    go_ret;exact ⟨rfl,h4⟩
   ·rw [if_neg h3] at hZ;subst hZ;have ce:((e3:Int) != 0)=true:=by simpa using h3
    clear hR3 hok2 hD hDz hk3 hm3 hm2 hk2 hm1 hk1 hG hP hl hk h3;go_enter func46,ntmps46;go_wp2_with (first
     | (go_at_call 70;refine hA.mono ?_;clear hA;rintro e w1 ⟨rfl,h1⟩)
     | (go_at_call 71;refine (hB _ h1).mono ?_;clear hB;rintro e w2 ⟨rfl,h2⟩)
     | (go_at_call 72;refine (hC _ h2).mono ?_;clear hC;rintro e w3 ⟨rfl,h3⟩))
    go_ret;exact ⟨rfl,h3⟩
  ·rw [if_neg h2] at hZ;subst hZ;have ce:((e2:Int) != 0)=true:=by simpa using h2
   clear hok2 hm1 hk1 hG hP hl hk h2;go_enter func46,ntmps46;go_wp2_with (first
    | (go_at_call 70;refine hA.mono ?_;clear hA;rintro e w1 ⟨rfl,h1⟩)
    | (go_at_call 71;refine (hB _ h1).mono ?_;clear hB;rintro e w2 ⟨rfl,h2⟩))
   go_ret;exact ⟨rfl,h2⟩
 ·rw [if_neg h1] at hZ;subst hZ;have ce:((e1:Int) != 0)=true:=by simpa using h1
  clear hm1 hk1 hG hP hl hk h1;go_enter func46,ntmps46;go_wp2_with (go_at_call 70;refine hA.mono ?_;clear hA;rintro e w1 ⟨rfl,h1⟩)
  go_ret;exact ⟨rfl,h1⟩
def LsA (W:World) (R:Option (List UInt8)) (e:Ending) (W':World):Prop:=Below W.heap.size W W'∧match R with
 | none=>∃ a n c,e=.returned (.tuple #[.slice a n c,.bool false])
 | some l=>∃ a c,e=.returned (.tuple #[.slice a l.length c,.bool true])∧W'.ownsRow W.heap.size 5 1 (.slice a l.length c) l.length (Lib.byteCells l)
theorem LZ (s:ByteArray) (W:World) (hs:s.size≤4000000):Calls prog 94 #[.string s] W (LsA W (BV s.data.toList false [])):=by
 obtain ⟨R,hR⟩:∃ R,BV s.data.toList false []=R:=⟨_,rfl⟩;rw [hR];have HR:=Afj hR;obtain ⟨i0,hi,hz0,hz1,hz2⟩:=OU;clear hR;go_enter func94,ntmps94;go_wp2_with fail
 go_loopw [4,5,10] (fun l e i wr=>∃ (j:Nat) (esc:Bool) (acc:List UInt8) (a:Option Addr) (c:Nat),j≤s.size∧l=.slice a acc.length c∧e=.bool esc∧i=.int .i64 j∧wr.ownsRow W.heap.size 5 1 (.slice a acc.length c) acc.length (Lib.byteCells acc)∧Below W.heap.size W wr∧BV (s.data.toList.drop j) esc acc=R∧acc.length≤j) (fun _ _ i _=>s.size - (intOf i).toNat)
 case atStart=>exact ⟨0,false,[],none,0,by omega,rfl,rfl,rfl,World.ownsRow_nil _ _ _ _,Afv _ _,HR.out,by simp⟩
 case round=>
  obtain ⟨j,esc,acc,a,c,hj,rfl,rfl,rfl,hrow,hbw,hc,hal⟩:=hrel;have HRw:=Afj hrow;have HB:=Afj hbw;have hBs:W.heap.size≤wr.heap.size:=hbw.size;have hm1:acc.length+1≤maxLen:=by unfold maxLen;omega
  have hm2:(acc.length+1) * 1≤140737488355328:=by omega
  clear hrow hbw;by_cases hlt:j < s.size
  ·have hji:(j:Int) < (s.size:Int):=by omega
   have hy0:(0:Int)≤(j:Int):=by omega
   rw [Bm s j hlt] at hc;obtain ⟨b,hb⟩:∃ b,s[j]=b:=⟨_,rfl⟩;have hsx:s[j]'hlt=b:=hb;rw [hb] at hc;clear hb;have Wj:IntKind.i64.wrap ((j:Int)+1)=(j:Int)+1:=Afx _ (by omega);cases esc with
   | false=>
    by_cases h92:b=92
    ·have q92:((b.toNat:Int) == 92)=true:=by rw [h92];rfl
     have HC:=Afj (show BV (s.data.toList.drop (j+1)) true acc=R by rw [←hc,h92];simp [BV]);clear h92 hc;go_wp2_with fail
     go_roundw
     case rel=>exact ⟨j+1,true,acc,a,c,by omega,rfl,rfl,by go_num,HRw.out,HB.out,HC.out,by omega⟩
     case measure=>simp [intOf];omega
    ·have q92:((b.toNat:Int) == 92)=false:=Aq (c:=92) h92;have HC:=Afj (show BV (s.data.toList.drop (j+1)) false (acc++[b])=R by rw [←hc];simp [BV,h92]);clear h92 hc;have hbl:=(Afv wr.heap.size wr).alloc (Afq _) (.cells #[.int .u8 (b.toNat:Int)] 5);have hbs2:W.heap.size≤(wr.alloc (.cells #[.int .u8 (b.toNat:Int)] 5)).heap.size:=Afr hBs hbl.size;have HBL:=Afj hbl;clear hbl;go_wp2_with (at_builtin;refine wpList_append_own_at _ rfl _ _ 164 rfl W.heap.size 5 i0 (.int .u8 0) 1 1 underlying164 hi hz0 hz1 hz2 rfl (by decide) (.slice a acc.length c) acc.length (Lib.byteCells acc) rfl (Ah HRw.out HBL.out) ⟨wr.heap.size,0,none⟩ 1 1 [.int .u8 (b.toNat:Int)] rfl rfl (Jt _ _ _) (by intro u hu;simp at hu;subst hu;rfl) hm1 hm2 hbs2 ?_;intro v6 w6 hown6 hgr6 _ hat6;obtain ⟨a6,c6,rfl⟩:=AB hown6;have HO:=Afj hown6;have HB6:=Afj ((HB.out.trans (HBL.out.mono hBs)).grown hgr6 hbs2 (fun k hk=>AS HRw.out k hk));clear hown6 hgr6 hat6);go_roundw;(case rel=>exact ⟨j+1,false,acc++[b],a6,c6,by omega,by simp,rfl,by go_num,(by have h9:=HO.out;rw [Ds,Afs];exact h9),HB6.out,HC.out,by simp;omega⟩);(case measure=>simp [intOf];omega)
   | true=>
    by_cases h110:b=110
    ·have q110:((b.toNat:Int) == 110)=true:=by rw [h110];rfl
     have HC:=Afj (show BV (s.data.toList.drop (j+1)) false (acc++[10])=R by rw [←hc,h110];simp [BV]);clear h110 hc;have hbl:=(Afv wr.heap.size wr).alloc (Afq _) (.cells #[.int .u8 10] 5);have hbs2:W.heap.size≤(wr.alloc (.cells #[.int .u8 10] 5)).heap.size:=Afr hBs hbl.size;have HBL:=Afj hbl;clear hbl;go_wp2_with (at_builtin;refine wpList_append_own_at _ rfl _ _ 164 rfl W.heap.size 5 i0 (.int .u8 0) 1 1 underlying164 hi hz0 hz1 hz2 rfl (by decide) (.slice a acc.length c) acc.length (Lib.byteCells acc) rfl (Ah HRw.out HBL.out) ⟨wr.heap.size,0,none⟩ 1 1 [.int .u8 10] rfl rfl (Jt _ _ _) (by intro u hu;simp at hu;subst hu;rfl) hm1 hm2 hbs2 ?_;intro v6 w6 hown6 hgr6 _ hat6;obtain ⟨a6,c6,rfl⟩:=AB hown6;have HO:=Afj hown6;have HB6:=Afj ((HB.out.trans (HBL.out.mono hBs)).grown hgr6 hbs2 (fun k hk=>AS HRw.out k hk));clear hown6 hgr6 hat6);go_roundw;(case rel=>exact ⟨j+1,false,acc++[10],a6,c6,by omega,by simp,rfl,by go_num,(by have h9:=HO.out;rw [Ds,Afs];exact h9),HB6.out,HC.out,by simp;omega⟩);(case measure=>simp [intOf];omega)
    ·have q110:((b.toNat:Int) == 110)=false:=Aq (c:=110) h110;by_cases h92:b=92
     ·have q92:((b.toNat:Int) != 92)=false:=by rw [h92];rfl
      have HC:=Afj (show BV (s.data.toList.drop (j+1)) false (acc++[b])=R by rw [←hc,h92];simp [BV]);clear h110 h92 hc;have hbl:=(Afv wr.heap.size wr).alloc (Afq _) (.cells #[.int .u8 (b.toNat:Int)] 5);have hbs2:W.heap.size≤(wr.alloc (.cells #[.int .u8 (b.toNat:Int)] 5)).heap.size:=Afr hBs hbl.size;have HBL:=Afj hbl;clear hbl;go_wp2_with (at_builtin;refine wpList_append_own_at _ rfl _ _ 164 rfl W.heap.size 5 i0 (.int .u8 0) 1 1 underlying164 hi hz0 hz1 hz2 rfl (by decide) (.slice a acc.length c) acc.length (Lib.byteCells acc) rfl (Ah HRw.out HBL.out) ⟨wr.heap.size,0,none⟩ 1 1 [.int .u8 (b.toNat:Int)] rfl rfl (Jt _ _ _) (by intro u hu;simp at hu;subst hu;rfl) hm1 hm2 hbs2 ?_;intro v6 w6 hown6 hgr6 _ hat6;obtain ⟨a6,c6,rfl⟩:=AB hown6;have HO:=Afj hown6;have HB6:=Afj ((HB.out.trans (HBL.out.mono hBs)).grown hgr6 hbs2 (fun k hk=>AS HRw.out k hk));clear hown6 hgr6 hat6);go_roundw;(case rel=>exact ⟨j+1,false,acc++[b],a6,c6,by omega,by simp,rfl,by go_num,(by have h9:=HO.out;rw [Ds,Afs];exact h9),HB6.out,HC.out,by simp;omega⟩);(case measure=>simp [intOf];omega)
     ·have q92:((b.toNat:Int) != 92)=true:=by have e:=Aq (c:=92) h92;rw [bne,show ((b.toNat:Int) == 92)=false from e];rfl
      have HC:=Afj (show R=none by rw [←hc];simp [BV,h110,h92]);clear h110 h92 hc;go_wp2_with fail
      go_ret2
      rw [HC.out];exact ⟨HB.out,none,0,0,rfl⟩
  ·obtain rfl:j=s.size:=by omega
   rw [Bs s s.size (Afq _)] at hc;cases esc with
   | true=>
    have HC:=Afj (show R=none by rw [←hc];rfl);clear hc;go_wp2_with fail
    go_ret2
    rw [HC.out];exact ⟨HB.out,_,_,_,rfl⟩
   | false=>
    have HC:=Afj (show R=some acc by rw [←hc];rfl);clear hc;go_wp2_with fail
    go_ret2
    rw [HC.out];exact ⟨HB.out,a,c,rfl,HRw.out⟩
def tabC (T:List UInt8):Array Value:=(Lib.byteCells T).toArray
def stdC (seen:List UInt8):Array Value:=((List.range 256).map fun k=>Value.bool (decide (UInt8.ofNat k∈seen))).toArray
theorem SE (T:List UInt8) (j:Nat) (b:UInt8):(tabC T).setIfInBounds j (.int .u8 (b.toNat:Int))=tabC (T.set j b):=by
 unfold tabC Lib.byteCells;rw [Afk,List.map_set]
theorem Nu (T:List UInt8) (j:Nat) (h:j < T.length):(tabC T)[j]?=some (.int .u8 (T[j].toNat:Int)):=by
 unfold tabC Lib.byteCells;rw [List.getElem?_toArray,List.getElem?_map,Af4 h];rfl
theorem Aah (seen:List UInt8) (b:UInt8):(stdC seen)[b.toNat]?=some (.bool (decide (b∈seen))):=by
 unfold stdC;rw [List.getElem?_toArray,List.getElem?_map,List.getElem?_range b.toNat_lt];simp
theorem Aai (seen:List UInt8) (b:UInt8):(stdC seen).setIfInBounds b.toNat (.bool true)=stdC (b :: seen):=by
 unfold stdC;rw [Afk]
 congr 1
 refine List.ext_getElem (by simp) fun k h1 h2=>?_
 have hk:k < 256:=by simpa using h2
 rw [List.getElem_set,List.getElem_map,List.getElem_map,List.getElem_range];by_cases h:b.toNat=k
 ·rw [if_pos h];have:UInt8.ofNat k=b:=by rw [←h];simp
  simp [this]
 ·rw [if_neg h];have:¬ UInt8.ofNat k=b:=fun e=>h (by rw [←e,UInt8.toNat_ofNat'];omega)
  simp [this]
theorem Adu {T:List UInt8} (hl:T.length=256) (h:∀ k,k < 256→T[k]?=some (UInt8.ofNat k)):T=JL:=by
 refine List.ext_getElem? fun k=>?_
 by_cases hk:k < 256
 ·rw [h k hk];unfold JL;rw [List.getElem?_map,List.getElem?_range hk];rfl
 ·rw [List.getElem?_eq_none (by omega),List.getElem?_eq_none (by unfold JL;simp;omega)]
theorem Aaj {T:List UInt8} {i:Nat} (hi:i < 256) (hl:T.length=256) (h:∀ k,k < i→T[k]?=some (UInt8.ofNat k)):∀ k,k < i+1→(T.set i (UInt8.ofNat i))[k]?=some (UInt8.ofNat k):=by
 intro k hk;rw [List.getElem?_set];by_cases e:i=k
 ·rw [if_pos e,if_pos (by omega),e]
 ·rw [if_neg e];exact h k (by omega)
theorem Rw {k:UInt8} {ks vs seen T:List UInt8}:Ia (k :: ks) vs seen T=if k∈seen then none else Ia ks vs.tail (k :: seen) (T.set k.toNat (vs.headD 0)):=by
 rw [Ia]
def tbZ (R:Option (List UInt8)):List UInt8 × Nat:=match R with | none=>([],15) | some T=>(T,0)
theorem XG (T:List UInt8):strOfNums (T.map fun b=>(b.toNat:Int))=txt T:=by
 unfold strOfNums txt
 congr 1
 rw [List.map_map]
 congr 1
 conv=>rhs;rw [←List.map_id T]
 exact List.map_congr_left fun b _=>by simp
theorem Pb {l:List UInt8} {j:Nat} (h:j < l.length):l.drop j=l[j] :: l.drop (j+1):=List.drop_eq_getElem_cons h
theorem Abe {w:World} {B n c:Nat} {T:TypeId} {a:Option Addr} {l:List UInt8} (h:w.ownsRow B T 1 (.slice a n c) n (Lib.byteCells l)) (h0:0 < l.length):∃ q,a=some ⟨q,0,none⟩∧l.length≤maxLen∧q < w.heap.size∧∀ j (h:j < l.length),w.cell? ⟨q,j,none⟩=some (.int .u8 (l[j].toNat:Int)):=by
 have hn:n=l.length:=by have:=h.1;rw [Lib.byteCells_length] at this;omega
 rcases h.2 with ⟨h1,h2⟩ | ⟨g,cap,cur,h1,hB,hg,hc1,hc2,_,ht⟩
 ·omega
 ·injection h1 with h1 h2 h3;refine ⟨g,h1,by omega,(Af6.1 hg).1,fun j hj=>?_⟩;have hh:(Lib.byteCells l)[j]?=some (.int .u8 (l[j].toNat:Int)):=by
   unfold Lib.byteCells;rw [List.getElem?_map,Af4 hj];rfl
  rw [←ht,List.getElem?_take] at hh;split at hh
  ·simp only [World.cell?,hg];rw [Array.getElem?_toList] at hh;simpa using hh
  ·cases hh
theorem XH:Tryz.zeroCells180=tabC (List.replicate 256 0):=by kernel_rfl
theorem XI:Tryz.zeroCells126=stdC []:=by kernel_rfl
structure TbS (W w3:World) (g:Nat) (T:List UInt8) (wr:World):Prop where
 q:Blk wr g (tabC T) 180
 l:T.length=256
 b:Below W.heap.size W wr
 o:∀ b,b≠g→wr.heap[b]?=w3.heap[b]?
 s:wr.heap.size=w3.heap.size
theorem TbS.set {W w3:World} {g:Nat} {T:List UInt8} {wr:World} (h:TbS W w3 g T wr) (hg:W.heap.size≤g) (j:Nat) (v:UInt8):TbS W w3 g (T.set j v) (wr.setCell ⟨g,j,none⟩ (.int .u8 (v.toNat:Int))):=by
 have h9:=h.q.set j (.int .u8 (v.toNat:Int));rw [SE] at h9;exact ⟨h9,by rw [List.length_set];exact h.l,h.b.setCell (p:=⟨g,j,none⟩) hg _,fun b hb=>(Afw _ _ _ _ (fun e=>hb e)).trans (h.o b hb),by simp [World.setCell,h.s]⟩
theorem TbS.at {W w3:World} {g:Nat} {T:List UInt8} {wr:World} (h:TbS W w3 g T wr) {j:Nat} (hj:j < 256):∃ v,wr.cell? ⟨g,j,none⟩=some (.int .u8 v):=
 ⟨_,(h.q.cell j).trans (Nu T j (by rw [h.l];exact hj))⟩
structure StS (W w4:World) (g h:Nat) (T seen:List UInt8) (wr:World):Prop where
 q:Blk wr g (tabC T) 180
 r:Blk wr h (stdC seen) 126
 l:T.length=256
 b:Below W.heap.size W wr
 o:∀ b,b≠g→b≠h→wr.heap[b]?=w4.heap[b]?
theorem StS.set {W w4:World} {g h:Nat} {T seen:List UInt8} {wr:World} (k:StS W w4 g h T seen wr) (hg:W.heap.size≤g) (hh:W.heap.size≤h) (hn:g≠h) (x v:UInt8):StS W w4 g h (T.set x.toNat v) (x :: seen) ((wr.setCell ⟨h,x.toNat,none⟩ (.bool true)).setCell ⟨g,x.toNat,none⟩ (.int .u8 (v.toNat:Int))):=by
 have h8:=k.r.set x.toNat (.bool true)
 rw [Aai] at h8;have q8:Blk (wr.setCell ⟨h,x.toNat,none⟩ (.bool true)) g (tabC T) 180:=Ey k.q (Afw _ _ _ _ (fun e=>hn e));have h9:=q8.set x.toNat (.int .u8 (v.toNat:Int))
 rw [SE] at h9;exact ⟨h9,Ey h8 (Afw _ _ _ _ (fun e=>hn e.symm)),by rw [List.length_set];exact k.l,(k.b.setCell (p:=⟨h,x.toNat,none⟩) hh _).setCell (p:=⟨g,x.toNat,none⟩) hg _,fun b h1 h2=>(Afw _ _ _ _ (fun e=>h1 e)).trans ((Afw _ _ _ _ (fun e=>h2 e)).trans (k.o b h1 h2))⟩
theorem XJ (a b:ByteArray) (W:World) (ha:a.size≤4000) (hb:b.size≤4000) :
  Calls prog 75 #[.string a,.string b] W fun e W'=>e=.returned (.tuple #[.string (txt (JM a.data.toList b.data.toList).1),.int .i64 ((JM a.data.toList b.data.toList).2:Int)])∧Below W.heap.size W W':=by
 have hA:=LZ a W (by omega);have hB:=fun W1=>LZ b W1 (by omega)
 unfold JM;generalize BV a.data.toList false []=A at hA ⊢;generalize BV b.data.toList false []=Bv at hB ⊢;obtain ⟨Z,hZ⟩:∃ Z,YU A Bv=Z:=⟨_,rfl⟩;rw [hZ];have HZ:=Afj hZ;clear hZ ha hb;have hF:∀ {W R e W'},LsA W R e W'→∃ x n c,e=.returned (.tuple #[.slice x n c,.bool R.isSome])∧Below W.heap.size W W'∧∀ l,R=some l→n=l.length∧W'.ownsRow W.heap.size 5 1 (.slice x l.length c) l.length (Lib.byteCells l):=by
  rintro W R e W' ⟨hb,h⟩;cases R with
  | none=>obtain ⟨x,n,c,rfl⟩:=h;exact ⟨x,n,c,rfl,hb,fun _ h=>by cases h⟩
  | some l=>obtain ⟨x,c,rfl,hr⟩:=h;exact ⟨x,l.length,c,rfl,hb,fun l' e=>by injection e with e;subst e;exact ⟨rfl,hr⟩⟩
 replace hA:=hA.mono fun _ _ h=>hF h
 replace hB:=fun W1=>(hB W1).mono fun _ _ h=>hF h
 clear hF;obtain ⟨oa,hoa⟩:∃ o,A.isSome=o:=⟨_,rfl⟩;obtain ⟨ob,hob⟩:∃ o,Bv.isSome=o:=⟨_,rfl⟩;simp only [hoa] at hA;simp only [hob] at hB;have HO:=Afj (And.intro hoa hob);clear hoa hob;go_enter func75,ntmps75;go_upto_region 2 with (go_at_call 94;refine hA.mono ?_;clear hA;rintro e w1 ⟨x1,n1,c1,rfl,b1,hr1⟩;have HR1:=Afj hr1;have hB2:=hB w1;clear hB hr1)
 go_upto_region 3 with (go_at_call 94;refine hB2.mono ?_;clear hB2;rintro e w2 ⟨x2,n2,c2,rfl,b2,hr2⟩;have HR2:=Afj hr2;clear hr2)
 have B2:=Afj (b1.trans (b2.mono b1.size));have C2:=Afj b2;have C1:=Afj b1;clear b1 b2;cases oa with
 | false=>
  obtain rfl:([],18)=Z:=by
   rw [←HZ.out];cases A with
   | none=>rfl
   | some l=>cases HO.out.1
  go_wp2_with fail
  go_ret2
  exact ⟨rfl,B2.out⟩
 | true=>
 cases ob with
 | false=>
  obtain rfl:([],18)=Z:=by
   rw [←HZ.out];cases Bv with
   | none=>cases A <;> rfl
   | some l=>cases HO.out.2
  go_wp2_with fail
  go_ret2
  exact ⟨rfl,B2.out⟩
 | true=>
 cases A with
 | none=>cases HO.out.1
 | some ks=>
 cases Bv with
 | none=>cases HO.out.2
 | some vs=>
 obtain ⟨e1,r1⟩:=HR1.out ks rfl;obtain ⟨e2,r2⟩:=HR2.out vs rfl;subst e1 e2;clear HR1 HR2 HO;by_cases hlen:ks.length=vs.length
 ·have hle:((ks.length:Int) != (vs.length:Int))=false:=by simp [hlen]
  obtain ⟨R,hR⟩:∃ R,Ia ks vs [] JL=R:=⟨_,rfl⟩;have HZ2:=Afj (show tbZ R=Z by
   rw [←HZ.out,←hR];unfold YU tbZ;simp only;rw [if_pos hlen];cases Ia ks vs [] JL <;> rfl)
  have HR:=Afj hR;have HL:=Afj hlen;have K1:=Afj (Ah r1 C2.out);have K2:=Afj r2;clear HZ hR hlen r1 r2;go_upto_region 6 with fail;obtain ⟨w3,hW3⟩:∃ w3,w2.alloc (.cells Tryz.zeroCells180 180)=w3:=⟨_,rfl⟩;have hq3:=Af hW3;have hb3:=Ad hW3;rw [hW3];rw [XH] at hq3;have hTb3:TbS W w3 w2.heap.size (List.replicate 256 0) w3:=⟨hq3,by simp,B2.out.trans (hb3.mono B2.out.size),fun _ _=>rfl,rfl⟩
  have KL:=Afj (And.intro (fun q hq=>AF K1.out q hq) (fun q hq=>AF K2.out q hq));replace K1:=Afj (Ah K1.out hb3);replace K2:=Afj (Ah K2.out hb3);have Hg:=Afj B2.out.size;obtain ⟨g,hg⟩:∃ g,w2.heap.size=g:=⟨_,rfl⟩;rw [hg] at hTb3 KL Hg ⊢;have H3:=Afj hTb3;clear hq3 hb3 hTb3 hW3 hg;go_wp2_with fail
  go_loopw [38] (fun i wr=>∃ (j:Nat) (T:List UInt8),j≤256∧i=.int .i64 j∧TbS W w3 g T wr∧∀ k,k < j→T[k]?=some (UInt8.ofNat k)) (fun i _=>256 - (intOf i).toNat)
  case atStart=>exact ⟨0,_,by omega,rfl,H3.out,fun k hk=>by omega⟩
  case round=>
   obtain ⟨j,T,hj,rfl,ht,hT⟩:=hrel;have HT:=Afj ht;have HTA:=Afj hT;clear ht hT;by_cases hlt:j < 256
   ·have hji:(j:Int) < 256:=by omega
    have hy0:(0:Int)≤(j:Int):=by omega
    have Wj:IntKind.i64.wrap ((j:Int)+1)=(j:Int)+1:=Afx _ (by omega);have Wc:IntKind.u8.wrap (j:Int)=(j:Int):=by
     simp [IntKind.wrap,IntKind.bits,IntKind.signed];omega
    obtain ⟨v,c0⟩:=HT.out.at hlt;have f0:=HT.out.q.frozen j;have H4:=Afj (show TbS W w3 g (T.set j (UInt8.ofNat j)) (wr.setCell ⟨g,j,none⟩ (.int .u8 (j:Int))) by
     have h9:=HT.out.set Hg.out j (UInt8.ofNat j);rw [show ((UInt8.ofNat j).toNat:Int)=(j:Int) by rw [UInt8.toNat_ofNat'];omega] at h9;exact h9)
    have H5:=Afj (Aaj hlt HT.out.l HTA.out);go_wp2_with fail
    go_roundw
    case rel=>exact ⟨j+1,_,by omega,by go_num,H4.out,H5.out⟩
    case measure=>simp [intOf];omega
   ·obtain rfl:j=256:=by omega
    obtain rfl:=Adu HT.out.l HTA.out;clear hlt HTA;have hji:¬ ((256:Nat):Int) < 256:=by omega
    go_upto_region 12 with fail;obtain ⟨w4,hW4⟩:∃ w4,wr.alloc (.cells Tryz.zeroCells126 126)=w4:=⟨_,rfl⟩;have hq4:=Af hW4;have hb4:=Ad hW4;rw [hW4];rw [XI] at hq4;have hgl:=HT.out.q.lt;have hS4:StS W w4 g wr.heap.size JL [] w4:=⟨HT.out.q.below hb4 hgl,hq4,HT.out.l,HT.out.b.trans (hb4.mono HT.out.b.size),fun _ _ _=>rfl⟩
    have hgw:g≤w3.heap.size:=by have h:=H3.out.q.lt;omega
    have KA:=Afj (Ah (Ab K1.out (fun q hq=>HT.out.o q (by have:=KL.out.1 q hq;omega))) hb4);have KB:=Afj (Ah (Ab K2.out (fun q hq=>HT.out.o q (by have:=KL.out.2 q hq;omega))) hb4);have Hh:=Afj HT.out.b.size;obtain ⟨h,hh⟩:∃ h,wr.heap.size=h:=⟨_,rfl⟩;rw [hh] at hS4 hgl Hh ⊢;have Hgh:=Afj hgl;have H4:=Afj hS4;clear hq4 hb4 hS4 hW4 hh hgl hgw HT H3 K1 K2;go_wp2_with fail
    go_loopw [48] (fun i ws=>∃ (j:Nat) (T seen:List UInt8),j≤ks.length∧i=.int .i64 j∧StS W w4 g h T seen ws∧Ia (ks.drop j) (vs.drop j) seen T=R) (fun i _=>ks.length - (intOf i).toNat)
    case atStart=>exact ⟨0,_,_,by omega,rfl,H4.out,HR.out⟩
    case round=>
     obtain ⟨j,T,seen,hj,rfl,ht,hT⟩:=hrel;have HT:=Afj ht;clear ht;by_cases hlt:j < ks.length
     ·have hji:(j:Int) < (ks.length:Int):=by omega
      have hy0:(0:Int)≤(j:Int):=by omega
      have hlv:j < vs.length:=by rw [←HL.out];exact hlt
      have hjv:(j:Int) < (vs.length:Int):=by omega
      obtain ⟨qk,rfl,hmx,_,hqc⟩:=Abe KA.out (by omega);have Wj:IntKind.i64.wrap ((j:Int)+1)=(j:Int)+1:=Afx _ (by unfold maxLen at hmx;omega);obtain ⟨qv,rfl,_,_,hqd⟩:=Abe KB.out (by omega);have l1:=KL.out.1 qk rfl;have l2:=KL.out.2 qv rfl;have l3:=Hgh.out;have ck:wr.cell? ⟨qk,j,none⟩=some (.int .u8 (ks[j].toNat:Int)):=(Afy (w:=w4) (a:=⟨qk,j,none⟩) (HT.out.o qk (by omega) (by omega))).trans (hqc j hlt);have cv:wr.cell? ⟨qv,j,none⟩=some (.int .u8 (vs[j].toNat:Int)):=(Afy (w:=w4) (a:=⟨qv,j,none⟩) (HT.out.o qv (by omega) (by omega))).trans (hqd j hlv);have n1:qv≠h:=by omega
      have n2:g≠h:=by omega
      rw [Pb hlt,Pb hlv,Rw] at hT;simp only [List.tail_cons,List.headD_cons] at hT;obtain ⟨b,hb⟩:∃ b,ks[j]=b:=⟨_,rfl⟩;obtain ⟨v,hv⟩:∃ v,vs[j]=v:=⟨_,rfl⟩;rw [hb] at ck hT;rw [hv] at cv hT;have hlb:=b.toNat_lt;have b0:(0:Int)≤(b.toNat:Int):=by omega
      have b1:(b.toNat:Int) < 256:=by omega
      have cs:=(HT.out.r.cell b.toNat).trans (Aah seen b);have fs:=HT.out.r.frozen b.toNat
      obtain ⟨tv,ct⟩:∃ tv,wr.cell? ⟨g,b.toNat,none⟩=some (.int .u8 tv):=⟨_,(HT.out.q.cell b.toNat).trans (Nu T b.toNat (by rw [HT.out.l];exact hlb))⟩;have ft:=HT.out.q.frozen b.toNat
      clear hb hv hqc hqd l1 l2 l3 hlb;by_cases hs:b∈seen
      ·rw [decide_eq_true hs] at cs;rw [if_pos hs] at hT;obtain rfl:([],15)=Z:=by rw [←HZ2.out,←hT];rfl
       clear hs hT ct ft cv n1 n2;go_wp2_with fail
       go_ret2
       exact ⟨rfl,HT.out.b⟩
      ·rw [decide_eq_false hs] at cs;rw [if_neg hs] at hT;have H5:=Afj (HT.out.set Hg.out Hh.out n2 b v);have HR5:=Afj hT;clear hs hT;go_wp2_with fail
       go_roundw
       case rel=>exact ⟨j+1,_,_,by omega,by go_num,H5.out,HR5.out⟩
       case measure=>simp [intOf];omega
     ·obtain rfl:j=ks.length:=by omega
      rw [List.drop_eq_nil_of_le (Afq _),Ia] at hT;obtain rfl:(T,0)=Z:=by rw [←HZ2.out,←hT];rfl
      have hcv:(convert 164 9 (.slice (some ⟨g,0,none⟩) 256 256)).run prog wr=.ok (.string (txt T)) wr:=by
       have h9:=run_convert_bytes_arg (P:=prog) wr 164 5 underlying164 underlying5 g 0 256 256 (T.map fun b=>(b.toNat:Int)) (by rw [List.length_map];exact HT.out.l) (fun i hi=>by
        have hi2:i < T.length:=by rw [HT.out.l];exact hi
        rw [Nat.zero_add,HT.out.q.cell i,Nu T i hi2];simp [List.getD,List.getElem?_map,Af4 hi2]) 9 underlying9
       rw [XG] at h9;exact h9
      have hlt:¬ ((ks.length:Nat):Int) < (ks.length:Int):=by omega
      clear hT hle;go_wp2_with fail
      go_ret2
      exact ⟨rfl,HT.out.b⟩
 ·obtain rfl:([],18)=Z:=by
   rw [←HZ.out];unfold YU;simp only;rw [if_neg hlen]
  have hle:((ks.length:Int) != (vs.length:Int))=true:=by simp;omega
  clear r1 r2 hlen;go_wp2_with fail
  go_ret2
  exact ⟨rfl,B2.out⟩
theorem Aes (s:ByteArray) (k:Nat) (d:UInt8) (rx:Bool) (W:World) (hs:s.size≤4000000) (hk:k≤s.size) (hP:GP W):Calls prog 74 #[.string s,.int .i64 (k:Int),.int .u8 (d.toNat:Int),.bool rx] W fun e w'=>e=.returned (.tuple #[.string (txt (Aj s.data.toList (k:Int) d rx).1),.int .i64 ((Aj s.data.toList (k:Int) d rx).2.1:Int),.int .i64 ((Aj s.data.toList (k:Int) d rx).2.2:Int)])∧Below W.heap.size W w':=by
 have h:=FY s k d rx W hs hk hP;unfold Aj;rw [D9 _ _ _ _ (by rw [←Ae];exact hk),←Ae];exact h
theorem Pc {d:UInt8} {rx:Bool} {s:ByteArray} {k:Nat} (hk:k≤s.size):(Aj s.data.toList (k:Int) d rx).1.length≤s.size:=by
 unfold Aj;rw [D9 _ _ _ _ (by rw [←Ae];exact hk),←Ae];have h:=No d rx s.data.toList (s.size+1) k [] (by rw [←Ae];exact hk);rw [←Ae] at h;simp only [List.length_nil] at h;omega
theorem CmSt.tableS {w:World} {p:Nat} {s:ByteArray} {ext:Bool} {st:CS} {ta tb ts:Value} {pa:Option Addr} {pc:Nat} {ma:Option Addr} {mc:Nat} {W:World} (h:CmSt w p s ext st ta tb ts pa pc ma mc W) (t:List UInt8) (k:Nat):CmSt w p s ext (st.table t k) ta tb ts pa pc ma mc ((W.setCell ⟨p,22,none⟩ (.string (txt t))).setCell ⟨p,2,none⟩ (.int .i64 (k:Int))):=
 (h.put 22 (.string (txt t)) { st with c:={ st.c with table:=t } } rfl rfl rfl rfl fun _ _=>rfl).go k
theorem XK (w:World) (p:Nat) (s:ByteArray) (ext:Bool) (st:CS) (W:World) (h:Dy w p s ext st W) (hs:s.size≤4000) (hk:st.k≤s.size) (hl:st.ms.length≤100000) (hP:GP w) :
  Calls prog 47 #[.pointer (some ⟨p,0,none⟩)] W fun e W'=>e=.returned (.int .i64 ((BL s.data.toList st).1:Int))∧Dy w p s ext (BL s.data.toList st).2 W':=by
 have hs4:s.size≤4000000:=by omega
 have hA:=OR w p s ext st W h hs4 hk;have hk1:=Eu (L:=s.data.toList) (st:=st) (by rw [←Ae];exact hk);have hm1:=DI s.data.toList st;rw [←Ae] at hk1;obtain ⟨Z,hZ⟩:∃ Z,BL s.data.toList st=Z:=⟨_,rfl⟩;rw [hZ];unfold BL at hZ;obtain ⟨⟨d,e1,s1⟩,hR1⟩:∃ R,Au s.data.toList st=R:=⟨_,rfl⟩;rw [hR1] at hA hk1 hm1 hZ;simp only at hA hk1 hm1 hZ;unfold CO.then at hZ
 simp only at hZ;clear hR1 h;by_cases h1:e1=0
 ·subst h1;rw [if_pos rfl] at hZ;obtain ⟨k1,hk1e⟩:∃ k1,s1.k=k1:=⟨_,rfl⟩;rw [hk1e] at hk1 hZ;have HK1:=Afj hk1e;have hN1:=fun W1 (h1:GP W1)=>Aes s k1 d false W1 hs4 hk1 h1
  have hl1:=Pc (d:=d) (rx:=false) (s:=s) hk1;have hq1:=Dn (d:=d) (rx:=false) (L:=s.data.toList) (k:=k1) (by rw [←Ae];exact hk1);rw [←Ae] at hq1;obtain ⟨⟨t1,q1,e2⟩,hR2⟩:∃ R,Aj s.data.toList (k1:Int) d false=R:=⟨_,rfl⟩;rw [hR2] at hN1 hl1 hq1 hZ;simp only at hN1 hl1 hq1;unfold EI at hZ;simp only at hZ;clear hR2 hk1e;have HP:=Afj hP;obtain ⟨T1,hT1⟩:∃ T,txt t1=T:=⟨_,rfl⟩;have hT1l:T1.data.toList=t1:=by rw [←hT1,Ef]
  have hT1s:T1.size≤4000:=by rw [←hT1,C7];omega
  rw [hT1] at hN1;by_cases h2:e2=0
  ·subst h2;rw [if_pos rfl] at hZ;have hN2:=fun W1 (h1:GP W1)=>Aes s q1 d false W1 hs4 hq1 h1
   have hl2:=Pc (d:=d) (rx:=false) (s:=s) hq1;have hq2:=Dn (d:=d) (rx:=false) (L:=s.data.toList) (k:=q1) (by rw [←Ae];exact hq1);rw [←Ae] at hq2;obtain ⟨⟨t2,q2,e3⟩,hR3⟩:∃ R,Aj s.data.toList (q1:Int) d false=R:=⟨_,rfl⟩;rw [hR3] at hN2 hl2 hq2 hZ;simp only at hN2 hl2 hq2;unfold EH at hZ;simp only at hZ;clear hR3;obtain ⟨T2,hT2⟩:∃ T,txt t2=T:=⟨_,rfl⟩;have hT2l:T2.data.toList=t2:=by rw [←hT2,Ef]
   have hT2s:T2.size≤4000:=by rw [←hT2,C7];omega
   rw [hT2] at hN2;by_cases h3:e3=0
   ·subst h3;rw [if_pos rfl] at hZ;have hQ:=fun W1=>XJ T1 T2 W1 hT1s hT2s
    rw [hT1l,hT2l] at hQ;obtain ⟨⟨tb0,e4⟩,hR4⟩:∃ R,JM t1 t2=R:=⟨_,rfl⟩;rw [hR4] at hQ hZ;simp only at hQ hZ;clear hR4 hT1 hT2 hT1l hT2l hl1 hl2;by_cases h4:e4=0
    ·subst h4;rw [if_pos rfl] at hZ;have hE:=fun W1 (h1:Dy w p s ext (s1.table tb0 q2) W1)=>K8 w p s ext (s1.table tb0 q2) W1 h1 hs4 hq2 (by show s1.ms.length≤_;rw [hm1];exact hl)
     rw [hZ] at hE;clear hZ hm1 hk1 hP hl hk hq1 hq2 hT1s hT2s;go_enter func47,ntmps47;go_upto_region 4 with (go_at_call 70;refine hA.mono ?_;clear hA;rintro e w1 ⟨rfl,h1⟩;obtain ⟨ta,tb,ts,pa,pc,ma,mc,h1⟩:=h1;have H1:=Afj h1;have k0:w1.cell? ⟨p,0,none⟩=some (.string s):=(h1.q.cell 0).trans rfl;have k2:w1.cell? ⟨p,2,none⟩=some (.int .i64 (k1:Int)):=(h1.q.cell 2).trans (by rw [←HK1.out];rfl);clear h1)
     go_region_held3 (fun w'=>w'.cell? ⟨p,0,none⟩=some (.string s)∧w'.cell? ⟨p,2,none⟩=some (.int .i64 (k1:Int))) (first | exact ⟨k0,k2⟩ | (refine ⟨?_,?_⟩ <;> assumption)) (first | (go_at_call 74;refine (hN1 _ (by first | exact HP.out.up H1.out.b0 | exact HP.out.up H1.out.b0.drew)).mono ?_;clear hN1;rintro e w2 ⟨rfl,b1⟩;have H2:=Afj (by first | exact H1.out.step b1 | exact H1.out.drew.step b1:CmSt w p s ext s1 ta tb ts pa pc ma mc w2);have m0:(w2).cell? ⟨p,0,none⟩=some (.string s):=(H2.out.q.cell 0).trans rfl;have m2:(w2).cell? ⟨p,2,none⟩=some (.int .i64 (k1:Int)):=(H2.out.q.cell 2).trans (by rw [←HK1.out];rfl);clear b1))
     clear k0 k2;have k0:=m0;have k2:=m2;clear m0 m2;go_upto_region 16 with (first | (go_at_call 74;refine (hN2 _ (HP.out.up H2.out.b0)).mono ?_;clear hN2;rintro e w3 ⟨rfl,b1⟩;have H3:=Afj (by first | exact H2.out.step b1 | exact H2.out.drew.step b1:CmSt w p s ext s1 ta tb ts pa pc ma mc w3);have m0:(w3).cell? ⟨p,0,none⟩=some (.string s):=(H3.out.q.cell 0).trans rfl;have m2:(w3).cell? ⟨p,2,none⟩=some (.int .i64 (k1:Int)):=(H3.out.q.cell 2).trans (by rw [←HK1.out];rfl);clear b1) | (go_at_call 75;refine (hQ _).mono ?_;clear hQ;rintro e w4 ⟨rfl,b4⟩;have H4:=Afj (H3.out.step b4);clear b4))
     clear k0 k2;have c2:w4.cell? ⟨p,2,none⟩=some (.int .i64 (s1.k:Int)):=(H4.out.q.cell 2).trans rfl;have c22:w4.cell? ⟨p,22,none⟩=some (.string (txt s1.c.table)):=(H4.out.q.cell 22).trans rfl;have f2:=H4.out.q.frozen 2;have f22:=H4.out.q.frozen 22;have H5:=Afj (H4.out.tableS tb0 q2);go_wp2_with (go_at_call 48;refine (hE _ H5.out.R).mono ?_;clear hE;rintro e w6 ⟨rfl,h6⟩)
     go_ret;exact ⟨rfl,h6⟩
    ·rw [if_neg h4] at hZ;subst hZ;have ce:((e4:Int) != 0)=true:=by simpa using h4
     clear hm1 hk1 hP hl hk hq1 hq2 hT1s hT2s h4;go_enter func47,ntmps47;go_upto_region 4 with (go_at_call 70;refine hA.mono ?_;clear hA;rintro e w1 ⟨rfl,h1⟩;obtain ⟨ta,tb,ts,pa,pc,ma,mc,h1⟩:=h1;have H1:=Afj h1;have k0:w1.cell? ⟨p,0,none⟩=some (.string s):=(h1.q.cell 0).trans rfl;have k2:w1.cell? ⟨p,2,none⟩=some (.int .i64 (k1:Int)):=(h1.q.cell 2).trans (by rw [←HK1.out];rfl);clear h1)
     go_region_held3 (fun w'=>w'.cell? ⟨p,0,none⟩=some (.string s)∧w'.cell? ⟨p,2,none⟩=some (.int .i64 (k1:Int))) (first | exact ⟨k0,k2⟩ | (refine ⟨?_,?_⟩ <;> assumption)) (first | (go_at_call 74;refine (hN1 _ (by first | exact HP.out.up H1.out.b0 | exact HP.out.up H1.out.b0.drew)).mono ?_;clear hN1;rintro e w2 ⟨rfl,b1⟩;have H2:=Afj (by first | exact H1.out.step b1 | exact H1.out.drew.step b1:CmSt w p s ext s1 ta tb ts pa pc ma mc w2);have m0:(w2).cell? ⟨p,0,none⟩=some (.string s):=(H2.out.q.cell 0).trans rfl;have m2:(w2).cell? ⟨p,2,none⟩=some (.int .i64 (k1:Int)):=(H2.out.q.cell 2).trans (by rw [←HK1.out];rfl);clear b1))
     clear k0 k2;have k0:=m0;have k2:=m2;clear m0 m2;go_upto_region 14 with (first | (go_at_call 74;refine (hN2 _ (HP.out.up H2.out.b0)).mono ?_;clear hN2;rintro e w3 ⟨rfl,b1⟩;have H3:=Afj (by first | exact H2.out.step b1 | exact H2.out.drew.step b1:CmSt w p s ext s1 ta tb ts pa pc ma mc w3);have m0:(w3).cell? ⟨p,0,none⟩=some (.string s):=(H3.out.q.cell 0).trans rfl;have m2:(w3).cell? ⟨p,2,none⟩=some (.int .i64 (k1:Int)):=(H3.out.q.cell 2).trans (by rw [←HK1.out];rfl);clear b1) | (go_at_call 75;refine (hQ _).mono ?_;clear hQ;rintro e w4 ⟨rfl,b4⟩;have H4:=Afj (H3.out.step b4);clear b4))
     clear k0 k2;have c2:w4.cell? ⟨p,2,none⟩=some (.int .i64 (s1.k:Int)):=(H4.out.q.cell 2).trans rfl;have f2:=H4.out.q.frozen 2;have H5:=Afj (H4.out.go q1);go_wp2_with fail
     go_ret;exact ⟨rfl,H5.out.R⟩
   ·rw [if_neg h3] at hZ;subst hZ;have ce:((e3:Int) != 0)=true:=by simpa using h3
    clear hm1 hk1 hP hl hk hq1 hq2 hT1s hT2s h3 hT1 hT2 hT1l hT2l hl1 hl2;go_enter func47,ntmps47;go_upto_region 4 with (go_at_call 70;refine hA.mono ?_;clear hA;rintro e w1 ⟨rfl,h1⟩;obtain ⟨ta,tb,ts,pa,pc,ma,mc,h1⟩:=h1;have H1:=Afj h1;have k0:w1.cell? ⟨p,0,none⟩=some (.string s):=(h1.q.cell 0).trans rfl;have k2:w1.cell? ⟨p,2,none⟩=some (.int .i64 (k1:Int)):=(h1.q.cell 2).trans (by rw [←HK1.out];rfl);clear h1)
    go_region_held3 (fun w'=>w'.cell? ⟨p,0,none⟩=some (.string s)∧w'.cell? ⟨p,2,none⟩=some (.int .i64 (k1:Int))) (first | exact ⟨k0,k2⟩ | (refine ⟨?_,?_⟩ <;> assumption)) (first | (go_at_call 74;refine (hN1 _ (by first | exact HP.out.up H1.out.b0 | exact HP.out.up H1.out.b0.drew)).mono ?_;clear hN1;rintro e w2 ⟨rfl,b1⟩;have H2:=Afj (by first | exact H1.out.step b1 | exact H1.out.drew.step b1:CmSt w p s ext s1 ta tb ts pa pc ma mc w2);have m0:(w2).cell? ⟨p,0,none⟩=some (.string s):=(H2.out.q.cell 0).trans rfl;have m2:(w2).cell? ⟨p,2,none⟩=some (.int .i64 (k1:Int)):=(H2.out.q.cell 2).trans (by rw [←HK1.out];rfl);clear b1))
    clear k0 k2;have k0:=m0;have k2:=m2;clear m0 m2;go_upto_region 10 with (go_at_call 74;refine (hN2 _ (HP.out.up H2.out.b0)).mono ?_;clear hN2;rintro e w3 ⟨rfl,b1⟩;have H3:=Afj (by first | exact H2.out.step b1 | exact H2.out.drew.step b1:CmSt w p s ext s1 ta tb ts pa pc ma mc w3);have m0:(w3).cell? ⟨p,0,none⟩=some (.string s):=(H3.out.q.cell 0).trans rfl;have m2:(w3).cell? ⟨p,2,none⟩=some (.int .i64 (k1:Int)):=(H3.out.q.cell 2).trans (by rw [←HK1.out];rfl);clear b1)
    clear k0 k2;have c2:w3.cell? ⟨p,2,none⟩=some (.int .i64 (s1.k:Int)):=(H3.out.q.cell 2).trans rfl;clear m0 m2;have f2:=H3.out.q.frozen 2;have H5:=Afj (H3.out.go q2);go_wp2_with fail
    go_ret;exact ⟨rfl,H5.out.R⟩
  ·rw [if_neg h2] at hZ;subst hZ;have ce:((e2:Int) != 0)=true:=by simpa using h2
   clear hm1 hk1 hP hl hk hq1 hT1s h2 hT1 hT1l hl1;go_enter func47,ntmps47;go_upto_region 4 with (go_at_call 70;refine hA.mono ?_;clear hA;rintro e w1 ⟨rfl,h1⟩;obtain ⟨ta,tb,ts,pa,pc,ma,mc,h1⟩:=h1;have H1:=Afj h1;have k0:w1.cell? ⟨p,0,none⟩=some (.string s):=(h1.q.cell 0).trans rfl;have k2:w1.cell? ⟨p,2,none⟩=some (.int .i64 (k1:Int)):=(h1.q.cell 2).trans (by rw [←HK1.out];rfl);clear h1)
   go_region_held3 (fun w'=>w'.cell? ⟨p,0,none⟩=some (.string s)∧w'.cell? ⟨p,2,none⟩=some (.int .i64 (k1:Int))) (first | exact ⟨k0,k2⟩ | (refine ⟨?_,?_⟩ <;> assumption)) (first | (go_at_call 74;refine (hN1 _ (by first | exact HP.out.up H1.out.b0 | exact HP.out.up H1.out.b0.drew)).mono ?_;clear hN1;rintro e w2 ⟨rfl,b1⟩;have H2:=Afj (by first | exact H1.out.step b1 | exact H1.out.drew.step b1:CmSt w p s ext s1 ta tb ts pa pc ma mc w2);have m0:(w2).cell? ⟨p,0,none⟩=some (.string s):=(H2.out.q.cell 0).trans rfl;have m2:(w2).cell? ⟨p,2,none⟩=some (.int .i64 (k1:Int)):=(H2.out.q.cell 2).trans (by rw [←HK1.out];rfl);clear b1))
   clear k0 k2;have c2:w2.cell? ⟨p,2,none⟩=some (.int .i64 (s1.k:Int)):=(H2.out.q.cell 2).trans rfl;clear m0 m2;have f2:=H2.out.q.frozen 2;have H5:=Afj (H2.out.go q1);go_wp2_with fail
   go_ret;exact ⟨rfl,H5.out.R⟩
 ·rw [if_neg h1] at hZ;subst hZ;have ce:((e1:Int) != 0)=true:=by simpa using h1
  clear hm1 hk1 hP hl hk h1;go_enter func47,ntmps47;go_wp2_with (go_at_call 70;refine hA.mono ?_;clear hA;rintro e w1 ⟨rfl,h1⟩)
  go_ret;exact ⟨rfl,h1⟩
end
section
open Go.RowKit
theorem Ma (s:ByteArray) (k:Nat) (w:World) (hs:s.size≤4000000) (hk:k≤s.size) :
  Calls prog 69 #[.string s,.int .i64 k] w fun e w'=>e=pcA (BA (s.data.toList.drop k) k [])∧Below w.heap.size w w':=by
 have hP:=ET s k w hk;obtain ⟨R,hR⟩:∃ R,BA (s.data.toList.drop k) k []=R:=⟨_,rfl⟩;rw [hR];have HR:=Afj hR;clear hR;go_enter func69,ntmps69;go_wp2_with (go_at_call 36;refine hP.mono ?_;rintro e w' ⟨rfl,rfl⟩)
 clear hP;go_loopw [1] (fun i wr=>∃ (p:Nat) (acc:List UInt8),p≤s.size∧i=.int .i64 p∧Lib.IsBuilderF 166 5 w'.heap.size w'.heap.size (Lib.byteCells acc) wr∧Below w'.heap.size w' wr∧w'.heap.size≤wr.heap.size∧acc.length≤p∧BA (s.data.toList.drop p) p acc=R) (fun i _=>s.size - (intOf i).toNat)
 case atStart=>exact ⟨k,[],hk,rfl,Lib.IsBuilderF.of (Lib.fresh_isBuilder 166 5 w'),(Afv _ w').alloc (Afq _) _,by simp,by simp,HR.out⟩
 case round=>
  obtain ⟨p,acc,hp,rfl,hI,hbw,hsz,hal,hacc⟩:=hrel;have HA:=Afj hacc;clear hacc;have hlc:(Lib.byteCells acc).length+1≤140737488355328:=by rw [Lib.byteCells_length];omega
  have fin:∀ W1:World,Lib.BuilderAtF 166 5 w'.heap.size w'.heap.size (.pointer (some ⟨w'.heap.size,0,none⟩)) (Lib.byteCells acc++[.int .u8 10]) W1→Lib.IsBuilderF 166 5 w'.heap.size w'.heap.size (Lib.byteCells (acc++[10])) W1:=fun W1 h=>by
   rw [Lib.byteCells_append];exact Or.inr h
  by_cases hlt:p < s.size
  ·have hlti:(p:Int) < (s.size:Int):=by omega
   have hd:=Bm s p hlt;have Hd:=Afj hd;clear hd;have hx256:=s[p].toNat_lt;by_cases h10:s[p]=10
   ·have q10:((s[p].toNat:Int) != 10)=false:=by rw [h10];rfl
    have Hx:=Afj h10;clear h10 hx256;have hmn:IntKind.i64.wrap ((p:Int)+1)=(p:Int)+1:=Afx _ (by omega);have hle:(p:Int)+1≤(s.size:Int):=by omega
    go_wp2_with (go_at_call 85;refine (E4 w'.heap.size w'.heap.size _ _ _ hI hlc hsz).mono ?_)
    rintro e W1 ⟨rfl,h1,b1,_⟩;go_wp2_with (go_at_call 86;refine (CE w'.heap.size w'.heap.size (acc++[10]) _ (fin W1 h1) (by have:=b1.size;omega)).mono ?_)
    rintro e W2 ⟨rfl,_,b2,_⟩
    go_wp2
    go_ret3
    refine ⟨?_,(hbw.trans b1).trans b2⟩;rw [←HA.out,Hd.out,Hx.out,Eh];exact Db rfl (by show min ((p:Int)+1) (s.size:Int)=((p+1:Nat):Int);omega) rfl
   ·have q10:((s[p].toNat:Int) != 10)=true:=bne_iff_ne.2 fun h=>h10 (UInt8.toNat_inj.1 (by show s[p].toNat=10;omega))
    have H10:=Afj h10;clear h10;by_cases h92:s[p]=92
    ·have q92:((s[p].toNat:Int) == 92)=true:=by rw [h92];rfl
     have Hx:=Afj h92;clear h92 hx256;have hmn:IntKind.i64.wrap ((p:Int)+1)=(p:Int)+1:=Afx _ (by omega);by_cases hend:p+1=s.size
     ·have qe:((p:Int)+1 == (s.size:Int))=true:=beq_iff_eq.2 (by omega);have Hde:=Afj (Bs s (p+1) (by omega));have He:=Afj hend;clear hend
      go_wp2
      go_ret3
      refine ⟨?_,hbw⟩;rw [←HA.out,Hd.out,Hx.out,Hde.out,Dz];rfl
     ·have qe:((p:Int)+1 == (s.size:Int))=false:=beq_eq_false_iff_ne.2 (by omega);have hlt2:p+1 < s.size:=by omega
      have hlt2i:(p:Int)+1 < (s.size:Int):=by omega
      have Hde:=Afj (Bm s (p+1) hlt2);have hmn2:IntKind.i64.wrap ((p:Int)+1+1)=(p:Int)+1+1:=Afx _ (by omega);go_wp2_with (go_at_call 85;refine (E4 w'.heap.size w'.heap.size _ _ _ hI hlc hsz).mono ?_)
      rintro e W1 ⟨rfl,h1,b1,_⟩
      go_wp2
      go_roundw
      case rel=>
       refine ⟨p+2,acc++[s[p+1]],by omega,by go_num,?_,hbw.trans b1,Afr hsz b1.size,by simp;omega,?_⟩
       ·rw [Lib.byteCells_append];exact Or.inr h1
       ·rw [←HA.out,Hd.out,Hx.out,Hde.out,Ei]
      case measure=>simp [intOf];omega
    ·have q92:((s[p].toNat:Int) == 92)=false:=beq_eq_false_iff_ne.2 fun h=>h92 (UInt8.toNat_inj.1 (by show s[p].toNat=92;omega))
     have H92:=Afj h92;clear h92 hx256;have hmn:IntKind.i64.wrap ((p:Int)+1)=(p:Int)+1:=Afx _ (by omega);go_wp2_with (go_at_call 85;refine (E4 w'.heap.size w'.heap.size _ _ _ hI hlc hsz).mono ?_)
     rintro e W1 ⟨rfl,h1,b1,_⟩
     go_wp2
     go_roundw
     case rel=>
      refine ⟨p+1,acc++[s[p]],by omega,by go_num,?_,hbw.trans b1,Afr hsz b1.size,by simp;omega,?_⟩
      ·rw [Lib.byteCells_append];exact Or.inr h1
      ·rw [←HA.out,Hd.out,CG _ _ _ _ H10.out H92.out]
     case measure=>simp [intOf];omega
  ·have hlti:¬ (p:Int) < (s.size:Int):=by omega
   have hpe:p=s.size:=by omega
   have Hd:=Afj (Bs s p (by omega));have hmn:IntKind.i64.wrap ((p:Int)+1)=(p:Int)+1:=Afx _ (by omega);have hle:¬ (p:Int)+1≤(s.size:Int):=by omega
   have He:=Afj hpe;clear hpe;go_wp2_with (go_at_call 85;refine (E4 w'.heap.size w'.heap.size _ _ _ hI hlc hsz).mono ?_;rintro e W1 ⟨rfl,h1,b1,_⟩)
   go_wp2_with (go_at_call 86;refine (CE w'.heap.size w'.heap.size (acc++[10]) _ (fin W1 h1) (by have:=b1.size;omega)).mono ?_;rintro e W2 ⟨rfl,_,b2,_⟩)
   go_wp2
   go_ret3
   refine ⟨?_,(hbw.trans b1).trans b2⟩;rw [←HA.out,Hd.out,BA];exact Db rfl (by show min ((p:Int)+1) (s.size:Int)=(p:Int);omega) rfl
end
section
open Go Go.RowKit
theorem Aak (c:UInt8) (t:List UInt8):Lib.hasPrefix (c :: t) [92,10]=decide (c=92∧t.head?=some 10):=by
 unfold Lib.hasPrefix;cases t with
 | nil=>
  show ((92:UInt8) == c && false)=_;rw [Bool.and_false];simp
 | cons x u=>
  show ((92:UInt8) == c && ((10:UInt8) == x && List.isPrefixOf [] u))=_;by_cases h:c=92
  ·subst h;by_cases h2:x=10
   ·subst h2;simp
   ·have:((10:UInt8) == x)=false:=beq_eq_false_iff_ne.2 (Ne.symm h2);rw [this];simp [h2]
  ·have:((92:UInt8) == c)=false:=beq_eq_false_iff_ne.2 (Ne.symm h);rw [this];simp [h]
theorem IH (w:World) (p:Nat) (s:ByteArray) (ext:Bool) (st:CS) (W:World) (h:Dy w p s ext st W) (hs:s.size≤4000000) (hk:st.k≤s.size) (hl:st.ms.length≤100000) :
  Calls prog 44 #[.pointer (some ⟨p,0,none⟩)] W fun e W'=>e=.returned (.int .i64 ((BT s.data.toList st).1:Int))∧Dy w p s ext (BT s.data.toList st).2 W':=by
 obtain ⟨ta,tb,ts,pa,pc,ma,mc,h⟩:=h;have hB:=Iq s st.k hs hk;obtain ⟨K,hK⟩:∃ K,Ak s.data.toList st.k=K:=⟨_,rfl⟩;have hKl:K≤s.size:=by rw [←hK,Ae];exact (FL _ _ (by rw [←Ae];exact hk)).2
 unfold BT;rw [hK] at hB ⊢;have HH:=Afj h;have k0:W.cell? ⟨p,0,none⟩=some (.string s):=(h.q.cell 0).trans rfl;have k2:W.cell? ⟨p,2,none⟩=some (.int .i64 (st.k:Int)):=(h.q.cell 2).trans rfl;have Hl:=Afj hl;have hx0:(0:Int)≤(K:Int):=by omega
 have hx1:(K:Int)≤(s.size:Int):=by omega
 obtain ⟨E,hEx⟩:∃ E,s.extract K s.size=E:=⟨_,rfl⟩;have hEl:E.data.toList=s.data.toList.drop K:=by rw [←hEx];exact Ci s K
 have hEs:E.size=s.size - K:=by rw [←hEx,ByteArray.size_extract];omega
 clear h hK hk hl;by_cases hz:K=s.size
 ·rw [Bs s K (by omega)];have c1:E.toList.isEmpty=true:=by rw [ByteArray.toList_eq,hEl,Bs s K (by omega)];rfl
  have c2:E.toList=[]:=List.isEmpty_iff.1 c1;clear hz hEl hEs;simp only;go_enter func44,ntmps44;go_upto_region 1 with fail;go_cut [] (fun wx=>CmSt w p s ext (st.go K) ta tb ts pa pc ma mc wx);(case first=>((go_region_law (first | (go_simp;go_at_call 64;refine (hB _).mono ?_;rintro e w1 ⟨rfl,b1⟩;have H1:=Afj (by first | exact HH.out.step b1 | exact HH.out.drew.step b1:CmSt w p s ext st ta tb ts pa pc ma mc w1);have f2:=H1.out.q.frozen 2;have g2:w1.cell? ⟨p,2,none⟩=some (.int .i64 (st.k:Int)):=(H1.out.q.cell 2).trans rfl;clear b1)));all_goals ((try go_wp2_with fail);go_meet;exact H1.out.go K)));have H2:=Afj hcut;clear hcut k0 k2;have k0:World.cell? wc ⟨p,0,none⟩=some (.string s):=(H2.out.q.cell 0).trans rfl;have k2:World.cell? wc ⟨p,2,none⟩=some (.int .i64 (K:Int)):=(H2.out.q.cell 2).trans rfl;go_upto_region 2 with fail;go_quiet (fail);generalize nq=n1;have H3:=Afj (H2.out.drewN n1);go_wp2_with fail
  go_ret;exact ⟨rfl,H3.out.R⟩
 ·have hlt:K < s.size:=by omega
  have hd:=Bm s K hlt;have c1:E.toList.isEmpty=false:=by rw [ByteArray.toList_eq,hEl,hd];rfl
  have c2:¬ E.toList=[]:=fun h=>by rw [h] at c1;cases c1
  have hE0:0 < E.size:=by omega
  have hEi:(0:Int) < (E.size:Int):=by omega
  have hEh:E[0]'hE0=s[K]:=by
   have h1:=Bm E 0 hE0;rw [List.drop_zero,hEl,hd] at h1;injection h1 with h1;exact h1.symm
  have hpf:=fun w=>Cw E ⟨#[92,10]⟩ w
  rw [hEl,hd,show (⟨#[92,10]⟩:ByteArray).data.toList=[92,10] from rfl,Aak] at hpf;rw [hd];obtain ⟨b,hb⟩:∃ b,s[K]=b:=⟨_,rfl⟩;rw [hb] at hEh hpf ⊢;simp only;clear hz hb hEl hEs;by_cases h10:b=10
  ·rw [if_pos h10];have q10:((b.toNat:Int) == 10)=true:=by rw [h10];rfl
   clear h10 hpf;go_enter func44,ntmps44;go_upto_region 1 with fail;go_cut [] (fun wx=>CmSt w p s ext (st.go K) ta tb ts pa pc ma mc wx);(case first=>((go_region_law (first | (go_simp;go_at_call 64;refine (hB _).mono ?_;rintro e w1 ⟨rfl,b1⟩;have H1:=Afj (by first | exact HH.out.step b1 | exact HH.out.drew.step b1:CmSt w p s ext st ta tb ts pa pc ma mc w1);have f2:=H1.out.q.frozen 2;have g2:w1.cell? ⟨p,2,none⟩=some (.int .i64 (st.k:Int)):=(H1.out.q.cell 2).trans rfl;clear b1)));all_goals ((try go_wp2_with fail);go_meet;exact H1.out.go K)));have H2:=Afj hcut;clear hcut k0 k2;have k0:World.cell? wc ⟨p,0,none⟩=some (.string s):=(H2.out.q.cell 0).trans rfl;have k2:World.cell? wc ⟨p,2,none⟩=some (.int .i64 (K:Int)):=(H2.out.q.cell 2).trans rfl;go_upto_region 2 with fail;go_quiet (fail);generalize nq=n1;have H3:=Afj (H2.out.drewN n1);go_wp2_with fail
   go_ret;exact ⟨rfl,H3.out.R⟩
  ·rw [if_neg h10];have q10:((b.toNat:Int) == 10)=false:=K0 (n:=10) (by decide) h10;by_cases h2:b=92∧(s.data.toList.drop (K+1)).head?=some 10
   ·rw [if_pos h2];rw [decide_eq_true h2] at hpf;obtain ⟨K2,hK2⟩:∃ K2,K+2=K2:=⟨_,rfl⟩;have h1:K+1 < s.size:=Gr h2.2;have hK2l:K2≤s.size:=by omega
    have Wk:IntKind.i64.wrap ((K:Int)+2)=(K2:Int):=by rw [Afx _ (by omega)];omega
    rw [hK2];have hN:=fun w1=>Ma s K2 w1 hs hK2l
    obtain ⟨st5,hst5⟩:∃ st5,(st.go K).go K2=st5:=⟨_,rfl⟩;have hgo:(st.go K2)=st5:=hst5;rw [hgo];have HK5:=Afj (show st5.k=K2 by rw [←hst5];rfl);unfold Dl;rw [HK5.out];obtain ⟨⟨t,q,e0⟩,hR⟩:∃ R,BA (s.data.toList.drop K2) K2 []=R:=⟨_,rfl⟩;rw [hR] at hN ⊢;have hN:∀ w1,Calls prog 69 #[.string s,.int .i64 (K2:Int)] w1 fun e w'=>e=.returned (.tuple #[.string (txt t),.int .i64 (q:Int),.int .i64 (e0:Int)])∧Below w1.heap.size w1 w':=hN
    clear h10 h2 hK2 hR hgo h1 hd;simp only;go_enter func44,ntmps44;go_upto_region 1 with fail;go_cut [] (fun wx=>CmSt w p s ext (st.go K) ta tb ts pa pc ma mc wx);(case first=>((go_region_law (first | (go_simp;go_at_call 64;refine (hB _).mono ?_;rintro e w1 ⟨rfl,b1⟩;have H1:=Afj (by first | exact HH.out.step b1 | exact HH.out.drew.step b1:CmSt w p s ext st ta tb ts pa pc ma mc w1);have f2:=H1.out.q.frozen 2;have g2:w1.cell? ⟨p,2,none⟩=some (.int .i64 (st.k:Int)):=(H1.out.q.cell 2).trans rfl;clear b1)));all_goals ((try go_wp2_with fail);go_meet;exact H1.out.go K)));have H2:=Afj hcut;clear hcut k0 k2;have k0:World.cell? wc ⟨p,0,none⟩=some (.string s):=(H2.out.q.cell 0).trans rfl;have k2:World.cell? wc ⟨p,2,none⟩=some (.int .i64 (K:Int)):=(H2.out.q.cell 2).trans rfl;go_upto_region 2 with fail;go_quiet (fail);generalize nq=n1;have H3:=Afj (H2.out.drewN n1);clear k0 k2;have k2:(wc.drewN n1).cell? ⟨p,2,none⟩=some (.int .i64 (K:Int)):=(H3.out.q.cell 2).trans rfl;have f2:=H3.out.q.frozen 2;have H5:=Afj (by have h9:=H3.out.go K2;rw [hst5] at h9;exact h9);go_upto_region 10 with (go_at_call 21;refine (hpf _).mono ?_;clear hpf;rintro e w4 ⟨rfl,rfl⟩)
    clear k2 f2;generalize (wc.drewN n1).setCell ⟨p,2,none⟩ (.int .i64 (K2:Int))=w5 at H5 ⊢
    (have k0:w5.cell? ⟨p,0,none⟩=some (.string s):=(H5.out.q.cell 0).trans rfl);(have k2:w5.cell? ⟨p,2,none⟩=some (.int .i64 (K2:Int)):=(H5.out.q.cell 2).trans (by rw [←HK5.out];rfl));go_region_held3 (fun w'=>w'.cell? ⟨p,0,none⟩=some (.string s)∧w'.cell? ⟨p,2,none⟩=some (.int .i64 (K2:Int))) (first | exact ⟨k0,k2⟩ | (refine ⟨?_,?_⟩ <;> assumption)) (first | (go_at_call 69;refine (hN _).mono ?_;rintro e w6 ⟨rfl,b6⟩;have H6:=Afj (by first | exact H5.out.step b6 | exact H5.out.drew.step b6:CmSt w p s ext st5 ta tb ts pa pc ma mc w6);have m0:w6.cell? ⟨p,0,none⟩=some (.string s):=(H6.out.q.cell 0).trans rfl;have m2:w6.cell? ⟨p,2,none⟩=some (.int .i64 (K2:Int)):=(H6.out.q.cell 2).trans (by rw [←HK5.out];rfl);clear b6));(all_goals (clear k0 k2 m0;have k14:w6.cell? ⟨p,14,none⟩=some (.string (txt st5.c.arg)):=(H6.out.q.cell 14).trans rfl;have f2:=H6.out.q.frozen 2;have f14:=H6.out.q.frozen 14;have H7:=Afj (H6.out.arg t q);go_wp2_with fail;go_ret;exact ⟨rfl,H7.out.R⟩))
   ·rw [if_neg h2];rw [decide_eq_false h2] at hpf;have hN:=fun w1=>Ma s K w1 hs hKl
    obtain ⟨st5,hst5⟩:∃ st5,(st.go K).mark st.c.pl [116,101,120,116]=st5:=⟨_,rfl⟩;rw [hst5];have HK5:=Afj (show st5.k=K by rw [←hst5];rfl);have HS5:=Afj hst5;unfold Dl;rw [HK5.out];obtain ⟨⟨t,q,e0⟩,hR⟩:∃ R,BA (s.data.toList.drop K) K []=R:=⟨_,rfl⟩;rw [hR] at hN ⊢;have hN:∀ w1,Calls prog 69 #[.string s,.int .i64 (K:Int)] w1 fun e w'=>e=.returned (.tuple #[.string (txt t),.int .i64 (q:Int),.int .i64 (e0:Int)])∧Below w1.heap.size w1 w':=hN
    clear h10 h2 hR hd hst5;simp only;go_enter func44,ntmps44;go_upto_region 1 with fail;go_cut [] (fun wx=>CmSt w p s ext (st.go K) ta tb ts pa pc ma mc wx);(case first=>((go_region_law (first | (go_simp;go_at_call 64;refine (hB _).mono ?_;rintro e w1 ⟨rfl,b1⟩;have H1:=Afj (by first | exact HH.out.step b1 | exact HH.out.drew.step b1:CmSt w p s ext st ta tb ts pa pc ma mc w1);have f2:=H1.out.q.frozen 2;have g2:w1.cell? ⟨p,2,none⟩=some (.int .i64 (st.k:Int)):=(H1.out.q.cell 2).trans rfl;clear b1)));all_goals ((try go_wp2_with fail);go_meet;exact H1.out.go K)));have H2:=Afj hcut;clear hcut k0 k2;have k0:World.cell? wc ⟨p,0,none⟩=some (.string s):=(H2.out.q.cell 0).trans rfl;have k2:World.cell? wc ⟨p,2,none⟩=some (.int .i64 (K:Int)):=(H2.out.q.cell 2).trans rfl;go_upto_region 2 with fail;go_quiet (fail);generalize nq=n1;have H3:=Afj (H2.out.drewN n1);clear k0 k2;generalize wc.drewN n1=w4 at H3 ⊢;have k3:w4.cell? ⟨p,3,none⟩=some (.int .i64 (st.c.pl:Int)):=(H3.out.q.cell 3).trans rfl;have k23:w4.cell? ⟨p,23,none⟩=some (.slice ma st.ms.length mc):=(H3.out.q.cell 23).trans rfl;obtain ⟨i0,hi,hz0,hz1,hz2⟩:=C3;have hlm:=Hl.out;have hm1:st.ms.length+1≤maxLen:=by unfold maxLen;omega
    have hm2:(st.ms.length+1) * 24≤140737488355328:=by omega
    have hlo:w.heap.size≤w4.heap.size:=H3.out.b0.size;have hplt:=H3.out.q.lt;clear hlm;go_upto_region 3 with (go_at_call 21;refine (hpf _).mono ?_;clear hpf;rintro e w9 ⟨rfl,rfl⟩)
    go_region_law (first
     | (refine A6 rfl _ _ 26 rfl w.heap.size 33 i0 (.agg #[.int .i64 0,.string ⟨#[]⟩]) 2 24 underlying26 hi hz0 hz1 hz2 rfl (by decide) (.slice ma st.ms.length mc) st.ms.length (wmC st.ms) rfl (Ah H3.out.r (by repeat (first | (with_reducible exact Afv _ _) | refine Agb ?_ | refine Agc ?_ (Afq _) _))) (some ⟨w4.heap.size,0,none⟩) 1 1 (JY ((st.c.pl:Int),⟨#[116,101,120,116]⟩)) rfl rfl (fun _=>⟨_,rfl,JZ w4 ((st.c.pl:Int),⟨#[116,101,120,116]⟩) _⟩) (Il _) hm1 hm2 (by simp;omega) ?_;intro v6 w6 hown6 hgrow6 hat6;obtain ⟨a6,c6,rfl⟩:=AB hown6;have HP:=Afj (H3.out.push (n:=1) (ms2:=[((st.c.pl:Int),⟨#[116,101,120,116]⟩)]) (((Afv w4.heap.size w4).alloc (Afq _) _).drew) rfl hgrow6 (show w6.ownsRow w.heap.size 33 2 (.slice a6 (st.ms.length+1) c6) (st.ms.length+1) (wmC st.ms++wmC [((st.c.pl:Int),⟨#[116,101,120,116]⟩)]) by simpa [wmC] using hown6) hat6);have f23:=(AM (H3.out.q.below (((Afv w4.heap.size w4).alloc (Afq _) _).drew) H3.out.q.lt) hgrow6 H3.out.rg).frozen 23;have g23:w6.cell? ⟨p,23,none⟩=some (.slice ma st.ms.length mc):=((AM (H3.out.q.below (((Afv w4.heap.size w4).alloc (Afq _) _).drew) H3.out.q.lt) hgrow6 H3.out.rg).cell 23).trans rfl;clear hown6 hgrow6 hat6))
    all_goals
     have H5:=Afj (show CmSt w p s ext st5 ta tb ts pa pc a6 c6 (w6.setCell ⟨p,23,none⟩ (.slice a6 (st.ms.length+1) c6)) by rw [←HS5.out];exact HP.out);clear HP;go_upto_region 10 with fail;clear k3 k23 f23 g23 hplt;generalize w6.setCell ⟨p,23,none⟩ (.slice a6 (st.ms.length+1) c6)=w5 at H5 ⊢
     (have k0:w5.cell? ⟨p,0,none⟩=some (.string s):=(H5.out.q.cell 0).trans rfl);(have k2:w5.cell? ⟨p,2,none⟩=some (.int .i64 (K:Int)):=(H5.out.q.cell 2).trans (by rw [←HK5.out];rfl));go_region_held3 (fun w'=>w'.cell? ⟨p,0,none⟩=some (.string s)∧w'.cell? ⟨p,2,none⟩=some (.int .i64 (K:Int))) (first | exact ⟨k0,k2⟩ | (refine ⟨?_,?_⟩ <;> assumption)) (first | (go_at_call 69;refine (hN _).mono ?_;rintro e w6 ⟨rfl,b6⟩;have H6:=Afj (by first | exact H5.out.step b6 | exact H5.out.drew.step b6:CmSt w p s ext st5 ta tb ts pa pc a6 c6 w6);have m0:w6.cell? ⟨p,0,none⟩=some (.string s):=(H6.out.q.cell 0).trans rfl;have m2:w6.cell? ⟨p,2,none⟩=some (.int .i64 (K:Int)):=(H6.out.q.cell 2).trans (by rw [←HK5.out];rfl);clear b6));(all_goals (clear k0 k2 m0;have k14:w6.cell? ⟨p,14,none⟩=some (.string (txt st5.c.arg)):=(H6.out.q.cell 14).trans rfl;have f2:=H6.out.q.frozen 2;have f14:=H6.out.q.frozen 14;have H7:=Afj (H6.out.arg t q);go_wp2_with fail;go_ret;exact ⟨rfl,H7.out.R⟩))
theorem SF {L:List UInt8} {st:CS} (h0:(AW L st).1=0):(AW L st).2.k=st.k+1∧st.k < L.length∧(AW L st).2.ms.length≤st.ms.length+1:=by
 unfold AW at h0 ⊢;cases hd:L.drop st.k with
 | nil=>rw [hd] at h0;cases h0
 | cons b t=>
  have hlt:=AD hd;rw [hd] at h0;simp only at h0 ⊢;cases hM:Et b with
  | none=>rw [hM] at h0;cases h0
  | some n=>
   rw [hM] at h0;unfold Bt at h0 ⊢;simp only at h0 ⊢;by_cases hx:n < GE st.c.g
   ·rw [if_pos hx] at h0;cases h0
   ·rw [if_neg hx];split
    ·exact ⟨rfl,hlt,by show (st.ms++_).length≤_;simp⟩
    ·exact ⟨rfl,hlt,Nat.le_succ _⟩
theorem XL {ext:Bool} {L:List UInt8} {st:CS} {b:UInt8} (hb:st.c.name=b):AP ext L st=if b=123∨b=125 then (0,st) else if b=58 then BE L st else if b=98∨b=116∨b=84 then C9 L st else if b=97∨b=105∨b=99 then BT L st else if b=114∨b=119 then Bn L st else if b=115 then BU ext L st else if b=121 then BL L st else BG L st:=by
 subst hb;rfl
theorem XM (w:World) (p:Nat) (s:ByteArray) (ext:Bool) (st:CS) (W:World) (h:Dy w p s ext st W) (hs:s.size≤4000) (hk:st.k≤s.size) (hl:st.ms.length≤80000) (hG:Gl w) (hP:GP w) :
  Calls prog 32 #[.pointer (some ⟨p,0,none⟩)] W fun e W'=>e=.returned (.int .i64 ((AE ext s.data.toList st).1:Int))∧Dy w p s ext (AE ext s.data.toList st).2 W':=by
 have hs4:s.size≤4000000:=by omega
 have hA:=U7 w p s ext st W h hs4 hk (by omega);have hok:=SF (L:=s.data.toList) (st:=st);rw [←Ae] at hok;unfold AE CO.then
 obtain ⟨⟨e1,s1⟩,hR1⟩:∃ R,AW s.data.toList st=R:=⟨_,rfl⟩;rw [hR1] at hA hok ⊢;simp only at hA hok ⊢;clear hR1 h;by_cases h1:e1=0
 ·subst h1;rw [if_pos rfl];obtain ⟨hk1,hkl,hm1⟩:=hok rfl;have hk2:s1.k≤s.size:=by omega
  have hm2:s1.ms.length≤90000:=by omega
  have hm3:s1.ms.length≤100000:=by omega
  obtain ⟨b,hb⟩:∃ b,s1.c.name=b:=⟨_,rfl⟩;rw [XL hb];have HB:=Afj hb;clear hb hk1 hkl hm1 hok hl hk;by_cases h123:b=123∨b=125
  ·rw [if_pos h123];rcases h123 with hx | hx
   ·have q123:((b.toNat:Int) == 123)=true:=by rw [hx];rfl
    clear hx;go_enter func32,ntmps32;go_wp2_with (go_at_call 41;refine hA.mono ?_;clear hA;rintro e w1 ⟨rfl,h1⟩;have H1:=Afj h1;obtain ⟨ta,tb,ts,pa,pc,ma,mc,h1⟩:=h1;have c13:w1.cell? ⟨p,13,none⟩=some (.int .u8 (b.toNat:Int)):=(h1.q.cell 13).trans (by rw [←HB.out];rfl);clear h1)
    go_ret;exact ⟨rfl,H1.out⟩
   ·have q125:((b.toNat:Int) == 125)=true:=by rw [hx];rfl
    have q123:((b.toNat:Int) == 123)=false:=by rw [hx];rfl
    clear hx;go_enter func32,ntmps32;go_wp2_with (go_at_call 41;refine hA.mono ?_;clear hA;rintro e w1 ⟨rfl,h1⟩;have H1:=Afj h1;obtain ⟨ta,tb,ts,pa,pc,ma,mc,h1⟩:=h1;have c13:w1.cell? ⟨p,13,none⟩=some (.int .u8 (b.toNat:Int)):=(h1.q.cell 13).trans (by rw [←HB.out];rfl);clear h1)
    go_ret;exact ⟨rfl,H1.out⟩
  rw [if_neg h123];have q123:((b.toNat:Int) == 123)=false:=Aq (c:=123) (fun e=>h123 (.inl e));have q125:((b.toNat:Int) == 125)=false:=Aq (c:=125) (fun e=>h123 (.inr e));clear h123;by_cases h58:b=58
  ·rw [if_pos h58];have q58:((b.toNat:Int) == 58)=true:=by rw [h58];rfl
   clear h58;have hX:=fun W1 (h:Dy w p s ext s1 W1)=>KD w p s ext s1 W1 h hs4 hk2
   clear hG hP hm2 hm3 hk2 hs hs4;go_enter func32,ntmps32;go_wp2_with (first | (go_at_call 41;refine hA.mono ?_;clear hA;rintro e w1 ⟨rfl,h1⟩;have H1:=Afj h1;obtain ⟨ta,tb,ts,pa,pc,ma,mc,h1⟩:=h1;have c13:w1.cell? ⟨p,13,none⟩=some (.int .u8 (b.toNat:Int)):=(h1.q.cell 13).trans (by rw [←HB.out];rfl);clear h1) | (go_at_call 42;refine (hX _ H1.out).mono ?_;clear hX;rintro e w2 ⟨rfl,h2⟩))
   go_ret;exact ⟨rfl,h2⟩
  rw [if_neg h58];have q58:((b.toNat:Int) == 58)=false:=Aq (c:=58) (h58);clear h58;by_cases h98:b=98∨b=116∨b=84
  ·rw [if_pos h98];rcases h98 with hx | hx | hx
   ·have q98:((b.toNat:Int) == 98)=true:=by rw [hx];rfl
    clear hx;have hX:=fun W1 (h:Dy w p s ext s1 W1)=>KE w p s ext s1 W1 h hs4 hk2
    clear hG hP hm2 hm3 hk2 hs hs4;go_enter func32,ntmps32;go_wp2_with (first | (go_at_call 41;refine hA.mono ?_;clear hA;rintro e w1 ⟨rfl,h1⟩;have H1:=Afj h1;obtain ⟨ta,tb,ts,pa,pc,ma,mc,h1⟩:=h1;have c13:w1.cell? ⟨p,13,none⟩=some (.int .u8 (b.toNat:Int)):=(h1.q.cell 13).trans (by rw [←HB.out];rfl);clear h1) | (go_at_call 43;refine (hX _ H1.out).mono ?_;clear hX;rintro e w2 ⟨rfl,h2⟩))
    go_ret;exact ⟨rfl,h2⟩
   ·have q116:((b.toNat:Int) == 116)=true:=by rw [hx];rfl
    have q98:((b.toNat:Int) == 98)=false:=by rw [hx];rfl
    clear hx;have hX:=fun W1 (h:Dy w p s ext s1 W1)=>KE w p s ext s1 W1 h hs4 hk2
    clear hG hP hm2 hm3 hk2 hs hs4;go_enter func32,ntmps32;go_wp2_with (first | (go_at_call 41;refine hA.mono ?_;clear hA;rintro e w1 ⟨rfl,h1⟩;have H1:=Afj h1;obtain ⟨ta,tb,ts,pa,pc,ma,mc,h1⟩:=h1;have c13:w1.cell? ⟨p,13,none⟩=some (.int .u8 (b.toNat:Int)):=(h1.q.cell 13).trans (by rw [←HB.out];rfl);clear h1) | (go_at_call 43;refine (hX _ H1.out).mono ?_;clear hX;rintro e w2 ⟨rfl,h2⟩))
    go_ret;exact ⟨rfl,h2⟩
   ·have q84:((b.toNat:Int) == 84)=true:=by rw [hx];rfl
    have q98:((b.toNat:Int) == 98)=false:=by rw [hx];rfl
    have q116:((b.toNat:Int) == 116)=false:=by rw [hx];rfl
    clear hx;have hX:=fun W1 (h:Dy w p s ext s1 W1)=>KE w p s ext s1 W1 h hs4 hk2
    clear hG hP hm2 hm3 hk2 hs hs4;go_enter func32,ntmps32;go_wp2_with (first | (go_at_call 41;refine hA.mono ?_;clear hA;rintro e w1 ⟨rfl,h1⟩;have H1:=Afj h1;obtain ⟨ta,tb,ts,pa,pc,ma,mc,h1⟩:=h1;have c13:w1.cell? ⟨p,13,none⟩=some (.int .u8 (b.toNat:Int)):=(h1.q.cell 13).trans (by rw [←HB.out];rfl);clear h1) | (go_at_call 43;refine (hX _ H1.out).mono ?_;clear hX;rintro e w2 ⟨rfl,h2⟩))
    go_ret;exact ⟨rfl,h2⟩
  rw [if_neg h98];have q98:((b.toNat:Int) == 98)=false:=Aq (c:=98) (fun e=>h98 (.inl e));have q116:((b.toNat:Int) == 116)=false:=Aq (c:=116) (fun e=>h98 (.inr (.inl e)));have q84:((b.toNat:Int) == 84)=false:=Aq (c:=84) (fun e=>h98 (.inr (.inr e)));clear h98;by_cases h97:b=97∨b=105∨b=99
  ·rw [if_pos h97];rcases h97 with hx | hx | hx
   ·have q97:((b.toNat:Int) == 97)=true:=by rw [hx];rfl
    clear hx;have hX:=fun W1 (h:Dy w p s ext s1 W1)=>IH w p s ext s1 W1 h hs4 hk2 hm3
    clear hG hP hm2 hm3 hk2 hs hs4;go_enter func32,ntmps32;go_wp2_with (first | (go_at_call 41;refine hA.mono ?_;clear hA;rintro e w1 ⟨rfl,h1⟩;have H1:=Afj h1;obtain ⟨ta,tb,ts,pa,pc,ma,mc,h1⟩:=h1;have c13:w1.cell? ⟨p,13,none⟩=some (.int .u8 (b.toNat:Int)):=(h1.q.cell 13).trans (by rw [←HB.out];rfl);clear h1) | (go_at_call 44;refine (hX _ H1.out).mono ?_;clear hX;rintro e w2 ⟨rfl,h2⟩))
    go_ret;exact ⟨rfl,h2⟩
   ·have q105:((b.toNat:Int) == 105)=true:=by rw [hx];rfl
    have q97:((b.toNat:Int) == 97)=false:=by rw [hx];rfl
    clear hx;have hX:=fun W1 (h:Dy w p s ext s1 W1)=>IH w p s ext s1 W1 h hs4 hk2 hm3
    clear hG hP hm2 hm3 hk2 hs hs4;go_enter func32,ntmps32;go_wp2_with (first | (go_at_call 41;refine hA.mono ?_;clear hA;rintro e w1 ⟨rfl,h1⟩;have H1:=Afj h1;obtain ⟨ta,tb,ts,pa,pc,ma,mc,h1⟩:=h1;have c13:w1.cell? ⟨p,13,none⟩=some (.int .u8 (b.toNat:Int)):=(h1.q.cell 13).trans (by rw [←HB.out];rfl);clear h1) | (go_at_call 44;refine (hX _ H1.out).mono ?_;clear hX;rintro e w2 ⟨rfl,h2⟩))
    go_ret;exact ⟨rfl,h2⟩
   ·have q99:((b.toNat:Int) == 99)=true:=by rw [hx];rfl
    have q97:((b.toNat:Int) == 97)=false:=by rw [hx];rfl
    have q105:((b.toNat:Int) == 105)=false:=by rw [hx];rfl
    clear hx;have hX:=fun W1 (h:Dy w p s ext s1 W1)=>IH w p s ext s1 W1 h hs4 hk2 hm3
    clear hG hP hm2 hm3 hk2 hs hs4;go_enter func32,ntmps32;go_wp2_with (first | (go_at_call 41;refine hA.mono ?_;clear hA;rintro e w1 ⟨rfl,h1⟩;have H1:=Afj h1;obtain ⟨ta,tb,ts,pa,pc,ma,mc,h1⟩:=h1;have c13:w1.cell? ⟨p,13,none⟩=some (.int .u8 (b.toNat:Int)):=(h1.q.cell 13).trans (by rw [←HB.out];rfl);clear h1) | (go_at_call 44;refine (hX _ H1.out).mono ?_;clear hX;rintro e w2 ⟨rfl,h2⟩))
    go_ret;exact ⟨rfl,h2⟩
  rw [if_neg h97];have q97:((b.toNat:Int) == 97)=false:=Aq (c:=97) (fun e=>h97 (.inl e));have q105:((b.toNat:Int) == 105)=false:=Aq (c:=105) (fun e=>h97 (.inr (.inl e)));have q99:((b.toNat:Int) == 99)=false:=Aq (c:=99) (fun e=>h97 (.inr (.inr e)));clear h97;by_cases h114:b=114∨b=119
  ·rw [if_pos h114];rcases h114 with hx | hx
   ·have q114:((b.toNat:Int) == 114)=true:=by rw [hx];rfl
    clear hx;have hX:=fun W1 (h:Dy w p s ext s1 W1)=>KF w p s ext s1 W1 h hs4 hk2
    clear hG hP hm2 hm3 hk2 hs hs4;go_enter func32,ntmps32;go_wp2_with (first | (go_at_call 41;refine hA.mono ?_;clear hA;rintro e w1 ⟨rfl,h1⟩;have H1:=Afj h1;obtain ⟨ta,tb,ts,pa,pc,ma,mc,h1⟩:=h1;have c13:w1.cell? ⟨p,13,none⟩=some (.int .u8 (b.toNat:Int)):=(h1.q.cell 13).trans (by rw [←HB.out];rfl);clear h1) | (go_at_call 45;refine (hX _ H1.out).mono ?_;clear hX;rintro e w2 ⟨rfl,h2⟩))
    go_ret;exact ⟨rfl,h2⟩
   ·have q119:((b.toNat:Int) == 119)=true:=by rw [hx];rfl
    have q114:((b.toNat:Int) == 114)=false:=by rw [hx];rfl
    clear hx;have hX:=fun W1 (h:Dy w p s ext s1 W1)=>KF w p s ext s1 W1 h hs4 hk2
    clear hG hP hm2 hm3 hk2 hs hs4;go_enter func32,ntmps32;go_wp2_with (first | (go_at_call 41;refine hA.mono ?_;clear hA;rintro e w1 ⟨rfl,h1⟩;have H1:=Afj h1;obtain ⟨ta,tb,ts,pa,pc,ma,mc,h1⟩:=h1;have c13:w1.cell? ⟨p,13,none⟩=some (.int .u8 (b.toNat:Int)):=(h1.q.cell 13).trans (by rw [←HB.out];rfl);clear h1) | (go_at_call 45;refine (hX _ H1.out).mono ?_;clear hX;rintro e w2 ⟨rfl,h2⟩))
    go_ret;exact ⟨rfl,h2⟩
  rw [if_neg h114];have q114:((b.toNat:Int) == 114)=false:=Aq (c:=114) (fun e=>h114 (.inl e));have q119:((b.toNat:Int) == 119)=false:=Aq (c:=119) (fun e=>h114 (.inr e));clear h114;by_cases h115:b=115
  ·rw [if_pos h115];have q115:((b.toNat:Int) == 115)=true:=by rw [h115];rfl
   clear h115;have hX:=fun W1 (h:Dy w p s ext s1 W1)=>XF w p s ext s1 W1 h hs hk2 hm2 hG hP
   clear hG hP hm2 hm3 hk2 hs hs4;go_enter func32,ntmps32;go_wp2_with (first | (go_at_call 41;refine hA.mono ?_;clear hA;rintro e w1 ⟨rfl,h1⟩;have H1:=Afj h1;obtain ⟨ta,tb,ts,pa,pc,ma,mc,h1⟩:=h1;have c13:w1.cell? ⟨p,13,none⟩=some (.int .u8 (b.toNat:Int)):=(h1.q.cell 13).trans (by rw [←HB.out];rfl);clear h1) | (go_at_call 46;refine (hX _ H1.out).mono ?_;clear hX;rintro e w2 ⟨rfl,h2⟩))
   go_ret;exact ⟨rfl,h2⟩
  rw [if_neg h115];have q115:((b.toNat:Int) == 115)=false:=Aq (c:=115) (h115);clear h115;by_cases h121:b=121
  ·rw [if_pos h121];have q121:((b.toNat:Int) == 121)=true:=by rw [h121];rfl
   clear h121;have hX:=fun W1 (h:Dy w p s ext s1 W1)=>XK w p s ext s1 W1 h hs hk2 hm3 hP
   clear hG hP hm2 hm3 hk2 hs hs4;go_enter func32,ntmps32;go_wp2_with (first | (go_at_call 41;refine hA.mono ?_;clear hA;rintro e w1 ⟨rfl,h1⟩;have H1:=Afj h1;obtain ⟨ta,tb,ts,pa,pc,ma,mc,h1⟩:=h1;have c13:w1.cell? ⟨p,13,none⟩=some (.int .u8 (b.toNat:Int)):=(h1.q.cell 13).trans (by rw [←HB.out];rfl);clear h1) | (go_at_call 47;refine (hX _ H1.out).mono ?_;clear hX;rintro e w2 ⟨rfl,h2⟩))
   go_ret;exact ⟨rfl,h2⟩
  rw [if_neg h121];have q121:((b.toNat:Int) == 121)=false:=Aq (c:=121) (h121);clear h121;have hX:=fun W1 (h:Dy w p s ext s1 W1)=>K8 w p s ext s1 W1 h hs4 hk2 hm3
  clear hG hP hm2 hm3 hk2 hs hs4;go_enter func32,ntmps32;go_wp2_with (first | (go_at_call 41;refine hA.mono ?_;clear hA;rintro e w1 ⟨rfl,h1⟩;have H1:=Afj h1;obtain ⟨ta,tb,ts,pa,pc,ma,mc,h1⟩:=h1;have c13:w1.cell? ⟨p,13,none⟩=some (.int .u8 (b.toNat:Int)):=(h1.q.cell 13).trans (by rw [←HB.out];rfl);clear h1) | (go_at_call 48;refine (hX _ H1.out).mono ?_;clear hX;rintro e w2 ⟨rfl,h2⟩))
  go_ret;exact ⟨rfl,h2⟩
 ·rw [if_neg h1];have ce:((e1:Int) != 0)=true:=by simpa using h1
  clear hok hl hk h1 hG hP;go_enter func32,ntmps32;go_wp2_with (go_at_call 41;refine hA.mono ?_;clear hA;rintro e w1 ⟨rfl,h1⟩)
  go_ret;exact ⟨rfl,h1⟩
theorem Rx {ext:Bool} {k:Nat} {q:Grd × List Wm × Nat} (s:ByteArray) (hk:k≤s.size) (h:GS ext s.data.toList k=.ok q):q.2.2≤s.size∧q.2.1.length≤600:=by
 have hnk:∀ {j:Nat} {r:Bool × Nat},j≤s.size→C4 s.data.toList j=.ok r→r.2≤s.size:=fun {j r} hj h=>by
  have h1:=EK s j hj;unfold C4 at h;split at h
  ·rename_i hh;have h2:=Gr hh;have h3:=EK s (Ak s.data.toList j+1) (by omega);split at h
   ·cases h
   ·injection h with h;subst h;exact h3
  ·injection h with h;subst h;exact h1
 unfold GS at h;cases h1:DQ ext false s.data.toList k with
 | error q=>rw [h1] at h;cases h
 | ok r=>
  rw [h1] at h;obtain ⟨f1,g1⟩:=Nk s hk h1;unfold CT at h;simp only at h;split at h
  ·unfold FK EX at h;simp only at h;split at h
   ·cases h
   ·rename_i h5;injection h with h;subst h;exact ⟨hnk f1 h5,by show r.2.1.length≤_;omega⟩
  ·cases h2:BC ext s.data.toList r.2.2 with
   | error q=>rw [h2] at h;cases h
   | ok r2=>
    rw [h2] at h;have hj:r2.2.2≤s.size∧r2.2.1.length≤251:=by
     have hb:=EK s r.2.2 f1;unfold BC at h2;split at h2
     ·rename_i hh;have hlt:=Gr hh;have hb2:=EK s (Ak s.data.toList r.2.2+1) (by omega);unfold DB at h2;split at h2
      ·cases h2
      ·rename_i h3;split at h2
       ·cases h2
       ·injection h2 with h2;subst h2;exact Nk s hb2 h3
     ·injection h2 with h2;subst h2;exact ⟨f1,by simp⟩
    unfold EG FK EX at h;simp only at h;split at h
    ·cases h
    ·rename_i h5;injection h with h;subst h;exact ⟨hnk hj.1 h5,by show (r.2.1++r2.2.1).length≤_;rw [Afs];omega⟩
abbrev EL (c:Cmd) (ta tb ts pv:Value):Array Value:=
 #[.int .i64 (c.pl:Int),.int .i64 (c.g.a.kind:Int),.int .i64 (c.g.a.line:Int),.string (txt c.g.a.text),ta,.int .i64 (c.g.b.kind:Int),.int .i64 (c.g.b.line:Int),.string (txt c.g.b.text),tb,.bool c.g.no,.int .u8 c.name.toNat,.string (txt c.arg),.string (txt c.sub.text),ts,pv,.int .i64 (c.sub.nth:Int),.bool c.sub.all,.bool c.sub.prt,.string (txt c.sub.file),.string (txt c.table)]
abbrev DP:Array Value:=
 #[.int .i64 0,.int .i64 0,.int .i64 0,.string ⟨#[]⟩,.nilIface,.int .i64 0,.int .i64 0,.string ⟨#[]⟩,.nilIface,.bool false,.int .u8 0,.string ⟨#[]⟩,.string ⟨#[]⟩,.nilIface,.slice none 0 0,.int .i64 0,.bool false,.bool false,.string ⟨#[]⟩,.string ⟨#[]⟩]
def UK (w:World) (r:BO Cmd) (e:Ending) (w':World):Prop:=Below w.heap.size w w'∧match r with
 | .error q=>e=.returned (.tuple #[.agg DP,.slice none 0 0,.int .i64 (q.2:Int),.int .i64 (q.1:Int)])
 | .ok q=>∃ ta tb ts pa pc ma mc,e=.returned (.tuple #[.agg (EL q.1 ta tb ts (.slice pa q.1.sub.parts.length pc)),.slice ma q.2.1.length mc,.int .i64 (q.2.2:Int),.int .i64 0])∧
  TrO (fun b=>w.heap.size≤b) w' q.1.g.a.tree ta∧TrO (fun b=>w.heap.size≤b) w' q.1.g.b.tree tb∧TrO (fun b=>w.heap.size≤b) w' q.1.sub.tree ts∧
  w'.ownsRow w.heap.size 73 2 (.slice pa q.1.sub.parts.length pc) q.1.sub.parts.length (cpC q.1.sub.parts)∧
  w'.ownsRow w.heap.size 33 2 (.slice ma q.2.1.length mc) q.2.1.length (wmC q.2.1)
theorem CmSt.fin {w W:World} {p:Nat} {s:ByteArray} {ext:Bool} {st:CS} {ta tb ts:Value} {pa:Option Addr} {pc:Nat} {ma:Option Addr} {mc:Nat} {w5 W9:World} (h:CmSt W p s ext st ta tb ts pa pc ma mc w5) (hw:w.heap.size < W.heap.size) (hb:Below w.heap.size w W9) (hs:∀ b,b≠w.heap.size→W9.heap[b]?=w5.heap[b]?) (hz:W9.heap.size=w5.heap.size) :
  UK w (.ok (st.c,st.ms,st.k)) (.returned (.tuple #[.agg (EL st.c ta tb ts (.slice pa st.c.sub.parts.length pc)),.slice ma st.ms.length mc,.int .i64 (st.k:Int),.int .i64 0])) W9:=by
 have hk:∀ {t v},TrO (fun b=>W.heap.size≤b∧b≠p∧(Value.slice ma st.ms.length mc).ownBlock≠some b) w5 t v→TrO (fun b=>w.heap.size≤b) W9 t v:=fun hk=>TrO.keep (by omega) (fun b hb _=>⟨by have:=hb.1;omega,fun o=>Afy (w:=w5) (a:=⟨b,o,none⟩) (hs b (by have:=hb.1;omega))⟩) hk
 exact ⟨hb,ta,tb,ts,pa,pc,ma,mc,rfl,hk h.ha,hk h.hb,hk h.hs,BW (Afu hw) (Ab h.pr fun b e=>hs b (by have:=AS h.pr b e;omega)),BW (Afu hw) (Ab h.r fun b e=>hs b (by have:=AS h.r b e;omega))⟩
theorem II {tmps:Array Value} {W:World} {r:Nat} {cs:Array Value} {v7 v8 v9:Value} (h6:tmps.getD 6 undef=.pointer (some ⟨r,0,none⟩)) (h7:tmps.getD 7 undef=v7) (h8:tmps.getD 8 undef=v8) (h9:tmps.getD 9 undef=v9) (hl:(loadVar 54 ⟨r,0,none⟩).run prog W=.ok (.agg cs) W) :
  (results Tryz.f22 tmps).run prog W=.ok (.tuple #[.agg cs,v7,v8,v9]) W:=by
 have ha:(asAddr (.pointer (some ⟨r,0,none⟩))).run prog W=.ok ⟨r,0,none⟩ W:=rfl;simp only [Array.getD_eq_getD_getElem?] at h6 h7 h8 h9;unfold results;rw [results22];simp [Sem.run_bind,h6,h7,h8,h9,hl,ha]
theorem G0 {P:Program} {op:Oper} {a:Act} {W:World} (ty:TypeId) (x:Operand) (ho:op.op=.load ty x) (g:Nat) (hx:a.eval x=.pointer (some ⟨g,0,none⟩)) {cs:Array Value} {T:TypeId} (h:Blk W g cs T) {fs:_} (hu:P.underlying ty=some (.struct fs)) (hi:(P.info? ty).map (·.size)=some cs.size) :
  Sem.run P (execOp a.eval op) W=.ok (.value (.agg cs)) W:=by
 unfold execOp;simp only [ho,hx,Instr.loadAt,Instr.sureAddr,Sem.run_bind,Sem.run_pure,Result.andThen_ok,run_loadVar_row W g _ ty cs _ (.struct fs) h hu rfl hi]
theorem G1 {P:Program} {op:Oper} {a:Act} {W:World} (ty:TypeId) (x:Operand) (ho:op.op=.load ty x) (g o n:Nat) (hx:a.eval x=.pointer (some ⟨g,o,none⟩)) {cs:Array Value} {T:TypeId} (h:Blk W g cs T) {fs:_} (hu:P.underlying ty=some (.struct fs)) (hi:(P.info? ty).map (·.size)=some ((cs.toList.drop o).take n).length) :
  Sem.run P (execOp a.eval op) W=.ok (.value (.agg ((cs.toList.drop o).take n).toArray)) W:=by
 have hc:W.rangeAt g o ((cs.toList.drop o).take n):=fun j v hj=>by
  rw [List.getElem?_take] at hj;split at hj
  ·rw [List.getElem?_drop] at hj;rw [h.cell (o+j),←Array.getElem?_toList];exact hj
  ·cases hj
 unfold execOp;simp only [ho,hx,Instr.loadAt,Instr.sureAddr,Sem.run_bind,Sem.run_pure,Result.andThen_ok,run_loadVar_mid W g o ty _ (.struct fs) hc hu rfl hi]
abbrev gdC (g:Grd) (ta tb:Value):Array Value:=#[.int .i64 (g.a.kind:Int),.int .i64 (g.a.line:Int),.string (txt g.a.text),ta,.int .i64 (g.b.kind:Int),.int .i64 (g.b.line:Int),.string (txt g.b.text),tb,.bool g.no]
structure GxS (W:World) (gx:Nat) (g:Grd) (ms:List Wm) (ta tb:Value) (ma:Option Addr) (mc:Nat) (wx:World):Prop where
 b:Below W.heap.size W wx
 q:Blk wx gx (gdC g ta tb) 49
 ha:TrO (fun b=>W.heap.size≤b∧b < wx.heap.size∧(Value.slice ma ms.length mc).ownBlock≠some b) wx g.a.tree ta
 hb:TrO (fun b=>W.heap.size≤b∧b < wx.heap.size∧(Value.slice ma ms.length mc).ownBlock≠some b) wx g.b.tree tb
 r:wx.ownsRow W.heap.size 33 2 (.slice ma ms.length mc) ms.length (wmC ms)
theorem GxS.mk' {W w1 w2:World} {g:Grd} {ms:List Wm} {ta tb:Value} {ma:Option Addr} {mc:Nat} (b1:Below W.heap.size W w1) (ha:TrO (fun b=>W.heap.size < b∧(Value.slice ma ms.length mc).ownBlock≠some b) w1 g.a.tree ta) (hb:TrO (fun b=>W.heap.size < b∧(Value.slice ma ms.length mc).ownBlock≠some b) w1 g.b.tree tb) (hr:w1.ownsRow (W.heap.size+1) 33 2 (.slice ma ms.length mc) ms.length (wmC ms)) (hW:w1.alloc (.cells (gdC g ta tb) 49)=w2):GxS W w1.heap.size g ms ta tb ma mc w2:=by
 have b2:=Ad hW;have hs:=b2.size;have hk:∀ {t v},TrO (fun b=>W.heap.size < b∧(Value.slice ma ms.length mc).ownBlock≠some b) w1 t v→TrO (fun b=>W.heap.size≤b∧b < w2.heap.size∧(Value.slice ma ms.length mc).ownBlock≠some b) w2 t v:=fun h=>TrO.keep hs (fun b h1 hl=>⟨⟨Afu h1.1,Aft hl hs,h1.2⟩,fun o=>b2.cell (p:=⟨b,o,none⟩) hl⟩) h
 exact ⟨b1.trans (b2.mono b1.size),Af hW,hk ha,hk hb,Ah (BW (Nat.le_succ _) hr) b2⟩
theorem Aal (s:ByteArray) (ext:Bool) (st:CS) (ta tb ts pv mv:Value) (h1:ta.oneCell'=true) (h2:tb.oneCell'=true) (h3:ts.oneCell'=true) (h4:pv.oneCell'=true) (h5:mv.oneCell'=true):(cmC s ext st ta tb ts pv mv).all (·.oneCell')=true:=by
 unfold cmC;simp only [List.all_toArray,List.all_cons,List.all_nil,h1,h2,h3,h4,h5];rfl
theorem Nv (c:Cmd) (ta tb ts pv:Value) (h1:ta.oneCell'=true) (h2:tb.oneCell'=true) (h3:ts.oneCell'=true) (h4:pv.oneCell'=true):(EL c ta tb ts pv).all (·.oneCell')=true:=by
 simp only [List.all_toArray,List.all_cons,List.all_nil,h1,h2,h3,h4];rfl
theorem AR {v:Value} (h:(∃ T q,v=.iface T q)∨v=.nilIface):v.oneCell'=true:=by
 rcases h with ⟨T,q,rfl⟩ | rfl <;> rfl
theorem GxS.reader {W:World} {gx:Nat} {g:Grd} {ms:List Wm} {ta tb:Value} {ma:Option Addr} {mc:Nat} {wx wy:World} (h:GxS W gx g ms ta tb ma mc wx) (s:ByteArray) (ext:Bool) (k:Nat) {z:Array Value} (hy:wx.alloc (.cells z 78)=wy) :
  CmSt W wx.heap.size s ext (AA g ms k) ta tb .nilIface none 0 ma mc (wy.setRow wx.heap.size (cmC s ext (AA g ms k) ta tb .nilIface (.slice none 0 0) (.slice ma ms.length mc))):=by
 have b2:=Ad hy;have q2:=Af hy;have hs:=b2.size;have hbs:=h.b.size;have o1:∀ b,b≠wx.heap.size→(wy.setRow wx.heap.size (cmC s ext (AA g ms k) ta tb .nilIface (.slice none 0 0) (.slice ma ms.length mc))).heap[b]?=wy.heap[b]?:=fun b hb=>setRow_other wy _ b _ hb
 have hk:∀ {t v},TrO (fun b=>W.heap.size≤b∧b < wx.heap.size∧(Value.slice ma ms.length mc).ownBlock≠some b) wx t v→TrO (fun b=>W.heap.size≤b∧b≠wx.heap.size∧(Value.slice ma ms.length mc).ownBlock≠some b) (wy.setRow wx.heap.size (cmC s ext (AA g ms k) ta tb .nilIface (.slice none 0 0) (.slice ma ms.length mc))) t v:=fun h=>TrO.keep (by simp;omega) (fun b h1 hl=>⟨⟨h1.1,by omega,h1.2.2⟩,fun o=>Afy (w:=wx) (a:=⟨b,o,none⟩) ((o1 b (by omega)).trans (b2.block b hl))⟩) h
 have hne:∀ q,(Value.slice ma ms.length mc).ownBlock=some q→q≠wx.heap.size:=fun q e=>Nat.ne_of_lt (AF h.r q e)
 refine ⟨below_setRow (h.b.trans (b2.mono hbs)) hbs _,setRow_heap wy _ _ _ _ _ q2,hbs,hk h.ha,hk h.hb,rfl,Ab (Ah h.r b2) fun b e=>o1 b (hne b e),fun e=>hne _ e rfl,World.ownsRow_nil _ _ _ _,fun b e=>?_⟩;simp [Value.ownBlock] at e
theorem Ry (ext:Bool) (s:ByteArray) (k:Nat) (w:World) (hs:s.size≤4000) (hk:k≤s.size) (hG:Gl w) (hP:GP w) :
  Calls prog 22 #[.string s,.int .i64 (k:Int),.bool ext] w (UK w (Ji ext s.data.toList k)):=by
 obtain ⟨W,hW⟩:∃ W,w.alloc (.cells DP 54)=W:=⟨_,rfl⟩;have HA:=Afj (Ad hW);have HR0:=Afj (Af hW);have hs4:s.size≤4000000:=by omega
 have hg:=U4 ext s k W hs4 hk (hG.up HA.out) (hP.up HA.out);have hgle:∀ q,GS ext s.data.toList k=.ok q→q.2.2≤s.size∧q.2.1.length≤600:=fun q h=>Rx s hk h
 have hgne:∀ q,GS ext s.data.toList k=.error q→q.1≠0:=fun q h=>SD h
 have HG:=Afj (hG.up HA.out);have HP:=Afj (hP.up HA.out);unfold Ji;generalize GS ext s.data.toList k=R at hg hgle hgne ⊢;unfold DP at hW;clear hG hP;cases R with
 | error q=>
  obtain ⟨n,p⟩:=q;have hn:n≠0:=hgne _ rfl;have hnn:((n:Int) != 0)=true:=by simp;omega
  show Calls _ _ _ _ (UK w (.error (n,p)));replace hg:Calls prog 31 #[.string s,.int .i64 (k:Int),.bool ext] W fun e w'=>GdA W (.error (n,p)) e w':=hg
  simp only [GdA] at hg;clear hgle hgne hn;go_enter func22,ntmps22;go_upto_region 2 with (go_at_call 31;refine hg.mono ?_;clear hg;rintro e w1 ⟨b1,rfl⟩)
  generalize hW2:w1.alloc _=w2;have b2:=b1.trans ((Ad hW2).mono b1.size);have B2:=Afj (HA.out.trans (b2.mono HA.out.size));have K2:=Afj (HR0.out.below b2 HR0.out.lt);clear b1 b2 hW2;go_upto_region 3 with fail;have hbz:∀ f:Nat × Operand→Nat × Value,((Tryz.prog.built 54 (Array.map f #[]).toList).getD #[])=DP:=fun f=>by kernel_rfl
  refine wp_region_list ?_;refine wpList_build rfl 54 #[] rfl (by kernel_rfl) ?_;rw [hbz]
  (try simp only [Aa,Act.put])
  iterate 2 (refine wpList_plain rfl (fun K hK=>?_);go_simp;refine hK _ _ ?_;clear hK K;(try simp only [Aa,Act.put]))
  refine wpList_store_row rfl 54 _ _ rfl w.heap.size DP rfl rfl 54 DP K2.out (by kernel_rfl) rfl (by kernel_rfl) ?_
  (try simp only [Aa,Act.put])
  have B3:=Afj (below_setRow B2.out (Afq w.heap.size) DP);have K3:=Afj (setRow_heap w2 w.heap.size _ DP _ _ K2.out);generalize w2.setRow w.heap.size DP=w3 at B3 K3 ⊢
  iterate 3 (refine wpList_plain rfl (fun K hK=>?_);go_simp;refine hK _ _ ?_;clear hK K;(try simp only [Aa,Act.put]))
  refine wpList_nil ?_;go_wp2_with fail
  have hl:=run_loadVar_row (P:=prog) w3 w.heap.size 54 54 DP _ _ K3.out underlying54 rfl (by kernel_rfl);refine bodyPost_ret (v:=.tuple #[.agg DP,.slice none 0 0,.int .i64 (p:Int),.int .i64 (n:Int)]) (II rfl rfl rfl rfl hl) rfl ?_;exact ⟨B3.out,rfl⟩
 | ok q=>
  obtain ⟨g,ms,p⟩:=q;obtain ⟨hpl,hml⟩:=hgle _ rfl;simp only at hpl hml;clear hgle hgne;replace hg:Calls prog 31 #[.string s,.int .i64 (k:Int),.bool ext] W fun e w'=>GdA W (.ok (g,ms,p)) e w':=hg
  simp only [GdA] at hg;show Calls _ _ _ _ (UK w (EZ (AE ext s.data.toList (AA g ms p))));have hC:=fun wx r (h:Dy W r s ext (AA g ms p) wx)=>XM W r s ext (AA g ms p) wx h hs hpl (show ms.length≤80000 by omega) HG.out HP.out
  obtain ⟨⟨e1,st1⟩,hR⟩:∃ R,AE ext s.data.toList (AA g ms p)=R:=⟨_,rfl⟩;rw [hR] at hC ⊢;simp only at hC;obtain ⟨A,hA⟩:∃ A,EZ (e1,st1)=A:=⟨_,rfl⟩;rw [hA];have HANS:=Afj hA;clear hA hR hpl hml;go_enter func22,ntmps22;go_upto_region 1 with fail;go_cut [1,10,11,12] (fun s1 s10 s11 s12 wx=>∃ gx ta tb ma mc,s1=.int .i64 (p:Int)∧s10=.pointer (some ⟨gx,0,none⟩)∧s11=.slice ma ms.length mc∧s12=.int .i64 0∧GxS W gx g ms ta tb ma mc wx)
  case first=>
   go_upto_region 2 with (go_at_call 31;refine hg.mono ?_;clear hg;rintro e w1 ⟨b1,ta,tb,ma,mc,rfl,hta,htb,hr⟩;have hsa:=hta.shape;have hsb:=htb.shape;have HTA:=Afj hta;have HTB:=Afj htb;have HR:=Afj hr;have B1:=Afj b1;clear hta htb hr b1;rcases hsa with ⟨T8,q8,rfl⟩ | rfl <;> rcases hsb with ⟨T9,q9,rfl⟩ | rfl)
   all_goals
    go_meet;exact ⟨_,_,_,ma,mc,rfl,rfl,rfl,rfl,GxS.mk' B1.out HTA.out HTB.out HR.out rfl⟩
  case rest=>
   obtain ⟨gx,ta,tb,ma,mc,rfl,rfl,rfl,rfl,hx⟩:=hcut;have HX:=Afj hx;clear hx hg;go_upto_region 4 with fail;refine wp_region_list ?_
   iterate 4 (refine wpList_plain rfl (fun K hK=>?_);go_simp;refine hK _ _ ?_;clear hK K;(try simp only [Aa,Act.put]))
   refine wpList_load_row rfl 49 _ rfl gx rfl 49 (gdC g ta tb) _ _ HX.out.q underlying49 rfl (by kernel_rfl) ?_
   (try simp only [Aa,Act.put])
   refine wpList_build rfl 54 _ rfl (by kernel_rfl) ?_;generalize hB:Option.getD _ #[]=B;have hB2:B=EL (AA g ms p).c ta tb .nilIface (.slice none 0 0):=by rw [←hB];kernel_rfl
   subst hB2;clear hB
   (try simp only [Aa,Act.put])
   refine wpList_plain rfl (fun K hK=>?_);go_simp;refine hK _ _ ?_;clear hK K;(try simp only [Aa,Act.put]);refine wpList_build rfl 78 _ rfl (by kernel_rfl) ?_;generalize hB:Option.getD _ #[]=B;have hB2:B=cmC s ext (AA g ms p) ta tb .nilIface (.slice none 0 0) (.slice ma ms.length mc):=by rw [←hB];kernel_rfl
   subst hB2;clear hB
   (try simp only [Aa,Act.put])
   refine wpList_plain rfl (fun K hK=>?_);go_simp;generalize hA:wc.alloc _=wy;refine hK _ _ ?_;clear hK K
   (try simp only [Aa,Act.put])
   refine wpList_store_row rfl 78 _ _ rfl (World.heap wc).size (cmC s ext (AA g ms p) ta tb .nilIface (.slice none 0 0) (.slice ma ms.length mc)) rfl rfl 78 _ (Af hA) (by kernel_rfl) rfl (Aal _ _ _ _ _ _ _ _ (AR HX.out.ha.shape) (AR HX.out.hb.shape) rfl rfl rfl) ?_
   (try simp only [Aa,Act.put])
   refine wpList_nil ?_;have H4:=Afj (HX.out.reader s ext p hA);have hne:(World.heap wc).size≠w.heap.size:=by have:=HA.out.size;have:=HX.out.b.size;have:=HR0.out.lt;omega
   have Hne:=Afj hne;obtain ⟨r,hr⟩:∃ r,(World.heap wc).size=r:=⟨_,rfl⟩;rw [hr] at H4 Hne ⊢;generalize wy.setRow r _=wz at H4 ⊢;clear hA hr hne HX;have hC2:=hC wz r H4.out.R;go_upto_region 6 with (go_at_call 32;refine hC2.mono ?_;clear hC2;rintro e w5 ⟨rfl,h5⟩)
   obtain ⟨ta,tb,ts,pa,pc,ma,mc,h5⟩:=h5;have H5:=Afj h5;clear h5 H4 hC;have hmix:Tryz.prog.follows .mixedOrders=true:=by kernel_rfl
   have hgw:w.heap.size < W.heap.size:=HR0.out.lt;have K5:=HR0.out.below H5.out.b0 hgw;have B5:=Afj (HA.out.trans (H5.out.b0.mono (Afu hgw)));by_cases he:e1=0
   ·subst he;obtain rfl:(.ok (st1.c,st1.ms,st1.k):BO Cmd)=A:=HANS.out;go_upto_region 8 with fail;refine wp_region_held_drew (S:=fun W':World=>Blk W' r (cmC s ext st1 ta tb ts (.slice pa st1.c.sub.parts.length pc) (.slice ma st1.ms.length mc)) 78) hmix H5.out.q (fun hHeld=>?_);refine AJ 0 (.pointer (some ⟨r,3,none⟩)) rfl hHeld (Or.inl ⟨by rfl,?_⟩) ?_;(focus (intro W' hSw;go_simp));(try simp only [Aa,Act.put]);refine AJ 1 (.agg (EL st1.c ta tb ts (.slice pa st1.c.sub.parts.length pc))) rfl hHeld (Or.inl ⟨by rfl,?_⟩) ?_
    ·intro W' hSw;exact G1 54 _ rfl r 3 20 rfl hSw underlying54 (by kernel_rfl)
    (try simp only [Aa,Act.put])
    refine AJ 2 (.pointer (some ⟨r,23,none⟩)) rfl hHeld (Or.inl ⟨by rfl,?_⟩) ?_;(focus (intro W' hSw;go_simp));(try simp only [Aa,Act.put]);refine AJ 3 (.slice ma st1.ms.length mc) rfl hHeld (Or.inl ⟨by rfl,?_⟩) ?_;(focus (intro W' hSw;(have c23:W'.cell? ⟨r,23,none⟩=some (.slice ma st1.ms.length mc):=(hSw.cell 23).trans rfl);clear hSw;go_simp));(try simp only [Aa,Act.put]);refine AJ 4 (.pointer (some ⟨r,2,none⟩)) rfl hHeld (Or.inl ⟨by rfl,?_⟩) ?_;(focus (intro W' hSw;go_simp));(try simp only [Aa,Act.put]);refine AJ 5 (.int .i64 (st1.k:Int)) rfl hHeld (Or.inl ⟨by rfl,?_⟩) ?_;(focus (intro W' hSw;(have c2:W'.cell? ⟨r,2,none⟩=some (.int .i64 (st1.k:Int)):=(hSw.cell 2).trans rfl);clear hSw;go_simp));(try simp only [Aa,Act.put]);refine wpAnyH_ready (rs:=[6]) (by kernel_rfl) (by simp) ?_;refine AllReadyH.cons rfl (fun K hK=>?_) AllReadyH.nil;rw [if_pos (by rfl)];refine wp_store_row 54 _ _ rfl w.heap.size (EL st1.c ta tb ts (.slice pa st1.c.sub.parts.length pc)) rfl rfl 54 DP K5 (by kernel_rfl) rfl (Nv _ _ _ _ _ (AR H5.out.ha.shape) (AR H5.out.hb.shape) (AR H5.out.hs.shape) rfl) ?_;refine hK.out _ _ ((setRow_other _ w.heap.size r _ Hne.out).trans H5.out.q) (fun hHeld=>?_);clear hK K
    (try simp only [Aa,Act.put])
    refine AJ 7 (.slice ma st1.ms.length mc) rfl hHeld (Or.inl ⟨by rfl,?_⟩) ?_;(focus (intro W' hSw;go_simp));(try simp only [Aa,Act.put]);refine AJ 8 (.int .i64 (st1.k:Int)) rfl hHeld (Or.inl ⟨by rfl,?_⟩) ?_;(focus (intro W' hSw;go_simp));(try simp only [Aa,Act.put]);refine AJ 9 (.int .i64 0) rfl hHeld (Or.inl ⟨by rfl,?_⟩) ?_;(focus (intro W' hSw;go_simp));(try simp only [Aa,Act.put]);refine wpAnyH_done (by kernel_rfl) ?_ _
    (try go_wp2_with fail)
    have hl:=run_loadVar_row (P:=prog) _ w.heap.size 54 54 _ _ _ (setRow_heap w5.drew w.heap.size _ (EL st1.c ta tb ts (.slice pa st1.c.sub.parts.length pc)) _ _ K5) underlying54 rfl (by kernel_rfl);refine bodyPost_ret (II rfl rfl rfl rfl hl) rfl ?_;exact H5.out.fin hgw (below_setRow (Agb B5.out) (Afq _) _) (fun b hb=>setRow_other w5.drew _ b _ hb) (by simp)
   ·have ce:((e1:Int) != 0)=true:=by simpa using he
    obtain rfl:(.error (e1,st1.k):BO Cmd)=A:=by rw [←HANS.out];unfold EZ;rw [if_neg he]
    clear he;go_upto_region 7 with fail;refine wp_region_held_drew (S:=fun W':World=>Blk W' r (cmC s ext st1 ta tb ts (.slice pa st1.c.sub.parts.length pc) (.slice ma st1.ms.length mc)) 78) hmix H5.out.q (fun hHeld=>?_);refine AJ 0 (.agg DP) rfl hHeld (Or.inl ⟨by rfl,?_⟩) ?_;(focus (intro W' hSw;kernel_rfl));(try simp only [Aa,Act.put]);refine AJ 1 (.pointer (some ⟨r,2,none⟩)) rfl hHeld (Or.inl ⟨by rfl,?_⟩) ?_;(focus (intro W' hSw;go_simp));(try simp only [Aa,Act.put]);refine AJ 2 (.int .i64 (st1.k:Int)) rfl hHeld (Or.inl ⟨by rfl,?_⟩) ?_;(focus (intro W' hSw;(have c2:W'.cell? ⟨r,2,none⟩=some (.int .i64 (st1.k:Int)):=(hSw.cell 2).trans rfl);clear hSw;go_simp));(try simp only [Aa,Act.put]);refine AJ 3 (.int .i64 (e1:Int)) rfl hHeld (Or.inl ⟨by rfl,?_⟩) ?_;(focus (intro W' hSw;go_simp));(try simp only [Aa,Act.put]);refine wpAnyH_ready (rs:=[4]) (by kernel_rfl) (by simp) ?_;refine AllReadyH.cons rfl (fun K hK=>?_) AllReadyH.nil;rw [if_pos (by rfl)];refine wp_store_row 54 _ _ rfl w.heap.size DP rfl rfl 54 DP K5 (by kernel_rfl) rfl (by kernel_rfl) ?_;refine hK.out _ _ ((setRow_other _ w.heap.size r _ Hne.out).trans H5.out.q) (fun hHeld=>?_);clear hK K
    (try simp only [Aa,Act.put])
    refine AJ 5 (.slice none 0 0) rfl hHeld (Or.inl ⟨by rfl,?_⟩) ?_;(focus (intro W' hSw;go_simp));(try simp only [Aa,Act.put]);refine AJ 6 (.int .i64 (st1.k:Int)) rfl hHeld (Or.inl ⟨by rfl,?_⟩) ?_;(focus (intro W' hSw;go_simp));(try simp only [Aa,Act.put]);refine AJ 7 (.int .i64 (e1:Int)) rfl hHeld (Or.inl ⟨by rfl,?_⟩) ?_;(focus (intro W' hSw;go_simp));(try simp only [Aa,Act.put]);refine wpAnyH_done (by kernel_rfl) ?_ _
    (try go_wp2_with fail)
    have hl:=run_loadVar_row (P:=prog) _ w.heap.size 54 54 _ _ _ (setRow_heap w5.drew w.heap.size _ DP _ _ K5) underlying54 rfl (by kernel_rfl);refine bodyPost_ret (II rfl rfl rfl rfl hl) rfl ?_;exact ⟨below_setRow (Agb B5.out) (Afq _) _,rfl⟩
theorem Aam {w:World} {B n c:Nat} {T:TypeId} {a:Option Addr} {l:List Cp} (h:w.ownsRow B T 2 (.slice a n c) n (cpC l)) (h0:0 < l.length):∃ q,a=some ⟨q,0,none⟩∧B≤q∧q < w.heap.size∧∀ j v,(cpC l)[j]?=some v→w.cell? ⟨q,j,none⟩=some v:=by
 have hl:∀ l:List Cp,(cpC l).length=2 * l.length:=fun l=>by
  induction l with
  | nil=>rfl
  | cons c l ih=>rw [show cpC (c :: l)=[.int .i64 c.1,.string (txt c.2)]++cpC l from rfl,Afs,ih,List.length_cons];simp;omega
 have hn:n=l.length:=by have:=h.1;rw [hl] at this;omega
 rcases h.2 with ⟨h1,h2⟩ | ⟨g,cap,cur,h1,hB,hg,hc1,hc2,_,ht⟩
 ·omega
 ·injection h1 with h1 h2 h3;refine ⟨g,h1,hB,(Af6.1 hg).1,fun j v hh=>?_⟩;rw [←ht,List.getElem?_take] at hh;split at hh
  ·simp only [World.cell?,hg];rw [Array.getElem?_toList] at hh;simpa using hh
  ·cases hh
theorem XN {w1 wy:World} {cs:Array Value} (hA:w1.alloc (.cells DP 54)=wy):Below w1.heap.size w1 (wy.setRow w1.heap.size cs)∧Blk (wy.setRow w1.heap.size cs) w1.heap.size cs 54:=
 ⟨below_setRow (Ad hA) (Afq _) _,setRow_heap wy _ _ _ _ _ (Af hA)⟩
def Le (w:World) (a:Option Addr) (ps:List Cp):Prop:=0 < ps.length→ps.length≤maxLen∧∃ q,a=some ⟨q,0,none⟩∧q < w.heap.size∧∀ j v,(cpC ps)[j]?=some v→w.cell? ⟨q,j,none⟩=some v
theorem Le.below {w w':World} {a:Option Addr} {ps:List Cp} (h:Le w a ps) (hb:Below w.heap.size w w'):Le w' a ps:=fun h0=>by
 obtain ⟨hm,q,ha,hl,hc⟩:=h h0;exact ⟨hm,q,ha,Aft hl hb.size,fun j v hj=>(hb.cell (p:=⟨q,j,none⟩) hl).trans (hc j v hj)⟩
theorem Aan {w:World} {B n c:Nat} {T:TypeId} {a:Option Addr} {l:List Cp} (h:w.ownsRow B T 2 (.slice a n c) n (cpC l)) (h0:0 < l.length):l.length≤maxLen:=by
 have hl:∀ l:List Cp,(cpC l).length=2 * l.length:=fun l=>by
  induction l with
  | nil=>rfl
  | cons c l ih=>rw [show cpC (c :: l)=[.int .i64 c.1,.string (txt c.2)]++cpC l from rfl,Afs,ih,List.length_cons];simp;omega
 have hn:n=l.length:=by have:=h.1;rw [hl] at this;omega
 rcases h.2 with ⟨_,h2⟩ | ⟨g,cap,cur,h1,_,_,hc1,hc2,_⟩
 ·omega
 ·omega
theorem XO:∀ (ps:List Cp) (j:Nat) (h:j < ps.length),(cpC ps)[j * 2]?=some (.int .i64 ps[j].1)∧(cpC ps)[j * 2+1]?=some (.string (txt ps[j].2))
 | c :: ps,0,h=>⟨rfl,rfl⟩
 | c :: ps,j+1,h=>by
  have ih:=XO ps j (by simpa using h);rw [show cpC (c :: ps)=.int .i64 c.1 :: .string (txt c.2) :: cpC ps from rfl,show (j+1) * 2=j * 2+1+1 by omega];exact ih
theorem Aao (ps:List Cp) (pa pb:Option Addr) (c1 c2:Nat) (w:World) (h1:Le w pa ps) (h2:Le w pb ps) :
  Calls prog 27 #[.slice pa ps.length c1,.slice pb ps.length c2] w fun e w'=>e=.returned (.bool true)∧Below w.heap.size w w':=by
 have H1:=Afj h1;have H2:=Afj h2;clear h1 h2;go_enter func27,ntmps27;go_wp2_with fail
 go_loopw [13] (fun i wr=>∃ j:Nat,j≤ps.length∧i=.int .i64 j∧Below w.heap.size w wr) (fun i _=>ps.length - (intOf i).toNat)
 case atStart=>exact ⟨0,by omega,rfl,Afv _ _⟩
 case round=>
  obtain ⟨j,hj,rfl,hb⟩:=hrel;have HB:=Afj hb;clear hb;by_cases hlt:j < ps.length
  ·have hji:(j:Int) < (ps.length:Int):=by omega
   have hy0:(0:Int)≤(j:Int):=by omega
   obtain ⟨hmx,q1,rfl,_,k1⟩:=(H1.out.below HB.out) (by omega);have Wj:IntKind.i64.wrap ((j:Int)+1)=(j:Int)+1:=Afx _ (by unfold maxLen at hmx;omega);obtain ⟨_,q2,rfl,_,k2⟩:=(H2.out.below HB.out) (by omega);obtain ⟨e1,e2⟩:=XO ps j hlt;have a1:=k1 _ _ e1;have a2:=k1 _ _ e2;have b1:=k2 _ _ e1;have b2:=k2 _ _ e2;generalize txt ps[j].2=S at a2 b2;generalize ps[j].1=N at a1 b1;clear k1 k2 e1 e2;go_upto_region 6 with fail
   go_quiet (fail)
   generalize nq=n1;have HB2:=Afj (below_drewN HB.out n1);clear a1 a2 b1 b2;go_wp2_with fail
   go_roundw
   case rel=>exact ⟨j+1,by omega,by go_num,HB2.out⟩
   case measure=>simp [intOf];omega
  ·obtain rfl:j=ps.length:=by omega
   go_wp2_with fail
   go_ret;exact ⟨rfl,HB.out⟩
theorem XP {F:Nat→Prop} {w:World}:∀ {t:Option Nd} {v:Value},TrO F w t v→NdX F w (t.getD .empty) v
 | none,_,h=>⟨1,.inr h⟩
 | some _,_,h=>h
theorem Abf {w:World} {b:Nat} {T:TypeId} {v0 v1 v2 v3 v4 v5 v6:Value} (h:Blk w b #[v0,v1,v2,v3,v4,v5,v6] T) :
  (w.cell? ⟨b,1,none⟩=some v1∧w.cell? ⟨b,2,none⟩=some v2∧w.cell? ⟨b,3,none⟩=some v3∧w.cell? ⟨b,4,none⟩=some v4∧w.cell? ⟨b,5,none⟩=some v5∧w.cell? ⟨b,6,none⟩=some v6)∧b < w.heap.size:=
 ⟨⟨(h.cell 1).trans rfl,(h.cell 2).trans rfl,(h.cell 3).trans rfl,(h.cell 4).trans rfl,(h.cell 5).trans rfl,(h.cell 6).trans rfl⟩,h.lt⟩
theorem XQ (b:Sb) (ts tu:Value) (pa pb:Option Addr) (c1 c2:Nat) (w:World) (hts:TrO (fun b=>b < w.heap.size) w b.tree ts) (htu:TrO (fun b=>b < w.heap.size) w b.tree tu) (hf:Ax (b.tree.getD .empty)≤4000000) (h1:Le w pa b.parts) (h2:Le w pb b.parts) :
  Calls prog 18 #[.agg #[.string (txt b.text),ts,.slice pa b.parts.length c1,.int .i64 (b.nth:Int),.bool b.all,.bool b.prt,.string (txt b.file)],.agg #[.string (txt b.text),tu,.slice pb b.parts.length c2,.int .i64 (b.nth:Int),.bool b.all,.bool b.prt,.string (txt b.file)]] w fun e w'=>e=.returned (.bool true)∧Below w.heap.size w w':=by
 have hE:=fun W (hb:Below w.heap.size w W)=>Aao b.parts pa pb c1 c2 W (h1.below hb) (h2.below hb)
 have hS:=fun W (hb:Below w.heap.size w W)=>LX (b.tree.getD .empty) (b.tree.getD .empty) ts tu W (XP (DO hb hts)) (XP (DO hb htu)) hf
 rw [Ee] at hS;have s1:=hts.shape;have s2:=htu.shape;clear hts htu hf h1 h2;generalize txt b.text=T at hE hS ⊢;generalize txt b.file=U at hE hS ⊢;generalize b.parts.length=n at hE ⊢;generalize (b.nth:Int)=k;generalize b.all=x1;generalize b.prt=x2;rcases s1 with ⟨T8,q8,rfl⟩ | rfl <;> rcases s2 with ⟨T9,q9,rfl⟩ | rfl
 all_goals
  go_enter func18,ntmps18;go_upto_region 1 with fail;generalize hW1:w.alloc _=W1;generalize hW2:W1.alloc _=W2;have hX:=(Af hW1).below (Ad hW2) (Af hW1).lt;have hY:=Af hW2;have B2:=Afj ((Ad hW1).trans ((Ad hW2).mono (Ad hW1).size));have hp:W1.heap.size=w.heap.size+1:=by rw [←hW1];exact World.size_alloc _ _
  rw [hp] at hY;clear hp;generalize w.heap.size+1=p at hY ⊢;obtain ⟨⟨x1',x2',x3',x4',x5',x6'⟩,hxl⟩:=Abf hX;obtain ⟨⟨y1',y2',y3',y4',y5',y6'⟩,hyl⟩:=Abf hY;have HX:=Afj hX;have HY:=Afj hY;clear hX hY hW1 hW2;go_wp2_with (first
   | (go_at_call 26;refine (hS _ B2.out).mono ?_;rintro e w3 ⟨rfl,b3⟩;have B3:=Afj (B2.out.trans (b3.mono B2.out.size));(have u2:=(b3.cell (p:=⟨w.heap.size,2,none⟩) hxl).trans x2');(have v2:=(b3.cell (p:=⟨p,2,none⟩) hyl).trans y2');clear b3 hS)
   | (go_at_call 27;refine (hE _ B3.out).mono ?_;rintro e w4 ⟨rfl,b4⟩))
  go_ret;exact ⟨rfl,B3.out.trans (b4.mono B3.out.size)⟩
structure CV where
 c:Cmd
 ta:Value
 tb:Value
 ts:Value
 pa:Option Addr
 pc:Nat
def CV.cells (v:CV):Array Value:=EL v.c v.ta v.tb v.ts (.slice v.pa v.c.sub.parts.length v.pc)
structure CV.ok (F:Nat→Prop) (w:World) (v:CV):Prop where
 a:TrO F w v.c.g.a.tree v.ta
 b:TrO F w v.c.g.b.tree v.tb
 s:TrO F w v.c.sub.tree v.ts
 p:0 < v.c.sub.parts.length→v.c.sub.parts.length≤maxLen∧∃ q,v.pa=some ⟨q,0,none⟩∧F q∧q < w.heap.size∧∀ j u,(cpC v.c.sub.parts)[j]?=some u→w.cell? ⟨q,j,none⟩=some u
theorem CV.ok.keep {F G:Nat→Prop} {w w':World} {v:CV} (h:v.ok F w) (hz:w.heap.size≤w'.heap.size) (hk:∀ b,F b→b < w.heap.size→G b∧w'.heap[b]?=w.heap[b]?):v.ok G w':=by
 have ht:∀ {t:Option Nd} {x:Value},TrO F w t x→TrO G w' t x:=fun k=>TrO.keep hz (fun b hb hl=>⟨(hk b hb hl).1,fun o=>Afy (w:=w) (a:=⟨b,o,none⟩) (hk b hb hl).2⟩) k
 refine ⟨ht h.a,ht h.b,ht h.s,fun h0=>?_⟩;obtain ⟨hm,q,ha,hf,hl,hc⟩:=h.p h0;exact ⟨hm,q,ha,(hk q hf hl).1,Aft hl hz,fun j u hj=>(Afy (w:=w) (a:=⟨q,j,none⟩) (hk q hf hl).2).trans (hc j u hj)⟩
theorem CV.ok.prow {F:Nat→Prop} {w:World} {v:CV} (h:v.ok F w):Le w v.pa v.c.sub.parts:=fun h0=>by
 obtain ⟨hm,q,ha,_,hl,hc⟩:=h.p h0;exact ⟨hm,q,ha,hl,hc⟩
def opC (l:List Nat):List Value:=l.map fun (n:Nat)=>.int .i64 (n:Int)
structure RV where
 st:SS
 ls:List (List UInt8)
 vs:List CV
 ca:Option Addr
 cc:Nat
 ma:Option Addr
 mc:Nat
 oa:Option Addr
 oc:Nat
abbrev RV.cv (r:RV):Value:=.slice r.ca r.vs.length r.cc
abbrev RV.mv (r:RV):Value:=.slice r.ma r.st.ms.length r.mc
abbrev RV.ov (r:RV):Value:=.slice r.oa r.st.op.length r.oc
def RV.own (r:RV) (p mp:Nat):List (Option Nat):=[some p,some mp,r.cv.ownBlock,r.mv.ownBlock,r.ov.ownBlock]
def Apart (l:List (Option Nat)):Prop:=l.Pairwise fun a b=>a=none∨a≠b
def RV.fr (r:RV) (B p mp b:Nat):Prop:=B≤b∧some b ∉ r.own p mp
theorem Apart.put {l k:List (Option Nat)} {x y:Option Nat} (h:Apart (l++x :: k)) (n:Nat) (hy:y=x∨y=some n) (hn:∀ b,some b∈l++k→b < n):Apart (l++y :: k):=by
 rcases hy with rfl | rfl
 ·exact h
 unfold Apart at h ⊢;rw [List.pairwise_append,List.pairwise_cons] at h ⊢;obtain ⟨h1,⟨h2,h3⟩,h4⟩:=h;refine ⟨h1,⟨fun b hb=>.inr fun e=>?_,h3⟩,fun a ha b hb=>?_⟩
 ·have:=hn n (by rw [e];exact Af8 _ hb);omega
 ·rcases Afz.1 hb with rfl | hb
  ·cases a with
   | none=>exact .inl rfl
   | some a=>exact .inr fun e=>by injection e with e;have:=hn a (List.mem_append_left _ ha);omega
  ·exact h4 a ha b (List.mem_cons_of_mem _ hb)
def LabAt (w:World) (b:Nat) (ls:List (List UInt8)):Prop:=∃ (n:Nat) (D:DataW Unit),n≤ls.length∧w.ownsMap prog 9 (plainElem prog 3) b n D∧∀ x:List UInt8,D.atKey (.string x) (.lit (.int .i64 0))=.lit (.int .i64 (if x∈ls then 1 else 0))
theorem LabAt.same {w w':World} {b:Nat} {ls:List (List UInt8)} (h:LabAt w b ls) (hs:w'.heap[b]?=w.heap[b]?):LabAt w' b ls:=by
 obtain ⟨n,D,hn,⟨es,clock,hb,F,hz,hD⟩,ha⟩:=h;exact ⟨n,D,hn,⟨es,clock,hs.trans hb,F,hz,hD⟩,ha⟩
theorem LabAt.put {w':World} {b n:Nat} {ls:List (List UInt8)} {D:DataW Unit} {x:List UInt8} (hn:n≤ls.length) (hD:Go.Maps.IsMap D) (ha:∀ x:List UInt8,D.atKey (.string x) (.lit (.int .i64 0))=.lit (.int .i64 (if x∈ls then 1 else 0))) (h:w'.ownsMap prog 9 (plainElem prog 3) b (n+1) (D.put (.string x) (.lit (.int .i64 1)))):LabAt w' b (ls++[x]):=by
 refine ⟨n+1,_,by simp;omega,h,fun y=>?_⟩;by_cases e:y=x
 ·subst e;rw [Maps.atKey_put_same hD (by simp [WideAt.IsKeyLit])];simp
 ·rw [Maps.atKey_put_other (by intro h;injection h with h;exact e h),ha y];simp [e]
structure ScR (W:World) (p mp:Nat) (r:RV) (w:World):Prop where
 b0:Below W.heap.size W w
 pB:W.heap.size≤p
 mB:W.heap.size≤mp
 pl:p < w.heap.size
 ap:Apart (r.own p mp)
 cs:r.vs.map (·.c)=r.st.cs
 cr:w.ownsRow W.heap.size 54 20 r.cv r.vs.length (r.vs.flatMap fun v=>v.cells.toList)
 mr:w.ownsRow W.heap.size 33 2 r.mv r.st.ms.length (wmC r.st.ms)
 or:w.ownsRow W.heap.size 3 1 r.ov r.st.op.length (opC r.st.op)
 la:LabAt w mp r.ls
 ok:∀ v∈r.vs,v.ok (r.fr W.heap.size p mp) w
variable {W w w':World} {p mp:Nat} {r r':RV}
theorem ScR.lt (h:ScR W p mp r w) {b:Nat} (hb:some b∈r.own p mp):W.heap.size≤b∧b < w.heap.size:=by
 simp only [RV.own,Afz,Option.some.injEq,List.not_mem_nil,or_false] at hb;rcases hb with rfl | rfl | hb | hb | hb
 ·exact ⟨h.pB,h.pl⟩
 ·exact ⟨h.mB,by obtain ⟨n,D,_,h1,_⟩:=h.la;exact h1.lt⟩
 ·exact ⟨AS h.cr _ hb.symm,AF h.cr _ hb.symm⟩
 ·exact ⟨AS h.mr _ hb.symm,AF h.mr _ hb.symm⟩
 ·exact ⟨AS h.or _ hb.symm,AF h.or _ hb.symm⟩
theorem ScR.turn (h:ScR W p mp r w) {x:Option Nat} (hg:w.grownBy w' x) (hx:∀ b,x=some b→some b∈r.own p mp) (ap:Apart (r'.own p mp)) (hn:∀ b,some b∈r'.own p mp→some b∈r.own p mp∨w.heap.size≤b)
  (cs:r'.vs.map (·.c)=r'.st.cs) (cr:w'.ownsRow W.heap.size 54 20 r'.cv r'.vs.length (r'.vs.flatMap fun v=>v.cells.toList)) (mr:w'.ownsRow W.heap.size 33 2 r'.mv r'.st.ms.length (wmC r'.st.ms))
  (or:w'.ownsRow W.heap.size 3 1 r'.ov r'.st.op.length (opC r'.st.op)) (la:LabAt w' mp r'.ls) (ok:∀ v∈r'.vs,v∈r.vs∨v.ok (r.fr W.heap.size p mp) w):ScR W p mp r' w':=by
 refine ⟨h.b0.grown hg h.b0.size fun b hb=>(h.lt (hx b hb)).1,h.pB,h.mB,Aft h.pl hg.size,ap,cs,cr,mr,or,la,fun v hv=>?_⟩;have hk:v.ok (r.fr W.heap.size p mp) w:=(ok v hv).elim (h.ok v) id;exact hk.keep hg.size fun b hb hl=>⟨⟨hb.1,fun hm=>(hn b hm).elim hb.2 fun e=>by omega⟩,hg.block b hl fun e=>hb.2 (hx b e.symm)⟩
theorem ap5 {a b:Nat} {c d e:Option Nat} (h:Apart [some a,some b,c,d,e]):a≠b∧(c≠some a∧d≠some a∧e≠some a)∧(c≠some b∧d≠some b∧e≠some b)∧(∀ x,c=some x→d≠some x∧e≠some x)∧∀ x,d=some x→e≠some x:=by
 simp only [Apart,List.pairwise_cons,Afz,List.not_mem_nil,or_false,forall_eq_or_imp,forall_eq,reduceCtorEq,false_or] at h;obtain ⟨⟨h1,h2,h3,h4⟩,⟨h5,h6,h7⟩,⟨h8,h9⟩,h10,_⟩:=h;refine ⟨fun e=>h1 (by rw [e]),⟨fun e=>h2 e.symm,fun e=>h3 e.symm,fun e=>h4 e.symm⟩,⟨fun e=>h5 e.symm,fun e=>h6 e.symm,fun e=>h7 e.symm⟩,fun x e=>?_,fun x e f=>?_⟩
 ·subst e;simp at h8 h9;exact ⟨fun e=>h8 e.symm,fun e=>h9 e.symm⟩
 ·subst e f;simp at h10
theorem Rz (hb:Below w.heap.size w w'):w.grownBy w' none:=⟨hb.os,hb.tape,hb.output,hb.size,fun i hi _=>hb.block i hi⟩
theorem UL (w:World) (p j:Nat) (v:Value):w.grownBy (w.setCell ⟨p,j,none⟩ v) (some p):=⟨rfl,rfl,rfl,by simp [World.setCell],fun i _ hi=>Afw _ _ _ _ fun e=>hi (by rw [e])⟩
theorem BY {B:Nat} {e:TypeId} {size n:Nat} {v:Value} {us:List Value} {x:Option Nat} (h:w.ownsRow B e size v n us) (hg:w.grownBy w' x) (hx:∀ b,v.ownBlock=some b→x≠some b):w'.ownsRow B e size v n us:=
 Ab h fun b hb=>hg.block b (AF h b hb) fun e=>hx b hb e.symm
theorem ScR.step (h:ScR W p mp r w) (hb:Below w.heap.size w w'):ScR W p mp r w':=
 h.turn (Rz hb) (fun _ e=>by cases e) h.ap (fun _ hb=>.inl hb) h.cs (Ah h.cr hb) (Ah h.mr hb) (Ah h.or hb) (h.la.same (hb.block mp (h.lt (by simp [RV.own])).2)) fun v hv=>.inl hv
theorem ScR.setp (h:ScR W p mp r w) (j:Nat) (v:Value):ScR W p mp r (w.setCell ⟨p,j,none⟩ v):=by
 obtain ⟨a1,⟨a2,a3,a4⟩,_⟩:=ap5 h.ap;have hg:=UL w p j v;refine h.turn hg (fun _ e=>by rw [←e];simp [RV.own]) h.ap (fun _ hb=>.inl hb) h.cs (BY h.cr hg fun b hb e=>a2 (hb.trans e.symm)) (BY h.mr hg fun b hb e=>a3 (hb.trans e.symm)) (BY h.or hg fun b hb e=>a4 (hb.trans e.symm)) (h.la.same (hg.block mp (h.lt (by simp [RV.own])).2 fun e=>a1 (by injection e with e;exact e.symm))) fun v hv=>.inl hv
theorem ScR.open (h:ScR W p mp r w) {n:Nat} {oa:Option Addr} {oc:Nat} (hg:w.grownBy w' r.ov.ownBlock) (ho:w'.ownsRow W.heap.size 3 1 (.slice oa (r.st.op.length+1) oc) (r.st.op.length+1) (opC r.st.op++[.int .i64 (n:Int)])) (hat:(Value.slice oa (r.st.op.length+1) oc).ownBlock=r.ov.ownBlock∨(Value.slice oa (r.st.op.length+1) oc).ownBlock=some w.heap.size) :
  ScR W p mp { r with st:={ r.st with op:=r.st.op++[n] },oa:=oa,oc:=oc } w':=by
 obtain ⟨_,⟨_,_,a4⟩,⟨_,_,b4⟩,c1,d1⟩:=ap5 h.ap;have hl:(r.st.op++[n]).length=r.st.op.length+1:=by simp
 have ha:Apart (RV.own { r with st:={ r.st with op:=r.st.op++[n] },oa:=oa,oc:=oc } p mp):=by
  unfold RV.own;simp only [RV.cv,RV.mv,RV.ov];rw [hl];exact Apart.put (l:=[some p,some mp,r.cv.ownBlock,r.mv.ownBlock]) (k:=[]) h.ap w.heap.size hat fun b hb=>(h.lt (by rw [List.append_nil] at hb;exact List.mem_append_left [r.ov.ownBlock] hb)).2
 refine h.turn hg (fun b e=>by simp [RV.own,e]) ha (fun b hb=>?_) h.cs (BY h.cr hg fun b hb e=>(c1 b hb).2 e) (BY h.mr hg fun b hb e=>d1 b hb e) ?_ (h.la.same (hg.block mp (h.lt (by simp [RV.own])).2 fun e=>b4 e.symm)) fun v hv=>.inl hv
 ·simp only [RV.own,RV.cv,RV.mv,RV.ov,hl,Afz,List.not_mem_nil,or_false] at hb ⊢;rcases hb with hb | hb | hb | hb | hb
  ·exact .inl (.inl hb)
  ·exact .inl (.inr (.inl hb))
  ·exact .inl (.inr (.inr (.inl hb)))
  ·exact .inl (.inr (.inr (.inr (.inl hb))))
  ·rcases hat with e | e
   ·exact .inl (.inr (.inr (.inr (.inr (hb.trans e)))))
   ·rw [e] at hb;injection hb with hb;exact .inr (by omega)
 ·show World.ownsRow _ _ _ 1 (.slice oa (r.st.op++[n]).length oc) (r.st.op++[n]).length (opC (r.st.op++[n]));rw [hl,opC,List.map_append];exact ho
theorem Aaq {B:Nat} {e:TypeId} {a:Option Addr} {n c k:Nat} {us:List Value} (h:w.ownsRow B e 1 (.slice a n c) n us) (hk:k≤n):w.ownsRow B e 1 (.slice a k c) k (us.take k):=by
 obtain ⟨h1,h2⟩:=h;refine ⟨by rw [List.length_take];omega,?_⟩;rcases h2 with ⟨h2,h3⟩ | ⟨g,cap,cur,h2,h3,h4,h5,h6,h7,h8⟩
 ·injection h2 with e1 e2 e3;subst e1 e3;exact .inl ⟨by rw [show k=0 by omega],by omega⟩
 ·injection h2 with e1 e2 e3;subst e1 e3;exact .inr ⟨g,c,cur,rfl,h3,h4,by omega,h6,h7,by rw [←h8,List.take_take];congr 1;omega⟩
theorem ScR.pop (h:ScR W p mp r w):ScR W p mp { r with st:={ r.st with op:=r.st.op.dropLast } } w:=by
 have ho:RV.own { r with st:={ r.st with op:=r.st.op.dropLast } } p mp=r.own p mp:=by
  unfold RV.own;simp only [RV.cv,RV.mv,RV.ov];cases r.oa <;> rfl
 refine h.turn (x:=none) ⟨rfl,rfl,rfl,Afq _,fun _ _ _=>rfl⟩ (fun _ e=>by cases e) (by rw [ho];exact h.ap) (fun b hb=>.inl (by rw [ho] at hb;exact hb)) h.cs h.cr h.mr ?_ h.la fun v hv=>.inl hv
 have h9:=Aaq h.or (k:=r.st.op.dropLast.length) (by rw [List.length_dropLast];omega);rw [opC,←List.map_take,show r.st.op.take r.st.op.dropLast.length=r.st.op.dropLast by rw [List.length_dropLast,List.dropLast_eq_take]] at h9;exact h9
theorem ScR.label (h:ScR W p mp r w) {ls:List (List UInt8)} (hg:w.grownBy w' (some mp)) (hl:LabAt w' mp ls):ScR W p mp { r with ls:=ls } w':=by
 obtain ⟨_,_,⟨b2,b3,b4⟩,_⟩:=ap5 h.ap;exact h.turn hg (fun _ e=>by rw [←e];simp [RV.own]) h.ap (fun _ hb=>.inl hb) h.cs (BY h.cr hg fun b hb e=>b2 (hb.trans e.symm)) (BY h.mr hg fun b hb e=>b3 (hb.trans e.symm)) (BY h.or hg fun b hb e=>b4 (hb.trans e.symm)) hl fun v hv=>.inl hv
theorem ScR.cmd (h:ScR W p mp r w) {v:CV} {ca:Option Addr} {cc:Nat} (hg:w.grownBy w' r.cv.ownBlock) (ho:w'.ownsRow W.heap.size 54 20 (.slice ca (r.vs.length+1) cc) (r.vs.length+1) ((r.vs.flatMap fun v=>v.cells.toList)++v.cells.toList)) (hat:(Value.slice ca (r.vs.length+1) cc).ownBlock=r.cv.ownBlock∨(Value.slice ca (r.vs.length+1) cc).ownBlock=some w.heap.size) (hv:v.ok (r.fr W.heap.size p mp) w) :
  ScR W p mp { r with st:={ r.st with cs:=r.st.cs++[v.c] },vs:=r.vs++[v],ca:=ca,cc:=cc } w':=by
 obtain ⟨_,⟨a2,_,_⟩,⟨b2,_,_⟩,c1,d1⟩:=ap5 h.ap;have hl:(r.vs++[v]).length=r.vs.length+1:=by simp
 have ha:Apart (RV.own { r with st:={ r.st with cs:=r.st.cs++[v.c] },vs:=r.vs++[v],ca:=ca,cc:=cc } p mp):=by
  unfold RV.own;simp only [RV.cv,RV.mv,RV.ov];rw [hl];exact Apart.put (l:=[some p,some mp]) (k:=[r.mv.ownBlock,r.ov.ownBlock]) h.ap w.heap.size hat fun b hb=>(h.lt (by simp only [RV.own,List.cons_append,List.nil_append,Afz] at hb ⊢;rcases hb with hb | hb | hb | hb | hb;exact .inl hb;exact .inr (.inl hb);exact .inr (.inr (.inr (.inl hb)));exact .inr (.inr (.inr (.inr (.inl hb))));cases hb)).2
 refine h.turn hg (fun b e=>by simp [RV.own,e]) ha (fun b hb=>?_) ?_ ?_ (BY h.mr hg fun b hb e=>(c1 b e).1 hb) (BY h.or hg fun b hb e=>(c1 b e).2 hb) (h.la.same (hg.block mp (h.lt (by simp [RV.own])).2 fun e=>b2 e.symm)) fun u hu=>?_
 ·simp only [RV.own,RV.cv,RV.mv,RV.ov,hl,Afz,List.not_mem_nil,or_false] at hb ⊢;rcases hb with hb | hb | hb | hb | hb
  ·exact .inl (.inl hb)
  ·exact .inl (.inr (.inl hb))
  ·rcases hat with e | e
   ·exact .inl (.inr (.inr (.inl (hb.trans e))))
   ·rw [e] at hb;injection hb with hb;exact .inr (by omega)
  ·exact .inl (.inr (.inr (.inr (.inl hb))))
  ·exact .inl (.inr (.inr (.inr (.inr hb))))
 ·simp [h.cs]
 ·show World.ownsRow _ _ _ 20 (.slice ca (r.vs++[v]).length cc) (r.vs++[v]).length _;rw [hl,List.flatMap_append];simpa using ho
 ·rcases Af1.1 hu with hu | hu
  ·exact .inl hu
  ·rw [List.mem_singleton.1 hu];exact .inr hv
theorem ScR.mark (h:ScR W p mp r w) {ms:List Wm} {n:Nat} (hn:ms.length=n) {ma:Option Addr} {mc:Nat} (hg:w.grownBy w' r.mv.ownBlock) (ho:w'.ownsRow W.heap.size 33 2 (.slice ma (r.st.ms.length+n) mc) (r.st.ms.length+n) (wmC r.st.ms++wmC ms)) (hat:(Value.slice ma (r.st.ms.length+n) mc).ownBlock=r.mv.ownBlock∨(Value.slice ma (r.st.ms.length+n) mc).ownBlock=some w.heap.size) :
  ScR W p mp { r with st:={ r.st with ms:=r.st.ms++ms },ma:=ma,mc:=mc } w':=by
 subst hn;obtain ⟨_,⟨_,a3,_⟩,⟨_,b3,_⟩,c1,d1⟩:=ap5 h.ap;have hl:(r.st.ms++ms).length=r.st.ms.length+ms.length:=Afs;have ha:Apart (RV.own { r with st:={ r.st with ms:=r.st.ms++ms },ma:=ma,mc:=mc } p mp):=by
  unfold RV.own;simp only [RV.cv,RV.mv,RV.ov];rw [hl];exact Apart.put (l:=[some p,some mp,r.cv.ownBlock]) (k:=[r.ov.ownBlock]) h.ap w.heap.size hat fun b hb=>(h.lt (by simp only [RV.own,List.cons_append,List.nil_append,Afz] at hb ⊢;rcases hb with hb | hb | hb | hb | hb;exact .inl hb;exact .inr (.inl hb);exact .inr (.inr (.inl hb));exact .inr (.inr (.inr (.inr (.inl hb))));cases hb)).2
 refine h.turn hg (fun b e=>by simp [RV.own,e]) ha (fun b hb=>?_) h.cs (BY h.cr hg fun b hb e=>(c1 b hb).1 e) ?_ (BY h.or hg fun b hb e=>d1 b e hb) (h.la.same (hg.block mp (h.lt (by simp [RV.own])).2 fun e=>b3 e.symm)) fun v hv=>.inl hv
 ·simp only [RV.own,RV.cv,RV.mv,RV.ov,hl,Afz,List.not_mem_nil,or_false] at hb ⊢;rcases hb with hb | hb | hb | hb | hb
  ·exact .inl (.inl hb)
  ·exact .inl (.inr (.inl hb))
  ·exact .inl (.inr (.inr (.inl hb)))
  ·rcases hat with e | e
   ·exact .inl (.inr (.inr (.inr (.inl (hb.trans e)))))
   ·rw [e] at hb;injection hb with hb;exact .inr (by omega)
  ·exact .inl (.inr (.inr (.inr (.inr hb))))
 ·show World.ownsRow _ _ _ 2 (.slice ma (r.st.ms++ms).length mc) (r.st.ms++ms).length _;rw [hl,MR];exact ho
def RV.go (r:RV) (k:Nat):RV:={ r with st:=r.st.go k }
structure ScS (W:World) (p mp:Nat) (q:Bool) (s:ByteArray) (ext:Bool) (r:RV) (w:World):Prop where
 h:ScR W p mp r w
 b:Blk w p (scC q r.cv s ext r.st.k r.mv r.ov (.map (some mp))) 39
section
variable {W w w':World} {p mp:Nat} {q:Bool} {s:ByteArray} {ext:Bool} {r:RV}
theorem ScR.go (h:ScR W p mp r w) (k:Nat):ScR W p mp (r.go k) w:=⟨h.b0,h.pB,h.mB,h.pl,h.ap,h.cs,h.cr,h.mr,h.or,h.la,h.ok⟩
theorem ScS.step (h:ScS W p mp q s ext r w) (hb:Below w.heap.size w w'):ScS W p mp q s ext r w':=⟨h.h.step hb,h.b.below hb h.b.lt⟩
theorem ScS.drew (h:ScS W p mp q s ext r w):ScS W p mp q s ext r w.drew:=h.step (Afv _ _).drew
theorem ScS.drewN (h:ScS W p mp q s ext r w) (n:Nat):ScS W p mp q s ext r (w.drewN n):=h.step (below_drewN (Afv _ _) n)
theorem ScS.go (h:ScS W p mp q s ext r w) (k:Nat):ScS W p mp q s ext (r.go k) (w.setCell ⟨p,4,none⟩ (.int .i64 (k:Int))):=⟨(h.h.setp 4 _).go k,h.b.set 4 _⟩
theorem ScS.gl (h:ScS W p mp q s ext r w) (hG:Gl W):Gl w:=hG.up h.h.b0
theorem ScS.t (h:ScS W p mp q s ext r w):w.cell? ⟨p,2,none⟩=some (.string s):=(h.b.cell 2).trans rfl
theorem ScS.k (h:ScS W p mp q s ext r w):w.cell? ⟨p,4,none⟩=some (.int .i64 (r.st.k:Int)):=(h.b.cell 4).trans rfl
end
theorem Abg (s:ByteArray) (k:Nat) (hs:s.size≤4000) (hk:k≤s.size) (w:World):Calls prog 20 #[.string s,.int .i64 (k:Int)] w fun e w'=>e=.returned (.int .i64 (BZ s.data.toList k:Int))∧Below w.heap.size w w':=by
 have e:=P1 s k w (by omega);rw [DF _ _ _ (by rw [←Ae];exact hk)] at e;exact e
theorem R0 (W:World) (p mp:Nat) (q:Bool) (s:ByteArray) (ext:Bool) (r:RV) (w:World) (h:ScS W p mp q s ext r w) (hs:s.size≤4000) (hk:r.st.k≤s.size) (hG:Gl W) :
  Calls prog 14 #[.pointer (some ⟨p,0,none⟩)] w fun e w'=>e=.returned (.tuple #[])∧ScS W p mp q s ext (r.go (Am s.data.toList r.st.k)) w':=by
 have hB:=Abg s r.st.k hs hk;have hsp:=Mw (L:=s.data.toList) (k:=r.st.k) (by simpa using hk);obtain ⟨R,hR⟩:∃ R,Am s.data.toList r.st.k=R:=⟨_,rfl⟩;rw [hR];unfold Am at hR;obtain ⟨K,hK⟩:∃ K,BZ s.data.toList r.st.k=K:=⟨_,rfl⟩;rw [hK] at hB hR hsp;rw [←Ae] at hsp hR;have HH:=Afj h;have HR:=Afj hR;have k2:=h.t;have k4:=h.k;clear h hK hk hR;go_enter func14,ntmps14;go_upto_region 0 with fail;go_cut [] (fun wx=>ScS W p mp q s ext (r.go K) wx)
 case first=>
  go_region_law (first | (go_simp;go_at_call 20;refine (hB _).mono ?_;rintro e w1 ⟨rfl,b1⟩;have H1:=Afj (by first | exact HH.out.step b1 | exact HH.out.drew.step b1:ScS W p mp q s ext r w1);have f4:=H1.out.b.frozen 4;have g4:=H1.out.k;clear b1))
  all_goals
   (try go_wp2_with fail)
   go_meet;exact H1.out.go K
 case rest=>
  have H2:=Afj hcut;clear hcut k2 k4 hB HH;go_wp2_with fail
  go_loopg [] (s.size+1) (fun gk wr=>∃ k,ScS W p mp q s ext (r.go k) wr∧Bw s.data.toList gk k=R∧s.size - k < gk∧k≤s.size)
  case atStart=>exact ⟨K,H2.out,HR.out,by omega,hsp⟩
  case round=>
   obtain ⟨k,hc,hf,hgk,hk⟩:=hrel;obtain ⟨m,rfl⟩:∃ m,gk=m+1:=⟨gk - 1,by omega⟩;clear HR H2 hsp;rw [Ev] at hf;have hpf:=fun w=>Nj s k 35 w
   have k2:=hc.t;have k4:wr.cell? ⟨p,4,none⟩=some (.int .i64 (k:Int)):=hc.k;have h0:(0:Int)≤(k:Int):=by omega
   have h1:(k:Int)≤(s.size:Int):=by omega
   have HC:=Afj hc;clear hc;by_cases hh:(s.data.toList.drop k).head?=some 35
   ·rw [if_pos hh] at hf;rw [decide_eq_true hh] at hpf;have Hf:=Afj hf;have hln:=fun w1 (H:ScS W p mp q s ext (r.go k) w1)=>L3 s k p w1 hs hk (H.gl hG) H.b.lt H.t H.k
    have hle:=PN (L:=s.data.toList) (k:=k) (by simpa using hk);have hsp:=Mw (L:=s.data.toList) hle;have hadv:=(PI hh).1;have hge:=Lu s.data.toList (k+Do s.data.toList k);rw [←Ae] at hle hsp;have hlz:(txt ((s.data.toList.drop k).take (Do s.data.toList k))).size=Do s.data.toList k:=by
     rw [C7,List.length_take,Af3,←Ae];omega
    generalize txt ((s.data.toList.drop k).take (Do s.data.toList k))=T at hln hlz;generalize Do s.data.toList k=n at *;have Wn:IntKind.i64.wrap ((k:Int)+(T.size:Int))=((k+n:Nat):Int):=by rw [Afx _ (by omega)];omega
    have hB:=Abg s (k+n) hs hle;generalize BZ s.data.toList (k+n)=K2 at *;clear hf hh hlz;go_upto_region 1 with fail;go_cut [23] (fun s23 wx=>s23=.bool true∧ScS W p mp q s ext (r.go k) wx)
    case first=>
     go_region_law (first | (go_simp;go_at_call 21;refine (hpf _).mono ?_;rintro e w1 ⟨rfl,hw⟩;have hw2:=hw.symm;subst hw2))
     all_goals
      (try go_wp2_with fail)
      go_meet;exact ⟨rfl,by first | exact HC.out.drew | exact HC.out⟩
    case rest=>
     obtain ⟨rfl,hx⟩:=hcut;have HX:=Afj hx;have k2:=hx.t;have k4:wc.cell? ⟨p,4,none⟩=some (.int .i64 (k:Int)):=hx.k;have hln2:=hln _ hx.drew;clear hx hpf hln HC;go_upto_region 2 with fail
     go_region_law (first
      | (go_simp;go_at_call 13;refine hln2.mono ?_;clear hln2;rintro e w1 ⟨rfl,b1⟩;have H1:=Afj (HX.out.drew.step b1);have y2:=H1.out.t;have y4:w1.cell? ⟨p,4,none⟩=some (.int .i64 (k:Int)):=H1.out.k;clear b1)
      | (go_simp;go_at_call 20;refine (hB _).mono ?_;rintro e w2 ⟨rfl,b2⟩;have H2:=Afj (H1.out.step b2);have f4:=H2.out.b.frozen 4;have g4:w2.cell? ⟨p,4,none⟩=some (.int .i64 (k:Int)):=H2.out.k;clear b2))
     all_goals
      (try go_wp2_with fail)
      go_roundg m
      case rel=>exact ⟨K2,H2.out.go K2,Hf.out,by omega,by omega⟩
      case measure=>omega
   ·rw [if_neg hh] at hf;rw [decide_eq_false hh] at hpf;subst hf;go_upto_region 1 with fail
    go_region_law (first | (go_simp;go_at_call 21;refine (hpf _).mono ?_;rintro e w1 ⟨rfl,hw⟩;have hw2:=hw.symm;subst hw2))
    all_goals
     go_wp2_with fail
     go_end0;exact ⟨rfl,by first | exact HC.out.drew | exact HC.out⟩
end
section
open Go Go.RowKit
theorem GN {a b:UInt8} (h:a≠b):((a.toNat:Int) == (b.toNat:Int))=false:=by
 have:¬ (a.toNat:Int)=(b.toNat:Int):=fun e=>h (UInt8.toNat_inj.1 (by omega))
 simpa using this
theorem GO {w:World} {b:Nat} {T:TypeId} {c:Cmd} {ta tb ts pv:Value} (h:Blk w b (EL c ta tb ts pv) T) :
  w.cell? ⟨b,0,none⟩=some (.int .i64 (c.pl:Int))∧w.cell? ⟨b,10,none⟩=some (.int .u8 c.name.toNat)∧w.cell? ⟨b,11,none⟩=some (.string (txt c.arg)):=
 ⟨(h.cell 0).trans rfl,(h.cell 10).trans rfl,(h.cell 11).trans rfl⟩
theorem XR:∃ i,Tryz.prog.info? 3=some i∧i.zero=some (.int .i64 0)∧i.size=1∧i.bytes=8:=by
 have h:(Tryz.prog.info? 3).map (fun i=>(i.zero,i.size,i.bytes))=some (some (.int .i64 0),1,8):=by kernel_rfl
 obtain ⟨i,hi,he⟩:=Option.map_eq_some_iff.1 h;injection he with h1 h2;injection h2 with h2 h3;exact ⟨i,hi,h1,h2,h3⟩
def RV.fit (r:RV) (c:Cmd) (oa:Option Addr) (oc:Nat):RV:={ r with st:={ r.st with op:=(Bb r.st c).2 },oa:=oa,oc:=oc,ls:=if c.name=58 then r.ls++[c.arg] else r.ls }
def Iu (W:World) (p mp:Nat) (q:Bool) (s:ByteArray) (ext:Bool) (r:RV) (c:Cmd) (w:World) (e:Ending) (w':World):Prop:=
 e=.returned (.int .i64 ((Bb r.st c).1:Int))∧Below W.heap.size W w'∧(w.heap.size≤w'.heap.size∧((Bb r.st c).1≠0→Below w.heap.size w w'))∧((Bb r.st c).1=0→∃ oa oc,ScS W p mp q s ext (r.fit c oa oc) w'∧∀ b,W.heap.size≤b→b < w.heap.size→some b ∉ r.own p mp→w'.heap[b]?=w.heap[b]?∧some b ∉ (r.fit c oa oc).own p mp)
theorem Iu.bad {W w w':World} {p mp:Nat} {q:Bool} {s:ByteArray} {ext:Bool} {r:RV} {c:Cmd} {n:Nat} {l:List Nat} (hF:Bb r.st c=(n,l)) (hn:n≠0) (hb:Below W.heap.size W w') (hz:Below w.heap.size w w'):Iu W p mp q s ext r c w (.returned (.int .i64 (n:Int))) w':=by
 unfold Iu;rw [hF];exact ⟨rfl,hb,⟨hz.size,fun _=>hz⟩,fun e=>absurd e hn⟩
theorem Iu.fine {W w w':World} {p mp:Nat} {q:Bool} {s:ByteArray} {ext:Bool} {r r':RV} {c:Cmd} {l:List Nat} {oa:Option Addr} {oc:Nat} (hF:Bb r.st c=(0,l)) (hr:r.fit c oa oc=r') (h:ScS W p mp q s ext r' w') (hz:w.heap.size≤w'.heap.size) (hk:∀ b,W.heap.size≤b→b < w.heap.size→some b ∉ r.own p mp→w'.heap[b]?=w.heap[b]?∧some b ∉ r'.own p mp):Iu W p mp q s ext r c w (.returned (.int .i64 0)) w':=by
 subst hr;unfold Iu;rw [hF];exact ⟨rfl,h.h.b0,⟨hz,fun e=>absurd rfl e⟩,fun _=>⟨oa,oc,h,hk⟩⟩
theorem XS {w wx w6:World} {r r':RV} {p mp n oc:Nat} {oa:Option Addr} (hb:Below w.heap.size w wx) (hg:wx.grownBy w6 r.ov.ownBlock) (hat:(Value.slice oa n oc).ownBlock=r.ov.ownBlock∨(Value.slice oa n oc).ownBlock=some wx.heap.size) (e1:r'.cv.ownBlock=r.cv.ownBlock) (e2:r'.mv.ownBlock=r.mv.ownBlock) (e3:r'.ov.ownBlock=(Value.slice oa n oc).ownBlock) (v:Value) :
  w.heap.size≤(w6.setCell ⟨p,6,none⟩ v).heap.size∧∀ b,b < w.heap.size→some b ∉ r.own p mp→(w6.setCell ⟨p,6,none⟩ v).heap[b]?=w.heap[b]?∧some b ∉ r'.own p mp:=by
 have hz:=hb.size;have hz6:=hg.size;refine ⟨by rw [show (w6.setCell ⟨p,6,none⟩ v).heap.size=w6.heap.size by simp [World.setCell]];omega,fun b hl h=>?_⟩;unfold RV.own at h ⊢;simp only [Afz,List.not_mem_nil,or_false,not_or] at h ⊢;obtain ⟨h1,h2,h3,h4,h5⟩:=h;refine ⟨?_,h1,h2,by rw [e1];exact h3,by rw [e2];exact h4,?_⟩
 ·rw [Afw _ _ _ _ (show b≠p from fun e=>h1 (by rw [e])),hg.block b (by omega) (fun e=>h5 e),hb.block b hl]
 ·rw [e3];rcases hat with e | e
  ·rw [e];exact h5
  ·rw [e];intro e;injection e with e;omega
theorem SG (x:List UInt8) (h:x.length≤40):keyOf prog 9 (.string (txt x))=some (.string x):=by
 have:=WideMaps.keyOf_string_mk (P:=prog) (k:=9) underlying9 (s:=txt x) (by rw [C7];unfold maxLen;omega);exact this
theorem KI (w:World):(zeroValue 3).run prog w=.ok (.int .i64 0) w:=by kernel_rfl
theorem UM (W:World) (p mp:Nat) (q:Bool) (s:ByteArray) (ext:Bool) (r:RV) (w:World) (c:Cmd) (ta tb ts pv:Value) (h:ScS W p mp q s ext r w) (hop:r.st.op.length≤12) (hls:r.ls=scLabels r.st.cs) (hcs:r.st.cs.length≤100) (har:c.name=58→c.arg.length≤40) :
  Calls prog 23 #[.pointer (some ⟨p,0,none⟩),.agg (EL c ta tb ts pv)] w (Iu W p mp q s ext r c w):=by
 unfold EL;have hk6:=fun W1 (H:ScS W p mp q s ext r W1)=>((H.b.cell 6).trans rfl:World.cell? W1 ⟨p,6,none⟩=some (.slice r.oa r.st.op.length r.oc))
 have hk7:=fun W1 (H:ScS W p mp q s ext r W1)=>((H.b.cell 7).trans rfl:World.cell? W1 ⟨p,7,none⟩=some (.map (some mp)))
 have hf6:=fun W1 (H:ScS W p mp q s ext r W1)=>H.b.frozen 6
 have H0:=Afj h;clear h;go_enter func23,ntmps23;go_upto_region 1 with fail;generalize hW1:w.alloc _=W1;have b1:=Ad hW1;obtain ⟨x0,x10,x11⟩:=GO (c:=c) (ta:=ta) (tb:=tb) (ts:=ts) (pv:=pv) (Af hW1);have H1:=Afj (H0.out.step b1);have B1:=Afj b1;have k6:=hk6 W1 H1.out;have k7:=hk7 W1 H1.out;have f6:=hf6 W1 H1.out;obtain ⟨g,hg⟩:∃ g,w.heap.size=g:=⟨_,rfl⟩;rw [hg] at x0 x10 x11 ⊢;have HG:=Afj hg;have HL:=Afj hls;have HA:=Afj har;clear hW1 b1 hk6 hk7 hf6 hg hls har;have BB:=Afj (H1.out.h.b0);have HZ:=Afj B1.out.size;by_cases h123:c.name=123
 ·have q1:((c.name.toNat:Int) == 123)=true:=by rw [h123];rfl
  by_cases h12:r.st.op.length=12
  ·have q2:((r.st.op.length:Int) == 12)=true:=by rw [h12];rfl
   have HFF:=Afj (show Bb r.st c=(4,r.st.op) by unfold Bb;rw [if_pos h123,if_pos h12]);clear h12 h123;go_wp2_with fail
   go_ret;exact Iu.bad HFF.out (by decide) BB.out B1.out
  ·have hF:Bb r.st c=(0,r.st.op++[c.pl]):=by unfold Bb;rw [if_pos h123,if_neg h12]
   have q2:((r.st.op.length:Int) == 12)=false:=beq_eq_false_iff_ne.2 (by omega);obtain ⟨i0,hi,hz0,hz1,hz2⟩:=XR;have hm1:r.st.op.length+1≤maxLen:=by unfold maxLen;omega
   have hm2:(r.st.op.length+1) * 8≤140737488355328:=by omega
   have hlo:W.heap.size≤W1.heap.size:=BB.out.size;have hplt:=H1.out.b.lt;have H58:=Afj (show ¬ c.name=58 by rw [h123];decide);have HFF:=Afj hF;clear h12 hF h123 hcs hop;go_upto_region 5 with fail
   go_region_law (first
    | (refine A6 rfl _ _ 37 rfl W.heap.size 3 i0 (.int .i64 0) 1 8 underlying37 hi hz0 hz1 hz2 rfl (by decide) (.slice r.oa r.st.op.length r.oc) r.st.op.length (opC r.st.op) rfl (Ah H1.out.h.or (by repeat (first | (with_reducible exact Afv _ _) | refine Agb ?_ | refine Agc ?_ (Afq _) _))) (some ⟨W1.heap.size,0,none⟩) 1 1 [.int .i64 (c.pl:Int)] rfl rfl (fun _=>⟨_,rfl,cell_one_new _ _ _⟩) (fun u hu=>by rw [List.mem_singleton.1 hu];rfl) hm1 hm2 (by simp;omega) ?_;intro v6 w6 hown6 hgrow6 hat6;obtain ⟨a6,c6,rfl⟩:=AB hown6;have hb6:Below W1.heap.size W1 (W1.drew.alloc (.cells #[.int .i64 (c.pl:Int)] 3)):=(Afv _ _).drew.alloc (Afq _) _;have HP:=Afj ((H1.out.h.step hb6).open hgrow6 hown6 hat6);have HQ:=Afj (AM (H1.out.b.below hb6 H1.out.b.lt) hgrow6 (ap5 H1.out.h.ap).2.1.2.2);have HK:=Afj (XS (p:=p) (mp:=mp) (r':={ r with st:={ r.st with op:=r.st.op++[c.pl] },oa:=a6,oc:=c6 }) hb6 hgrow6 hat6 rfl rfl (by cases a6 <;> rfl) (.slice a6 (r.st.op.length+1) c6));have f6:=HQ.out.frozen 6;have g6:w6.cell? ⟨p,6,none⟩=some (.slice r.oa r.st.op.length r.oc):=(HQ.out.cell 6).trans rfl;clear hown6 hgrow6 hat6 hb6))
   all_goals
    (try go_wp2_with fail)
    go_ret;refine Iu.fine (oa:=a6) (oc:=c6) HFF.out (show _={ r with st:={ r.st with op:=r.st.op++[c.pl] },oa:=a6,oc:=c6 } by unfold RV.fit;rw [HFF.out,if_neg H58.out]) ⟨HP.out.setp 6 _,?_⟩ (Afr HZ.out HK.out.1) fun b _ hl hb=>?_
    ·have h9:=HQ.out.set 6 (.slice a6 (r.st.op.length+1) c6);show Blk _ p (scC q r.cv s ext r.st.k r.mv (.slice a6 (r.st.op++[c.pl]).length c6) (.map (some mp))) _;rw [show (r.st.op++[c.pl]).length=r.st.op.length+1 by simp];exact h9
    ·obtain ⟨y1,y2⟩:=HK.out.2 b (Aft hl HZ.out) hb;exact ⟨y1.trans (B1.out.block b hl),y2⟩
 have q1:((c.name.toNat:Int) == 123)=false:=GN (b:=123) h123;by_cases h125:c.name=125
 ·have q2:((c.name.toNat:Int) == 125)=true:=by rw [h125];rfl
  by_cases h0:r.st.op.length=0
  ·have q3:((r.st.op.length:Int) == 0)=true:=by rw [h0];rfl
   have HFF:=Afj (show Bb r.st c=(16,r.st.op) by unfold Bb;rw [if_neg h123,if_pos h125,if_pos h0]);clear h0 h123 h125;go_wp2_with fail
   go_ret;exact Iu.bad HFF.out (by decide) BB.out B1.out
  ·have hF:Bb r.st c=(0,r.st.op.dropLast):=by unfold Bb;rw [if_neg h123,if_pos h125,if_neg h0]
   have q3:((r.st.op.length:Int) == 0)=false:=beq_eq_false_iff_ne.2 (by omega);have hd:r.st.op.dropLast.length=r.st.op.length - 1:=List.length_dropLast;obtain ⟨n,hn⟩:∃ n,r.st.op.dropLast.length=n:=⟨_,rfl⟩;have Wn:IntKind.i64.wrap ((r.st.op.length:Int) - 1)=(n:Int):=by rw [Afx _ (by omega)];omega
   have hcap:r.st.op.length≤r.oc:=by
    rcases H1.out.h.or.2 with ⟨e1,e2⟩ | ⟨g,cap,cur,e1,_,_,e2,_⟩
    ·omega
    ·injection e1 with _ _ e3;omega
   have hn2:n≤r.oc:=by omega
   have H58:=Afj (show ¬ c.name=58 by rw [h125];decide);have HFF:=Afj hF;have HN:=Afj hn;clear hF h123 h125 hd hn hcs hop;go_upto_region 9 with fail
   go_region_law (fail)
   all_goals
    (try go_wp2_with fail)
    go_ret;refine Iu.fine (oa:=r.oa) (oc:=r.oc) HFF.out (show _={ r with st:={ r.st with op:=r.st.op.dropLast } } by unfold RV.fit;rw [HFF.out,if_neg H58.out]) ⟨(H1.out.drew.h.pop).setp 6 _,?_⟩ (by simp [World.setCell];exact HZ.out) fun b _ hl hb=>⟨?_,?_⟩
    ·have h9:=H1.out.drew.b.set 6 (.slice r.oa n r.oc);rw [←HN.out] at h9 ⊢;exact h9
    ·exact (Afw _ _ _ _ (show b≠p from fun e=>hb (by rw [e];simp [RV.own]))).trans (B1.out.block b hl)
    ·simp only [RV.own,RV.cv,RV.mv,RV.ov] at hb ⊢;cases hoa:r.oa <;> (rw [hoa] at hb;exact hb)
 have q2:((c.name.toNat:Int) == 125)=false:=GN (b:=125) h125;by_cases h58:c.name=58
 ·have q3:((c.name.toNat:Int) == 58)=true:=by rw [h58];rfl
  obtain ⟨n,D,hn,hown,hat⟩:=H1.out.h.la;have hkey:=SG c.arg (HA.out h58);obtain ⟨cc,hrun,hcc,_⟩:=hown.drew.lookup_int (Go.Maps.string_keyed underlying9) underlying36 underlying3 (KI _) hkey;rw [hat c.arg] at hcc;injection hcc with hcc;injection hcc with _ hcc;by_cases hin:c.arg∈r.ls
  ·rw [if_pos hin] at hcc;have HFF:=Afj (show Bb r.st c=(15,r.st.op) by unfold Bb;rw [if_neg h123,if_neg h125,if_pos h58,if_pos (by rw [←HL.out];exact hin)]);subst hcc;clear hat hkey hown h123 h125 h58 hin;go_upto_region 11 with fail
   go_region_law (fail)
   all_goals
    (try go_wp2_with fail)
    go_ret;exact Iu.bad HFF.out (by decide) BB.out.drew B1.out.drew
  ·rw [if_neg hin] at hcc;have HFF:=Afj (show Bb r.st c=(0,r.st.op) by unfold Bb;rw [if_neg h123,if_neg h125,if_pos h58,if_neg (by rw [←HL.out];exact hin)]);subst hcc;obtain ⟨c2,hrun2,hcc2,_⟩:=hown.drew.drew.lookup_int (Go.Maps.string_keyed underlying9) underlying36 underlying3 (KI _) hkey;rw [hat c.arg,if_neg hin] at hcc2;injection hcc2 with hcc2;injection hcc2 with _ hcc2;subst hcc2;have hn98:r.ls.length≤100:=by rw [HL.out];unfold scLabels;rw [List.length_map];exact Afr (List.length_filter_le _ _) hcs
   have hn99:n < maxLen:=by unfold maxLen;omega
   obtain ⟨w6,hup,hown6,hg6⟩:=hown.drew.drew.update (val:=.int .i64 1) (Go.Maps.string_keyed underlying9) underlying36 hn99 hkey (plainElem_int underlying3 (by decide));have W01:IntKind.i64.wrap 1=1:=by decide
   have HLa:=Afj (LabAt.put hn hown.isMap hat hown6);have H6:=Afj hg6;have H58:=Afj h58;clear hat hkey hown h123 h125 h58 hin hn hn98 hn99 hown6 hg6;go_upto_region 11 with fail
   go_region_law (fail)
   all_goals
    go_upto_region 13 with fail
    go_region_law (fail)
   all_goals
    (try go_wp2_with fail)
    go_ret;have hx:=H1.out.drew.drew;refine Iu.fine (oa:=r.oa) (oc:=r.oc) HFF.out (show _={ r with ls:=r.ls++[c.arg] } by unfold RV.fit;rw [HFF.out,if_pos H58.out]) ⟨hx.h.label H6.out HLa.out,AM hx.b H6.out (fun e=>(ap5 hx.h.ap).1 (by injection e with e;exact e.symm))⟩ (Afr HZ.out H6.out.size) fun b _ hl hb=>⟨?_,hb⟩
    exact (H6.out.block b (Aft hl HZ.out) (fun e=>hb (by rw [e];simp [RV.own]))).trans (B1.out.block b hl)
 have q3:((c.name.toNat:Int) == 58)=false:=GN (b:=58) h58;have hF:Bb r.st c=(0,r.st.op):=by unfold Bb;rw [if_neg h123,if_neg h125,if_neg h58]
 have H58:=Afj h58;have HFF:=Afj hF;clear hF h123 h125 h58;go_wp2_with fail
 go_ret;exact Iu.fine (oa:=r.oa) (oc:=r.oc) HFF.out (by unfold RV.fit;rw [HFF.out,if_neg H58.out]) H1.out HZ.out fun b _ hl hb=>⟨B1.out.block b hl,hb⟩
end
section
set_option linter.unusedVariables false
def kept (st:CS):UInt8 × Grd:=(st.c.name,st.c.g)
def GQ (n:Nat) (st:CS) (r:CO):Prop:=r.1=0→r.2.ms.length≤st.ms.length+n∧kept r.2=kept st
theorem GQ.of {st:CS} {r:CO} (h:r.2.ms=st.ms∧kept r.2=kept st):GQ 0 st r:=fun _=>⟨by rw [h.1];exact Afq _,h.2⟩
theorem GQ.then {n m:Nat} {st:CS} {r:CO} {f:CS→CO} (h:GQ n st r) (k:r.1=0→GQ m r.2 (f r.2)):GQ (n+m) st (r.then f):=fun h0=>by
 unfold CO.then at h0 ⊢
 by_cases h1:r.1=0
 ·rw [if_pos h1] at h0 ⊢;obtain ⟨a,b⟩:=h h1;obtain ⟨c,d⟩:=k h1 h0;exact ⟨by omega,d.trans b⟩
 ·rw [if_neg h1] at h0;exact absurd h0 h1
theorem GQ.mono {n m:Nat} {st:CS} {r:CO} (h:GQ n st r) (hn:n≤m):GQ m st r:=fun h0=>⟨by have:=(h h0).1;omega,(h h0).2⟩
theorem XT (L:List UInt8) (st:CS):GQ 1 st (BG L st):=fun _=>by
 unfold BG
 repeat' split
 all_goals simp [CS.go,CS.mark,kept]
theorem Adv {L:List UInt8} {b:UInt8} {st:CS} {r:CO} (h:AH L b st=some r):r.2.ms=st.ms∧kept r.2=kept st:=by
 unfold AH CU CW CB Cr at h
 repeat' split at h
 all_goals first | (injection h with h;subst h;exact ⟨rfl,rfl⟩) | cases h
theorem SH (L:List UInt8):∀ (n:Nat) (st:CS),GQ 1 st (A2 L n st)
 | 0,st=>fun _=>⟨Nat.le_add_right _ _,rfl⟩
 | n+1,st=>by
  unfold A2;cases L.drop st.k with
  | nil=>exact fun _=>⟨Nat.le_add_right _ _,rfl⟩
  | cons b t=>
   simp only;cases hf:AH L b st with
   | some r=>
    have e:=Adv hf;simp only;split
    ·intro h0;obtain ⟨a,b⟩:=SH L n r.2 h0;rw [e.1] at a;exact ⟨a,b.trans e.2⟩
    ·exact (GQ.of e).mono (Nat.zero_le _)
   | none=>
    simp only;split
    ·unfold Bi;split <;> exact (GQ.of ⟨rfl,rfl⟩).mono (Nat.zero_le _)
    ·exact XT L st
theorem Abh (L:List UInt8) (st:CS):kept (Au L st).2.2=kept st:=by
 unfold Au
 repeat' split
 all_goals rfl
theorem Aet {ext:Bool} {L:List UInt8} {st:CS} (hk:st.k≤L.length):GQ 251 st (BU ext L st):=by
 unfold BU;refine (GQ.then (n:=0) (m:=251) (GQ.of ⟨DI L st,Abh L st⟩) fun h0=>GQ.then (n:=250) (m:=1) (fun h1=>⟨(Abd (Eu hk) h1).2.1,?_⟩) fun h1=>(GQ.then (n:=0) (m:=1) (GQ.of ⟨Mz L _ _,?_⟩) fun _=>SH L _ _).mono (Afq 1)).mono (by omega)
 ·unfold Dm JK;split <;> rfl
 ·unfold CA DC
  repeat' split
  all_goals rfl
theorem Aeu (L:List UInt8) (st:CS):GQ 1 st (BL L st):=by
 unfold BL;refine (GQ.then (n:=0) (m:=1) (GQ.of ⟨DI L st,Abh L st⟩) fun _=>?_).mono (by omega);unfold EI EH
 repeat' split
 all_goals first | exact (GQ.of ⟨rfl,rfl⟩).mono (Nat.zero_le _) | exact XT L _
theorem Aar {ext:Bool} {L:List UInt8} {st:CS} (hk:st.k≤L.length):GQ 251 st (AP ext L st):=by
 unfold AP;simp only;split
 ·exact (GQ.of ⟨rfl,rfl⟩).mono (Nat.zero_le _)
 split
 ·exact (GQ.of ⟨rfl,rfl⟩).mono (Nat.zero_le _)
 split
 ·unfold C9;split <;> exact (GQ.of ⟨rfl,rfl⟩).mono (Nat.zero_le _)
 split
 ·unfold BT;split
  ·exact (GQ.of ⟨rfl,rfl⟩).mono (Nat.zero_le _)
  ·split
   ·exact (GQ.of ⟨rfl,rfl⟩).mono (Nat.zero_le _)
   ·split
    ·exact (GQ.of ⟨rfl,rfl⟩).mono (Nat.zero_le _)
    ·exact fun _=>⟨by
      show (st.ms++[_]).length≤_;simp,rfl⟩
 split
 ·unfold Bn;split <;> exact (GQ.of ⟨rfl,rfl⟩).mono (Nat.zero_le _)
 split
 ·exact Aet hk
 split
 ·exact (Aeu L st).mono (by omega)
 ·exact (XT L st).mono (by omega)
def XU (b:UInt8):Prop:=b=58∨b=98∨b=116∨b=84
theorem Aas (L:List UInt8) (k:Nat):(Bu L k true).1.length≤40:=by
 unfold Bu Ek
 repeat' split
 ·simp
 ·simp
 ·rename_i h1 h2;exact Nat.le_of_not_lt h2
theorem Aev {ext:Bool} {L:List UInt8} {st:CS} (h:XU st.c.name):(AP ext L st).2.c.arg.length≤40:=by
 have h9:=Aas L st.k;unfold AP;simp only;rcases h with h | h
 ·rw [h,if_neg (by decide),if_pos rfl];exact h9
 ·rw [if_neg (by rcases h with h | h | h <;> rw [h] <;> decide),if_neg (by rcases h with h | h | h <;> rw [h] <;> decide),if_pos h];unfold C9;split <;> exact h9
theorem Adw (L:List UInt8) (st:CS):(AW L st).2.c.g=st.c.g:=by
 unfold AW;split
 ·rfl
 ·unfold Bt
  repeat' split
  all_goals rfl
theorem Abi {ext:Bool} (s:ByteArray) {k:Nat} {q:Cmd × List Wm × Nat} (hk:k≤s.size) (h:Ji ext s.data.toList k=.ok q):(q.2.2≤s.size∧q.2.1.length≤900)∧(XU q.1.name→q.1.arg.length≤40)∧Bx q.1.g.a∧Bx q.1.g.b:=by
 have hp:q.2.2≤s.size:=by
  obtain ⟨c,ms,p⟩:=q;obtain ⟨_,_,_,h3⟩:=Aa8 [] (L:=s.data.toList) (by simpa using hk) (fun _ _ _ h=>Fe h) h;simpa using h3
 unfold Ji at h;cases hG:GS ext s.data.toList k with
 | error q=>rw [hG] at h;cases h
 | ok g=>
  obtain ⟨g1,g2⟩:=Rx s hk hG;rw [hG] at h;unfold PD EZ at h;simp only at h;split at h
  ·rename_i h0;injection h with h;subst h;simp only at hp ⊢;unfold AE at h0 ⊢;unfold CO.then at h0 ⊢
   by_cases h1:(AW s.data.toList (AA g.1 g.2.1 g.2.2)).1=0
   ·rw [if_pos h1] at h0;rw [if_pos h1];obtain ⟨n1,n2,n3⟩:=SF h1;obtain ⟨t1,t2⟩:=Aar (by rw [n1];exact n2) h0;have e:(AA g.1 g.2.1 g.2.2).ms=g.2.1:=rfl;rw [e] at n3;refine ⟨⟨?_,by omega⟩,fun hl=>Aev (by rw [show (AP ext s.data.toList _).2.c.name=_ from congrArg Prod.fst t2] at hl;exact hl),?_⟩
    ·unfold AE CO.then at hp
     rw [if_pos h1] at hp;exact hp
    ·rw [show (AP ext s.data.toList _).2.c.g=_ from congrArg Prod.snd t2];show Bx (AW s.data.toList _).2.c.g.a∧Bx (AW s.data.toList _).2.c.g.b;rw [Adw];exact XE hG
   ·rw [if_neg h1] at h0;exact absurd h0 h1
  ·cases h
def CFine (c:Cmd):Prop:=Ax (c.sub.tree.getD .empty)≤4000000∧Bx c.g.a∧Bx c.g.b∧(XU c.name→c.arg.length≤40)
def Ft (st r:CS):Prop:=r.c.sub.tree=st.c.sub.tree
theorem Ft.refl (st:CS):Ft st st:=rfl
theorem Ft.trans {a b c:CS} (h:Ft a b) (k:Ft b c):Ft a c:=Eq.trans k h
theorem Aat {st:CS} {r:CO} {f:CS→CO} (h:Ft st r.2) (hf:Ft r.2 (f r.2).2):Ft st (r.then f).2:=by
 unfold CO.then
 split
 ·exact h.trans hf
 ·exact h
theorem Pd (L:List UInt8) (st:CS):Ft st (BE L st).2:=rfl
theorem Adx (L:List UInt8) (st:CS):Ft st (C9 L st).2:=by
 unfold C9;split
 ·exact rfl
 ·exact Pd L st
theorem Aau (L:List UInt8) (st:CS):Ft st (BT L st).2:=by
 unfold BT;split
 ·exact rfl
 ·split
  ·exact rfl
  ·split <;> exact rfl
theorem XV (L:List UInt8) (st:CS):Ft st (Bn L st).2:=by
 unfold Bn;split <;> exact rfl
theorem XW (L:List UInt8) (st:CS):Ft st (Bi L st).2:=by
 unfold Bi;split <;> exact rfl
theorem XX (L:List UInt8) (st:CS):Ft st (Au L st).2.2:=by
 unfold Au;split
 ·exact rfl
 ·split <;> exact rfl
theorem R4 (L:List UInt8) (st:CS):Ft st (BG L st).2:=by
 unfold BG;split
 ·exact rfl
 ·split
  ·exact rfl
  ·split <;> exact rfl
theorem Ady (L:List UInt8) (d:UInt8) (st:CS):Ft st (CA L d st).2:=by
 unfold CA DC;split
 ·split <;> exact rfl
 ·exact rfl
theorem SI {L:List UInt8} {b:UInt8} {st:CS} {r:CO} (h:AH L b st=some r):Ft st r.2:=by
 unfold AH at h;split at h
 ·injection h with h;subst h;unfold CU;split <;> exact rfl
 ·split at h
  ·injection h with h;subst h;unfold CW;split <;> exact rfl
  ·split at h
   ·injection h with h;subst h;unfold CB Cr;split
    ·split
     ·split <;> exact rfl
     ·exact rfl
    ·exact rfl
   ·cases h
theorem Pe (L:List UInt8):∀ (n:Nat) (st:CS),Ft st (A2 L n st).2
 | 0,st=>Ft.refl st
 | n+1,st=>by
  unfold A2;split
  ·exact Ft.refl st
  ·split
   ·rename_i hf;split
    ·exact (SI hf).trans (Pe L n _)
    ·exact SI hf
   ·split
    ·exact Ft.trans (b:=st.go (st.k+1)) rfl (XW L _)
    ·exact R4 L st
theorem Adz (L:List UInt8) (st:CS):Ft st (BL L st).2:=by
 unfold BL;refine Aat (XX L st) ?_;unfold EI;split
 ·unfold EH;split
  ·split
   ·exact Ft.trans (b:=(Au L st).2.2.table _ _) rfl (R4 L _)
   ·exact rfl
  ·exact rfl
 ·exact rfl
def UN (st:CS):Prop:=Ax (st.c.sub.tree.getD .empty)≤4000000
theorem UN.ft {a b:CS} (h:UN a) (k:Ft a b):UN b:=by unfold UN;rw [k];exact h
theorem Aew {ext:Bool} {L:List UInt8} {d:UInt8} {st:CS}:UN (Dm ext L d st).2:=by
 unfold Dm;cases hR:An ext L st.k d with
 | error q=>show Ax .empty≤_;decide
 | ok q=>exact GM hR
theorem Jw {r:CO} {f:CS→CO} (h:UN r.2) (hf:UN r.2→UN (f r.2).2):UN (r.then f).2:=by
 unfold CO.then
 split
 ·exact hf h
 ·exact h
theorem XY {ext:Bool} {L:List UInt8} {st:CS} (h:UN st):UN (AP ext L st).2:=by
 unfold AP;simp only;split
 ·exact h
 ·split
  ·exact h.ft (Pd L st)
  ·split
   ·exact h.ft (Adx L st)
   ·split
    ·exact h.ft (Aau L st)
    ·split
     ·exact h.ft (XV L st)
     ·split
      ·unfold BU;exact Jw (h.ft (XX L st)) fun _=>Jw Aew fun h2=>Jw (h2.ft (Ady L _ _)) fun h3=>h3.ft (Pe L _ _)
      ·split
       ·exact h.ft (Adz L st)
       ·exact h.ft (R4 L st)
theorem Aav {ext:Bool} {L:List UInt8} {k:Nat} {c:Cmd} {ms:List Wm} {p:Nat} (h:Ji ext L k=.ok (c,ms,p)):Ax (c.sub.tree.getD .empty)≤4000000:=by
 unfold Ji at h;cases hG:GS ext L k with
 | error q=>rw [hG] at h;cases h
 | ok q=>
  rw [hG] at h;unfold PD EZ at h;simp only at h;split at h
  ·injection h with h;injection h with h1 h2;rw [←h1];show UN _;unfold AE;refine Jw ?_ fun h=>XY h
   have h0:UN (AA q.1 q.2.1 q.2.2):=by show Ax .empty≤_;decide
   refine h0.ft ?_;unfold AW;split
   ·rfl
   ·unfold Bt;split
    ·rfl
    ·split
     ·rfl
     ·show (CS.name _ _).c.sub.tree=_;split <;> rfl
  ·cases h
theorem XZ {ext:Bool} {L:List UInt8} {k:Nat} {q:Nat × Nat} (h:Ji ext L k=.error q):q.1≠0:=by
 unfold Ji at h;cases hG:GS ext L k with
 | error r=>
  rw [hG] at h;injection h with h;rw [←h];exact SD hG
 | ok r=>
  rw [hG] at h;unfold PD EZ at h;simp only at h;split at h
  ·cases h
  ·rename_i h1;injection h with h;rw [←h];exact h1
end
section
open Go Go.RowKit
theorem IJ {w:World} {b:Nat} {T:TypeId} {v0 v1 v2 v3 v4 v5 v6 v7 v8 v9 v10 v11 v12 v13 v14 v15 v16 v17 v18 v19:Value} (h:Blk w b #[v0,v1,v2,v3,v4,v5,v6,v7,v8,v9,v10,v11,v12,v13,v14,v15,v16,v17,v18,v19] T):(w.cell? ⟨b,0,none⟩=some v0∧w.cell? ⟨b,1,none⟩=some v1∧w.cell? ⟨b,2,none⟩=some v2∧w.cell? ⟨b,3,none⟩=some v3∧w.cell? ⟨b,4,none⟩=some v4∧w.cell? ⟨b,5,none⟩=some v5∧w.cell? ⟨b,6,none⟩=some v6∧w.cell? ⟨b,7,none⟩=some v7∧w.cell? ⟨b,8,none⟩=some v8∧w.cell? ⟨b,9,none⟩=some v9∧w.cell? ⟨b,10,none⟩=some v10∧w.cell? ⟨b,11,none⟩=some v11∧w.cell? ⟨b,12,none⟩=some v12∧w.cell? ⟨b,13,none⟩=some v13∧w.cell? ⟨b,14,none⟩=some v14∧w.cell? ⟨b,15,none⟩=some v15∧w.cell? ⟨b,16,none⟩=some v16∧w.cell? ⟨b,17,none⟩=some v17∧w.cell? ⟨b,18,none⟩=some v18∧w.cell? ⟨b,19,none⟩=some v19)∧b < w.heap.size:=
 ⟨⟨(h.cell 0).trans rfl,(h.cell 1).trans rfl,(h.cell 2).trans rfl,(h.cell 3).trans rfl,(h.cell 4).trans rfl,(h.cell 5).trans rfl,(h.cell 6).trans rfl,(h.cell 7).trans rfl,(h.cell 8).trans rfl,(h.cell 9).trans rfl,(h.cell 10).trans rfl,(h.cell 11).trans rfl,(h.cell 12).trans rfl,(h.cell 13).trans rfl,(h.cell 14).trans rfl,(h.cell 15).trans rfl,(h.cell 16).trans rfl,(h.cell 17).trans rfl,(h.cell 18).trans rfl,(h.cell 19).trans rfl⟩,h.lt⟩
theorem Ya (c:Cmd) (pl:Nat) (ta tb ts ua ub tu:Value) (pa pb:Option Addr) (c1 c2:Nat) (w:World) (ka:Bx c.g.a) (kb:Bx c.g.b) (hta:TrO (fun b=>b < w.heap.size) w c.g.a.tree ta) (htb:TrO (fun b=>b < w.heap.size) w c.g.b.tree tb) (hua:TrO (fun b=>b < w.heap.size) w c.g.a.tree ua) (hub:TrO (fun b=>b < w.heap.size) w c.g.b.tree ub) (hts:TrO (fun b=>b < w.heap.size) w c.sub.tree ts) (htu:TrO (fun b=>b < w.heap.size) w c.sub.tree tu) (hf:Ax (c.sub.tree.getD .empty)≤4000000) (h1:Le w pa c.sub.parts) (h2:Le w pb c.sub.parts) :
  Calls prog 10 #[.agg (EL c ta tb ts (.slice pa c.sub.parts.length c1)),.agg (EL { c with pl:=pl } ua ub tu (.slice pb c.sub.parts.length c2))] w fun e w'=>e=.returned (.bool true)∧Below w.heap.size w w':=by
 have hS:=fun W (hB:Below w.heap.size w W)=>XQ c.sub ts tu pa pb c1 c2 W (DO hB hts) (DO hB htu) hf (h1.below hB) (h2.below hB)
 have hG:=fun W (hB:Below w.heap.size w W)=>Rv c.g c.g ta tb ua ub W ⟨DO hB hta,DO hB htb,DO hB hua,DO hB hub⟩ ka kb ka kb
 rw [show Rs c.g c.g=true by unfold Rs;rw [IZ,IZ];simp] at hG;have o1:=AR hta.shape;have o2:=AR htb.shape;have o3:=AR hts.shape;have o4:=AR hua.shape;have o5:=AR hub.shape;have o6:=AR htu.shape;clear hta htb hua hub hts htu hf h1 h2 ka kb;unfold EL;simp only;all_goals
  go_enter func10,ntmps10;go_upto_region 1 with fail;generalize hW1:w.alloc _=W1;generalize hW2:W1.alloc _=W2;have hX:=(Af hW1).below (Ad hW2) (Af hW1).lt;have hY:=Af hW2;have B2:=Afj ((Ad hW1).trans ((Ad hW2).mono (Ad hW1).size));have hp:W1.heap.size=w.heap.size+1:=by rw [←hW1];exact World.size_alloc _ _
  rw [hp] at hY;clear hp;generalize w.heap.size+1=p at hY ⊢;have HX:=Afj hX;have HY:=Afj hY;obtain ⟨⟨x0,x1,x2,x3,x4,x5,x6,x7,x8,x9,x10,x11,x12,x13,x14,x15,x16,x17,x18,x19⟩,hxl⟩:=IJ hX;obtain ⟨⟨y0,y1,y2,y3,y4,y5,y6,y7,y8,y9,y10,y11,y12,y13,y14,y15,y16,y17,y18,y19⟩,hyl⟩:=IJ hY;clear hX hY hW1 hW2;go_wp2_with (first
   | (go_at_call 17;refine (hG _ B2.out).mono ?_;rintro e w3 ⟨rfl,b3⟩;have B3:=Afj (B2.out.trans (b3.mono B2.out.size));have HX3:=Afj (HX.out.below b3 hxl);have HY3:=Afj (HY.out.below b3 hyl);clear b3 hG x0 x1 x2 x3 x4 x5 x6 x7 x8 x9 x10 x11 x12 x13 x14 x15 x16 x17 x18 x19 hxl y0 y1 y2 y3 y4 y5 y6 y7 y8 y9 y10 y11 y12 y13 y14 y15 y16 y17 y18 y19 hyl;obtain ⟨⟨x0,x1,x2,x3,x4,x5,x6,x7,x8,x9,x10,x11,x12,x13,x14,x15,x16,x17,x18,x19⟩,hxl⟩:=IJ HX3.out;obtain ⟨⟨y0,y1,y2,y3,y4,y5,y6,y7,y8,y9,y10,y11,y12,y13,y14,y15,y16,y17,y18,y19⟩,hyl⟩:=IJ HY3.out)
   | (go_at_call 18;refine (hS _ B3.out).mono ?_;rintro e w4 ⟨rfl,b4⟩;have HX4:=Afj (HX3.out.below b4 hxl);have HY4:=Afj (HY3.out.below b4 hyl);have B4:=Afj (B3.out.trans (b4.mono B3.out.size));clear b4 hS x0 x1 x2 x3 x4 x5 x6 x7 x8 x9 x10 x11 x12 x13 x14 x15 x16 x17 x18 x19 hxl y0 y1 y2 y3 y4 y5 y6 y7 y8 y9 y10 y11 y12 y13 y14 y15 y16 y17 y18 y19 hyl;obtain ⟨⟨x0,x1,x2,x3,x4,x5,x6,x7,x8,x9,x10,x11,x12,x13,x14,x15,x16,x17,x18,x19⟩,hxl⟩:=IJ HX4.out;obtain ⟨⟨y0,y1,y2,y3,y4,y5,y6,y7,y8,y9,y10,y11,y12,y13,y14,y15,y16,y17,y18,y19⟩,hyl⟩:=IJ HY4.out))
  go_ret;exact ⟨rfl,B4.out⟩
theorem CV.len (v:CV):v.cells.toList.length=20:=rfl
theorem CV.one {F:Nat→Prop} {w:World} {v:CV} (h:v.ok F w):v.cells.all (·.oneCell')=true:=Nv _ _ _ _ _ (AR h.a.shape) (AR h.b.shape) (AR h.s.shape) rfl
def KJ (w:World) (a:Option Addr) (vs:List CV):Prop:=0 < vs.length→∃ g,a=some ⟨g,0,none⟩∧g < w.heap.size∧∀ i (h:i < vs.length),w.rangeAt g (i * 20) vs[i].cells.toList
theorem KJ.below {w w':World} {a:Option Addr} {vs:List CV} (h:KJ w a vs) (hb:Below w.heap.size w w'):KJ w' a vs:=fun h0=>by
 obtain ⟨g,ha,hl,hc⟩:=h h0;exact ⟨g,ha,Aft hl hb.size,fun i hi j v hj=>(hb.cell (p:=⟨g,i * 20+j,none⟩) hl).trans (hc i hi j v hj)⟩
theorem Yb:∀ (vs:List CV) (i:Nat) (h:i < vs.length) (j:Nat) (v:Value),vs[i].cells.toList[j]?=some v→(vs.flatMap fun v=>v.cells.toList)[i * 20+j]?=some v
 | x :: vs,0,h,j,v,hj=>by
  rw [List.flatMap_cons,List.getElem?_append_left (by rw [Nat.zero_mul,Nat.zero_add];exact (List.getElem?_eq_some_iff.1 hj).1),Nat.zero_mul,Nat.zero_add];exact hj
 | x :: vs,i+1,h,j,v,hj=>by
  rw [List.flatMap_cons,List.getElem?_append_right (by rw [x.len];omega),x.len,show (i+1) * 20+j - 20=i * 20+j by omega];exact Yb vs i (by simpa using h) j v hj
theorem Pf {w:World} {B:Nat} {T:TypeId} {a:Option Addr} {c:Nat} {vs:List CV} (h:w.ownsRow B T 20 (.slice a vs.length c) vs.length (vs.flatMap fun v=>v.cells.toList)):KJ w a vs:=fun h0=>by
 rcases h.2 with ⟨_,h2⟩ | ⟨g,cap,cur,h1,_,hg,_,_,_,ht⟩
 ·omega
 ·injection h1 with h1 _ _;refine ⟨g,h1,(Af6.1 hg).1,fun i hi j v hj=>?_⟩;have h9:=Yb vs i hi j v hj;rw [←ht,List.getElem?_take] at h9;split at h9
  ·simp only [World.cell?,hg];rw [Array.getElem?_toList] at h9;simpa using h9
  ·cases h9
def Yc (c d:Cmd):Prop:=∃ pl,d={ c with pl:=pl }
theorem SJ {w w':World} (hb:Below w.heap.size w w') {v:CV} (h:v.ok (fun b=>b < w.heap.size) w):v.ok (fun b=>b < w'.heap.size) w':=h.keep hb.size fun b hl _=>⟨Aft hl hb.size,hb.block b hl⟩
theorem Aaw {va vb:CV} {w:World} (hl:Yc va.c vb.c) (hf:CFine va.c) (ha:va.ok (fun b=>b < w.heap.size) w) (hb:vb.ok (fun b=>b < w.heap.size) w):Calls prog 10 #[.agg va.cells,.agg vb.cells] w fun e w'=>e=.returned (.bool true)∧Below w.heap.size w w':=by
 obtain ⟨c,ta,tb,ts,pa,pc⟩:=va;obtain ⟨d,ua,ub,us,qa,qc⟩:=vb;obtain ⟨pl,e⟩:=hl;simp only at e;subst e;exact Ya c pl ta tb ts ua ub us pa qa pc qc w hf.2.1 hf.2.2.1 ha.a ha.b hb.a hb.b ha.s hb.s hf.1 ha.prow hb.prow
theorem Yd (va vb:List CV) (ca cb:Option Addr) (oa ob:Nat) (w:World) (hlen:va.length=vb.length) (hn:va.length≤1000) (hc:∀ i (h:i < va.length) (h2:i < vb.length),Yc va[i].c vb[i].c) (hf:∀ v∈va,CFine v.c) (ka:∀ v∈va,v.ok (fun b=>b < w.heap.size) w) (kb:∀ v∈vb,v.ok (fun b=>b < w.heap.size) w) (ra:KJ w ca va) (rb:KJ w cb vb) :
  Calls prog 9 #[.slice ca va.length oa,.slice cb vb.length ob,.func (.func 10) #[] #[]] w fun e w'=>e=.returned (.bool true)∧Below w.heap.size w w':=by
 rw [←hlen];obtain ⟨n,hv⟩:∃ n,va.length=n:=⟨_,rfl⟩;have hS:=fun (i:Nat) (h:i < va.length) (h2:i < vb.length) W (hB:Below w.heap.size w W)=>Aaw (hc i h h2) (hf _ (List.getElem_mem h)) (SJ hB (ka _ (List.getElem_mem h))) (SJ hB (kb _ (List.getElem_mem h2)))
 have hone:=fun (i:Nat) (h:i < va.length) (h2:i < vb.length)=>And.intro (CV.one (ka _ (List.getElem_mem h))) (CV.one (kb _ (List.getElem_mem h2)))
 have HS:=Afj hS;have HO:=Afj hone;have RA:=Afj ra;have RB:=Afj rb;have HL:=Afj hlen;have HV:=Afj hv;rw [hv] at hn ⊢;clear hS hone hc hf ka kb ra rb hlen hv;go_enter func9,ntmps9;go_upto_region 4 with fail;go_loopw [17] (fun i wr=>∃ j:Nat,j≤n∧i=.int .i64 j∧Below w.heap.size w wr) (fun i _=>n - (intOf i).toNat)
 case atStart=>exact ⟨0,by omega,rfl,Afv _ _⟩
 case round=>
  obtain ⟨j,hj,rfl,hb⟩:=hrel;have HB:=Afj hb;clear hb;by_cases hlt:j < n
  ·have hji:(j:Int) < (n:Int):=by omega
   have hy0:(0:Int)≤(j:Int):=by omega
   have Wj:IntKind.i64.wrap ((j:Int)+1)=(j:Int)+1:=Afx _ (by omega);have j1:j < va.length:=by rw [HV.out];exact hlt
   have j2:j < vb.length:=by rw [←HL.out];exact j1
   obtain ⟨g1,rfl,_,hc1⟩:=(RA.out.below HB.out) (by omega);obtain ⟨g2,rfl,hg2,hc2⟩:=(RB.out.below HB.out) (by omega);have r1:=hc1 j j1;have r2:=hc2 j j2;have hS:=HS.out j j1 j2;obtain ⟨o1,o2⟩:=HO.out j j1 j2;clear hc1 hc2;generalize va[j]=x at r1 hS o1;generalize vb[j]=y at r2 hS o2;go_upto_region 5 with fail;refine wp_region_list ?_
   iterate 2 (refine wpList_plain rfl (fun K hK=>?_);go_simp;refine hK _ _ ?_;clear hK K;(try simp only [Aa,Act.put]))
   refine wpList_load_mid rfl 54 _ rfl g1 (j * 20) (by simp [Act.eval]) x.cells.toList _ r1 underlying54 rfl (by kernel_rfl) ?_;rw [Array.toArray_toList]
   (try simp only [Aa,Act.put])
   refine wpList_plain rfl (fun K hK=>?_);go_simp;generalize hA:(wr).alloc _=wy;refine hK _ _ ?_;clear hK K;(try simp only [Aa,Act.put]);refine wpList_plain rfl (fun K hK=>?_);go_simp;refine hK _ _ ?_;clear hK K;(try simp only [Aa,Act.put]);refine wpList_store_row rfl 54 _ _ rfl (World.heap wr).size (x.cells) rfl rfl 54 DP (Af hA) (by kernel_rfl) rfl (o1) ?_;(try simp only [Aa,Act.put]);have hbx:=XN (cs:=x.cells) hA;generalize wy.setRow (World.heap wr).size _=w1 at hbx ⊢;clear hA;refine wpList_nil ?_;obtain ⟨b1,q1⟩:=hbx;have B1:=Afj (HB.out.trans (b1.mono HB.out.size));have s2:w1.rangeAt g2 (j * 20) y.cells.toList:=fun i v hv=>(b1.cell (p:=⟨g2,j * 20+i,none⟩) hg2).trans (r2 i v hv)
   obtain ⟨c1,hc1⟩:∃ c1,wr.heap.size=c1:=⟨_,rfl⟩;rw [hc1] at q1 ⊢;have Q1:=Afj q1;clear b1 q1 hc1 r1 r2;go_upto_region 6 with fail;refine wp_region_list ?_
   iterate 3 (refine wpList_plain rfl (fun K hK=>?_);go_simp;refine hK _ _ ?_;clear hK K;(try simp only [Aa,Act.put]))
   refine wpList_load_mid rfl 54 _ rfl g2 (j * 20) (by simp [Act.eval]) y.cells.toList _ s2 underlying54 rfl (by kernel_rfl) ?_;rw [Array.toArray_toList]
   (try simp only [Aa,Act.put])
   refine wpList_plain rfl (fun K hK=>?_);go_simp;generalize hA:(w1).alloc _=wy;refine hK _ _ ?_;clear hK K;(try simp only [Aa,Act.put]);refine wpList_store_row rfl 54 _ _ rfl (World.heap w1).size (y.cells) rfl rfl 54 DP (Af hA) (by kernel_rfl) rfl (o2) ?_;(try simp only [Aa,Act.put]);have hbx:=XN (cs:=y.cells) hA;generalize wy.setRow (World.heap w1).size _=w2 at hbx ⊢;clear hA;refine wpList_nil ?_;obtain ⟨b2,q2⟩:=hbx;have B2:=Afj (B1.out.trans (b2.mono B1.out.size));have Q1':=Afj (Q1.out.below b2 Q1.out.lt);obtain ⟨c2,hc2⟩:∃ c2,w1.heap.size=c2:=⟨_,rfl⟩;rw [hc2] at q2 ⊢;have Q2:=Afj q2;have hS2:=hS w2 B2.out;clear b2 q2 hc2 s2 hS;go_upto_region 7 with fail;refine wp_region_list ?_;refine wpList_plain rfl (fun K hK=>?_);go_simp;refine hK _ _ ?_;clear hK K;(try simp only [Aa,Act.put]);refine wpList_load_row rfl 54 _ rfl c1 rfl 54 x.cells _ _ Q1'.out underlying54 rfl (by kernel_rfl) ?_
   (try simp only [Aa,Act.put])
   refine wpList_load_row rfl 54 _ rfl c2 rfl 54 y.cells _ _ Q2.out underlying54 rfl (by kernel_rfl) ?_
   (try simp only [Aa,Act.put])
   refine wpList_plain rfl (fun K hK=>?_);go_simp
   go_at_call 10
   refine hS2.mono ?_;clear hS2;rintro e w3 ⟨rfl,b3⟩;refine hK _ _ ?_;clear hK K
   (try simp only [Aa,Act.put])
   refine wpList_plain rfl (fun K hK=>?_);go_simp;refine hK _ _ ?_;clear hK K;(try simp only [Aa,Act.put]);refine wpList_nil ?_;have B3:=Afj (B2.out.trans (b3.mono B2.out.size));clear b3;go_wp2_with fail
   go_roundw
   case rel=>exact ⟨j+1,by omega,by go_num,B3.out⟩
   case measure=>simp [intOf];omega
  ·obtain rfl:j=n:=by omega
   go_wp2_with fail
   go_ret;exact ⟨rfl,HB.out⟩
structure PaH (w:World) (g:Nat) (q:Cmd × List Wm × Nat) (v:CV) (ma:Option Addr) (mc:Nat) (wx:World):Prop where
 b:Below w.heap.size w wx
 x:Blk wx g v.cells 54
 gb:w.heap.size≤g
 c:v.c=q.1
 ok:v.ok (fun b=>w.heap.size≤b∧b≠g) wx
 r:wx.ownsRow w.heap.size 33 2 (.slice ma q.2.1.length mc) q.2.1.length (wmC q.2.1)
 rg:(Value.slice ma q.2.1.length mc).ownBlock≠some g
structure BoxH (w:World) (g:Nat) (w0 w1:World) (cells:Array Value) (wf:World):Prop where
 b0:Below w.heap.size w w0
 b:Below w.heap.size w wf
 gb:w.heap.size≤g
 gg:w1.heap.size≤g∨g < w0.heap.size
 x:Blk wf g cells 54
 z:w1.heap.size≤wf.heap.size
 s:∀ b,b < w1.heap.size→b≠g→wf.heap[b]?=w1.heap[b]?
theorem Mb {w w':World} {R:BO Cmd} {e:Ending} (h:UK w R e w'):∃ cells sl P E,e=.returned (.tuple #[.agg cells,sl,.int .i64 P,.int .i64 E])∧cells.all (·.oneCell')=true∧cells.size=20:=by
 obtain ⟨_,h⟩:=h;cases R with
 | error q=>exact ⟨_,_,_,_,h,by kernel_rfl,rfl⟩
 | ok q=>
  obtain ⟨ta,tb,ts,pa,pc,ma,mc,h,ha,hb,hs,_⟩:=h;exact ⟨_,_,_,_,h,Nv _ _ _ _ _ (AR ha.shape) (AR hb.shape) (AR hs.shape) rfl,rfl⟩
theorem BoxH.pa {w w0 w1 wf:World} {g:Nat} {q:Cmd × List Wm × Nat} {v:CV} {ma:Option Addr} {mc:Nat} (h:BoxH w g w0 w1 v.cells wf) (hc:v.c=q.1) (hk:v.ok (fun b=>w0.heap.size≤b) w1) (hr:w1.ownsRow w0.heap.size 33 2 (.slice ma q.2.1.length mc) q.2.1.length (wmC q.2.1)):PaH w g q v ma mc wf:=by
 have hne:∀ b,w0.heap.size≤b→b < w1.heap.size→b≠g:=fun b h1 h2 e=>by rcases h.gg with h | h <;> omega
 refine ⟨h.b,h.x,h.gb,hc,hk.keep h.z (fun b hb hl=>⟨⟨Afr h.b0.size hb,hne b hb hl⟩,h.s b hl (hne b hb hl)⟩),BW h.b0.size (Ab hr fun b e=>?_),fun e=>?_⟩
 ·have h1:=AS hr b e;have h2:=AF hr b e;exact h.s b h2 (hne b h1 h2)
 ·exact hne g (AS hr g e) (AF hr g e) rfl
theorem CV.ok_of {w w':World} {c:Cmd} {ta tb ts:Value} {pa:Option Addr} {pc:Nat} (ha:TrO (fun b=>w.heap.size≤b) w' c.g.a.tree ta) (hb:TrO (fun b=>w.heap.size≤b) w' c.g.b.tree tb) (hs:TrO (fun b=>w.heap.size≤b) w' c.sub.tree ts) (hp:w'.ownsRow w.heap.size 73 2 (.slice pa c.sub.parts.length pc) c.sub.parts.length (cpC c.sub.parts)):CV.ok (fun b=>w.heap.size≤b) w' ⟨c,ta,tb,ts,pa,pc⟩:=⟨ha,hb,hs,fun h0=>by
 obtain ⟨q,e,h1,h2,h3⟩:=Aam hp h0;exact ⟨Aan hp h0,q,e,h1,h2,h3⟩⟩
theorem Pg (cs:List Cmd) (c:Cmd):scLabels (cs++[c])=if c.name=58 then scLabels cs++[c.arg] else scLabels cs:=by
 unfold scLabels;rw [List.filter_append];by_cases h:c.name=58
 ·rw [if_pos h];simp [h]
 ·rw [if_neg h];simp [h]
theorem Ye {w:World} {g:Nat} {cs:Array Value} {T:TypeId} (h:Blk w g cs T):∀ j u,cs.toList[j]?=some u→w.cell? ((⟨g,0,none⟩:Addr).add j)=some u:=fun j u hj=>by
 have:=h.cell j;rw [←Array.getElem?_toList,hj] at this;by_cases h0:j=0
 ·subst h0;simpa [Addr.add] using this
 ·simpa [Addr.add,h0] using this
theorem Yf:∃ i,Tryz.prog.info? 54=some i∧i.zero=some (.agg DP)∧i.size=20∧i.bytes=240:=by
 have h:(Tryz.prog.info? 54).map (fun i=>(i.zero,i.size,i.bytes))=some (some (.agg DP),20,240):=by kernel_rfl
 obtain ⟨i,hi,he⟩:=Option.map_eq_some_iff.1 h;injection he with h1 h2;injection h2 with h2 h3;exact ⟨i,hi,h1,h2,h3⟩
theorem UO {cs:Array Value} (h:cs.all (·.oneCell')=true):∀ u∈cs.toList,u.oneCell'=true:=fun u hu=>by
 rw [Array.all_eq_true_iff_forall_mem] at h;exact h u (by simpa using hu)
theorem Ph (v:CV) (w:World):(Instr.buildSlice 23 1 #[(0,.agg v.cells)]).run prog w=.ok (.slice (some ⟨w.heap.size,0,none⟩) 1 1) (w.alloc (.cells v.cells 54)):=by
 unfold CV.cells EL
 kernel_rfl
theorem UP {ops:Array Oper} {o:Oper} {a:Act} {w:World} {K:Act→World→Prop} {Q:Exit→Act→World→Prop} {E:Prop} (v:CV) (hgd:o.guard=none) (x:Operand) (ho:o.op=.buildSlice 23 1 #[(0,x)]) (hx:a.eval x=.agg v.cells) (h:K (a.put o.dst (.slice (some ⟨w.heap.size,0,none⟩) 1 1)) (w.alloc (.cells v.cells 54))):if Region.wanted o (yielded ops a.tmps)=true then Oper.wp prog o a w K Q else E:=by
 rw [if_pos (by simp [Region.wanted,hgd])];have hr:=Ph v w;unfold Oper.wp execOp;simp only [ho,List.map_toArray,List.map_cons,List.map_nil,hx];simp [hr,Result.andThen];exact h
theorem SK {a b c d a' b' c' d':Value} (h:Ending.returned (.tuple #[a,b,c,d])=.returned (.tuple #[a',b',c',d'])):a=a'∧b=b'∧c=c'∧d=d':=by
 iterate 2 (injection h with h)
 simpa using h
structure ScI (r:RV) (n:Nat):Prop where
 ls:r.ls=scLabels r.st.cs
 cs:r.st.cs.length≤100
 ms:r.st.ms.length≤900 * r.st.cs.length
 op:r.st.op.length≤12
 k:r.st.k≤n
 fi:∀ c∈r.st.cs,CFine c
theorem ScI.next {r r':RV} {n:Nat} (h:ScI r n) {c:Cmd} {ms:List Wm} {k:Nat} (hf:(Bb r.st c).1=0) (h1:¬ r.st.cs.length=100) (hm:ms.length≤900) (hk:k≤n) (hF:CFine c) (e1:r'.st=⟨k,r.st.cs++[c],r.st.ms++ms,(Bb r.st c).2⟩) (e2:r'.ls=if c.name=58 then r.ls++[c.arg] else r.ls):ScI r' n:=by
 have h2:=h.cs;have h3:=h.ms;have h4:=h.op;refine ⟨by rw [e1,e2,Pg,h.ls],by rw [e1];simp;omega,by rw [e1];simp;omega,?_,by rw [e1];exact hk,?_⟩
 ·rw [e1];simp only;unfold Bb at hf ⊢;split
  ·rename_i ha;rw [if_pos ha] at hf;split
   ·exact h4
   ·rename_i hb;simp;omega
  ·split
   ·split
    ·exact h4
    ·simp;omega
   ·split
    ·split <;> exact h4
    ·exact h4
 ·rw [e1];intro d hd;rcases Af1.1 hd with hd | hd
  ·exact h.fi d hd
  ·rw [List.mem_singleton.1 hd];exact hF
def Yg (W:World) (p mp:Nat) (q:Bool) (s:ByteArray) (ext:Bool) (R:Except (Nat × Nat) SS) (e:Ending) (w':World):Prop:=
 Below W.heap.size W w'∧match R with
 | .error x=>e=.returned (.tuple #[.int .i64 (x.2:Int),.int .i64 (x.1:Int)])
 | .ok st=>e=.returned (.tuple #[.int .i64 0,.int .i64 0])∧∃ r',r'.st=st∧ScI r' s.size∧ScS W p mp q s ext r' w'
theorem UQ (W:World) (p mp:Nat) (q:Bool) (s:ByteArray) (ext:Bool) (r:RV) (w:World) (h:ScS W p mp q s ext r w) (hs:s.size≤4000) (hI:ScI r s.size) (hG:Gl W) (hP:GP W) :
  Calls prog 15 #[.pointer (some ⟨p,0,none⟩)] w (Yg W p mp q s ext (CX ext s.data.toList r.st)):=by
 have hvl:r.vs.length=r.st.cs.length:=by rw [←h.h.cs,List.length_map]
 have k1:w.cell? ⟨p,1,none⟩=some (.slice r.ca r.vs.length r.cc):=(h.b.cell 1).trans rfl;have HH:=Afj h;have HI:=Afj hI;have hC:=fun w1 (b1:Below w.heap.size w w1)=>Ry ext s r.st.k w1 hs hI.k ((hG.up h.h.b0).up b1) ((hP.up h.h.b0).up b1)
 have k2:=h.t;have k3:w.cell? ⟨p,3,none⟩=some (.bool ext):=(h.b.cell 3).trans rfl;have k4:=h.k;unfold CX;by_cases h100:r.st.cs.length=100
 ·rw [if_pos h100];have q1:((r.vs.length:Int) == 100)=true:=by rw [hvl,h100];rfl
  clear hC h100 hvl hG hP hI;go_enter func15,ntmps15;go_upto_region 2 with fail;go_wp2_with fail
  go_ret2
  exact ⟨h.h.b0,rfl⟩
 rw [if_neg h100];have q1:((r.vs.length:Int) == 100)=false:=by rw [hvl];simp;omega
 clear h hG hP hI;have hms:=fun x h=>Abi (ext:=ext) (q:=x) s HI.out.k h
 obtain ⟨R,hR⟩:∃ R,Ji ext s.data.toList r.st.k=R:=⟨_,rfl⟩;rw [hR] at hC hms ⊢;have HR:=Afj hR;clear hR;have hmix:Tryz.prog.follows .mixedOrders=true:=by kernel_rfl
 have hplt:=HH.out.b.lt;have hS0:∀ W':World,Below w.heap.size w W'→(fun W':World=>W'.cell? ⟨p,2,none⟩=some (.string s)∧W'.cell? ⟨p,3,none⟩=some (.bool ext)∧W'.cell? ⟨p,4,none⟩=some (.int .i64 (r.st.k:Int))) W':=fun W' hW=>⟨(hW.cell (p:=⟨p,2,none⟩) hplt).trans k2,(hW.cell (p:=⟨p,3,none⟩) hplt).trans k3,(hW.cell (p:=⟨p,4,none⟩) hplt).trans k4⟩
 clear k2 k3 k4 hplt;go_enter func15,ntmps15;go_upto_region 3 with fail;go_cut [4,5,6,7] (fun s4 s5 s6 s7 wx=>∃ g cells sl P E w0 w1,s4=.pointer (some ⟨g,0,none⟩)∧s5=sl∧s6=.int .i64 P∧s7=.int .i64 E∧UK w0 R (.returned (.tuple #[.agg cells,sl,.int .i64 P,.int .i64 E])) w1∧BoxH w g w0 w1 cells wx)
 case first=>
  refine wp_region_held_drew (S:=fun W':World=>W'.cell? ⟨p,2,none⟩=some (.string s)∧W'.cell? ⟨p,3,none⟩=some (.bool ext)∧W'.cell? ⟨p,4,none⟩=some (.int .i64 (r.st.k:Int))) hmix (hS0 _ (Agb (Afv _ _))) (fun hHeld=>?_);refine AJ 0 ?_ rfl (by assumption) (Or.inl ⟨by rfl,?_⟩) ?_;rotate_left;(focus (intro W' hSw;obtain ⟨c2,c3,c4⟩:=hSw;(try go_simp);try with_reducible rfl));(try simp only [Aa,Act.put]);refine AJ 1 ?_ rfl (by assumption) (Or.inl ⟨by rfl,?_⟩) ?_;rotate_left;(focus (intro W' hSw;obtain ⟨c2,c3,c4⟩:=hSw;(try go_simp);try with_reducible rfl));(try simp only [Aa,Act.put]);refine AJ 2 ?_ rfl (by assumption) (Or.inl ⟨by rfl,?_⟩) ?_;rotate_left;(focus (intro W' hSw;obtain ⟨c2,c3,c4⟩:=hSw;(try go_simp);try with_reducible rfl));(try simp only [Aa,Act.put]);refine AJ 3 ?_ rfl (by assumption) (Or.inl ⟨by rfl,?_⟩) ?_;rotate_left;(focus (intro W' hSw;obtain ⟨c2,c3,c4⟩:=hSw;(try go_simp);try with_reducible rfl));(try simp only [Aa,Act.put]);refine AJ 4 ?_ rfl (by assumption) (Or.inl ⟨by rfl,?_⟩) ?_;rotate_left;(focus (intro W' hSw;obtain ⟨c2,c3,c4⟩:=hSw;(try go_simp);try with_reducible rfl));(try simp only [Aa,Act.put]);refine AJ 5 ?_ rfl (by assumption) (Or.inl ⟨by rfl,?_⟩) ?_;rotate_left;(focus (intro W' hSw;obtain ⟨c2,c3,c4⟩:=hSw;(try go_simp);try with_reducible rfl));(try simp only [Aa,Act.put]);refine AJ 6 ?_ rfl (by assumption) (Or.inl ⟨by rfl,?_⟩) ?_;rotate_left;(focus (intro W' hSw;obtain ⟨c2,c3,c4⟩:=hSw;(try go_simp);try with_reducible rfl));(try simp only [Aa,Act.put]);refine AJ 7 ?_ rfl (by assumption) (Or.inl ⟨by rfl,?_⟩) ?_;rotate_left;(focus (intro W' hSw;obtain ⟨c2,c3,c4⟩:=hSw;(try go_simp);try with_reducible rfl));(try simp only [Aa,Act.put]);refine AJ 8 ?_ rfl (by assumption) (Or.inl ⟨by rfl,?_⟩) ?_;rotate_left;(focus (intro W' hSw;obtain ⟨c2,c3,c4⟩:=hSw;(try go_simp);try with_reducible rfl));(try simp only [Aa,Act.put]);refine AJ 9 ?_ rfl (by assumption) (Or.inl ⟨by rfl,?_⟩) ?_;rotate_left;(focus (intro W' hSw;obtain ⟨c2,c3,c4⟩:=hSw;(try go_simp);try with_reducible rfl));(try simp only [Aa,Act.put]);refine AJ 10 ?_ rfl (by assumption) (Or.inl ⟨by rfl,?_⟩) ?_;rotate_left;(focus (intro W' hSw;obtain ⟨c2,c3,c4⟩:=hSw;(try go_simp);try with_reducible rfl));(try simp only [Aa,Act.put]);refine AJ 11 ?_ rfl (by assumption) (Or.inl ⟨by rfl,?_⟩) ?_;rotate_left;(focus (intro W' hSw;obtain ⟨c2,c3,c4⟩:=hSw;(try go_simp);try with_reducible rfl));(try simp only [Aa,Act.put]);generalize hv0:w.drew=v0 at hHeld ⊢;have hb0:Below w.heap.size w v0:=by rw [←hv0];exact (Afv _ _).drew
  clear hv0;refine wpAnyH_ready (rs:=[12,18]) (by kernel_rfl) (by simp) ?_;refine AllReadyH.cons rfl (fun K hK=>?_) ?_
  ·skip
   go_simp;go_wp2_with (go_at_call 22;refine (hC v0 hb0).mono ?_;rintro e v1 hA;obtain ⟨cells,sl,P,E,rfl,hone,hsz⟩:=Mb hA)
   have b1:=hA.1;have B1:Below w.heap.size w v1:=hb0.trans (b1.mono hb0.size);refine hK.out _ _ (hS0 _ B1) (fun hHeld=>?_);clear hK K
   (try simp only [Aa,Act.put])
   refine AJ 13 ?_ rfl (by assumption) (Or.inl ⟨by rfl,?_⟩) ?_;rotate_left;(focus (intro W' hSw;(try go_simp);try with_reducible rfl));(try simp only [Aa,Act.put]);refine AJ 14 ?_ rfl (by assumption) (Or.inl ⟨by rfl,?_⟩) ?_;rotate_left;(focus (intro W' hSw;(try go_simp);try with_reducible rfl));(try simp only [Aa,Act.put]);refine AJ 15 ?_ rfl (by assumption) (Or.inl ⟨by rfl,?_⟩) ?_;rotate_left;(focus (intro W' hSw;(try go_simp);try with_reducible rfl));(try simp only [Aa,Act.put]);refine AJ 16 ?_ rfl (by assumption) (Or.inl ⟨by rfl,?_⟩) ?_;rotate_left;(focus (intro W' hSw;(try go_simp);try with_reducible rfl));(try simp only [Aa,Act.put]);refine AJ 17 ?_ rfl (by assumption) (Or.inl ⟨by rfl,?_⟩) ?_;rotate_left;(focus (intro W' hSw;(try go_simp);try with_reducible rfl));(try simp only [Aa,Act.put]);refine wpAnyH_ready (rs:=[18]) (by kernel_rfl) (by simp) ?_;refine AllReadyH.cons rfl (fun K hK=>?_) AllReadyH.nil;go_simp;generalize hB:v1.alloc _=v2;have ba:=Ad hB;have qa:=Af hB;have B2:Below w.heap.size w v2:=B1.trans (ba.mono B1.size);refine hK.out _ _ (hS0 _ B2) (fun hHeld=>?_);clear hK K hB
   (try simp only [Aa,Act.put])
   obtain ⟨g,hg⟩:∃ g,v1.heap.size=g:=⟨_,rfl⟩;rw [hg] at qa ⊢;have hgb:w.heap.size≤g:=by have:=B1.size;omega
   have hgp:p≠g:=by have:=B1.size;have:=HH.out.b.lt;omega
   refine wpAnyH_ready (rs:=[19]) (by kernel_rfl) (by simp) ?_;refine AllReadyH.cons rfl (fun K hK=>?_) AllReadyH.nil;rw [if_pos (by rfl)];refine wp_store_row 54 _ _ rfl g cells rfl rfl 54 DP qa (by rw [hsz];kernel_rfl) (by rw [hsz];rfl) hone ?_;have B3:Below w.heap.size w (v2.setRow g cells):=below_setRow B2 hgb _;refine hK.out _ _ (hS0 _ B3) (fun hHeld=>?_);clear hK K
   (try simp only [Aa,Act.put])
   refine AJ 20 ?_ rfl (by assumption) (Or.inl ⟨by rfl,?_⟩) ?_;rotate_left;(focus (intro W' hSw;(try go_simp);try with_reducible rfl));(try simp only [Aa,Act.put]);refine AJ 21 ?_ rfl (by assumption) (Or.inl ⟨by rfl,?_⟩) ?_;rotate_left;(focus (intro W' hSw;(try go_simp);try with_reducible rfl));(try simp only [Aa,Act.put]);refine AJ 22 ?_ rfl (by assumption) (Or.inl ⟨by rfl,?_⟩) ?_;rotate_left;(focus (intro W' hSw;(try go_simp);try with_reducible rfl));(try simp only [Aa,Act.put]);refine wpAnyH_done (by kernel_rfl) ?_ _
   (try go_wp2_with fail)
   go_meet;exact ⟨g,cells,sl,P,E,v0,v1,rfl,rfl,rfl,rfl,hA,hb0,B3,hgb,.inl (Nat.le_of_eq hg),setRow_heap v2 g _ _ _ _ qa,by simp;exact ba.size,fun b hl hb=>(setRow_other v2 g b _ hb).trans (ba.block b hl)⟩
  refine AllReadyH.cons rfl (fun K hK=>?_) AllReadyH.nil
  ·skip
   go_simp;generalize hB:v0.alloc _=v1;have ba:=Ad hB;have qa:=Af hB;have B1:Below w.heap.size w v1:=hb0.trans (ba.mono hb0.size);refine hK.out _ _ (hS0 _ B1) (fun hHeld=>?_);clear hK K hB
   (try simp only [Aa,Act.put])
   obtain ⟨g,hg⟩:∃ g,v0.heap.size=g:=⟨_,rfl⟩;rw [hg] at qa ⊢;have hgb:w.heap.size≤g:=by have:=hb0.size;omega
   refine wpAnyH_ready (rs:=[12]) (by kernel_rfl) (by simp) ?_;refine AllReadyH.cons rfl (fun K hK=>?_) AllReadyH.nil;go_simp;go_wp2_with (go_at_call 22;refine (hC v1 B1).mono ?_;rintro e v2 hA;obtain ⟨cells,sl,P,E,rfl,hone,hsz⟩:=Mb hA)
   have b2:=hA.1;have B2:Below w.heap.size w v2:=B1.trans (b2.mono B1.size);have qb:=qa.below b2 qa.lt;refine hK.out _ _ (hS0 _ B2) (fun hHeld=>?_);clear hK K
   (try simp only [Aa,Act.put])
   refine AJ 13 ?_ rfl (by assumption) (Or.inl ⟨by rfl,?_⟩) ?_;rotate_left;(focus (intro W' hSw;(try go_simp);try with_reducible rfl));(try simp only [Aa,Act.put]);refine AJ 14 ?_ rfl (by assumption) (Or.inl ⟨by rfl,?_⟩) ?_;rotate_left;(focus (intro W' hSw;(try go_simp);try with_reducible rfl));(try simp only [Aa,Act.put]);refine AJ 15 ?_ rfl (by assumption) (Or.inl ⟨by rfl,?_⟩) ?_;rotate_left;(focus (intro W' hSw;(try go_simp);try with_reducible rfl));(try simp only [Aa,Act.put]);refine AJ 16 ?_ rfl (by assumption) (Or.inl ⟨by rfl,?_⟩) ?_;rotate_left;(focus (intro W' hSw;(try go_simp);try with_reducible rfl));(try simp only [Aa,Act.put]);refine AJ 17 ?_ rfl (by assumption) (Or.inl ⟨by rfl,?_⟩) ?_;rotate_left;(focus (intro W' hSw;(try go_simp);try with_reducible rfl));(try simp only [Aa,Act.put]);refine wpAnyH_ready (rs:=[19]) (by kernel_rfl) (by simp) ?_;refine AllReadyH.cons rfl (fun K hK=>?_) AllReadyH.nil;rw [if_pos (by rfl)];refine wp_store_row 54 _ _ rfl g cells rfl rfl 54 DP qb (by rw [hsz];kernel_rfl) (by rw [hsz];rfl) hone ?_;have B3:Below w.heap.size w (v2.setRow g cells):=below_setRow B2 hgb _;refine hK.out _ _ (hS0 _ B3) (fun hHeld=>?_);clear hK K
   (try simp only [Aa,Act.put])
   refine AJ 20 ?_ rfl (by assumption) (Or.inl ⟨by rfl,?_⟩) ?_;rotate_left;(focus (intro W' hSw;(try go_simp);try with_reducible rfl));(try simp only [Aa,Act.put]);refine AJ 21 ?_ rfl (by assumption) (Or.inl ⟨by rfl,?_⟩) ?_;rotate_left;(focus (intro W' hSw;(try go_simp);try with_reducible rfl));(try simp only [Aa,Act.put]);refine AJ 22 ?_ rfl (by assumption) (Or.inl ⟨by rfl,?_⟩) ?_;rotate_left;(focus (intro W' hSw;(try go_simp);try with_reducible rfl));(try simp only [Aa,Act.put]);refine wpAnyH_done (by kernel_rfl) ?_ _
   (try go_wp2_with fail)
   go_meet;exact ⟨g,cells,sl,P,E,v1,v2,rfl,rfl,rfl,rfl,hA,B1,B3,hgb,.inr qa.lt,setRow_heap v2 g _ _ _ _ qb,by simp,fun b hl hb=>setRow_other v2 g b _ hb⟩
 case rest=>
  obtain ⟨g,cells,sl,P,E,w0,w1,rfl,rfl,rfl,rfl,hA,hX⟩:=hcut;clear hC hS0 q1;cases R with
  | error x=>
   obtain ⟨b1,he⟩:=hA;obtain ⟨_,_,e3,e4⟩:=SK he;injection e3 with _ e3;injection e4 with _ e4;subst e3 e4;have ce:((x.1:Int) != 0)=true:=by simpa using XZ HR.out
   have HB:=Afj (HH.out.h.b0.trans (hX.b.mono HH.out.h.b0.size));clear hX b1 he hms;go_upto_region 5 with fail;go_wp2_with fail
   go_ret2
   exact ⟨HB.out,rfl⟩
  | ok x=>
   obtain ⟨b1,ta,tb,ts,pa,pc,ma,mc,he,hta,htb,hts,hpr,hmr⟩:=hA;obtain ⟨e1,e2,e3,e4⟩:=SK he;injection e1 with e1;injection e3 with _ e3;injection e4 with _ e4;subst e1 e2 e3 e4;obtain ⟨v,hv⟩:∃ v:CV,v=⟨x.1,ta,tb,ts,pa,pc⟩:=⟨_,rfl⟩;have hvc:v.c=x.1:=by rw [hv]
   rw [show EL x.1 ta tb ts (.slice pa x.1.sub.parts.length pc)=v.cells by rw [hv];rfl] at hX;have hP:=hX.pa hvc (by rw [hv];exact CV.ok_of hta htb hts hpr) hmr;obtain ⟨hm1,hm2,hm3⟩:=hms x rfl;have hone:=CV.one hP.ok;have HF:=Afj (show CFine x.1 from ⟨Aav (k:=r.st.k) (ms:=x.2.1) (p:=x.2.2) HR.out,hm3.1,hm3.2,hm2⟩);have hfit:=UM W p mp q s ext r wc v.c v.ta v.tb v.ts (.slice v.pa v.c.sub.parts.length v.pc) (HH.out.step hP.b) HI.out.op HI.out.ls HI.out.cs (fun h=>by rw [hvc];exact hm2 (.inl (by rw [←hvc];exact h)));have HP:=Afj hP;have HM:=Afj hm1;have HV:=Afj hvc;clear hta htb hts hpr hmr b1 he hX hP hv hm1 hm2 hm3 hms hvc;go_upto_region 6 with fail;refine wp_region_list ?_;refine wpList_plain rfl (fun K hK=>?_);go_simp;refine hK _ _ ?_;clear hK K;(try simp only [Aa,Act.put]);refine wpList_load_row rfl 54 _ rfl g rfl 54 v.cells _ _ HP.out.x underlying54 rfl (by kernel_rfl) ?_
   (try simp only [Aa,Act.put])
   refine wpList_plain rfl (fun K hK=>?_);go_simp
   go_at_call 23
   refine hfit.mono ?_;clear hfit;rintro e w3 ⟨rfl,hb3,⟨hz3,hbad⟩,hgood⟩;refine hK _ _ ?_;clear hK K
   (try simp only [Aa,Act.put])
   refine wpList_plain rfl (fun K hK=>?_);go_simp;refine hK _ _ ?_;clear hK K;(try simp only [Aa,Act.put]);refine wpList_nil ?_;have HB:=Afj (HH.out.h.b0.trans (HP.out.b.mono HH.out.h.b0.size));have HB3:=Afj hb3;by_cases h0:(Bb r.st v.c).1=0
   ·rw [h0];obtain ⟨oa,oc,h3,hk3⟩:=hgood h0;have hlt:∀ b,w.heap.size≤b→some b ∉ r.own p mp:=fun b hb hm=>by have:=(HH.out.h.lt hm).2;omega
    have hbw:=HH.out.h.b0.size;have hks:∀ b,w.heap.size≤b→b < wc.heap.size→w3.heap[b]?=wc.heap[b]?∧some b ∉ (r.fit v.c oa oc).own p mp:=fun b hb hl=>hk3 b (by omega) hl (hlt b hb)
    have q3:Blk w3 g v.cells 54:=Ey HP.out.x (hks g HP.out.gb HP.out.x.lt).1;have hv3:v.ok ((r.fit v.c oa oc).fr W.heap.size p mp) w3:=HP.out.ok.keep hz3 fun b hb hl=>⟨⟨by have:=hb.1;omega,(hks b hb.1 hl).2⟩,(hks b hb.1 hl).1⟩
    have hm3:=Ab HP.out.r fun b hb=>(hks b (AS HP.out.r b hb) (AF HP.out.r b hb)).1
    have hmo:∀ b,(Value.slice ma x.2.1.length mc).ownBlock=some b→some b ∉ (r.fit v.c oa oc).own p mp:=fun b hb=>(hks b (AS HP.out.r b hb) (AF HP.out.r b hb)).2
    have HE:=Afj (show EA r.st (.ok x)=.ok ⟨x.2.2,r.st.cs++[x.1],r.st.ms++x.2.1,(Bb r.st x.1).2⟩ by show Gy r.st x (Bb r.st x.1)=_;unfold Gy;rw [if_pos (by rw [←HV.out];exact h0)]);have HI2:=fun r' e1 e2=>HI.out.next (r':=r') (c:=x.1) (k:=x.2.2) (ms:=x.2.1) (by rw [←HV.out];exact h0) h100 HM.out.2 HM.out.1 HF.out e1 e2
    have hgo:some g ∉ (r.fit v.c oa oc).own p mp:=(hks g HP.out.gb HP.out.x.lt).2;have hvl2:(r.fit v.c oa oc).vs.length≤100:=by show r.vs.length≤100;rw [hvl];exact HI.out.cs
    have hml2:(r.fit v.c oa oc).st.ms.length≤90000:=by show r.st.ms.length≤_;have:=HI.out.ms;have:=HI.out.cs;omega
    have hst2:(r.fit v.c oa oc).st={ r.st with op:=(Bb r.st x.1).2 }:=by rw [←HV.out];rfl
    have hls2:(r.fit v.c oa oc).ls=if x.1.name=58 then r.ls++[x.1.arg] else r.ls:=by rw [←HV.out];rfl
    generalize r.fit v.c oa oc=r2 at *;obtain ⟨i0,hi,hz0,hz1,hz2⟩:=Yf;obtain ⟨i1,ji,jz0,jz1,jz2⟩:=C3;have hbs:=Ph v;have c1:w3.cell? ⟨p,1,none⟩=some (.slice r2.ca r2.vs.length r2.cc):=(h3.b.cell 1).trans rfl;have c5:w3.cell? ⟨p,5,none⟩=some (.slice r2.ma r2.st.ms.length r2.mc):=(h3.b.cell 5).trans rfl;have hplt:=h3.b.lt;have hgl:=q3.lt;have hlo:W.heap.size≤w3.heap.size:=h3.h.b0.size;have hmn:=HM.out.2;have hm1:r2.vs.length+1≤maxLen:=by unfold maxLen;omega
    have hm2:(r2.vs.length+1) * 240≤140737488355328:=by omega
    have hm4:r2.st.ms.length+x.2.1.length≤maxLen:=by unfold maxLen;omega
    have hm5:(r2.st.ms.length+x.2.1.length) * 24≤140737488355328:=by omega
    have H3:=Afj h3;have HV3:=Afj hv3;have HM3:=Afj hm3;have HMO:=Afj hmo;have HGO:=Afj hgo;have HONE:=Afj hone;have HST:=Afj hst2;have HLS:=Afj hls2;clear h0 hgood hbad hk3 hlt hks hbw h3 hv3 hm3 hmo hone hst2 hls2 hvl2 hml2 hmn hvl k1 hgo;go_upto_region 9 with fail;refine wp_region_held_drew (S:=fun W':World=>Blk W' g v.cells 54) hmix q3 (fun hHeld=>?_);refine AJ 0 ?_ rfl (by assumption) (Or.inl ⟨by rfl,?_⟩) ?_;rotate_left;(focus (intro W' hSw;(try go_simp);try with_reducible rfl));(try simp only [Aa,Act.put]);refine AJ 1 ?_ rfl (by assumption) (Or.inl ⟨by rfl,?_⟩) ?_;rotate_left;(focus (intro W' hSw;(try go_simp);try with_reducible rfl));(try simp only [Aa,Act.put]);refine AJ 2 ?_ rfl (by assumption) (Or.inl ⟨by rfl,?_⟩) ?_;rotate_left;(focus (intro W' hSw;(try go_simp);try with_reducible rfl));(try simp only [Aa,Act.put]);refine AJ 3 ?_ rfl (by assumption) (Or.inl ⟨by rfl,?_⟩) ?_;rotate_left;(focus (intro W' hSw;(try go_simp);try with_reducible rfl));(try simp only [Aa,Act.put]);refine AJ 4 ?_ rfl (by assumption) (Or.inl ⟨by rfl,?_⟩) ?_;rotate_left;(focus (intro W' hSw;(try go_simp);try with_reducible rfl));(try simp only [Aa,Act.put]);refine AJ 5 ?_ rfl (by assumption) (Or.inl ⟨by rfl,?_⟩) ?_;rotate_left;(focus (intro W' hSw;(try go_simp);try with_reducible rfl));(try simp only [Aa,Act.put]);refine AJ 6 ?_ rfl (by assumption) (Or.inl ⟨by rfl,?_⟩) ?_;rotate_left;(focus (intro W' hSw;(try go_simp);try with_reducible rfl));(try simp only [Aa,Act.put]);refine AJ 8 (.agg v.cells) rfl hHeld (Or.inl ⟨by rfl,fun W' hSw=>G0 54 _ rfl g rfl hSw underlying54 (by kernel_rfl)⟩) ?_
    (try simp only [Aa,Act.put])
    refine AJ 11 ?_ rfl (by assumption) (Or.inl ⟨by rfl,?_⟩) ?_;rotate_left;(focus (intro W' hSw;(try go_simp);try with_reducible rfl));(try simp only [Aa,Act.put]);refine AJ 12 ?_ rfl (by assumption) (Or.inl ⟨by rfl,?_⟩) ?_;rotate_left;(focus (intro W' hSw;(try go_simp);try with_reducible rfl));(try simp only [Aa,Act.put]);refine AJ 13 ?_ rfl (by assumption) (Or.inl ⟨by rfl,?_⟩) ?_;rotate_left;(focus (intro W' hSw;(try go_simp);try with_reducible rfl));(try simp only [Aa,Act.put]);refine AJ 15 ?_ rfl (by assumption) (Or.inl ⟨by rfl,?_⟩) ?_;rotate_left;(focus (intro W' hSw;(try go_simp);try with_reducible rfl));(try simp only [Aa,Act.put]);refine AJ 17 ?_ rfl (by assumption) (Or.inl ⟨by rfl,?_⟩) ?_;rotate_left;(focus (intro W' hSw;(try go_simp);try with_reducible rfl));(try simp only [Aa,Act.put]);have hb0:Below w3.heap.size w3 w3.drew:=(Afv _ _).drew;have c1:w3.drew.cell? ⟨p,1,none⟩=some (.slice r2.ca r2.vs.length r2.cc):=c1;have c5:w3.drew.cell? ⟨p,5,none⟩=some (.slice r2.ma r2.st.ms.length r2.mc):=c5;have hp0:p < w3.drew.heap.size:=hplt;generalize w3.drew=v0 at hHeld hb0 c1 c5 hp0 ⊢
    iterate 5 (all_goals ((first | refine wpAnyH_ready (rs:=[7,9,14]) (by decide +kernel) (by simp) (AllReadyH.cons rfl (fun K hK=>?_) (AllReadyH.cons rfl (fun K hK=>?_) (AllReadyH.cons rfl (fun K hK=>?_) AllReadyH.nil))) | refine wpAnyH_ready (rs:=[9,14]) (by decide +kernel) (by simp) (AllReadyH.cons rfl (fun K hK=>?_) (AllReadyH.cons rfl (fun K hK=>?_) AllReadyH.nil)) | refine wpAnyH_ready (rs:=[7,14]) (by decide +kernel) (by simp) (AllReadyH.cons rfl (fun K hK=>?_) (AllReadyH.cons rfl (fun K hK=>?_) AllReadyH.nil)) | refine wpAnyH_ready (rs:=[7,9]) (by decide +kernel) (by simp) (AllReadyH.cons rfl (fun K hK=>?_) (AllReadyH.cons rfl (fun K hK=>?_) AllReadyH.nil)) | refine wpAnyH_ready (rs:=[10,14]) (by decide +kernel) (by simp) (AllReadyH.cons rfl (fun K hK=>?_) (AllReadyH.cons rfl (fun K hK=>?_) AllReadyH.nil)) | refine wpAnyH_ready (rs:=[9]) (by decide +kernel) (by simp) (AllReadyH.cons rfl (fun K hK=>?_) AllReadyH.nil) | refine wpAnyH_ready (rs:=[7]) (by decide +kernel) (by simp) (AllReadyH.cons rfl (fun K hK=>?_) AllReadyH.nil) | refine wpAnyH_ready (rs:=[10]) (by decide +kernel) (by simp) (AllReadyH.cons rfl (fun K hK=>?_) AllReadyH.nil) | refine wpAnyH_ready (rs:=[14]) (by decide +kernel) (by simp) (AllReadyH.cons rfl (fun K hK=>?_) AllReadyH.nil) | refine wpAnyH_ready (rs:=[16]) (by decide +kernel) (by simp) (AllReadyH.cons rfl (fun K hK=>?_) AllReadyH.nil)) <;> first | (refine A6 rfl _ _ 23 rfl W.heap.size 54 i0 (.agg DP) 20 240 underlying23 hi hz0 hz1 hz2 rfl (by decide) (.slice r2.ca r2.vs.length r2.cc) r2.vs.length (r2.vs.flatMap fun v=>v.cells.toList) rfl (H3.out.h.step HB1.out).cr (some ⟨v0.heap.size,0,none⟩) 1 1 v.cells.toList rfl rfl (fun _=>⟨_,rfl,Ye HX.out⟩) (UO HONE.out) hm1 hm2 (Afr hlo HB1.out.size) ?_;intro v6 w6 hown6 hgrow6 hat6;obtain ⟨a6,c6,rfl⟩:=AB hown6;have HR6:=Afj ((H3.out.h.step HB1.out).cmd hgrow6 hown6 hat6 (HV3.out.keep HB1.out.size fun b hb hl=>⟨hb,HB1.out.block b hl⟩));have HQ6:=Afj (AM (H3.out.b.below HB1.out H3.out.b.lt) hgrow6 (fun e=>(ap5 H3.out.h.ap).2.1.1 e));have HM6:=Afj (BY (Ah HM3.out HB1.out) hgrow6 (fun b hb e=>HMO.out b hb (by rw [←e];simp [RV.own])));have c5:w6.cell? ⟨p,5,none⟩=some (.slice r2.ma r2.st.ms.length r2.mc):=(HQ6.out.cell 5).trans rfl;have hS6:Blk w6 g v.cells 54:=AM hHeld hgrow6 (fun e=>HGO.out (by rw [←e];simp [RV.own]));refine hK.out _ _ hS6 (fun hHeld=>?_);clear hK K hown6 hgrow6 hat6;(try simp only [Aa,Act.put])) | (refine A6 rfl _ _ 26 rfl W.heap.size 33 i1 (.agg #[.int .i64 0,.string ⟨#[]⟩]) 2 24 underlying26 ji jz0 jz1 jz2 rfl (by decide) (.slice r2.ma r2.st.ms.length r2.mc) r2.st.ms.length (wmC r2.st.ms) rfl HR6.out.mr ma x.2.1.length mc (wmC x.2.1) rfl (MS _) (QV HM6.out) (MU _) hm4 hm5 HR6.out.b0.size ?_;intro v7 w7 hown7 hgrow7 hat7;obtain ⟨a7,c7,rfl⟩:=AB hown7;have HR7:=Afj (HR6.out.mark (n:=x.2.1.length) rfl hgrow7 hown7 hat7);have hQ7:=AM HQ6.out hgrow7 (fun e=>(ap5 HR6.out.ap).2.1.2.1 e);have HQ7:=Afj hQ7;have f1:=hQ7.frozen 1;have f4:=hQ7.frozen 4;have f5:=hQ7.frozen 5;have g1:w7.cell? ⟨p,1,none⟩=some (.slice r2.ca r2.vs.length r2.cc):=(hQ7.cell 1).trans rfl;have g5:w7.cell? ⟨p,5,none⟩=some (.slice r2.ma r2.st.ms.length r2.mc):=(hQ7.cell 5).trans rfl;have g4:w7.cell? ⟨p,4,none⟩=some (.int .i64 (r2.st.k:Int)):=(hQ7.cell 4).trans rfl;have hS7:Blk w7 g v.cells 54:=AM hHeld hgrow7 (fun e=>HGO.out (by simp only [RV.own,Afz];exact .inr (.inr (.inr (.inl e.symm)))));refine hK.out _ _ hS7 (fun hHeld=>?_);clear hK K hown7 hgrow7 hat7 hQ7;(try simp only [Aa,Act.put])) | (refine UP v rfl _ rfl rfl ?_;generalize hB:World.alloc v0 _=v1;have ba:=Ad hB;have HX:=Afj (Af hB);have c1:=(ba.cell (p:=⟨p,1,none⟩) hp0).trans c1;have c5:=(ba.cell (p:=⟨p,5,none⟩) hp0).trans c5;have HB1:=Afj (hb0.trans (ba.mono hb0.size));refine hK.out _ _ (Blk.below hHeld ba hHeld.lt) (fun hHeld=>?_);clear hK K hB ba;(try simp only [Aa,Act.put])) | (go_simp;refine hK.out _ _ (by assumption) (fun hHeld=>?_);clear hK K;(try simp only [Aa,Act.put]))))
    all_goals
     have hpg:p≠g:=fun e=>HGO.out (by rw [←e];simp [RV.own])
     refine AJ 18 ?_ rfl (by assumption) (Or.inl ⟨by rfl,?_⟩) ?_;rotate_left;(focus (intro W' hSw;(try go_simp);try with_reducible rfl));(try simp only [Aa,Act.put]);refine AJ 19 ?_ rfl (by assumption) (Or.inl ⟨by rfl,?_⟩) ?_;rotate_left;(focus (intro W' hSw;(try go_simp);try with_reducible rfl));(try simp only [Aa,Act.put]);refine AJ 20 ?_ rfl (by assumption) (Or.inl ⟨by rfl,?_⟩) ?_;rotate_left;(focus (intro W' hSw;(try go_simp);try with_reducible rfl));(try simp only [Aa,Act.put]);refine wpAnyH_ready (rs:=[21]) (by kernel_rfl) (by simp) (AllReadyH.cons rfl (fun K hK=>?_) AllReadyH.nil);go_simp;refine hK.out _ _ (Blk.set_other hHeld ⟨p,1,none⟩ hpg _) (fun hHeld=>?_);clear hK K
     (try simp only [Aa,Act.put])
     refine AJ 22 ?_ rfl (by assumption) (Or.inl ⟨by rfl,?_⟩) ?_;rotate_left;(focus (intro W' hSw;(try go_simp);try with_reducible rfl));(try simp only [Aa,Act.put]);refine AJ 23 ?_ rfl (by assumption) (Or.inl ⟨by rfl,?_⟩) ?_;rotate_left;(focus (intro W' hSw;(try go_simp);try with_reducible rfl));(try simp only [Aa,Act.put]);refine wpAnyH_ready (rs:=[24]) (by kernel_rfl) (by simp) (AllReadyH.cons rfl (fun K hK=>?_) AllReadyH.nil);go_simp;refine hK.out _ _ (Blk.set_other hHeld ⟨p,5,none⟩ hpg _) (fun hHeld=>?_);clear hK K
     (try simp only [Aa,Act.put])
     refine AJ 25 ?_ rfl (by assumption) (Or.inl ⟨by rfl,?_⟩) ?_;rotate_left;(focus (intro W' hSw;(try go_simp);try with_reducible rfl));(try simp only [Aa,Act.put]);refine AJ 26 ?_ rfl (by assumption) (Or.inl ⟨by rfl,?_⟩) ?_;rotate_left;(focus (intro W' hSw;(try go_simp);try with_reducible rfl));(try simp only [Aa,Act.put]);refine wpAnyH_ready (rs:=[27]) (by kernel_rfl) (by simp) (AllReadyH.cons rfl (fun K hK=>?_) AllReadyH.nil);go_simp;refine hK.out _ _ (Blk.set_other hHeld ⟨p,4,none⟩ hpg _) (fun hHeld=>?_);clear hK K
     (try simp only [Aa,Act.put])
     refine wpAnyH_done (by kernel_rfl) ?_ _
     (try go_wp2_with fail)
     go_ret2
     rw [HE.out];have est:(⟨x.2.2,r2.st.cs++[v.c],r2.st.ms++x.2.1,r2.st.op⟩:SS)=⟨x.2.2,r.st.cs++[x.1],r.st.ms++x.2.1,(Bb r.st x.1).2⟩:=by rw [HST.out,HV.out]
     have hfin:ScS W p mp q s ext ⟨⟨x.2.2,r2.st.cs++[v.c],r2.st.ms++x.2.1,r2.st.op⟩,r2.ls,r2.vs++[v],a6,c6,a7,c7,r2.oa,r2.oc⟩ (((w7.setCell ⟨p,1,none⟩ (.slice a6 (r2.vs.length+1) c6)).setCell ⟨p,5,none⟩ (.slice a7 (r2.st.ms.length+x.2.1.length) c7)).setCell ⟨p,4,none⟩ (.int .i64 (x.2.2:Int))):=by
      refine ⟨(((HR7.out.setp 1 _).setp 5 _).setp 4 _).go x.2.2,?_⟩;have h9:=((HQ7.out.set 1 (.slice a6 (r2.vs.length+1) c6)).set 5 (.slice a7 (r2.st.ms.length+x.2.1.length) c7)).set 4 (.int .i64 (x.2.2:Int));show Blk _ p (scC q (.slice a6 (r2.vs++[v]).length c6) s ext x.2.2 (.slice a7 (r2.st.ms++x.2.1).length c7) r2.ov (.map (some mp))) _;rw [Afs,Afs];exact h9
     exact ⟨hfin.h.b0,rfl,⟨⟨x.2.2,r2.st.cs++[v.c],r2.st.ms++x.2.1,r2.st.op⟩,r2.ls,r2.vs++[v],a6,c6,a7,c7,r2.oa,r2.oc⟩,est,HI2 _ est HLS.out,hfin⟩
   ·have ce:(((Bb r.st v.c).1:Int) != 0)=true:=by simpa using h0
    have q3:=HP.out.x.below (hbad h0) HP.out.x.lt;have k0:w3.cell? ⟨g,0,none⟩=some (.int .i64 (v.c.pl:Int)):=(q3.cell 0).trans rfl;have HE:=Afj (show EA r.st (.ok x)=.error ((Bb r.st v.c).1,v.c.pl) by show Gy r.st x (Bb r.st x.1)=_;rw [HV.out];unfold Gy;rw [if_neg (by rw [←HV.out];exact h0)]);generalize (Bb r.st v.c).1=E at *;clear h0 hgood hbad;go_upto_region 8 with fail;go_wp2_with fail
    go_ret2
    rw [HE.out];exact ⟨HB3.out,rfl⟩
end
end Go.Proofs.YtnognicabhgmcaaGreatDoor
