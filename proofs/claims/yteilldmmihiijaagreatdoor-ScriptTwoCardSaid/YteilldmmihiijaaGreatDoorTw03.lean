/- Texts. -/
import Derived.Test.YteilldmmihiijaaGreatDoorTw02
import Derived.IntWalk
import Derived.Shelf.Strings.Cut
import Derived.Deep.RegionHeld3
import Derived.Deep.LoopGhost
import Derived.Deep.Upon
import Derived.Laws.OwnMore
import Derived.RangeFuncBox
import Derived.Laws.ResultCell
import Derived.Lib.OthersKept
set_option linter.unusedSimpArgs false
set_option linter.unusedVariables false
set_option maxHeartbeats 8000000
set_option maxRecDepth 1000000
namespace Go.Proofs.YteilldmmihiijaaGreatDoor
open Go.Lib renaming hid→Ad5
open Nat renaming le_refl→Aec,le_trans→Aed,lt_of_lt_of_le→Aef,le_of_lt→Aeg
open List renaming length_append→Aee,mem_cons→Ael,mem_append→Aem
open Go.RowKit.Below renaming refl→Aeh,heap_setCell→Aei
open Go.IntWalk renaming i64_in→Aej
open Go.World renaming cell?_of_block→Aek
section
set_option linter.unusedVariables false
theorem V1 {ext:Bool} {L:List UInt8} {st st2:SS} (h:Cn ext L st=.ok st2):∃ c,st2.cs=st.cs++[c]:=by
 unfold Cn E5 at h;split at h
 ·cases h
 ·split at h
  ·cases h
  ·unfold Gv at h;split at h
   ·injection h with h;subst h;exact ⟨_,rfl⟩
   ·cases h
theorem P8 {ext:Bool} {L:List UInt8}:∀ (n:Nat) {st st2:SS},BR ext L n st=.ok st2→∃ cs,st2.cs=st.cs++cs
 | 0,st,st2,h=>by injection h with h;subst h;exact ⟨[],by simp⟩
 | n+1,st,st2,h=>by
  rw [Mu] at h;split at h
  ·cases hc:Cn ext L (st.go (Aq L st.k)) with
   | error q=>rw [hc] at h;cases h
   | ok st4=>
    rw [hc] at h;obtain ⟨c,h1⟩:=V1 hc;obtain ⟨cs,h2⟩:=P8 n h;exact ⟨c :: cs,by rw [h2,h1];show st.cs++[c]++cs=_;simp⟩
  ·injection h with h;subst h;exact ⟨[],by show st.cs=_;simp⟩
theorem JK (a b:List Cmd):scLabels (a++b)=scLabels a++scLabels b:=by unfold scLabels;simp
structure PSh (A:List Cmd) (a:Nat) (st st':SS):Prop where
 cs:st'.cs=A++st.cs.map (shC a)
 op:st'.op=st.op.map (a+·)
theorem YB {A:List Cmd} {a:Nat} {st st':SS} (h:PSh A a st st') (c:Cmd) (hc:c.name=58→c.arg ∉ scLabels A):(AH st' (shC a c)).1=(AH st c).1∧(AH st' (shC a c)).2=(AH st c).2.map (a+·):=by
 have h1:SSh a st ⟨st'.k,st.cs.map (shC a),st'.ms,st'.op⟩:=⟨rfl,h.op⟩
 have h2:=Abi h1 c;have h3:AH st' (shC a c)=AH ⟨st'.k,st.cs.map (shC a),st'.ms,st'.op⟩ (shC a c):=by
  unfold AH;rw [h.cs,JK];simp only;by_cases h5:(shC a c).name=58
  ·have h6:=hc h5;have h7:((shC a c).arg∈scLabels A++scLabels (st.cs.map (shC a)))=((shC a c).arg∈scLabels (st.cs.map (shC a))):=by
    rw [Aem];exact propext ⟨fun e=>e.resolve_left h6,.inr⟩
   simp only [h7]
  ·rw [if_neg h5,if_neg h5]
 rw [h3];exact h2
theorem YC (ext:Bool) (X L:List UInt8) (A:List Cmd) (he:∀ k d q,Ar ext L k d=.error q→q.1≠0) {st st' st2:SS} (h:PSh A X.length st st') (hk:st'.k=X.length+st.k) (hl:st'.cs.length≠100) (hr:Cn ext L st=.ok st2)
  (hd:∀ c∈st2.cs,c.name=58→c.arg ∉ scLabels A):∃ st3,Cn ext (X++L) st'=.ok st3∧PSh A X.length st2 st3∧st3.k=X.length+st2.k:=by
 unfold Cn at hr ⊢;rw [if_neg hl,hk];split at hr
 ·cases hr
 ·have hc:=Ada ext X L st.k he;generalize Mn ext L st.k=R at hc hr;generalize Mn ext (X++L) (X.length+st.k)=R' at hc ⊢;unfold E5 at hr ⊢;cases R with
  | error q=>cases hr
  | ok q=>cases R' with
   | error r=>exact hc.elim
   | ok r=>
    obtain ⟨c,ms,p⟩:=q;obtain ⟨c',ms',p'⟩:=r;have e1:c'=shC X.length c:=hc.1;have e2:p'=X.length+p:=hc.2;subst e1 e2;simp only at hr ⊢;unfold Gv at hr ⊢;split at hr
    ·rename_i h0;injection hr with hr;subst hr;obtain ⟨f1,f2⟩:=YB h c (hd c (by simp));rw [f1,f2,if_pos h0];exact ⟨_,rfl,⟨by show st'.cs++[_]=A++(st.cs++[c]).map _;rw [h.cs];simp,rfl⟩,rfl⟩
    ·cases hr
theorem RM (ext:Bool) (X L:List UInt8) (A:List Cmd) (he:∀ k d q,Ar ext L k d=.error q→q.1≠0) {sb:SS} (hd:∀ c∈sb.cs,c.name=58→c.arg ∉ scLabels A) :
  ∀ (n m:Nat) {st st':SS},PSh A X.length st st'→102≤A.length+st.cs.length+m→A.length+st.cs.length≤100→102≤st.cs.length+n→Aq (X++L) st'.k=X.length+Aq L st.k→BR ext L n st=.ok sb→
  (A.length+sb.cs.length≤100→∃ st4,BR ext (X++L) m st'=.ok st4∧PSh A X.length sb st4)∧(100 < A.length+sb.cs.length→∃ p,BR ext (X++L) m st'=.error (3,p))
 | 0,m,st,st',h,h1,h2,h3,_,_=>by omega
 | n+1,0,st,st',h,h1,h2,h3,_,_=>by omega
 | n+1,m+1,st,st',h,h1,h2,h3,hk,hr=>by
  have hlen:st'.cs.length=A.length+st.cs.length:=by rw [h.cs];simp
  obtain ⟨cs,hcs⟩:=P8 _ hr;rw [Mu] at hr ⊢;rw [hk,Aee];by_cases hs:Aq L st.k < L.length
  ·rw [if_pos hs] at hr;rw [if_pos (show X.length+Aq L st.k < X.length+L.length by omega)];cases hc:Cn ext L (st.go (Aq L st.k)) with
   | error q=>rw [hc] at hr;cases hr
   | ok st2=>
    rw [hc] at hr;have hr:BR ext L n st2=.ok sb:=hr;obtain ⟨c,hc1⟩:=V1 hc;obtain ⟨cs2,hcs2⟩:=P8 _ hr;have hc1:st2.cs=st.cs++[c]:=hc1;have hl2:st2.cs.length=st.cs.length+1:=by rw [hc1];simp
    have hl3:sb.cs.length=st2.cs.length+cs2.length:=by rw [hcs2];simp
    by_cases h100:A.length+st.cs.length=100
    ·refine ⟨fun h=>by omega,fun _=>?_⟩;have e:Cn ext (X++L) (st'.go (X.length+Aq L st.k))=.error (3,X.length+Aq L st.k):=by
      unfold Cn;rw [if_pos (show (st'.go (X.length+Aq L st.k)).cs.length=100 from hlen.trans h100)];rfl
     rw [e];exact ⟨_,rfl⟩
    ·obtain ⟨st3,e1,e2,e3⟩:=YC ext X L A he (st:=st.go (Aq L st.k)) (st':=st'.go (X.length+Aq L st.k)) ⟨h.cs,h.op⟩ rfl (show st'.cs.length≠100 by omega) hc (fun c hc=>hd c (by rw [hcs2];simp [hc]));rw [e1];exact RM ext X L A he hd n m e2 (by omega) (by omega) (by omega) (by rw [e3];exact RG X L st2.k) hr
  ·rw [if_neg hs] at hr;rw [if_neg (show ¬ X.length+Aq L st.k < X.length+L.length by omega)];injection hr with hr;subst hr;refine ⟨fun _=>⟨_,rfl,⟨h.cs,h.op⟩⟩,fun h=>?_⟩;have h:100 < A.length+st.cs.length:=h;omega
theorem Lr {st:SS} (h:(Dn st).1=0):st.op=[]∧∀ c∈st.cs,BY (scLabels st.cs) c=false:=by
 unfold Dn at h;cases ho:st.op.getLast? with
 | some p=>rw [ho] at h;cases h
 | none=>
  rw [ho] at h;simp only at h;refine ⟨List.getLast?_eq_none_iff.1 ho,fun c hc=>?_⟩;cases hf:st.cs.find? (BY (scLabels st.cs)) with
  | some d=>rw [hf] at h;cases h
  | none=>simpa using List.find?_eq_none.1 hf c hc
theorem Ls {a b:List (List UInt8)} {c:Cmd} (hs:∀ x∈a,x∈b) (h:BY a c=false):BY b c=false:=by
 unfold BY at h ⊢;cases h1:(c.name == 98 || c.name == 116 || c.name == 84) with
 | false=>rfl
 | true=>
  rw [h1] at h;cases h2:c.arg.isEmpty with
  | true=>rfl
  | false=>
   rw [h2] at h;have h3:a.contains c.arg=true:=by simpa using h
   have h4:b.contains c.arg=true:=by
    rw [List.contains_iff_mem] at h3 ⊢;exact hs _ h3
   rw [h4];rfl
theorem RN {ext:Bool} {L:List UInt8} {st:SS} (h:JH ext L=.ok st):BR ext L 102 ⟨0,[],[],[]⟩=.ok st∧(Dn st).1=0:=by
 unfold JH IJ at h;cases hr:BR ext L 102 ⟨0,[],[],[]⟩ with
 | error q=>rw [hr] at h;cases h
 | ok st2=>
  rw [hr] at h;simp only at h;split at h
  ·rename_i h0;injection h with h;subst h;exact ⟨rfl,h0⟩
  ·cases h
theorem V2 {ext:Bool} {L T:List UInt8} {sa sb:SS} (hL:∀ k d q,Ar ext L k d=.error q→q.1≠0) (hT:∀ k d q,Ar ext T k d=.error q→q.1≠0) (ha:JH ext L=.ok sa) (hb:JH ext T=.ok sb) (hd:∀ c∈sb.cs,c.name=58→c.arg ∉ scLabels sa.cs) :
  (sa.cs.length+sb.cs.length≤100→∃ st,JH ext (L++10 :: T)=.ok st∧st.cs=sa.cs++sb.cs.map (shC (L.length+1)))∧(100 < sa.cs.length+sb.cs.length→∃ p,JH ext (L++10 :: T)=.error (3,p)):=by
 obtain ⟨ra,ea⟩:=RN ha;obtain ⟨rb,eb⟩:=RN hb;obtain ⟨oa,ja⟩:=Lr ea;obtain ⟨ob,jb⟩:=Lr eb;obtain ⟨m,st3,e1,e2,e3,e4,e5,e6,e7⟩:=V0 T hL 102 ⟨0,[],[],[]⟩ 0 sa (by simp) (by simp) (.inl ⟨Nat.zero_le _,rfl⟩) ra;have hX:(L++[10]).length=L.length+1:=by simp
 have hM:C5 L T=(L++[10])++T:=by simp
 have hk:Aq ((L++[10])++T) st3.k=(L++[10]).length+Aq T 0:=by
  rw [←hM,e5,←hX,hM];exact RG (L++[10]) T 0
 have hp:=RM ext (L++[10]) T sa.cs hT hd 102 m (st:=⟨0,[],[],[]⟩) (st':=st3) ⟨by rw [e2];simp,by rw [e4,oa];rfl⟩ (by simp;omega) (by simpa using e7) (by simp) hk rb;have e1:BR ext (L++10 :: T) 102 ⟨0,[],[],[]⟩=BR ext ((L++[10])++T) m st3:=by rw [←hM];exact e1
 unfold JH;rw [e1,←hX];refine ⟨fun h=>?_,fun h=>?_⟩
 ·obtain ⟨st4,g1,g2⟩:=hp.1 h;rw [g1];have g3:(Dn st4).1=0:=by
   unfold Dn;rw [g2.op,ob,g2.cs,JK,Lp];simp only [List.map_nil,List.getLast?_nil];have hf:(sa.cs++sb.cs.map (shC (L++[10]).length)).find? (BY (scLabels sa.cs++scLabels sb.cs))=none:=by
    rw [List.find?_eq_none];intro c hc;rw [Aem] at hc;rcases hc with hc | hc
    ·rw [Ls (fun x hx=>Aem.2 (.inl hx)) (ja c hc)];simp
    ·obtain ⟨d,hd1,rfl⟩:=List.mem_map.1 hc;have h8:BY (scLabels sa.cs++scLabels sb.cs) (shC (L++[10]).length d)=BY (scLabels sa.cs++scLabels sb.cs) d:=rfl;rw [h8,Ls (fun x hx=>Aem.2 (.inr hx)) (jb d hd1)];simp
   rw [hf]
  unfold IJ;simp only;rw [if_pos g3];exact ⟨st4,rfl,g2.cs⟩
 ·obtain ⟨p,g1⟩:=hp.2 h;rw [g1];exact ⟨p,rfl⟩
theorem SR (L T:List UInt8):Cw (L++10 :: T)=Cw L:=by
 unfold Cw;have h1:Dv (L++10 :: T) 0=Dv L 0:=Aab T (Nat.zero_le _);have h2:=Mt (L:=L) (Nat.zero_le _);rw [h1,List.take_append_of_le_length (by omega)]
end
section
def Stop (ere:Bool) (x:List UInt8):Prop:=x=[]∨∃ c,(c=41∨c=124)∧A2 ere x 0 c=true
def ReRep.up (P:Nat):ReRep→ReRep
 | .none=>.none
 | .bad=>.bad
 | .some a b c j=>.some a b c (P+j)
end
section
theorem NH (ere:Bool) (s:List UInt8) (sub:Option (ReSt→ReRes (ReSt × Nd))) (begin:Nat):∀ (n:Nat) (st:ReSt) (parts:List Nd) (front:Bool) (st':ReSt) (d:Nd),
  branchM ere s sub false begin n st parts front=.ok (st',d)→s.length≤st'.pos∨A2 ere s st'.pos 124=true∨A2 ere s st'.pos 41=true:=by
 intro n;induction n with
 | zero=>intro st parts front st' d h;cases h
 | succ n ih=>
  intro st parts front st' d h;rw [branchM] at h;split at h
  ·rename_i he;injection h with h;injection h with h1 _;subst h1;simp only [Bool.or_eq_true,decide_eq_true_eq,Bool.and_eq_true,Bool.not_false,and_true] at he;rcases he with (h | h) | h
   ·exact .inl h
   ·exact .inr (.inl h)
   ·exact .inr (.inr h)
  ·split at h
   ·exact ih _ _ _ _ _ h
   ·split at h
    ·exact ih _ _ _ _ _ h
    ·split at h
     ·cases h
     ·split at h
      ·cases h
      ·split at h
       ·cases h
       ·exact ih _ _ _ _ _ h
section
variable {ere:Bool} {p s x:List UInt8} (hx:Stop ere x) (g:Nat) (M:List (Nat × Nat))
include hx
end
end
section
theorem NI {ere:Bool} {s:List UInt8} {st:ReSt} {d:Nd} (h:AZ ere s=.ok (st,d)) :
  s.length≤250∧As ere s (some (C0 ere s 11)) false (s.length+1) Ej []=.ok (st,d)∧A2 ere s st.pos 41=false:=by
 have hl:s.length≤250:=by
  unfold AZ at h;split at h
  ·cases h
  ·omega
 rw [G7 _ _ hl] at h;cases hc:As ere s (some (C0 ere s 11)) false (s.length+1) Ej [] with
 | error e=>rw [hc] at h;cases h
 | ok q=>
  obtain ⟨st2,d2⟩:=q;rw [hc] at h;unfold Fu at h;simp only at h;cases h41:A2 ere s st2.pos 41 with
  | true=>rw [h41] at h;cases h
  | false=>
   rw [h41] at h;injection h with h;injection h with h1 h2;subst h1 h2;exact ⟨hl,rfl,h41⟩
theorem Dd (ere:Bool) (s:List UInt8) (k:Nat):D7 s (some (C0 ere s k))∧GX (some (C0 ere s k)):=
 ⟨fun f hf=>by injection hf with hf;subst hf;exact UT ere s k,fun f hf=>by injection hf with hf;subst hf;exact Iq ere s k⟩
end
section
theorem V3 (ere:Bool) (s:List UInt8):∀ (n:Nat) (st:ReSt) (d:Nd) (q:Nat × Nat),st.pos≤s.length→s.length < n+st.pos→DI ere s n st d=.error q→q.1≠0:=by
 intro n;induction n with
 | zero=>intro st d q h1 h2;omega
 | succ n ih=>
  intro st d q h1 h2 h;rw [DI] at h;cases hr:repAt ere s st.pos with
  | none=>rw [hr] at h;cases h
  | bad=>rw [hr] at h;injection h with h;subst h;simp
  | some mn mx c j=>
   rw [hr] at h;obtain ⟨m1,m2⟩:=FC _ _ _ _ _ _ _ hr;exact ih ((if c=0 then st else st.mark c).to j) _ q m2 (by show _ < n+j;omega) h
def P9 (s:List UInt8) (sub:Option (ReSt→ReRes (ReSt × Nd))):Prop:=∀ f,sub=some f→∀ st q,st.pos≤s.length→f st=.error q→q.1≠0
theorem V4 (ere:Bool) (st:ReSt) (c:Nat) (q:Nat × Nat) (h:Ds ere st c=.error q):q.1≠0:=by
 unfold Ds at h;split at h
 ·split at h
  ·cases h
  ·injection h with h;subst h;simp
 ·split at h
  ·injection h with h;subst h;simp
  ·cases h
theorem V5 (ere:Bool) (s:List UInt8) (sub:Option (ReSt→ReRes (ReSt × Nd))) (hs:P9 s sub) (st:ReSt) (q:Nat × Nat) (h:Bc ere s sub st=.error q):q.1≠0:=by
 unfold Bc at h;split at h
 ·rename_i h40;unfold F9 at h;split at h
  ·injection h with h;subst h;simp
  ·rename_i f;split at h
   ·rename_i e he;injection h with h;subst h;exact hs f rfl _ _ (Ek h40) he
   ·split at h
    ·cases h
    ·injection h with h;subst h;simp
 ·split at h
  ·injection h with h;subst h;simp
  ·split at h
   ·split at h
    ·cases h
    ·rename_i hz;injection h with h;subst h;exact hz
   ·split at h
    ·cases h
    ·split at h
     ·split at h
      ·exact V4 _ _ _ _ h
      ·injection h with h;subst h;simp
     ·cases h
theorem PA (ere:Bool) (s:List UInt8) (sub:Option (ReSt→ReRes (ReSt × Nd))) (hs:P9 s sub) (hmv:D7 s sub) (top:Bool) (begin:Nat):∀ (n:Nat) (st:ReSt) (parts:List Nd) (front:Bool) (q:Nat × Nat),st.pos≤s.length→s.length < n+st.pos→
  branchM ere s sub top begin n st parts front=.error q→q.1≠0:=by
 intro n;induction n with
 | zero=>intro st parts front q h1 h2;omega
 | succ n ih=>
  intro st parts front q h1 h2 h;rw [branchM] at h;split at h
  ·cases h
  ·rename_i he;have hlt:st.pos < s.length:=by
    simp only [Bool.or_eq_true,decide_eq_true_eq,not_or] at he;omega
   split at h
   ·exact ih (st.to (st.pos+1)) _ _ q (show st.pos+1≤_ by omega) (show _ < n+(st.pos+1) by omega) h
   ·split at h
    ·exact ih (st.to (st.pos+1)) _ _ q (show st.pos+1≤_ by omega) (show _ < n+(st.pos+1) by omega) h
    ·split at h
     ·injection h with h;subst h;simp
     ·split at h
      ·rename_i e ha;injection h with h;subst h;exact V5 ere s sub hs st _ ha
      ·rename_i st1 d1 ha;have m1:=DJ ere s sub hmv st st1 d1 hlt ha;split at h
       ·rename_i e hr;injection h with h;subst h;exact V3 ere s _ _ _ _ m1.2 (by omega) hr
       ·rename_i st2 d2 hr;have m2:=Gd ere s _ _ _ _ _ m1.2 hr;exact ih st2 _ _ q m2.2 (by omega) h
theorem GD (ere:Bool) (s:List UInt8) (sub:Option (ReSt→ReRes (ReSt × Nd))) (hs:P9 s sub) (hmv:D7 s sub) (top:Bool):∀ (n:Nat) (st:ReSt) (l:List Nd) (q:Nat × Nat),st.pos≤s.length→s.length < n+st.pos→
  As ere s sub top n st l=.error q→q.1≠0:=by
 intro n;induction n with
 | zero=>intro st l q h1 h2;omega
 | succ n ih=>
  intro st l q h1 h2 h;rw [As] at h;split at h
  ·rename_i e hb;injection h with h;subst h;exact PA ere s sub hs hmv top _ _ _ _ _ _ h1 (by omega) hb
  ·rename_i st1 d1 hb;have m1:=Ge ere s sub hmv top _ _ _ _ _ _ _ h1 hb;split at h
   ·rename_i h124;have hp:=G8 ere;exact ih ((if ere then st1 else st1.mark 124).to (st1.pos+AY ere)) _ q (Ek h124) (by show _ < n+(st1.pos+AY ere);omega) h
   ·cases h
theorem YD (ere:Bool) (s:List UInt8):∀ (k:Nat) (st:ReSt) (q:Nat × Nat),st.pos≤s.length→C0 ere s k st=.error q→q.1≠0:=by
 intro k;induction k with
 | zero=>intro st q hp h;exact GD ere s none (fun f hf=>by cases hf) (fun f hf=>by cases hf) false _ _ _ _ hp (by omega) h
 | succ k ih=>intro st q hp h;exact GD ere s (some (C0 ere s k)) (fun f hf=>by injection hf with hf;subst hf;exact ih) (Dd ere s k).1 false _ _ _ _ hp (by omega) h
theorem It {ere:Bool} {s:List UInt8} {q:Nat × Nat} (h:AZ ere s=.error q):q.1≠0:=by
 unfold AZ at h;split at h
 ·injection h with h;subst h;simp
 ·exact GD ere s (some (C0 ere s 11)) (fun f hf=>by injection hf with hf;subst hf;exact YD ere s 11) (Dd ere s 11).1 true _ _ _ _ (Nat.zero_le _) (by omega) h
theorem JL (f:Nd→List Nd) (hf:∀ d,Az (f d)≤Aw d) (l:List Nd):Az (l.flatMap f)≤Az l:=by
 induction l with
 | nil=>exact Aec _
 | cons d ds ih=>rw [List.flatMap_cons,Dy,Az];have:=hf d;omega
theorem NJ (l:List Nd):Aw (Bu l)≤1+Az l:=by
 have h:=JL Bm LZ l;unfold Bu;unfold AI;cases hl:l.flatMap Bm with
 | nil=>simp [Aw]
 | cons d ds=>
  rw [hl] at h;cases ds with
  | nil=>simp only [Az] at h;simp only;omega
  | cons e es=>simp only [Aw];omega
theorem NK (l:List Nd):Aw (Cl l)≤1+Az l:=by
 have h:=JL AP Ma l;unfold Cl;unfold AJ;cases hl:l.flatMap AP with
 | nil=>simp [Aw]
 | cons d ds=>
  rw [hl] at h;cases ds with
  | nil=>simp only [Az] at h;simp only;omega
  | cons e es=>simp only [Aw];omega
theorem ST (ere:Bool) (s:List UInt8):∀ (n:Nat) (st:ReSt) (d:Nd) (st':ReSt) (d':Nd),DI ere s n st d=.ok (st',d')→Aw d'+3 * st.pos≤Aw d+3 * st'.pos:=by
 intro n;induction n with
 | zero=>intro st d st' d' h;cases h
 | succ n ih=>
  intro st d st' d' h;rw [DI] at h;cases hr:repAt ere s st.pos with
  | none=>rw [hr] at h;injection h with h;injection h with h1 h2;subst h1 h2;exact Aec _
  | bad=>rw [hr] at h;cases h
  | some mn mx c j=>
   rw [hr] at h;have m:=(FC _ _ _ _ _ _ _ hr).1;have:=ih _ _ _ _ h;rw [show ((if c=0 then st else st.mark c).to j).pos=j from rfl,Aw] at this;omega
def Mv (s:List UInt8) (sub:Option (ReSt→ReRes (ReSt × Nd))):Prop:=∀ f,sub=some f→∀ st st' d,st.pos≤s.length→f st=.ok (st',d)→Aw d+3 * st.pos≤2+3 * st'.pos
theorem SU (ere:Bool) (s:List UInt8) (sub:Option (ReSt→ReRes (ReSt × Nd))) (hs:Mv s sub) (hmv:D7 s sub) (st st':ReSt) (d:Nd) (hl:st.pos < s.length) (h:Bc ere s sub st=.ok (st',d)):Aw d+3 * st.pos≤3 * st'.pos:=by
 have hp:=G8 ere;have hm:=(DJ ere s sub hmv st st' d hl h).1;unfold Bc at h;split at h
 ·rename_i h40;unfold F9 at h;split at h
  ·cases h
  ·rename_i f;split at h
   ·cases h
   ·rename_i st1 d1 he;split at h
    ·injection h with h;injection h with h1 h2;subst h1 h2;have:=hs f rfl _ _ _ (Ek h40) he;simp only at this;simp only [Aw];omega
    ·cases h
 ·split at h
  ·cases h
  ·split at h
   ·split at h
    ·injection h with h;injection h with h1 h2;subst h2;simp only [Aw];omega
    ·cases h
   ·split at h
    ·injection h with h;injection h with h1 h2;subst h2;simp only [Aw];omega
    ·split at h
     ·split at h
      ·unfold Ds at h;split at h
       ·split at h
        ·injection h with h;injection h with h1 h2;subst h2;simp only [Aw];omega
        ·cases h
       ·split at h
        ·cases h
        ·injection h with h;injection h with h1 h2;subst h2;simp only [Aw];omega
      ·cases h
     ·injection h with h;injection h with h1 h2;subst h2;simp only [Aw];omega
theorem NL (ere:Bool) (s:List UInt8) (sub:Option (ReSt→ReRes (ReSt × Nd))) (hs:Mv s sub) (hmv:D7 s sub) (top:Bool) (begin:Nat):∀ (n:Nat) (st:ReSt) (parts:List Nd) (front:Bool) (st':ReSt) (d:Nd),st.pos≤s.length→
  branchM ere s sub top begin n st parts front=.ok (st',d)→Aw d+3 * st.pos≤1+Az parts+3 * st'.pos:=by
 intro n;induction n with
 | zero=>intro st parts front st' d _ h;cases h
 | succ n ih=>
  intro st parts front st' d h1 h;have hsn:∀ x,Az (parts++[x])=Az parts+Aw x:=fun x=>by rw [Dy];simp [Az]
  rw [branchM] at h;split at h
  ·injection h with h;injection h with h2 h3;subst h2 h3;have:=NJ parts;omega
  ·rename_i he;have hlt:st.pos < s.length:=by
    simp only [Bool.or_eq_true,decide_eq_true_eq,not_or] at he;omega
   split at h
   ·have:=ih (st.to (st.pos+1)) _ _ _ _ (show st.pos+1≤_ by omega) h;rw [hsn,show (st.to (st.pos+1)).pos=st.pos+1 from rfl] at this;simp only [Aw] at this;omega
   ·split at h
    ·have:=ih (st.to (st.pos+1)) _ _ _ _ (show st.pos+1≤_ by omega) h;rw [hsn,show (st.to (st.pos+1)).pos=st.pos+1 from rfl] at this;simp only [Aw] at this;omega
    ·split at h
     ·cases h
     ·split at h
      ·cases h
      ·rename_i st1 d1 ha;have m1:=DJ ere s sub hmv st st1 d1 hlt ha;have z1:=SU ere s sub hs hmv st st1 d1 hlt ha;split at h
       ·cases h
       ·rename_i st2 d2 hr;have m2:=Gd ere s _ _ _ _ _ m1.2 hr;have z2:=ST ere s _ _ _ _ _ hr;have:=ih st2 _ _ _ _ m2.2 h;rw [hsn] at this;omega
theorem FK (ere:Bool) (s:List UInt8) (sub:Option (ReSt→ReRes (ReSt × Nd))) (hs:Mv s sub) (hmv:D7 s sub) (top:Bool):∀ (n:Nat) (st:ReSt) (l:List Nd) (st':ReSt) (d:Nd),st.pos≤s.length→
  As ere s sub top n st l=.ok (st',d)→Aw d+3 * st.pos≤2+Az l+3 * st'.pos:=by
 intro n;induction n with
 | zero=>intro st l st' d _ h;cases h
 | succ n ih=>
  intro st l st' d h1 h;have hsn:∀ x,Az (l++[x])=Az l+Aw x:=fun x=>by rw [Dy];simp [Az]
  rw [As] at h;split at h
  ·cases h
  ·rename_i st1 d1 hb;have z1:=NL ere s sub hs hmv top _ _ _ _ _ _ _ h1 hb;simp only [Az] at z1;split at h
   ·rename_i h124;have hp:=G8 ere;have:=ih ((if ere then st1 else st1.mark 124).to (st1.pos+AY ere)) _ _ _ (Ek h124) h;rw [hsn,show ((if ere then st1 else st1.mark 124).to (st1.pos+AY ere)).pos=st1.pos+AY ere from rfl] at this;omega
   ·injection h with h;injection h with h2 h3;subst h2 h3;have:=NK (l++[d1]);rw [hsn] at this;omega
theorem V6 (ere:Bool) (s:List UInt8):∀ (k:Nat) (st st':ReSt) (d:Nd),st.pos≤s.length→C0 ere s k st=.ok (st',d)→Aw d+3 * st.pos≤2+3 * st'.pos:=by
 intro k;induction k with
 | zero=>intro st st' d hp h;have:=FK ere s none (fun f hf=>by cases hf) (fun f hf=>by cases hf) false _ _ _ _ _ hp h;simp only [Az] at this;omega
 | succ k ih=>intro st st' d hp h;have:=FK ere s (some (C0 ere s k)) (fun f hf=>by injection hf with hf;subst hf;exact ih) (Dd ere s k).1 false _ _ _ _ _ hp h;simp only [Az] at this;omega
theorem PB {ere:Bool} {s:List UInt8} {st:ReSt} {d:Nd} (h:AZ ere s=.ok (st,d)):Aw d≤752:=by
 obtain ⟨hl,hc,_⟩:=NI h;have h1:=FK ere s (some (C0 ere s 11)) (fun f hf=>by injection hf with hf;subst hf;exact V6 ere s 11) (Dd ere s 11).1 false _ _ _ _ _ (Nat.zero_le _) hc;have h2:=(Gf ere s (some (C0 ere s 11)) (Dd ere s 11).1 false _ _ _ _ _ (Nat.zero_le _) hc).2;simp only [Az] at h1;omega
def OW (st st':ReSt):Prop:=st'.marks.length+st.pos≤st.marks.length+st'.pos
theorem Hy (st:ReSt) (c:Nat):(st.mark c).marks.length=st.marks.length+1:=by unfold ReSt.mark;simp
theorem V7 (ere:Bool) (s:List UInt8):∀ (n:Nat) (st:ReSt) (d:Nd) (st':ReSt) (d':Nd),DI ere s n st d=.ok (st',d')→OW st st':=by
 intro n;induction n with
 | zero=>intro st d st' d' h;cases h
 | succ n ih=>
  intro st d st' d' h;rw [DI] at h;cases hr:repAt ere s st.pos with
  | none=>rw [hr] at h;injection h with h;injection h with h1 h2;subst h1 h2;exact Aec _
  | bad=>rw [hr] at h;cases h
  | some mn mx c j=>
   rw [hr] at h;have m:=(FC _ _ _ _ _ _ _ hr).1;have:=ih _ _ _ _ h;unfold OW at this ⊢;rw [show ((if c=0 then st else st.mark c).to j).pos=j from rfl,show ((if c=0 then st else st.mark c).to j).marks=(if c=0 then st else st.mark c).marks from rfl] at this;by_cases hc:c=0
   ·rw [if_pos hc] at this;omega
   ·rw [if_neg hc,Hy] at this;omega
def PC (s:List UInt8) (sub:Option (ReSt→ReRes (ReSt × Nd))):Prop:=∀ f,sub=some f→∀ st st' d,st.pos≤s.length→f st=.ok (st',d)→OW st st'
theorem NM (ere:Bool) (s:List UInt8) (sub:Option (ReSt→ReRes (ReSt × Nd))) (hs:PC s sub) (hmv:D7 s sub) (st st':ReSt) (d:Nd) (hl:st.pos < s.length) (h:Bc ere s sub st=.ok (st',d)):OW st st':=by
 have hp:=G8 ere;have hm:=(DJ ere s sub hmv st st' d hl h).1;unfold OW;unfold Bc at h;split at h
 ·rename_i h40;unfold F9 at h;split at h
  ·cases h
  ·rename_i f;split at h
   ·cases h
   ·rename_i st1 d1 he;split at h
    ·injection h with h;injection h with h1 h2;subst h1 h2;have:=hs f rfl _ _ _ (Ek h40) he;unfold OW at this;simp only at this ⊢;omega
    ·cases h
 ·split at h
  ·cases h
  ·split at h
   ·split at h
    ·injection h with h;injection h with h1 h2;subst h1;exact Nat.add_le_add_left (Aeg hm) _
    ·cases h
   ·split at h
    ·injection h with h;injection h with h1 h2;subst h1;exact Nat.add_le_add_left (Aeg hm) _
    ·split at h
     ·split at h
      ·have hpos:=R8 ere st st' _ d h;unfold Ds at h;split at h
       ·split at h
        ·injection h with h;injection h with h1 h2;subst h1;cases ere with
         | true=>show (st.mark _).marks.length+_≤_;rw [Hy,hpos];omega
         | false=>show st.marks.length+_≤_;rw [hpos];omega
        ·cases h
       ·split at h
        ·cases h
        ·rename_i x m _;injection h with h;injection h with h1 h2;subst h1;cases m with
         | true=>show (st.mark _).marks.length+_≤_;rw [Hy,hpos];omega
         | false=>show st.marks.length+_≤_;rw [hpos];omega
      ·cases h
     ·injection h with h;injection h with h1 h2;subst h1;exact Nat.add_le_add_left (Aeg hm) _
theorem PD (ere:Bool) (s:List UInt8) (sub:Option (ReSt→ReRes (ReSt × Nd))) (hs:PC s sub) (hmv:D7 s sub) (top:Bool) (begin:Nat):∀ (n:Nat) (st:ReSt) (parts:List Nd) (front:Bool) (st':ReSt) (d:Nd),st.pos≤s.length→
  branchM ere s sub top begin n st parts front=.ok (st',d)→OW st st':=by
 intro n;induction n with
 | zero=>intro st parts front st' d _ h;cases h
 | succ n ih=>
  intro st parts front st' d h1 h;rw [branchM] at h;split at h
  ·injection h with h;injection h with h2 h3;subst h2 h3;exact Aec _
  ·rename_i he;have hlt:st.pos < s.length:=by
    simp only [Bool.or_eq_true,decide_eq_true_eq,not_or] at he;omega
   have hto:OW (st.to (st.pos+1)) st'→OW st st':=fun h=>by
    unfold OW at h ⊢;rw [show (st.to (st.pos+1)).pos=st.pos+1 from rfl,show (st.to (st.pos+1)).marks=st.marks from rfl] at h;omega
   split at h
   ·exact hto (ih (st.to (st.pos+1)) _ _ _ _ (show st.pos+1≤_ by omega) h)
   ·split at h
    ·exact hto (ih (st.to (st.pos+1)) _ _ _ _ (show st.pos+1≤_ by omega) h)
    ·split at h
     ·cases h
     ·split at h
      ·cases h
      ·rename_i st1 d1 ha;have m1:=DJ ere s sub hmv st st1 d1 hlt ha;have z1:=NM ere s sub hs hmv st st1 d1 hlt ha;split at h
       ·cases h
       ·rename_i st2 d2 hr;have m2:=Gd ere s _ _ _ _ _ m1.2 hr;have z2:=V7 ere s _ _ _ _ _ hr;have:=ih st2 _ _ _ _ m2.2 h;unfold OW at *;omega
theorem GE (ere:Bool) (s:List UInt8) (sub:Option (ReSt→ReRes (ReSt × Nd))) (hs:PC s sub) (hmv:D7 s sub) (top:Bool):∀ (n:Nat) (st:ReSt) (l:List Nd) (st':ReSt) (d:Nd),st.pos≤s.length→
  As ere s sub top n st l=.ok (st',d)→OW st st':=by
 intro n;induction n with
 | zero=>intro st l st' d _ h;cases h
 | succ n ih=>
  intro st l st' d h1 h;rw [As] at h;split at h
  ·cases h
  ·rename_i st1 d1 hb;have z1:=PD ere s sub hs hmv top _ _ _ _ _ _ _ h1 hb;split at h
   ·rename_i h124;have hp:=G8 ere;have:=ih ((if ere then st1 else st1.mark 124).to (st1.pos+AY ere)) _ _ _ (Ek h124) h;unfold OW at *;rw [show ((if ere then st1 else st1.mark 124).to (st1.pos+AY ere)).pos=st1.pos+AY ere from rfl,show ((if ere then st1 else st1.mark 124).to (st1.pos+AY ere)).marks=(if ere then st1 else st1.mark 124).marks from rfl] at this;cases ere with
    | true=>simp only [if_true] at this;omega
    | false=>simp only [Bool.false_eq_true,if_false,Hy] at this;omega
   ·injection h with h;injection h with h2 h3;subst h2 h3;exact z1
theorem YE (ere:Bool) (s:List UInt8):∀ (k:Nat) (st st':ReSt) (d:Nd),st.pos≤s.length→C0 ere s k st=.ok (st',d)→OW st st':=by
 intro k;induction k with
 | zero=>intro st st' d hp h;exact GE ere s none (fun f hf=>by cases hf) (fun f hf=>by cases hf) false _ _ _ _ _ hp h
 | succ k ih=>intro st st' d hp h;exact GE ere s (some (C0 ere s k)) (fun f hf=>by injection hf with hf;subst hf;exact ih) (Dd ere s k).1 false _ _ _ _ _ hp h
theorem Lt {ere:Bool} {s:List UInt8} {st:ReSt} {d:Nd} (h:AZ ere s=.ok (st,d)):st.marks.length≤s.length:=by
 obtain ⟨hl,hc,_⟩:=NI h;have h1:=GE ere s (some (C0 ere s 11)) (fun f hf=>by injection hf with hf;subst hf;exact YE ere s 11) (Dd ere s 11).1 false _ _ _ _ _ (Nat.zero_le _) hc;have h2:=(Gf ere s (some (C0 ere s 11)) (Dd ere s 11).1 false _ _ _ _ _ (Nat.zero_le _) hc).2;unfold OW at h1;rw [show Ej.pos=0 from rfl,show Ej.marks.length=0 from rfl] at h1;omega
end
section
set_option linter.unusedVariables false
theorem V8 (L:List UInt8) (d:UInt8) (st:CS):(CL L d st).2.ms=st.ms:=by
 unfold CL DM;split
 ·split <;> rfl
 ·rfl
def RO:List UInt8:=[35,110,10,47,97,47,123,112,59,98,32,120,125]
def Lu:List UInt8:=[35,110,10,47,97,47,123,112,59,98,32,120,10,125,10,58,120]
def Ade (R:Except (Nat × Nat) SS):Nat × Nat:=match R with | .error q=>q | .ok _=>(0,0)
def RP (R:Except (Nat × Nat) SS):List UInt8:=match R with | .error q=>[] | .ok st=>st.cs.map (·.name)
def V9 (R:Except (Nat × Nat) SS):List (List UInt8):=match R with | .error q=>[] | .ok st=>st.cs.map (·.arg)
theorem Abo:Ade (JH false RO)=(16,6):=by decide +kernel
theorem Abp:RP (JH false Lu)=[123,112,98,125,58]:=by decide +kernel
theorem Abq:V9 (JH false Lu)=[[],[],[120],[],[120]]:=by decide +kernel
theorem Abr:Cw Lu=true:=by decide
end
section
open Go Go.RowKit Go.Shelf
theorem VA (l:List UInt8):(Lib.cut l [10]).1=l.take (AF (fun b=>!(b == 10)) l):=by
 unfold Lib.cut;rw [Lib.index_one,Ga];by_cases h:AF (fun b=>!(b == (10:UInt8))) l < l.length
 ·rw [if_pos h,if_pos (by omega)];simp
 ·rw [if_neg h,if_neg (by omega)];exact (List.take_of_length_le (show l.length≤_ by omega)).symm
def VB:Go.Shelf.Ren:=⟨fun | 145=>21 | 217=>54 | 219=>37 | 220=>30 | 224=>56 | 225=>55 | 266=>78 | 267=>57 | 314=>79 | n=>n,fun | 3=>3 | 4=>4 | 5=>5 | 9=>9 | 46=>125 | 51=>150 | 59=>64 | 146=>151 | n=>n,fun | 1=>0 | n=>n⟩
theorem SV:Go.Proofs.Lays.n145 Tryz.prog VB:={
 mixed:=by kernel_rfl
 f145:=Tryz.func21.trans (congrArg some (by kernel_rfl))
 f217:=Tryz.func54.trans (congrArg some (by kernel_rfl))
 f219:=Tryz.func37.trans (congrArg some (by kernel_rfl))
 f220:=Tryz.func30.trans (congrArg some (by kernel_rfl))
 f224:=Tryz.func56.trans (congrArg some (by kernel_rfl))
 f225:=Tryz.func55.trans (congrArg some (by kernel_rfl))
 f266:=Tryz.func78.trans (congrArg some (by kernel_rfl))
 f267:=Tryz.func57.trans (congrArg some (by kernel_rfl))
 f314:=Tryz.func79.trans (congrArg some (by kernel_rfl))
 t3:=Tryz.underlying3
 a3:=Tryz.isAgg3
 z3:=Tryz.sizeOf3
 v3:=Tryz.zeroValue3
 t4:=Tryz.underlying4
 a4:=Tryz.isAgg4
 z4:=Tryz.sizeOf4
 v4:=Tryz.zeroValue4
 t5:=Tryz.underlying5
 a5:=Tryz.isAgg5
 z5:=Tryz.sizeOf5
 v5:=Tryz.zeroValue5
 t9:=Tryz.underlying9
 a9:=Tryz.isAgg9
 z9:=Tryz.sizeOf9
 v9:=Tryz.zeroValue9
 t46:=Tryz.underlying125
 a46:=Tryz.isAgg125
 z46:=Tryz.sizeOf125
 v46:=Tryz.zeroValue125
 t51:=Tryz.underlying150
 a51:=Tryz.isAgg150
 z51:=Tryz.sizeOf150
 v51:=Tryz.zeroValue150
 t59:=Tryz.underlying64
 a59:=Tryz.isAgg64
 z59:=Tryz.sizeOf64
 v59:=Tryz.zeroValue64
 t146:=Tryz.underlying151
 a146:=Tryz.isAgg151
 z146:=Tryz.sizeOf151
 v146:=Tryz.zeroValue151
 g1:=by kernel_rfl
}
theorem VC (s:ByteArray) (w:World) (hs:s.size < 4294967281) (hG:Gl w) :
  Calls Tryz.prog 21 #[.string s,.string ⟨#[10]⟩] w fun e w'=>(∃ t b,e=.returned (.tuple #[.string (txt (s.data.toList.take (AF (fun b=>!(b == 10)) s.data.toList))),.string t,.bool b]))∧Below w.heap.size w w':=by
 obtain ⟨m,hm⟩:=hG.ml;refine (Any.strings_Cut SV s ⟨#[10]⟩ m w hs hm).mono ?_;rintro e w' ⟨rfl,n,rfl⟩;have h:(⟨(Lib.cut s.data.toList (⟨#[10]⟩:ByteArray).data.toList).1.toArray⟩:ByteArray)=txt (s.data.toList.take (AF (fun b=>!(b == 10)) s.data.toList)):=by
  rw [show (⟨#[10]⟩:ByteArray).data.toList=[10] from rfl,VA];rfl
 rw [h];exact ⟨⟨_,_,rfl⟩,below_drewN (Aeh _ _) n⟩
theorem Lw (s:ByteArray) (k p:Nat) (w:World) (hs:s.size≤4000) (hk:k≤s.size) (hG:Gl w) (hp:p < w.heap.size) (c2:w.cell? ⟨p,2,none⟩=some (.string s)) (c4:w.cell? ⟨p,4,none⟩=some (.int .i64 (k:Int))) :
  Calls Tryz.prog 15 #[.pointer (some ⟨p,0,none⟩)] w fun e w'=>e=.returned (.string (txt ((s.data.toList.drop k).take (Dv s.data.toList k))))∧Below w.heap.size w w':=by
 have hx:(s.extract k s.size).size≤4000:=by rw [ByteArray.size_extract];omega
 have hcut:=fun W (hB:Below w.heap.size w W)=>(VC (s.extract k s.size) W (by omega) (hG.up hB)).mono fun e w' h=>(⟨h.1,hB.trans (h.2.mono hB.size)⟩:_∧Below w.heap.size w w')
 rw [BP] at hcut;rw [show (s.data.toList.drop k).take (Dv s.data.toList k)=(s.data.toList.drop k).take (AF (fun b=>!(b == 10)) (s.data.toList.drop k)) from rfl];generalize txt ((s.data.toList.drop k).take (AF (fun b=>!(b == 10)) (s.data.toList.drop k)))=T at hcut ⊢;obtain ⟨E,hE⟩:∃ E,s.extract k s.size=E:=⟨_,rfl⟩;rw [hE] at hcut;have h0:(0:Int)≤(k:Int):=by omega
 have h1:(k:Int)≤(s.size:Int):=by omega
 clear hG hx;go_enter Tryz.func15,Tryz.ntmps15;go_upto_region 1 with fail;go_cut [3] (fun s3 wx=>s3=.string T∧Below w.heap.size w wx)
 case first=>
  go_region_held3 (fun w'=>w'.cell? ⟨p,2,none⟩=some (.string s)∧w'.cell? ⟨p,4,none⟩=some (.int .i64 (k:Int))) (first | exact ⟨c2,c4⟩ | (refine ⟨?_,?_⟩ <;> assumption)) (first | (go_at_call 21;(try rw [hE]);refine (hcut _ (by first | exact Aeh _ _ | exact (Aeh _ _).drew)).mono ?_;rintro e w1 ⟨⟨t,b,rfl⟩,b1⟩;have m2:w1.cell? ⟨p,2,none⟩=some (.string s):=(b1.cell (p:=⟨p,2,none⟩) hp).trans c2;have m4:w1.cell? ⟨p,4,none⟩=some (.int .i64 (k:Int)):=(b1.cell (p:=⟨p,4,none⟩) hp).trans c4))
  all_goals
   (try go_wp2_with fail)
   go_meet;exact ⟨rfl,by first | exact b1 | exact b1.drew⟩
 case rest=>
  obtain ⟨rfl,hb⟩:=hcut;go_wp2_with fail
  go_ret;exact ⟨rfl,hb⟩
abbrev scC (q:Bool) (cv:Value) (s:ByteArray) (ext:Bool) (k:Nat) (mv ov lv:Value):Array Value:=#[.bool q,cv,.string s,.bool ext,.int .i64 (k:Int),mv,ov,lv]
end
section
open Go.RowKit
def Ep (F:Nat→Prop):Nat→World→Nd→Value→Prop
 | 0,_,_,_=>False
 | n+1,w,d,v=>match d with
  | .empty=>v=.iface 105 (.agg #[])∨v=.nilIface
  | .one s=>v=.iface 111 (.agg #[.int .u64 (ow s 0),.int .u64 (ow s 1),.int .u64 (ow s 2),.int .u64 (ow s 3)])
  | .cat l=>∃ a cap,v=.iface 98 (.agg #[.slice a l.length cap])∧l.length≤cap∧cap≤maxLen∧
    (0 < l.length→∃ b o,a=some ⟨b,o,none⟩∧F b∧b < w.heap.size∧∀ i (h:i < l.length),∃ u,w.cell? ⟨b,o+i,none⟩=some u∧Ep F n w l[i] u)
  | .alt l=>∃ a cap,v=.iface 99 (.agg #[.slice a l.length cap])∧l.length≤cap∧cap≤maxLen∧
    (0 < l.length→∃ b o,a=some ⟨b,o,none⟩∧F b∧b < w.heap.size∧∀ i (h:i < l.length),∃ u,w.cell? ⟨b,o+i,none⟩=some u∧Ep F n w l[i] u)
  | .rep d mn mx=>∃ u,v=.iface 101 (.agg #[u,.int .i64 mn,.int .i64 mx])∧Ep F n w d u
  | .group num d=>∃ u,v=.iface 103 (.agg #[.int .i64 num,u])∧Ep F n w d u
  | .back num=>v=.iface 117 (.agg #[.int .i64 num])
  | .start=>v=.iface 119 (.agg #[])
  | .fin=>v=.iface 121 (.agg #[])
def Aac (F:Nat→Prop) (n:Nat) (w:World) (l:List Nd) (a:Option Addr) (cap:Nat):Prop:=
 l.length≤cap∧cap≤maxLen∧(0 < l.length→∃ b o,a=some ⟨b,o,none⟩∧F b∧b < w.heap.size∧∀ i (h:i < l.length),∃ u,w.cell? ⟨b,o+i,none⟩=some u∧Ep F n w l[i] u)
theorem Ep.keep {F G:Nat→Prop} {w w':World} (hs:w.heap.size≤w'.heap.size) (hF:∀ b,F b→b < w.heap.size→G b∧∀ o,w'.cell? ⟨b,o,none⟩=w.cell? ⟨b,o,none⟩) :
  ∀ (n:Nat) (d:Nd) (v:Value),Ep F n w d v→Ep G n w' d v:=by
 intro n;induction n with
 | zero=>intro d v h;exact h
 | succ n ih=>
  have hrow:∀ (l:List Nd) (a:Option Addr),(0 < l.length→∃ b o,a=some ⟨b,o,none⟩∧F b∧b < w.heap.size∧∀ i (h:i < l.length),∃ u,w.cell? ⟨b,o+i,none⟩=some u∧Ep F n w l[i] u)→
    (0 < l.length→∃ b o,a=some ⟨b,o,none⟩∧G b∧b < w'.heap.size∧∀ i (h:i < l.length),∃ u,w'.cell? ⟨b,o+i,none⟩=some u∧Ep G n w' l[i] u):=by
   intro l a h h0;obtain ⟨b,o,rfl,hf,hb,hx⟩:=h h0;refine ⟨b,o,rfl,(hF b hf hb).1,Aef hb hs,fun i hi=>?_⟩;obtain ⟨u,hu,hr⟩:=hx i hi;exact ⟨u,((hF b hf hb).2 _).trans hu,ih _ _ hr⟩
  intro d v h;cases d with
  | empty=>exact h
  | one s=>exact h
  | cat l=>
   obtain ⟨a,cap,h1,h2,h3,h4⟩:=h;exact ⟨a,cap,h1,h2,h3,hrow l a h4⟩
  | alt l=>
   obtain ⟨a,cap,h1,h2,h3,h4⟩:=h;exact ⟨a,cap,h1,h2,h3,hrow l a h4⟩
  | rep d mn mx=>
   obtain ⟨u,h1,h2⟩:=h;exact ⟨u,h1,ih _ _ h2⟩
  | group num d=>
   obtain ⟨u,h1,h2⟩:=h;exact ⟨u,h1,ih _ _ h2⟩
  | back num=>exact h
  | start=>exact h
  | fin=>exact h
theorem Ep.below {F:Nat→Prop} {w w':World} (hb:Below w.heap.size w w') (n:Nat) (d:Nd) (v:Value) (h:Ep F n w d v):Ep F n w' d v:=
 h.keep hb.size (fun b hf hlt=>⟨hf,fun o=>hb.cell (p:=⟨b,o,none⟩) hlt⟩)
theorem Ep.more {F:Nat→Prop} {w:World}:∀ (n m:Nat) (d:Nd) (v:Value),n≤m→Ep F n w d v→Ep F m w d v:=by
 intro n;induction n with
 | zero=>intro m d v _ h;exact h.elim
 | succ n ih=>
  intro m d v hm h;obtain ⟨m,rfl⟩:∃ m',m=m'+1:=⟨m - 1,by omega⟩;have hrow:∀ (l:List Nd) (a:Option Addr),(0 < l.length→∃ b o,a=some ⟨b,o,none⟩∧F b∧b < w.heap.size∧∀ i (h:i < l.length),∃ u,w.cell? ⟨b,o+i,none⟩=some u∧Ep F n w l[i] u)→
    (0 < l.length→∃ b o,a=some ⟨b,o,none⟩∧F b∧b < w.heap.size∧∀ i (h:i < l.length),∃ u,w.cell? ⟨b,o+i,none⟩=some u∧Ep F m w l[i] u):=by
   intro l a h h0;obtain ⟨b,o,rfl,hf,hb,hx⟩:=h h0;refine ⟨b,o,rfl,hf,hb,fun i hi=>?_⟩;obtain ⟨u,hu,hr⟩:=hx i hi;exact ⟨u,hu,ih _ _ _ (by omega) hr⟩
  cases d with
  | empty=>exact h
  | one s=>exact h
  | cat l=>
   obtain ⟨a,cap,h1,h2,h3,h4⟩:=h;exact ⟨a,cap,h1,h2,h3,hrow l a h4⟩
  | alt l=>
   obtain ⟨a,cap,h1,h2,h3,h4⟩:=h;exact ⟨a,cap,h1,h2,h3,hrow l a h4⟩
  | rep d mn mx=>
   obtain ⟨u,h1,h2⟩:=h;exact ⟨u,h1,ih _ _ _ (by omega) h2⟩
  | group num d=>
   obtain ⟨u,h1,h2⟩:=h;exact ⟨u,h1,ih _ _ _ (by omega) h2⟩
  | back num=>exact h
  | start=>exact h
  | fin=>exact h
theorem Ax {F:Nat→Prop} {n:Nat} {w:World} {d:Nd} {v:Value} (h:Ep F n w d v):(∃ T p,v=.iface T p)∨v=.nilIface:=by
 cases n with
 | zero=>exact h.elim
 | succ n=>
  cases d with
  | empty=>exact h.elim (fun h=>.inl ⟨_,_,h⟩) .inr
  | one s=>exact .inl ⟨_,_,h⟩
  | cat l=>obtain ⟨a,cap,h1,_⟩:=h;exact .inl ⟨_,_,h1⟩
  | alt l=>obtain ⟨a,cap,h1,_⟩:=h;exact .inl ⟨_,_,h1⟩
  | rep d mn mx=>obtain ⟨u,h1,_⟩:=h;exact .inl ⟨_,_,h1⟩
  | group num d=>obtain ⟨u,h1,_⟩:=h;exact .inl ⟨_,_,h1⟩
  | back num=>exact .inl ⟨_,_,h⟩
  | start=>exact .inl ⟨_,_,h⟩
  | fin=>exact .inl ⟨_,_,h⟩
theorem Ag {w w':World} {base:Nat} {e:TypeId} {size:Nat} {v:Value} {n:Nat} {xs:List Value} (h:w.ownsRow base e size v n xs) (hb:Below w.heap.size w w'):w'.ownsRow base e size v n xs:=by
 obtain ⟨h1,h2⟩:=h;refine ⟨h1,?_⟩;rcases h2 with h2 | ⟨g,cap,cur,a,b,c,d⟩
 ·exact .inl h2
 ·exact .inr ⟨g,cap,cur,a,b,by rw [hb.block g (Array.getElem?_eq_some_iff.1 c).1];exact c,d⟩
theorem AL {w:World} {base:Nat} {e:TypeId} {size:Nat} {v:Value} {n:Nat} {xs:List Value} (h:w.ownsRow base e size v n xs):∀ k,v.ownBlock=some k→base≤k:=by
 obtain ⟨_,h2⟩:=h;intro k hk;rcases h2 with ⟨rfl,_⟩ | ⟨g,cap,cur,rfl,hg,_⟩
 ·simp [Value.ownBlock] at hk
 ·simp [Value.ownBlock] at hk;omega
end
section
open Go
section
variable {P:Program} {w:World}
theorem Av {ops:Array Oper} {o:Oper} {a:Act} {K:Act→World→Prop} {Q:Exit→Act→World→Prop} {E:Prop} (hgd:o.guard=none) (s x:Operand) (t:TypeId)
  (ho:o.op=.call { callee:=.builtin .append,args:=#[s,x],argTypes:=#[t,t] })
  (base:Nat) (e:TypeId) (i:TypeInfo) (z:Value) (size bytes:Nat) (ht:P.underlying t=some (.slice e)) (hi:P.info? e=some i) (hz:i.zero=some z)
  (hsize:i.size=size) (hby:i.bytes=bytes) (hzs:z.cells.size=size) (hsz:0 < size)
  (v:Value) (n:Nat) (xs:List Value) (hs:a.eval s=v) (hown:w.ownsRow base e size v n xs)
  (oa:Option Addr) (m c:Nat) (news:List Value) (hx:a.eval x=.slice oa m c) (hl:news.length=m * size) (hnews:0 < m→∃ a,oa=some a∧∀ j u,news[j]?=some u→w.cell? (a.add j)=some u) (h1:∀ u∈news,u.oneCell'=true)
  (h63:n+m≤maxLen) (hbytes:(n+m) * bytes≤140737488355328) (hbase:base≤w.heap.size)
  (h:∀ v' w',w'.ownsRow base e size v' (n+m) (xs++news)→w.grownBy w' v.ownBlock→(v'.ownBlock=v.ownBlock∨v'.ownBlock=some w.heap.size)→K (a.put o.dst v') w') :
  if Region.wanted o (yielded ops a.tmps)=true then Oper.wp P o a w K Q else E:=by
 rw [if_pos (by simp [Region.wanted,hgd])];obtain ⟨v',w',hr,h2,h3,h4⟩:=Eg (P:=P) w base t o.type e i z size bytes ht hi hz hsize hby hzs hsz v n xs hown oa m c news hl hnews h1 h63 hbytes hbase;unfold Oper.wp execOp;simp only [ho,resolve,invoke,builtin,Sem.run_bind,Sem.run_pure,Result.andThen_ok,List.map_toArray,List.map_cons,List.map_nil,hs,hx,hr];exact h v' w' h2 h3 h4
theorem Gh {base:Nat} {e:TypeId} {v:Value} {n:Nat} {xs:List Value} {w:World} (h:w.ownsRow base e 1 v n xs) (hx:xs.length=n) :
  ∃ a cap,v=.slice a n cap∧n≤cap∧cap≤maxLen∧(0 < n→∃ g,a=some ⟨g,0,none⟩∧base≤g∧g < w.heap.size∧∀ i (h:i < xs.length),w.cell? ⟨g,0+i,none⟩=some xs[i]):=by
 obtain ⟨h1,h2⟩:=h;rcases h2 with ⟨rfl,hz⟩ | ⟨g,cap,cur,rfl,hg,hh,hn,hcap,hcs,htk⟩
 ·subst hz;exact ⟨none,0,rfl,Aec _,Nat.zero_le _,fun h=>absurd h (by omega)⟩
 ·refine ⟨some ⟨g,0,none⟩,cap,rfl,hn,hcap,fun h0=>⟨g,rfl,hg,(Array.getElem?_eq_some_iff.1 hh).1,fun i hi=>?_⟩⟩;have h4:w.cell? ⟨g,0+i,none⟩=cur[i]?:=by simp [World.cell?,hh]
  have h5:(cur.toList.take (n * 1))[i]?=xs[i]?:=by rw [htk]
  rw [List.getElem?_take_of_lt (by omega)] at h5;rw [h4,←Array.getElem?_toList,h5,List.getElem?_eq_getElem hi]
end
end
section
open Go.RowKit
@[go_sem] theorem VD (p:Value) (w:World):(Instr.typeAssert (.iface 105 p) 38 105 true).run Tryz.prog w=.ok (.tuple #[p,.bool true]) w:=by kernel_rfl
@[go_sem] theorem YF (p:Value) (w:World):(Instr.typeAssert (.iface 105 p) 38 111 true).run Tryz.prog w=.ok (.tuple #[.agg #[.int .u64 0,.int .u64 0,.int .u64 0,.int .u64 0],.bool false]) w:=by kernel_rfl
@[go_sem] theorem Mw (p:Value) (w:World):(Instr.typeAssert (.iface 105 p) 38 98 true).run Tryz.prog w=.ok (.tuple #[.agg #[.slice none 0 0],.bool false]) w:=by kernel_rfl
@[go_sem] theorem YG (p:Value) (w:World):(Instr.typeAssert (.iface 105 p) 38 99 true).run Tryz.prog w=.ok (.tuple #[.agg #[.slice none 0 0],.bool false]) w:=by kernel_rfl
@[go_sem] theorem Mx (p:Value) (w:World):(Instr.typeAssert (.iface 105 p) 38 101 true).run Tryz.prog w=.ok (.tuple #[.agg #[.nilIface,.int .i64 0,.int .i64 0],.bool false]) w:=by kernel_rfl
@[go_sem] theorem JM (p:Value) (w:World):(Instr.typeAssert (.iface 105 p) 38 103 true).run Tryz.prog w=.ok (.tuple #[.agg #[.int .i64 0,.nilIface],.bool false]) w:=by kernel_rfl
@[go_sem] theorem KN (p:Value) (w:World):(Instr.typeAssert (.iface 105 p) 38 117 true).run Tryz.prog w=.ok (.tuple #[.agg #[.int .i64 0],.bool false]) w:=by kernel_rfl
@[go_sem] theorem JN (p:Value) (w:World):(Instr.typeAssert (.iface 105 p) 38 119 true).run Tryz.prog w=.ok (.tuple #[.agg #[],.bool false]) w:=by kernel_rfl
@[go_sem] theorem My (p:Value) (w:World):(Instr.typeAssert (.iface 105 p) 38 121 true).run Tryz.prog w=.ok (.tuple #[.agg #[],.bool false]) w:=by kernel_rfl
@[go_sem] theorem YH (p:Value) (w:World):(Instr.typeAssert (.iface 111 p) 38 105 true).run Tryz.prog w=.ok (.tuple #[.agg #[],.bool false]) w:=by kernel_rfl
@[go_sem] theorem Abs (p:Value) (w:World):(Instr.typeAssert (.iface 111 p) 38 111 true).run Tryz.prog w=.ok (.tuple #[p,.bool true]) w:=by kernel_rfl
@[go_sem] theorem PE (p:Value) (w:World):(Instr.typeAssert (.iface 111 p) 38 98 true).run Tryz.prog w=.ok (.tuple #[.agg #[.slice none 0 0],.bool false]) w:=by kernel_rfl
@[go_sem] theorem Abt (p:Value) (w:World):(Instr.typeAssert (.iface 111 p) 38 99 true).run Tryz.prog w=.ok (.tuple #[.agg #[.slice none 0 0],.bool false]) w:=by kernel_rfl
@[go_sem] theorem PF (p:Value) (w:World):(Instr.typeAssert (.iface 111 p) 38 101 true).run Tryz.prog w=.ok (.tuple #[.agg #[.nilIface,.int .i64 0,.int .i64 0],.bool false]) w:=by kernel_rfl
@[go_sem] theorem Mz (p:Value) (w:World):(Instr.typeAssert (.iface 111 p) 38 103 true).run Tryz.prog w=.ok (.tuple #[.agg #[.int .i64 0,.nilIface],.bool false]) w:=by kernel_rfl
@[go_sem] theorem NN (p:Value) (w:World):(Instr.typeAssert (.iface 111 p) 38 117 true).run Tryz.prog w=.ok (.tuple #[.agg #[.int .i64 0],.bool false]) w:=by kernel_rfl
@[go_sem] theorem M0 (p:Value) (w:World):(Instr.typeAssert (.iface 111 p) 38 119 true).run Tryz.prog w=.ok (.tuple #[.agg #[],.bool false]) w:=by kernel_rfl
@[go_sem] theorem PG (p:Value) (w:World):(Instr.typeAssert (.iface 111 p) 38 121 true).run Tryz.prog w=.ok (.tuple #[.agg #[],.bool false]) w:=by kernel_rfl
@[go_sem] theorem YI (p:Value) (w:World):(Instr.typeAssert (.iface 98 p) 38 105 true).run Tryz.prog w=.ok (.tuple #[.agg #[],.bool false]) w:=by kernel_rfl
@[go_sem] theorem Abu (p:Value) (w:World):(Instr.typeAssert (.iface 98 p) 38 111 true).run Tryz.prog w=.ok (.tuple #[.agg #[.int .u64 0,.int .u64 0,.int .u64 0,.int .u64 0],.bool false]) w:=by kernel_rfl
@[go_sem] theorem PH (p:Value) (w:World):(Instr.typeAssert (.iface 98 p) 38 98 true).run Tryz.prog w=.ok (.tuple #[p,.bool true]) w:=by kernel_rfl
@[go_sem] theorem Abv (p:Value) (w:World):(Instr.typeAssert (.iface 98 p) 38 99 true).run Tryz.prog w=.ok (.tuple #[.agg #[.slice none 0 0],.bool false]) w:=by kernel_rfl
@[go_sem] theorem PI (p:Value) (w:World):(Instr.typeAssert (.iface 98 p) 38 101 true).run Tryz.prog w=.ok (.tuple #[.agg #[.nilIface,.int .i64 0,.int .i64 0],.bool false]) w:=by kernel_rfl
@[go_sem] theorem M1 (p:Value) (w:World):(Instr.typeAssert (.iface 98 p) 38 103 true).run Tryz.prog w=.ok (.tuple #[.agg #[.int .i64 0,.nilIface],.bool false]) w:=by kernel_rfl
@[go_sem] theorem NO (p:Value) (w:World):(Instr.typeAssert (.iface 98 p) 38 117 true).run Tryz.prog w=.ok (.tuple #[.agg #[.int .i64 0],.bool false]) w:=by kernel_rfl
@[go_sem] theorem M2 (p:Value) (w:World):(Instr.typeAssert (.iface 98 p) 38 119 true).run Tryz.prog w=.ok (.tuple #[.agg #[],.bool false]) w:=by kernel_rfl
@[go_sem] theorem PJ (p:Value) (w:World):(Instr.typeAssert (.iface 98 p) 38 121 true).run Tryz.prog w=.ok (.tuple #[.agg #[],.bool false]) w:=by kernel_rfl
@[go_sem] theorem YJ (p:Value) (w:World):(Instr.typeAssert (.iface 99 p) 38 105 true).run Tryz.prog w=.ok (.tuple #[.agg #[],.bool false]) w:=by kernel_rfl
@[go_sem] theorem Abw (p:Value) (w:World):(Instr.typeAssert (.iface 99 p) 38 111 true).run Tryz.prog w=.ok (.tuple #[.agg #[.int .u64 0,.int .u64 0,.int .u64 0,.int .u64 0],.bool false]) w:=by kernel_rfl
@[go_sem] theorem PK (p:Value) (w:World):(Instr.typeAssert (.iface 99 p) 38 98 true).run Tryz.prog w=.ok (.tuple #[.agg #[.slice none 0 0],.bool false]) w:=by kernel_rfl
@[go_sem] theorem Abx (p:Value) (w:World):(Instr.typeAssert (.iface 99 p) 38 99 true).run Tryz.prog w=.ok (.tuple #[p,.bool true]) w:=by kernel_rfl
@[go_sem] theorem PL (p:Value) (w:World):(Instr.typeAssert (.iface 99 p) 38 101 true).run Tryz.prog w=.ok (.tuple #[.agg #[.nilIface,.int .i64 0,.int .i64 0],.bool false]) w:=by kernel_rfl
@[go_sem] theorem M3 (p:Value) (w:World):(Instr.typeAssert (.iface 99 p) 38 103 true).run Tryz.prog w=.ok (.tuple #[.agg #[.int .i64 0,.nilIface],.bool false]) w:=by kernel_rfl
@[go_sem] theorem NP (p:Value) (w:World):(Instr.typeAssert (.iface 99 p) 38 117 true).run Tryz.prog w=.ok (.tuple #[.agg #[.int .i64 0],.bool false]) w:=by kernel_rfl
@[go_sem] theorem M4 (p:Value) (w:World):(Instr.typeAssert (.iface 99 p) 38 119 true).run Tryz.prog w=.ok (.tuple #[.agg #[],.bool false]) w:=by kernel_rfl
@[go_sem] theorem PM (p:Value) (w:World):(Instr.typeAssert (.iface 99 p) 38 121 true).run Tryz.prog w=.ok (.tuple #[.agg #[],.bool false]) w:=by kernel_rfl
@[go_sem] theorem YK (p:Value) (w:World):(Instr.typeAssert (.iface 101 p) 38 105 true).run Tryz.prog w=.ok (.tuple #[.agg #[],.bool false]) w:=by kernel_rfl
@[go_sem] theorem Aby (p:Value) (w:World):(Instr.typeAssert (.iface 101 p) 38 111 true).run Tryz.prog w=.ok (.tuple #[.agg #[.int .u64 0,.int .u64 0,.int .u64 0,.int .u64 0],.bool false]) w:=by kernel_rfl
@[go_sem] theorem PN (p:Value) (w:World):(Instr.typeAssert (.iface 101 p) 38 98 true).run Tryz.prog w=.ok (.tuple #[.agg #[.slice none 0 0],.bool false]) w:=by kernel_rfl
@[go_sem] theorem Abz (p:Value) (w:World):(Instr.typeAssert (.iface 101 p) 38 99 true).run Tryz.prog w=.ok (.tuple #[.agg #[.slice none 0 0],.bool false]) w:=by kernel_rfl
@[go_sem] theorem PO (p:Value) (w:World):(Instr.typeAssert (.iface 101 p) 38 101 true).run Tryz.prog w=.ok (.tuple #[p,.bool true]) w:=by kernel_rfl
@[go_sem] theorem M7 (p:Value) (w:World):(Instr.typeAssert (.iface 101 p) 38 103 true).run Tryz.prog w=.ok (.tuple #[.agg #[.int .i64 0,.nilIface],.bool false]) w:=by kernel_rfl
@[go_sem] theorem NQ (p:Value) (w:World):(Instr.typeAssert (.iface 101 p) 38 117 true).run Tryz.prog w=.ok (.tuple #[.agg #[.int .i64 0],.bool false]) w:=by kernel_rfl
@[go_sem] theorem M8 (p:Value) (w:World):(Instr.typeAssert (.iface 101 p) 38 119 true).run Tryz.prog w=.ok (.tuple #[.agg #[],.bool false]) w:=by kernel_rfl
@[go_sem] theorem PP (p:Value) (w:World):(Instr.typeAssert (.iface 101 p) 38 121 true).run Tryz.prog w=.ok (.tuple #[.agg #[],.bool false]) w:=by kernel_rfl
@[go_sem] theorem VE (p:Value) (w:World):(Instr.typeAssert (.iface 103 p) 38 105 true).run Tryz.prog w=.ok (.tuple #[.agg #[],.bool false]) w:=by kernel_rfl
@[go_sem] theorem YL (p:Value) (w:World):(Instr.typeAssert (.iface 103 p) 38 111 true).run Tryz.prog w=.ok (.tuple #[.agg #[.int .u64 0,.int .u64 0,.int .u64 0,.int .u64 0],.bool false]) w:=by kernel_rfl
@[go_sem] theorem M9 (p:Value) (w:World):(Instr.typeAssert (.iface 103 p) 38 98 true).run Tryz.prog w=.ok (.tuple #[.agg #[.slice none 0 0],.bool false]) w:=by kernel_rfl
@[go_sem] theorem YM (p:Value) (w:World):(Instr.typeAssert (.iface 103 p) 38 99 true).run Tryz.prog w=.ok (.tuple #[.agg #[.slice none 0 0],.bool false]) w:=by kernel_rfl
@[go_sem] theorem MA (p:Value) (w:World):(Instr.typeAssert (.iface 103 p) 38 101 true).run Tryz.prog w=.ok (.tuple #[.agg #[.nilIface,.int .i64 0,.int .i64 0],.bool false]) w:=by kernel_rfl
@[go_sem] theorem JO (p:Value) (w:World):(Instr.typeAssert (.iface 103 p) 38 103 true).run Tryz.prog w=.ok (.tuple #[p,.bool true]) w:=by kernel_rfl
@[go_sem] theorem KO (p:Value) (w:World):(Instr.typeAssert (.iface 103 p) 38 117 true).run Tryz.prog w=.ok (.tuple #[.agg #[.int .i64 0],.bool false]) w:=by kernel_rfl
@[go_sem] theorem JP (p:Value) (w:World):(Instr.typeAssert (.iface 103 p) 38 119 true).run Tryz.prog w=.ok (.tuple #[.agg #[],.bool false]) w:=by kernel_rfl
@[go_sem] theorem MB (p:Value) (w:World):(Instr.typeAssert (.iface 103 p) 38 121 true).run Tryz.prog w=.ok (.tuple #[.agg #[],.bool false]) w:=by kernel_rfl
@[go_sem] theorem XY (p:Value) (w:World):(Instr.typeAssert (.iface 117 p) 38 105 true).run Tryz.prog w=.ok (.tuple #[.agg #[],.bool false]) w:=by kernel_rfl
@[go_sem] theorem Aad (p:Value) (w:World):(Instr.typeAssert (.iface 117 p) 38 111 true).run Tryz.prog w=.ok (.tuple #[.agg #[.int .u64 0,.int .u64 0,.int .u64 0,.int .u64 0],.bool false]) w:=by kernel_rfl
@[go_sem] theorem NS (p:Value) (w:World):(Instr.typeAssert (.iface 117 p) 38 98 true).run Tryz.prog w=.ok (.tuple #[.agg #[.slice none 0 0],.bool false]) w:=by kernel_rfl
@[go_sem] theorem Aae (p:Value) (w:World):(Instr.typeAssert (.iface 117 p) 38 99 true).run Tryz.prog w=.ok (.tuple #[.agg #[.slice none 0 0],.bool false]) w:=by kernel_rfl
@[go_sem] theorem NT (p:Value) (w:World):(Instr.typeAssert (.iface 117 p) 38 101 true).run Tryz.prog w=.ok (.tuple #[.agg #[.nilIface,.int .i64 0,.int .i64 0],.bool false]) w:=by kernel_rfl
@[go_sem] theorem KP (p:Value) (w:World):(Instr.typeAssert (.iface 117 p) 38 103 true).run Tryz.prog w=.ok (.tuple #[.agg #[.int .i64 0,.nilIface],.bool false]) w:=by kernel_rfl
@[go_sem] theorem MC (p:Value) (w:World):(Instr.typeAssert (.iface 117 p) 38 117 true).run Tryz.prog w=.ok (.tuple #[p,.bool true]) w:=by kernel_rfl
@[go_sem] theorem KQ (p:Value) (w:World):(Instr.typeAssert (.iface 117 p) 38 119 true).run Tryz.prog w=.ok (.tuple #[.agg #[],.bool false]) w:=by kernel_rfl
@[go_sem] theorem NU (p:Value) (w:World):(Instr.typeAssert (.iface 117 p) 38 121 true).run Tryz.prog w=.ok (.tuple #[.agg #[],.bool false]) w:=by kernel_rfl
@[go_sem] theorem VF (p:Value) (w:World):(Instr.typeAssert (.iface 119 p) 38 105 true).run Tryz.prog w=.ok (.tuple #[.agg #[],.bool false]) w:=by kernel_rfl
@[go_sem] theorem YN (p:Value) (w:World):(Instr.typeAssert (.iface 119 p) 38 111 true).run Tryz.prog w=.ok (.tuple #[.agg #[.int .u64 0,.int .u64 0,.int .u64 0,.int .u64 0],.bool false]) w:=by kernel_rfl
@[go_sem] theorem MD (p:Value) (w:World):(Instr.typeAssert (.iface 119 p) 38 98 true).run Tryz.prog w=.ok (.tuple #[.agg #[.slice none 0 0],.bool false]) w:=by kernel_rfl
@[go_sem] theorem YO (p:Value) (w:World):(Instr.typeAssert (.iface 119 p) 38 99 true).run Tryz.prog w=.ok (.tuple #[.agg #[.slice none 0 0],.bool false]) w:=by kernel_rfl
@[go_sem] theorem ME (p:Value) (w:World):(Instr.typeAssert (.iface 119 p) 38 101 true).run Tryz.prog w=.ok (.tuple #[.agg #[.nilIface,.int .i64 0,.int .i64 0],.bool false]) w:=by kernel_rfl
@[go_sem] theorem JQ (p:Value) (w:World):(Instr.typeAssert (.iface 119 p) 38 103 true).run Tryz.prog w=.ok (.tuple #[.agg #[.int .i64 0,.nilIface],.bool false]) w:=by kernel_rfl
@[go_sem] theorem KR (p:Value) (w:World):(Instr.typeAssert (.iface 119 p) 38 117 true).run Tryz.prog w=.ok (.tuple #[.agg #[.int .i64 0],.bool false]) w:=by kernel_rfl
@[go_sem] theorem JR (p:Value) (w:World):(Instr.typeAssert (.iface 119 p) 38 119 true).run Tryz.prog w=.ok (.tuple #[p,.bool true]) w:=by kernel_rfl
@[go_sem] theorem MF (p:Value) (w:World):(Instr.typeAssert (.iface 119 p) 38 121 true).run Tryz.prog w=.ok (.tuple #[.agg #[],.bool false]) w:=by kernel_rfl
@[go_sem] theorem YP (p:Value) (w:World):(Instr.typeAssert (.iface 121 p) 38 105 true).run Tryz.prog w=.ok (.tuple #[.agg #[],.bool false]) w:=by kernel_rfl
@[go_sem] theorem Ab0 (p:Value) (w:World):(Instr.typeAssert (.iface 121 p) 38 111 true).run Tryz.prog w=.ok (.tuple #[.agg #[.int .u64 0,.int .u64 0,.int .u64 0,.int .u64 0],.bool false]) w:=by kernel_rfl
@[go_sem] theorem PQ (p:Value) (w:World):(Instr.typeAssert (.iface 121 p) 38 98 true).run Tryz.prog w=.ok (.tuple #[.agg #[.slice none 0 0],.bool false]) w:=by kernel_rfl
@[go_sem] theorem Ab1 (p:Value) (w:World):(Instr.typeAssert (.iface 121 p) 38 99 true).run Tryz.prog w=.ok (.tuple #[.agg #[.slice none 0 0],.bool false]) w:=by kernel_rfl
@[go_sem] theorem PR (p:Value) (w:World):(Instr.typeAssert (.iface 121 p) 38 101 true).run Tryz.prog w=.ok (.tuple #[.agg #[.nilIface,.int .i64 0,.int .i64 0],.bool false]) w:=by kernel_rfl
@[go_sem] theorem MG (p:Value) (w:World):(Instr.typeAssert (.iface 121 p) 38 103 true).run Tryz.prog w=.ok (.tuple #[.agg #[.int .i64 0,.nilIface],.bool false]) w:=by kernel_rfl
@[go_sem] theorem NV (p:Value) (w:World):(Instr.typeAssert (.iface 121 p) 38 117 true).run Tryz.prog w=.ok (.tuple #[.agg #[.int .i64 0],.bool false]) w:=by kernel_rfl
@[go_sem] theorem MH (p:Value) (w:World):(Instr.typeAssert (.iface 121 p) 38 119 true).run Tryz.prog w=.ok (.tuple #[.agg #[],.bool false]) w:=by kernel_rfl
@[go_sem] theorem PS (p:Value) (w:World):(Instr.typeAssert (.iface 121 p) 38 121 true).run Tryz.prog w=.ok (.tuple #[p,.bool true]) w:=by kernel_rfl
@[go_sem] theorem YQ (w:World):(Instr.typeAssert .nilIface 38 105 true).run Tryz.prog w=.ok (.tuple #[.agg #[],.bool false]) w:=by kernel_rfl
@[go_sem] theorem Ab2 (w:World):(Instr.typeAssert .nilIface 38 111 true).run Tryz.prog w=.ok (.tuple #[.agg #[.int .u64 0,.int .u64 0,.int .u64 0,.int .u64 0],.bool false]) w:=by kernel_rfl
@[go_sem] theorem PT (w:World):(Instr.typeAssert .nilIface 38 98 true).run Tryz.prog w=.ok (.tuple #[.agg #[.slice none 0 0],.bool false]) w:=by kernel_rfl
@[go_sem] theorem Ab3 (w:World):(Instr.typeAssert .nilIface 38 99 true).run Tryz.prog w=.ok (.tuple #[.agg #[.slice none 0 0],.bool false]) w:=by kernel_rfl
@[go_sem] theorem PU (w:World):(Instr.typeAssert .nilIface 38 101 true).run Tryz.prog w=.ok (.tuple #[.agg #[.nilIface,.int .i64 0,.int .i64 0],.bool false]) w:=by kernel_rfl
@[go_sem] theorem MI (w:World):(Instr.typeAssert .nilIface 38 103 true).run Tryz.prog w=.ok (.tuple #[.agg #[.int .i64 0,.nilIface],.bool false]) w:=by kernel_rfl
@[go_sem] theorem NW (w:World):(Instr.typeAssert .nilIface 38 117 true).run Tryz.prog w=.ok (.tuple #[.agg #[.int .i64 0],.bool false]) w:=by kernel_rfl
@[go_sem] theorem MJ (w:World):(Instr.typeAssert .nilIface 38 119 true).run Tryz.prog w=.ok (.tuple #[.agg #[],.bool false]) w:=by kernel_rfl
@[go_sem] theorem PV (w:World):(Instr.typeAssert .nilIface 38 121 true).run Tryz.prog w=.ok (.tuple #[.agg #[],.bool false]) w:=by kernel_rfl
def NdX (F:Nat→Prop) (w:World) (d:Nd) (v:Value):Prop:=∃ n,Ep F n w d v
def AW (F:Nat→Prop) (w:World) (l:List Nd) (a:Option Addr) (cap:Nat):Prop:=
 l.length≤cap∧cap≤maxLen∧(0 < l.length→∃ b o,a=some ⟨b,o,none⟩∧F b∧b < w.heap.size∧∀ i (h:i < l.length),∃ u,w.cell? ⟨b,o+i,none⟩=some u∧NdX F w l[i] u)
theorem NdX.keep {F G:Nat→Prop} {w w':World} (hs:w.heap.size≤w'.heap.size) (hF:∀ b,F b→b < w.heap.size→G b∧∀ o,w'.cell? ⟨b,o,none⟩=w.cell? ⟨b,o,none⟩) {d:Nd} {v:Value} (h:NdX F w d v):NdX G w' d v:=by
 obtain ⟨n,h⟩:=h;exact ⟨n,Ep.keep hs hF n d v h⟩
theorem AW.keep {F G:Nat→Prop} {w w':World} (hs:w.heap.size≤w'.heap.size) (hF:∀ b,F b→b < w.heap.size→G b∧∀ o,w'.cell? ⟨b,o,none⟩=w.cell? ⟨b,o,none⟩) {l:List Nd} {a:Option Addr} {cap:Nat} (h:AW F w l a cap):AW G w' l a cap:=by
 refine ⟨h.1,h.2.1,fun h0=>?_⟩;obtain ⟨b,o,rfl,hf,hb,hx⟩:=h.2.2 h0;refine ⟨b,o,rfl,(hF b hf hb).1,Aef hb hs,fun i hi=>?_⟩;obtain ⟨u,hu,hr⟩:=hx i hi;exact ⟨u,((hF b hf hb).2 _).trans hu,hr.keep hs hF⟩
theorem NdX.below {F:Nat→Prop} {w w':World} (hb:Below w.heap.size w w') {d:Nd} {v:Value} (h:NdX F w d v):NdX F w' d v:=
 h.keep hb.size (fun b hf hlt=>⟨hf,fun o=>hb.cell (p:=⟨b,o,none⟩) hlt⟩)
theorem AW.below {F:Nat→Prop} {w w':World} (hb:Below w.heap.size w w') {l:List Nd} {a:Option Addr} {cap:Nat} (h:AW F w l a cap):AW F w' l a cap:=
 h.keep hb.size (fun b hf hlt=>⟨hf,fun o=>hb.cell (p:=⟨b,o,none⟩) hlt⟩)
theorem NdX.drew {F:Nat→Prop} {w:World} {d:Nd} {v:Value} (h:NdX F w d v):NdX F w.drew d v:=h.below (Below.drew (Aeh _ _))
theorem AW.drew {F:Nat→Prop} {w:World} {l:List Nd} {a:Option Addr} {cap:Nat} (h:AW F w l a cap):AW F w.drew l a cap:=h.below (Below.drew (Aeh _ _))
theorem AW.nil (F:Nat→Prop) (w:World) (a:Option Addr) (cap:Nat) (h:cap≤maxLen):AW F w [] a cap:=⟨Nat.zero_le _,h,fun h=>absurd h (by simp)⟩
theorem AW.of {F:Nat→Prop} {n:Nat} {w:World} {l:List Nd} {a:Option Addr} {cap:Nat} (h:Aac F n w l a cap):AW F w l a cap:=by
 refine ⟨h.1,h.2.1,fun h0=>?_⟩;obtain ⟨b,o,rfl,hf,hb,hx⟩:=h.2.2 h0;refine ⟨b,o,rfl,hf,hb,fun i hi=>?_⟩;obtain ⟨u,hu,hr⟩:=hx i hi;exact ⟨u,hu,n,hr⟩
theorem AW.tail {F:Nat→Prop} {w:World} {d:Nd} {l:List Nd} {a:Option Addr} {cap:Nat} (h:AW F w (d :: l) a cap) :
  ∃ b o u,a=some ⟨b,o,none⟩∧F b∧b < w.heap.size∧1≤cap∧w.cell? ⟨b,o,none⟩=some u∧NdX F w d u∧AW F w l (some ⟨b,o+1,none⟩) (cap - 1):=by
 obtain ⟨b,o,rfl,hf,hb,hx⟩:=h.2.2 (by simp);obtain ⟨u,hu,hr⟩:=hx 0 (by simp);have h1:=h.1;have h2:=h.2.1;simp at h1;refine ⟨b,o,u,rfl,hf,hb,by omega,hu,hr,by omega,by omega,fun _=>⟨b,o+1,rfl,hf,hb,fun i hi=>?_⟩⟩;obtain ⟨u',hu',hr'⟩:=hx (i+1) (by simpa using hi);exact ⟨u',by rw [←hu',Nat.add_assoc,Nat.add_comm 1 i],by simpa using hr'⟩
theorem H8 {F G:Nat→Prop} {w:World} {d:Nd} {u:Value} {T:TypeId} {k:Nat} (hk:w.heap.size=k) (h:NdX F w d u) (hG:∀ b,F b→b < w.heap.size→G b) (hn:G w.heap.size):AW G (w.alloc (.cells #[u] T)) [d] (some ⟨k,0,none⟩) 1:=by
 subst hk;have hb:=Blk.new w #[u] T _ rfl;refine ⟨Aec _,by decide,fun _=>⟨w.heap.size,0,rfl,hn,hb.lt,fun i hi=>?_⟩⟩;obtain rfl:i=0:=by simp at hi;exact hi
 have hB:=(Aeh w.heap.size w).alloc (Aec _) (.cells #[u] T);exact ⟨u,(hb.cell 0).trans rfl,h.keep hB.size (fun b hf hlt=>⟨hG b hf hlt,fun o=>hB.cell (p:=⟨b,o,none⟩) hlt⟩)⟩
theorem Iu {F:Nat→Prop} (d:Nd) (v:Value) (w:World) (h:NdX F w d v) :
  Calls Tryz.prog 35 #[v] w fun e w'=>∃ a cap,e=.returned (.slice a (Ck d).length cap)∧AW (fun b=>F b∨w.heap.size≤b) w' (Ck d) a cap∧Below w.heap.size w w':=by
 obtain ⟨n,h⟩:=h;cases n with
 | zero=>exact h.elim
 | succ n=>
  cases d with
  | empty=>
   rcases h with rfl | rfl
   ·go_enter Tryz.func35,Tryz.ntmps35;go_wp2_with fail
    go_ret;exact ⟨none,0,rfl,AW.nil _ _ _ _ (by decide),Aeh _ _⟩
   ·go_enter Tryz.func35,Tryz.ntmps35;go_wp2_with fail
    go_ret;exact ⟨none,0,rfl,AW.nil _ _ _ _ (by decide),Aeh _ _⟩
  | one s=>
   obtain rfl:=h;go_enter Tryz.func35,Tryz.ntmps35;go_wp2_with fail
   go_ret;exact ⟨none,0,rfl,AW.nil _ _ _ _ (by decide),Aeh _ _⟩
  | back num=>
   obtain rfl:=h;go_enter Tryz.func35,Tryz.ntmps35;go_wp2_with fail
   go_ret;exact ⟨none,0,rfl,AW.nil _ _ _ _ (by decide),Aeh _ _⟩
  | start=>
   obtain rfl:=h;go_enter Tryz.func35,Tryz.ntmps35;go_wp2_with fail
   go_ret;exact ⟨none,0,rfl,AW.nil _ _ _ _ (by decide),Aeh _ _⟩
  | fin=>
   obtain rfl:=h;go_enter Tryz.func35,Tryz.ntmps35;go_wp2_with fail
   go_ret;exact ⟨none,0,rfl,AW.nil _ _ _ _ (by decide),Aeh _ _⟩
  | cat l=>
   obtain ⟨a,cap,rfl,hx⟩:=h;have hR:AW F w l a cap:=AW.of (n:=n) hx;clear hx;go_enter Tryz.func35,Tryz.ntmps35;go_wp2_with fail
   go_ret;have hB:=(Aeh w.heap.size w).alloc (Aec _) (.cells #[.slice a l.length cap] 98);exact ⟨a,cap,rfl,hR.keep hB.size (fun b hf hlt=>⟨.inl hf,fun o=>hB.cell (p:=⟨b,o,none⟩) hlt⟩),hB⟩
  | alt l=>
   obtain ⟨a,cap,rfl,hx⟩:=h;have hR:AW F w l a cap:=AW.of (n:=n) hx;clear hx;go_enter Tryz.func35,Tryz.ntmps35;go_wp2_with fail
   go_ret;have hB:=(Aeh w.heap.size w).alloc (Aec _) (.cells #[.slice a l.length cap] 99);exact ⟨a,cap,rfl,hR.keep hB.size (fun b hf hlt=>⟨.inl hf,fun o=>hB.cell (p:=⟨b,o,none⟩) hlt⟩),hB⟩
  | rep d mn mx=>
   obtain ⟨u,rfl,hu⟩:=h;have hX:NdX F w d u:=⟨n,hu⟩
   rcases Ax hu with ⟨T,q,rfl⟩ | rfl
   ·clear hu;go_enter Tryz.func35,Tryz.ntmps35;go_wp2_with fail
    go_ret;have hB:=(Aeh w.heap.size w).alloc (Aec _) (.cells #[.iface T q,.int .i64 mn,.int .i64 mx] 101);refine ⟨_,_,rfl,H8 (G:=fun b=>F b∨w.heap.size≤b) (by simp) (hX.below hB) (fun b hf _=>.inl hf) (.inr hB.size),hB.alloc hB.size _⟩
   ·clear hu;go_enter Tryz.func35,Tryz.ntmps35;go_wp2_with fail
    go_ret;have hB:=(Aeh w.heap.size w).alloc (Aec _) (.cells #[.nilIface,.int .i64 mn,.int .i64 mx] 101);refine ⟨_,_,rfl,H8 (G:=fun b=>F b∨w.heap.size≤b) (by simp) (hX.below hB) (fun b hf _=>.inl hf) (.inr hB.size),hB.alloc hB.size _⟩
  | group num d=>
   obtain ⟨u,rfl,hu⟩:=h;have hX:NdX F w d u:=⟨n,hu⟩
   rcases Ax hu with ⟨T,q,rfl⟩ | rfl
   ·clear hu;go_enter Tryz.func35,Tryz.ntmps35;go_wp2_with fail
    go_ret;have hB:=(Aeh w.heap.size w).alloc (Aec _) (.cells #[.int .i64 num,.iface T q] 103);refine ⟨_,_,rfl,H8 (G:=fun b=>F b∨w.heap.size≤b) (by simp) (hX.below hB) (fun b hf _=>.inl hf) (.inr hB.size),hB.alloc hB.size _⟩
   ·clear hu;go_enter Tryz.func35,Tryz.ntmps35;go_wp2_with fail
    go_ret;have hB:=(Aeh w.heap.size w).alloc (Aec _) (.cells #[.int .i64 num,.nilIface] 103);refine ⟨_,_,rfl,H8 (G:=fun b=>F b∨w.heap.size≤b) (by simp) (hX.below hB) (fun b hf _=>.inl hf) (.inr hB.size),hB.alloc hB.size _⟩
end
section
open Go Go.RowKit
theorem Boxed.ne_of {W:World} {A B:Nat} {t u:TypeId} {v x:Value} (h:Boxed W A t v) (k:Boxed W B u x) (htu:t≠u):A≠B:=by
 intro e;subst e;have:=(show W.heap[A]?=_ from h).symm.trans k;simp at this;exact htu this.2
theorem Boxed.same {W W':World} {B:Nat} {t:TypeId} {v:Value} (h:Boxed W B t v) (k:W'.heap[B]?=W.heap[B]?):Boxed W' B t v:=k.trans h
theorem Aa {w w':World} {base:Nat} {e:TypeId} {size:Nat} {v:Value} {n:Nat} {xs:List Value} (h:w.ownsRow base e size v n xs) (hb:∀ g,v.ownBlock=some g→w'.heap[g]?=w.heap[g]?):w'.ownsRow base e size v n xs:=by
 obtain ⟨h1,h2⟩:=h;refine ⟨h1,?_⟩;rcases h2 with h2 | ⟨g,cap,cur,rfl,b,c,d⟩
 ·exact .inl h2
 ·exact .inr ⟨g,cap,cur,rfl,b,(hb g rfl).trans c,d⟩
theorem RQ {w:World} {base:Nat} {e:TypeId} {size g n cap m:Nat} {xs:List Value} (h:w.ownsRow base e size (.slice (some ⟨g,0,none⟩) n cap) m xs):n≤cap:=by
 rcases h.2 with ⟨e,_⟩ | ⟨g5,cap5,cur5,e,_,_,h5,_⟩
 ·cases e
 ·simp only [Value.slice.injEq] at e;omega
def StkC (G:Nat→Prop) (W:World):List (Nd × List Nd)→List Value→Prop
 | [],us=>us=[]
 | x :: s,us=>∃ v a cap us',us=v :: .slice a x.2.length cap :: us'∧NdX G W x.1 v∧AW G W x.2 a cap∧StkC G W s us'
theorem StkC.len {G:Nat→Prop} {W:World}:∀ {s:List (Nd × List Nd)} {us:List Value},StkC G W s us→us.length=s.length * 2
 | [],us,h=>by rw [show us=[] from h];rfl
 | x :: s,us,⟨v,a,cap,us',h,_,_,h4⟩=>by rw [h];have:=StkC.len h4;simp [this];omega
theorem StkC.keep {F G:Nat→Prop} {W W':World} (hs:W.heap.size≤W'.heap.size) (hF:∀ b,F b→b < W.heap.size→G b∧∀ o,W'.cell? ⟨b,o,none⟩=W.cell? ⟨b,o,none⟩) :
  ∀ {s:List (Nd × List Nd)} {us:List Value},StkC F W s us→StkC G W' s us
 | [],_,h=>h
 | _ :: _,_,⟨v,a,cap,us',h,h2,h3,h4⟩=>⟨v,a,cap,us',h,h2.keep hs hF,h3.keep hs hF,StkC.keep hs hF h4⟩
theorem StkC.snoc {G:Nat→Prop} {W:World} {d:Nd} {r:List Nd} {v:Value} {a:Option Addr} {cap:Nat} (hd:NdX G W d v) (hr:AW G W r a cap) :
  ∀ {s:List (Nd × List Nd)} {us:List Value},StkC G W s us→StkC G W (s++[(d,r)]) (us++[v,.slice a r.length cap])
 | [],us,h=>by obtain rfl:us=[]:=h;exact ⟨v,a,cap,[],rfl,hd,hr,rfl⟩
 | _ :: _,_,⟨v',a',cap',us',h,h2,h3,h4⟩=>⟨v',a',cap',_,by rw [h];rfl,h2,h3,StkC.snoc hd hr h4⟩
theorem StkC.last {G:Nat→Prop} {W:World} {d:Nd} {r:List Nd} :
  ∀ {s:List (Nd × List Nd)} {us:List Value},StkC G W (s++[(d,r)]) us→∃ us' v a cap,us=us'++[v,.slice a r.length cap]∧NdX G W d v∧AW G W r a cap∧StkC G W s us'
 | [],us,⟨v,a,cap,us',h,h2,h3,h4⟩=>by obtain rfl:us'=[]:=h4;exact ⟨[],v,a,cap,h,h2,h3,rfl⟩
 | x :: s,us,⟨v',a',cap',us',h,h2,h3,h4⟩=>by
  obtain ⟨us2,v,a,cap,e,g2,g3,g4⟩:=StkC.last h4;exact ⟨v' :: .slice a' x.2.length cap' :: us2,v,a,cap,by rw [h,e];rfl,g2,g3,v',a',cap',us2,rfl,h2,h3,g4⟩
def Lies (n₀ base:Nat) (C:Nat→Prop) (S:Nat) (sv:Value) (b:Nat):Prop:=b < n₀∨(base≤b∧¬ C b∧b≠S∧sv.ownBlock≠some b)
theorem NX {n₀ base:Nat} {C:Nat→Prop} {S:Nat} {sv:Value} {W:World} {d:Nd} {v:Value} (h:NdX (Lies n₀ base C S sv) W d v):NdX (fun k=>k < n₀∨(base≤k∧¬ C k)) W d v:=
 h.keep (Aec _) (fun _ hb _=>⟨Or.elim hb .inl (fun h=>.inr ⟨h.1,h.2.1⟩),fun _=>rfl⟩)
structure Stk (n₀ base S Y l:Nat) (C:Nat→Prop) (W:World) (s:List (Nd × List Nd)) (sv:Value) (us:List Value):Prop where
 box:Boxed W S 218 sv
 yld:Boxed W Y 217 (.func (.yield l) #[] #[])
 bS:base≤S
 bY:base≤Y
 bn:n₀≤base
 cS:¬ C S
 cY:¬ C Y
 cC:∀ k,C k→base≤k
 row:W.ownsRow base 220 2 sv s.length us
 cR:∀ g,sv.ownBlock=some g→¬ C g
 cells:StkC (Lies n₀ base C S sv) W s us
theorem Stk.lS {n₀ base S Y l:Nat} {C:Nat→Prop} {W:World} {s:List (Nd × List Nd)} {sv:Value} {us:List Value} (h:Stk n₀ base S Y l C W s sv us):S < W.heap.size:=h.box.lt
theorem Stk.neSY {n₀ base S Y l:Nat} {C:Nat→Prop} {W:World} {s:List (Nd × List Nd)} {sv:Value} {us:List Value} (h:Stk n₀ base S Y l C W s sv us):S≠Y:=Boxed.ne_of h.box h.yld (by decide)
theorem Stk.nr {n₀ base S Y l:Nat} {C:Nat→Prop} {W:World} {s:List (Nd × List Nd)} {sv:Value} {us:List Value} (h:Stk n₀ base S Y l C W s sv us):∀ g,sv.ownBlock=some g→base≤g∧g < W.heap.size∧g≠S∧g≠Y∧¬ C g:=fun g hg=>
 ⟨(h.row.lt g hg).1,(h.row.lt g hg).2,fun e=>Boxed.not_row h.box (by decide) h.row (by rw [hg,e]),fun e=>Boxed.not_row h.yld (by decide) h.row (by rw [hg,e]),h.cR g hg⟩
theorem SW {n₀ base S Y l:Nat} {C:Nat→Prop} {W:World} {s:List (Nd × List Nd)} {g n cap:Nat} {us:List Value} (h:Stk n₀ base S Y l C W s (.slice (some ⟨g,0,none⟩) n cap) us) {k:Nat} (hk:Lies n₀ base C S (.slice (some ⟨g,0,none⟩) n cap) k):k≠g:=by
 rcases hk with h1 | h1
 ·have:=h.bn;have:=(h.nr g rfl).1;omega
 ·intro e;exact h1.2.2.2 (congrArg some e.symm)
theorem Stk.round {n₀ base S Y l:Nat} {C C':Nat→Prop} {W W':World} {s:List (Nd × List Nd)} {sv:Value} {us:List Value} (h:Stk n₀ base S Y l C W s sv us) (hr:Rdn n₀ base C C' W W') (hC:∀ k,C' k→base≤k):Stk n₀ base S Y l C' W' s sv us:=by
 have hnew:∀ b,b < W.heap.size→¬ C b→¬ C' b:=fun b hb hc hc'=>(hr.new b hc').elim hc (fun h=>by omega)
 refine ⟨Boxed.same h.box (hr.block _ h.box.lt (.inr ⟨h.bS,h.cS⟩)),Boxed.same h.yld (hr.block _ h.yld.lt (.inr ⟨h.bY,h.cY⟩)),h.bS,h.bY,h.bn,hnew _ h.box.lt h.cS,hnew _ h.yld.lt h.cY,hC,
  Aa h.row (fun g hg=>hr.block _ (h.nr g hg).2.1 (.inr ⟨(h.nr g hg).1,(h.nr g hg).2.2.2.2⟩)),fun g hg=>hnew g (h.nr g hg).2.1 (h.nr g hg).2.2.2.2,?_⟩
 refine h.cells.keep hr.size (fun b hf hb=>⟨?_,fun o=>Aek (w:=W) (a:=⟨b,o,none⟩) (hr.block b hb ?_)⟩)
 ·rcases hf with hf | ⟨h1,h2,h3,h4⟩
  ·exact .inl hf
  ·exact .inr ⟨h1,hnew b hb h2,h3,h4⟩
 ·rcases hf with hf | ⟨h1,h2,h3,h4⟩
  ·exact .inl hf
  ·exact .inr ⟨h1,h2⟩
theorem Stk.below {n₀ base S Y l:Nat} {C:Nat→Prop} {W W':World} {s:List (Nd × List Nd)} {sv:Value} {us:List Value} (h:Stk n₀ base S Y l C W s sv us) (hb:Below W.heap.size W W'):Stk n₀ base S Y l C W' s sv us:=
 h.round ⟨hb.size,fun k hk _=>hb.block k hk,fun _ hk=>.inl hk⟩ h.cC
theorem SX {n₀ base S:Nat} {C:Nat→Prop} {W:World} {sv v':Value} {b:Nat} (hb:Lies n₀ base C S sv b) (hlt:b < W.heap.size) (hat:v'.ownBlock=sv.ownBlock∨v'.ownBlock=some W.heap.size):Lies n₀ base C S v' b:=by
 rcases hb with hb | ⟨h1,h2,h3,h4⟩
 ·exact .inl hb
 ·refine .inr ⟨h1,h2,h3,?_⟩;rcases hat with e | e
  ·rw [e];exact h4
  ·rw [e];intro e2;injection e2 with e2;omega
theorem Stk.push {n₀ base S Y l:Nat} {C:Nat→Prop} {W w2 w3:World} {s:List (Nd × List Nd)} {sv v' v:Value} {us:List Value} {d:Nd} {r:List Nd} {a:Option Addr} {cap:Nat}
  (h:Stk n₀ base S Y l C W s sv us) (hb:Below W.heap.size W w2) (hd:NdX (Lies n₀ base C S sv) W d v) (hr:AW (fun b=>Lies n₀ base C S sv b∨W.heap.size≤b) w2 r a cap) (hC:∀ k,C k→k < W.heap.size)
  (hown:w3.ownsRow base 220 2 v' (s.length+1) (us++[v,.slice a r.length cap])) (hg:w2.grownBy w3 sv.ownBlock) (hat:v'.ownBlock=sv.ownBlock∨v'.ownBlock=some w2.heap.size) :
  Boxed w3 S 218 sv∧Stk n₀ base S Y l C (w3.setCell ⟨S,0,none⟩ v') (s++[(d,r)]) v' (us++[v,.slice a r.length cap])∧Other base C W (w3.setCell ⟨S,0,none⟩ v')∧NdX (Lies n₀ base C S v') (w3.setCell ⟨S,0,none⟩ v') d v:=by
 have h2:=h.below hb;have hS3:Boxed w3 S 218 sv:=h2.box.kept hg (fun e=>(h2.nr S e.symm).2.2.1 rfl);have hY3:Boxed w3 Y 217 (.func (.yield l) #[] #[]):=h2.yld.kept hg (fun e=>(h2.nr Y e.symm).2.2.2.1 rfl);have hbs:base≤w2.heap.size:=Aeg (Nat.lt_of_le_of_lt h2.bS h2.box.lt);have hlt3:=hown.lt;have hCv:∀ g,v'.ownBlock=some g→¬ C g:=fun g hg' hc=>by
  rcases hat with e | e
  ·rw [e] at hg';exact h2.cR g hg' hc
  ·rw [e] at hg';injection hg' with hg';have:=hC g hc;have:=hb.size;omega
 have hnS:∀ g,v'.ownBlock=some g→g≠S∧g≠Y:=fun g hg'=>by
  rcases hat with e | e
  ·rw [e] at hg';exact ⟨(h2.nr g hg').2.2.1,(h2.nr g hg').2.2.2.1⟩
  ·rw [e] at hg';injection hg' with hg';have:=h2.box.lt;have:=h2.yld.lt;omega
 have hblk:∀ k,k < w2.heap.size→sv.ownBlock≠some k→k≠S→(w3.setCell ⟨S,0,none⟩ v').heap[k]?=w2.heap[k]?:=fun k hk h1 h3=>
  (Aei _ _ _ _ h3).trans (hg.block k hk (fun e=>h1 e.symm))
 have hsz:w2.heap.size≤(w3.setCell ⟨S,0,none⟩ v').heap.size:=by have:=hg.size;simpa [World.setCell] using this
 have hkeep:∀ b,Lies n₀ base C S sv b∨(W.heap.size≤b∧b < w2.heap.size)→b < w2.heap.size→Lies n₀ base C S v' b∧∀ o,(w3.setCell ⟨S,0,none⟩ v').cell? ⟨b,o,none⟩=w2.cell? ⟨b,o,none⟩:=by
  intro b hf hlt;have hf2:Lies n₀ base C S sv b:=by
   rcases hf with hf | ⟨hf,_⟩
   ·exact hf
   ·refine .inr ⟨by have:=h.bS;have:=h.box.lt;omega,fun hc=>by have:=hC b hc;omega,fun e=>by have:=h.box.lt;omega,fun e=>by have:=(h.nr b e).2.1;omega⟩
  refine ⟨SX hf2 hlt hat,fun o=>Aek (w:=w2) (a:=⟨b,o,none⟩) (hblk b hlt ?_ ?_)⟩
  ·rcases hf2 with h1 | h1
   ·intro e;have:=(h2.nr b e).1;have:=h.bn;omega
   ·exact h1.2.2.2
  ·rcases hf2 with h1 | h1
   ·have:=h.bn;have:=h.bS;omega
   ·exact h1.2.2.1
 refine ⟨hS3,⟨hS3.set v',?_,h.bS,h.bY,h.bn,h.cS,h.cY,h.cC,?_,hCv,?_⟩,?_⟩
 ·exact Boxed.same hY3 (Aei _ _ _ _ (Ne.symm h.neSY))
 ·rw [Aee];exact Aa hown (fun g hg'=>Aei _ _ _ _ (hnS g hg').1)
 ·refine StkC.snoc ?_ ?_ ?_
  ·exact (hd.below hb).keep hsz (fun b hf hlt=>hkeep b (.inl hf) hlt)
  ·exact hr.keep hsz (fun b hf hlt=>hkeep b (hf.elim .inl (fun h=>.inr ⟨h,hlt⟩)) hlt)
  ·exact h2.cells.keep hsz (fun b hf hlt=>hkeep b (.inl hf) hlt)
 ·exact ⟨(((Other.of_below hb).trans (Other.refl base C w2)).grown hg (fun k hk=>⟨(h2.nr k hk).1,(h2.nr k hk).2.2.2.2⟩)).setCell (p:=⟨S,0,none⟩) h.bS h.cS v',(hd.below hb).keep hsz (fun b hf hlt=>hkeep b (.inl hf) hlt)⟩
theorem Stk.top {n₀ base S Y l:Nat} {C:Nat→Prop} {W:World} {s:List (Nd × List Nd)} {sv:Value} {us:List Value} {d:Nd} {r:List Nd} (h:Stk n₀ base S Y l C W (s++[(d,r)]) sv us) :
  ∃ g cap us' v a cap',sv=.slice (some ⟨g,0,none⟩) (s.length+1) cap∧us=us'++[v,.slice a r.length cap']∧us'.length=s.length * 2∧W.cell? ⟨g,s.length * 2,none⟩=some v∧W.cell? ⟨g,s.length * 2+1,none⟩=some (.slice a r.length cap')∧W.frozen? ⟨g,s.length * 2+1,none⟩=false∧
   NdX (Lies n₀ base C S sv) W d v∧AW (Lies n₀ base C S sv) W r a cap':=by
 have hrow:=h.row;rw [Aee] at hrow;obtain ⟨g,cap,rfl⟩:=ownsRow_succ hrow;obtain ⟨us',v,a,cap',rfl,h1,h2,h3⟩:=h.cells.last;have hl:=h3.len;refine ⟨g,cap,us',v,a,cap',rfl,rfl,hl,?_,?_,hrow.frozenAt _,h1,h2⟩
 ·rw [hrow.cellAt (s.length * 2) (show s.length * 2 < (s.length+1) * 2 by omega),←hl,List.getElem?_append_right (Aec _)];simp
 ·rw [hrow.cellAt (s.length * 2+1) (show s.length * 2+1 < (s.length+1) * 2 by omega),←hl,List.getElem?_append_right (by omega)];rw [show us'.length+1 - us'.length=1 by omega];rfl
theorem Stk.pop {n₀ base S Y l:Nat} {C:Nat→Prop} {W:World} {s:List (Nd × List Nd)} {g cap:Nat} {us:List Value} {d:Nd} {r:List Nd} (h:Stk n₀ base S Y l C W (s++[(d,r)]) (.slice (some ⟨g,0,none⟩) (s.length+1) cap) us) :
  ∃ us',Stk n₀ base S Y l C (W.setCell ⟨S,0,none⟩ (.slice (some ⟨g,0,none⟩) s.length cap)) s (.slice (some ⟨g,0,none⟩) s.length cap) us'∧Other base C W (W.setCell ⟨S,0,none⟩ (.slice (some ⟨g,0,none⟩) s.length cap)):=by
 have hrow:=h.row;rw [Aee] at hrow;obtain ⟨us',v,a,cap',rfl,h1,h2,h3⟩:=h.cells.last;have hp:=ownsRow_pop h3.len hrow;have hng:=h.nr g rfl;refine ⟨us',⟨h.box.set _,?_,h.bS,h.bY,h.bn,h.cS,h.cY,h.cC,?_,fun g' hg'=>h.cR g' hg',?_⟩,(Other.refl base C W).setCell (p:=⟨S,0,none⟩) h.bS h.cS _⟩
 ·exact Boxed.same h.yld (Aei _ _ _ _ (Ne.symm h.neSY))
 ·exact Aa hp (fun g' hg'=>Aei _ _ _ _ (by simp [Value.ownBlock] at hg';subst hg';exact hng.2.2.1))
 ·refine h3.keep (by simp [World.setCell]) (fun b hf hlt=>⟨hf,fun o=>Aek (w:=W) (a:=⟨b,o,none⟩) (Aei _ _ _ _ ?_)⟩);rcases hf with h1 | h1
  ·have:=h.bn;have:=h.bS;simp;omega
  ·exact h1.2.2.1
theorem Stk.shift {n₀ base S Y l:Nat} {C:Nat→Prop} {W:World} {s:List (Nd × List Nd)} {g cap cap':Nat} {a:Option Addr} {us:List Value} {d:Nd} {r r':List Nd} (h:Stk n₀ base S Y l C W (s++[(d,r)]) (.slice (some ⟨g,0,none⟩) (s.length+1) cap) us)
  (hr:AW (Lies n₀ base C S (.slice (some ⟨g,0,none⟩) (s.length+1) cap)) W r' a cap') :
  ∃ us',Stk n₀ base S Y l C (W.setCell ⟨g,s.length * 2+1,none⟩ (.slice a r'.length cap')) (s++[(d,r')]) (.slice (some ⟨g,0,none⟩) (s.length+1) cap) us'∧Other base C W (W.setCell ⟨g,s.length * 2+1,none⟩ (.slice a r'.length cap')):=by
 have hrow:=h.row;rw [Aee] at hrow;obtain ⟨us',v,a2,cap2,rfl,h1,h2,h3⟩:=h.cells.last;have hl:=h3.len;have hng:=h.nr g rfl;have hst:=(hrow.stored (s.length * 2+1) (.slice a r'.length cap')).1;rw [←hl,List.set_append_right _ _ (by omega)] at hst;simp at hst;rw [hl] at hst;have hk:∀ b,Lies n₀ base C S (.slice (some ⟨g,0,none⟩) (s.length+1) cap) b→b < W.heap.size→Lies n₀ base C S (.slice (some ⟨g,0,none⟩) (s.length+1) cap) b∧∀ o,(W.setCell ⟨g,s.length * 2+1,none⟩ (.slice a r'.length cap')).cell? ⟨b,o,none⟩=W.cell? ⟨b,o,none⟩:=fun b hf hlt=>
  ⟨hf,fun o=>Aek (w:=W) (a:=⟨b,o,none⟩) (Aei _ _ _ _ (by
   rcases hf with h1 | h1
   ·have:=h.bn;simp;omega
   ·intro e;exact h1.2.2.2 (congrArg some e.symm)))⟩
 have hsz:W.heap.size≤(W.setCell ⟨g,s.length * 2+1,none⟩ (.slice a r'.length cap')).heap.size:=by simp [World.setCell]
 refine ⟨us'++[v,.slice a r'.length cap'],⟨?_,?_,h.bS,h.bY,h.bn,h.cS,h.cY,h.cC,?_,fun g' hg'=>h.cR g' hg',?_⟩,(Other.refl base C W).setCell (p:=⟨g,_,none⟩) hng.1 hng.2.2.2.2 _⟩
 ·exact Boxed.same h.box (Aei _ _ _ _ (Ne.symm hng.2.2.1))
 ·exact Boxed.same h.yld (Aei _ _ _ _ (Ne.symm hng.2.2.2.1))
 ·rw [Aee];exact hst
 ·exact StkC.snoc (h1.keep hsz hk) (hr.keep hsz hk) (h3.keep hsz hk)
theorem Be {w:World} {b:Nat} {T:TypeId} {v0 v1 v2 v3:Value} (h:Blk w b #[v0,v1,v2,v3] T) :
  w.cell? ⟨b,0,none⟩=some v0∧w.cell? ⟨b,1,none⟩=some v1∧w.cell? ⟨b,2,none⟩=some v2∧w.cell? ⟨b,3,none⟩=some v3∧
  w.frozen? ⟨b,0,none⟩=false∧w.frozen? ⟨b,1,none⟩=false∧w.frozen? ⟨b,2,none⟩=false∧w.frozen? ⟨b,3,none⟩=false∧b < w.heap.size:=
 ⟨(h.cell 0).trans rfl,(h.cell 1).trans rfl,(h.cell 2).trans rfl,(h.cell 3).trans rfl,h.frozen 0,h.frozen 1,h.frozen 2,h.frozen 3,h.lt⟩
theorem Er {w w':World} {p:Nat} {cs:Array Value} {T:TypeId} (h:Blk w p cs T) (e:w'.heap[p]?=w.heap[p]?):Blk w' p cs T:=by
 unfold Blk at h ⊢;rw [e,h]
theorem Aaf {w0 w:World} {p:Nat} {T:TypeId} {u0 u1 u2 u3:Value} (hb:Below w0.heap.size w0 w) (hp:w0.heap.size≤p) (h:Blk w p #[u0,u1,u2,u3] T) (v0 v1 v2 v3:Value) (w':World)
  (hw:((((w.setCell ⟨p,0,none⟩ v0).setCell ⟨p,1,none⟩ v1).setCell ⟨p,2,none⟩ v2).setCell ⟨p,3,none⟩ v3)=w') :
  Below w0.heap.size w0 w'∧Blk w' p #[v0,v1,v2,v3] T∧(∀ b,b≠p→w'.heap[b]?=w.heap[b]?)∧w'.heap.size=w.heap.size:=by
 subst hw;have h9:=(((h.set 0 v0).set 1 v1).set 2 v2).set 3 v3;have o1:∀ (w:World) (j:Nat) (v:Value) b,b≠p→(w.setCell ⟨p,j,none⟩ v).heap[b]?=w.heap[b]?:=fun w j v b hb=>Aei _ _ _ _ (fun e=>hb e)
 refine ⟨?_,h9,fun b hb=>?_,by simp [World.setCell]⟩
 ·exact (((hb.setCell (p:=⟨p,0,none⟩) hp v0).setCell (p:=⟨p,1,none⟩) hp v1).setCell (p:=⟨p,2,none⟩) hp v2).setCell (p:=⟨p,3,none⟩) hp v3
 ·rw [o1 _ _ _ _ hb,o1 _ _ _ _ hb,o1 _ _ _ _ hb,o1 _ _ _ _ hb]
theorem Ct {P:Program} {fn:Func} {Q:Ending→World→Prop} {e:Exit} {act:Act} {w0 w:World} {p:Nat} {T:TypeId} {u0 u1 u2 u3:Value} (hb:Below w0.heap.size w0 w) (h:Blk w p #[u0,u1,u2,u3] T) (hp:w0.heap.size≤p) {v0 v1 v2 v3:Value}
  (H:∀ w',Below w0.heap.size w0 w'→Blk w' p #[v0,v1,v2,v3] T→(∀ b,b≠p→w'.heap[b]?=w.heap[b]?)→w'.heap.size=w.heap.size→bodyPost P fn Q e act w') :
  bodyPost P fn Q e act ((((w.setCell ⟨p,0,none⟩ v0).setCell ⟨p,1,none⟩ v1).setCell ⟨p,2,none⟩ v2).setCell ⟨p,3,none⟩ v3):=by
 obtain ⟨h1,h2,h3,h4⟩:=Aaf hb hp h v0 v1 v2 v3 _ rfl;exact H _ h1 h2 h3 h4
theorem Ab4 {P:Program} {fn:Func} {Q:Ending→World→Prop} {e:Exit} {act:Act} {w0 w:World} {p:Nat} {T:TypeId} {u0 u1 u2 u3:Value} (hb:Below w0.heap.size w0 w) (h:Blk w p #[u0,u1,u2,u3] T) (hp:w0.heap.size≤p) {v0 v1 v2 v3:Value}
  (H:∀ w',Below w0.heap.size w0 w'→Blk w' p #[v0,v1,v2,v3] T→(∀ b,b≠p→w'.heap[b]?=w.heap[b]?)→w'.heap.size=w.heap.size→bodyPost P fn Q e act w') :
  bodyPost P fn Q e act ((((w.setCell ⟨p,0,none⟩ v0).setCell ⟨p,1,none⟩ v1).setCell ⟨p,2,none⟩ v2).setCell ⟨p,3,none⟩ v3).drew:=by
 obtain ⟨h1,h2,h3,h4⟩:=Aaf hb hp h v0 v1 v2 v3 _ rfl;exact H _ h1.drew h2 h3 h4
theorem BS {w:World} {B C:Nat} (h:B≤C) {e:TypeId} {size n:Nat} {v:Value} {xs:List Value} (k:w.ownsRow C e size v n xs):w.ownsRow B e size v n xs:=by
 obtain ⟨h1,h2⟩:=k;refine ⟨h1,?_⟩;rcases h2 with h2 | ⟨g,cap,cur,a,b,c⟩
 ·exact .inl h2
 ·exact .inr ⟨g,cap,cur,a,by omega,c⟩
theorem AG {w w':World} {p:Nat} {r:Option Nat} {cs:Array Value} {T:TypeId} (h:Blk w p cs T) (hg:w.grownBy w' r) (hne:r≠some p):Blk w' p cs T:=by
 have hl:=h.lt;unfold Blk at h ⊢;rw [hg.block p hl (fun e=>hne e.symm)];exact h
theorem Gr {w:World} {b:Nat} {T:TypeId} {v0 v1 v2:Value} (h:Blk w b #[v0,v1,v2] T) :
  w.cell? ⟨b,0,none⟩=some v0∧w.cell? ⟨b,1,none⟩=some v1∧w.cell? ⟨b,2,none⟩=some v2∧
  w.frozen? ⟨b,0,none⟩=false∧w.frozen? ⟨b,1,none⟩=false∧w.frozen? ⟨b,2,none⟩=false∧b < w.heap.size:=
 ⟨(h.cell 0).trans rfl,(h.cell 1).trans rfl,(h.cell 2).trans rfl,h.frozen 0,h.frozen 1,h.frozen 2,h.lt⟩
theorem RT {P:Program} {fn:Func} {Q:Ending→World→Prop} {e:Exit} {act:Act} {w0 w:World} {p:Nat} {T:TypeId} {u0 u1 u2:Value} (hb:Below w0.heap.size w0 w) (h:Blk w p #[u0,u1,u2] T) (hp:w0.heap.size≤p) {v0 v1 v2:Value}
  (H:∀ w',Below w0.heap.size w0 w'→Blk w' p #[v0,v1,v2] T→(∀ b,b≠p→w'.heap[b]?=w.heap[b]?)→w'.heap.size=w.heap.size→bodyPost P fn Q e act w') :
  bodyPost P fn Q e act (((w.setCell ⟨p,0,none⟩ v0).setCell ⟨p,1,none⟩ v1).setCell ⟨p,2,none⟩ v2):=by
 have o1:∀ (w:World) (j:Nat) (v:Value) b,b≠p→(w.setCell ⟨p,j,none⟩ v).heap[b]?=w.heap[b]?:=fun w j v b hb=>Aei _ _ _ _ (fun e=>hb e)
 refine H _ ?_ (((h.set 0 v0).set 1 v1).set 2 v2) (fun b hb=>?_) (by simp [World.setCell])
 ·exact ((hb.setCell (p:=⟨p,0,none⟩) hp v0).setCell (p:=⟨p,1,none⟩) hp v1).setCell (p:=⟨p,2,none⟩) hp v2
 ·rw [o1 _ _ _ _ hb,o1 _ _ _ _ hb,o1 _ _ _ _ hb]
theorem Ae {w w2:World} {cs:Array Value} {T:TypeId} (h:w.alloc (.cells cs T)=w2):Blk w2 w.heap.size cs T:=by
 subst h;exact Blk.new w cs T _ rfl
theorem Ac {w w2:World} {o:Obj} (h:w.alloc o=w2):Below w.heap.size w w2:=by
 subst h;exact (Aeh _ _).alloc (Aec _) _
def Es (m:Nat × Nat):List Value:=[.int .i64 (m.1:Int),.string ⟨#[92,UInt8.ofNat m.2]⟩]
def marksC (l:List (Nat × Nat)):List Value:=l.flatMap Es
theorem IK (l:List (Nat × Nat)) (m:Nat × Nat):marksC (l++[m])=marksC l++Es m:=by unfold marksC;rw [List.flatMap_append];simp
theorem Cx:∃ i,Tryz.prog.info? 33=some i∧i.zero=some (.agg #[.int .i64 0,.string ⟨#[]⟩])∧i.size=2∧i.bytes=24:=by
 have h:(Tryz.prog.info? 33).map (fun i=>(i.zero,i.size,i.bytes))=some (some (.agg #[.int .i64 0,.string ⟨#[]⟩]),2,24):=by kernel_rfl
 obtain ⟨i,hi,he⟩:=Option.map_eq_some_iff.1 h;injection he with h1 h2;injection h2 with h2 h3;exact ⟨i,hi,h1,h2,h3⟩
theorem AB {B:Nat} {w:World} {e:TypeId} {size n:Nat} {v:Value} {us:List Value} (h:w.ownsRow B e size v n us) (g:Nat) (hg:v.ownBlock=some g):g < w.heap.size:=by
 rcases h.2 with ⟨rfl,_⟩ | ⟨g',cap,cur,rfl,_,hh,_⟩
 ·simp [Value.ownBlock] at hg
 ·simp [Value.ownBlock] at hg;subst hg;exact (Array.getElem?_eq_some_iff.1 hh).1
structure AtSet (w0:World) (a:Nat) (t:OSet) (wx:World):Prop where
 b:Below w0.heap.size w0 wx
 s:Blk wx a #[.int .u64 (ow t 0),.int .u64 (ow t 1),.int .u64 (ow t 2),.int .u64 (ow t 3)] 109
 lo:w0.heap.size≤a
theorem C9 {w:World} {a:Nat} {x y z u:Value} {T:TypeId} (h:Blk w a #[x,y,z,u] T):w.cell? ⟨a,0,none⟩=some x∧w.cell? ⟨a,1,none⟩=some y∧w.cell? ⟨a,2,none⟩=some z∧w.cell? ⟨a,3,none⟩=some u∧
  w.frozen? ⟨a,0,none⟩=false∧w.frozen? ⟨a,1,none⟩=false∧w.frozen? ⟨a,2,none⟩=false∧w.frozen? ⟨a,3,none⟩=false∧a < w.heap.size:=
 ⟨(h.cell 0).trans rfl,(h.cell 1).trans rfl,(h.cell 2).trans rfl,(h.cell 3).trans rfl,h.frozen 0,h.frozen 1,h.frozen 2,h.frozen 3,h.lt⟩
theorem VG (cl L:List UInt8) (q:Int × Int × Nat) (h0:cl≠[]) (h:Lk cl L=some q):q.2.2≤L.length:=by
 unfold Lk at h;split at h
 ·rename_i hc;injection h with h;subst h;rw [Bool.and_eq_true] at hc;exact FA _ _ _ hc.2 h0
 ·cases h
theorem A6 {w:World} {B:Nat} {e:TypeId} {size n:Nat} {v:Value} {us:List Value} (h:w.ownsRow B e size v n us):∃ a c,v=.slice a n c:=by
 rcases h.2 with ⟨rfl,h0⟩ | ⟨g,cap,cur,rfl,_⟩
 ·exact ⟨none,0,by rw [h0]⟩
 ·exact ⟨_,_,rfl⟩
def PW (r:ReRes (ReSt × Nd)) (w:World) (e:Ending) (w':World):Prop:=Below w.heap.size w w'∧match r with
 | .error q=>e=.returned (.tuple #[.nilIface,.slice none 0 0,.int .i64 (q.2:Int),.int .i64 (q.1:Int)])
 | .ok q=>∃ v mv,e=.returned (.tuple #[v,mv,.int .i64 0,.int .i64 0])∧NdX (fun b=>w.heap.size≤b) w' q.2 v∧w'.ownsRow w.heap.size 33 2 mv q.1.marks.length (marksC q.1.marks)
theorem VH {s:List UInt8} {k:Nat} (h0:chAt s k 42=false) (h1:BM s k 43=false) (h2:BM s k 63=false) (h:BM s k 123=false):repAt false s k=.none:=by unfold repAt;simp [h0,h1,h2,A2,h]
theorem VI {s:List UInt8} {k:Nat} (h:chAt s k 42=true):repAt false s k=.some 0 (-1) 0 (k+1):=by unfold repAt;rw [if_pos h]
theorem VJ {s:List UInt8} {k:Nat} (h0:chAt s k 42=false) (h:BM s k 43=true):repAt false s k=.some 1 (-1) 43 (k+2):=by unfold repAt;simp [h0,A2,AY,h]
theorem YR {s:List UInt8} {k:Nat} (h0:chAt s k 42=false) (h1:BM s k 43=false) (h:BM s k 63=true):repAt false s k=.some 0 1 63 (k+2):=by unfold repAt;simp [h0,h1,A2,AY,h]
theorem VK {s:List UInt8} {k:Nat} {m n:Int} {j:Nat} (h0:chAt s k 42=false) (h1:BM s k 43=false) (h2:BM s k 63=false) (h:BM s k 123=true) (hi:G6 false s (k+2)=some (m,n,j)):repAt false s k=.some m n 0 j:=by unfold repAt;simp [h0,h1,h2,A2,AY,h,hi]
theorem YS {s:List UInt8} {k:Nat} (h0:chAt s k 42=false) (h1:BM s k 43=false) (h2:BM s k 63=false) (h:BM s k 123=true) (hi:G6 false s (k+2)=none):repAt false s k=.bad:=by unfold repAt;simp [h0,h1,h2,A2,AY,h,hi]
theorem VL:(~~~oz:OSet)=Ab 0 255:=by decide +kernel
def JS (m:Wm):List Value:=[.int .i64 m.1,.string m.2]
def wmC (l:List Wm):List Value:=l.flatMap JS
theorem VM (l:List Wm) (m:Wm):wmC (l++[m])=wmC l++JS m:=by simp [wmC]
theorem H9 (m:Wm) (l:List Wm):wmC (m :: l)=JS m++wmC l:=by simp [wmC]
theorem MK (l k:List Wm):wmC (l++k)=wmC l++wmC k:=by simp [wmC]
theorem ML (l:List Wm):(wmC l).length=l.length * 2:=by
 induction l with
 | nil=>rfl
 | cons m l ih=>rw [H9,Aee,ih];simp [JS];omega
theorem SY (l:List (Nat × Nat)):marksC l=wmC (l.map SN):=by
 induction l with
 | nil=>rfl
 | cons m l ih=>
  rw [List.map_cons,H9,←ih];rfl
theorem VN:∀ (l:List Wm) (j:Nat) (h:j < l.length),(wmC l)[j * 2]?=some (.int .i64 l[j].1)∧(wmC l)[j * 2+1]?=some (.string l[j].2)
 | [],j,h=>by simp at h
 | m :: l,0,h=>by rw [H9];exact ⟨rfl,rfl⟩
 | m :: l,j+1,h=>by
  have ih:=VN l j (by simpa using h);rw [H9,show (j+1) * 2=j * 2+1+1 by omega,show j * 2+1+1+1=j * 2+1+1+1 from rfl];simpa [JS] using ih
theorem Ia (m:Wm):∀ u∈JS m,u.oneCell'=true:=fun u hu=>by
 simp only [JS,Ael,List.not_mem_nil,or_false] at hu;rcases hu with rfl | rfl <;> rfl
theorem MM (l:List Wm):∀ u∈wmC l,u.oneCell'=true:=fun u hu=>by
 unfold wmC at hu;obtain ⟨m,_,h⟩:=List.mem_flatMap.1 hu;exact Ia m u h
theorem JT (w:World) (m:Wm) (T:TypeId):∀ n u,(JS m)[n]?=some u→(w.alloc (.cells #[.int .i64 m.1,.string m.2] T)).cell? ((⟨w.heap.size,0,none⟩:Addr).add n)=some u:=by
 have hb:=Blk.new w #[.int .i64 m.1,.string m.2] T w.heap.size rfl;intro n u hu;rw [Go.WideShapes.add_plain,Nat.zero_add,hb.cell n,←Array.getElem?_toList];exact hu
theorem VO {w:World} {B:Nat} {T:TypeId} {a:Option Addr} {c:Nat} {l:List Wm} (h:w.ownsRow B T 2 (.slice a l.length c) l.length (wmC l)) (h0:0 < l.length) :
  ∃ q,a=some ⟨q,0,none⟩∧q < w.heap.size∧l.length≤c∧c≤maxLen∧∀ j (hj:j < l.length),w.cell? ⟨q,j * 2,none⟩=some (.int .i64 l[j].1)∧w.cell? ⟨q,j * 2+1,none⟩=some (.string l[j].2):=by
 obtain ⟨h1,h2⟩:=h;rcases h2 with ⟨_,h3⟩ | ⟨q,cap,cur,e,hB,hh,hn,hcap,hcs,htk⟩
 ·omega
 ·injection e with e1 _ e2;subst e1 e2;refine ⟨q,rfl,(Array.getElem?_eq_some_iff.1 hh).1,hn,hcap,fun j hj=>?_⟩;have hc:∀ i,i < l.length * 2→w.cell? ⟨q,i,none⟩=(wmC l)[i]?:=fun i hi=>by
   have h4:w.cell? ⟨q,i,none⟩=cur[i]?:=by simp [World.cell?,hh]
   rw [h4,←htk,List.getElem?_take_of_lt hi,Array.getElem?_toList]
  have h5:=VN l j hj;exact ⟨(hc _ (by omega)).trans h5.1,(hc _ (by omega)).trans h5.2⟩
theorem PX (l:List Wm) (a:Option Addr) (cap:Nat) (k:Int) (B:Nat) (w:World) (h:w.ownsRow B 33 2 (.slice a l.length cap) l.length (wmC l)) (hl:l.length≤100000) :
  Calls Tryz.prog 101 #[.slice a l.length cap,.int .i64 k] w fun e w'=>∃ v,e=.returned v∧Below w.heap.size w w'∧w'.ownsRow w.heap.size 33 2 v l.length (wmC (Cj k l)):=by
 have Hc:=Ad5 fun h0=>VO h h0
 clear h;obtain ⟨n,hn⟩:∃ n,l.length=n:=⟨_,rfl⟩;rw [hn] at hl ⊢;have Hn:=Ad5 hn;obtain ⟨i0,hi,hz0,hz1,hz2⟩:=Cx;clear hn;go_enter Tryz.func101,Tryz.ntmps101;go_wp2_with fail
 go_loopw [5,10] (fun vv i wr=>∃ (j:Nat),j≤n∧i=.int .i64 j∧wr.ownsRow w.heap.size 33 2 vv j (wmC (Cj k (l.take j)))∧Below w.heap.size w wr) (fun _ i _=>n - (intOf i).toNat)
 case atStart=>exact ⟨0,by omega,rfl,World.ownsRow_nil _ _ _ _,Aeh _ _⟩
 case round=>
  obtain ⟨j,hj,rfl,hrow,hb⟩:=hrel;have Hb:=Ad5 hb;have Hrow:=Ad5 hrow;obtain ⟨va,vc,rfl⟩:=A6 hrow;clear hb hrow;by_cases hlt:j < n
  ·obtain ⟨q,rfl,hq,hc1,hc2,hcell⟩:=Hc.out (by rw [Hn.out];omega);rw [Hn.out] at hc1;have hjl:j < l.length:=by rw [Hn.out];omega
   obtain ⟨e0,e1⟩:=hcell j hjl;have htk:Cj k (l.take (j+1))=Cj k (l.take j)++[(IntKind.i64.wrap (l[j].1+k),l[j].2)]:=by
    rw [show l.take (j+1)=l.take j++[l[j]] by simp];unfold Cj;rw [List.map_append];rfl
   have Htk:=Ad5 htk;clear htk hcell;generalize l[j]=m at e0 e1 Htk;obtain ⟨mp,mw⟩:=m;simp only at e0 e1 Htk;replace e0:=(Hb.out.cell (p:=⟨q,j * 2,none⟩) hq).trans e0;replace e1:=(Hb.out.cell (p:=⟨q,j * 2+1,none⟩) hq).trans e1;have hji:(j:Int) < (n:Int):=by omega
   have Wj:IntKind.i64.wrap ((j:Int)+1)=(j:Int)+1:=Aej _ (by omega);obtain ⟨y,hy⟩:∃ y,IntKind.i64.wrap (mp+k)=y:=⟨_,rfl⟩;rw [hy] at Htk;have hm1:j+1≤maxLen:=by unfold maxLen;omega
   have hm2:(j+1) * 24≤140737488355328:=by omega
   have hA1:=(Aeh wr.heap.size wr).alloc (Aec _) (.cells #[.int .i64 mp,.string mw] 33);have hX:=Blk.new wr #[.int .i64 mp,.string mw] 33 _ rfl;have hr1:=Ag Hrow.out hA1;have hb1:=Hb.out.trans (hA1.mono Hb.out.size);obtain ⟨W1,hW1⟩:∃ W1,wr.alloc (.cells #[.int .i64 mp,.string mw] 33)=W1:=⟨_,rfl⟩;rw [hW1] at hX hr1 hb1;have x0:=(hX.cell 0).trans rfl;have x1:=(hX.cell 1).trans rfl;have hxl:=hX.lt;have Hr1:=Ad5 hr1;have Hb1:=Ad5 hb1;have hbs:w.heap.size≤(W1.alloc (.cells #[.int .i64 y,.string mw] 33)).heap.size:=by have:=hb1.size;simp;omega
   clear hX hr1 hb1 hA1;go_wp2_with (at_builtin;go_loud (refine wpList_append_own_at _ rfl _ _ 26 rfl w.heap.size 33 i0 (.agg #[.int .i64 0,.string ⟨#[]⟩]) 2 24 Tryz.underlying26 hi hz0 hz1 hz2 rfl (by decide) (.slice va j vc) j (wmC (Cj k (l.take j))) rfl (Ag Hr1.out ((Aeh _ W1).alloc (Aec _) _)) ⟨W1.heap.size,0,none⟩ 1 1 (JS (y,mw)) rfl rfl (JT W1 (y,mw) _) (Ia _) hm1 hm2 hbs ?_;intro v6 w6 hown6 hgr6 _ hat6))
   have HF:=Ad5 (show w6.ownsRow w.heap.size 33 2 v6 (j+1) (wmC (Cj k (l.take (j+1))))∧Below w.heap.size w w6 from by
    refine ⟨by rw [Htk.out,VM];exact hown6,(Hb1.out.alloc Hb1.out.size _).grown hgr6 hbs (fun b hb=>AL Hrow.out b hb)⟩)
   obtain ⟨v6a,v6c,rfl⟩:=A6 hown6;clear hown6 hgr6 hat6;go_roundw
   case rel=>exact ⟨j+1,by omega,by go_num,HF.out.1,HF.out.2⟩
   case measure=>simp [intOf];omega
  ·obtain rfl:n=j:=by omega
   have HF:=Ad5 (And.intro Hb.out Hrow.out);rw [show l.take n=l by rw [←Hn.out,List.take_length]] at HF;clear Hb Hrow;go_wp2_with fail
   go_ret;exact ⟨_,rfl,HF.out.1,HF.out.2⟩
theorem JU (k:Int) (l:List Wm):(Cj k l).length=l.length:=by simp [Cj]
theorem YT {l:List Wm} {n:Nat} (hn:l.length=n) (a:Option Addr) (cap:Nat) (k:Int) (B:Nat) (w:World) (h:w.ownsRow B 33 2 (.slice a n cap) n (wmC l)) (hl:n≤100000) :
  Calls Tryz.prog 101 #[.slice a n cap,.int .i64 k] w fun e w'=>∃ a' c',e=.returned (.slice a' n c')∧Below w.heap.size w w'∧w'.ownsRow w.heap.size 33 2 (.slice a' n c') n (wmC (Cj k l)):=by
 subst hn;refine (PX l a cap k B w h hl).mono ?_;rintro e w' ⟨v,rfl,h1,h2⟩;obtain ⟨a',c',rfl⟩:=A6 h2;exact ⟨a',c',rfl,h1,h2⟩
structure RStep (p:Nat) (w:World) (mv cv:Value) (w':World) (mv' cv':Value):Prop where
 os:w'.os=w.os
 tape:w'.tape=w.tape
 output:w'.output=w.output
 size:w.heap.size≤w'.heap.size
 block:∀ b,b < w.heap.size→b≠p→mv.ownBlock≠some b→cv.ownBlock≠some b→w'.heap[b]?=w.heap[b]?∧mv'.ownBlock≠some b∧cv'.ownBlock≠some b
theorem RStep.refl (p:Nat) (w:World) (mv cv:Value):RStep p w mv cv w mv cv:=⟨rfl,rfl,rfl,Aec _,fun _ _ _ h1 h2=>⟨rfl,h1,h2⟩⟩
theorem RStep.trans {p:Nat} {w w1 w2:World} {mv cv mv1 cv1 mv2 cv2:Value} (h:RStep p w mv cv w1 mv1 cv1) (k:RStep p w1 mv1 cv1 w2 mv2 cv2):RStep p w mv cv w2 mv2 cv2:=
 ⟨k.os.trans h.os,k.tape.trans h.tape,k.output.trans h.output,Aed h.size k.size,fun b hb hp h1 h2=>by
  obtain ⟨e1,e2,e3⟩:=h.block b hb hp h1 h2;obtain ⟨f1,f2,f3⟩:=k.block b (Aef hb h.size) hp e2 e3;exact ⟨f1.trans e1,f2,f3⟩⟩
theorem RStep.of_below {p:Nat} {w w':World} {mv cv:Value} (h:Below w.heap.size w w'):RStep p w mv cv w' mv cv:=
 ⟨h.os,h.tape,h.output,h.size,fun b hb _ h1 h2=>⟨h.block b hb,h1,h2⟩⟩
def OffR (p:Nat) (mv cv:Value) (b:Nat):Prop:=b≠p∧mv.ownBlock≠some b∧cv.ownBlock≠some b
theorem RStep.keep {p:Nat} {w w':World} {mv cv mv' cv':Value} (h:RStep p w mv cv w' mv' cv'):∀ b,OffR p mv cv b→b < w.heap.size→OffR p mv' cv' b∧∀ o,w'.cell? ⟨b,o,none⟩=w.cell? ⟨b,o,none⟩:=fun b hf hb=>by
 obtain ⟨e1,e2,e3⟩:=h.block b hb hf.1 hf.2.1 hf.2.2;exact ⟨⟨hf.1,e2,e3⟩,fun o=>Aek (w:=w) (a:=⟨b,o,none⟩) e1⟩
structure Rd (B p:Nat) (w:World) (s:ByteArray) (st:ReSt) (es:List Bool) (dep:Nat) (mv cv:Value):Prop where
 blk:Blk w p #[.string s,.int .i64 (st.pos:Int),mv,cv,.int .i64 (dep:Int)] 202
 mo:w.ownsRow B 33 2 mv st.marks.length (marksC st.marks)
 co:w.ownsRow B 4 1 cv es.length (es.map Value.bool)
 rr:RR es (st.opened:Int) st.closed
 bp:B≤p
 mp:mv.ownBlock≠some p
 cp:cv.ownBlock≠some p
 mc:∀ b,mv.ownBlock=some b→cv.ownBlock≠some b
 pos:st.pos≤s.size
 small:s.size≤250
 few:st.marks.length≤st.pos∧es.length≤st.pos
theorem Rd.below {B p:Nat} {w w':World} {s:ByteArray} {st:ReSt} {es:List Bool} {dep:Nat} {mv cv:Value} (h:Rd B p w s st es dep mv cv) (hb:Below w.heap.size w w'):Rd B p w' s st es dep mv cv:=
 { h with blk:=h.blk.below hb h.blk.lt,mo:=Ag h.mo hb,co:=Ag h.co hb }
structure RdC (w:World) (p:Nat) (s:ByteArray) (k:Int) (mv cv:Value) (d:Int):Prop where
 c0:w.cell? ⟨p,0,none⟩=some (.string s)
 c1:w.cell? ⟨p,1,none⟩=some (.int .i64 k)
 c2:w.cell? ⟨p,2,none⟩=some mv
 c3:w.cell? ⟨p,3,none⟩=some cv
 c4:w.cell? ⟨p,4,none⟩=some (.int .i64 d)
 z1:w.frozen? ⟨p,1,none⟩=false
 z2:w.frozen? ⟨p,2,none⟩=false
 z3:w.frozen? ⟨p,3,none⟩=false
 z4:w.frozen? ⟨p,4,none⟩=false
theorem Rd.cells {B p:Nat} {w:World} {s:ByteArray} {st:ReSt} {es:List Bool} {dep:Nat} {mv cv:Value} (h:Rd B p w s st es dep mv cv):RdC w p s (st.pos:Int) mv cv (dep:Int):=
 ⟨(h.blk.cell 0).trans rfl,(h.blk.cell 1).trans rfl,(h.blk.cell 2).trans rfl,(h.blk.cell 3).trans rfl,(h.blk.cell 4).trans rfl,h.blk.frozen 1,h.blk.frozen 2,h.blk.frozen 3,h.blk.frozen 4⟩
theorem Rd.goto {B p:Nat} {w:World} {s:ByteArray} {st:ReSt} {es:List Bool} {dep:Nat} {mv cv:Value} (h:Rd B p w s st es dep mv cv) (k:Nat) (hk:st.pos≤k) (hs:k≤s.size) :
  Rd B p (w.setCell ⟨p,1,none⟩ (.int .i64 (k:Int))) s (st.to k) es dep mv cv∧RStep p w mv cv (w.setCell ⟨p,1,none⟩ (.int .i64 (k:Int))) mv cv:=by
 have hset:∀ b,b≠p→(w.setCell ⟨p,1,none⟩ (.int .i64 (k:Int))).heap[b]?=w.heap[b]?:=fun b hb=>Aei _ _ _ _ (fun e=>hb e)
 have hsz:(w.setCell ⟨p,1,none⟩ (.int .i64 (k:Int))).heap.size=w.heap.size:=by simp [World.setCell]
 refine ⟨{ blk:=(h.blk.set 1 (.int .i64 (k:Int))),mo:=?_,co:=?_,rr:=h.rr,bp:=h.bp,mp:=h.mp,cp:=h.cp,mc:=h.mc,pos:=hs,small:=h.small,few:=⟨Aed h.few.1 hk,Aed h.few.2 hk⟩ },?_⟩
 ·exact h.mo.kept ⟨rfl,rfl,rfl,by rw [hsz];exact Aec _,fun b _ hb=>hset b (fun e=>hb (by rw [e]))⟩ (Or.inr h.mp)
 ·exact h.co.kept ⟨rfl,rfl,rfl,by rw [hsz];exact Aec _,fun b _ hb=>hset b (fun e=>hb (by rw [e]))⟩ (Or.inr h.cp)
 ·exact ⟨rfl,rfl,rfl,by rw [hsz];exact Aec _,fun b _ hp h1 h2=>⟨hset b hp,h1,h2⟩⟩
theorem Fm {B p:Nat} {s:ByteArray} {st:ReSt} {es:List Bool} {dep:Nat} {mv cv:Value} (t:ByteArray) (w:World) (h:Rd B p w s st es dep mv cv) :
  Calls Tryz.prog 153 #[.pointer (some ⟨p,0,none⟩),.string t] w fun e w'=>e=.returned (.bool (AQ s.data.toList st.pos t.data.toList))∧∃ n,w'=w.drewN n:=by
 obtain ⟨c0,c1,c2,c3,c4,z1,z2,z3,z4⟩:=h.cells;have hp:=h.pos;have hs:=h.small;have hx:=BP s st.pos;have hc:=fun w=>Cs (s.extract st.pos s.size) t w
 rw [hx] at hc;clear hx h;unfold AQ;go_enter Tryz.func153,Tryz.ntmps153;go_wp2_with fail
 have hp2:(st.pos:Int)≤(s.size:Int):=by omega
 go_quiet ((go_at_call 23;exact Calls.quiet_of_same ((hc _).mono fun _ _ h=>⟨h.1,h.2.symm⟩)))
 go_wp2_with fail
 go_ret;exact ⟨rfl,_,rfl⟩
theorem Ib {B p:Nat} {s:ByteArray} {st:ReSt} {es:List Bool} {dep:Nat} {mv cv:Value} (t:ByteArray) (w:World) (h:Rd B p w s st es dep mv cv) (hn:AQ s.data.toList st.pos t.data.toList=false) :
  Calls Tryz.prog 140 #[.pointer (some ⟨p,0,none⟩),.string t] w fun e w'=>e=.returned (.bool false)∧∃ n,w'=w.drewN n:=by
 have hc:=Fm t w h;rw [hn] at hc;clear h;go_enter Tryz.func140,Tryz.ntmps140;go_wp2_with (go_at_call 153;refine hc.mono ?_;rintro e w' ⟨rfl,n,rfl⟩)
 go_ret;exact ⟨rfl,n,rfl⟩
theorem FL {B p:Nat} {s:ByteArray} {st:ReSt} {es:List Bool} {dep:Nat} {mv cv:Value} (t:ByteArray) (w:World) (h:Rd B p w s st es dep mv cv) (hn:AQ s.data.toList st.pos t.data.toList=true) (h0:t.data.toList≠[]) :
  Calls Tryz.prog 140 #[.pointer (some ⟨p,0,none⟩),.string t] w fun e w'=>e=.returned (.bool true)∧Rd B p w' s (st.to (st.pos+t.size)) es dep mv cv∧RStep p w mv cv w' mv cv:=by
 have hc:=Fm t w h;rw [hn] at hc;have hl:=FA _ _ _ hn h0;have e1:s.data.toList.length=s.size:=by simp
 have e2:t.data.toList.length=t.size:=by simp
 rw [e1,e2] at hl;have hsm:=h.small;have Wn:IntKind.i64.wrap ((st.pos:Int)+(t.size:Int))=((st.pos+t.size:Nat):Int):=by rw [Aej _ (by omega)];omega
 have hg:=fun n=>(h.below (below_drewN (Aeh w.heap.size w) n)).goto (st.pos+t.size) (by omega) hl
 have hstep:=fun n=>RStep.of_below (p:=p) (mv:=mv) (cv:=cv) (below_drewN (Aeh w.heap.size w) n)
 obtain ⟨c0,c1,c2,c3,c4,z1,z2,z3,z4⟩:=h.cells;have hx:(st.pos:Int)+(t.size:Int)=((st.pos+t.size:Nat):Int):=by omega
 clear h hn h0 e1 e2;have HG:=Ad5 hg;have HX:=Ad5 hx;clear hg hx;go_enter Tryz.func140,Tryz.ntmps140;go_wp2_with (go_at_call 153;refine hc.mono ?_;rintro e w' ⟨rfl,n,rfl⟩)
 go_ret;refine ⟨rfl,?_,?_⟩
 ·exact (HG.out n).1
 ·exact (hstep n).trans (HG.out n).2
theorem Gi (s:ByteArray) (k:Nat) (w:World) :
  Calls Tryz.prog 141 #[.string (s.extract k s.size)] w fun e w'=>e=.returned (.bool (AC s.data.toList k))∧w=w':=by
 have h1:=fun w=>Cs (s.extract k s.size) ⟨#[92,124]⟩ w
 have h2:=fun w=>Cs (s.extract k s.size) ⟨#[92,41]⟩ w
 have hx:=BP s k;rw [hx] at h1 h2;rw [Pr];unfold AQ;have hE:(s.data.toList.drop k).isEmpty=(s.extract k s.size).toList.isEmpty:=by rw [←hx,ByteArray.toList_eq]
 rw [hE];generalize s.extract k s.size=r at *;generalize s.data.toList.drop k=l at *;clear hE hx;cases he:r.toList.isEmpty
 ·have e2:¬ r.toList=[]:=by intro e;rw [e] at he;cases he
  have e1:(r.toList == [])=false:=by rw [beq_eq_false_iff_ne];exact e2
  cases q1:Lib.hasPrefix l [92,124]
  ·rw [show Lib.hasPrefix l (⟨#[92,124]⟩:ByteArray).data.toList=false from q1] at h1;cases q2:Lib.hasPrefix l [92,41]
   ·rw [show Lib.hasPrefix l (⟨#[92,41]⟩:ByteArray).data.toList=false from q2] at h2;clear q1 q2;go_enter Tryz.func141,Tryz.ntmps141;go_wp2_with (first | (go_at_call_of 23 (ByteArray.mk #[92,124]);refine (h1 _).mono ?_;rintro e w' ⟨rfl,rfl⟩) | (go_at_call 23;refine (h2 _).mono ?_;rintro e w' ⟨rfl,rfl⟩))
    go_ret;exact ⟨rfl,rfl⟩
   ·rw [show Lib.hasPrefix l (⟨#[92,41]⟩:ByteArray).data.toList=true from q2] at h2;clear q1 q2;go_enter Tryz.func141,Tryz.ntmps141;go_wp2_with (first | (go_at_call_of 23 (ByteArray.mk #[92,124]);refine (h1 _).mono ?_;rintro e w' ⟨rfl,rfl⟩) | (go_at_call 23;refine (h2 _).mono ?_;rintro e w' ⟨rfl,rfl⟩))
    go_ret;exact ⟨rfl,rfl⟩
  ·rw [show Lib.hasPrefix l (⟨#[92,124]⟩:ByteArray).data.toList=true from q1] at h1;clear q1;go_enter Tryz.func141,Tryz.ntmps141;go_wp2_with (first | (go_at_call_of 23 (ByteArray.mk #[92,124]);refine (h1 _).mono ?_;rintro e w' ⟨rfl,rfl⟩) | (go_at_call 23;refine (h2 _).mono ?_;rintro e w' ⟨rfl,rfl⟩))
   go_ret;exact ⟨rfl,rfl⟩
 ·have e2:r.toList=[]:=List.isEmpty_iff.1 he;have e1:(r.toList == [])=true:=by rw [e2];rfl
  clear h1 h2;go_enter Tryz.func141,Tryz.ntmps141;go_wp2_with fail
  go_ret;exact ⟨rfl,rfl⟩
theorem PY (n b c d e:Nat) (h:¬ b < 128):127 < (Lib.decodeN n b c d e).1:=by
 unfold Lib.decodeN;rw [if_neg h]
 repeat' split
 all_goals (simp only;omega)
theorem SZ (s:ByteArray) (pos:Nat) (h:¬ (s.data.toList.getD pos 0).toNat < 128):127 < (Utf8.decode s pos).1:=by
 rw [E0];exact PY _ _ _ _ _ h
theorem ET (s:ByteArray) (k:Nat):(s.extract k s.size).size=s.size - k:=by
 simp
theorem Rd.mark {B p:Nat} {W w6:World} {s:ByteArray} {st:ReSt} {es:List Bool} {dep:Nat} {mv cv v6:Value} {m:Nat × Nat} (h:Rd B p W s st es dep mv cv)
  (hown:w6.ownsRow B 33 2 v6 (st.marks.length+1) (marksC st.marks++Es m)) (hg:W.grownBy w6 mv.ownBlock) (hat:v6.ownBlock=mv.ownBlock∨v6.ownBlock=some W.heap.size) (hfew:st.marks.length+1≤st.pos) :
  Rd B p (w6.setCell ⟨p,2,none⟩ v6) s { st with marks:=st.marks++[m] } es dep v6 cv∧RStep p W mv cv (w6.setCell ⟨p,2,none⟩ v6) v6 cv:=by
 have hpl:=h.blk.lt;have hcl:=fun b hb=>AB h.co b hb
 have hset:∀ b,b≠p→(w6.setCell ⟨p,2,none⟩ v6).heap[b]?=w6.heap[b]?:=fun b hb=>Aei _ _ _ _ (fun e=>hb e)
 have hsz:(w6.setCell ⟨p,2,none⟩ v6).heap.size=w6.heap.size:=by simp [World.setCell]
 have hv6p:v6.ownBlock≠some p:=by
  rcases hat with e | e
  ·rw [e];exact h.mp
  ·rw [e];intro he;injection he with he;omega
 have hb6:Blk w6 p #[.string s,.int .i64 (st.pos:Int),mv,cv,.int .i64 (dep:Int)] 202:=by
  have h1:=h.blk;unfold Blk at h1 ⊢;rw [hg.block p hpl (fun e=>h.mp e.symm)];exact h1
 have hco6:=h.co.kept hg (by
  rcases hc:cv.ownBlock with _ | b
  ·exact .inl rfl
  ·refine .inr (fun e=>?_);exact h.mc b e.symm hc)
 refine ⟨{ blk:=hb6.set 2 v6,mo:=?_,co:=?_,rr:=h.rr,bp:=h.bp,mp:=hv6p,cp:=h.cp,mc:=?_,pos:=h.pos,small:=h.small,few:=⟨by simp;exact hfew,h.few.2⟩ },?_⟩
 ·rw [Aee,IK];exact hown.kept ⟨rfl,rfl,rfl,by rw [hsz];exact Aec _,fun b _ hb=>hset b (fun e=>hb (by rw [e]))⟩ (Or.inr hv6p)
 ·exact hco6.kept ⟨rfl,rfl,rfl,by rw [hsz];exact Aec _,fun b _ hb=>hset b (fun e=>hb (by rw [e]))⟩ (Or.inr h.cp)
 ·intro b hb;rcases hat with e | e
  ·exact h.mc b (by rw [←e];exact hb)
  ·intro hc;rw [e] at hb;injection hb with hb;have:=hcl b hc;omega
 ·refine ⟨hg.os,hg.tape,hg.output,by rw [hsz];exact hg.size,fun b hb hp h1 h2=>⟨?_,?_,h2⟩⟩
  ·rw [hset b hp];exact hg.block b hb (fun e=>h1 e.symm)
  ·rcases hat with e | e
   ·rw [e];exact h1
   ·rw [e];intro he;injection he with he;omega
theorem JV {B p:Nat} {s:ByteArray} {st:ReSt} {es:List Bool} {dep:Nat} {mv cv:Value} (t:ByteArray) (w:World) (h:Rd B p w s st es dep mv cv) (hn:AQ s.data.toList st.pos t.data.toList=false) :
  Calls Tryz.prog 127 #[.pointer (some ⟨p,0,none⟩),.string t] w fun e w'=>e=.returned (.bool false)∧∃ n,w'=w.drewN n:=by
 have hc:=Ib t w h hn;obtain ⟨c0,c1,c2,c3,c4,z1,z2,z3,z4⟩:=h.cells;clear h;go_enter Tryz.func127,Tryz.ntmps127;go_wp2_with (go_at_call 140;refine hc.mono ?_;rintro e w' ⟨rfl,n,rfl⟩)
 go_ret;exact ⟨rfl,n,rfl⟩
theorem Iv {B p:Nat} {s:ByteArray} {st:ReSt} {es:List Bool} {dep:Nat} {mv cv:Value} (c:Nat) (w:World) (h:Rd B p w s st es dep mv cv) (hn:AQ s.data.toList st.pos [92,UInt8.ofNat c]=true) :
  Calls Tryz.prog 127 #[.pointer (some ⟨p,0,none⟩),.string ⟨#[92,UInt8.ofNat c]⟩] w fun e w'=>e=.returned (.bool true)∧∃ mv',Rd B p w' s ((st.mark c).to (st.pos+2)) es dep mv' cv∧RStep p w mv cv w' mv' cv:=by
 obtain ⟨i0,hi,hz0,hz1,hz2⟩:=Cx;have hc:=FL ⟨#[92,UInt8.ofNat c]⟩ w h hn (by simp);rw [show (ByteArray.mk #[92,UInt8.ofNat c]).size=2 from rfl] at hc;have hs:=h.small;have hp:=h.pos;have hfew:=h.few.1;obtain ⟨c0,c1,c2,c3,c4,z1,z2,z3,z4⟩:=h.cells;have hb0:=Aed h.bp (Aeg h.blk.lt);clear h;go_enter Tryz.func127,Tryz.ntmps127;go_wp2_with fail
 refine hc.mono ?_;rintro e w1 ⟨rfl,hR,hS⟩;clear hc c0 c1 c2 c3 c4 z1 z2 z3 z4;obtain ⟨c0,c1,c2,c3,c4,z1,z2,z3,z4⟩:=hR.cells;have hA:=(Aeh w1.heap.size w1).alloc (Aec _) (.cells #[.int .i64 (st.pos:Int),.string ⟨#[92,UInt8.ofNat c]⟩] 33);have hRA:=hR.below hA;have hpl:=hR.blk.lt;have hSA:=hS.trans (RStep.of_below (p:=p) (mv:=mv) (cv:=cv) hA);have hnw:∀ j u,(Es (st.pos,c))[j]?=some u→(w1.alloc (.cells #[.int .i64 (st.pos:Int),.string ⟨#[92,UInt8.ofNat c]⟩] 33)).cell? ((⟨w1.heap.size,0,none⟩:Addr).add j)=some u:=by
  have hb:=Blk.new w1 #[.int .i64 (st.pos:Int),.string ⟨#[92,UInt8.ofNat c]⟩] 33 w1.heap.size rfl;intro j u hu;rw [Go.WideShapes.add_plain,Nat.zero_add,hb.cell j,←Array.getElem?_toList];exact hu
 have hv1:∀ u∈Es (st.pos,c),u.oneCell'=true:=by intro u hu;simp [Es] at hu;rcases hu with rfl | rfl <;> rfl
 have hm1:(st.to (st.pos+2)).marks.length+1≤maxLen:=by show st.marks.length+1≤_;unfold maxLen;omega
 have hm2:((st.to (st.pos+2)).marks.length+1) * 24≤140737488355328:=by show (st.marks.length+1) * 24≤_;omega
 have hbase:B≤w1.heap.size:=Aed hR.bp (Aeg hpl);have HS:=Ad5 hSA;have HR:=Ad5 hRA;clear hA hRA hSA hR hS;go_wp2_with (at_builtin;refine Af _ rfl _ _ 26 rfl B 33 i0 (.agg #[.int .i64 0,.string ⟨#[]⟩]) 2 24 Tryz.underlying26 hi hz0 hz1 hz2 rfl (by decide) mv _ _ rfl HR.out.mo (some ⟨w1.heap.size,0,none⟩) 1 1 (Es (st.pos,c)) rfl rfl (fun _=>⟨_,rfl,hnw⟩) hv1 hm1 hm2 (by simp;omega) ?_;intro v6 w6 hown6 hgrow6 hat6;have HM:=Ad5 (HR.out.mark (m:=(st.pos,c)) hown6 hgrow6 hat6 (by show st.marks.length+1≤st.pos+2;omega));have hfz:w6.frozen? ⟨p,2,none⟩=false:=(hgrow6.frozen_far ⟨p,2,none⟩ (by simp;omega) (fun e=>HR.out.mp e.symm)).trans (HR.out.blk.frozen 2);have hce:w6.cell? ⟨p,2,none⟩=some mv:=(hgrow6.cell_far ⟨p,2,none⟩ (by simp;omega) (fun e=>HR.out.mp e.symm)).trans ((HR.out.blk.cell 2).trans rfl);obtain ⟨g,gcap,hv6,_,_⟩:=World.ownsRow.form hown6 (Nat.succ_pos _);subst hv6;clear hown6 hgrow6 hat6 hnw c0 c1 c2 c3 c4 z1 z2 z3 z4)
 go_ret;exact ⟨rfl,_,HM.out.1,HS.out.trans HM.out.2⟩
end
end Go.Proofs.YteilldmmihiijaaGreatDoor
