/- Texts. -/
import Derived.Test.YteilldmmihiijaaGreatDoorQt03
import Derived.Test.YteilldmmihiijaaGreatDoorQt01
import Derived.Test.YteilldmmihiijaaGreatDoorQt04
import Derived.IntWalk
import Derived.Shelf.Strings.Cut
import Derived.WalkSmall
import Derived.Deep.RegionHeld3
import Derived.Deep.DeepCutAuto
import Derived.Deep.LoopGhost
import Derived.Deep.Upon
import Derived.Test.YteilldmmihiijaaGreatDoorRows
import Derived.Test.YteilldmmihiijaaGreatDoorQt02
import Derived.WalkKit
import Derived.Maps.AppendAt
import Derived.Deep.RegionLaw
import Derived.Laws.OwnMore
import Derived.Lib.Hide
import Derived.RangeFuncBox
import Derived.Laws.ResultCell
set_option linter.unusedSimpArgs false
set_option linter.unusedVariables false
set_option maxHeartbeats 8000000
set_option maxRecDepth 1000000
namespace Go.Proofs.YteilldmmihiijaaGreatDoor
open Nat renaming le_refl→Adf,lt_of_lt_of_le→Adi,le_of_lt→Adj
open List renaming length_append→Adh
open Go.RowKit.Below renaming refl→Adk,heap_setCell→Adl
open Go.World renaming cell?_of_block→Adn
section
def Stop (ere:Bool) (x:List UInt8):Prop:=x=[]∨∃ c,(c=41∨c=124)∧A0 ere x 0 c=true
def ReRep.up (P:Nat):ReRep→ReRep
 | .none=>.none
 | .bad=>.bad
 | .some a b c j=>.some a b c (P+j)
end
section
theorem N0 (ere:Bool) (s:List UInt8) (sub:Option (ReSt→ReRes (ReSt × Nd))) (begin:Nat):∀ (n:Nat) (st:ReSt) (parts:List Nd) (front:Bool) (st':ReSt) (d:Nd),
  branchM ere s sub false begin n st parts front=.ok (st',d)→s.length≤st'.pos∨A0 ere s st'.pos 124=true∨A0 ere s st'.pos 41=true:=by
 intro n;induction n with
 | zero=>intro st parts front st' d h;cases h
 | succ n ih=>
  intro st parts front st' d h;rw [branchM] at h;split at h
  ·rename_i he
   injection h with h;injection h with h1 _;subst h1;simp only [Bool.or_eq_true,decide_eq_true_eq,Bool.and_eq_true,Bool.not_false,and_true] at he;rcases he with (h | h) | h
   ·exact .inl h
   ·exact .inr (.inl h)
   ·exact .inr (.inr h)
  ·split at h
   ·exact ih _ _ _ _ _ h
   ·split at h
    ·exact ih _ _ _ _ _ h
    ·split at h
     ·cases h
     ·split at h
      ·cases h
      ·split at h
       ·cases h
       ·exact ih _ _ _ _ _ h
section
variable {ere:Bool} {p s x:List UInt8} (hx:Stop ere x) (g:Nat) (M:List (Nat × Nat))
include hx
end
end
section
theorem N1 {ere:Bool} {s:List UInt8} {st:ReSt} {d:Nd} (h:AY ere s=.ok (st,d)) :
  s.length≤250∧Aq ere s (some (Cs ere s 11)) false (s.length+1) DZ []=.ok (st,d)∧A0 ere s st.pos 41=false:=by
 have hl:s.length≤250:=by
  unfold AY at h;split at h
  ·cases h
  ·omega
 rw [Gy _ _ hl] at h;cases hc:Aq ere s (some (Cs ere s 11)) false (s.length+1) DZ [] with
 | error e=>rw [hc] at h;cases h
 | ok q=>
  obtain ⟨st2,d2⟩:=q;rw [hc] at h;unfold Fi at h;simp only at h;cases h41:A0 ere s st2.pos 41 with
  | true=>rw [h41] at h;cases h
  | false=>
   rw [h41] at h;injection h with h;injection h with h1 h2;subst h1 h2;exact ⟨hl,rfl,h41⟩
theorem CX (ere:Bool) (s:List UInt8) (k:Nat):Dx s (some (Cs ere s k))∧GO (some (Cs ere s k)):=
 ⟨fun f hf=>by injection hf with hf;subst hf;exact Ut ere s k,fun f hf=>by injection hf with hf;subst hf;exact Ik ere s k⟩
end
section
theorem UV (ere:Bool) (s:List UInt8):∀ (n:Nat) (st:ReSt) (d:Nd) (q:Nat × Nat),st.pos≤s.length→s.length < n+st.pos→DC ere s n st d=.error q→q.1≠0:=by
 intro n;induction n with
 | zero=>intro st d q h1 h2;omega
 | succ n ih=>
  intro st d q h1 h2 h;rw [DC] at h;cases hr:repAt ere s st.pos with
  | none=>rw [hr] at h;cases h
  | bad=>rw [hr] at h;injection h with h;subst h;simp
  | some mn mx c j=>
   rw [hr] at h;obtain ⟨m1,m2⟩:=F2 _ _ _ _ _ _ _ hr;exact ih ((if c=0 then st else st.mark c).to j) _ q m2 (by show _ < n+j;omega) h
def Ph (s:List UInt8) (sub:Option (ReSt→ReRes (ReSt × Nd))):Prop:=∀ f,sub=some f→∀ st q,st.pos≤s.length→f st=.error q→q.1≠0
theorem UW (ere:Bool) (st:ReSt) (c:Nat) (q:Nat × Nat) (h:Dk ere st c=.error q):q.1≠0:=by
 unfold Dk at h;split at h
 ·split at h
  ·cases h
  ·injection h with h;subst h;simp
 ·split at h
  ·injection h with h;subst h;simp
  ·cases h
theorem UX (ere:Bool) (s:List UInt8) (sub:Option (ReSt→ReRes (ReSt × Nd))) (hs:Ph s sub) (st:ReSt) (q:Nat × Nat) (h:Bb ere s sub st=.error q):q.1≠0:=by
 unfold Bb at h;split at h
 ·rename_i h40
  unfold Fz at h;split at h
  ·injection h with h;subst h;simp
  ·rename_i f
   split at h
   ·rename_i e he
    injection h with h;subst h;exact hs f rfl _ _ (Ea h40) he
   ·split at h
    ·cases h
    ·injection h with h;subst h;simp
 ·split at h
  ·injection h with h;subst h;simp
  ·split at h
   ·split at h
    ·cases h
    ·rename_i hz
     injection h with h;subst h;exact hz
   ·split at h
    ·cases h
    ·split at h
     ·split at h
      ·exact UW _ _ _ _ h
      ·injection h with h;subst h;simp
     ·cases h
theorem Pi (ere:Bool) (s:List UInt8) (sub:Option (ReSt→ReRes (ReSt × Nd))) (hs:Ph s sub) (hmv:Dx s sub) (top:Bool) (begin:Nat):∀ (n:Nat) (st:ReSt) (parts:List Nd) (front:Bool) (q:Nat × Nat),st.pos≤s.length→s.length < n+st.pos→
  branchM ere s sub top begin n st parts front=.error q→q.1≠0:=by
 intro n;induction n with
 | zero=>intro st parts front q h1 h2;omega
 | succ n ih=>
  intro st parts front q h1 h2 h;rw [branchM] at h;split at h
  ·cases h
  ·rename_i he
   have hlt:st.pos < s.length:=by
    simp only [Bool.or_eq_true,decide_eq_true_eq,not_or] at he;omega
   split at h
   ·exact ih (st.to (st.pos+1)) _ _ q (show st.pos+1≤_ by omega) (show _ < n+(st.pos+1) by omega) h
   ·split at h
    ·exact ih (st.to (st.pos+1)) _ _ q (show st.pos+1≤_ by omega) (show _ < n+(st.pos+1) by omega) h
    ·split at h
     ·injection h with h;subst h;simp
     ·split at h
      ·rename_i e ha
       injection h with h;subst h;exact UX ere s sub hs st _ ha
      ·rename_i st1 d1 ha
       have m1:=DD ere s sub hmv st st1 d1 hlt ha;split at h
       ·rename_i e hr
        injection h with h;subst h;exact UV ere s _ _ _ _ m1.2 (by omega) hr
       ·rename_i st2 d2 hr
        have m2:=FT ere s _ _ _ _ _ m1.2 hr;exact ih st2 _ _ q m2.2 (by omega) h
theorem G4 (ere:Bool) (s:List UInt8) (sub:Option (ReSt→ReRes (ReSt × Nd))) (hs:Ph s sub) (hmv:Dx s sub) (top:Bool):∀ (n:Nat) (st:ReSt) (l:List Nd) (q:Nat × Nat),st.pos≤s.length→s.length < n+st.pos→
  Aq ere s sub top n st l=.error q→q.1≠0:=by
 intro n;induction n with
 | zero=>intro st l q h1 h2;omega
 | succ n ih=>
  intro st l q h1 h2 h;rw [Aq] at h;split at h
  ·rename_i e hb
   injection h with h;subst h;exact Pi ere s sub hs hmv top _ _ _ _ _ _ h1 (by omega) hb
  ·rename_i st1 d1 hb
   have m1:=FU ere s sub hmv top _ _ _ _ _ _ _ h1 hb;split at h
   ·rename_i h124
    have hp:=Gz ere;exact ih ((if ere then st1 else st1.mark 124).to (st1.pos+AX ere)) _ q (Ea h124) (by show _ < n+(st1.pos+AX ere);omega) h
   ·cases h
theorem Yf (ere:Bool) (s:List UInt8):∀ (k:Nat) (st:ReSt) (q:Nat × Nat),st.pos≤s.length→Cs ere s k st=.error q→q.1≠0:=by
 intro k;induction k with
 | zero=>intro st q hp h;exact G4 ere s none (fun f hf=>by cases hf) (fun f hf=>by cases hf) false _ _ _ _ hp (by omega) h
 | succ k ih=>intro st q hp h;exact G4 ere s (some (Cs ere s k)) (fun f hf=>by injection hf with hf;subst hf;exact ih) (CX ere s k).1 false _ _ _ _ hp (by omega) h
theorem In {ere:Bool} {s:List UInt8} {q:Nat × Nat} (h:AY ere s=.error q):q.1≠0:=by
 unfold AY at h;split at h
 ·injection h with h;subst h;simp
 ·exact G4 ere s (some (Cs ere s 11)) (fun f hf=>by injection hf with hf;subst hf;exact Yf ere s 11) (CX ere s 11).1 true _ _ _ _ (Nat.zero_le _) (by omega) h
theorem JB (f:Nd→List Nd) (hf:∀ d,Ax (f d)≤Au d) (l:List Nd):Ax (l.flatMap f)≤Ax l:=by
 induction l with
 | nil=>exact Adf _
 | cons d ds ih=>rw [List.flatMap_cons,Dp,Ax];have:=hf d;omega
theorem N2 (l:List Nd):Au (Bs l)≤1+Ax l:=by
 have h:=JB Bk LJ l;unfold Bs;unfold AF;cases hl:l.flatMap Bk with
 | nil=>simp [Au]
 | cons d ds=>
  rw [hl] at h;cases ds with
  | nil=>simp only [Ax] at h;simp only;omega
  | cons e es=>simp only [Au];omega
theorem N3 (l:List Nd):Au (Cg l)≤1+Ax l:=by
 have h:=JB AO LK l;unfold Cg;unfold AG;cases hl:l.flatMap AO with
 | nil=>simp [Au]
 | cons d ds=>
  rw [hl] at h;cases ds with
  | nil=>simp only [Ax] at h;simp only;omega
  | cons e es=>simp only [Au];omega
theorem Sl (ere:Bool) (s:List UInt8):∀ (n:Nat) (st:ReSt) (d:Nd) (st':ReSt) (d':Nd),DC ere s n st d=.ok (st',d')→Au d'+3 * st.pos≤Au d+3 * st'.pos:=by
 intro n;induction n with
 | zero=>intro st d st' d' h;cases h
 | succ n ih=>
  intro st d st' d' h;rw [DC] at h;cases hr:repAt ere s st.pos with
  | none=>rw [hr] at h;injection h with h;injection h with h1 h2;subst h1 h2;exact Adf _
  | bad=>rw [hr] at h;cases h
  | some mn mx c j=>
   rw [hr] at h;have m:=(F2 _ _ _ _ _ _ _ hr).1;have:=ih _ _ _ _ h;rw [show ((if c=0 then st else st.mark c).to j).pos=j from rfl,Au] at this;omega
def Md (s:List UInt8) (sub:Option (ReSt→ReRes (ReSt × Nd))):Prop:=∀ f,sub=some f→∀ st st' d,st.pos≤s.length→f st=.ok (st',d)→Au d+3 * st.pos≤2+3 * st'.pos
theorem Sm (ere:Bool) (s:List UInt8) (sub:Option (ReSt→ReRes (ReSt × Nd))) (hs:Md s sub) (hmv:Dx s sub) (st st':ReSt) (d:Nd) (hl:st.pos < s.length) (h:Bb ere s sub st=.ok (st',d)):Au d+3 * st.pos≤3 * st'.pos:=by
 have hp:=Gz ere;have hm:=(DD ere s sub hmv st st' d hl h).1;unfold Bb at h;split at h
 ·rename_i h40
  unfold Fz at h;split at h
  ·cases h
  ·rename_i f
   split at h
   ·cases h
   ·rename_i st1 d1 he
    split at h
    ·injection h with h
     injection h with h1 h2;subst h1 h2;have:=hs f rfl _ _ _ (Ea h40) he;simp only at this;simp only [Au];omega
    ·cases h
 ·split at h
  ·cases h
  ·split at h
   ·split at h
    ·injection h with h;injection h with h1 h2;subst h2;simp only [Au];omega
    ·cases h
   ·split at h
    ·injection h with h;injection h with h1 h2;subst h2;simp only [Au];omega
    ·split at h
     ·split at h
      ·unfold Dk at h
       split at h
       ·split at h
        ·injection h with h;injection h with h1 h2;subst h2;simp only [Au];omega
        ·cases h
       ·split at h
        ·cases h
        ·injection h with h;injection h with h1 h2;subst h2;simp only [Au];omega
      ·cases h
     ·injection h with h;injection h with h1 h2;subst h2;simp only [Au];omega
theorem N4 (ere:Bool) (s:List UInt8) (sub:Option (ReSt→ReRes (ReSt × Nd))) (hs:Md s sub) (hmv:Dx s sub) (top:Bool) (begin:Nat):∀ (n:Nat) (st:ReSt) (parts:List Nd) (front:Bool) (st':ReSt) (d:Nd),st.pos≤s.length→
  branchM ere s sub top begin n st parts front=.ok (st',d)→Au d+3 * st.pos≤1+Ax parts+3 * st'.pos:=by
 intro n;induction n with
 | zero=>intro st parts front st' d _ h;cases h
 | succ n ih=>
  intro st parts front st' d h1 h;have hsn:∀ x,Ax (parts++[x])=Ax parts+Au x:=fun x=>by rw [Dp];simp [Ax]
  rw [branchM] at h;split at h
  ·injection h with h;injection h with h2 h3;subst h2 h3
   have:=N2 parts;omega
  ·rename_i he
   have hlt:st.pos < s.length:=by
    simp only [Bool.or_eq_true,decide_eq_true_eq,not_or] at he;omega
   split at h
   ·have:=ih (st.to (st.pos+1)) _ _ _ _ (show st.pos+1≤_ by omega) h
    rw [hsn,show (st.to (st.pos+1)).pos=st.pos+1 from rfl] at this;simp only [Au] at this;omega
   ·split at h
    ·have:=ih (st.to (st.pos+1)) _ _ _ _ (show st.pos+1≤_ by omega) h
     rw [hsn,show (st.to (st.pos+1)).pos=st.pos+1 from rfl] at this;simp only [Au] at this;omega
    ·split at h
     ·cases h
     ·split at h
      ·cases h
      ·rename_i st1 d1 ha
       have m1:=DD ere s sub hmv st st1 d1 hlt ha;have z1:=Sm ere s sub hs hmv st st1 d1 hlt ha;split at h
       ·cases h
       ·rename_i st2 d2 hr
        have m2:=FT ere s _ _ _ _ _ m1.2 hr;have z2:=Sl ere s _ _ _ _ _ hr;have:=ih st2 _ _ _ _ m2.2 h;rw [hsn] at this;omega
theorem FB (ere:Bool) (s:List UInt8) (sub:Option (ReSt→ReRes (ReSt × Nd))) (hs:Md s sub) (hmv:Dx s sub) (top:Bool):∀ (n:Nat) (st:ReSt) (l:List Nd) (st':ReSt) (d:Nd),st.pos≤s.length→
  Aq ere s sub top n st l=.ok (st',d)→Au d+3 * st.pos≤2+Ax l+3 * st'.pos:=by
 intro n;induction n with
 | zero=>intro st l st' d _ h;cases h
 | succ n ih=>
  intro st l st' d h1 h;have hsn:∀ x,Ax (l++[x])=Ax l+Au x:=fun x=>by rw [Dp];simp [Ax]
  rw [Aq] at h;split at h
  ·cases h
  ·rename_i st1 d1 hb
   have z1:=N4 ere s sub hs hmv top _ _ _ _ _ _ _ h1 hb;simp only [Ax] at z1;split at h
   ·rename_i h124
    have hp:=Gz ere;have:=ih ((if ere then st1 else st1.mark 124).to (st1.pos+AX ere)) _ _ _ (Ea h124) h;rw [hsn,show ((if ere then st1 else st1.mark 124).to (st1.pos+AX ere)).pos=st1.pos+AX ere from rfl] at this;omega
   ·injection h with h;injection h with h2 h3;subst h2 h3
    have:=N3 (l++[d1]);rw [hsn] at this;omega
theorem UY (ere:Bool) (s:List UInt8):∀ (k:Nat) (st st':ReSt) (d:Nd),st.pos≤s.length→Cs ere s k st=.ok (st',d)→Au d+3 * st.pos≤2+3 * st'.pos:=by
 intro k;induction k with
 | zero=>intro st st' d hp h;have:=FB ere s none (fun f hf=>by cases hf) (fun f hf=>by cases hf) false _ _ _ _ _ hp h;simp only [Ax] at this;omega
 | succ k ih=>intro st st' d hp h;have:=FB ere s (some (Cs ere s k)) (fun f hf=>by injection hf with hf;subst hf;exact ih) (CX ere s k).1 false _ _ _ _ _ hp h;simp only [Ax] at this;omega
theorem Pj {ere:Bool} {s:List UInt8} {st:ReSt} {d:Nd} (h:AY ere s=.ok (st,d)):Au d≤752:=by
 obtain ⟨hl,hc,_⟩:=N1 h;have h1:=FB ere s (some (Cs ere s 11)) (fun f hf=>by injection hf with hf;subst hf;exact UY ere s 11) (CX ere s 11).1 false _ _ _ _ _ (Nat.zero_le _) hc;have h2:=(FV ere s (some (Cs ere s 11)) (CX ere s 11).1 false _ _ _ _ _ (Nat.zero_le _) hc).2;simp only [Ax] at h1;omega
def OC (st st':ReSt):Prop:=st'.marks.length+st.pos≤st.marks.length+st'.pos
theorem GX (st:ReSt) (c:Nat):(st.mark c).marks.length=st.marks.length+1:=by unfold ReSt.mark;simp
theorem UZ (ere:Bool) (s:List UInt8):∀ (n:Nat) (st:ReSt) (d:Nd) (st':ReSt) (d':Nd),DC ere s n st d=.ok (st',d')→OC st st':=by
 intro n;induction n with
 | zero=>intro st d st' d' h;cases h
 | succ n ih=>
  intro st d st' d' h;rw [DC] at h;cases hr:repAt ere s st.pos with
  | none=>rw [hr] at h;injection h with h;injection h with h1 h2;subst h1 h2;exact Adf _
  | bad=>rw [hr] at h;cases h
  | some mn mx c j=>
   rw [hr] at h;have m:=(F2 _ _ _ _ _ _ _ hr).1;have:=ih _ _ _ _ h;unfold OC at this ⊢;rw [show ((if c=0 then st else st.mark c).to j).pos=j from rfl,show ((if c=0 then st else st.mark c).to j).marks=(if c=0 then st else st.mark c).marks from rfl] at this;by_cases hc:c=0
   ·rw [if_pos hc] at this;omega
   ·rw [if_neg hc,GX] at this;omega
def Pk (s:List UInt8) (sub:Option (ReSt→ReRes (ReSt × Nd))):Prop:=∀ f,sub=some f→∀ st st' d,st.pos≤s.length→f st=.ok (st',d)→OC st st'
theorem N5 (ere:Bool) (s:List UInt8) (sub:Option (ReSt→ReRes (ReSt × Nd))) (hs:Pk s sub) (hmv:Dx s sub) (st st':ReSt) (d:Nd) (hl:st.pos < s.length) (h:Bb ere s sub st=.ok (st',d)):OC st st':=by
 have hp:=Gz ere;have hm:=(DD ere s sub hmv st st' d hl h).1;unfold OC;unfold Bb at h;split at h
 ·rename_i h40
  unfold Fz at h;split at h
  ·cases h
  ·rename_i f
   split at h
   ·cases h
   ·rename_i st1 d1 he
    split at h
    ·injection h with h
     injection h with h1 h2;subst h1 h2;have:=hs f rfl _ _ _ (Ea h40) he;unfold OC at this;simp only at this ⊢;omega
    ·cases h
 ·split at h
  ·cases h
  ·split at h
   ·split at h
    ·injection h with h;injection h with h1 h2;subst h1;exact Nat.add_le_add_left (Adj hm) _
    ·cases h
   ·split at h
    ·injection h with h;injection h with h1 h2;subst h1;exact Nat.add_le_add_left (Adj hm) _
    ·split at h
     ·split at h
      ·have hpos:=Rc ere st st' _ d h
       unfold Dk at h;split at h
       ·split at h
        ·injection h with h;injection h with h1 h2;subst h1
         cases ere with
         | true=>show (st.mark _).marks.length+_≤_;rw [GX,hpos];omega
         | false=>show st.marks.length+_≤_;rw [hpos];omega
        ·cases h
       ·split at h
        ·cases h
        ·rename_i x m _
         injection h with h;injection h with h1 h2;subst h1;cases m with
         | true=>show (st.mark _).marks.length+_≤_;rw [GX,hpos];omega
         | false=>show st.marks.length+_≤_;rw [hpos];omega
      ·cases h
     ·injection h with h;injection h with h1 h2;subst h1;exact Nat.add_le_add_left (Adj hm) _
theorem Pl (ere:Bool) (s:List UInt8) (sub:Option (ReSt→ReRes (ReSt × Nd))) (hs:Pk s sub) (hmv:Dx s sub) (top:Bool) (begin:Nat):∀ (n:Nat) (st:ReSt) (parts:List Nd) (front:Bool) (st':ReSt) (d:Nd),st.pos≤s.length→
  branchM ere s sub top begin n st parts front=.ok (st',d)→OC st st':=by
 intro n;induction n with
 | zero=>intro st parts front st' d _ h;cases h
 | succ n ih=>
  intro st parts front st' d h1 h;rw [branchM] at h;split at h
  ·injection h with h;injection h with h2 h3;subst h2 h3
   exact Adf _
  ·rename_i he
   have hlt:st.pos < s.length:=by
    simp only [Bool.or_eq_true,decide_eq_true_eq,not_or] at he;omega
   have hto:OC (st.to (st.pos+1)) st'→OC st st':=fun h=>by
    unfold OC at h ⊢;rw [show (st.to (st.pos+1)).pos=st.pos+1 from rfl,show (st.to (st.pos+1)).marks=st.marks from rfl] at h;omega
   split at h
   ·exact hto (ih (st.to (st.pos+1)) _ _ _ _ (show st.pos+1≤_ by omega) h)
   ·split at h
    ·exact hto (ih (st.to (st.pos+1)) _ _ _ _ (show st.pos+1≤_ by omega) h)
    ·split at h
     ·cases h
     ·split at h
      ·cases h
      ·rename_i st1 d1 ha
       have m1:=DD ere s sub hmv st st1 d1 hlt ha;have z1:=N5 ere s sub hs hmv st st1 d1 hlt ha;split at h
       ·cases h
       ·rename_i st2 d2 hr
        have m2:=FT ere s _ _ _ _ _ m1.2 hr;have z2:=UZ ere s _ _ _ _ _ hr;have:=ih st2 _ _ _ _ m2.2 h;unfold OC at *;omega
theorem G5 (ere:Bool) (s:List UInt8) (sub:Option (ReSt→ReRes (ReSt × Nd))) (hs:Pk s sub) (hmv:Dx s sub) (top:Bool):∀ (n:Nat) (st:ReSt) (l:List Nd) (st':ReSt) (d:Nd),st.pos≤s.length→
  Aq ere s sub top n st l=.ok (st',d)→OC st st':=by
 intro n;induction n with
 | zero=>intro st l st' d _ h;cases h
 | succ n ih=>
  intro st l st' d h1 h;rw [Aq] at h;split at h
  ·cases h
  ·rename_i st1 d1 hb
   have z1:=Pl ere s sub hs hmv top _ _ _ _ _ _ _ h1 hb;split at h
   ·rename_i h124
    have hp:=Gz ere;have:=ih ((if ere then st1 else st1.mark 124).to (st1.pos+AX ere)) _ _ _ (Ea h124) h;unfold OC at *;rw [show ((if ere then st1 else st1.mark 124).to (st1.pos+AX ere)).pos=st1.pos+AX ere from rfl,show ((if ere then st1 else st1.mark 124).to (st1.pos+AX ere)).marks=(if ere then st1 else st1.mark 124).marks from rfl] at this;cases ere with
    | true=>simp only [if_true] at this;omega
    | false=>simp only [Bool.false_eq_true,if_false,GX] at this;omega
   ·injection h with h;injection h with h2 h3;subst h2 h3
    exact z1
theorem Yg (ere:Bool) (s:List UInt8):∀ (k:Nat) (st st':ReSt) (d:Nd),st.pos≤s.length→Cs ere s k st=.ok (st',d)→OC st st':=by
 intro k;induction k with
 | zero=>intro st st' d hp h;exact G5 ere s none (fun f hf=>by cases hf) (fun f hf=>by cases hf) false _ _ _ _ _ hp h
 | succ k ih=>intro st st' d hp h;exact G5 ere s (some (Cs ere s k)) (fun f hf=>by injection hf with hf;subst hf;exact ih) (CX ere s k).1 false _ _ _ _ _ hp h
theorem Lf {ere:Bool} {s:List UInt8} {st:ReSt} {d:Nd} (h:AY ere s=.ok (st,d)):st.marks.length≤s.length:=by
 obtain ⟨hl,hc,_⟩:=N1 h;have h1:=G5 ere s (some (Cs ere s 11)) (fun f hf=>by injection hf with hf;subst hf;exact Yg ere s 11) (CX ere s 11).1 false _ _ _ _ _ (Nat.zero_le _) hc;have h2:=(FV ere s (some (Cs ere s 11)) (CX ere s 11).1 false _ _ _ _ _ (Nat.zero_le _) hc).2;unfold OC at h1;rw [show DZ.pos=0 from rfl,show DZ.marks.length=0 from rfl] at h1;omega
end
section
set_option linter.unusedVariables false
theorem Va (L:List UInt8) (d:UInt8) (st:CS):(CE L d st).2.ms=st.ms:=by
 unfold CE DG;split
 ·split <;> rfl
 ·rfl
end
section
set_option linter.unusedVariables false
def Rm:List UInt8:=[35,110,10,47,97,47,123,112,59,98,32,120,125]
def Lg:List UInt8:=[35,110,10,47,97,47,123,112,59,98,32,120,10,125,10,58,120]
def Acf (R:Except (Nat × Nat) SS):Nat × Nat:=match R with | .error q=>q | .ok _=>(0,0)
def Rn (R:Except (Nat × Nat) SS):List UInt8:=match R with | .error q=>[] | .ok st=>st.cs.map (·.name)
def Vb (R:Except (Nat × Nat) SS):List (List UInt8):=match R with | .error q=>[] | .ok st=>st.cs.map (·.arg)
theorem Aap:Acf (MW false Rm)=(16,6):=by decide +kernel
theorem Aaq:Rn (MW false Lg)=[123,112,98,125,58]:=by decide +kernel
theorem Aar:Vb (MW false Lg)=[[],[],[120],[],[120]]:=by decide +kernel
theorem Aas:C4 Lg=true:=by decide
end
section
open Go Go.RowKit Go.Shelf
theorem Vc (l:List UInt8):(Lib.cut l [10]).1=l.take (AH (fun b=>!(b == 10)) l):=by
 unfold Lib.cut;rw [Lib.index_one,FQ];by_cases h:AH (fun b=>!(b == (10:UInt8))) l < l.length
 ·rw [if_pos h,if_pos (by omega)];simp
 ·rw [if_neg h,if_neg (by omega)]
  exact (List.take_of_length_le (show l.length≤_ by omega)).symm
def Vd:Go.Shelf.Ren:=⟨fun | 145=>21 | 217=>54 | 219=>37 | 220=>30 | 224=>56 | 225=>55 | 266=>78 | 267=>57 | 314=>79 | n=>n,fun | 3=>3 | 4=>4 | 5=>5 | 9=>9 | 46=>125 | 51=>150 | 59=>64 | 146=>151 | n=>n,fun | 1=>0 | n=>n⟩
theorem Sn:Go.Proofs.Lays.n145 Tryz.prog Vd:={
 mixed:=by kernel_rfl
 f145:=Tryz.func21.trans (congrArg some (by kernel_rfl))
 f217:=Tryz.func54.trans (congrArg some (by kernel_rfl))
 f219:=Tryz.func37.trans (congrArg some (by kernel_rfl))
 f220:=Tryz.func30.trans (congrArg some (by kernel_rfl))
 f224:=Tryz.func56.trans (congrArg some (by kernel_rfl))
 f225:=Tryz.func55.trans (congrArg some (by kernel_rfl))
 f266:=Tryz.func78.trans (congrArg some (by kernel_rfl))
 f267:=Tryz.func57.trans (congrArg some (by kernel_rfl))
 f314:=Tryz.func79.trans (congrArg some (by kernel_rfl))
 t3:=Tryz.underlying3
 a3:=Tryz.isAgg3
 z3:=Tryz.sizeOf3
 v3:=Tryz.zeroValue3
 t4:=Tryz.underlying4
 a4:=Tryz.isAgg4
 z4:=Tryz.sizeOf4
 v4:=Tryz.zeroValue4
 t5:=Tryz.underlying5
 a5:=Tryz.isAgg5
 z5:=Tryz.sizeOf5
 v5:=Tryz.zeroValue5
 t9:=Tryz.underlying9
 a9:=Tryz.isAgg9
 z9:=Tryz.sizeOf9
 v9:=Tryz.zeroValue9
 t46:=Tryz.underlying125
 a46:=Tryz.isAgg125
 z46:=Tryz.sizeOf125
 v46:=Tryz.zeroValue125
 t51:=Tryz.underlying150
 a51:=Tryz.isAgg150
 z51:=Tryz.sizeOf150
 v51:=Tryz.zeroValue150
 t59:=Tryz.underlying64
 a59:=Tryz.isAgg64
 z59:=Tryz.sizeOf64
 v59:=Tryz.zeroValue64
 t146:=Tryz.underlying151
 a146:=Tryz.isAgg151
 z146:=Tryz.sizeOf151
 v146:=Tryz.zeroValue151
 g1:=by kernel_rfl
}
theorem Ve (s:ByteArray) (w:World) (hs:s.size < 4294967281) (hG:Gl w) :
  Calls Tryz.prog 21 #[.string s,.string ⟨#[10]⟩] w fun e w'=>(∃ t b,e=.returned (.tuple #[.string (txt (s.data.toList.take (AH (fun b=>!(b == 10)) s.data.toList))),.string t,.bool b]))∧Below w.heap.size w w':=by
 obtain ⟨m,hm⟩:=hG.ml;refine (Any.strings_Cut Sn s ⟨#[10]⟩ m w hs hm).mono ?_;rintro e w' ⟨rfl,n,rfl⟩;have h:(⟨(Lib.cut s.data.toList (⟨#[10]⟩:ByteArray).data.toList).1.toArray⟩:ByteArray)=txt (s.data.toList.take (AH (fun b=>!(b == 10)) s.data.toList)):=by
  rw [show (⟨#[10]⟩:ByteArray).data.toList=[10] from rfl,Vc];rfl
 rw [h];exact ⟨⟨_,_,rfl⟩,below_drewN (Adk _ _) n⟩
end
section
open Go Go.RowKit Go.Shelf
theorem Lh (s:ByteArray) (k p:Nat) (w:World) (hs:s.size≤4000) (hk:k≤s.size) (hG:Gl w) (hp:p < w.heap.size) (c2:w.cell? ⟨p,2,none⟩=some (.string s)) (c4:w.cell? ⟨p,4,none⟩=some (.int .i64 (k:Int))) :
  Calls Tryz.prog 15 #[.pointer (some ⟨p,0,none⟩)] w fun e w'=>e=.returned (.string (txt ((s.data.toList.drop k).take (D2 s.data.toList k))))∧Below w.heap.size w w':=by
 have hx:(s.extract k s.size).size≤4000:=by rw [ByteArray.size_extract];omega
 have hcut:=fun W (hB:Below w.heap.size w W)=>(Ve (s.extract k s.size) W (by omega) (hG.up hB)).mono fun e w' h=>(⟨h.1,hB.trans (h.2.mono hB.size)⟩:_∧Below w.heap.size w w')
 rw [BL] at hcut;rw [show (s.data.toList.drop k).take (D2 s.data.toList k)=(s.data.toList.drop k).take (AH (fun b=>!(b == 10)) (s.data.toList.drop k)) from rfl];generalize txt ((s.data.toList.drop k).take (AH (fun b=>!(b == 10)) (s.data.toList.drop k)))=T at hcut ⊢;obtain ⟨E,hE⟩:∃ E,s.extract k s.size=E:=⟨_,rfl⟩;rw [hE] at hcut;have h0:(0:Int)≤(k:Int):=by omega
 have h1:(k:Int)≤(s.size:Int):=by omega
 clear hG hx;go_enter Tryz.func15,Tryz.ntmps15;go_upto_region 1 with fail;go_cut [3] (fun s3 wx=>s3=.string T∧Below w.heap.size w wx)
 case first=>
  go_region_held3 (fun w'=>w'.cell? ⟨p,2,none⟩=some (.string s)∧w'.cell? ⟨p,4,none⟩=some (.int .i64 (k:Int))) (first | exact ⟨c2,c4⟩ | (refine ⟨?_,?_⟩ <;> assumption)) (first | (go_at_call 21;(try rw [hE]);refine (hcut _ (by first | exact Adk _ _ | exact (Adk _ _).drew)).mono ?_;rintro e w1 ⟨⟨t,b,rfl⟩,b1⟩;have m2:w1.cell? ⟨p,2,none⟩=some (.string s):=(b1.cell (p:=⟨p,2,none⟩) hp).trans c2;have m4:w1.cell? ⟨p,4,none⟩=some (.int .i64 (k:Int)):=(b1.cell (p:=⟨p,4,none⟩) hp).trans c4))
  all_goals
   (try go_wp2_with fail)
   go_meet;exact ⟨rfl,by first | exact b1 | exact b1.drew⟩
 case rest=>
  obtain ⟨rfl,hb⟩:=hcut;go_wp2_with fail
  go_ret;exact ⟨rfl,hb⟩
end
section
open Go Go.RowKit Go.Shelf
abbrev scC (q:Bool) (cv:Value) (s:ByteArray) (ext:Bool) (k:Nat) (mv ov lv:Value):Array Value:=#[.bool q,cv,.string s,.bool ext,.int .i64 (k:Int),mv,ov,lv]
end
section
open Go.RowKit
def Ef (F:Nat→Prop):Nat→World→Nd→Value→Prop
 | 0,_,_,_=>False
 | n+1,w,d,v=>match d with
  | .empty=>v=.iface 105 (.agg #[])∨v=.nilIface
  | .one s=>v=.iface 111 (.agg #[.int .u64 (ow s 0),.int .u64 (ow s 1),.int .u64 (ow s 2),.int .u64 (ow s 3)])
  | .cat l=>∃ a cap,v=.iface 98 (.agg #[.slice a l.length cap])∧l.length≤cap∧cap≤maxLen∧
    (0 < l.length→∃ b o,a=some ⟨b,o,none⟩∧F b∧b < w.heap.size∧∀ i (h:i < l.length),∃ u,w.cell? ⟨b,o+i,none⟩=some u∧Ef F n w l[i] u)
  | .alt l=>∃ a cap,v=.iface 99 (.agg #[.slice a l.length cap])∧l.length≤cap∧cap≤maxLen∧
    (0 < l.length→∃ b o,a=some ⟨b,o,none⟩∧F b∧b < w.heap.size∧∀ i (h:i < l.length),∃ u,w.cell? ⟨b,o+i,none⟩=some u∧Ef F n w l[i] u)
  | .rep d mn mx=>∃ u,v=.iface 101 (.agg #[u,.int .i64 mn,.int .i64 mx])∧Ef F n w d u
  | .group num d=>∃ u,v=.iface 103 (.agg #[.int .i64 num,u])∧Ef F n w d u
  | .back num=>v=.iface 117 (.agg #[.int .i64 num])
  | .start=>v=.iface 119 (.agg #[])
  | .fin=>v=.iface 121 (.agg #[])
def Z0 (F:Nat→Prop) (n:Nat) (w:World) (l:List Nd) (a:Option Addr) (cap:Nat):Prop:=
 l.length≤cap∧cap≤maxLen∧(0 < l.length→∃ b o,a=some ⟨b,o,none⟩∧F b∧b < w.heap.size∧∀ i (h:i < l.length),∃ u,w.cell? ⟨b,o+i,none⟩=some u∧Ef F n w l[i] u)
theorem Ef.keep {F G:Nat→Prop} {w w':World} (hs:w.heap.size≤w'.heap.size) (hF:∀ b,F b→b < w.heap.size→G b∧∀ o,w'.cell? ⟨b,o,none⟩=w.cell? ⟨b,o,none⟩) :
  ∀ (n:Nat) (d:Nd) (v:Value),Ef F n w d v→Ef G n w' d v:=by
 intro n;induction n with
 | zero=>intro d v h;exact h
 | succ n ih=>
  have hrow:∀ (l:List Nd) (a:Option Addr),(0 < l.length→∃ b o,a=some ⟨b,o,none⟩∧F b∧b < w.heap.size∧∀ i (h:i < l.length),∃ u,w.cell? ⟨b,o+i,none⟩=some u∧Ef F n w l[i] u)→
    (0 < l.length→∃ b o,a=some ⟨b,o,none⟩∧G b∧b < w'.heap.size∧∀ i (h:i < l.length),∃ u,w'.cell? ⟨b,o+i,none⟩=some u∧Ef G n w' l[i] u):=by
   intro l a h h0;obtain ⟨b,o,rfl,hf,hb,hx⟩:=h h0;refine ⟨b,o,rfl,(hF b hf hb).1,Adi hb hs,fun i hi=>?_⟩;obtain ⟨u,hu,hr⟩:=hx i hi;exact ⟨u,((hF b hf hb).2 _).trans hu,ih _ _ hr⟩
  intro d v h;cases d with
  | empty=>exact h
  | one s=>exact h
  | cat l=>
   obtain ⟨a,cap,h1,h2,h3,h4⟩:=h;exact ⟨a,cap,h1,h2,h3,hrow l a h4⟩
  | alt l=>
   obtain ⟨a,cap,h1,h2,h3,h4⟩:=h;exact ⟨a,cap,h1,h2,h3,hrow l a h4⟩
  | rep d mn mx=>
   obtain ⟨u,h1,h2⟩:=h;exact ⟨u,h1,ih _ _ h2⟩
  | group num d=>
   obtain ⟨u,h1,h2⟩:=h;exact ⟨u,h1,ih _ _ h2⟩
  | back num=>exact h
  | start=>exact h
  | fin=>exact h
theorem Ef.below {F:Nat→Prop} {w w':World} (hb:Below w.heap.size w w') (n:Nat) (d:Nd) (v:Value) (h:Ef F n w d v):Ef F n w' d v:=
 h.keep hb.size (fun b hf hlt=>⟨hf,fun o=>hb.cell (p:=⟨b,o,none⟩) hlt⟩)
theorem Ef.more {F:Nat→Prop} {w:World}:∀ (n m:Nat) (d:Nd) (v:Value),n≤m→Ef F n w d v→Ef F m w d v:=by
 intro n;induction n with
 | zero=>intro m d v _ h;exact h.elim
 | succ n ih=>
  intro m d v hm h;obtain ⟨m,rfl⟩:∃ m',m=m'+1:=⟨m - 1,by omega⟩;have hrow:∀ (l:List Nd) (a:Option Addr),(0 < l.length→∃ b o,a=some ⟨b,o,none⟩∧F b∧b < w.heap.size∧∀ i (h:i < l.length),∃ u,w.cell? ⟨b,o+i,none⟩=some u∧Ef F n w l[i] u)→
    (0 < l.length→∃ b o,a=some ⟨b,o,none⟩∧F b∧b < w.heap.size∧∀ i (h:i < l.length),∃ u,w.cell? ⟨b,o+i,none⟩=some u∧Ef F m w l[i] u):=by
   intro l a h h0;obtain ⟨b,o,rfl,hf,hb,hx⟩:=h h0;refine ⟨b,o,rfl,hf,hb,fun i hi=>?_⟩;obtain ⟨u,hu,hr⟩:=hx i hi;exact ⟨u,hu,ih _ _ _ (by omega) hr⟩
  cases d with
  | empty=>exact h
  | one s=>exact h
  | cat l=>
   obtain ⟨a,cap,h1,h2,h3,h4⟩:=h;exact ⟨a,cap,h1,h2,h3,hrow l a h4⟩
  | alt l=>
   obtain ⟨a,cap,h1,h2,h3,h4⟩:=h;exact ⟨a,cap,h1,h2,h3,hrow l a h4⟩
  | rep d mn mx=>
   obtain ⟨u,h1,h2⟩:=h;exact ⟨u,h1,ih _ _ _ (by omega) h2⟩
  | group num d=>
   obtain ⟨u,h1,h2⟩:=h;exact ⟨u,h1,ih _ _ _ (by omega) h2⟩
  | back num=>exact h
  | start=>exact h
  | fin=>exact h
theorem Av {F:Nat→Prop} {n:Nat} {w:World} {d:Nd} {v:Value} (h:Ef F n w d v):(∃ T p,v=.iface T p)∨v=.nilIface:=by
 cases n with
 | zero=>exact h.elim
 | succ n=>
  cases d with
  | empty=>exact h.elim (fun h=>.inl ⟨_,_,h⟩) .inr
  | one s=>exact .inl ⟨_,_,h⟩
  | cat l=>obtain ⟨a,cap,h1,_⟩:=h;exact .inl ⟨_,_,h1⟩
  | alt l=>obtain ⟨a,cap,h1,_⟩:=h;exact .inl ⟨_,_,h1⟩
  | rep d mn mx=>obtain ⟨u,h1,_⟩:=h;exact .inl ⟨_,_,h1⟩
  | group num d=>obtain ⟨u,h1,_⟩:=h;exact .inl ⟨_,_,h1⟩
  | back num=>exact .inl ⟨_,_,h⟩
  | start=>exact .inl ⟨_,_,h⟩
  | fin=>exact .inl ⟨_,_,h⟩
end
section
open Go.RowKit
theorem Ag {w w':World} {base:Nat} {e:TypeId} {size:Nat} {v:Value} {n:Nat} {xs:List Value} (h:w.ownsRow base e size v n xs) (hb:Below w.heap.size w w'):w'.ownsRow base e size v n xs:=by
 obtain ⟨h1,h2⟩:=h;refine ⟨h1,?_⟩;rcases h2 with h2 | ⟨g,cap,cur,a,b,c,d⟩
 ·exact .inl h2
 ·exact .inr ⟨g,cap,cur,a,b,by rw [hb.block g (Array.getElem?_eq_some_iff.1 c).1];exact c,d⟩
theorem AN {w:World} {base:Nat} {e:TypeId} {size:Nat} {v:Value} {n:Nat} {xs:List Value} (h:w.ownsRow base e size v n xs):∀ k,v.ownBlock=some k→base≤k:=by
 obtain ⟨_,h2⟩:=h;intro k hk;rcases h2 with ⟨rfl,_⟩ | ⟨g,cap,cur,rfl,hg,_⟩
 ·simp [Value.ownBlock] at hk
 ·simp [Value.ownBlock] at hk;omega
end
section
open Go
section
variable {P:Program} {w:World}
theorem A1 {ops:Array Oper} {o:Oper} {a:Act} {K:Act→World→Prop} {Q:Exit→Act→World→Prop} {E:Prop} (hgd:o.guard=none) (s x:Operand) (t:TypeId)
  (ho:o.op=.call { callee:=.builtin .append,args:=#[s,x],argTypes:=#[t,t] })
  (base:Nat) (e:TypeId) (i:TypeInfo) (z:Value) (size bytes:Nat) (ht:P.underlying t=some (.slice e)) (hi:P.info? e=some i) (hz:i.zero=some z)
  (hsize:i.size=size) (hby:i.bytes=bytes) (hzs:z.cells.size=size) (hsz:0 < size)
  (v:Value) (n:Nat) (xs:List Value) (hs:a.eval s=v) (hown:w.ownsRow base e size v n xs)
  (oa:Option Addr) (m c:Nat) (news:List Value) (hx:a.eval x=.slice oa m c) (hl:news.length=m * size) (hnews:0 < m→∃ a,oa=some a∧∀ j u,news[j]?=some u→w.cell? (a.add j)=some u) (h1:∀ u∈news,u.oneCell'=true)
  (h63:n+m≤maxLen) (hbytes:(n+m) * bytes≤140737488355328) (hbase:base≤w.heap.size)
  (h:∀ v' w',w'.ownsRow base e size v' (n+m) (xs++news)→w.grownBy w' v.ownBlock→(v'.ownBlock=v.ownBlock∨v'.ownBlock=some w.heap.size)→K (a.put o.dst v') w') :
  if Region.wanted o (yielded ops a.tmps)=true then Oper.wp P o a w K Q else E:=by
 rw [if_pos (by simp [Region.wanted,hgd])];obtain ⟨v',w',hr,h2,h3,h4⟩:=DW (P:=P) w base t o.type e i z size bytes ht hi hz hsize hby hzs hsz v n xs hown oa m c news hl hnews h1 h63 hbytes hbase;unfold Oper.wp execOp;simp only [ho,resolve,invoke,builtin,Sem.run_bind,Sem.run_pure,Result.andThen_ok,List.map_toArray,List.map_cons,List.map_nil,hs,hx,hr];exact h v' w' h2 h3 h4
theorem FY {base:Nat} {e:TypeId} {v:Value} {n:Nat} {xs:List Value} {w:World} (h:w.ownsRow base e 1 v n xs) (hx:xs.length=n) :
  ∃ a cap,v=.slice a n cap∧n≤cap∧cap≤maxLen∧(0 < n→∃ g,a=some ⟨g,0,none⟩∧base≤g∧g < w.heap.size∧∀ i (h:i < xs.length),w.cell? ⟨g,0+i,none⟩=some xs[i]):=by
 obtain ⟨h1,h2⟩:=h;rcases h2 with ⟨rfl,hz⟩ | ⟨g,cap,cur,rfl,hg,hh,hn,hcap,hcs,htk⟩
 ·subst hz
  exact ⟨none,0,rfl,Adf _,Nat.zero_le _,fun h=>absurd h (by omega)⟩
 ·refine ⟨some ⟨g,0,none⟩,cap,rfl,hn,hcap,fun h0=>⟨g,rfl,hg,(Array.getElem?_eq_some_iff.1 hh).1,fun i hi=>?_⟩⟩
  have h4:w.cell? ⟨g,0+i,none⟩=cur[i]?:=by simp [World.cell?,hh]
  have h5:(cur.toList.take (n * 1))[i]?=xs[i]?:=by rw [htk]
  rw [List.getElem?_take_of_lt (by omega)] at h5;rw [h4,←Array.getElem?_toList,h5,List.getElem?_eq_getElem hi]
end
end
section
open Go.RowKit
@[go_sem] theorem Vf (p:Value) (w:World):(Instr.typeAssert (.iface 105 p) 38 105 true).run Tryz.prog w=.ok (.tuple #[p,.bool true]) w:=by kernel_rfl
@[go_sem] theorem Yh (p:Value) (w:World):(Instr.typeAssert (.iface 105 p) 38 111 true).run Tryz.prog w=.ok (.tuple #[.agg #[.int .u64 0,.int .u64 0,.int .u64 0,.int .u64 0],.bool false]) w:=by kernel_rfl
@[go_sem] theorem Me (p:Value) (w:World):(Instr.typeAssert (.iface 105 p) 38 98 true).run Tryz.prog w=.ok (.tuple #[.agg #[.slice none 0 0],.bool false]) w:=by kernel_rfl
@[go_sem] theorem Yi (p:Value) (w:World):(Instr.typeAssert (.iface 105 p) 38 99 true).run Tryz.prog w=.ok (.tuple #[.agg #[.slice none 0 0],.bool false]) w:=by kernel_rfl
@[go_sem] theorem Mf (p:Value) (w:World):(Instr.typeAssert (.iface 105 p) 38 101 true).run Tryz.prog w=.ok (.tuple #[.agg #[.nilIface,.int .i64 0,.int .i64 0],.bool false]) w:=by kernel_rfl
@[go_sem] theorem JC (p:Value) (w:World):(Instr.typeAssert (.iface 105 p) 38 103 true).run Tryz.prog w=.ok (.tuple #[.agg #[.int .i64 0,.nilIface],.bool false]) w:=by kernel_rfl
@[go_sem] theorem K9 (p:Value) (w:World):(Instr.typeAssert (.iface 105 p) 38 117 true).run Tryz.prog w=.ok (.tuple #[.agg #[.int .i64 0],.bool false]) w:=by kernel_rfl
@[go_sem] theorem JD (p:Value) (w:World):(Instr.typeAssert (.iface 105 p) 38 119 true).run Tryz.prog w=.ok (.tuple #[.agg #[],.bool false]) w:=by kernel_rfl
@[go_sem] theorem Mg (p:Value) (w:World):(Instr.typeAssert (.iface 105 p) 38 121 true).run Tryz.prog w=.ok (.tuple #[.agg #[],.bool false]) w:=by kernel_rfl
@[go_sem] theorem Yj (p:Value) (w:World):(Instr.typeAssert (.iface 111 p) 38 105 true).run Tryz.prog w=.ok (.tuple #[.agg #[],.bool false]) w:=by kernel_rfl
@[go_sem] theorem Aat (p:Value) (w:World):(Instr.typeAssert (.iface 111 p) 38 111 true).run Tryz.prog w=.ok (.tuple #[p,.bool true]) w:=by kernel_rfl
@[go_sem] theorem Pm (p:Value) (w:World):(Instr.typeAssert (.iface 111 p) 38 98 true).run Tryz.prog w=.ok (.tuple #[.agg #[.slice none 0 0],.bool false]) w:=by kernel_rfl
@[go_sem] theorem Aau (p:Value) (w:World):(Instr.typeAssert (.iface 111 p) 38 99 true).run Tryz.prog w=.ok (.tuple #[.agg #[.slice none 0 0],.bool false]) w:=by kernel_rfl
@[go_sem] theorem Pn (p:Value) (w:World):(Instr.typeAssert (.iface 111 p) 38 101 true).run Tryz.prog w=.ok (.tuple #[.agg #[.nilIface,.int .i64 0,.int .i64 0],.bool false]) w:=by kernel_rfl
@[go_sem] theorem Mh (p:Value) (w:World):(Instr.typeAssert (.iface 111 p) 38 103 true).run Tryz.prog w=.ok (.tuple #[.agg #[.int .i64 0,.nilIface],.bool false]) w:=by kernel_rfl
@[go_sem] theorem N6 (p:Value) (w:World):(Instr.typeAssert (.iface 111 p) 38 117 true).run Tryz.prog w=.ok (.tuple #[.agg #[.int .i64 0],.bool false]) w:=by kernel_rfl
@[go_sem] theorem Mi (p:Value) (w:World):(Instr.typeAssert (.iface 111 p) 38 119 true).run Tryz.prog w=.ok (.tuple #[.agg #[],.bool false]) w:=by kernel_rfl
@[go_sem] theorem Po (p:Value) (w:World):(Instr.typeAssert (.iface 111 p) 38 121 true).run Tryz.prog w=.ok (.tuple #[.agg #[],.bool false]) w:=by kernel_rfl
@[go_sem] theorem Yk (p:Value) (w:World):(Instr.typeAssert (.iface 98 p) 38 105 true).run Tryz.prog w=.ok (.tuple #[.agg #[],.bool false]) w:=by kernel_rfl
@[go_sem] theorem Aav (p:Value) (w:World):(Instr.typeAssert (.iface 98 p) 38 111 true).run Tryz.prog w=.ok (.tuple #[.agg #[.int .u64 0,.int .u64 0,.int .u64 0,.int .u64 0],.bool false]) w:=by kernel_rfl
@[go_sem] theorem Pp (p:Value) (w:World):(Instr.typeAssert (.iface 98 p) 38 98 true).run Tryz.prog w=.ok (.tuple #[p,.bool true]) w:=by kernel_rfl
@[go_sem] theorem Aaw (p:Value) (w:World):(Instr.typeAssert (.iface 98 p) 38 99 true).run Tryz.prog w=.ok (.tuple #[.agg #[.slice none 0 0],.bool false]) w:=by kernel_rfl
@[go_sem] theorem Pq (p:Value) (w:World):(Instr.typeAssert (.iface 98 p) 38 101 true).run Tryz.prog w=.ok (.tuple #[.agg #[.nilIface,.int .i64 0,.int .i64 0],.bool false]) w:=by kernel_rfl
@[go_sem] theorem Mj (p:Value) (w:World):(Instr.typeAssert (.iface 98 p) 38 103 true).run Tryz.prog w=.ok (.tuple #[.agg #[.int .i64 0,.nilIface],.bool false]) w:=by kernel_rfl
@[go_sem] theorem N7 (p:Value) (w:World):(Instr.typeAssert (.iface 98 p) 38 117 true).run Tryz.prog w=.ok (.tuple #[.agg #[.int .i64 0],.bool false]) w:=by kernel_rfl
@[go_sem] theorem Mk (p:Value) (w:World):(Instr.typeAssert (.iface 98 p) 38 119 true).run Tryz.prog w=.ok (.tuple #[.agg #[],.bool false]) w:=by kernel_rfl
@[go_sem] theorem Pr (p:Value) (w:World):(Instr.typeAssert (.iface 98 p) 38 121 true).run Tryz.prog w=.ok (.tuple #[.agg #[],.bool false]) w:=by kernel_rfl
@[go_sem] theorem Yl (p:Value) (w:World):(Instr.typeAssert (.iface 99 p) 38 105 true).run Tryz.prog w=.ok (.tuple #[.agg #[],.bool false]) w:=by kernel_rfl
@[go_sem] theorem Aax (p:Value) (w:World):(Instr.typeAssert (.iface 99 p) 38 111 true).run Tryz.prog w=.ok (.tuple #[.agg #[.int .u64 0,.int .u64 0,.int .u64 0,.int .u64 0],.bool false]) w:=by kernel_rfl
@[go_sem] theorem Ps (p:Value) (w:World):(Instr.typeAssert (.iface 99 p) 38 98 true).run Tryz.prog w=.ok (.tuple #[.agg #[.slice none 0 0],.bool false]) w:=by kernel_rfl
@[go_sem] theorem Aay (p:Value) (w:World):(Instr.typeAssert (.iface 99 p) 38 99 true).run Tryz.prog w=.ok (.tuple #[p,.bool true]) w:=by kernel_rfl
@[go_sem] theorem Pt (p:Value) (w:World):(Instr.typeAssert (.iface 99 p) 38 101 true).run Tryz.prog w=.ok (.tuple #[.agg #[.nilIface,.int .i64 0,.int .i64 0],.bool false]) w:=by kernel_rfl
@[go_sem] theorem Ml (p:Value) (w:World):(Instr.typeAssert (.iface 99 p) 38 103 true).run Tryz.prog w=.ok (.tuple #[.agg #[.int .i64 0,.nilIface],.bool false]) w:=by kernel_rfl
@[go_sem] theorem N8 (p:Value) (w:World):(Instr.typeAssert (.iface 99 p) 38 117 true).run Tryz.prog w=.ok (.tuple #[.agg #[.int .i64 0],.bool false]) w:=by kernel_rfl
@[go_sem] theorem Mm (p:Value) (w:World):(Instr.typeAssert (.iface 99 p) 38 119 true).run Tryz.prog w=.ok (.tuple #[.agg #[],.bool false]) w:=by kernel_rfl
@[go_sem] theorem Pu (p:Value) (w:World):(Instr.typeAssert (.iface 99 p) 38 121 true).run Tryz.prog w=.ok (.tuple #[.agg #[],.bool false]) w:=by kernel_rfl
@[go_sem] theorem Ym (p:Value) (w:World):(Instr.typeAssert (.iface 101 p) 38 105 true).run Tryz.prog w=.ok (.tuple #[.agg #[],.bool false]) w:=by kernel_rfl
@[go_sem] theorem Aaz (p:Value) (w:World):(Instr.typeAssert (.iface 101 p) 38 111 true).run Tryz.prog w=.ok (.tuple #[.agg #[.int .u64 0,.int .u64 0,.int .u64 0,.int .u64 0],.bool false]) w:=by kernel_rfl
@[go_sem] theorem Pv (p:Value) (w:World):(Instr.typeAssert (.iface 101 p) 38 98 true).run Tryz.prog w=.ok (.tuple #[.agg #[.slice none 0 0],.bool false]) w:=by kernel_rfl
@[go_sem] theorem Aa0 (p:Value) (w:World):(Instr.typeAssert (.iface 101 p) 38 99 true).run Tryz.prog w=.ok (.tuple #[.agg #[.slice none 0 0],.bool false]) w:=by kernel_rfl
@[go_sem] theorem Pw (p:Value) (w:World):(Instr.typeAssert (.iface 101 p) 38 101 true).run Tryz.prog w=.ok (.tuple #[p,.bool true]) w:=by kernel_rfl
@[go_sem] theorem Mn (p:Value) (w:World):(Instr.typeAssert (.iface 101 p) 38 103 true).run Tryz.prog w=.ok (.tuple #[.agg #[.int .i64 0,.nilIface],.bool false]) w:=by kernel_rfl
@[go_sem] theorem N9 (p:Value) (w:World):(Instr.typeAssert (.iface 101 p) 38 117 true).run Tryz.prog w=.ok (.tuple #[.agg #[.int .i64 0],.bool false]) w:=by kernel_rfl
@[go_sem] theorem Mo (p:Value) (w:World):(Instr.typeAssert (.iface 101 p) 38 119 true).run Tryz.prog w=.ok (.tuple #[.agg #[],.bool false]) w:=by kernel_rfl
@[go_sem] theorem Px (p:Value) (w:World):(Instr.typeAssert (.iface 101 p) 38 121 true).run Tryz.prog w=.ok (.tuple #[.agg #[],.bool false]) w:=by kernel_rfl
@[go_sem] theorem Vg (p:Value) (w:World):(Instr.typeAssert (.iface 103 p) 38 105 true).run Tryz.prog w=.ok (.tuple #[.agg #[],.bool false]) w:=by kernel_rfl
@[go_sem] theorem Yn (p:Value) (w:World):(Instr.typeAssert (.iface 103 p) 38 111 true).run Tryz.prog w=.ok (.tuple #[.agg #[.int .u64 0,.int .u64 0,.int .u64 0,.int .u64 0],.bool false]) w:=by kernel_rfl
@[go_sem] theorem Mp (p:Value) (w:World):(Instr.typeAssert (.iface 103 p) 38 98 true).run Tryz.prog w=.ok (.tuple #[.agg #[.slice none 0 0],.bool false]) w:=by kernel_rfl
@[go_sem] theorem Yo (p:Value) (w:World):(Instr.typeAssert (.iface 103 p) 38 99 true).run Tryz.prog w=.ok (.tuple #[.agg #[.slice none 0 0],.bool false]) w:=by kernel_rfl
@[go_sem] theorem Mq (p:Value) (w:World):(Instr.typeAssert (.iface 103 p) 38 101 true).run Tryz.prog w=.ok (.tuple #[.agg #[.nilIface,.int .i64 0,.int .i64 0],.bool false]) w:=by kernel_rfl
@[go_sem] theorem JE (p:Value) (w:World):(Instr.typeAssert (.iface 103 p) 38 103 true).run Tryz.prog w=.ok (.tuple #[p,.bool true]) w:=by kernel_rfl
@[go_sem] theorem KC (p:Value) (w:World):(Instr.typeAssert (.iface 103 p) 38 117 true).run Tryz.prog w=.ok (.tuple #[.agg #[.int .i64 0],.bool false]) w:=by kernel_rfl
@[go_sem] theorem JF (p:Value) (w:World):(Instr.typeAssert (.iface 103 p) 38 119 true).run Tryz.prog w=.ok (.tuple #[.agg #[],.bool false]) w:=by kernel_rfl
@[go_sem] theorem Mr (p:Value) (w:World):(Instr.typeAssert (.iface 103 p) 38 121 true).run Tryz.prog w=.ok (.tuple #[.agg #[],.bool false]) w:=by kernel_rfl
@[go_sem] theorem X1 (p:Value) (w:World):(Instr.typeAssert (.iface 117 p) 38 105 true).run Tryz.prog w=.ok (.tuple #[.agg #[],.bool false]) w:=by kernel_rfl
@[go_sem] theorem Z2 (p:Value) (w:World):(Instr.typeAssert (.iface 117 p) 38 111 true).run Tryz.prog w=.ok (.tuple #[.agg #[.int .u64 0,.int .u64 0,.int .u64 0,.int .u64 0],.bool false]) w:=by kernel_rfl
@[go_sem] theorem NA (p:Value) (w:World):(Instr.typeAssert (.iface 117 p) 38 98 true).run Tryz.prog w=.ok (.tuple #[.agg #[.slice none 0 0],.bool false]) w:=by kernel_rfl
@[go_sem] theorem Z3 (p:Value) (w:World):(Instr.typeAssert (.iface 117 p) 38 99 true).run Tryz.prog w=.ok (.tuple #[.agg #[.slice none 0 0],.bool false]) w:=by kernel_rfl
@[go_sem] theorem NB (p:Value) (w:World):(Instr.typeAssert (.iface 117 p) 38 101 true).run Tryz.prog w=.ok (.tuple #[.agg #[.nilIface,.int .i64 0,.int .i64 0],.bool false]) w:=by kernel_rfl
@[go_sem] theorem KD (p:Value) (w:World):(Instr.typeAssert (.iface 117 p) 38 103 true).run Tryz.prog w=.ok (.tuple #[.agg #[.int .i64 0,.nilIface],.bool false]) w:=by kernel_rfl
@[go_sem] theorem Ms (p:Value) (w:World):(Instr.typeAssert (.iface 117 p) 38 117 true).run Tryz.prog w=.ok (.tuple #[p,.bool true]) w:=by kernel_rfl
@[go_sem] theorem KE (p:Value) (w:World):(Instr.typeAssert (.iface 117 p) 38 119 true).run Tryz.prog w=.ok (.tuple #[.agg #[],.bool false]) w:=by kernel_rfl
@[go_sem] theorem NC (p:Value) (w:World):(Instr.typeAssert (.iface 117 p) 38 121 true).run Tryz.prog w=.ok (.tuple #[.agg #[],.bool false]) w:=by kernel_rfl
@[go_sem] theorem Vh (p:Value) (w:World):(Instr.typeAssert (.iface 119 p) 38 105 true).run Tryz.prog w=.ok (.tuple #[.agg #[],.bool false]) w:=by kernel_rfl
@[go_sem] theorem Yp (p:Value) (w:World):(Instr.typeAssert (.iface 119 p) 38 111 true).run Tryz.prog w=.ok (.tuple #[.agg #[.int .u64 0,.int .u64 0,.int .u64 0,.int .u64 0],.bool false]) w:=by kernel_rfl
@[go_sem] theorem Mt (p:Value) (w:World):(Instr.typeAssert (.iface 119 p) 38 98 true).run Tryz.prog w=.ok (.tuple #[.agg #[.slice none 0 0],.bool false]) w:=by kernel_rfl
@[go_sem] theorem Yq (p:Value) (w:World):(Instr.typeAssert (.iface 119 p) 38 99 true).run Tryz.prog w=.ok (.tuple #[.agg #[.slice none 0 0],.bool false]) w:=by kernel_rfl
@[go_sem] theorem Mu (p:Value) (w:World):(Instr.typeAssert (.iface 119 p) 38 101 true).run Tryz.prog w=.ok (.tuple #[.agg #[.nilIface,.int .i64 0,.int .i64 0],.bool false]) w:=by kernel_rfl
@[go_sem] theorem JG (p:Value) (w:World):(Instr.typeAssert (.iface 119 p) 38 103 true).run Tryz.prog w=.ok (.tuple #[.agg #[.int .i64 0,.nilIface],.bool false]) w:=by kernel_rfl
@[go_sem] theorem KF (p:Value) (w:World):(Instr.typeAssert (.iface 119 p) 38 117 true).run Tryz.prog w=.ok (.tuple #[.agg #[.int .i64 0],.bool false]) w:=by kernel_rfl
@[go_sem] theorem JH (p:Value) (w:World):(Instr.typeAssert (.iface 119 p) 38 119 true).run Tryz.prog w=.ok (.tuple #[p,.bool true]) w:=by kernel_rfl
@[go_sem] theorem Mv (p:Value) (w:World):(Instr.typeAssert (.iface 119 p) 38 121 true).run Tryz.prog w=.ok (.tuple #[.agg #[],.bool false]) w:=by kernel_rfl
@[go_sem] theorem Yr (p:Value) (w:World):(Instr.typeAssert (.iface 121 p) 38 105 true).run Tryz.prog w=.ok (.tuple #[.agg #[],.bool false]) w:=by kernel_rfl
@[go_sem] theorem Aa1 (p:Value) (w:World):(Instr.typeAssert (.iface 121 p) 38 111 true).run Tryz.prog w=.ok (.tuple #[.agg #[.int .u64 0,.int .u64 0,.int .u64 0,.int .u64 0],.bool false]) w:=by kernel_rfl
@[go_sem] theorem Py (p:Value) (w:World):(Instr.typeAssert (.iface 121 p) 38 98 true).run Tryz.prog w=.ok (.tuple #[.agg #[.slice none 0 0],.bool false]) w:=by kernel_rfl
@[go_sem] theorem Aa2 (p:Value) (w:World):(Instr.typeAssert (.iface 121 p) 38 99 true).run Tryz.prog w=.ok (.tuple #[.agg #[.slice none 0 0],.bool false]) w:=by kernel_rfl
@[go_sem] theorem Pz (p:Value) (w:World):(Instr.typeAssert (.iface 121 p) 38 101 true).run Tryz.prog w=.ok (.tuple #[.agg #[.nilIface,.int .i64 0,.int .i64 0],.bool false]) w:=by kernel_rfl
@[go_sem] theorem Mw (p:Value) (w:World):(Instr.typeAssert (.iface 121 p) 38 103 true).run Tryz.prog w=.ok (.tuple #[.agg #[.int .i64 0,.nilIface],.bool false]) w:=by kernel_rfl
@[go_sem] theorem ND (p:Value) (w:World):(Instr.typeAssert (.iface 121 p) 38 117 true).run Tryz.prog w=.ok (.tuple #[.agg #[.int .i64 0],.bool false]) w:=by kernel_rfl
@[go_sem] theorem Mx (p:Value) (w:World):(Instr.typeAssert (.iface 121 p) 38 119 true).run Tryz.prog w=.ok (.tuple #[.agg #[],.bool false]) w:=by kernel_rfl
@[go_sem] theorem P0 (p:Value) (w:World):(Instr.typeAssert (.iface 121 p) 38 121 true).run Tryz.prog w=.ok (.tuple #[p,.bool true]) w:=by kernel_rfl
@[go_sem] theorem Ys (w:World):(Instr.typeAssert .nilIface 38 105 true).run Tryz.prog w=.ok (.tuple #[.agg #[],.bool false]) w:=by kernel_rfl
@[go_sem] theorem Aa3 (w:World):(Instr.typeAssert .nilIface 38 111 true).run Tryz.prog w=.ok (.tuple #[.agg #[.int .u64 0,.int .u64 0,.int .u64 0,.int .u64 0],.bool false]) w:=by kernel_rfl
@[go_sem] theorem P1 (w:World):(Instr.typeAssert .nilIface 38 98 true).run Tryz.prog w=.ok (.tuple #[.agg #[.slice none 0 0],.bool false]) w:=by kernel_rfl
@[go_sem] theorem Aa4 (w:World):(Instr.typeAssert .nilIface 38 99 true).run Tryz.prog w=.ok (.tuple #[.agg #[.slice none 0 0],.bool false]) w:=by kernel_rfl
@[go_sem] theorem P2 (w:World):(Instr.typeAssert .nilIface 38 101 true).run Tryz.prog w=.ok (.tuple #[.agg #[.nilIface,.int .i64 0,.int .i64 0],.bool false]) w:=by kernel_rfl
@[go_sem] theorem My (w:World):(Instr.typeAssert .nilIface 38 103 true).run Tryz.prog w=.ok (.tuple #[.agg #[.int .i64 0,.nilIface],.bool false]) w:=by kernel_rfl
@[go_sem] theorem NE (w:World):(Instr.typeAssert .nilIface 38 117 true).run Tryz.prog w=.ok (.tuple #[.agg #[.int .i64 0],.bool false]) w:=by kernel_rfl
@[go_sem] theorem Mz (w:World):(Instr.typeAssert .nilIface 38 119 true).run Tryz.prog w=.ok (.tuple #[.agg #[],.bool false]) w:=by kernel_rfl
@[go_sem] theorem P3 (w:World):(Instr.typeAssert .nilIface 38 121 true).run Tryz.prog w=.ok (.tuple #[.agg #[],.bool false]) w:=by kernel_rfl
end
section
open Go.RowKit
def NdX (F:Nat→Prop) (w:World) (d:Nd) (v:Value):Prop:=∃ n,Ef F n w d v
def AW (F:Nat→Prop) (w:World) (l:List Nd) (a:Option Addr) (cap:Nat):Prop:=
 l.length≤cap∧cap≤maxLen∧(0 < l.length→∃ b o,a=some ⟨b,o,none⟩∧F b∧b < w.heap.size∧∀ i (h:i < l.length),∃ u,w.cell? ⟨b,o+i,none⟩=some u∧NdX F w l[i] u)
theorem NdX.keep {F G:Nat→Prop} {w w':World} (hs:w.heap.size≤w'.heap.size) (hF:∀ b,F b→b < w.heap.size→G b∧∀ o,w'.cell? ⟨b,o,none⟩=w.cell? ⟨b,o,none⟩) {d:Nd} {v:Value} (h:NdX F w d v):NdX G w' d v:=by
 obtain ⟨n,h⟩:=h;exact ⟨n,Ef.keep hs hF n d v h⟩
theorem AW.keep {F G:Nat→Prop} {w w':World} (hs:w.heap.size≤w'.heap.size) (hF:∀ b,F b→b < w.heap.size→G b∧∀ o,w'.cell? ⟨b,o,none⟩=w.cell? ⟨b,o,none⟩) {l:List Nd} {a:Option Addr} {cap:Nat} (h:AW F w l a cap):AW G w' l a cap:=by
 refine ⟨h.1,h.2.1,fun h0=>?_⟩;obtain ⟨b,o,rfl,hf,hb,hx⟩:=h.2.2 h0;refine ⟨b,o,rfl,(hF b hf hb).1,Adi hb hs,fun i hi=>?_⟩;obtain ⟨u,hu,hr⟩:=hx i hi;exact ⟨u,((hF b hf hb).2 _).trans hu,hr.keep hs hF⟩
theorem NdX.below {F:Nat→Prop} {w w':World} (hb:Below w.heap.size w w') {d:Nd} {v:Value} (h:NdX F w d v):NdX F w' d v:=
 h.keep hb.size (fun b hf hlt=>⟨hf,fun o=>hb.cell (p:=⟨b,o,none⟩) hlt⟩)
theorem AW.below {F:Nat→Prop} {w w':World} (hb:Below w.heap.size w w') {l:List Nd} {a:Option Addr} {cap:Nat} (h:AW F w l a cap):AW F w' l a cap:=
 h.keep hb.size (fun b hf hlt=>⟨hf,fun o=>hb.cell (p:=⟨b,o,none⟩) hlt⟩)
theorem NdX.drew {F:Nat→Prop} {w:World} {d:Nd} {v:Value} (h:NdX F w d v):NdX F w.drew d v:=h.below (Below.drew (Adk _ _))
theorem AW.drew {F:Nat→Prop} {w:World} {l:List Nd} {a:Option Addr} {cap:Nat} (h:AW F w l a cap):AW F w.drew l a cap:=h.below (Below.drew (Adk _ _))
theorem AW.nil (F:Nat→Prop) (w:World) (a:Option Addr) (cap:Nat) (h:cap≤maxLen):AW F w [] a cap:=⟨Nat.zero_le _,h,fun h=>absurd h (by simp)⟩
theorem AW.of {F:Nat→Prop} {n:Nat} {w:World} {l:List Nd} {a:Option Addr} {cap:Nat} (h:Z0 F n w l a cap):AW F w l a cap:=by
 refine ⟨h.1,h.2.1,fun h0=>?_⟩;obtain ⟨b,o,rfl,hf,hb,hx⟩:=h.2.2 h0;refine ⟨b,o,rfl,hf,hb,fun i hi=>?_⟩;obtain ⟨u,hu,hr⟩:=hx i hi;exact ⟨u,hu,n,hr⟩
theorem AW.tail {F:Nat→Prop} {w:World} {d:Nd} {l:List Nd} {a:Option Addr} {cap:Nat} (h:AW F w (d :: l) a cap) :
  ∃ b o u,a=some ⟨b,o,none⟩∧F b∧b < w.heap.size∧1≤cap∧w.cell? ⟨b,o,none⟩=some u∧NdX F w d u∧AW F w l (some ⟨b,o+1,none⟩) (cap - 1):=by
 obtain ⟨b,o,rfl,hf,hb,hx⟩:=h.2.2 (by simp);obtain ⟨u,hu,hr⟩:=hx 0 (by simp);have h1:=h.1;have h2:=h.2.1;simp at h1;refine ⟨b,o,u,rfl,hf,hb,by omega,hu,hr,by omega,by omega,fun _=>⟨b,o+1,rfl,hf,hb,fun i hi=>?_⟩⟩;obtain ⟨u',hu',hr'⟩:=hx (i+1) (by simpa using hi);exact ⟨u',by rw [←hu',Nat.add_assoc,Nat.add_comm 1 i],by simpa using hr'⟩
theorem GY {F G:Nat→Prop} {w:World} {d:Nd} {u:Value} {T:TypeId} {k:Nat} (hk:w.heap.size=k) (h:NdX F w d u) (hG:∀ b,F b→b < w.heap.size→G b) (hn:G w.heap.size):AW G (w.alloc (.cells #[u] T)) [d] (some ⟨k,0,none⟩) 1:=by
 subst hk;have hb:=Blk.new w #[u] T _ rfl;refine ⟨Adf _,by decide,fun _=>⟨w.heap.size,0,rfl,hn,hb.lt,fun i hi=>?_⟩⟩;obtain rfl:i=0:=by simp at hi;exact hi
 have hB:=(Adk w.heap.size w).alloc (Adf _) (.cells #[u] T);exact ⟨u,(hb.cell 0).trans rfl,h.keep hB.size (fun b hf hlt=>⟨hG b hf hlt,fun o=>hB.cell (p:=⟨b,o,none⟩) hlt⟩)⟩
theorem Io {F:Nat→Prop} (d:Nd) (v:Value) (w:World) (h:NdX F w d v) :
  Calls Tryz.prog 35 #[v] w fun e w'=>∃ a cap,e=.returned (.slice a (Cf d).length cap)∧AW (fun b=>F b∨w.heap.size≤b) w' (Cf d) a cap∧Below w.heap.size w w':=by
 obtain ⟨n,h⟩:=h;cases n with
 | zero=>exact h.elim
 | succ n=>
  cases d with
  | empty=>
   rcases h with rfl | rfl
   ·go_enter Tryz.func35,Tryz.ntmps35
    go_wp2_with fail
    go_ret;exact ⟨none,0,rfl,AW.nil _ _ _ _ (by decide),Adk _ _⟩
   ·go_enter Tryz.func35,Tryz.ntmps35
    go_wp2_with fail
    go_ret;exact ⟨none,0,rfl,AW.nil _ _ _ _ (by decide),Adk _ _⟩
  | one s=>
   obtain rfl:=h;go_enter Tryz.func35,Tryz.ntmps35;go_wp2_with fail
   go_ret;exact ⟨none,0,rfl,AW.nil _ _ _ _ (by decide),Adk _ _⟩
  | back num=>
   obtain rfl:=h;go_enter Tryz.func35,Tryz.ntmps35;go_wp2_with fail
   go_ret;exact ⟨none,0,rfl,AW.nil _ _ _ _ (by decide),Adk _ _⟩
  | start=>
   obtain rfl:=h;go_enter Tryz.func35,Tryz.ntmps35;go_wp2_with fail
   go_ret;exact ⟨none,0,rfl,AW.nil _ _ _ _ (by decide),Adk _ _⟩
  | fin=>
   obtain rfl:=h;go_enter Tryz.func35,Tryz.ntmps35;go_wp2_with fail
   go_ret;exact ⟨none,0,rfl,AW.nil _ _ _ _ (by decide),Adk _ _⟩
  | cat l=>
   obtain ⟨a,cap,rfl,hx⟩:=h;have hR:AW F w l a cap:=AW.of (n:=n) hx;clear hx;go_enter Tryz.func35,Tryz.ntmps35;go_wp2_with fail
   go_ret;have hB:=(Adk w.heap.size w).alloc (Adf _) (.cells #[.slice a l.length cap] 98);exact ⟨a,cap,rfl,hR.keep hB.size (fun b hf hlt=>⟨.inl hf,fun o=>hB.cell (p:=⟨b,o,none⟩) hlt⟩),hB⟩
  | alt l=>
   obtain ⟨a,cap,rfl,hx⟩:=h;have hR:AW F w l a cap:=AW.of (n:=n) hx;clear hx;go_enter Tryz.func35,Tryz.ntmps35;go_wp2_with fail
   go_ret;have hB:=(Adk w.heap.size w).alloc (Adf _) (.cells #[.slice a l.length cap] 99);exact ⟨a,cap,rfl,hR.keep hB.size (fun b hf hlt=>⟨.inl hf,fun o=>hB.cell (p:=⟨b,o,none⟩) hlt⟩),hB⟩
  | rep d mn mx=>
   obtain ⟨u,rfl,hu⟩:=h;have hX:NdX F w d u:=⟨n,hu⟩
   rcases Av hu with ⟨T,q,rfl⟩ | rfl
   ·clear hu
    go_enter Tryz.func35,Tryz.ntmps35;go_wp2_with fail
    go_ret;have hB:=(Adk w.heap.size w).alloc (Adf _) (.cells #[.iface T q,.int .i64 mn,.int .i64 mx] 101);refine ⟨_,_,rfl,GY (G:=fun b=>F b∨w.heap.size≤b) (by simp) (hX.below hB) (fun b hf _=>.inl hf) (.inr hB.size),hB.alloc hB.size _⟩
   ·clear hu
    go_enter Tryz.func35,Tryz.ntmps35;go_wp2_with fail
    go_ret;have hB:=(Adk w.heap.size w).alloc (Adf _) (.cells #[.nilIface,.int .i64 mn,.int .i64 mx] 101);refine ⟨_,_,rfl,GY (G:=fun b=>F b∨w.heap.size≤b) (by simp) (hX.below hB) (fun b hf _=>.inl hf) (.inr hB.size),hB.alloc hB.size _⟩
  | group num d=>
   obtain ⟨u,rfl,hu⟩:=h;have hX:NdX F w d u:=⟨n,hu⟩
   rcases Av hu with ⟨T,q,rfl⟩ | rfl
   ·clear hu
    go_enter Tryz.func35,Tryz.ntmps35;go_wp2_with fail
    go_ret;have hB:=(Adk w.heap.size w).alloc (Adf _) (.cells #[.int .i64 num,.iface T q] 103);refine ⟨_,_,rfl,GY (G:=fun b=>F b∨w.heap.size≤b) (by simp) (hX.below hB) (fun b hf _=>.inl hf) (.inr hB.size),hB.alloc hB.size _⟩
   ·clear hu
    go_enter Tryz.func35,Tryz.ntmps35;go_wp2_with fail
    go_ret;have hB:=(Adk w.heap.size w).alloc (Adf _) (.cells #[.int .i64 num,.nilIface] 103);refine ⟨_,_,rfl,GY (G:=fun b=>F b∨w.heap.size≤b) (by simp) (hX.below hB) (fun b hf _=>.inl hf) (.inr hB.size),hB.alloc hB.size _⟩
end
section
open Go Go.RowKit
theorem Boxed.ne_of {W:World} {A B:Nat} {t u:TypeId} {v x:Value} (h:Boxed W A t v) (k:Boxed W B u x) (htu:t≠u):A≠B:=by
 intro e;subst e;have:=(show W.heap[A]?=_ from h).symm.trans k;simp at this;exact htu this.2
theorem Boxed.same {W W':World} {B:Nat} {t:TypeId} {v:Value} (h:Boxed W B t v) (k:W'.heap[B]?=W.heap[B]?):Boxed W' B t v:=k.trans h
theorem Aa {w w':World} {base:Nat} {e:TypeId} {size:Nat} {v:Value} {n:Nat} {xs:List Value} (h:w.ownsRow base e size v n xs) (hb:∀ g,v.ownBlock=some g→w'.heap[g]?=w.heap[g]?):w'.ownsRow base e size v n xs:=by
 obtain ⟨h1,h2⟩:=h;refine ⟨h1,?_⟩;rcases h2 with h2 | ⟨g,cap,cur,rfl,b,c,d⟩
 ·exact .inl h2
 ·exact .inr ⟨g,cap,cur,rfl,b,(hb g rfl).trans c,d⟩
theorem Ro {w:World} {base:Nat} {e:TypeId} {size g n cap m:Nat} {xs:List Value} (h:w.ownsRow base e size (.slice (some ⟨g,0,none⟩) n cap) m xs):n≤cap:=by
 rcases h.2 with ⟨e,_⟩ | ⟨g5,cap5,cur5,e,_,_,h5,_⟩
 ·cases e
 ·simp only [Value.slice.injEq] at e
  omega
def StkC (G:Nat→Prop) (W:World):List (Nd × List Nd)→List Value→Prop
 | [],us=>us=[]
 | x :: s,us=>∃ v a cap us',us=v :: .slice a x.2.length cap :: us'∧NdX G W x.1 v∧AW G W x.2 a cap∧StkC G W s us'
theorem StkC.len {G:Nat→Prop} {W:World}:∀ {s:List (Nd × List Nd)} {us:List Value},StkC G W s us→us.length=s.length * 2
 | [],us,h=>by rw [show us=[] from h];rfl
 | x :: s,us,⟨v,a,cap,us',h,_,_,h4⟩=>by rw [h];have:=StkC.len h4;simp [this];omega
theorem StkC.keep {F G:Nat→Prop} {W W':World} (hs:W.heap.size≤W'.heap.size) (hF:∀ b,F b→b < W.heap.size→G b∧∀ o,W'.cell? ⟨b,o,none⟩=W.cell? ⟨b,o,none⟩) :
  ∀ {s:List (Nd × List Nd)} {us:List Value},StkC F W s us→StkC G W' s us
 | [],_,h=>h
 | _ :: _,_,⟨v,a,cap,us',h,h2,h3,h4⟩=>⟨v,a,cap,us',h,h2.keep hs hF,h3.keep hs hF,StkC.keep hs hF h4⟩
theorem StkC.snoc {G:Nat→Prop} {W:World} {d:Nd} {r:List Nd} {v:Value} {a:Option Addr} {cap:Nat} (hd:NdX G W d v) (hr:AW G W r a cap) :
  ∀ {s:List (Nd × List Nd)} {us:List Value},StkC G W s us→StkC G W (s++[(d,r)]) (us++[v,.slice a r.length cap])
 | [],us,h=>by obtain rfl:us=[]:=h;exact ⟨v,a,cap,[],rfl,hd,hr,rfl⟩
 | _ :: _,_,⟨v',a',cap',us',h,h2,h3,h4⟩=>⟨v',a',cap',_,by rw [h];rfl,h2,h3,StkC.snoc hd hr h4⟩
theorem StkC.last {G:Nat→Prop} {W:World} {d:Nd} {r:List Nd} :
  ∀ {s:List (Nd × List Nd)} {us:List Value},StkC G W (s++[(d,r)]) us→∃ us' v a cap,us=us'++[v,.slice a r.length cap]∧NdX G W d v∧AW G W r a cap∧StkC G W s us'
 | [],us,⟨v,a,cap,us',h,h2,h3,h4⟩=>by obtain rfl:us'=[]:=h4;exact ⟨[],v,a,cap,h,h2,h3,rfl⟩
 | x :: s,us,⟨v',a',cap',us',h,h2,h3,h4⟩=>by
  obtain ⟨us2,v,a,cap,e,g2,g3,g4⟩:=StkC.last h4;exact ⟨v' :: .slice a' x.2.length cap' :: us2,v,a,cap,by rw [h,e];rfl,g2,g3,v',a',cap',us2,rfl,h2,h3,g4⟩
def Lies (n₀ base:Nat) (C:Nat→Prop) (S:Nat) (sv:Value) (b:Nat):Prop:=b < n₀∨(base≤b∧¬ C b∧b≠S∧sv.ownBlock≠some b)
theorem NF {n₀ base:Nat} {C:Nat→Prop} {S:Nat} {sv:Value} {W:World} {d:Nd} {v:Value} (h:NdX (Lies n₀ base C S sv) W d v):NdX (fun k=>k < n₀∨(base≤k∧¬ C k)) W d v:=
 h.keep (Adf _) (fun _ hb _=>⟨Or.elim hb .inl (fun h=>.inr ⟨h.1,h.2.1⟩),fun _=>rfl⟩)
structure Stk (n₀ base S Y l:Nat) (C:Nat→Prop) (W:World) (s:List (Nd × List Nd)) (sv:Value) (us:List Value):Prop where
 box:Boxed W S 218 sv
 yld:Boxed W Y 217 (.func (.yield l) #[] #[])
 bS:base≤S
 bY:base≤Y
 bn:n₀≤base
 cS:¬ C S
 cY:¬ C Y
 cC:∀ k,C k→base≤k
 row:W.ownsRow base 220 2 sv s.length us
 cR:∀ g,sv.ownBlock=some g→¬ C g
 cells:StkC (Lies n₀ base C S sv) W s us
theorem Stk.lS {n₀ base S Y l:Nat} {C:Nat→Prop} {W:World} {s:List (Nd × List Nd)} {sv:Value} {us:List Value} (h:Stk n₀ base S Y l C W s sv us):S < W.heap.size:=h.box.lt
theorem Stk.neSY {n₀ base S Y l:Nat} {C:Nat→Prop} {W:World} {s:List (Nd × List Nd)} {sv:Value} {us:List Value} (h:Stk n₀ base S Y l C W s sv us):S≠Y:=Boxed.ne_of h.box h.yld (by decide)
theorem Stk.nr {n₀ base S Y l:Nat} {C:Nat→Prop} {W:World} {s:List (Nd × List Nd)} {sv:Value} {us:List Value} (h:Stk n₀ base S Y l C W s sv us):∀ g,sv.ownBlock=some g→base≤g∧g < W.heap.size∧g≠S∧g≠Y∧¬ C g:=fun g hg=>
 ⟨(h.row.lt g hg).1,(h.row.lt g hg).2,fun e=>Boxed.not_row h.box (by decide) h.row (by rw [hg,e]),fun e=>Boxed.not_row h.yld (by decide) h.row (by rw [hg,e]),h.cR g hg⟩
theorem So {n₀ base S Y l:Nat} {C:Nat→Prop} {W:World} {s:List (Nd × List Nd)} {g n cap:Nat} {us:List Value} (h:Stk n₀ base S Y l C W s (.slice (some ⟨g,0,none⟩) n cap) us) {k:Nat} (hk:Lies n₀ base C S (.slice (some ⟨g,0,none⟩) n cap) k):k≠g:=by
 rcases hk with h1 | h1
 ·have:=h.bn
  have:=(h.nr g rfl).1;omega
 ·intro e
  exact h1.2.2.2 (congrArg some e.symm)
theorem Stk.round {n₀ base S Y l:Nat} {C C':Nat→Prop} {W W':World} {s:List (Nd × List Nd)} {sv:Value} {us:List Value} (h:Stk n₀ base S Y l C W s sv us) (hr:Rdn n₀ base C C' W W') (hC:∀ k,C' k→base≤k):Stk n₀ base S Y l C' W' s sv us:=by
 have hnew:∀ b,b < W.heap.size→¬ C b→¬ C' b:=fun b hb hc hc'=>(hr.new b hc').elim hc (fun h=>by omega)
 refine ⟨Boxed.same h.box (hr.block _ h.box.lt (.inr ⟨h.bS,h.cS⟩)),Boxed.same h.yld (hr.block _ h.yld.lt (.inr ⟨h.bY,h.cY⟩)),h.bS,h.bY,h.bn,hnew _ h.box.lt h.cS,hnew _ h.yld.lt h.cY,hC,
  Aa h.row (fun g hg=>hr.block _ (h.nr g hg).2.1 (.inr ⟨(h.nr g hg).1,(h.nr g hg).2.2.2.2⟩)),fun g hg=>hnew g (h.nr g hg).2.1 (h.nr g hg).2.2.2.2,?_⟩
 refine h.cells.keep hr.size (fun b hf hb=>⟨?_,fun o=>Adn (w:=W) (a:=⟨b,o,none⟩) (hr.block b hb ?_)⟩)
 ·rcases hf with hf | ⟨h1,h2,h3,h4⟩
  ·exact .inl hf
  ·exact .inr ⟨h1,hnew b hb h2,h3,h4⟩
 ·rcases hf with hf | ⟨h1,h2,h3,h4⟩
  ·exact .inl hf
  ·exact .inr ⟨h1,h2⟩
theorem Stk.below {n₀ base S Y l:Nat} {C:Nat→Prop} {W W':World} {s:List (Nd × List Nd)} {sv:Value} {us:List Value} (h:Stk n₀ base S Y l C W s sv us) (hb:Below W.heap.size W W'):Stk n₀ base S Y l C W' s sv us:=
 h.round ⟨hb.size,fun k hk _=>hb.block k hk,fun _ hk=>.inl hk⟩ h.cC
theorem Sp {n₀ base S:Nat} {C:Nat→Prop} {W:World} {sv v':Value} {b:Nat} (hb:Lies n₀ base C S sv b) (hlt:b < W.heap.size) (hat:v'.ownBlock=sv.ownBlock∨v'.ownBlock=some W.heap.size):Lies n₀ base C S v' b:=by
 rcases hb with hb | ⟨h1,h2,h3,h4⟩
 ·exact .inl hb
 ·refine .inr ⟨h1,h2,h3,?_⟩
  rcases hat with e | e
  ·rw [e];exact h4
  ·rw [e];intro e2;injection e2 with e2;omega
theorem Stk.push {n₀ base S Y l:Nat} {C:Nat→Prop} {W w2 w3:World} {s:List (Nd × List Nd)} {sv v' v:Value} {us:List Value} {d:Nd} {r:List Nd} {a:Option Addr} {cap:Nat}
  (h:Stk n₀ base S Y l C W s sv us) (hb:Below W.heap.size W w2) (hd:NdX (Lies n₀ base C S sv) W d v) (hr:AW (fun b=>Lies n₀ base C S sv b∨W.heap.size≤b) w2 r a cap) (hC:∀ k,C k→k < W.heap.size)
  (hown:w3.ownsRow base 220 2 v' (s.length+1) (us++[v,.slice a r.length cap])) (hg:w2.grownBy w3 sv.ownBlock) (hat:v'.ownBlock=sv.ownBlock∨v'.ownBlock=some w2.heap.size) :
  Boxed w3 S 218 sv∧Stk n₀ base S Y l C (w3.setCell ⟨S,0,none⟩ v') (s++[(d,r)]) v' (us++[v,.slice a r.length cap])∧Other base C W (w3.setCell ⟨S,0,none⟩ v')∧NdX (Lies n₀ base C S v') (w3.setCell ⟨S,0,none⟩ v') d v:=by
 have h2:=h.below hb;have hS3:Boxed w3 S 218 sv:=h2.box.kept hg (fun e=>(h2.nr S e.symm).2.2.1 rfl);have hY3:Boxed w3 Y 217 (.func (.yield l) #[] #[]):=h2.yld.kept hg (fun e=>(h2.nr Y e.symm).2.2.2.1 rfl);have hbs:base≤w2.heap.size:=Adj (Nat.lt_of_le_of_lt h2.bS h2.box.lt);have hlt3:=hown.lt;have hCv:∀ g,v'.ownBlock=some g→¬ C g:=fun g hg' hc=>by
  rcases hat with e | e
  ·rw [e] at hg';exact h2.cR g hg' hc
  ·rw [e] at hg';injection hg' with hg';have:=hC g hc;have:=hb.size;omega
 have hnS:∀ g,v'.ownBlock=some g→g≠S∧g≠Y:=fun g hg'=>by
  rcases hat with e | e
  ·rw [e] at hg';exact ⟨(h2.nr g hg').2.2.1,(h2.nr g hg').2.2.2.1⟩
  ·rw [e] at hg';injection hg' with hg';have:=h2.box.lt;have:=h2.yld.lt;omega
 have hblk:∀ k,k < w2.heap.size→sv.ownBlock≠some k→k≠S→(w3.setCell ⟨S,0,none⟩ v').heap[k]?=w2.heap[k]?:=fun k hk h1 h3=>
  (Adl _ _ _ _ h3).trans (hg.block k hk (fun e=>h1 e.symm))
 have hsz:w2.heap.size≤(w3.setCell ⟨S,0,none⟩ v').heap.size:=by have:=hg.size;simpa [World.setCell] using this
 have hkeep:∀ b,Lies n₀ base C S sv b∨(W.heap.size≤b∧b < w2.heap.size)→b < w2.heap.size→Lies n₀ base C S v' b∧∀ o,(w3.setCell ⟨S,0,none⟩ v').cell? ⟨b,o,none⟩=w2.cell? ⟨b,o,none⟩:=by
  intro b hf hlt;have hf2:Lies n₀ base C S sv b:=by
   rcases hf with hf | ⟨hf,_⟩
   ·exact hf
   ·refine .inr ⟨by have:=h.bS;have:=h.box.lt;omega,fun hc=>by have:=hC b hc;omega,fun e=>by have:=h.box.lt;omega,fun e=>by have:=(h.nr b e).2.1;omega⟩
  refine ⟨Sp hf2 hlt hat,fun o=>Adn (w:=w2) (a:=⟨b,o,none⟩) (hblk b hlt ?_ ?_)⟩
  ·rcases hf2 with h1 | h1
   ·intro e;have:=(h2.nr b e).1;have:=h.bn;omega
   ·exact h1.2.2.2
  ·rcases hf2 with h1 | h1
   ·have:=h.bn;have:=h.bS;omega
   ·exact h1.2.2.1
 refine ⟨hS3,⟨hS3.set v',?_,h.bS,h.bY,h.bn,h.cS,h.cY,h.cC,?_,hCv,?_⟩,?_⟩
 ·exact Boxed.same hY3 (Adl _ _ _ _ (Ne.symm h.neSY))
 ·rw [Adh]
  exact Aa hown (fun g hg'=>Adl _ _ _ _ (hnS g hg').1)
 ·refine StkC.snoc ?_ ?_ ?_
  ·exact (hd.below hb).keep hsz (fun b hf hlt=>hkeep b (.inl hf) hlt)
  ·exact hr.keep hsz (fun b hf hlt=>hkeep b (hf.elim .inl (fun h=>.inr ⟨h,hlt⟩)) hlt)
  ·exact h2.cells.keep hsz (fun b hf hlt=>hkeep b (.inl hf) hlt)
 ·exact ⟨(((Other.of_below hb).trans (Other.refl base C w2)).grown hg (fun k hk=>⟨(h2.nr k hk).1,(h2.nr k hk).2.2.2.2⟩)).setCell (p:=⟨S,0,none⟩) h.bS h.cS v',(hd.below hb).keep hsz (fun b hf hlt=>hkeep b (.inl hf) hlt)⟩
theorem Stk.top {n₀ base S Y l:Nat} {C:Nat→Prop} {W:World} {s:List (Nd × List Nd)} {sv:Value} {us:List Value} {d:Nd} {r:List Nd} (h:Stk n₀ base S Y l C W (s++[(d,r)]) sv us) :
  ∃ g cap us' v a cap',sv=.slice (some ⟨g,0,none⟩) (s.length+1) cap∧us=us'++[v,.slice a r.length cap']∧us'.length=s.length * 2∧W.cell? ⟨g,s.length * 2,none⟩=some v∧W.cell? ⟨g,s.length * 2+1,none⟩=some (.slice a r.length cap')∧W.frozen? ⟨g,s.length * 2+1,none⟩=false∧
   NdX (Lies n₀ base C S sv) W d v∧AW (Lies n₀ base C S sv) W r a cap':=by
 have hrow:=h.row;rw [Adh] at hrow;obtain ⟨g,cap,rfl⟩:=ownsRow_succ hrow;obtain ⟨us',v,a,cap',rfl,h1,h2,h3⟩:=h.cells.last;have hl:=h3.len;refine ⟨g,cap,us',v,a,cap',rfl,rfl,hl,?_,?_,hrow.frozenAt _,h1,h2⟩
 ·rw [hrow.cellAt (s.length * 2) (show s.length * 2 < (s.length+1) * 2 by omega),←hl,List.getElem?_append_right (Adf _)]
  simp
 ·rw [hrow.cellAt (s.length * 2+1) (show s.length * 2+1 < (s.length+1) * 2 by omega),←hl,List.getElem?_append_right (by omega)]
  rw [show us'.length+1 - us'.length=1 by omega];rfl
theorem Stk.pop {n₀ base S Y l:Nat} {C:Nat→Prop} {W:World} {s:List (Nd × List Nd)} {g cap:Nat} {us:List Value} {d:Nd} {r:List Nd} (h:Stk n₀ base S Y l C W (s++[(d,r)]) (.slice (some ⟨g,0,none⟩) (s.length+1) cap) us) :
  ∃ us',Stk n₀ base S Y l C (W.setCell ⟨S,0,none⟩ (.slice (some ⟨g,0,none⟩) s.length cap)) s (.slice (some ⟨g,0,none⟩) s.length cap) us'∧Other base C W (W.setCell ⟨S,0,none⟩ (.slice (some ⟨g,0,none⟩) s.length cap)):=by
 have hrow:=h.row;rw [Adh] at hrow;obtain ⟨us',v,a,cap',rfl,h1,h2,h3⟩:=h.cells.last;have hp:=ownsRow_pop h3.len hrow;have hng:=h.nr g rfl;refine ⟨us',⟨h.box.set _,?_,h.bS,h.bY,h.bn,h.cS,h.cY,h.cC,?_,fun g' hg'=>h.cR g' hg',?_⟩,(Other.refl base C W).setCell (p:=⟨S,0,none⟩) h.bS h.cS _⟩
 ·exact Boxed.same h.yld (Adl _ _ _ _ (Ne.symm h.neSY))
 ·exact Aa hp (fun g' hg'=>Adl _ _ _ _ (by simp [Value.ownBlock] at hg';subst hg';exact hng.2.2.1))
 ·refine h3.keep (by simp [World.setCell]) (fun b hf hlt=>⟨hf,fun o=>Adn (w:=W) (a:=⟨b,o,none⟩) (Adl _ _ _ _ ?_)⟩)
  rcases hf with h1 | h1
  ·have:=h.bn;have:=h.bS;simp;omega
  ·exact h1.2.2.1
theorem Stk.shift {n₀ base S Y l:Nat} {C:Nat→Prop} {W:World} {s:List (Nd × List Nd)} {g cap cap':Nat} {a:Option Addr} {us:List Value} {d:Nd} {r r':List Nd} (h:Stk n₀ base S Y l C W (s++[(d,r)]) (.slice (some ⟨g,0,none⟩) (s.length+1) cap) us)
  (hr:AW (Lies n₀ base C S (.slice (some ⟨g,0,none⟩) (s.length+1) cap)) W r' a cap') :
  ∃ us',Stk n₀ base S Y l C (W.setCell ⟨g,s.length * 2+1,none⟩ (.slice a r'.length cap')) (s++[(d,r')]) (.slice (some ⟨g,0,none⟩) (s.length+1) cap) us'∧Other base C W (W.setCell ⟨g,s.length * 2+1,none⟩ (.slice a r'.length cap')):=by
 have hrow:=h.row;rw [Adh] at hrow;obtain ⟨us',v,a2,cap2,rfl,h1,h2,h3⟩:=h.cells.last;have hl:=h3.len;have hng:=h.nr g rfl;have hst:=(hrow.stored (s.length * 2+1) (.slice a r'.length cap')).1;rw [←hl,List.set_append_right _ _ (by omega)] at hst;simp at hst;rw [hl] at hst;have hk:∀ b,Lies n₀ base C S (.slice (some ⟨g,0,none⟩) (s.length+1) cap) b→b < W.heap.size→Lies n₀ base C S (.slice (some ⟨g,0,none⟩) (s.length+1) cap) b∧∀ o,(W.setCell ⟨g,s.length * 2+1,none⟩ (.slice a r'.length cap')).cell? ⟨b,o,none⟩=W.cell? ⟨b,o,none⟩:=fun b hf hlt=>
  ⟨hf,fun o=>Adn (w:=W) (a:=⟨b,o,none⟩) (Adl _ _ _ _ (by
   rcases hf with h1 | h1
   ·have:=h.bn;simp;omega
   ·intro e;exact h1.2.2.2 (congrArg some e.symm)))⟩
 have hsz:W.heap.size≤(W.setCell ⟨g,s.length * 2+1,none⟩ (.slice a r'.length cap')).heap.size:=by simp [World.setCell]
 refine ⟨us'++[v,.slice a r'.length cap'],⟨?_,?_,h.bS,h.bY,h.bn,h.cS,h.cY,h.cC,?_,fun g' hg'=>h.cR g' hg',?_⟩,(Other.refl base C W).setCell (p:=⟨g,_,none⟩) hng.1 hng.2.2.2.2 _⟩
 ·exact Boxed.same h.box (Adl _ _ _ _ (Ne.symm hng.2.2.1))
 ·exact Boxed.same h.yld (Adl _ _ _ _ (Ne.symm hng.2.2.2.1))
 ·rw [Adh]
  exact hst
 ·exact StkC.snoc (h1.keep hsz hk) (hr.keep hsz hk) (h3.keep hsz hk)
end
section
open Go Go.RowKit
theorem Bd {w:World} {b:Nat} {T:TypeId} {v0 v1 v2 v3:Value} (h:Blk w b #[v0,v1,v2,v3] T) :
  w.cell? ⟨b,0,none⟩=some v0∧w.cell? ⟨b,1,none⟩=some v1∧w.cell? ⟨b,2,none⟩=some v2∧w.cell? ⟨b,3,none⟩=some v3∧
  w.frozen? ⟨b,0,none⟩=false∧w.frozen? ⟨b,1,none⟩=false∧w.frozen? ⟨b,2,none⟩=false∧w.frozen? ⟨b,3,none⟩=false∧b < w.heap.size:=
 ⟨(h.cell 0).trans rfl,(h.cell 1).trans rfl,(h.cell 2).trans rfl,(h.cell 3).trans rfl,h.frozen 0,h.frozen 1,h.frozen 2,h.frozen 3,h.lt⟩
theorem Eg {w w':World} {p:Nat} {cs:Array Value} {T:TypeId} (h:Blk w p cs T) (e:w'.heap[p]?=w.heap[p]?):Blk w' p cs T:=by
 unfold Blk at h ⊢;rw [e,h]
theorem Z4 {w0 w:World} {p:Nat} {T:TypeId} {u0 u1 u2 u3:Value} (hb:Below w0.heap.size w0 w) (hp:w0.heap.size≤p) (h:Blk w p #[u0,u1,u2,u3] T) (v0 v1 v2 v3:Value) (w':World)
  (hw:((((w.setCell ⟨p,0,none⟩ v0).setCell ⟨p,1,none⟩ v1).setCell ⟨p,2,none⟩ v2).setCell ⟨p,3,none⟩ v3)=w') :
  Below w0.heap.size w0 w'∧Blk w' p #[v0,v1,v2,v3] T∧(∀ b,b≠p→w'.heap[b]?=w.heap[b]?)∧w'.heap.size=w.heap.size:=by
 subst hw;have h9:=(((h.set 0 v0).set 1 v1).set 2 v2).set 3 v3;have o1:∀ (w:World) (j:Nat) (v:Value) b,b≠p→(w.setCell ⟨p,j,none⟩ v).heap[b]?=w.heap[b]?:=fun w j v b hb=>Adl _ _ _ _ (fun e=>hb e)
 refine ⟨?_,h9,fun b hb=>?_,by simp [World.setCell]⟩
 ·exact (((hb.setCell (p:=⟨p,0,none⟩) hp v0).setCell (p:=⟨p,1,none⟩) hp v1).setCell (p:=⟨p,2,none⟩) hp v2).setCell (p:=⟨p,3,none⟩) hp v3
 ·rw [o1 _ _ _ _ hb,o1 _ _ _ _ hb,o1 _ _ _ _ hb,o1 _ _ _ _ hb]
theorem Cl {P:Program} {fn:Func} {Q:Ending→World→Prop} {e:Exit} {act:Act} {w0 w:World} {p:Nat} {T:TypeId} {u0 u1 u2 u3:Value} (hb:Below w0.heap.size w0 w) (h:Blk w p #[u0,u1,u2,u3] T) (hp:w0.heap.size≤p) {v0 v1 v2 v3:Value}
  (H:∀ w',Below w0.heap.size w0 w'→Blk w' p #[v0,v1,v2,v3] T→(∀ b,b≠p→w'.heap[b]?=w.heap[b]?)→w'.heap.size=w.heap.size→bodyPost P fn Q e act w') :
  bodyPost P fn Q e act ((((w.setCell ⟨p,0,none⟩ v0).setCell ⟨p,1,none⟩ v1).setCell ⟨p,2,none⟩ v2).setCell ⟨p,3,none⟩ v3):=by
 obtain ⟨h1,h2,h3,h4⟩:=Z4 hb hp h v0 v1 v2 v3 _ rfl;exact H _ h1 h2 h3 h4
theorem Aa5 {P:Program} {fn:Func} {Q:Ending→World→Prop} {e:Exit} {act:Act} {w0 w:World} {p:Nat} {T:TypeId} {u0 u1 u2 u3:Value} (hb:Below w0.heap.size w0 w) (h:Blk w p #[u0,u1,u2,u3] T) (hp:w0.heap.size≤p) {v0 v1 v2 v3:Value}
  (H:∀ w',Below w0.heap.size w0 w'→Blk w' p #[v0,v1,v2,v3] T→(∀ b,b≠p→w'.heap[b]?=w.heap[b]?)→w'.heap.size=w.heap.size→bodyPost P fn Q e act w') :
  bodyPost P fn Q e act ((((w.setCell ⟨p,0,none⟩ v0).setCell ⟨p,1,none⟩ v1).setCell ⟨p,2,none⟩ v2).setCell ⟨p,3,none⟩ v3).drew:=by
 obtain ⟨h1,h2,h3,h4⟩:=Z4 hb hp h v0 v1 v2 v3 _ rfl;exact H _ h1.drew h2 h3 h4
theorem BN {w:World} {B C:Nat} (h:B≤C) {e:TypeId} {size n:Nat} {v:Value} {xs:List Value} (k:w.ownsRow C e size v n xs):w.ownsRow B e size v n xs:=by
 obtain ⟨h1,h2⟩:=k;refine ⟨h1,?_⟩;rcases h2 with h2 | ⟨g,cap,cur,a,b,c⟩
 ·exact .inl h2
 ·exact .inr ⟨g,cap,cur,a,by omega,c⟩
theorem AE {w w':World} {p:Nat} {r:Option Nat} {cs:Array Value} {T:TypeId} (h:Blk w p cs T) (hg:w.grownBy w' r) (hne:r≠some p):Blk w' p cs T:=by
 have hl:=h.lt;unfold Blk at h ⊢;rw [hg.block p hl (fun e=>hne e.symm)];exact h
theorem Gg {w:World} {b:Nat} {T:TypeId} {v0 v1 v2:Value} (h:Blk w b #[v0,v1,v2] T) :
  w.cell? ⟨b,0,none⟩=some v0∧w.cell? ⟨b,1,none⟩=some v1∧w.cell? ⟨b,2,none⟩=some v2∧
  w.frozen? ⟨b,0,none⟩=false∧w.frozen? ⟨b,1,none⟩=false∧w.frozen? ⟨b,2,none⟩=false∧b < w.heap.size:=
 ⟨(h.cell 0).trans rfl,(h.cell 1).trans rfl,(h.cell 2).trans rfl,h.frozen 0,h.frozen 1,h.frozen 2,h.lt⟩
theorem Rp {P:Program} {fn:Func} {Q:Ending→World→Prop} {e:Exit} {act:Act} {w0 w:World} {p:Nat} {T:TypeId} {u0 u1 u2:Value} (hb:Below w0.heap.size w0 w) (h:Blk w p #[u0,u1,u2] T) (hp:w0.heap.size≤p) {v0 v1 v2:Value}
  (H:∀ w',Below w0.heap.size w0 w'→Blk w' p #[v0,v1,v2] T→(∀ b,b≠p→w'.heap[b]?=w.heap[b]?)→w'.heap.size=w.heap.size→bodyPost P fn Q e act w') :
  bodyPost P fn Q e act (((w.setCell ⟨p,0,none⟩ v0).setCell ⟨p,1,none⟩ v1).setCell ⟨p,2,none⟩ v2):=by
 have o1:∀ (w:World) (j:Nat) (v:Value) b,b≠p→(w.setCell ⟨p,j,none⟩ v).heap[b]?=w.heap[b]?:=fun w j v b hb=>Adl _ _ _ _ (fun e=>hb e)
 refine H _ ?_ (((h.set 0 v0).set 1 v1).set 2 v2) (fun b hb=>?_) (by simp [World.setCell])
 ·exact ((hb.setCell (p:=⟨p,0,none⟩) hp v0).setCell (p:=⟨p,1,none⟩) hp v1).setCell (p:=⟨p,2,none⟩) hp v2
 ·rw [o1 _ _ _ _ hb,o1 _ _ _ _ hb,o1 _ _ _ _ hb]
theorem Ae {w w2:World} {cs:Array Value} {T:TypeId} (h:w.alloc (.cells cs T)=w2):Blk w2 w.heap.size cs T:=by
 subst h;exact Blk.new w cs T _ rfl
theorem Ac {w w2:World} {o:Obj} (h:w.alloc o=w2):Below w.heap.size w w2:=by
 subst h;exact (Adk _ _).alloc (Adf _) _
end
end Go.Proofs.YteilldmmihiijaaGreatDoor
