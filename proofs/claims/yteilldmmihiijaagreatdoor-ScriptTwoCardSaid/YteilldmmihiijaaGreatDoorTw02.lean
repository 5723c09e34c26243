/- Texts. -/
import Derived.Test.YteilldmmihiijaaGreatDoorTw01
import Derived.Lib.IndexMore
import Derived.Lib.Strings
import Derived.KernelRfl
import Derived.Deep.DeepCutAuto
import Derived.Outline
import Derived.Shelf.Strings.Search3
import Derived.Shelf.Strings.Prefix
set_option linter.unusedSimpArgs false
set_option linter.unusedVariables false
set_option maxHeartbeats 8000000
set_option maxRecDepth 1000000
namespace Go.Proofs.YteilldmmihiijaaGreatDoor
open Go.Lib renaming hid→Ad5
open Nat renaming le_refl→Aec,le_trans→Aed,lt_of_lt_of_le→Aef,le_of_lt→Aeg
open List renaming length_append→Aee
open Go.RowKit.Below renaming refl→Aeh
open Go.IntWalk renaming i64_in→Aej
section
def byt (s:List UInt8) (k:Nat):Nat:=(s.getD k 0).toNat
def Nw (s:List UInt8) (kind:Nat) (e:Nat):Option Nat:=
 if e+1 < s.length then (if byt s e=kind∧byt s (e+1)=93 then some e else Nw s kind (e+1)) else none
termination_by s.length - e
structure Itm where
 set:OSet
 may:Bool
 next:Nat
 err:Nat
 place:Nat
def opens (s:List UInt8) (k:Nat):Bool:=decide (byt s k=91) && decide (k+1 < s.length) && (decide (byt s (k+1)=58) || decide (byt s (k+1)=61) || decide (byt s (k+1)=46))
def sub (s:List UInt8) (i j:Nat):List UInt8:=(s.drop i).take (j - i)
def Li (s:List UInt8) (k e:Nat):Itm:=
 if byt s (k+1)=58 then (if CH (sub s (k+2) e) then ⟨A5 (sub s (k+2) e),false,e+2,0,0⟩ else ⟨oz,false,0,6,k⟩)
 else if e=k+3 then ⟨Ab (byt s (k+2)) (byt s (k+2)),decide (byt s (k+1)=46),e+2,0,0⟩
 else ⟨oz,false,0,6,k⟩
def Gu (s:List UInt8) (k:Nat):Nat:=if byt s (k+1)=58 then k+2 else k+3
def Fc (s:List UInt8) (k:Nat):Itm:=
 if s.length≤k then ⟨oz,false,0,5,s.length⟩
 else if opens s k then (match Nw s (byt s (k+1)) (Gu s k) with
  | some e=>Li s k e
  | none=>⟨oz,false,0,5,s.length⟩)
 else ⟨Ab (byt s k) (byt s k),true,k+1,0,0⟩
theorem J8 (s:List UInt8) (kind:Nat) (e x:Nat) (h:Nw s kind e=some x):e≤x∧x+1 < s.length:=by
 fun_induction Nw s kind e with
 | case1 e h1 h2=>simp at h;omega
 | case2 e h1 h2 ih=>have:=ih h;omega
 | case3 e h1=>simp at h
theorem J9 (s:List UInt8) (k:Nat) (h:(Fc s k).err=0):k < (Fc s k).next∧(Fc s k).next≤s.length:=by
 unfold Fc at h ⊢;split at h
 ·simp at h
 ·rename_i hk;rw [if_neg hk];split at h
  ·rename_i ho;rw [if_pos ho];split at h
   ·rename_i e he;have hge:=J8 _ _ _ _ he;have hf:k+2≤Gu s k:=by unfold Gu;split <;> omega
    unfold Li at h ⊢;split at h
    ·split at h
     ·rename_i h1 h2;rw [if_pos h1,if_pos h2];simp only;omega
     ·simp at h
    ·split at h
     ·rename_i h1 h2;rw [if_neg h1,if_pos h2];simp only;omega
     ·simp at h
   ·simp at h
  ·rename_i ho;rw [if_neg ho];simp only;omega
def UI (s:OSet):Nat:=match ZX s with
 | []=>0
 | p :: _=>p.1
def U4 (s:List UInt8) (k:Nat):Except (Nat × Nat) (OSet × Nat):=
 let a:=Fc s k
 if a.err≠0 then .error (a.err,a.place)
 else if a.next+1 < s.length∧byt s a.next=45∧byt s (a.next+1)≠93 then
  let b:=Fc s (a.next+1)
  if b.err≠0 then .error (b.err,b.place)
  else if a.may && b.may && decide (UI a.set≤UI b.set) then .ok (Ab (UI a.set) (UI b.set),b.next)
  else .error (1,k)
 else .ok (a.set,a.next)
theorem JA (s:List UInt8) (k:Nat) (t:OSet) (j:Nat) (h:U4 s k=.ok (t,j)):k < j∧j≤s.length:=by
 unfold U4 at h;simp only at h;split at h
 ·cases h
 ·rename_i h1;have h2:=J9 s k (by simpa using h1);split at h
  ·split at h
   ·cases h
   ·rename_i h3;have h4:=J9 s _ (by simpa using h3);split at h
    ·injection h with h;injection h with _ h;omega
    ·cases h
  ·injection h with h;injection h with _ h;omega
/-- The rest of an expression from k on: its set beside what was there, and the place behind it; or the error. -/
def II (s:List UInt8) (first:Bool) (k:Nat) (out:OSet):Except (Nat × Nat) (OSet × Nat):=
 if first=false∧k < s.length∧byt s k=93 then .ok (out,k+1)
 else match h:U4 s k with
  | .error e=>.error e
  | .ok (t,j)=>II s false j (out ||| t)
termination_by s.length - k
decreasing_by have:=JA s k t j h;omega
def Fz (s:List UInt8) (k:Int):OSet × Int × Nat:=
 if k < 0∨(s.length:Int) < k then (oz,0,1)
 else
  let k:=k.toNat
  let not:=decide (k < s.length) && decide (byt s k=94)
  match II s true (if not then k+1 else k) oz with
  | .error (e,p)=>(oz,p,e)
  | .ok (t,j)=>(if not then ~~~t else t,j,0)
end
section
theorem Jc (b k:Nat) (hb:b < 256):ohas (Ab b b) k=(decide (b≤k) && decide (k < b+1)):=by
 unfold ohas Ab;rw [Int.toNat_natCast,show ((b:Int) - (b:Int)+1).toNat=1 by omega,FY _ _ _ (by omega)]
theorem Mg (b:Nat) (hb:b < 256):ZX (Ab b b)≠[]∧UI (Ab b b)=b:=by
 have h1:ohas (Ab b b) b=true:=by rw [Jc b b hb];simp
 cases hs:ZX (Ab b b) with
 | nil=>
  have h:=Yg _ hs;rw [h] at h1;simp [ohas,oz] at h1
 | cons p l=>
  refine ⟨by simp,?_⟩;obtain ⟨_,h2,h3⟩:=Sy _ p l hs;unfold UI;rw [hs];rw [Jc b p.1 hb] at h2;simp only [Bool.and_eq_true,decide_eq_true_eq] at h2;simp only;omega
theorem G5 (s:List UInt8) (k:Nat):byt s k < 256:=(s.getD k 0).toNat_lt
theorem Ry (s:List UInt8) (k:Nat) (h:(Fc s k).may=true):∃ b:Nat,b < 256∧(Fc s k).set=Ab b b:=by
 unfold Fc at h ⊢;split at h
 ·simp at h
 ·rename_i hk;rw [if_neg hk];split at h
  ·rename_i ho;rw [if_pos ho];split at h
   ·rename_i e he;unfold Li at h ⊢;split at h
    ·split at h <;> simp at h
    ·rename_i h1;rw [if_neg h1];split at h
     ·rename_i h2;rw [if_pos h2];exact ⟨_,G5 s (k+2),rfl⟩
     ·simp at h
   ·simp at h
  ·rename_i ho;rw [if_neg ho];exact ⟨_,G5 s k,rfl⟩
theorem Aa2 (s:List UInt8) (first:Bool) (k:Nat) (out t:OSet) (j:Nat) (hn:¬ (first=false∧k < s.length∧byt s k=93)) (h:U4 s k=.ok (t,j)):II s first k out=II s false j (out ||| t):=by
 rw [II,if_neg hn];split
 ·rename_i e h2;rw [h] at h2;cases h2
 ·rename_i t' j' h2;rw [h] at h2;cases h2
  rfl
theorem Rz (s:List UInt8) (first:Bool) (k:Nat) (out:OSet) (e:Nat × Nat) (hn:¬ (first=false∧k < s.length∧byt s k=93)) (h:U4 s k=.error e):II s first k out=.error e:=by
 rw [II,if_neg hn];split
 ·rename_i e2 h2;rw [h] at h2;cases h2
  rfl
 ·rename_i t' j' h2;rw [h] at h2;cases h2
end
section
theorem GV (s:List UInt8) (k:Nat) (h:k < s.length):s.drop k=s[k] :: s.drop (k+1)∧byt s k=s[k].toNat:=by
 refine ⟨List.drop_eq_getElem_cons h,?_⟩;unfold byt;rw [List.getD_eq_getElem?_getD,List.getElem?_eq_getElem h];rfl
theorem R0 (a b:UInt8):(a == b)=decide (a.toNat=b.toNat):=by
 by_cases h:a=b
 ·subst h;simp
 ·have h2:a.toNat≠b.toNat:=fun e=>h (UInt8.toNat_inj.1 e)
  simp [h,h2]
theorem Yo (s:List UInt8) (k:UInt8) (e:Nat) (he:e≤s.length):Lib.index (s.drop e) [k,93]=match Nw s k.toNat e with
  | some x=>(x:Int) - (e:Int)
  | none=>-1:=by
 obtain ⟨n,hn⟩:∃ n,n=s.length - e:=⟨_,rfl⟩;induction n generalizing e with
 | zero=>
  have:e=s.length:=by omega
  subst this;rw [Nw,if_neg (by omega),List.drop_length];rfl
 | succ n ih=>
  have hlt:e < s.length:=by omega
  obtain ⟨h1,h2⟩:=GV s e hlt;have ih:=ih (e+1) (by omega) (by omega);rw [h1,Nw];unfold Lib.index;rw [ih];by_cases hl:e+1 < s.length
  ·obtain ⟨h3,h4⟩:=GV s (e+1) hl;rw [if_pos hl,h3,h2,h4];have hp:[k,93].isPrefixOf (s[e] :: s[e+1] :: s.drop (e+1+1))=(decide (s[e].toNat=k.toNat) && decide (s[e+1].toNat=93)):=by
    simp only [List.isPrefixOf,Bool.and_true];rw [R0,R0]
    congr 1
    ·exact decide_eq_decide.2 ⟨Eq.symm,Eq.symm⟩
    ·exact decide_eq_decide.2 ⟨Eq.symm,Eq.symm⟩
   rw [hp];by_cases hc:s[e].toNat=k.toNat∧s[e+1].toNat=93
   ·rw [if_pos hc,if_pos (by simp [hc])];simp
   ·rw [if_neg hc,if_neg (by simpa using hc)];cases hf:Nw s k.toNat (e+1) with
    | none=>simp
    | some x=>
     have:=J8 _ _ _ _ hf;simp only;rw [if_neg (by simp;omega)];omega
  ·rw [if_neg hl];have h3:s.drop (e+1)=[]:=List.drop_eq_nil_of_le (by omega);rw [h3];have h4:Nw s k.toNat (e+1)=none:=by rw [Nw,if_neg (by omega)]
   rw [h4];have hp:[k,93].isPrefixOf [s[e]]=false:=by simp [List.isPrefixOf]
   rw [hp];simp
theorem R4 (s:List UInt8) (k:Nat) (o:UInt8):Lib.hasPrefix (s.drop k) [o]=(decide (k < s.length) && decide (byt s k=o.toNat)):=by
 unfold Lib.hasPrefix;by_cases hl:k < s.length
 ·obtain ⟨h3,h4⟩:=GV s k hl;rw [h3,h4];simp only [List.isPrefixOf,Bool.and_true,hl,decide_true,Bool.true_and];rw [R0];exact decide_eq_decide.2 ⟨Eq.symm,Eq.symm⟩
 ·rw [List.drop_eq_nil_of_le (by omega)];simp [hl]
theorem Yp (s:List UInt8) (k:Nat) (a o:UInt8):Lib.hasPrefix (s.drop k) [a,o]=(decide (k+1 < s.length) && decide (byt s k=a.toNat) && decide (byt s (k+1)=o.toNat)):=by
 unfold Lib.hasPrefix;by_cases hl:k < s.length
 ·obtain ⟨h3,h4⟩:=GV s k hl;have:=R4 s (k+1) o;unfold Lib.hasPrefix at this;rw [h3,h4];show (a == s[k] && [o].isPrefixOf (s.drop (k+1)))=_;rw [this,R0];rw [show decide (a.toNat=s[k].toNat)=decide (s[k].toNat=a.toNat) from decide_eq_decide.2 ⟨Eq.symm,Eq.symm⟩];cases decide (k+1 < s.length) <;> cases decide (s[k].toNat=a.toNat) <;> rfl
 ·rw [List.drop_eq_nil_of_le (by omega)];simp [show ¬ (k+1 < s.length) by omega]
theorem SD (a b:Nat) (h:b < a):Ab a b=oz:=by
 unfold Ab;rw [show ((b:Int) - (a:Int)+1).toNat=0 by omega];rfl
theorem SE (a b:Nat) (hb:b < 256) (h:a≤b):Ab a b≠oz:=by
 intro hz;have h1:ohas (Ab a b) a=true:=by
  unfold ohas Ab;rw [Int.toNat_natCast,FY _ _ _ (by omega)];simp;omega
 rw [hz] at h1;simp [ohas,oz] at h1
end
section
def KM (r:OSet × Int × Nat):Value:=.tuple #[.agg #[.int .u64 (ow r.1 0),.int .u64 (ow r.1 1),.int .u64 (ow r.1 2),.int .u64 (ow r.1 3)],.int .i64 r.2.1,.int .i64 (r.2.2:Int)]
def UJ (s:List UInt8) (k:Nat):Bool:=decide (k < s.length) && decide (byt s k=94)
theorem Yq (s:List UInt8) (k:Int) (h:k < 0∨(s.length:Int) < k):Fz s k=(oz,0,1):=by
 unfold Fz;rw [if_pos h]
theorem Pp (s:List UInt8) (n:Nat) (h:n≤s.length) (t:OSet) (j:Nat) (hr:II s true (if UJ s n then n+1 else n) oz=.ok (t,j)):Fz s (n:Int)=(if UJ s n then ~~~t else t,(j:Int),0):=by
 unfold Fz;rw [if_neg (by omega)];simp only [Int.toNat_natCast];unfold UJ at hr ⊢;rw [hr]
theorem Mh (s:List UInt8) (n:Nat) (h:n≤s.length) (e p:Nat) (hr:II s true (if UJ s n then n+1 else n) oz=.error (e,p)):Fz s (n:Int)=(oz,(p:Int),e):=by
 unfold Fz;rw [if_neg (by omega)];simp only [Int.toNat_natCast];unfold UJ at hr;rw [hr]
theorem Mi (s:List UInt8) (k e p:Nat) (h:U4 s k=.error (e,p)):e≠0:=by
 unfold U4 at h;simp only at h;split at h
 ·rename_i h1;injection h with h;injection h with h2 _;rw [←h2];exact h1
 ·split at h
  ·split at h
   ·rename_i h1;injection h with h;injection h with h2 _;rw [←h2];exact h1
   ·split at h
    ·cases h
    ·injection h with h;injection h with h2 _;omega
  ·cases h
theorem R5 (s:List UInt8) (fl:Bool) (k:Nat) (out:OSet) (e p:Nat) (h:II s fl k out=.error (e,p)):e≠0:=by
 fun_induction II s fl k out with
 | case1=>cases h
 | case2 _ _ _ _ x hx=>
  injection h with h;subst h;exact Mi _ _ _ _ hx
 | case3 _ _ _ _ _ _ _ ih=>exact ih h
end
section
theorem UK (s:List UInt8) (fl:Bool) (k:Nat) (acc t:OSet) (j:Nat) (h:II s fl k acc=.ok (t,j)):k < j∧j≤s.length:=by
 fun_induction II s fl k acc with
 | case1 fl k acc h1=>
  injection h with h;injection h with _ h;omega
 | case2 fl k acc hn e he=>cases h
 | case3 fl k acc hn t' j' he ih=>
  have h1:=ih h;have h2:=JA _ _ _ _ he;omega
theorem UL (s:List UInt8) (fl:Bool) (k:Nat) (acc:OSet) (e p:Nat) (h:II s fl k acc=.error (e,p)):e≠0:=by
 fun_induction II s fl k acc with
 | case1 fl k acc h1=>cases h
 | case2 fl k acc hn e' he=>
  injection h with h;subst h;exact Mi _ _ _ _ he
 | case3 fl k acc hn t' j' he ih=>exact ih h
theorem JB (s:List UInt8) (n:Nat) (h:n≤s.length):∃ (t:OSet) (j e:Nat),Fz s (n:Int)=(t,(j:Int),e)∧(e=0→n < j∧j≤s.length):=by
 cases hr:II s true (if UJ s n then n+1 else n) oz with
 | error q=>
  obtain ⟨e,p⟩:=q;exact ⟨_,_,_,Mh s n h e p hr,fun h0=>absurd h0 (UL _ _ _ _ _ _ hr)⟩
 | ok q=>
  obtain ⟨t,j⟩:=q;refine ⟨_,_,_,Pp s n h t j hr,fun _=>?_⟩;have:=UK _ _ _ _ _ _ hr;split at this <;> omega
end
section
end
section
def chAt (s:List UInt8) (k b:Nat):Bool:=decide (k < s.length) && decide (byt s k=b)
def BM (s:List UInt8) (k b:Nat):Bool:=decide (k+1 < s.length) && decide (byt s k=92) && decide (byt s (k+1)=b)
def A2 (ere:Bool) (s:List UInt8) (k b:Nat):Bool:=if ere then chAt s k b else BM s k b
def AY (ere:Bool):Nat:=if ere then 1 else 2
def F8 (s:List UInt8) (k:Nat):Bool:=decide (k < s.length) && decide (48≤byt s k) && decide (byt s k≤57)
def A7 (s:List UInt8):Nat→Nat→Nat→Nat × Nat
 | 0,_,v=>(0,v)
 | n+1,k,v=>if F8 s k then ((A7 s n (k+1) (10 * v+(byt s k - 48))).1+1,(A7 s n (k+1) (10 * v+(byt s k - 48))).2) else (0,v)
def Dj (s:List UInt8) (k:Nat):Nat × Nat:=if (A7 s 3 k 0).2≤255 then ((A7 s 3 k 0).2,(A7 s 3 k 0).1) else (0,0)
def G6 (ere:Bool) (s:List UInt8) (k:Nat):Option (Int × Int × Nat):=
 let m:=Dj s k
 if m.2=0 then none
 else
  let k1:=k+m.2
  let q:Int × Nat:=if chAt s k1 44 then (let x:=Dj s (k1+1);if x.2=0 then (-1,k1+1) else ((x.1:Int),k1+1+x.2)) else ((m.1:Int),k1)
  if A2 ere s q.2 125 && !(decide (0≤q.1) && decide (q.1 < (m.1:Int))) then some ((m.1:Int),q.1,q.2+AY ere) else none
structure ReSt where
 pos:Nat
 opened:Nat
 closed:List Int
 marks:List (Nat × Nat)
abbrev ReRes (α:Type):=Except (Nat × Nat) α
def ReSt.mark (st:ReSt) (c:Nat):ReSt:={ st with marks:=st.marks++[(st.pos,c)] }
def ReSt.to (st:ReSt) (k:Nat):ReSt:={ st with pos:=k }
inductive ReRep where
 | none
 | bad
 | some (mn mx:Int) (c:Nat) (next:Nat)
def repAt (ere:Bool) (s:List UInt8) (k:Nat):ReRep:=
 if chAt s k 42 then .some 0 (-1) 0 (k+1)
 else if A2 ere s k 43 then .some 1 (-1) (if ere then 0 else 43) (k+AY ere)
 else if A2 ere s k 63 then .some 0 1 (if ere then 0 else 63) (k+AY ere)
 else if A2 ere s k 123 then (match G6 ere s (k+AY ere) with
  | Option.none=>.bad
  | Option.some (m,n,j)=>.some m n 0 j)
 else .none
def DI (ere:Bool) (s:List UInt8):Nat→ReSt→Nd→ReRes (ReSt × Nd)
 | 0,_,_=>.error (0,0)
 | n+1,st,d=>match repAt ere s st.pos with
  | .none=>.ok (st,d)
  | .bad=>.error (7,st.pos)
  | .some mn mx c j=>DI ere s n ((if c=0 then st else st.mark c).to j) (.rep d mn mx)
def Ai:OSet:=A5 [97,108,110,117,109] ||| Ab 95 95
def Ap:OSet:=A5 [115,112,97,99,101]
def Ei:OSet:=A5 [112,117,110,99,116]
def CG (c:Nat):Option (OSet × Bool):=
 if c=110 then some (Ab 10 10,false)
 else if c=116 then some (Ab 9 9,true)
 else if c=119 then some (Ai,true)
 else if c=87 then some (~~~Ai,true)
 else if c=115 then some (Ap,true)
 else if c=83 then some (~~~Ap,true)
 else if ohas Ei c then some (Ab c c,false)
 else none
def Ds (ere:Bool) (st:ReSt) (c:Nat):ReRes (ReSt × Nd):=
 if 49≤c∧c≤57 then (if st.closed.contains ((c:Int) - 48) then .ok ((if ere then st.mark c else st).to (st.pos+2),.back ((c:Int) - 48)) else .error (9,st.pos))
 else match CG c with
  | none=>.error (2,st.pos)
  | some (t,m)=>.ok ((if m then st.mark c else st).to (st.pos+2),.one t)
def F9 (ere:Bool) (s:List UInt8) (sub:Option (ReSt→ReRes (ReSt × Nd))) (st:ReSt):ReRes (ReSt × Nd):=match sub with
 | none=>.error (4,st.pos)
 | some f=>match f { st with pos:=st.pos+AY ere,opened:=st.opened+1 } with
  | .error e=>.error e
  | .ok (st',d)=>if A2 ere s st'.pos 41 then .ok ({ st' with pos:=st'.pos+AY ere,closed:=st'.closed++[(st.opened:Int)+1] },.group ((st.opened:Int)+1) d) else .error (8,st.pos)
def Bc (ere:Bool) (s:List UInt8) (sub:Option (ReSt→ReRes (ReSt × Nd))) (st:ReSt):ReRes (ReSt × Nd):=
 if A2 ere s st.pos 40 then F9 ere s sub st
 else if A2 ere s st.pos 41 then .error (8,st.pos)
 else if chAt s st.pos 91 then (if (Fz s ((st.pos:Int)+1)).2.2=0 then .ok (st.to (Fz s ((st.pos:Int)+1)).2.1.toNat,.one (Fz s ((st.pos:Int)+1)).1) else .error ((Fz s ((st.pos:Int)+1)).2.2,(Fz s ((st.pos:Int)+1)).2.1.toNat))
 else if chAt s st.pos 46 then .ok (st.to (st.pos+1),.one (Ab 0 255))
 else if chAt s st.pos 92 then (if st.pos+1 < s.length then Ds ere st (byt s (st.pos+1)) else .error (11,st.pos))
 else .ok (st.to (st.pos+1),.one (Ab (byt s st.pos) (byt s st.pos)))
def AC (s:List UInt8) (k:Nat):Bool:=decide (s.length≤k) || BM s k 124 || BM s k 41
def branchM (ere:Bool) (s:List UInt8) (sub:Option (ReSt→ReRes (ReSt × Nd))) (top:Bool) (begin:Nat):Nat→ReSt→List Nd→Bool→ReRes (ReSt × Nd)
 | 0,_,_,_=>.error (0,0)
 | n+1,st,parts,front=>
  if decide (s.length≤st.pos) || A2 ere s st.pos 124 || (A2 ere s st.pos 41 && !top) then .ok (st,Bu parts)
  else if chAt s st.pos 94 && (ere || decide (st.pos=begin)) then branchM ere s sub top begin n (st.to (st.pos+1)) (parts++[.start]) true
  else if chAt s st.pos 36 && (ere || AC s (st.pos+1)) then branchM ere s sub top begin n (st.to (st.pos+1)) (parts++[.fin]) true
  else if front && (A2 ere s st.pos 123 || A2 ere s st.pos 43 || A2 ere s st.pos 63 || (ere && chAt s st.pos 42)) then .error (10,st.pos)
  else match Bc ere s sub st with
   | .error e=>.error e
   | .ok (st1,d)=>match DI ere s (s.length+1) st1 d with
    | .error e=>.error e
    | .ok (st2,d2)=>branchM ere s sub top begin n st2 (parts++[d2]) false
def As (ere:Bool) (s:List UInt8) (sub:Option (ReSt→ReRes (ReSt × Nd))) (top:Bool):Nat→ReSt→List Nd→ReRes (ReSt × Nd)
 | 0,_,_=>.error (0,0)
 | n+1,st,l=>match branchM ere s sub top st.pos (s.length+1) st [] true with
  | .error e=>.error e
  | .ok (st1,d)=>if A2 ere s st1.pos 124 then As ere s sub top n ((if ere then st1 else st1.mark 124).to (st1.pos+AY ere)) (l++[d]) else .ok (st1,Cl (l++[d]))
def C0 (ere:Bool) (s:List UInt8):Nat→ReSt→ReRes (ReSt × Nd)
 | 0,st=>As ere s none false (s.length+1) st []
 | k+1,st=>As ere s (some (C0 ere s k)) false (s.length+1) st []
def Ej:ReSt:=⟨0,0,[],[]⟩
def AZ (ere:Bool) (s:List UInt8):ReRes (ReSt × Nd):=
 if 250 < s.length then .error (3,250) else As ere s (some (C0 ere s 11)) true (s.length+1) Ej []
end
section
def AQ (s:List UInt8) (k:Nat) (t:List UInt8):Bool:=Lib.hasPrefix (s.drop k) t
theorem Pq (s:List UInt8) (k b:Nat) (hb:b < 256) (h:k < s.length):(UInt8.ofNat b == s[k])=decide (byt s k=b):=by
 unfold byt;rw [List.getD_eq_getElem?_getD,List.getElem?_eq_getElem h,Option.getD_some];by_cases e:s[k].toNat=b
 ·rw [decide_eq_true e,beq_iff_eq,←e];simp
 ·rw [decide_eq_false e,beq_eq_false_iff_ne];intro e2;apply e;rw [←e2];simp;omega
theorem D6 (s:List UInt8) (k b:Nat) (hb:b < 256):AQ s k [UInt8.ofNat b]=chAt s k b:=by
 unfold AQ Lib.hasPrefix chAt;by_cases h:k < s.length
 ·rw [List.drop_eq_getElem_cons h,decide_eq_true h];simp only [List.isPrefixOf,Bool.and_true,Bool.true_and];exact Pq s k b hb h
 ·rw [List.drop_eq_nil_of_le (by omega),decide_eq_false h];rfl
theorem BN (s:List UInt8) (k b:Nat) (hb:b < 256):AQ s k [92,UInt8.ofNat b]=BM s k b:=by
 unfold AQ Lib.hasPrefix BM;by_cases h:k < s.length
 ·rw [List.drop_eq_getElem_cons h];by_cases h2:k+1 < s.length
  ·rw [List.drop_eq_getElem_cons h2,decide_eq_true h2];simp only [List.isPrefixOf,Bool.and_true,Bool.true_and];rw [Pq s (k+1) b hb h2,show ((92:UInt8) == s[k])=decide (byt s k=92) from Pq s k 92 (by decide) h]
  ·rw [List.drop_eq_nil_of_le (by omega),decide_eq_false h2];simp [List.isPrefixOf]
 ·rw [List.drop_eq_nil_of_le (by omega),decide_eq_false (by omega)];rfl
theorem FA (s:List UInt8) (k:Nat) (t:List UInt8) (h:AQ s k t=true) (h0:t≠[]):k+t.length≤s.length:=by
 unfold AQ Lib.hasPrefix at h;have h1:=(List.isPrefixOf_iff_prefix.1 h).length_le;rw [List.length_drop] at h1;have h2:0 < t.length:=List.length_pos_iff.2 h0;omega
theorem Pr (s:List UInt8) (k:Nat):AC s k=(((s.drop k).isEmpty || AQ s k [92,124]) || AQ s k [92,41]):=by
 unfold AC;rw [show AQ s k [92,124]=BM s k 124 from BN s k 124 (by decide),show AQ s k [92,41]=BM s k 41 from BN s k 41 (by decide)]
 congr 2
 rw [Bool.eq_iff_iff];simp
theorem Mj (s:List UInt8) (n k v:Nat) (h:n=0∨F8 s k=false):A7 s n k v=(0,v):=by
 cases n with
 | zero=>rfl
 | succ n=>
  rcases h with h | h
  ·cases h
  ·rw [A7,h];rfl
theorem UM (s:List UInt8) (n k v:Nat) (h:F8 s k=true):A7 s (n+1) k v=((A7 s n (k+1) (10 * v+(byt s k - 48))).1+1,(A7 s n (k+1) (10 * v+(byt s k - 48))).2):=by
 rw [A7,h];rfl
end
section
theorem Nx (ere:Bool) (s:List UInt8):∀ (n:Nat) (st:ReSt) (d:Nd) (st':ReSt) (d':Nd),DI ere s n st d=.ok (st',d')→repAt ere s st'.pos=.none:=by
 intro n;induction n with
 | zero=>intro st d st' d' h;cases h
 | succ n ih=>
  intro st d st' d' h;rw [DI] at h;cases hr:repAt ere s st.pos with
  | none=>
   rw [hr] at h;injection h with h;injection h with h1 _;rw [←h1];exact hr
  | bad=>rw [hr] at h;cases h
  | some mn mx c j=>rw [hr] at h;exact ih _ _ _ _ h
theorem BI {s:List UInt8} {k b:Nat} (h:chAt s k b=true):k < s.length∧byt s k=b:=by
 unfold chAt at h;simp only [Bool.and_eq_true,decide_eq_true_eq] at h;exact h
theorem Fd {s:List UInt8} {k b:Nat} (h:BM s k b=true):k+1 < s.length∧byt s k=92∧byt s (k+1)=b:=by
 unfold BM at h;simp only [Bool.and_eq_true,decide_eq_true_eq] at h;exact ⟨h.1.1,h.1.2,h.2⟩
theorem BD {s:List UInt8} {k b:Nat} (h:byt s k≠b):chAt s k b=false:=by
 cases hc:chAt s k b with
 | false=>rfl
 | true=>exact (h (BI hc).2).elim
theorem EN {ere:Bool} {s:List UInt8} {k b c:Nat} (h:A2 ere s k b=true) (hbc:b≠c):A2 ere s k c=false:=by
 cases hc:A2 ere s k c with
 | false=>rfl
 | true=>
  cases ere with
  | true=>exact (hbc ((BI h).2.symm.trans (BI hc).2)).elim
  | false=>exact (hbc ((Fd h).2.2.symm.trans (Fd hc).2.2)).elim
theorem UN {ere:Bool} {s:List UInt8} {k b c:Nat} (h:A2 ere s k b=true) (h1:b≠c) (h2:c≠92):chAt s k c=false:=by
 cases ere with
 | true=>exact BD (by rw [(BI h).2];exact h1)
 | false=>exact BD (by rw [(Fd h).2.1];exact fun e=>h2 e.symm)
theorem Ac3 {ere:Bool} {s:List UInt8} {k b:Nat} (h:A2 ere s k b=true):k < s.length:=by
 cases ere with
 | true=>exact (BI h).1
 | false=>have:=(Fd h).1;omega
def Fu (ere:Bool) (s:List UInt8) (r:ReRes (ReSt × Nd)):ReRes (ReSt × Nd):=match r with
 | .error e=>.error e
 | .ok (st,d)=>if A2 ere s st.pos 41 then .error (8,st.pos) else .ok (st,d)
theorem Ps (ere:Bool) (s:List UInt8) (sub:Option (ReSt→ReRes (ReSt × Nd))) (begin:Nat):∀ (n:Nat) (st:ReSt) (parts:List Nd) (front:Bool),
  branchM ere s sub true begin n st parts front=Fu ere s (branchM ere s sub false begin n st parts front):=by
 intro n;induction n with
 | zero=>intro _ _ _;rfl
 | succ n ih=>
  intro st parts front;rw [branchM,branchM];cases h41:A2 ere s st.pos 41 with
  | true=>
   have h1:decide (s.length≤st.pos)=false:=decide_eq_false (by have:=Ac3 h41;omega);have h2:A2 ere s st.pos 124=false:=EN h41 (by decide);have h3:=UN h41 (c:=94) (by decide) (by decide);have h4:=UN h41 (c:=36) (by decide) (by decide);have h5:=UN h41 (c:=42) (by decide) (by decide);have h6:A2 ere s st.pos 123=false:=EN h41 (by decide);have h7:A2 ere s st.pos 43=false:=EN h41 (by decide);have h8:A2 ere s st.pos 63=false:=EN h41 (by decide);have h9:A2 ere s st.pos 40=false:=EN h41 (by decide);have ha:Bc ere s sub st=.error (8,st.pos):=by unfold Bc;rw [h9,h41];rfl
   simp [h1,h2,h3,h4,h5,h6,h7,h8,ha,Fu,h41]
  | false=>
   by_cases he:(decide (s.length≤st.pos) || A2 ere s st.pos 124)=true
   ·simp [he,Fu,h41]
   ·rw [Bool.not_eq_true] at he;simp only [he,Bool.false_and,Bool.or_false,Bool.false_eq_true,if_false];split
    ·exact ih _ _ _
    ·split
     ·exact ih _ _ _
     ·split
      ·rfl
      ·cases Bc ere s sub st with
       | error e=>rfl
       | ok q=>
        obtain ⟨st1,d⟩:=q;simp only;cases DI ere s (s.length+1) st1 d with
        | error e=>rfl
        | ok q2=>exact ih _ _ _
theorem Pt (ere:Bool) (s:List UInt8) (sub:Option (ReSt→ReRes (ReSt × Nd))):∀ (n:Nat) (st:ReSt) (l:List Nd),
  As ere s sub true n st l=Fu ere s (As ere s sub false n st l):=by
 intro n;induction n with
 | zero=>intro _ _;rfl
 | succ n ih=>
  intro st l;rw [As,As,Ps];cases branchM ere s sub false st.pos (s.length+1) st [] true with
  | error e=>rfl
  | ok q=>
   obtain ⟨st1,d⟩:=q;simp only [Fu];cases h41:A2 ere s st1.pos 41 with
   | true=>
    rw [show A2 ere s st1.pos 124=false from EN h41 (by decide)];simp [h41]
   | false=>
    simp only [Bool.false_eq_true,if_false];split
    ·rw [ih];rfl
    ·simp [h41]
theorem G7 (ere:Bool) (s:List UInt8) (h:s.length≤250):AZ ere s=Fu ere s (As ere s (some (C0 ere s 11)) false (s.length+1) Ej []):=by
 unfold AZ;rw [if_neg (by omega),Pt]
end
section
theorem FB (s:List UInt8) (k j:Nat):byt (s.drop k) j=byt s (k+j):=by
 unfold byt;rw [List.getD_eq_getElem?_getD,List.getD_eq_getElem?_getD,List.getElem?_drop]
theorem Mk (s:List UInt8) (k j:Nat):decide (j < (s.drop k).length)=decide (k+j < s.length):=by
 rw [List.length_drop];exact decide_eq_decide.2 (by omega)
theorem R6 (s:List UInt8) (k j b:Nat):chAt (s.drop k) j b=chAt s (k+j) b:=by
 unfold chAt;rw [FB,Mk]
theorem Yr (s:List UInt8) (k j b:Nat):BM (s.drop k) j b=BM s (k+j) b:=by
 unfold BM;rw [FB,FB,Mk,Nat.add_assoc]
theorem Ys (ere:Bool) (s:List UInt8) (k j b:Nat):A2 ere (s.drop k) j b=A2 ere s (k+j) b:=by
 unfold A2;rw [R6,Yr]
theorem UO (s:List UInt8) (k j:Nat):F8 (s.drop k) j=F8 s (k+j):=by
 unfold F8;rw [FB,Mk]
theorem Io (s:List UInt8) (k:Nat):∀ (n j v:Nat),A7 (s.drop k) n j v=A7 s n (k+j) v:=by
 intro n;induction n with
 | zero=>intro j v;rfl
 | succ n ih=>
  intro j v;rw [A7,A7,UO,FB,ih,Nat.add_assoc]
theorem UP (s:List UInt8) (k j:Nat):Dj (s.drop k) j=Dj s (k+j):=by
 unfold Dj;rw [Io]
def CI (s:List UInt8) (k:Nat):Bool:=decide (0 < (A7 s 3 k 0).1) && decide ((A7 s 3 k 0).2≤255)
theorem UQ (s:List UInt8) (k:Nat) (h:CI s k=false):(Dj s k).2=0:=by
 unfold CI at h;unfold Dj;split
 ·rename_i h1;rw [decide_eq_true h1,Bool.and_true] at h;have:=of_decide_eq_false h;simp only;omega
 ·rfl
theorem R7 (s:List UInt8) (k:Nat) (h:CI s k=true):Dj s k=((A7 s 3 k 0).2,(A7 s 3 k 0).1)∧(Dj s k).2≠0:=by
 unfold CI at h;simp only [Bool.and_eq_true,decide_eq_true_eq] at h;unfold Dj;rw [if_pos h.2];exact ⟨rfl,by simp only;omega⟩
theorem SF (x y:Nat):(!(decide (0≤(y:Int)) && decide ((y:Int) < (x:Int))))=decide (x≤y):=by
 by_cases h:x≤y
 ·rw [decide_eq_true h,decide_eq_false (show ¬ (y:Int) < (x:Int) by omega),Bool.and_false];rfl
 ·rw [decide_eq_false h,decide_eq_true (show (y:Int) < (x:Int) by omega),decide_eq_true (show (0:Int)≤(y:Int) by omega)];rfl
def CJ (ere:Bool):List UInt8:=if ere then [125] else [92,125]
theorem UR (ere:Bool) (s:List UInt8) (k:Nat):AQ s k (CJ ere)=A2 ere s k 125:=by
 cases ere with
 | true=>exact D6 s k 125 (by decide)
 | false=>exact BN s k 125 (by decide)
theorem SG (ere:Bool):(CJ ere).length=AY ere:=by cases ere <;> rfl
def Lj (cl L:List UInt8):Int × Int × Nat × Bool:=
 if CI L 0 then
  (if chAt L (A7 L 3 0 0).1 44 then
   (if AQ L ((A7 L 3 0 0).1+1) cl then (((A7 L 3 0 0).2:Int),-1,(A7 L 3 0 0).1+1,true)
    else (((A7 L 3 0 0).2:Int),((A7 L 3 ((A7 L 3 0 0).1+1) 0).2:Int),(A7 L 3 0 0).1+1+(A7 L 3 ((A7 L 3 0 0).1+1) 0).1,CI L ((A7 L 3 0 0).1+1) && decide ((A7 L 3 0 0).2≤(A7 L 3 ((A7 L 3 0 0).1+1) 0).2)))
   else (((A7 L 3 0 0).2:Int),((A7 L 3 0 0).2:Int),(A7 L 3 0 0).1,true))
 else (((A7 L 3 0 0).2:Int),((A7 L 3 0 0).2:Int),(A7 L 3 0 0).1,false)
def Lk (cl L:List UInt8):Option (Int × Int × Nat):=
 if (Lj cl L).2.2.2 && AQ L (Lj cl L).2.2.1 cl then some ((Lj cl L).1,(Lj cl L).2.1,(Lj cl L).2.2.1+cl.length) else none
theorem US (ere:Bool) (L:List UInt8):G6 ere L 0=Lk (CJ ere) L:=by
 unfold Lk Lj G6;simp only [SG,UR,Nat.zero_add];cases h1:CI L 0 with
 | false=>simp [UQ L 0 h1]
 | true=>
  obtain ⟨e1,e2⟩:=R7 L 0 h1;rw [if_neg e2,e1];simp only [if_true];cases h2:chAt L (A7 L 3 0 0).1 44 with
  | false=>simp
  | true=>
   simp only [if_true];cases h3:A2 ere L ((A7 L 3 0 0).1+1) 125 with
   | true=>
    have hd:F8 L ((A7 L 3 0 0).1+1)=false:=by
     unfold F8;cases ere with
     | true=>
      simp only [A2,if_true,chAt,Bool.and_eq_true,decide_eq_true_eq] at h3;rw [h3.2];simp
     | false=>
      simp only [A2,Bool.false_eq_true,if_false,BM,Bool.and_eq_true,decide_eq_true_eq] at h3;rw [h3.1.2];simp
    have hn:Dj L ((A7 L 3 0 0).1+1)=(0,0):=by unfold Dj;rw [Mj _ _ _ _ (.inr hd)];rfl
    rw [hn];simp [h3]
   | false=>
    cases h4:CI L ((A7 L 3 0 0).1+1) with
    | false=>
     rw [if_pos (UQ _ _ h4)];simp [h3]
    | true=>
     obtain ⟨f1,f2⟩:=R7 _ _ h4;rw [if_neg f2,f1];simp only [Bool.true_and,Bool.false_eq_true,if_false];rw [SF,Bool.and_comm]
theorem SH (ere:Bool) (s:List UInt8) (k:Nat):G6 ere s k=(G6 ere (s.drop k) 0).map fun q=>(q.1,q.2.1,k+q.2.2):=by
 unfold G6;simp only [UP,R6,Ys,Nat.add_zero,Nat.zero_add];split
 ·rfl
 ·simp only [Nat.add_assoc];cases h2:chAt s (k+(Dj s k).2) 44 with
  | false=>
   simp only [Bool.false_eq_true,if_false];split
   ·simp [Nat.add_assoc]
   ·rfl
  | true=>
   simp only [if_true];split
   ·split
    ·simp [Nat.add_assoc]
    ·rfl
   ·split
    ·simp [Nat.add_assoc]
    ·rfl
theorem GW (ere:Bool) (s:List UInt8) (k:Nat):G6 ere s k=(Lk (CJ ere) (s.drop k)).map fun q=>(q.1,q.2.1,k+q.2.2):=by rw [SH,US]
end
section
theorem Ek {ere:Bool} {s:List UInt8} {k b:Nat} (h:A2 ere s k b=true):k+AY ere≤s.length:=by
 cases ere with
 | true=>have:=(BI h).1;simp [AY];omega
 | false=>have:=(Fd h).1;simp [AY];omega
theorem G8 (ere:Bool):0 < AY ere:=by cases ere <;> decide
theorem Yt (ere:Bool) (s:List UInt8) (k:Nat) (m n:Int) (j:Nat) (h:G6 ere s k=some (m,n,j)):k < j∧j≤s.length:=by
 rw [GW] at h;obtain ⟨q,hq,he⟩:=Option.map_eq_some_iff.1 h;have h0:CJ ere≠[]:=by cases ere <;> simp [CJ]
 have h1:q.2.2≤(s.drop k).length:=by
  unfold Lk at hq;split at hq
  ·rename_i hc;injection hq with hq;subst hq;rw [Bool.and_eq_true] at hc;exact FA _ _ _ hc.2 h0
  ·cases hq
 have h2:0 < q.2.2:=by
  unfold Lk at hq;split at hq
  ·injection hq with hq;subst hq;have:0 < (CJ ere).length:=List.length_pos_iff.2 h0;simp only;omega
  ·cases hq
 rw [List.length_drop] at h1;injection he with he1 he2;injection he2 with he2 he3;omega
theorem FC (ere:Bool) (s:List UInt8) (k:Nat) (a b:Int) (c j:Nat) (h:repAt ere s k=.some a b c j):k < j∧j≤s.length:=by
 have hp:=G8 ere;unfold repAt at h;split at h
 ·rename_i h1;injection h with _ _ _ h;have:=(BI h1).1;omega
 split at h
 ·rename_i _ h1;injection h with _ _ _ h;have:=Ek h1;omega
 split at h
 ·rename_i _ _ h1;injection h with _ _ _ h;have:=Ek h1;omega
 split at h
 ·rename_i _ _ _ h1;split at h
  ·cases h
  ·rename_i m n j' hi;injection h with _ _ _ h;have h3:=Yt _ _ _ _ _ _ hi;omega
 ·cases h
theorem Gd (ere:Bool) (s:List UInt8):∀ (n:Nat) (st:ReSt) (d:Nd) (st':ReSt) (d':Nd),st.pos≤s.length→DI ere s n st d=.ok (st',d')→st.pos≤st'.pos∧st'.pos≤s.length:=by
 intro n;induction n with
 | zero=>intro st d st' d' _ h;cases h
 | succ n ih=>
  intro st d st' d' hl h;rw [DI] at h;cases hra:repAt ere s st.pos with
  | none=>
   rw [hra] at h;injection h with h;injection h with h1 h2;subst h1;exact ⟨Aec _,hl⟩
  | bad=>rw [hra] at h;cases h
  | some mn mx c j=>
   rw [hra] at h;have hj:=FC _ _ _ _ _ _ _ hra;have h2:=ih _ _ _ _ (show j≤s.length from hj.2) h;have h3:j≤st'.pos:=h2.1;exact ⟨by omega,h2.2⟩
theorem R8 (ere:Bool) (st st':ReSt) (c:Nat) (d:Nd) (h:Ds ere st c=.ok (st',d)):st'.pos=st.pos+2:=by
 unfold Ds at h;split at h
 ·split at h
  ·injection h with h;injection h with h1 _;subst h1;rfl
  ·cases h
 ·split at h
  ·cases h
  ·injection h with h;injection h with h1 _;subst h1;rfl
def D7 (s:List UInt8) (sub:Option (ReSt→ReRes (ReSt × Nd))):Prop:=∀ f,sub=some f→∀ st st' d,st.pos≤s.length→f st=.ok (st',d)→st.pos≤st'.pos∧st'.pos≤s.length
theorem DJ (ere:Bool) (s:List UInt8) (sub:Option (ReSt→ReRes (ReSt × Nd))) (hsub:D7 s sub) (st st':ReSt) (d:Nd) (hl:st.pos < s.length) (h:Bc ere s sub st=.ok (st',d)):st.pos < st'.pos∧st'.pos≤s.length:=by
 have hp:=G8 ere;unfold Bc at h;split at h
 ·rename_i ho;unfold F9 at h;split at h
  ·cases h
  ·rename_i f;split at h
   ·cases h
   ·rename_i st1 d1 hf;split at h
    ·rename_i h41;injection h with h;injection h with h1 h2;subst h1;have h3:=hsub f rfl _ _ _ (show st.pos+AY ere≤s.length from Ek ho) hf;have h4:st.pos+AY ere≤st1.pos:=h3.1;have h5:=Ek h41;exact ⟨show st.pos < st1.pos+AY ere by omega,h5⟩
    ·cases h
 ·split at h
  ·cases h
  ·split at h
   ·obtain ⟨t,j,e,hpr,hj⟩:=JB s (st.pos+1) hl;rw [show ((st.pos:Int)+1)=((st.pos+1:Nat):Int) by omega,hpr] at h;simp only at h;split at h
    ·rename_i h0;have:=hj h0;injection h with h;injection h with h1 h2;subst h1;show st.pos < ((j:Int)).toNat∧((j:Int)).toNat≤s.length;omega
    ·cases h
   ·split at h
    ·injection h with h;injection h with h1 h2;subst h1;exact ⟨show st.pos < st.pos+1 by omega,hl⟩
    ·split at h
     ·split at h
      ·rename_i h9;have:=R8 _ _ _ _ _ h;omega
      ·cases h
     ·injection h with h;injection h with h1 h2;subst h1;exact ⟨show st.pos < st.pos+1 by omega,hl⟩
theorem Ge (ere:Bool) (s:List UInt8) (sub:Option (ReSt→ReRes (ReSt × Nd))) (hsub:D7 s sub) (top:Bool) (begin:Nat):∀ (n:Nat) (st:ReSt) (parts:List Nd) (front:Bool) (st':ReSt) (d:Nd),st.pos≤s.length→
  branchM ere s sub top begin n st parts front=.ok (st',d)→st.pos≤st'.pos∧st'.pos≤s.length:=by
 intro n;induction n with
 | zero=>intro _ _ _ _ _ _ h;cases h
 | succ n ih=>
  intro st parts front st' d hl h;rw [branchM] at h;split at h
  ·injection h with h;injection h with h1 _;subst h1;exact ⟨Aec _,hl⟩
  ·rename_i he;have hlt:st.pos < s.length:=by
    simp only [Bool.or_eq_true,decide_eq_true_eq,not_or] at he;omega
   split at h
   ·have h2:=ih _ _ _ _ _ (show st.pos+1≤s.length from hlt) h;have h3:st.pos+1≤st'.pos:=h2.1;exact ⟨by omega,h2.2⟩
   split at h
   ·have h2:=ih _ _ _ _ _ (show st.pos+1≤s.length from hlt) h;have h3:st.pos+1≤st'.pos:=h2.1;exact ⟨by omega,h2.2⟩
   split at h
   ·cases h
   split at h
   ·cases h
   ·rename_i st1 d1 ha;have h1:=DJ _ _ _ hsub _ _ _ hlt ha;split at h
    ·cases h
    ·rename_i st2 d2 hr;have h2:=Gd _ _ _ _ _ _ _ h1.2 hr;have h3:=ih _ _ _ _ _ h2.2 h;omega
theorem Gf (ere:Bool) (s:List UInt8) (sub:Option (ReSt→ReRes (ReSt × Nd))) (hsub:D7 s sub) (top:Bool):∀ (n:Nat) (st:ReSt) (l:List Nd) (st':ReSt) (d:Nd),st.pos≤s.length→
  As ere s sub top n st l=.ok (st',d)→st.pos≤st'.pos∧st'.pos≤s.length:=by
 intro n;induction n with
 | zero=>intro _ _ _ _ _ h;cases h
 | succ n ih=>
  intro st l st' d hl h;rw [As] at h;split at h
  ·cases h
  ·rename_i st1 d1 hb;have h1:=Ge _ _ _ hsub _ _ _ _ _ _ _ _ hl hb;split at h
   ·rename_i ho;have h2:=ih _ _ _ _ (show st1.pos+AY ere≤s.length from Ek ho) h;have h3:st1.pos+AY ere≤st'.pos:=h2.1;exact ⟨by omega,h2.2⟩
   ·injection h with h;injection h with h2 _;subst h2;exact h1
theorem UT (ere:Bool) (s:List UInt8):∀ (k:Nat) (st st':ReSt) (d:Nd),st.pos≤s.length→C0 ere s k st=.ok (st',d)→st.pos≤st'.pos∧st'.pos≤s.length:=by
 intro k;induction k with
 | zero=>intro st st' d hl h;exact Gf ere s none (fun f hf=>by cases hf) false _ _ _ _ _ hl h
 | succ k ih=>intro st st' d hl h;exact Gf ere s (some (C0 ere s k)) (fun f hf=>by cases hf;exact ih) false _ _ _ _ _ hl h
end
section
def CK (d:Nd) (st st':ReSt):Prop:=Bt d (st.opened:Int) st.closed=some ((st'.opened:Int),st'.closed)
def DB (l:List Nd) (st st':ReSt):Prop:=BW l (st.opened:Int) st.closed=some ((st'.opened:Int),st'.closed)
theorem El {l:List Nd} {d:Nd} {st st1 st2:ReSt} (h:DB l st st1) (k:CK d st1 st2):DB (l++[d]) st st2:=by
 unfold DB at h ⊢;rw [J0,h];simp only [Option.bind_some];rw [F3];exact k
theorem Yu (ere:Bool) (s:List UInt8) (k:Nat) (m n:Int) (j:Nat) (h:G6 ere s k=some (m,n,j)):Jw m n=true:=by
 have h255:∀ k,(Dj s k).1≤255:=by
  intro k;unfold Dj;split
  ·rename_i h;exact h
  ·exact Nat.zero_le _
 have hx:=h255 k;have hall:∀ q:Int × Nat,(q.1=-1∨(0≤q.1∧q.1≤255))→(if A2 ere s q.2 125 && !(decide (0≤q.1) && decide (q.1 < ((Dj s k).1:Int))) then some (((Dj s k).1:Int),q.1,q.2+AY ere) else none)=some (m,n,j)→Jw m n=true:=by
  intro q hq h;split at h
  ·rename_i hc;injection h with h;injection h with h1 h2;injection h2 with h2 _;subst h1 h2;simp only [Bool.and_eq_true,Bool.not_eq_true',Bool.and_eq_false_iff,decide_eq_false_iff_not] at hc;have hq2:=hc.2;unfold Jw;simp only [Bool.and_eq_true,Bool.or_eq_true,decide_eq_true_eq];rcases hq with hq | hq
   ·exact ⟨⟨by omega,by omega⟩,.inl hq⟩
   ·exact ⟨⟨by omega,by omega⟩,.inr ⟨by omega,by omega⟩⟩
  ·cases h
 unfold G6 at h;simp only at h;split at h
 ·cases h
 ·refine hall _ ?_ h;split
  ·split
   ·exact .inl rfl
   ·exact .inr ⟨by simp only;omega,by have:=h255 (k+(Dj s k).2+1);simp only;omega⟩
  ·exact .inr ⟨by simp only;omega,by simp only;omega⟩
theorem Aa3 (ere:Bool) (s:List UInt8) (k:Nat) (m n:Int) (c j:Nat) (h:repAt ere s k=.some m n c j):Jw m n=true:=by
 unfold repAt at h;split at h
 ·injection h with h1 h2;rw [←h1,←h2];rfl
 ·split at h
  ·injection h with h1 h2;rw [←h1,←h2];rfl
  ·split at h
   ·injection h with h1 h2;rw [←h1,←h2];rfl
   ·split at h
    ·split at h
     ·cases h
     ·rename_i m' n' j' hi;injection h with h1 h2;rw [←h1,←h2];exact Yu _ _ _ _ _ _ hi
    ·cases h
theorem JC (ere:Bool) (s:List UInt8):∀ (n:Nat) (st:ReSt) (d:Nd) (st':ReSt) (d':Nd) (st0:ReSt),CK d st0 st→GN d=true→inCat d=true→DI ere s n st d=.ok (st',d')→CK d' st0 st'∧inCat d'=true:=by
 intro n;induction n with
 | zero=>intro st d st' d' st0 _ _ _ h;cases h
 | succ n ih=>
  intro st d st' d' st0 ht hr hc h;rw [DI] at h;cases hra:repAt ere s st.pos with
  | none=>
   rw [hra] at h;injection h with h;injection h with h1 h2;subst h1 h2;exact ⟨ht,hc⟩
  | bad=>rw [hra] at h;cases h
  | some mn mx c j=>
   rw [hra] at h;refine ih _ _ _ _ st0 ?_ rfl rfl h;have hs:CK (.rep d mn mx) st0 st:=by
    unfold CK;rw [Bt,Aa3 _ _ _ _ _ _ _ hra,hr];exact ht
   by_cases hc0:c=0
   ·rw [if_pos hc0];exact hs
   ·rw [if_neg hc0];exact hs
theorem SI (ere:Bool) (st st':ReSt) (c:Nat) (d:Nd) (h:Ds ere st c=.ok (st',d)):CK d st st'∧GN d=true∧inCat d=true:=by
 unfold Ds at h;split at h
 ·split at h
  ·rename_i hcl;injection h with h;injection h with h1 h2;subst h1 h2;refine ⟨?_,rfl,rfl⟩;unfold CK;rw [Bt,if_pos hcl];cases ere <;> rfl
  ·cases h
 ·split at h
  ·cases h
  ·rename_i t m _;injection h with h;injection h with h1 h2;subst h1 h2;refine ⟨?_,rfl,rfl⟩;cases m <;> rfl
def GX (sub:Option (ReSt→ReRes (ReSt × Nd))):Prop:=∀ f,sub=some f→∀ st st' d,f st=.ok (st',d)→CK d st st'
theorem Fe (ere:Bool) (s:List UInt8) (sub:Option (ReSt→ReRes (ReSt × Nd))) (hsub:GX sub) (st st':ReSt) (d:Nd) (h:Bc ere s sub st=.ok (st',d)):CK d st st'∧GN d=true∧inCat d=true:=by
 unfold Bc at h;split at h
 ·unfold F9 at h;split at h
  ·cases h
  ·rename_i f;split at h
   ·cases h
   ·rename_i st1 d1 hf;split at h
    ·injection h with h;injection h with h1 h2;subst h1 h2;refine ⟨?_,rfl,rfl⟩;have ht:=hsub f rfl _ _ _ hf;unfold CK at ht ⊢;rw [Bt,if_pos rfl];simp only [Int.natCast_add,Int.natCast_one] at ht;rw [ht];rfl
    ·cases h
 ·split at h
  ·cases h
  ·split at h
   ·split at h
    ·injection h with h;injection h with h1 h2;subst h1 h2;exact ⟨rfl,rfl,rfl⟩
    ·cases h
   ·split at h
    ·injection h with h;injection h with h1 h2;subst h1 h2;exact ⟨rfl,rfl,rfl⟩
    ·split at h
     ·split at h
      ·exact SI _ _ _ _ _ h
      ·cases h
     ·injection h with h;injection h with h1 h2;subst h1 h2;exact ⟨rfl,rfl,rfl⟩
theorem EO (l:List Nd) (h:l.all inCat=true):AI l=l:=by
 induction l with
 | nil=>rfl
 | cons d ds ih=>
  rw [List.all_cons,Bool.and_eq_true] at h;have hd:Bm d=[d]:=by cases d <;> first | rfl | (have h1:=h.1;cases h1)
  show Bm d++AI ds=_;rw [hd,ih h.2];rfl
theorem Ip (l:List Nd) (h:l.all inAlt=true):AJ l=l:=by
 induction l with
 | nil=>rfl
 | cons d ds ih=>
  rw [List.all_cons,Bool.and_eq_true] at h;have hd:AP d=[d]:=by cases d <;> first | rfl | (have h1:=h.1;cases h1)
  show AP d++AJ ds=_;rw [hd,ih h.2];rfl
theorem R9 {d:Nd} (h:inCat d=true):inAlt d=true:=by cases d <;> first | rfl | exact h
theorem Pu {l:List Nd} {st st':ReSt} (h:DB l st st') (ha:l.all inCat=true):CK (Bu l) st st'∧inAlt (Bu l)=true:=by
 have hj:=EO l ha;unfold Bu;rw [hj];rcases l with _ | ⟨x,_ | ⟨y,ys⟩⟩
 ·exact ⟨h,rfl⟩
 ·refine ⟨?_,?_⟩
  ·unfold DB at h;rw [F3] at h;exact h
  ·rw [List.all_cons,Bool.and_eq_true] at ha;exact R9 ha.1
 ·refine ⟨?_,rfl⟩;unfold CK;show Bt (.cat (x :: y :: ys)) _ _=_;rw [Bt,ha,decide_eq_true (show 2≤(x :: y :: ys).length by simp)];exact h
theorem Ml {l:List Nd} {st st':ReSt} (h:DB l st st') (ha:l.all inAlt=true):CK (Cl l) st st':=by
 have hj:=Ip l ha;unfold Cl;rw [hj];rcases l with _ | ⟨x,_ | ⟨y,ys⟩⟩
 ·exact h
 ·unfold DB at h;rw [F3] at h;exact h
 ·unfold CK;show Bt (.alt (x :: y :: ys)) _ _=_;rw [Bt,ha,decide_eq_true (show 2≤(x :: y :: ys).length by simp)];exact h
theorem BO {p:Nd→Bool} {l:List Nd} {d:Nd} (h:l.all p=true) (k:p d=true):(l++[d]).all p=true:=by rw [List.all_append,h];simp [k]
theorem GY (ere:Bool) (s:List UInt8) (sub:Option (ReSt→ReRes (ReSt × Nd))) (hsub:GX sub) (top:Bool) (begin:Nat):∀ (n:Nat) (st:ReSt) (parts:List Nd) (front:Bool) (st':ReSt) (d:Nd) (st0:ReSt),DB parts st0 st→parts.all inCat=true→
  branchM ere s sub top begin n st parts front=.ok (st',d)→CK d st0 st'∧inAlt d=true:=by
 intro n;induction n with
 | zero=>intro st parts front st' d st0 _ _ h;cases h
 | succ n ih=>
  intro st parts front st' d st0 ht ha h;rw [branchM] at h;split at h
  ·injection h with h;injection h with h1 h2;subst h1 h2;exact Pu ht ha
  ·split at h
   ·exact ih _ _ _ _ _ st0 (El ht (show CK .start st (st.to (st.pos+1)) from rfl)) (BO ha rfl) h
   ·split at h
    ·exact ih _ _ _ _ _ st0 (El ht (show CK .fin st (st.to (st.pos+1)) from rfl)) (BO ha rfl) h
    ·split at h
     ·cases h
     ·split at h
      ·cases h
      ·rename_i st1 d1 hat;obtain ⟨k1,k2,k3⟩:=Fe ere s sub hsub _ _ _ hat;split at h
       ·cases h
       ·rename_i st2 d2 hrp;obtain ⟨k4,k5⟩:=JC ere s _ _ _ _ _ st k1 k2 k3 hrp;exact ih _ _ _ _ _ st0 (El ht k4) (BO ha k5) h
theorem GZ (ere:Bool) (s:List UInt8) (sub:Option (ReSt→ReRes (ReSt × Nd))) (hsub:GX sub) (top:Bool):∀ (n:Nat) (st:ReSt) (l:List Nd) (st':ReSt) (d:Nd) (st0:ReSt),DB l st0 st→l.all inAlt=true→
  As ere s sub top n st l=.ok (st',d)→CK d st0 st':=by
 intro n;induction n with
 | zero=>intro st l st' d st0 _ _ h;cases h
 | succ n ih=>
  intro st l st' d st0 ht ha h;rw [As] at h;split at h
  ·cases h
  ·rename_i st1 d1 hb;obtain ⟨k1,k2⟩:=GY ere s sub hsub top _ _ _ _ _ _ _ st (show DB [] st st from rfl) rfl hb;split at h
   ·refine ih _ _ _ _ st0 ?_ (BO ha k2) h;have:=El ht k1;cases ere <;> exact this
   ·injection h with h;injection h with h1 h2;subst h1 h2;exact Ml (El ht k1) (BO ha k2)
theorem Iq (ere:Bool) (s:List UInt8):∀ (k:Nat) (st st':ReSt) (d:Nd),C0 ere s k st=.ok (st',d)→CK d st st':=by
 intro k;induction k with
 | zero=>
  intro st st' d h;exact GZ ere s none (fun f hf=>by cases hf) false _ _ _ _ _ st (show DB [] st st from rfl) rfl h
 | succ k ih=>
  intro st st' d h;exact GZ ere s (some (C0 ere s k)) (fun f hf=>by injection hf with hf;subst hf;exact ih) false _ _ _ _ _ st (show DB [] st st from rfl) rfl h
end
section
end
section
end
section
def Itm.up (a:Itm) (d:Nat):Itm:=⟨a.set,a.may,if a.err=0 then a.next+d else 0,a.err,if a.err=0 then 0 else a.place+d⟩
theorem JD (s:List UInt8) (sub:Option (ReSt→ReRes (ReSt × Nd))) (begin n:Nat) (st:ReSt) (parts:List Nd) (front:Bool) (h:AC s st.pos=true):branchM false s sub false begin (n+1) st parts front=.ok (st,Bu parts):=by
 rw [branchM];unfold AC at h;simp only [A2,Bool.false_eq_true,if_false,Bool.not_false,Bool.and_true];rw [h,if_pos rfl]
end
section
open Go.RowKit
theorem BL (s:ByteArray) (k:Nat) (h:k < s.size):byt s.data.toList k=s[k].toNat:=by
 unfold byt;rw [List.getD_eq_getElem?_getD,List.getElem?_eq_getElem (by simpa using h)];rfl
theorem At (s:ByteArray):s.data.toList.length=s.size:=by simp
theorem Aa4 (b:UInt8):(0:Int)≤(b.toNat:Int):=Int.natCast_nonneg _
theorem Aa5 (b:UInt8):(b.toNat:Int)≤255:=by have:=b.toNat_lt;omega
def XW (s:List UInt8) (k:Nat):Bool:=decide (k+1 < s.length) && decide (byt s k=45) && !decide (byt s (k+1)=93)
theorem Ny (s:ByteArray) (k:Nat) (w:World) (hs:s.size≤35184372088832) (hk:k≤s.size) :
  Calls Tryz.prog 172 #[.string s,.int .i64 (k:Int)] w fun e w'=>e=.returned (.bool (XW s.data.toList k))∧Below w.heap.size w w':=by
 have Wn:IntKind.i64.wrap ((k:Int)+1)=(k:Int)+1:=Aej _ (by omega);by_cases q1:k+1 < s.size
 ·have Hd:=Ad5 (show XW s.data.toList k=(decide (s[k].toNat=45) && !decide (s[k+1].toNat=93)) by
   unfold XW;rw [At,BL s k (by omega),BL s (k+1) q1,decide_eq_true q1,Bool.true_and])
  have r1:decide ((k:Int)+1 < (s.size:Int))=true:=by simp;omega
  by_cases q2:s[k].toNat=45
  ·have r2:((s[k].toNat:Int) == 45)=true:=by simp;omega
   have Q2:=Ad5 q2;clear q2;by_cases q3:s[k+1].toNat=93
   ·have r3:((s[k+1].toNat:Int) != 93)=false:=by simp;omega
    have Q3:=Ad5 q3;clear q3;go_enter Tryz.func172,Tryz.ntmps172;go_wp2_with fail
    go_ret;exact ⟨F7 (by rw [Hd.out,Q2.out,Q3.out];rfl),Aeh _ _⟩
   ·have r3:((s[k+1].toNat:Int) != 93)=true:=by simp;omega
    have Q3:=Ad5 q3;clear q3;go_enter Tryz.func172,Tryz.ntmps172;go_wp2_with fail
    go_ret;exact ⟨F7 (by rw [Hd.out,Q2.out,decide_eq_false Q3.out];rfl),Aeh _ _⟩
  ·have r2:((s[k].toNat:Int) == 45)=false:=by simp;omega
   have Q2:=Ad5 q2;clear q2;go_enter Tryz.func172,Tryz.ntmps172;go_wp2_with fail
   go_ret;exact ⟨F7 (by rw [Hd.out,decide_eq_false Q2.out];rfl),Aeh _ _⟩
 ·have r1:decide ((k:Int)+1 < (s.size:Int))=false:=by simp;omega
  have Hd:=Ad5 (show XW s.data.toList k=false by
   unfold XW;rw [At,decide_eq_false q1];rfl)
  go_enter Tryz.func172,Tryz.ntmps172;go_wp2_with fail
  go_ret;exact ⟨F7 (by rw [Hd.out]),Aeh _ _⟩
theorem G9 {w:World} {a:Nat} {s:OSet} {m:Bool} {T:TypeId} (h:Blk w a #[.int .u64 (ow s 0),.int .u64 (ow s 1),.int .u64 (ow s 2),.int .u64 (ow s 3),.bool m] T) :
  w.cell? ⟨a,0,none⟩=some (.int .u64 (ow s 0))∧w.cell? ⟨a,1,none⟩=some (.int .u64 (ow s 1))∧w.cell? ⟨a,2,none⟩=some (.int .u64 (ow s 2))∧w.cell? ⟨a,3,none⟩=some (.int .u64 (ow s 3))∧w.cell? ⟨a,4,none⟩=some (.bool m):=
 ⟨(h.cell 0).trans rfl,(h.cell 1).trans rfl,(h.cell 2).trans rfl,(h.cell 3).trans rfl,(h.cell 4).trans rfl⟩
theorem UU:(.agg #[.int .u64 (ow oz 0),.int .u64 (ow oz 1),.int .u64 (ow oz 2),.int .u64 (ow oz 3)]:Value)=.agg #[.int .u64 0,.int .u64 0,.int .u64 0,.int .u64 0]:=by rw [Al,Al,Al,Al]
theorem Ll (b:Nat) (hb:b < 256) (w:World) (hT:TabIn w) (hg:5 < w.heap.size) :
  Calls Tryz.prog 184 #[.agg #[.int .u64 (ow (Ab b b) 0),.int .u64 (ow (Ab b b) 1),.int .u64 (ow (Ab b b) 2),.int .u64 (ow (Ab b b) 3)]] w fun e w'=>e=.returned (.tuple #[.int .u8 (b:Int),.bool true])∧Below w.heap.size w w':=
 Po (Ab b b) b hb (by rw [Jc b b hb];simp) (fun c hc=>by rw [Jc b c hb];simp;omega) w hT hg
def RC (A B:OSet) (ma mb:Bool):OSet:=if ma && mb then Ab (UI A) (UI B) else oz
theorem SJ (A B:OSet) (ma mb:Bool) (hA:ma=true→∃ b:Nat,b < 256∧A=Ab b b) (hB:mb=true→∃ b:Nat,b < 256∧B=Ab b b) (w:World) (hT:TabIn w) (hg:5 < w.heap.size) :
  Calls Tryz.prog 173 #[.agg #[.int .u64 (ow A 0),.int .u64 (ow A 1),.int .u64 (ow A 2),.int .u64 (ow A 3),.bool ma],.agg #[.int .u64 (ow B 0),.int .u64 (ow B 1),.int .u64 (ow B 2),.int .u64 (ow B 3),.bool mb]] w fun e w'=>e=.returned (.agg #[.int .u64 (ow (RC A B ma mb) 0),.int .u64 (ow (RC A B ma mb) 1),.int .u64 (ow (RC A B ma mb) 2),.int .u64 (ow (RC A B ma mb) 3)])∧Below w.heap.size w w':=by
 have hW:=(((Aeh w.heap.size w).alloc (Aec _) (.cells #[.int .u64 (ow A 0),.int .u64 (ow A 1),.int .u64 (ow A 2),.int .u64 (ow A 3),.bool ma] 261)).alloc (by simp) (.cells #[.int .u64 (ow B 0),.int .u64 (ow B 1),.int .u64 (ow B 2),.int .u64 (ow B 3),.bool mb] 261)).alloc (by simp;omega) (.cells #[.int .u64 0,.int .u64 0,.int .u64 0,.int .u64 0] 109);cases ma
 ·go_enter Tryz.func173,Tryz.ntmps173;go_wp2_with fail
  refine bodyPost_ret (v:=.agg #[.int .u64 0,.int .u64 0,.int .u64 0,.int .u64 0]) (by simp [results,Tryz.results173,go_sem]) rfl ⟨by rw [show RC A B false mb=oz from rfl,UU],hW⟩
 ·cases mb
  ·go_enter Tryz.func173,Tryz.ntmps173;go_wp2_with fail
   refine bodyPost_ret (v:=.agg #[.int .u64 0,.int .u64 0,.int .u64 0,.int .u64 0]) (by simp [results,Tryz.results173,go_sem]) rfl ⟨by rw [show RC A B true false=oz from rfl,UU],hW⟩
  ·obtain ⟨a,ha,rfl⟩:=hA rfl;obtain ⟨b,hb,rfl⟩:=hB rfl;have hs:RC (Ab a a) (Ab b b) true true=Ab a b:=by
    unfold RC;rw [(Mg a ha).2,(Mg b hb).2];rfl
   rw [hs];have hb2:=(((Blk.new w #[.int .u64 (ow (Ab a a) 0),.int .u64 (ow (Ab a a) 1),.int .u64 (ow (Ab a a) 2),.int .u64 (ow (Ab a a) 3),.bool true] 261 _ rfl).alloc (.cells #[.int .u64 (ow (Ab b b) 0),.int .u64 (ow (Ab b b) 1),.int .u64 (ow (Ab b b) 2),.int .u64 (ow (Ab b b) 3),.bool true] 261)).alloc (.cells #[.int .u64 0,.int .u64 0,.int .u64 0,.int .u64 0] 109))
   have hb3:=((Blk.new (w.alloc (.cells #[.int .u64 (ow (Ab a a) 0),.int .u64 (ow (Ab a a) 1),.int .u64 (ow (Ab a a) 2),.int .u64 (ow (Ab a a) 3),.bool true] 261)) #[.int .u64 (ow (Ab b b) 0),.int .u64 (ow (Ab b b) 1),.int .u64 (ow (Ab b b) 2),.int .u64 (ow (Ab b b) 3),.bool true] 261 _ rfl).alloc (.cells #[.int .u64 0,.int .u64 0,.int .u64 0,.int .u64 0] 109))
   have hb4:=Blk.new ((w.alloc (.cells #[.int .u64 (ow (Ab a a) 0),.int .u64 (ow (Ab a a) 1),.int .u64 (ow (Ab a a) 2),.int .u64 (ow (Ab a a) 3),.bool true] 261)).alloc (.cells #[.int .u64 (ow (Ab b b) 0),.int .u64 (ow (Ab b b) 1),.int .u64 (ow (Ab b b) 2),.int .u64 (ow (Ab b b) 3),.bool true] 261)) #[.int .u64 0,.int .u64 0,.int .u64 0,.int .u64 0] 109 _ rfl;simp only [World.size_alloc] at hb3 hb4;have hT2:=E3 hT hW hg;go_enter Tryz.func173,Tryz.ntmps173;go_wp2_with fail
   refine (Ll a ha _ hT2 (Aef hg hW.size)).mono ?_;rintro e w1 ⟨rfl,b1⟩;replace hW:=hW.trans (b1.mono hW.size);replace hb3:=hb3.below b1 hb3.lt;replace hb4:=hb4.below b1 hb4.lt;clear hT2 hb2 b1;have hT3:=E3 hT hW hg;obtain ⟨c0,c1,c2,c3,c4⟩:=G9 hb3;go_wp2_with fail
   refine (Ll b hb _ hT3 (Aef hg hW.size)).mono ?_;rintro e w2 ⟨rfl,b2⟩;replace hW:=hW.trans (b2.mono hW.size);replace hb4:=hb4.below b2 hb4.lt;clear c0 c1 c2 c3 c4 hb3 b2 hT3;go_wp2_with fail
   refine (EM a b _ (by omega) (by omega) (by omega) (by omega)).mono ?_;rintro e w3 ⟨rfl,b3⟩;replace hW:=hW.trans (b3.mono hW.size);replace hb4:=hb4.below b3 hb4.lt;clear b3;obtain ⟨d0,d1,d2,d3⟩:=Ah hb4;have f0:=hb4.frozen 0;have f1:=hb4.frozen 1;have f2:=hb4.frozen 2;have f3:=hb4.frozen 3;have hlB:=hb4.lt;go_wp2_with fail
   refine bodyPost_ret (v:=.agg #[.int .u64 (ow (Ab a b) 0),.int .u64 (ow (Ab a b) 1),.int .u64 (ow (Ab a b) 2),.int .u64 (ow (Ab a b) 3)]) (by simp [results,Tryz.results173,go_sem,d0,d1,d2,d3,hlB]) rfl ⟨rfl,?_⟩
   repeat (first | exact hW | refine Below.setCell ?_ (by first | omega | (simp;omega) | simp) _)
end
section
open Go.RowKit Go.Shelf
theorem Aa6 (W:World) (x y:Int):(convert 165 9 (.slice (some ⟨W.heap.size,0,none⟩) 2 2)).run Tryz.prog (W.alloc (.cells #[.int .u8 x,.int .u8 y] 5))=.ok (.string (strOfNums [x,y])) (W.alloc (.cells #[.int .u8 x,.int .u8 y] 5)):=
 run_convert_bytes_arg _ 165 5 Tryz.underlying165 Tryz.underlying5 _ 0 2 2 [x,y] rfl (fun i hi=>by
  rw [(Blk.new W _ _ _ rfl).cell]
  match i,hi with
  | 0,_=>rfl
  | 1,_=>rfl) _ Tryz.underlying9
theorem Gg (W:World) (x y:Int):(convert 165 9 (.slice (some ⟨W.heap.size,0,none⟩) 2 2)).run Tryz.prog (W.alloc (.cells #[.int .u8 x,.int .u8 y] 5)).drew=.ok (.string (strOfNums [x,y])) (W.alloc (.cells #[.int .u8 x,.int .u8 y] 5)).drew:=Aa6 W.drew x y
theorem Nz (x y:Nat):(strOfNums [(x:Int),(y:Int)]).data.toList=[UInt8.ofNat x,UInt8.ofNat y]:=rfl
theorem BP (s:ByteArray) (k:Nat):(s.extract k s.size).data.toList=s.data.toList.drop k:=by
 rw [ByteArray.data_extract,Array.toList_extract,List.extract_eq_take_drop];rw [List.take_of_length_le];simp
def Adv:Go.Shelf.Ren:=⟨fun | 143=>188 | 217=>54 | 219=>37 | 224=>56 | 225=>55 | 266=>78 | 267=>57 | 314=>79 | n=>n,fun | 3=>3 | 4=>4 | 5=>5 | 9=>9 | 46=>125 | 51=>150 | 146=>151 | n=>n,fun | 1=>0 | n=>n⟩
theorem Ac4:Go.Proofs.Lays.n143 Tryz.prog Adv:={
 mixed:=by kernel_rfl
 f143:=Tryz.func188.trans (congrArg some (by kernel_rfl))
 f217:=Tryz.func54.trans (congrArg some (by kernel_rfl))
 f219:=Tryz.func37.trans (congrArg some (by kernel_rfl))
 f224:=Tryz.func56.trans (congrArg some (by kernel_rfl))
 f225:=Tryz.func55.trans (congrArg some (by kernel_rfl))
 f266:=Tryz.func78.trans (congrArg some (by kernel_rfl))
 f267:=Tryz.func57.trans (congrArg some (by kernel_rfl))
 f314:=Tryz.func79.trans (congrArg some (by kernel_rfl))
 t3:=Tryz.underlying3
 a3:=Tryz.isAgg3
 z3:=Tryz.sizeOf3
 v3:=Tryz.zeroValue3
 t4:=Tryz.underlying4
 a4:=Tryz.isAgg4
 z4:=Tryz.sizeOf4
 v4:=Tryz.zeroValue4
 t5:=Tryz.underlying5
 a5:=Tryz.isAgg5
 z5:=Tryz.sizeOf5
 v5:=Tryz.zeroValue5
 t9:=Tryz.underlying9
 a9:=Tryz.isAgg9
 z9:=Tryz.sizeOf9
 v9:=Tryz.zeroValue9
 t46:=Tryz.underlying125
 a46:=Tryz.isAgg125
 z46:=Tryz.sizeOf125
 v46:=Tryz.zeroValue125
 t51:=Tryz.underlying150
 a51:=Tryz.isAgg150
 z51:=Tryz.sizeOf150
 v51:=Tryz.zeroValue150
 t146:=Tryz.underlying151
 a146:=Tryz.isAgg151
 z146:=Tryz.sizeOf151
 v146:=Tryz.zeroValue151
 g1:=by kernel_rfl }
theorem SK (s t:ByteArray) (m:Int) (w:World) (hs:s.size < 4294967281) (hm:w.cell? ⟨0,0,none⟩=some (.int .i64 m)) :
  Calls Tryz.prog 188 #[.string s,.string t] w fun e w'=>e=.returned (.int .i64 (Lib.index s.data.toList t.data.toList))∧w=w':=
 (Any.strings_Index Ac4 s t m w hs hm).mono fun _ _ ⟨h1,h2⟩=>⟨h1,h2.symm⟩
def Ac5:Go.Shelf.Ren:=⟨fun | 99=>23 | 206=>32 | n=>n,fun | 3=>3 | 4=>4 | 9=>9 | n=>n,fun n=>n⟩
theorem Ac6:Go.Proofs.Lays.n99 Tryz.prog Ac5:={
 mixed:=by kernel_rfl
 f99:=Tryz.func23.trans (congrArg some (by kernel_rfl))
 f206:=Tryz.func32.trans (congrArg some (by kernel_rfl))
 t3:=Tryz.underlying3
 a3:=Tryz.isAgg3
 z3:=Tryz.sizeOf3
 v3:=Tryz.zeroValue3
 t4:=Tryz.underlying4
 a4:=Tryz.isAgg4
 z4:=Tryz.sizeOf4
 v4:=Tryz.zeroValue4
 t9:=Tryz.underlying9
 a9:=Tryz.isAgg9
 z9:=Tryz.sizeOf9
 v9:=Tryz.zeroValue9 }
theorem Cs (s t:ByteArray) (w:World) :
  Calls Tryz.prog 23 #[.string s,.string t] w fun e w'=>e=.returned (.bool (Lib.hasPrefix s.data.toList t.data.toList))∧w=w':=
 (Any.strings_HasPrefix Ac6 s t w).mono fun _ _ ⟨h1,h2⟩=>⟨h1,h2.symm⟩
end
section
open Go.RowKit
theorem DK (b:Nat):D2 [(b:Int)]=Ab b b:=by
 unfold Ab D2;rw [show ((b:Int) - (b:Int)+1).toNat=1 by omega,Int.toNat_natCast];simp [CP]
theorem BV {w:World} {a:Nat} {T:TypeId} (h:Blk w a #[.int .u64 0,.int .u64 0,.int .u64 0,.int .u64 0,.bool false] T) :
  w.cell? ⟨a,0,none⟩=some (.int .u64 0)∧w.cell? ⟨a,1,none⟩=some (.int .u64 0)∧w.cell? ⟨a,2,none⟩=some (.int .u64 0)∧w.cell? ⟨a,3,none⟩=some (.int .u64 0)∧w.cell? ⟨a,4,none⟩=some (.bool false):=
 ⟨(h.cell 0).trans rfl,(h.cell 1).trans rfl,(h.cell 2).trans rfl,(h.cell 3).trans rfl,(h.cell 4).trans rfl⟩
def UV (s:OSet) (m ok:Bool):Value:=.tuple #[.agg #[.int .u64 (ow s 0),.int .u64 (ow s 1),.int .u64 (ow s 2),.int .u64 (ow s 3),.bool m],.bool ok]
theorem Yv (t:ByteArray) (w:World) :
  Calls Tryz.prog 186 #[.string t,.int .u8 58] w fun e w'=>e=.returned (UV (A5 t.toList) false (CH t.toList))∧Below w.heap.size w w':=by
 have hB:=Blk.new w #[.int .u64 0,.int .u64 0,.int .u64 0,.int .u64 0,.bool false] 261 _ rfl;have hW:=(Aeh w.heap.size w).alloc (Aec _) (.cells #[.int .u64 0,.int .u64 0,.int .u64 0,.int .u64 0,.bool false] 261);generalize hcs:A5 t.toList=cs;generalize hok:CH t.toList=ok;go_enter Tryz.func186,Tryz.ntmps186;go_wp2_with fail
 refine (Lh _ _).mono ?_;rintro e w1 ⟨he,b1⟩;rw [hcs,hok] at he;subst he;replace hW:=hW.trans (b1.mono hW.size);replace hB:=hB.below b1 hB.lt;clear b1;obtain ⟨d0,d1,d2,d3,d4⟩:=BV hB;have f0:=hB.frozen 0;have f1:=hB.frozen 1;have f2:=hB.frozen 2;have f3:=hB.frozen 3;have f4:=hB.frozen 4;have hlB:=hB.lt;go_wp2_with fail
 refine bodyPost_ret (v:=UV cs false ok) (by simp [results,Tryz.results186,go_sem,d0,d1,d2,d3,d4,UV,hlB]) rfl ⟨rfl,?_⟩
 repeat (first | (with_reducible exact hW) | refine Below.setCell ?_ (by first | omega | (simp;omega) | simp) _ | refine Below.alloc ?_ (by first | omega | (simp;omega) | simp) _)
theorem SL (t:ByteArray) (o:Int) (w:World) (ho:o≠58) (ht:t.size=1) :
  Calls Tryz.prog 186 #[.string t,.int .u8 o] w fun e w'=>e=.returned (UV (Ab (byt t.data.toList 0) (byt t.data.toList 0)) (o == 46) true)∧Below w.heap.size w w':=by
 have r1:(o == 58)=false:=by simp [ho]
 have r2:((t.size:Int) != 1)=false:=by simp [ht]
 have hb:=Ad5 (BL t 0 (by omega));have lt0:0 < t.size:=by omega
 rw [hb.out];have hB:=Blk.new w #[.int .u64 0,.int .u64 0,.int .u64 0,.int .u64 0,.bool false] 261 _ rfl;have hW:=(Aeh w.heap.size w).alloc (Aec _) (.cells #[.int .u64 0,.int .u64 0,.int .u64 0,.int .u64 0,.bool false] 261);go_enter Tryz.func186,Tryz.ntmps186;go_wp2_with fail
 refine (CF (t[0].toNat:Int) (Aa4 _) (Aa5 _) _ _ (by simp)).mono ?_;rintro e w1 ⟨rfl,b1⟩;rw [DK];replace hW:=hW.trans (b1.mono hW.size);replace hB:=hB.below b1 hB.lt;clear b1;obtain ⟨d0,d1,d2,d3,d4⟩:=BV hB;have f0:=hB.frozen 0;have f1:=hB.frozen 1;have f2:=hB.frozen 2;have f3:=hB.frozen 3;have f4:=hB.frozen 4;have hlB:=hB.lt;go_wp2_with fail
 refine bodyPost_ret (v:=UV (Ab (t[0].toNat:Int) (t[0].toNat:Int)) (o == 46) true) (by simp [results,Tryz.results186,go_sem,d0,d1,d2,d3,d4,UV,hlB]) rfl ⟨rfl,?_⟩
 repeat (first | (with_reducible exact hW) | refine Below.setCell ?_ (by first | omega | (simp;omega) | simp) _ | refine Below.alloc ?_ (by first | omega | (simp;omega) | simp) _)
theorem Pv (t:ByteArray) (o:Int) (w:World) (ho:o≠58) (ht:t.size≠1) :
  Calls Tryz.prog 186 #[.string t,.int .u8 o] w fun e w'=>e=.returned (UV oz false false)∧Below w.heap.size w w':=by
 have r1:(o == 58)=false:=by simp [ho]
 have r2:((t.size:Int) != 1)=true:=by simp;omega
 have hB:=Blk.new w #[.int .u64 0,.int .u64 0,.int .u64 0,.int .u64 0,.bool false] 261 _ rfl;have hW:=(Aeh w.heap.size w).alloc (Aec _) (.cells #[.int .u64 0,.int .u64 0,.int .u64 0,.int .u64 0,.bool false] 261);go_enter Tryz.func186,Tryz.ntmps186;go_wp2_with fail
 refine bodyPost_ret (v:=UV oz false false) (by simp [results,Tryz.results186,go_sem,UV,Al]) rfl ⟨rfl,?_⟩
 repeat (first | (with_reducible exact hW) | refine Below.setCell ?_ (by first | omega | (simp;omega) | simp) _ | refine Below.alloc ?_ (by first | omega | (simp;omega) | simp) _)
def SM (s:List UInt8) (o:Nat) (e:Nat):Int:=match Nw s o e with
 | some x=>(x:Int)
 | none=>-1
def No (s:List UInt8) (o:Nat) (e:Nat):Int:=match Nw s o e with
 | some x=>(x:Int) - (e:Int)
 | none=>-1
theorem RD (s:List UInt8) (o e:Nat) (h:¬ No s o e < 0):SM s o e=(e:Int)+No s o e∧0≤No s o e∧(e:Int)+No s o e < s.length:=by
 unfold SM No at *;cases hf:Nw s o e with
 | none=>rw [hf] at h;simp at h
 | some x=>
  have:=J8 _ _ _ _ hf;simp only;omega
theorem UW (s:List UInt8) (o e:Nat) (h:No s o e < 0):SM s o e=-1:=by
 unfold SM No at *;cases hf:Nw s o e with
 | none=>rfl
 | some x=>
  have:=J8 _ _ _ _ hf;rw [hf] at h;simp only at h;omega
theorem UX (s:List UInt8) (o e:Nat) (h:s.length≤e):SM s o e=-1:=by
 unfold SM;rw [Nw,if_neg (by omega)]
theorem Yw (s:ByteArray) (k o:Nat) (w:World) (m:Int) (hs:s.size≤1000000) (hk:k≤s.size) (ho:o < 256) (hm:w.cell? ⟨0,0,none⟩=some (.int .i64 m)) :
  Calls Tryz.prog 188 #[.string (s.extract k s.size),.string (strOfNums [(o:Int),93])] w fun e w'=>e=.returned (.int .i64 (No s.data.toList o k))∧w=w':=by
 have h:=SK (s.extract k s.size) (strOfNums [(o:Int),((93:Nat):Int)]) m w (by simp;omega) hm;rw [BP,Nz,show UInt8.ofNat 93=93 from rfl,Yo _ _ _ (by rw [At];exact hk),show (UInt8.ofNat o).toNat=o by simp;omega] at h;exact h
theorem UY (s:ByteArray) (k o:Nat) (w:World) (m:Int) (hs:s.size≤1000000) (hk:k≤s.size) (ho:o < 256) (h58:o=58) (hm:w.cell? ⟨0,0,none⟩=some (.int .i64 m)) (hg:0 < w.heap.size) :
  Calls Tryz.prog 185 #[.string s,.int .i64 (k:Int),.int .u8 (o:Int)] w fun e w'=>e=.returned (.int .i64 (SM s.data.toList o k))∧Below w.heap.size w w':=by
 have kc:=Gg w o 93;have hm2:∀ x,(w.alloc x).cell? ⟨0,0,none⟩=some (.int .i64 m):=fun x=>(((Aeh w.heap.size w).alloc (Aec _) x).cell (p:=⟨0,0,none⟩) hg).trans hm;have hm3:∀ x,(w.alloc x).drew.cell? ⟨0,0,none⟩=some (.int .i64 m):=hm2
 have r1:((o:Int) != 58)=false:=by simp [h58]
 have r2:decide ((s.size:Int) < (k:Int))=false:=by simp;omega
 have r3:decide (s.size < k)=false:=decide_eq_false (by omega);clear h58;by_cases hc:No s.data.toList o k < 0
 ·have Hc:=Ad5 (UW _ _ _ hc);have r4:decide (No s.data.toList o k < 0)=true:=decide_eq_true hc;clear hc
  (go_enter Tryz.func185,Tryz.ntmps185;go_wp2_with fail;go_region_with (go_at_call 188;refine (Yw s k o _ m hs (by omega) ho (hm3 _)).mono ?_;rintro e w1 ⟨rfl,rfl⟩);go_wp2_with fail)
  go_ret;exact ⟨GU (by rw [Hc.out]),Below.drew ((Aeh w.heap.size w).alloc (Aec _) _)⟩
 ·have hy:=RD _ _ _ hc;rw [At] at hy;obtain ⟨hy1,hy2,hy3⟩:=hy;have Hc:=Ad5 hy1;clear hy1;have r4:decide (No s.data.toList o k < 0)=false:=decide_eq_false hc;have r5:IntKind.i64.wrap ((k:Int)+No s.data.toList o k)=(k:Int)+No s.data.toList o k:=Aej _ (by omega);clear hc
  (go_enter Tryz.func185,Tryz.ntmps185;go_wp2_with fail;go_region_with (go_at_call 188;refine (Yw s k o _ m hs (by omega) ho (hm3 _)).mono ?_;rintro e w1 ⟨rfl,rfl⟩);go_wp2_with fail)
  go_ret;exact ⟨GU (by rw [Hc.out]),Below.drew ((Aeh w.heap.size w).alloc (Aec _) _)⟩
theorem Pw (s:ByteArray) (k o:Nat) (w:World) (m:Int) (hs:s.size≤1000000) (hk:k≤s.size) (ho:o < 256) (h58:o≠58) (hm:w.cell? ⟨0,0,none⟩=some (.int .i64 m)) (hg:0 < w.heap.size) :
  Calls Tryz.prog 185 #[.string s,.int .i64 (k:Int),.int .u8 (o:Int)] w fun e w'=>e=.returned (.int .i64 (SM s.data.toList o (k+1)))∧Below w.heap.size w w':=by
 have kc:=Gg w o 93;have hm2:∀ x,(w.alloc x).cell? ⟨0,0,none⟩=some (.int .i64 m):=fun x=>(((Aeh w.heap.size w).alloc (Aec _) x).cell (p:=⟨0,0,none⟩) hg).trans hm;have hm3:∀ x,(w.alloc x).drew.cell? ⟨0,0,none⟩=some (.int .i64 m):=hm2
 have Wn:IntKind.i64.wrap ((k:Int)+1)=((k+1:Nat):Int):=by rw [Aej _ (by omega)];omega
 have r1:((o:Int) != 58)=true:=by simp;omega
 clear h58;by_cases hlt:k+1≤s.size
 ·generalize hk1:k+1=k1 at *;have r2:decide ((s.size:Int) < (k1:Int))=false:=by simp;omega
  have r3:decide (s.size < k1)=false:=decide_eq_false (by omega);by_cases hc:No s.data.toList o k1 < 0
  ·have Hc:=Ad5 (UW _ _ _ hc);have r4:decide (No s.data.toList o k1 < 0)=true:=decide_eq_true hc;clear hc
   (go_enter Tryz.func185,Tryz.ntmps185;go_wp2_with fail;go_region_with (go_at_call 188;refine (Yw s k1 o _ m hs (by omega) ho (hm3 _)).mono ?_;rintro e w1 ⟨rfl,rfl⟩);go_wp2_with fail)
   go_ret;exact ⟨GU (by rw [Hc.out]),Below.drew ((Aeh w.heap.size w).alloc (Aec _) _)⟩
  ·have hy:=RD _ _ _ hc;rw [At] at hy;obtain ⟨hy1,hy2,hy3⟩:=hy;have Hc:=Ad5 hy1;clear hy1;have r4:decide (No s.data.toList o k1 < 0)=false:=decide_eq_false hc;have r5:IntKind.i64.wrap ((k1:Int)+No s.data.toList o k1)=(k1:Int)+No s.data.toList o k1:=Aej _ (by omega);clear hc
   (go_enter Tryz.func185,Tryz.ntmps185;go_wp2_with fail;go_region_with (go_at_call 188;refine (Yw s k1 o _ m hs (by omega) ho (hm3 _)).mono ?_;rintro e w1 ⟨rfl,rfl⟩);go_wp2_with fail)
   go_ret;exact ⟨GU (by rw [Hc.out]),Below.drew ((Aeh w.heap.size w).alloc (Aec _) _)⟩
 ·have r2:decide ((s.size:Int) < ((k+1:Nat):Int))=true:=by simp;omega
  have Hp:=Ad5 (UX s.data.toList o (k+1) (by rw [At];omega));generalize hk1:k+1=k1 at *;have r3:decide (s.size < k1)=true:=decide_eq_true (by omega);go_enter Tryz.func185,Tryz.ntmps185;go_wp2_with fail
  go_ret;exact ⟨GU (by rw [Hp.out]),Aeh _ _⟩
def glN:Nat:=Nat.max (Nat.max 5 4) 0+1
structure Gl (w:World):Prop where
 tab:TabIn w
 op0:w.cell? ⟨4,0,none⟩=some (.int .u8 58)
 op1:w.cell? ⟨4,1,none⟩=some (.int .u8 61)
 op2:w.cell? ⟨4,2,none⟩=some (.int .u8 46)
 ml:∃ m,w.cell? ⟨0,0,none⟩=some (.int .i64 m)
 lt:glN≤w.heap.size
theorem Gl.below {w w':World} {B:Nat} (h:Gl w) (hb:Below B w w') (hB:glN≤B):Gl w':=
 ⟨E3 h.tab hb (Aef (by decide) hB),
  (hb.cell (p:=⟨4,0,none⟩) (Aef (by decide) hB)).trans h.op0,
  (hb.cell (p:=⟨4,1,none⟩) (Aef (by decide) hB)).trans h.op1,
  (hb.cell (p:=⟨4,2,none⟩) (Aef (by decide) hB)).trans h.op2,
  h.ml.imp fun _ hm=>(hb.cell (p:=⟨0,0,none⟩) (Aef (by decide) hB)).trans hm,
  Aed h.lt hb.size⟩
theorem Gl.up {w w':World} (h:Gl w) (hb:Below w.heap.size w w'):Gl w':=h.below hb h.lt
def GL (s:OSet) (m:Bool) (at':Nat) (er:Nat):Value:=.tuple #[.agg #[.int .u64 (ow s 0),.int .u64 (ow s 1),.int .u64 (ow s 2),.int .u64 (ow s 3),.bool m],.int .i64 (at':Int),.int .i64 (er:Int)]
theorem N0 (s:ByteArray) (k o:Nat) (w:World) (hs:s.size≤1000000) (hk:k+2≤s.size) (hG:Gl w)
  (hcl:∀ w,Gl w→Calls Tryz.prog 185 #[.string s,.int .i64 ((k:Int)+2),.int .u8 (o:Int)] w fun e w'=>e=.returned (.int .i64 (-1))∧Below w.heap.size w w') :
  Calls Tryz.prog 183 #[.string s,.int .i64 (k:Int),.int .u8 (o:Int)] w fun e w'=>e=.returned (GL oz false s.size 5)∧Below w.heap.size w w':=by
 have hB:=Blk.new w #[.int .u64 0,.int .u64 0,.int .u64 0,.int .u64 0,.bool false] 261 _ rfl;have hW:=(Aeh w.heap.size w).alloc (Aec _) (.cells #[.int .u64 0,.int .u64 0,.int .u64 0,.int .u64 0,.bool false] 261);have Wn:IntKind.i64.wrap ((k:Int)+2)=(k:Int)+2:=Aej _ (by omega);have hG1:=hG.up hW;go_enter Tryz.func183,Tryz.ntmps183;go_wp2_with fail
 refine (hcl _ hG1).mono ?_;rintro e w1 ⟨rfl,b1⟩;replace hW:=hW.trans (b1.mono hW.size);replace hB:=hB.below b1 hB.lt;clear b1;obtain ⟨d0,d1,d2,d3,d4⟩:=BV hB;have f0:=hB.frozen 0;have f1:=hB.frozen 1;have f2:=hB.frozen 2;have f3:=hB.frozen 3;have f4:=hB.frozen 4;have hlB:=hB.lt;go_wp2_with fail
 refine bodyPost_ret (v:=GL oz false s.size 5) (by simp [results,Tryz.results183,go_sem,d0,d1,d2,d3,d4,GL,hlB,Al]) rfl ⟨rfl,?_⟩
 repeat (first | (with_reducible exact hW) | refine Below.setCell ?_ (by first | omega | (simp;omega) | simp) _ | refine Below.alloc ?_ (by first | omega | (simp;omega) | simp) _)
theorem FD (s:ByteArray) (k o x:Nat) (cs:OSet) (m ok:Bool) (w:World) (hs:s.size≤1000000) (hk:k+2≤s.size) (hG:Gl w) (hx0:k+2≤x) (hx1:x+1 < s.size)
  (hcl:∀ w,Gl w→Calls Tryz.prog 185 #[.string s,.int .i64 ((k:Int)+2),.int .u8 (o:Int)] w fun e w'=>e=.returned (.int .i64 (x:Int))∧Below w.heap.size w w')
  (hnm:∀ w,Calls Tryz.prog 186 #[.string (s.extract (k+2) x),.int .u8 (o:Int)] w fun e w'=>e=.returned (UV cs m ok)∧Below w.heap.size w w') :
  Calls Tryz.prog 183 #[.string s,.int .i64 (k:Int),.int .u8 (o:Int)] w fun e w'=>e=.returned (if ok then GL cs m (x+2) 0 else GL oz false k 6)∧Below w.heap.size w w':=by
 have hB:=Blk.new w #[.int .u64 0,.int .u64 0,.int .u64 0,.int .u64 0,.bool false] 261 _ rfl;have hW:=(Aeh w.heap.size w).alloc (Aec _) (.cells #[.int .u64 0,.int .u64 0,.int .u64 0,.int .u64 0,.bool false] 261);have Wn:IntKind.i64.wrap ((k:Int)+2)=(k:Int)+2:=Aej _ (by omega);have Wx:IntKind.i64.wrap ((x:Int)+2)=(x:Int)+2:=Aej _ (by omega);have hG1:=hG.up hW;go_enter Tryz.func183,Tryz.ntmps183;go_wp2_with fail
 refine (hcl _ hG1).mono ?_;rintro e w1 ⟨rfl,b1⟩;replace hW:=hW.trans (b1.mono hW.size);replace hB:=hB.below b1 hB.lt;clear b1;go_wp2_with fail
 refine (hnm _).mono ?_;rintro e w2 ⟨rfl,b1⟩;replace hW:=hW.trans (b1.mono hW.size);replace hB:=hB.below b1 hB.lt;clear b1;obtain ⟨d0,d1,d2,d3,d4⟩:=BV hB;have f0:=hB.frozen 0;have f1:=hB.frozen 1;have f2:=hB.frozen 2;have f3:=hB.frozen 3;have f4:=hB.frozen 4;have hlB:=hB.lt;unfold UV;cases ok
 ·go_wp2_with fail
  refine bodyPost_ret (v:=GL oz false k 6) (by simp [results,Tryz.results183,go_sem,d0,d1,d2,d3,d4,GL,hlB,Al]) rfl ⟨rfl,?_⟩
  repeat (first | (with_reducible exact hW) | refine Below.setCell ?_ (by first | omega | (simp;omega) | simp) _ | refine Below.alloc ?_ (by first | omega | (simp;omega) | simp) _)
 ·go_wp2_with fail
  refine bodyPost_ret (v:=GL cs m (x+2) 0) (by simp [results,Tryz.results183,go_sem,d0,d1,d2,d3,d4,GL,hlB,Al]) rfl ⟨rfl,?_⟩
  repeat (first | (with_reducible exact hW) | refine Below.setCell ?_ (by first | omega | (simp;omega) | simp) _ | refine Below.alloc ?_ (by first | omega | (simp;omega) | simp) _)
end
section
set_option linter.unusedVariables false
abbrev Wm:=Int × ByteArray
def SN (m:Nat × Nat):Wm:=((m.1:Int),⟨#[92,UInt8.ofNat m.2]⟩)
def Cj (by':Int) (l:List Wm):List Wm:=l.map fun m=>(Go.IntKind.i64.wrap (m.1+by'),m.2)
abbrev BK (α:Type):=Except (Nat × Nat) (α × List Wm × Nat)
structure Adr where
 kind:Nat
 line:Nat
 text:List UInt8
 tree:Option Nd
def GA:Adr:=⟨0,0,[],none⟩
def Ar (ext:Bool) (L:List UInt8) (b:Nat) (d:UInt8):BK (List UInt8 × Nd):=
 let r:=Aj L b d true
 if r.2.2=0 then
  (if r.1=[] then .error (2,b) else
   match AZ ext r.1 with
   | .error q=>.error (q.1,b)
   | .ok q=>.ok ((r.1,q.2),Cj b (q.1.marks.map SN),r.2.1))
 else .error (r.2.2,r.2.1)
def En (ext:Bool) (L:List UInt8) (b:Nat) (d:UInt8):BK Adr:=
 match Ar ext L b d with
 | .error q=>.error q
 | .ok q=>.ok (⟨3,0,q.1.1,some q.1.2⟩,q.2)
def Dt (L:List UInt8) (k:Nat):BK Adr:=
 let r:=Bx L k
 if r.2.2=0 then (if r.1=0 then .error (12,k) else .ok (⟨1,r.1,[],none⟩,[],r.2.1)) else .error (r.2.2,r.2.1)
def Du (L:List UInt8) (k:Nat):BK Adr:=
 let r:=Bx L (k+1)
 if r.2.2=0 then .ok (⟨4,r.1,[],none⟩,[((k:Int),⟨#[43]⟩)],r.2.1) else .error (r.2.2,r.2.1)
def EP (ext:Bool) (L:List UInt8) (k:Nat):BK Adr:=
 match L.drop (k+1) with
 | []=>.error (12,k)
 | x :: _=>if x=92∨x=10 then .error (12,k) else En ext L (k+2) x
def EY (ext second:Bool) (L:List UInt8) (k:Nat):BK Adr:=
 match L.drop k with
 | []=>.ok (GA,[],k)
 | c :: _=>
  if 48≤c.toNat∧c.toNat≤57 then Dt L k
  else if c=36 then .ok (⟨2,0,[],none⟩,[],k+1)
  else if c=47 then En ext L (k+1) 47
  else if c=92 then EP ext L k
  else if c=43∧second=true then Du L k
  else .ok (GA,[],k)
structure Grd where
 a:Adr
 b:Adr
 no:Bool
def Ak (L:List UInt8) (k:Nat):Nat:=k+EI [32,9] (L.drop k)
def E4 (c:Nat) (R:BK Adr):BK Adr:=
 match R with
 | .error q=>.error q
 | .ok q=>if q.1.kind=0 then .error (12,c) else .ok q
def Ce (ext:Bool) (L:List UInt8) (k:Nat):BK Adr:=
 if (L.drop (Ak L k)).head?=some 44 then E4 (Ak L (Ak L k+1)) (EY ext true L (Ak L (Ak L k+1)))
 else .ok (GA,[],k)
def C7 (L:List UInt8) (k:Nat):Except (Nat × Nat) (Bool × Nat):=
 if (L.drop (Ak L k)).head?=some 33 then
  (if (L.drop (Ak L (Ak L k+1))).head?=some 33 then .error (15,Ak L (Ak L k+1)) else .ok (true,Ak L (Ak L k+1)))
 else .ok (false,Ak L k)
def FE (a:Adr) (ms:List Wm) (R:BK Adr):BK (Adr × Adr):=
 match R with
 | .error r=>.error r
 | .ok r=>.ok ((a,r.1),ms++r.2.1,r.2.2)
def Eo (ext:Bool) (L:List UInt8) (R:BK Adr):BK (Adr × Adr):=
 match R with
 | .error q=>.error q
 | .ok q=>if q.1.kind=0 then .ok ((q.1,GA),q.2) else FE q.1 q.2.1 (Ce ext L q.2.2)
def FF (a b:Adr) (ms:List Wm) (R:Except (Nat × Nat) (Bool × Nat)):BK Grd:=
 match R with
 | .error r=>.error r
 | .ok r=>.ok (⟨a,b,r.1⟩,ms,r.2)
def GB (L:List UInt8) (R:BK (Adr × Adr)):BK Grd:=
 match R with
 | .error q=>.error q
 | .ok q=>FF q.1.1 q.1.2 q.2.1 (C7 L q.2.2)
def Jd (ext:Bool) (L:List UInt8) (k:Nat):BK Grd:=GB L (Eo ext L (EY ext false L k))
theorem FG (L:List UInt8) (k:Nat) (h:k≤L.length):k≤Ak L k∧Ak L k≤L.length:=by
 unfold Ak EI;have:=Bw (fun b=>([32,9]:List UInt8).contains b) (L.drop k);rw [List.length_drop] at this;omega
theorem EQ (L:List UInt8) (k:Nat) (h:k≤L.length):k≤(Bx L k).2.1∧(Bx L k).2.1≤L.length:=by
 unfold Bx EI;have:=Bw (fun b=>A4.contains b) (L.drop k);rw [List.length_drop] at this;simp only;split
 ·exact ⟨Aec _,h⟩
 ·split
  ·exact ⟨Aec _,h⟩
  ·simp only;omega
theorem JE (d:UInt8) (rx:Bool) (L:List UInt8):∀ (n p:Nat) (acc:List UInt8),p≤L.length→(Cm d rx L n p acc).2.1≤L.length
 | 0,p,acc,h=>Aec _
 | n+1,p,acc,h=>by
  cases hd:L.drop p with
  | nil=>rw [Dq hd];exact Aec _
  | cons c t=>
   have hl:t.length+1=L.length - p:=by rw [←List.length_drop,hd];rfl
   by_cases hc:c=d
   ·subst hc;rw [Dr hd];simp only;omega
   ·obtain ⟨x,k,e,he⟩:∃ x k e,AV d rx c t p=(x,k,e):=⟨_,_,_,rfl⟩;by_cases h0:e=0
    ·subst h0;rw [CE hd hc he];obtain ⟨h1,h2,_⟩:=EK he;exact JE d rx L n k (acc++x) (by omega)
    ·rw [DQ hd hc h0 he];obtain ⟨_,h2,_⟩:=G2 he h0;simp only;omega
abbrev Cp:=Int × List UInt8
structure Sb where
 text:List UInt8
 tree:Option Nd
 parts:List Cp
 nth:Nat
 all:Bool
 prt:Bool
 file:List UInt8
structure Cmd where
 pl:Nat
 g:Grd
 name:UInt8
 arg:List UInt8
 sub:Sb
 table:List UInt8
structure CS where
 k:Nat
 c:Cmd
 ms:List Wm
abbrev CO:=Nat × CS
def CS.go (st:CS) (k:Nat):CS:={ st with k:=k }
def CS.arg (st:CS) (a:List UInt8) (k:Nat):CS:={ st with k:=k,c:={ st.c with arg:=a } }
def CS.file (st:CS) (a:List UInt8) (k:Nat):CS:={ st with k:=k,c:={ st.c with sub:={ st.c.sub with file:=a } } }
def CS.mark (st:CS) (p:Nat) (w:List UInt8):CS:={ st with ms:=st.ms++[((p:Int),⟨w.toArray⟩)] }
def CS.name (st:CS) (b:UInt8):CS:={ st with k:=st.k+1,c:={ st.c with name:=b } }
def E9 (b:UInt8):Option Nat:=
 if b=125∨b=58 then some 0
 else if b∈[61,113,81,97,105,114] then some 1
 else if b∈[123,100,68,103,71,104,72,108,110,78,112,80,120,122,98,116,84,99,119,115,121] then some 2
 else none
def Ir (g:Grd):Nat:=if g.a.kind=0 then 0 else if g.b.kind=0 then 1 else 2
def GC (b:UInt8):Bool:=b == 81 || b == 84 || b == 122
def BG (st:CS) (b:UInt8) (m:Option Nat):CO:=
 match m with
 | none=>(13,st)
 | some n=>if n < Ir st.c.g then (19,st) else (0,(if GC b=true then st.mark st.k [b] else st).name b)
def Bg (L:List UInt8) (st:CS):CO:=
 match L.drop st.k with
 | []=>(5,st)
 | b :: _=>BG st b (E9 b)
def B0 (L:List UInt8) (st:CS):CO:=((Bo L st.k true).2.2,st.arg (Bo L st.k true).1 (Bo L st.k true).2.1)
def Dk (L:List UInt8) (st:CS):CO:=if (B0 L st).1=14 then (0,(B0 L st).2.go (Ak L st.k)) else B0 L st
def Db (L:List UInt8) (st:CS):CO:=((By (L.drop st.k) st.k []).2.2,st.arg (By (L.drop st.k) st.k []).1 (By (L.drop st.k) st.k []).2.1)
def C3 (L:List UInt8) (st:CS):CO:=
 match L.drop (Ak L st.k) with
 | []=>(11,st.go (Ak L st.k))
 | c :: t=>
  if c=10 then (5,st.go (Ak L st.k))
  else if c=92∧t.head?=some 10 then Db L (st.go (Ak L st.k+2))
  else Db L ((st.go (Ak L st.k)).mark st.c.pl [116,101,120,116])
def BH (L:List UInt8) (st:CS):CO:=if Ak L st.k=st.k then (2,st) else ((Bo L st.k false).2.2,st.arg (Bo L st.k false).1 (Bo L st.k false).2.1)
def B9 (L:List UInt8) (st:CS):CO:=if Ak L st.k=st.k then (2,st) else ((Bo L st.k false).2.2,st.file (Bo L st.k false).1 (Bo L st.k false).2.1)
def A8 (L:List UInt8) (st:CS):UInt8 × CO:=
 match L.drop st.k with
 | []=>(0,5,st)
 | d :: _=>if d=92∨d=10 then (0,2,st) else (d,0,st.go (st.k+1))
def Cf (L:List UInt8) (st:CS):CO:=
 match L.drop (Ak L st.k) with
 | []=>(0,st.go (Ak L st.k))
 | b :: _=>if b=59∨b=10∨b=35 then (0,st.go (Ak L st.k)) else if b=125 then (0,(st.go (Ak L st.k)).mark (Ak L st.k) [125]) else (17,st.go (Ak L st.k))
def CS.rx (st:CS) (t:List UInt8) (d:Option Nd) (ms:List Wm) (k:Nat):CS:={ st with k:=k,c:={ st.c with sub:={ st.c.sub with text:=t,tree:=d } },ms:=st.ms++ms }
def Mm (st:CS) (R:BK (List UInt8 × Nd)):CO:=
 match R with
 | .error q=>(q.1,st.rx [] none [] q.2)
 | .ok q=>(0,st.rx q.1.1 (some q.1.2) q.2.1 q.2.2)
def DL (ext:Bool) (L:List UInt8) (d:UInt8) (st:CS):CO:=Mm st (Ar ext L st.k d)
def DF (ps:List Cp) (t:List UInt8):List Cp:=if t=[] then ps else ps++[(-1,t)]
def Cg (n:Nat):List UInt8→Bool→List Cp→List UInt8→List Cp × Nat
 | [],esc,ps,t=>if esc=true then ([],11) else (DF ps t,0)
 | b :: l,false,ps,t=>if b=92 then Cg n l true ps t else if b=38 then Cg n l false (DF ps t++[(0,[])]) [] else Cg n l false ps (t++[b])
 | b :: l,true,ps,t=>
  if A4.contains b=true then (if n < b.toNat - 48 then ([],9) else Cg n l false (DF ps t++[(((b.toNat - 48:Nat):Int),[])]) [])
  else if b=110 then Cg n l false ps (t++[10]) else Cg n l false ps (t++[b])
def Ff (d:Option Nd):Nat:=match d with | none=>0 | some d=>Cu d
def CS.parts (st:CS) (ps:List Cp) (k:Nat):CS:={ st with k:=k,c:={ st.c with sub:={ st.c.sub with parts:=ps } } }
def DM (st:CS) (r:E1) (q:List Cp × Nat):CO:=if r.2.2=0 then (if q.2=0 then (0,st.parts q.1 r.2.1) else (q.2,st)) else (r.2.2,st.go r.2.1)
def CL (L:List UInt8) (d:UInt8) (st:CS):CO:=DM st (Aj L st.k d false) (Cg (Ff st.c.sub.tree) (Aj L st.k d false).1 false [] [])
def CS.all (st:CS):CS:={ st with k:=st.k+1,c:={ st.c with sub:={ st.c.sub with all:=true } } }
def CS.prt (st:CS):CS:={ st with k:=st.k+1,c:={ st.c with sub:={ st.c.sub with prt:=true } } }
def CS.nth (st:CS) (n k:Nat):CS:={ st with k:=k,c:={ st.c with sub:={ st.c.sub with nth:=n } } }
def Dl (st:CS):CO:=if st.c.sub.all=true then (15,st) else (0,st.all)
def Dm (st:CS):CO:=if st.c.sub.prt=true then (15,st) else (0,st.prt)
def CB (st:CS) (r:Nat × Nat × Nat):CO:=if r.2.2=0 then (if st.c.sub.nth=0 then (if r.1=0 then (1,st) else (0,st.nth r.1 r.2.1)) else (15,st)) else (r.2.2,st)
def Dc (L:List UInt8) (st:CS):CO:=CB st (Bx L st.k)
def AK (L:List UInt8) (b:UInt8) (st:CS):Option CO:=if b=103 then some (Dl st) else if b=112 then some (Dm st) else if A4.contains b=true then some (Dc L st) else none
def AA (L:List UInt8):Nat→CS→CO
 | 0,st=>(0,st)
 | n+1,st=>
  match L.drop st.k with
  | []=>(0,st)
  | b :: _=>
   match AK L b st with
   | some r=>if r.1=0 then AA L n r.2 else r
   | none=>if b=119 then B9 L (st.go (st.k+1)) else Cf L st
def CO.then (r:CO) (f:CS→CO):CO:=if r.1=0 then f r.2 else r
def C8 (ext:Bool) (L:List UInt8) (st:CS):CO:=
 (A8 L st).2.then fun s1=>(DL ext L (A8 L st).1 s1).then fun s2=>(CL L (A8 L st).1 s2).then fun s3=>AA L (L.length+1) s3
def BQ:List UInt8→Bool→List UInt8→Option (List UInt8)
 | [],esc,acc=>if esc=true then none else some acc
 | b :: l,false,acc=>if b=92 then BQ l true acc else BQ l false (acc++[b])
 | b :: l,true,acc=>if b=110 then BQ l false (acc++[10]) else if b=92 then BQ l false (acc++[92]) else none
def Ha:List UInt8→List UInt8→List UInt8→List UInt8→Option (List UInt8)
 | [],_,_,T=>some T
 | k :: ks,v,seen,T=>if k∈seen then none else Ha ks v.tail (k :: seen) (T.set k.toNat (v.headD 0))
def JF:List UInt8:=(List.range 256).map UInt8.ofNat
def Yx (a b:Option (List UInt8)):List UInt8 × Nat:=
 match a,b with
 | some ks,some vs=>if ks.length=vs.length then (match Ha ks vs [] JF with | none=>([],15) | some T=>(T,0)) else ([],18)
 | _,_=>([],18)
def Lm (a b:List UInt8):List UInt8 × Nat:=Yx (BQ a false []) (BQ b false [])
def CS.table (st:CS) (t:List UInt8) (k:Nat):CS:={ st with k:=k,c:={ st.c with table:=t } }
def FH (L:List UInt8) (st:CS) (p:Nat) (r:E1) (q:List UInt8 × Nat):CO:=
 if r.2.2=0 then (if q.2=0 then Cf L (st.table q.1 r.2.1) else (q.2,st.go p)) else (r.2.2,st.go r.2.1)
def FI (L:List UInt8) (d:UInt8) (st:CS) (r:E1):CO:=
 if r.2.2=0 then FH L st r.2.1 (Aj L r.2.1 d false) (Lm r.1 (Aj L r.2.1 d false).1) else (r.2.2,st.go r.2.1)
def Cy (L:List UInt8) (st:CS):CO:=(A8 L st).2.then fun s1=>FI L (A8 L st).1 s1 (Aj L s1.k (A8 L st).1 false)
def BA (ext:Bool) (L:List UInt8) (st:CS):CO:=
 let b:=st.c.name
 if b=123∨b=125 then (0,st)
 else if b=58 then B0 L st
 else if b=98∨b=116∨b=84 then Dk L st
 else if b=97∨b=105∨b=99 then C3 L st
 else if b=114∨b=119 then BH L st
 else if b=115 then C8 ext L st
 else if b=121 then Cy L st
 else Cf L st
def AO (ext:Bool) (L:List UInt8) (st:CS):CO:=(Bg L st).then (BA ext L)
def sb0:Sb:=⟨[],none,[],0,false,false,[]⟩
def Bd (g:Grd) (ms:List Wm) (k:Nat):CS:=⟨k,⟨k,g,0,[],sb0,[]⟩,ms⟩
def FJ (r:CO):BK Cmd:=if r.1=0 then .ok (r.2.c,r.2.ms,r.2.k) else .error (r.1,r.2.k)
def UZ (ext:Bool) (L:List UInt8) (R:BK Grd):BK Cmd:=
 match R with
 | .error q=>.error q
 | .ok q=>FJ (AO ext L (Bd q.1 q.2.1 q.2.2))
def Mn (ext:Bool) (L:List UInt8) (k:Nat):BK Cmd:=UZ ext L (Jd ext L k)
theorem Bj (A L:List UInt8) (k:Nat):(A++L).drop (A.length+k)=L.drop k:=by rw [←List.drop_drop,List.drop_left]
theorem Bh {L t:List UInt8} {k:Nat} {c:UInt8} (h:L.drop k=c :: t):k < L.length:=by
 by_cases e:k < L.length
 ·exact e
 ·rw [List.drop_eq_nil_of_le (by omega)] at h;cases h
def Mo (a:Nat) (r:E1):E1:=(r.1,a+r.2.1,r.2.2)
theorem Px (A L:List UInt8) (k:Nat):Bx (A++L) (A.length+k)=((Bx L k).1,A.length+(Bx L k).2.1,(Bx L k).2.2):=by
 unfold Bx;rw [Bj];simp only;split
 ·rfl
 ·split
  ·rfl
  ·simp only [Nat.add_assoc]
theorem Fg (A L:List UInt8) (k:Nat):Ak (A++L) (A.length+k)=A.length+Ak L k:=by
 unfold Ak;rw [Bj,Nat.add_assoc]
theorem Mp (A L:List UInt8) (k:Nat) (b:Bool):Bo (A++L) (A.length+k) b=Mo A.length (Bo L k b):=by
 unfold Bo;rw [Bj];generalize Lib.trimS ((L.drop k).take (Ee b (L.drop k))) [32,9]=n;generalize Ee b (L.drop k)=m;unfold Ef Mo;split
 ·rfl
 ·split
  ·rfl
  ·simp only [Nat.add_assoc]
theorem Py (a:Nat):∀ (n:Nat) (l:List UInt8) (p:Nat) (acc:List UInt8),l.length≤n→By l (a+p) acc=Mo a (By l p acc)
 | _,[],p,acc,_=>by simp [By,Mo]
 | 0,c :: t,p,acc,h=>by simp at h
 | n+1,c :: t,p,acc,h=>by
  by_cases h1:c=10
  ·subst h1;rw [DZ,DZ];simp [Mo,Nat.add_assoc]
  ·by_cases h2:c=92
   ·subst h2;cases t with
    | nil=>rw [Dp,Dp];simp [Mo]
    | cons x u=>
     rw [Ed,Ed,Nat.add_assoc];exact Py a n u _ _ (by simp at h;omega)
   ·rw [CD _ _ _ _ h1 h2,CD _ _ _ _ h1 h2,Nat.add_assoc];exact Py a n t _ _ (by simp at h;omega)
theorem Yy (a:Nat) (d:UInt8) (rx:Bool) (c:UInt8) (t:List UInt8) (p:Nat):AV d rx c t (a+p)=Mo a (AV d rx c t p):=by
 unfold AV;by_cases h1:c=92
 ·rw [if_pos h1,if_pos h1];cases t with
  | nil=>simp [Mo,Nat.add_assoc]
  | cons x u=>
   simp only;split
   ·simp [Mo,Nat.add_assoc]
   ·split <;> simp [Mo,Nat.add_assoc]
 ·rw [if_neg h1,if_neg h1];simp only;generalize (if (rx && c == 91)=true then Cc t else 1)=k;generalize AF (fun b=>!(b == 10)) ((c :: t).take k)=i;split <;> simp [Mo,Nat.add_assoc]
theorem Va (A L:List UInt8) (d:UInt8) (rx:Bool):∀ (n m p:Nat) (acc:List UInt8),p≤L.length→L.length - p < n→L.length - p < m→Cm d rx (A++L) m (A.length+p) acc=Mo A.length (Cm d rx L n p acc)
 | 0,m,p,acc,hp,h,_=>by omega
 | n+1,0,p,acc,hp,_,h=>by omega
 | n+1,m+1,p,acc,hp,h1,h2=>by
  cases hd:L.drop p with
  | nil=>
   rw [Dq hd,Dq (by rw [Bj,hd])];simp [Mo]
  | cons c t=>
   have hlt:=Bh hd;have hl:t.length+1=L.length - p:=by rw [←List.length_drop,hd];rfl
   have hd':(A++L).drop (A.length+p)=c :: t:=by rw [Bj,hd]
   by_cases hc:c=d
   ·subst hc;rw [Dr hd,Dr hd'];simp [Mo,Nat.add_assoc]
   ·obtain ⟨x,k,e,he⟩:∃ x k e,AV d rx c t p=(x,k,e):=⟨_,_,_,rfl⟩;have he':AV d rx c t (A.length+p)=(x,A.length+k,e):=by rw [Yy,he];rfl
    by_cases h0:e=0
    ·subst h0;rw [CE hd hc he,CE hd' hc he'];obtain ⟨g1,g2,_⟩:=EK he;exact Va A L d rx n m k (acc++x) (by omega) (by omega) (by omega)
    ·rw [DQ hd hc h0 he,DQ hd' hc h0 he'];rfl
theorem Fh (A L:List UInt8) (d:UInt8) (rx:Bool) (k:Nat) (hk:k≤L.length):Aj (A++L) ((A.length+k:Nat):Int) d rx=Mo A.length (Aj L (k:Int) d rx):=by
 unfold Aj;rw [Dz _ _ _ _ hk,Dz _ _ _ _ (by rw [Aee];omega)];exact Va A L d rx _ _ k [] hk (by omega) (by rw [Aee];omega)
def ShD (a:Nat) (R R':BK (List UInt8 × Nd)):Prop:=
 match R,R' with
 | .error q,.error r=>r=(q.1,a+q.2)
 | .ok q,.ok r=>r.1=q.1∧r.2.2=a+q.2.2
 | _,_=>False
theorem N1 (ext:Bool) (A L:List UInt8) (k:Nat) (d:UInt8) (hk:k≤L.length):ShD A.length (Ar ext L k d) (Ar ext (A++L) (A.length+k) d):=by
 unfold Ar;rw [Fh A L d true k hk];generalize Aj L (k:Int) d true=r;obtain ⟨t,p,e⟩:=r;rw [show Mo A.length (t,p,e)=(t,A.length+p,e) from rfl];simp only;by_cases he:e=0
 ·rw [if_pos he,if_pos he];by_cases ht:t=[]
  ·rw [if_pos ht,if_pos ht];exact rfl
  ·rw [if_neg ht,if_neg ht];cases AZ ext t with
   | error q=>exact rfl
   | ok q=>exact ⟨rfl,rfl⟩
 ·rw [if_neg he,if_neg he];exact rfl
structure Sh (a:Nat) (st st':CS):Prop where
 k:st'.k=a+st.k
 name:st'.c.name=st.c.name
 arg:st'.c.arg=st.c.arg
 sub:st'.c.sub=st.c.sub
 table:st'.c.table=st.c.table
def Is (a:Nat) (r r':CO):Prop:=r'.1=r.1∧Sh a r.2 r'.2
theorem Sh.go {a:Nat} {st st':CS} (h:Sh a st st') {k k':Nat} (e:k'=a+k):Sh a (st.go k) (st'.go k'):=⟨e,h.name,h.arg,h.sub,h.table⟩
theorem Sh.mark {a:Nat} {st st':CS} (h:Sh a st st') (p p':Nat) (w:List UInt8):Sh a (st.mark p w) (st'.mark p' w):=⟨h.k,h.name,h.arg,h.sub,h.table⟩
theorem Sh.argS {a:Nat} {st st':CS} (h:Sh a st st') (t:List UInt8) {k k':Nat} (e:k'=a+k):Sh a (st.arg t k) (st'.arg t k'):=⟨e,h.name,rfl,h.sub,h.table⟩
theorem Sh.fileS {a:Nat} {st st':CS} (h:Sh a st st') (t:List UInt8) {k k':Nat} (e:k'=a+k):Sh a (st.file t k) (st'.file t k'):=⟨e,h.name,h.arg,by show { st'.c.sub with file:=t }={ st.c.sub with file:=t };rw [h.sub],h.table⟩
theorem Sh.rx {a:Nat} {st st':CS} (h:Sh a st st') (t:List UInt8) (d:Option Nd) (ms ms':List Wm) {k k':Nat} (e:k'=a+k):Sh a (st.rx t d ms k) (st'.rx t d ms' k'):=⟨e,h.name,h.arg,by show { st'.c.sub with text:=t,tree:=d }={ st.c.sub with text:=t,tree:=d };rw [h.sub],h.table⟩
theorem Sh.parts {a:Nat} {st st':CS} (h:Sh a st st') (ps:List Cp) {k k':Nat} (e:k'=a+k):Sh a (st.parts ps k) (st'.parts ps k'):=⟨e,h.name,h.arg,by show { st'.c.sub with parts:=ps }={ st.c.sub with parts:=ps };rw [h.sub],h.table⟩
theorem Sh.nth {a:Nat} {st st':CS} (h:Sh a st st') (n:Nat) {k k':Nat} (e:k'=a+k):Sh a (st.nth n k) (st'.nth n k'):=⟨e,h.name,h.arg,by show { st'.c.sub with nth:=n }={ st.c.sub with nth:=n };rw [h.sub],h.table⟩
theorem Sh.all {a:Nat} {st st':CS} (h:Sh a st st'):Sh a st.all st'.all:=⟨by show st'.k+1=a+(st.k+1);rw [h.k,Nat.add_assoc],h.name,h.arg,by show { st'.c.sub with all:=true }={ st.c.sub with all:=true };rw [h.sub],h.table⟩
theorem Sh.prt {a:Nat} {st st':CS} (h:Sh a st st'):Sh a st.prt st'.prt:=⟨by show st'.k+1=a+(st.k+1);rw [h.k,Nat.add_assoc],h.name,h.arg,by show { st'.c.sub with prt:=true }={ st.c.sub with prt:=true };rw [h.sub],h.table⟩
theorem Sh.tableS {a:Nat} {st st':CS} (h:Sh a st st') (t:List UInt8) {k k':Nat} (e:k'=a+k):Sh a (st.table t k) (st'.table t k'):=⟨e,h.name,h.arg,h.sub,rfl⟩
theorem Is.then {a:Nat} {r r':CO} (h:Is a r r') {f f':CS→CO} (hf:r.1=0→Is a (f r.2) (f' r'.2)):Is a (r.then f) (r'.then f'):=by
 unfold CO.then
 rw [h.1];by_cases h0:r.1=0
 ·rw [if_pos h0,if_pos h0];exact hf h0
 ·rw [if_neg h0,if_neg h0];exact h
theorem N2 (A L:List UInt8) {st st':CS} (h:Sh A.length st st'):Is A.length (B0 L st) (B0 (A++L) st'):=by
 unfold B0;rw [h.k,Mp];exact ⟨rfl,h.argS _ rfl⟩
theorem Aa7 (A L:List UInt8) {st st':CS} (h:Sh A.length st st'):Is A.length (Dk L st) (Dk (A++L) st'):=by
 have hl:=N2 A L h;unfold Dk;rw [hl.1];by_cases h0:(B0 L st).1=14
 ·rw [if_pos h0,if_pos h0];exact ⟨rfl,hl.2.go (by rw [h.k,Fg])⟩
 ·rw [if_neg h0,if_neg h0];exact hl
theorem N3 (A L:List UInt8) {st st':CS} (h:Sh A.length st st'):Is A.length (Db L st) (Db (A++L) st'):=by
 unfold Db;rw [h.k,Bj,Py A.length _ _ _ _ (Aec _)];exact ⟨rfl,h.argS _ rfl⟩
theorem Yz (A L:List UInt8) {st st':CS} (h:Sh A.length st st'):Is A.length (C3 L st) (C3 (A++L) st'):=by
 unfold C3;rw [h.k,Fg,Bj];cases L.drop (Ak L st.k) with
 | nil=>exact ⟨rfl,h.go rfl⟩
 | cons c t=>
  simp only;by_cases h1:c=10
  ·rw [if_pos h1,if_pos h1];exact ⟨rfl,h.go rfl⟩
  ·rw [if_neg h1,if_neg h1];by_cases h2:c=92∧t.head?=some 10
   ·rw [if_pos h2,if_pos h2];exact N3 A L (h.go (by omega))
   ·rw [if_neg h2,if_neg h2];exact N3 A L ((h.go rfl).mark _ _ _)
theorem Vb (A L:List UInt8) {st st':CS} (h:Sh A.length st st'):Is A.length (BH L st) (BH (A++L) st'):=by
 unfold BH;rw [h.k,Fg,Mp];by_cases h1:Ak L st.k=st.k
 ·rw [if_pos h1,if_pos (by omega)];exact ⟨rfl,h⟩
 ·rw [if_neg h1,if_neg (by omega)];exact ⟨rfl,h.argS _ rfl⟩
theorem Vc (A L:List UInt8) {st st':CS} (h:Sh A.length st st'):Is A.length (B9 L st) (B9 (A++L) st'):=by
 unfold B9;rw [h.k,Fg,Mp];by_cases h1:Ak L st.k=st.k
 ·rw [if_pos h1,if_pos (by omega)];exact ⟨rfl,h⟩
 ·rw [if_neg h1,if_neg (by omega)];exact ⟨rfl,h.fileS _ rfl⟩
theorem Vd (A L:List UInt8) {st st':CS} (h:Sh A.length st st'):(A8 (A++L) st').1=(A8 L st).1∧Is A.length (A8 L st).2 (A8 (A++L) st').2:=by
 unfold A8;rw [h.k,Bj];cases L.drop st.k with
 | nil=>exact ⟨rfl,rfl,h⟩
 | cons c t=>
  simp only;split
  ·exact ⟨rfl,rfl,h⟩
  ·exact ⟨rfl,rfl,h.go (Nat.add_assoc _ _ _)⟩
theorem Pz (A L:List UInt8) {st st':CS} (h:Sh A.length st st'):Is A.length (Cf L st) (Cf (A++L) st'):=by
 unfold Cf;rw [h.k,Fg,Bj];cases L.drop (Ak L st.k) with
 | nil=>exact ⟨rfl,h.go rfl⟩
 | cons c t=>
  simp only;split
  ·exact ⟨rfl,h.go rfl⟩
  ·split
   ·exact ⟨rfl,(h.go rfl).mark _ _ _⟩
   ·exact ⟨rfl,h.go rfl⟩
theorem Ac7 (ext:Bool) (A L:List UInt8) (d:UInt8) {st st':CS} (h:Sh A.length st st') (hk:st.k≤L.length):Is A.length (DL ext L d st) (DL ext (A++L) d st'):=by
 unfold DL;rw [h.k];have hd:=N1 ext A L st.k d hk;generalize Ar ext L st.k d=R at hd ⊢;generalize Ar ext (A++L) (A.length+st.k) d=R' at hd ⊢;cases R with
 | error q=>
  cases R' with
  | error r=>obtain rfl:r=_:=hd;exact ⟨rfl,h.rx _ _ _ _ rfl⟩
  | ok r=>cases hd
 | ok q=>
  cases R' with
  | error r=>cases hd
  | ok r=>
   obtain ⟨⟨t,D⟩,ms,p⟩:=q;obtain ⟨q',ms',p'⟩:=r;obtain ⟨h1,h2⟩:q'=(t,D)∧p'=A.length+p:=hd;subst h1 h2;exact ⟨rfl,h.rx _ _ _ _ rfl⟩
theorem Aa8 (A L:List UInt8) (d:UInt8) {st st':CS} (h:Sh A.length st st') (hk:st.k≤L.length):Is A.length (CL L d st) (CL (A++L) d st'):=by
 unfold CL;rw [h.k,h.sub,Fh A L d false st.k hk];generalize Aj L (st.k:Int) d false=r;obtain ⟨t,p,e⟩:=r;simp only [Mo];generalize Cg (Ff st.c.sub.tree) t false [] []=q;unfold DM;simp only;split
 ·split
  ·exact ⟨rfl,h.parts _ rfl⟩
  ·exact ⟨rfl,h⟩
 ·exact ⟨rfl,h.go rfl⟩
theorem Aa9 (A L:List UInt8) {st st':CS} (h:Sh A.length st st'):Is A.length (Dc L st) (Dc (A++L) st'):=by
 unfold Dc;rw [h.k,Px];generalize Bx L st.k=r;obtain ⟨n,p,e⟩:=r;unfold CB;rw [h.sub];simp only;split
 ·split
  ·split
   ·exact ⟨rfl,h⟩
   ·exact ⟨rfl,h.nth _ rfl⟩
  ·exact ⟨rfl,h⟩
 ·exact ⟨rfl,h⟩
theorem Aba {a:Nat} {st st':CS} (h:Sh a st st'):Is a (Dl st) (Dl st'):=by
 unfold Dl;rw [h.sub];split
 ·exact ⟨rfl,h⟩
 ·exact ⟨rfl,h.all⟩
theorem Abb {a:Nat} {st st':CS} (h:Sh a st st'):Is a (Dm st) (Dm st'):=by
 unfold Dm;rw [h.sub];split
 ·exact ⟨rfl,h⟩
 ·exact ⟨rfl,h.prt⟩
theorem Y0 {L:List UInt8} {k:Nat} (hk:k≤L.length) (h:(Bx L k).2.2=0):k < (Bx L k).2.1∧(Bx L k).2.1≤L.length:=by
 refine ⟨?_,(EQ L k hk).2⟩;unfold Bx at h ⊢;simp only at h ⊢;split at h
 ·cases h
 ·split at h
  ·cases h
  ·rename_i h1 h2;rw [if_neg h1,if_neg h2];simp only;omega
theorem JG {L:List UInt8} {b:UInt8} {st:CS} {r:CO} (hk:st.k < L.length) (hf:AK L b st=some r) (h0:r.1=0):st.k < r.2.k∧r.2.k≤L.length:=by
 unfold AK at hf;split at hf
 ·injection hf with hf;subst hf;unfold Dl at h0 ⊢;split at h0
  ·cases h0
  ·rename_i h1;rw [if_neg h1];exact ⟨Nat.lt_succ_self _,hk⟩
 ·split at hf
  ·injection hf with hf;subst hf;unfold Dm at h0 ⊢;split at h0
   ·cases h0
   ·rename_i h1;rw [if_neg h1];exact ⟨Nat.lt_succ_self _,hk⟩
  ·split at hf
   ·injection hf with hf;subst hf;unfold Dc CB at h0 ⊢;split at h0
    ·rename_i h1;rw [if_pos h1];split at h0
     ·rename_i h2;rw [if_pos h2];split at h0
      ·cases h0
      ·rename_i h3;rw [if_neg h3];exact Y0 (by omega) h1
     ·cases h0
    ·rename_i h1;exact absurd h0 h1
   ·cases hf
theorem Y1 (A L:List UInt8) (b:UInt8) {st st':CS} (h:Sh A.length st st'):(AK L b st=none∧AK (A++L) b st'=none)∨∃ r r',AK L b st=some r∧AK (A++L) b st'=some r'∧Is A.length r r':=by
 unfold AK;split
 ·exact .inr ⟨_,_,rfl,rfl,Aba h⟩
 ·split
  ·exact .inr ⟨_,_,rfl,rfl,Abb h⟩
  ·split
   ·exact .inr ⟨_,_,rfl,rfl,Aa9 A L h⟩
   ·exact .inl ⟨rfl,rfl⟩
theorem N4 (A L:List UInt8):∀ (n m:Nat) {st st':CS},Sh A.length st st'→st.k≤L.length→L.length - st.k < n→L.length - st.k < m→Is A.length (AA L n st) (AA (A++L) m st')
 | 0,m,st,st',h,hk,h1,_=>by omega
 | n+1,0,st,st',h,hk,_,h2=>by omega
 | n+1,m+1,st,st',h,hk,h1,h2=>by
  unfold AA;rw [h.k,Bj];cases hd:L.drop st.k with
  | nil=>exact ⟨rfl,h⟩
  | cons b t=>
   have hlt:=Bh hd;simp only;rcases Y1 A L b h with ⟨e1,e2⟩ | ⟨r,r',e1,e2,hr⟩
   ·rw [e1,e2];simp only;split
    ·exact Vc A L (h.go (Nat.add_assoc _ _ _))
    ·exact Pz A L h
   ·rw [e1,e2];simp only;rw [hr.1];by_cases h0:r.1=0
    ·rw [if_pos h0,if_pos h0];obtain ⟨g1,g2⟩:=JG hlt e1 h0;exact N4 A L n m hr.2 g2 (by omega) (by omega)
    ·rw [if_neg h0,if_neg h0];exact hr
theorem D0 {d:UInt8} {rx:Bool} {L:List UInt8} {k:Nat} (hk:k≤L.length):(Aj L (k:Int) d rx).2.1≤L.length:=by
 unfold Aj;rw [Dz _ _ _ _ hk];exact JE d rx L _ k [] hk
theorem Fi {L:List UInt8} {st:CS} (hk:st.k≤L.length):(A8 L st).2.2.k≤L.length:=by
 unfold A8;cases hd:L.drop st.k with
 | nil=>exact hk
 | cons c t=>
  have:=Bh hd;simp only;split
  ·exact hk
  ·show st.k+1≤_;omega
theorem Ln {ext:Bool} {L:List UInt8} {b:Nat} {d:UInt8} {q:(List UInt8 × Nd) × List Wm × Nat} (hb:b≤L.length) (h:Ar ext L b d=.ok q):q.2.2≤L.length:=by
 unfold Ar at h;simp only at h;split at h
 ·split at h
  ·cases h
  ·split at h
   ·cases h
   ·injection h with h;subst h;exact D0 hb
 ·cases h
theorem P0 {ext:Bool} {L:List UInt8} {d:UInt8} {st:CS} (hk:st.k≤L.length) (h0:(DL ext L d st).1=0) (he:∀ q,Ar ext L st.k d=.error q→q.1≠0):(DL ext L d st).2.k≤L.length:=by
 unfold DL at h0 ⊢;cases hR:Ar ext L st.k d with
 | error q=>rw [hR] at h0;exact absurd h0 (he q hR)
 | ok q=>exact Ln hk hR
theorem Hj (L:List UInt8) (st:CS):(A8 L st).2.2.ms=st.ms:=by
 unfold A8;split
 ·rfl
 ·split <;> rfl
theorem Je {L:List UInt8} {d:UInt8} {st:CS} (hk:st.k≤L.length):(CL L d st).2.k≤L.length:=by
 unfold CL DM;split
 ·split
  ·exact D0 hk
  ·exact hk
 ·exact D0 hk
theorem Abc (ext:Bool) (A L:List UInt8) {st st':CS} (h:Sh A.length st st') (hk:st.k≤L.length) (he:∀ k d q,Ar ext L k d=.error q→q.1≠0):Is A.length (C8 ext L st) (C8 ext (A++L) st'):=by
 unfold C8;have hd:=Vd A L h;rw [hd.1];refine Is.then hd.2 fun _=>?_
 have k1:=Fi hk;have h2:=Ac7 ext A L (A8 L st).1 hd.2.2 k1;refine Is.then h2 fun h0=>?_
 have k2:=P0 k1 h0 (fun q=>he _ _ q);have h3:=Aa8 A L (A8 L st).1 h2.2 k2;refine Is.then h3 fun _=>?_
 exact N4 A L _ _ h3.2 (Je k2) (by omega) (by rw [Aee];omega)
theorem Abd (A L:List UInt8) {st st':CS} (h:Sh A.length st st') (hk:st.k≤L.length):Is A.length (Cy L st) (Cy (A++L) st'):=by
 unfold Cy;have hd:=Vd A L h;rw [hd.1];refine Is.then hd.2 fun _=>?_
 have k1:=Fi hk;rw [hd.2.2.k,Fh A L _ false _ k1];have k2:=D0 (d:=(A8 L st).1) (rx:=false) k1;generalize Aj L ((A8 L st).2.2.k:Int) (A8 L st).1 false=r at k2 ⊢;obtain ⟨t,p,e⟩:=r;rw [show Mo A.length (t,p,e)=(t,A.length+p,e) from rfl];unfold FI;simp only at k2 ⊢;by_cases he:e=0
 ·rw [if_pos he,if_pos he];rw [Fh A L _ false _ k2];generalize Aj L (p:Int) (A8 L st).1 false=r2;obtain ⟨t2,p2,e2⟩:=r2;rw [show Mo A.length (t2,p2,e2)=(t2,A.length+p2,e2) from rfl];simp only;generalize Lm t t2=q;unfold FH;simp only;by_cases he2:e2=0
  ·rw [if_pos he2,if_pos he2];by_cases hq:q.2=0
   ·rw [if_pos hq,if_pos hq];exact Pz A L (hd.2.2.tableS _ rfl)
   ·rw [if_neg hq,if_neg hq];exact ⟨rfl,hd.2.2.go rfl⟩
  ·rw [if_neg he2,if_neg he2];exact ⟨rfl,hd.2.2.go rfl⟩
 ·rw [if_neg he,if_neg he];exact ⟨rfl,hd.2.2.go rfl⟩
theorem N5 (ext:Bool) (A L:List UInt8) {st st':CS} (h:Sh A.length st st') (hk:st.k≤L.length) (he:∀ k d q,Ar ext L k d=.error q→q.1≠0):Is A.length (BA ext L st) (BA ext (A++L) st'):=by
 unfold BA;rw [h.name];simp only;split
 ·exact ⟨rfl,h⟩
 ·split
  ·exact N2 A L h
  ·split
   ·exact Aa7 A L h
   ·split
    ·exact Yz A L h
    ·split
     ·exact Vb A L h
     ·split
      ·exact Abc ext A L h hk he
      ·split
       ·exact Abd A L h hk
       ·exact Pz A L h
def Kp (st:CS) (r:CS):Prop:=r.c.pl=st.c.pl∧r.c.name=st.c.name∧r.c.g=st.c.g
theorem Kp.refl (st:CS):Kp st st:=⟨rfl,rfl,rfl⟩
theorem Kp.trans {a b c:CS} (h:Kp a b) (k:Kp b c):Kp a c:=⟨k.1.trans h.1,k.2.1.trans h.2.1,k.2.2.trans h.2.2⟩
theorem Jf {st:CS} {r:CO} {f:CS→CO} (h:Kp st r.2) (hf:Kp r.2 (f r.2).2):Kp st (r.then f).2:=by
 unfold CO.then
 split
 ·exact h.trans hf
 ·exact h
theorem N6 (L:List UInt8) (st:CS):Kp st (B0 L st).2:=⟨rfl,rfl,rfl⟩
theorem Abe (L:List UInt8) (st:CS):Kp st (Dk L st).2:=by
 unfold Dk;split
 ·exact ⟨rfl,rfl,rfl⟩
 ·exact N6 L st
theorem Y2 (L:List UInt8) (st:CS):Kp st (C3 L st).2:=by
 unfold C3;split
 ·exact ⟨rfl,rfl,rfl⟩
 ·split
  ·exact ⟨rfl,rfl,rfl⟩
  ·split <;> exact ⟨rfl,rfl,rfl⟩
theorem Ve (L:List UInt8) (st:CS):Kp st (BH L st).2:=by
 unfold BH;split <;> exact ⟨rfl,rfl,rfl⟩
theorem Vf (L:List UInt8) (st:CS):Kp st (B9 L st).2:=by
 unfold B9;split <;> exact ⟨rfl,rfl,rfl⟩
theorem Vg (L:List UInt8) (st:CS):Kp st (A8 L st).2.2:=by
 unfold A8;split
 ·exact ⟨rfl,rfl,rfl⟩
 ·split <;> exact ⟨rfl,rfl,rfl⟩
theorem P1 (L:List UInt8) (st:CS):Kp st (Cf L st).2:=by
 unfold Cf;split
 ·exact ⟨rfl,rfl,rfl⟩
 ·split
  ·exact ⟨rfl,rfl,rfl⟩
  ·split <;> exact ⟨rfl,rfl,rfl⟩
theorem Ac8 (ext:Bool) (L:List UInt8) (d:UInt8) (st:CS):Kp st (DL ext L d st).2:=by
 unfold DL Mm;split <;> exact ⟨rfl,rfl,rfl⟩
theorem Abf (L:List UInt8) (d:UInt8) (st:CS):Kp st (CL L d st).2:=by
 unfold CL DM;split
 ·split <;> exact ⟨rfl,rfl,rfl⟩
 ·exact ⟨rfl,rfl,rfl⟩
theorem RE {L:List UInt8} {b:UInt8} {st:CS} {r:CO} (h:AK L b st=some r):Kp st r.2:=by
 unfold AK at h;split at h
 ·injection h with h;subst h;unfold Dl;split <;> exact ⟨rfl,rfl,rfl⟩
 ·split at h
  ·injection h with h;subst h;unfold Dm;split <;> exact ⟨rfl,rfl,rfl⟩
  ·split at h
   ·injection h with h;subst h;unfold Dc CB;split
    ·split
     ·split <;> exact ⟨rfl,rfl,rfl⟩
     ·exact ⟨rfl,rfl,rfl⟩
    ·exact ⟨rfl,rfl,rfl⟩
   ·cases h
theorem N7 (L:List UInt8):∀ (n:Nat) (st:CS),Kp st (AA L n st).2
 | 0,st=>Kp.refl st
 | n+1,st=>by
  unfold AA;split
  ·exact Kp.refl st
  ·split
   ·rename_i hf;split
    ·exact (RE hf).trans (N7 L n _)
    ·exact RE hf
   ·split
    ·exact Kp.trans (b:=st.go (st.k+1)) ⟨rfl,rfl,rfl⟩ (Vf L _)
    ·exact P1 L st
theorem Abg (ext:Bool) (L:List UInt8) (st:CS):Kp st (C8 ext L st).2:=by
 unfold C8;exact Jf (Vg L st) (Jf (Ac8 ext L _ _) (Jf (Abf L _ _) (N7 L _ _)))
theorem Abh (L:List UInt8) (st:CS):Kp st (Cy L st).2:=by
 unfold Cy;refine Jf (Vg L st) ?_;unfold FI;split
 ·unfold FH;split
  ·split
   ·exact Kp.trans (b:=(A8 L st).2.2.table _ _) ⟨rfl,rfl,rfl⟩ (P1 L _)
   ·exact ⟨rfl,rfl,rfl⟩
  ·exact ⟨rfl,rfl,rfl⟩
 ·exact ⟨rfl,rfl,rfl⟩
theorem Vh (ext:Bool) (L:List UInt8) (st:CS):Kp st (BA ext L st).2:=by
 unfold BA;simp only;split
 ·exact Kp.refl st
 ·split
  ·exact N6 L st
  ·split
   ·exact Abe L st
   ·split
    ·exact Y2 L st
    ·split
     ·exact Ve L st
     ·split
      ·exact Abg ext L st
      ·split
       ·exact Abh L st
       ·exact P1 L st
def XX {α:Type} (a:Nat) (f:α→α) (R R':BK α):Prop:=
 match R,R' with
 | .error q,.error r=>r=(q.1,a+q.2)
 | .ok q,.ok r=>r.1=f q.1∧r.2.2=a+q.2.2
 | _,_=>False
theorem RF (ext:Bool) (A L:List UInt8) (b:Nat) (d:UInt8) (hb:b≤L.length):XX A.length id (En ext L b d) (En ext (A++L) (A.length+b) d):=by
 have h:=N1 ext A L b d hb;unfold En;generalize Ar ext L b d=R at h ⊢;generalize Ar ext (A++L) (A.length+b) d=R' at h ⊢;cases R with
 | error q=>
  cases R' with
  | error r=>exact h
  | ok r=>exact h.elim
 | ok q=>
  cases R' with
  | error r=>exact h.elim
  | ok r=>exact ⟨by show (⟨3,0,r.1.1,some r.1.2⟩:Adr)=⟨3,0,q.1.1,some q.1.2⟩;rw [h.1],h.2⟩
theorem SO (A L:List UInt8) (k:Nat):XX A.length id (Dt L k) (Dt (A++L) (A.length+k)):=by
 unfold Dt;rw [Px];obtain ⟨n,p,e⟩:=Bx L k;simp only;by_cases he:e=0
 ·rw [if_pos he,if_pos he];by_cases hn:n=0
  ·rw [if_pos hn,if_pos hn];exact rfl
  ·rw [if_neg hn,if_neg hn];exact ⟨rfl,rfl⟩
 ·rw [if_neg he,if_neg he];exact rfl
theorem SP (A L:List UInt8) (k:Nat):XX A.length id (Du L k) (Du (A++L) (A.length+k)):=by
 unfold Du;rw [Nat.add_assoc A.length k 1,Px];obtain ⟨n,p,e⟩:=Bx L (k+1);simp only;by_cases he:e=0
 ·rw [if_pos he,if_pos he];exact ⟨rfl,rfl⟩
 ·rw [if_neg he,if_neg he];exact rfl
theorem Vi (ext:Bool) (A L:List UInt8) (k:Nat):XX A.length id (EP ext L k) (EP ext (A++L) (A.length+k)):=by
 unfold EP;rw [Nat.add_assoc A.length k 1,Bj,Nat.add_assoc A.length k 2];cases hd:L.drop (k+1) with
 | nil=>exact rfl
 | cons x t=>
  simp only;by_cases hx:x=92∨x=10
  ·rw [if_pos hx,if_pos hx];exact rfl
  ·rw [if_neg hx,if_neg hx];exact RF ext A L (k+2) x (by have:=Bh hd;omega)
theorem Vj (ext second:Bool) (A L:List UInt8) (k:Nat):XX A.length id (EY ext second L k) (EY ext second (A++L) (A.length+k)):=by
 unfold EY;rw [Bj];cases hd:L.drop k with
 | nil=>exact ⟨rfl,rfl⟩
 | cons c t=>
  have hk:=Bh hd;simp only;by_cases h1:48≤c.toNat∧c.toNat≤57
  ·rw [if_pos h1,if_pos h1];exact SO A L k
  rw [if_neg h1,if_neg h1];by_cases h2:c=36
  ·rw [if_pos h2,if_pos h2];exact ⟨rfl,Nat.add_assoc _ _ _⟩
  rw [if_neg h2,if_neg h2];by_cases h3:c=47
  ·rw [if_pos h3,if_pos h3,Nat.add_assoc];exact RF ext A L (k+1) 47 (by omega)
  rw [if_neg h3,if_neg h3];by_cases h4:c=92
  ·rw [if_pos h4,if_pos h4];exact Vi ext A L k
  rw [if_neg h4,if_neg h4];by_cases h5:c=43∧second=true
  ·rw [if_pos h5,if_pos h5];exact SP A L k
  ·rw [if_neg h5,if_neg h5];exact ⟨rfl,rfl⟩
theorem Vk (ext:Bool) (A L:List UInt8) (k:Nat):XX A.length id (Ce ext L k) (Ce ext (A++L) (A.length+k)):=by
 unfold Ce;rw [Fg,Bj,Nat.add_assoc A.length (Ak L k) 1,Fg];by_cases h1:(L.drop (Ak L k)).head?=some 44
 ·rw [if_pos h1,if_pos h1];have h:=Vj ext true A L (Ak L (Ak L k+1));generalize EY ext true L (Ak L (Ak L k+1))=R at h ⊢;generalize EY ext true (A++L) (A.length+Ak L (Ak L k+1))=R' at h ⊢;unfold E4;cases R with
  | error q=>
   cases R' with
   | error r=>exact h
   | ok r=>exact h.elim
  | ok q=>
   cases R' with
   | error r=>exact h.elim
   | ok r=>
    have e:r.1=q.1:=h.1;simp only [e];by_cases h0:q.1.kind=0
    ·rw [if_pos h0,if_pos h0];exact rfl
    ·rw [if_neg h0,if_neg h0];exact h
 ·rw [if_neg h1,if_neg h1];exact ⟨rfl,rfl⟩
theorem Vl (A L:List UInt8) (k:Nat):C7 (A++L) (A.length+k)=(match C7 L k with | .error q=>.error (q.1,A.length+q.2) | .ok q=>.ok (q.1,A.length+q.2)):=by
 unfold C7;rw [Fg,Bj,Nat.add_assoc A.length (Ak L k) 1,Fg,Bj];by_cases h1:(L.drop (Ak L k)).head?=some 33
 ·rw [if_pos h1,if_pos h1];by_cases h2:(L.drop (Ak L (Ak L k+1))).head?=some 33
  ·rw [if_pos h2,if_pos h2]
  ·rw [if_neg h2,if_neg h2]
 ·rw [if_neg h1,if_neg h1]
theorem Ac9 (ext:Bool) (A L:List UInt8) (k:Nat):XX A.length id (Jd ext L k) (Jd ext (A++L) (A.length+k)):=by
 have h2:XX A.length id (Eo ext L (EY ext false L k)) (Eo ext (A++L) (EY ext false (A++L) (A.length+k))):=by
  have h:=Vj ext false A L k;generalize EY ext false L k=R at h ⊢;generalize EY ext false (A++L) (A.length+k)=R' at h ⊢;unfold Eo;cases R with
  | error q=>
   cases R' with
   | error r=>exact h
   | ok r=>exact h.elim
  | ok q=>
   cases R' with
   | error r=>exact h.elim
   | ok r=>
    have e:r.1=q.1:=h.1;have e2:r.2.2=A.length+q.2.2:=h.2;simp only [e,e2];by_cases h0:q.1.kind=0
    ·rw [if_pos h0,if_pos h0];exact ⟨rfl,e2⟩
    ·rw [if_neg h0,if_neg h0];have hs:=Vk ext A L q.2.2;generalize Ce ext L q.2.2=S at hs ⊢;generalize Ce ext (A++L) (A.length+q.2.2)=S' at hs ⊢;unfold FE;cases S with
     | error q=>cases S' with
      | error r=>exact hs
      | ok r=>exact hs.elim
     | ok q=>cases S' with
      | error r=>exact hs.elim
      | ok r=>exact ⟨by show (_,r.1)=(_,_);rw [show r.1=_ from hs.1];rfl,hs.2⟩
 unfold Jd;generalize Eo ext L (EY ext false L k)=R at h2 ⊢;generalize Eo ext (A++L) (EY ext false (A++L) (A.length+k))=R' at h2 ⊢;unfold GB;cases R with
 | error q=>
  cases R' with
  | error r=>exact h2
  | ok r=>exact h2.elim
 | ok q=>
  cases R' with
  | error r=>exact h2.elim
  | ok r=>
   have e:r.1=q.1:=h2.1;have e2:r.2.2=A.length+q.2.2:=h2.2;simp only [e,e2];rw [Vl];generalize C7 L q.2.2=S;unfold FF;cases S with
   | error x=>exact rfl
   | ok x=>exact ⟨rfl,rfl⟩
def shC (a:Nat) (c:Cmd):Cmd:={ c with pl:=a+c.pl }
theorem N8 (ext:Bool) (L:List UInt8) (st:CS):(AO ext L st).2.c.pl=st.c.pl∧(AO ext L st).2.c.g=st.c.g:=by
 have hn:(Bg L st).2.c.pl=st.c.pl∧(Bg L st).2.c.g=st.c.g:=by
  unfold Bg;split
  ·exact ⟨rfl,rfl⟩
  ·unfold BG;split
   ·exact ⟨rfl,rfl⟩
   ·split
    ·exact ⟨rfl,rfl⟩
    ·split
     ·exact ⟨rfl,rfl⟩
     ·exact ⟨rfl,rfl⟩
 unfold AO CO.then
 split
 ·have h:=Vh ext L (Bg L st).2;exact ⟨h.1.trans hn.1,h.2.2.trans hn.2⟩
 ·exact hn
theorem Vm (ext:Bool) (A L:List UInt8) (g:Grd) (ms ms':List Wm) (p:Nat) (he:∀ k d q,Ar ext L k d=.error q→q.1≠0) :
  Is A.length (AO ext L (Bd g ms p)) (AO ext (A++L) (Bd g ms' (A.length+p))):=by
 have h0:Sh A.length (Bd g ms p) (Bd g ms' (A.length+p)):=⟨rfl,rfl,rfl,rfl,rfl⟩
 unfold AO Bg;rw [show (Bd g ms' (A.length+p)).k=A.length+p from rfl,show (Bd g ms p).k=p from rfl,Bj];cases hd:L.drop p with
 | nil=>exact ⟨rfl,h0⟩
 | cons b t=>
  have hk:=Bh hd;simp only;cases E9 b with
  | none=>exact ⟨rfl,h0⟩
  | some n=>
   unfold BG;simp only;rw [show (Bd g ms' (A.length+p)).c.g=g from rfl,show (Bd g ms p).c.g=g from rfl];by_cases hx:n < Ir g
   ·rw [if_pos hx,if_pos hx];exact ⟨rfl,h0⟩
   ·rw [if_neg hx,if_neg hx];cases GC b with
    | true=>exact N5 ext A L (st:=((Bd g ms p).mark p [b]).name b) (st':=((Bd g ms' (A.length+p)).mark (A.length+p) [b]).name b) ⟨by show A.length+p+1=A.length+(p+1);omega,rfl,rfl,rfl,rfl⟩ (by show p+1≤L.length;omega) he
    | false=>exact N5 ext A L (st:=(Bd g ms p).name b) (st':=(Bd g ms' (A.length+p)).name b) ⟨by show A.length+p+1=A.length+(p+1);omega,rfl,rfl,rfl,rfl⟩ (by show p+1≤L.length;omega) he
theorem Ada (ext:Bool) (A L:List UInt8) (k:Nat) (he:∀ k d q,Ar ext L k d=.error q→q.1≠0):XX A.length (shC A.length) (Mn ext L k) (Mn ext (A++L) (A.length+k)):=by
 have h:=Ac9 ext A L k;unfold Mn;generalize Jd ext L k=R at h ⊢;generalize Jd ext (A++L) (A.length+k)=R' at h ⊢;cases R with
 | error q=>
  cases R' with
  | error r=>exact h
  | ok r=>exact h.elim
 | ok q=>
  cases R' with
  | error r=>exact h.elim
  | ok r=>
   obtain ⟨g,ms,p⟩:=q;obtain ⟨g',ms',p'⟩:=r;have e1:g'=g:=h.1;have e2:p'=A.length+p:=h.2;subst e1 e2;show XX _ _ (FJ (AO ext L (Bd g' ms p))) (FJ (AO ext (A++L) (Bd g' ms' (A.length+p))));obtain ⟨w1,w2⟩:=Vm ext A L g' ms ms' p he;have k1:=N8 ext L (Bd g' ms p);have k2:=N8 ext (A++L) (Bd g' ms' (A.length+p));generalize AO ext L (Bd g' ms p)=r at w1 w2 k1 ⊢;generalize AO ext (A++L) (Bd g' ms' (A.length+p))=r' at w1 w2 k2 ⊢;obtain ⟨n,st⟩:=r;obtain ⟨n',st'⟩:=r';have e3:n'=n:=w1;subst e3;have w2:Sh A.length st st':=w2;unfold FJ;simp only;by_cases h0:n'=0
   ·rw [if_pos h0,if_pos h0];refine ⟨?_,w2.k⟩;show st'.c=shC A.length st.c;obtain ⟨kk,⟨pl,gg,nm,ar,sb,tb⟩,mm⟩:=st;obtain ⟨kk',⟨pl',gg',nm',ar',sb',tb'⟩,mm'⟩:=st';have a1:nm'=nm:=w2.name;have a2:ar'=ar:=w2.arg;have a3:sb'=sb:=w2.sub;have a4:tb'=tb:=w2.table;have b1:pl=p:=k1.1;have b2:gg=g':=k1.2;have b3:pl'=A.length+p:=k2.1;have b4:gg'=g':=k2.2;subst a1 a2 a3 a4 b1 b2 b3 b4;rfl
   ·rw [if_neg h0,if_neg h0];show (n',st'.k)=(n',A.length+st.k)
    rw [w2.k]
def C4 (L:List UInt8) (k:Nat):Nat:=k+EI [32,9,10,59] (L.drop k)
def Dv (L:List UInt8) (k:Nat):Nat:=AF (fun b=>!(b == 10)) (L.drop k)
def BC (L:List UInt8):Nat→Nat→Nat
 | 0,k=>k
 | n+1,k=>if (L.drop k).head?=some 35 then BC L n (C4 L (k+Dv L k)) else k
def Aq (L:List UInt8) (k:Nat):Nat:=BC L (L.length+1) (C4 L k)
structure SS where
 k:Nat
 cs:List Cmd
 ms:List Wm
 op:List Nat
def scLabels (cs:List Cmd):List (List UInt8):=(cs.filter fun c=>c.name == 58).map (·.arg)
def AH (st:SS) (c:Cmd):Nat × List Nat:=
 if c.name=123 then (if st.op.length=12 then (4,st.op) else (0,st.op++[c.pl]))
 else if c.name=125 then (if st.op.length=0 then (16,st.op) else (0,st.op.dropLast))
 else if c.name=58 then (if c.arg∈scLabels st.cs then (15,st.op) else (0,st.op))
 else (0,st.op)
def Gv (st:SS) (q:Cmd × List Wm × Nat) (r:Nat × List Nat):Except (Nat × Nat) SS:=
 if r.1=0 then .ok ⟨q.2.2,st.cs++[q.1],st.ms++q.2.1,r.2⟩ else .error (r.1,q.1.pl)
def E5 (st:SS) (R:BK Cmd):Except (Nat × Nat) SS:=
 match R with
 | .error q=>.error q
 | .ok q=>Gv st q (AH st q.1)
def Cn (ext:Bool) (L:List UInt8) (st:SS):Except (Nat × Nat) SS:=
 if st.cs.length=100 then .error (3,st.k) else E5 st (Mn ext L st.k)
def SS.go (st:SS) (k:Nat):SS:={ st with k:=k }
def BR (ext:Bool) (L:List UInt8):Nat→SS→Except (Nat × Nat) SS
 | 0,st=>.ok st
 | n+1,st=>
  if Aq L st.k < L.length then
   (match Cn ext L (st.go (Aq L st.k)) with
   | .error q=>.error q
   | .ok st'=>BR ext L n st')
  else .ok (st.go (Aq L st.k))
def BY (ls:List (List UInt8)) (c:Cmd):Bool:=(c.name == 98 || c.name == 116 || c.name == 84) && !c.arg.isEmpty && !ls.contains c.arg
def Dn (st:SS):Nat × Nat:=
 match st.op.getLast? with
 | some p=>(16,p)
 | none=>(match st.cs.find? (BY (scLabels st.cs)) with
  | some c=>(14,c.pl)
  | none=>(0,0))
def IJ (R:Except (Nat × Nat) SS):Except (Nat × Nat) SS:=
 match R with
 | .error q=>.error q
 | .ok st=>if (Dn st).1=0 then .ok st else .error (Dn st)
def Cw (L:List UInt8):Bool:=L.take (Dv L 0) == [35,110]
def JH (ext:Bool) (L:List UInt8):Except (Nat × Nat) SS:=IJ (BR ext L 102 ⟨0,[],[],[]⟩)
theorem ZZ (A L:List UInt8) (k:Nat):C4 (A++L) (A.length+k)=A.length+C4 L k:=by
 unfold C4;rw [Bj,Nat.add_assoc]
theorem Adb (A L:List UInt8) (k:Nat):Dv (A++L) (A.length+k)=Dv L k:=by unfold Dv;rw [Bj]
theorem Lo (L:List UInt8) (k:Nat):k≤C4 L k:=Nat.le_add_right _ _
theorem P2 {L:List UInt8} {k:Nat} (h:(L.drop k).head?=some 35):0 < Dv L k∧k < L.length:=by
 cases hd:L.drop k with
 | nil=>rw [hd] at h;cases h
 | cons c t=>
  rw [hd] at h;injection h with h;subst h;refine ⟨?_,Bh hd⟩;unfold Dv AF;rw [hd];simp
theorem JI (A L:List UInt8):∀ (n m k:Nat),L.length - k < n→L.length - k < m→BC (A++L) m (A.length+k)=A.length+BC L n k
 | 0,_,_,h,_=>absurd h (Nat.not_lt_zero _)
 | _,0,_,_,h=>absurd h (Nat.not_lt_zero _)
 | n+1,m+1,k,h1,h2=>by
  unfold BC;rw [Bj];by_cases hh:(L.drop k).head?=some 35
  ·obtain ⟨ha,hb⟩:=P2 hh;have hs:=Lo L (k+Dv L k);rw [if_pos hh,if_pos hh,Adb,Nat.add_assoc,ZZ];exact JI A L n m _ (by omega) (by omega)
  ·rw [if_neg hh,if_neg hh]
theorem RG (A L:List UInt8) (k:Nat):Aq (A++L) (A.length+k)=A.length+Aq L k:=by
 unfold Aq;rw [ZZ];exact JI A L _ _ _ (by omega) (by rw [Aee];omega)
structure SSh (a:Nat) (st st':SS):Prop where
 cs:st'.cs=st.cs.map (shC a)
 op:st'.op=st.op.map (a+·)
theorem Lp (a:Nat) (cs:List Cmd):scLabels (cs.map (shC a))=scLabels cs:=by
 unfold scLabels;rw [List.filter_map,List.map_map];rfl
theorem Abi {a:Nat} {st st':SS} (h:SSh a st st') (c:Cmd):(AH st' (shC a c)).1=(AH st c).1∧(AH st' (shC a c)).2=(AH st c).2.map (a+·):=by
 unfold AH;rw [h.op,h.cs,Lp,List.length_map,show (shC a c).name=c.name from rfl,show (shC a c).arg=c.arg from rfl,show (shC a c).pl=a+c.pl from rfl];by_cases h1:c.name=123
 ·rw [if_pos h1,if_pos h1];by_cases h2:st.op.length=12
  ·rw [if_pos h2,if_pos h2];exact ⟨rfl,rfl⟩
  ·rw [if_neg h2,if_neg h2];exact ⟨rfl,by simp⟩
 rw [if_neg h1,if_neg h1];by_cases h3:c.name=125
 ·rw [if_pos h3,if_pos h3];by_cases h2:st.op.length=0
  ·rw [if_pos h2,if_pos h2];exact ⟨rfl,rfl⟩
  ·rw [if_neg h2,if_neg h2];exact ⟨rfl,by simp⟩
 rw [if_neg h3,if_neg h3];by_cases h4:c.name=58
 ·rw [if_pos h4,if_pos h4];by_cases h2:c.arg∈scLabels st.cs
  ·rw [if_pos h2,if_pos h2];exact ⟨rfl,rfl⟩
  ·rw [if_neg h2,if_neg h2];exact ⟨rfl,rfl⟩
 ·rw [if_neg h4,if_neg h4];exact ⟨rfl,rfl⟩
abbrev C5 (L B:List UInt8):List UInt8:=L++10 :: B
theorem AX {L:List UInt8} (B:List UInt8) {k:Nat} (h:k≤L.length):(C5 L B).drop k=L.drop k++10 :: B:=List.drop_append_of_le_length h
theorem JJ {p:UInt8→Bool} (h:p 10=false) (B:List UInt8):∀ l:List UInt8,AF p (l++10 :: B)=AF p l
 | []=>by rw [List.nil_append,Cr h];rfl
 | c :: l=>by
  cases hc:p c with
  | true=>rw [List.cons_append,Br hc,Br hc,JJ h B l]
  | false=>rw [List.cons_append,Cr hc,Cr hc]
theorem P3 {L:List UInt8} (B:List UInt8) {k:Nat} (h:k≤L.length):Bx (C5 L B) k=Bx L k:=by
 have hn:EI A4 ((C5 L B).drop k)=EI A4 (L.drop k):=by rw [AX B h];exact JJ (by decide) B _
 unfold Bx;rw [hn,AX B h];simp only;rw [List.take_append_of_le_length (show EI A4 (L.drop k)≤(L.drop k).length from Bw _ _)]
theorem Fj {L:List UInt8} (B:List UInt8) {k:Nat} (h:k≤L.length):Ak (C5 L B) k=Ak L k:=by
 unfold Ak;rw [AX B h,show EI [32,9] (L.drop k++10 :: B)=EI [32,9] (L.drop k) from JJ (by decide) B _]
theorem Mq {L:List UInt8} (B:List UInt8) {k:Nat} (h:k≤L.length) (b:Bool):Bo (C5 L B) k b=Bo L k b:=by
 have he:Ee b ((C5 L B).drop k)=Ee b (L.drop k):=by rw [AX B h];exact JJ (by cases b <;> rfl) B _
 unfold Bo;rw [he,AX B h,List.take_append_of_le_length (show Ee b (L.drop k)≤(L.drop k).length from Bw _ _)]
theorem Vn {c:UInt8} (h:c≠10) (B l:List UInt8):D5 c (l++10 :: B)=D5 c l:=by
 cases l with
 | nil=>show (if (10:UInt8)=c then 1 else 0)=0;rw [if_neg (fun e=>h e.symm)]
 | cons x l=>rfl
theorem Vo (B l:List UInt8):Bz (l++10 :: B)=Bz l:=by
 unfold Bz;rw [Vn (by decide),List.drop_append_of_le_length (GS 94 l),Vn (by decide)]
theorem P4 {p:UInt8→Bool} (X:List UInt8):∀ {l:List UInt8},AF p l < l.length→AF p (l++X)=AF p l
 | [],h=>absurd h (Nat.not_lt_zero _)
 | c :: l,h=>by
  cases hc:p c with
  | true=>
   rw [Br hc] at h;rw [List.cons_append,Br hc,Br hc,P4 X (l:=l) (by simpa using h)]
  | false=>rw [List.cons_append,Cr hc,Cr hc]
theorem Abj (B:List UInt8) {t:List UInt8} (h:Cc t < t.length+1):Cc (t++10 :: B)=Cc t:=by
 have h1:=G1 t;have h2:(t.drop (Bz t)).length=t.length - Bz t:=List.length_drop;unfold Cc at h ⊢;rw [Vo,List.drop_append_of_le_length h1];have h3:AF (fun b=>!(b == 93)) (t.drop (Bz t)) < (t.drop (Bz t)).length:=by omega
 rw [P4 _ h3,Aee];omega
theorem Y4 (B:List UInt8) {d c:UInt8} {rx:Bool} {t x:List UInt8} {p k:Nat} (h:AV d rx c t p=(x,k,0)) (hk:k < p+1+t.length):AV d rx c (t++10 :: B) p=(x,k,0):=by
 unfold AV at h ⊢;by_cases hc:c=92
 ·rw [if_pos hc] at h ⊢;cases t with
  | nil=>cases h
  | cons y t=>exact h
 ·rw [if_neg hc] at h ⊢;simp only at h ⊢;by_cases hb:(rx && c == 91)=true
  ·rw [if_pos hb] at h ⊢;have hlt:Cc t < t.length+1:=by
    split at h
    ·cases h
    ·injection h with _ h;injection h with h _;omega
   rw [Abj B hlt];have ht:(c :: (t++10 :: B)).take (Cc t)=(c :: t).take (Cc t):=by
    rw [←List.cons_append];exact List.take_append_of_le_length (by rw [List.length_cons];omega)
   rw [ht];exact h
  ·rw [if_neg hb] at h ⊢;have ht:(c :: (t++10 :: B)).take 1=(c :: t).take 1:=rfl;rw [ht];exact h
theorem Vp (B:List UInt8) (d:UInt8) (rx:Bool) {L:List UInt8}:∀ (n m p:Nat) (acc:List UInt8),p≤L.length→L.length - p < n→L.length+1 - p < m→(Cm d rx L n p acc).2.2=0→Cm d rx (C5 L B) m p acc=Cm d rx L n p acc
 | 0,_,_,_,_,h,_,_=>absurd h (Nat.not_lt_zero _)
 | _,0,_,_,_,_,h,_=>absurd h (Nat.not_lt_zero _)
 | n+1,m+1,p,acc,hp,h1,h2,h0=>by
  cases hd:L.drop p with
  | nil=>rw [Dq hd] at h0;cases h0
  | cons c t=>
   have hl:t.length+1=L.length - p:=by rw [←List.length_drop,hd];rfl
   have hd':(C5 L B).drop p=c :: (t++10 :: B):=by rw [AX B hp,hd];rfl
   by_cases hc:c=d
   ·subst hc;rw [Dr hd,Dr hd']
   ·obtain ⟨x,k,e,he⟩:∃ x k e,AV d rx c t p=(x,k,e):=⟨_,_,_,rfl⟩;by_cases hz:e=0
    ·subst hz;rw [CE hd hc he] at h0 ⊢;obtain ⟨g1,g2,_⟩:=EK he;have hk:k < p+1+t.length:=by
      by_cases hk:k < p+1+t.length
      ·exact hk
      ·exfalso;have hk:L.drop k=[]:=List.drop_eq_nil_of_le (by omega);cases n with
       | zero=>cases h0
       | succ n=>rw [Dq hk] at h0;cases h0
     rw [CE hd' hc (Y4 B he hk)];exact Vp B d rx n m k _ (by omega) (by omega) (by omega) h0
    ·rw [DQ hd hc hz he] at h0;exact absurd h0 hz
theorem Fk (B:List UInt8) (d:UInt8) (rx:Bool) {L:List UInt8} {k:Nat} (hk:k≤L.length) (h0:(Aj L (k:Int) d rx).2.2=0):Aj (C5 L B) (k:Int) d rx=Aj L (k:Int) d rx:=by
 unfold Aj at h0 ⊢;rw [Dz _ _ _ _ hk] at h0 ⊢;rw [Dz _ _ _ _ (by rw [Aee];omega)];exact Vp B d rx _ _ k [] hk (by omega) (by rw [Aee,List.length_cons];omega) h0
theorem N9 (B:List UInt8) {ext:Bool} {L:List UInt8} {k:Nat} {d:UInt8} {q:(List UInt8 × Nd) × List Wm × Nat} (hk:k≤L.length) (h:Ar ext L k d=.ok q):Ar ext (C5 L B) k d=.ok q:=by
 have h0:(Aj L (k:Int) d true).2.2=0:=by
  unfold Ar at h;simp only at h;split at h
  ·assumption
  ·cases h
 unfold Ar at h ⊢;rw [Fk B d true hk h0];exact h
theorem RH (B:List UInt8) {ext:Bool} {L:List UInt8} {k:Nat} {d:UInt8} {q:Adr × List Wm × Nat} (hk:k≤L.length) (h:En ext L k d=.ok q):En ext (C5 L B) k d=.ok q:=by
 unfold En at h ⊢;cases h1:Ar ext L k d with
 | error r=>rw [h1] at h;cases h
 | ok r=>rw [N9 B hk h1];rw [h1] at h;exact h
theorem Vq (B:List UInt8) {ext second:Bool} {L:List UInt8} {k:Nat} {q:Adr × List Wm × Nat} (hk:k≤L.length) (h:EY ext second L k=.ok q):EY ext second (C5 L B) k=.ok q:=by
 unfold EY at h ⊢;rw [AX B hk];cases hd:L.drop k with
 | nil=>rw [hd] at h;exact h
 | cons c t=>
  rw [hd] at h;have hlt:=Bh hd;rw [List.cons_append];simp only at h ⊢;by_cases h1:48≤c.toNat∧c.toNat≤57
  ·rw [if_pos h1] at h ⊢;unfold Dt at h ⊢;rw [P3 B hk];exact h
  rw [if_neg h1] at h ⊢;by_cases h2:c=36
  ·rw [if_pos h2] at h ⊢;exact h
  rw [if_neg h2] at h ⊢;by_cases h3:c=47
  ·rw [if_pos h3] at h ⊢;exact RH B (by omega) h
  rw [if_neg h3] at h ⊢;by_cases h4:c=92
  ·rw [if_pos h4] at h ⊢;unfold EP at h ⊢;rw [AX B (show k+1≤L.length by omega)];cases hd2:L.drop (k+1) with
   | nil=>rw [hd2] at h;cases h
   | cons x u=>
    rw [hd2] at h;have hlt2:=Bh hd2;rw [List.cons_append];simp only at h ⊢;by_cases hx:x=92∨x=10
    ·rw [if_pos hx] at h;cases h
    ·rw [if_neg hx] at h ⊢;exact RH B (by omega) h
  rw [if_neg h4] at h ⊢;by_cases h5:c=43∧second=true
  ·rw [if_pos h5] at h ⊢;unfold Du at h ⊢;rw [P3 B (by omega)];exact h
  ·rw [if_neg h5] at h ⊢;exact h
theorem NA {ext:Bool} {L:List UInt8} {k:Nat} {d:UInt8} {q:Adr × List Wm × Nat} (hk:k≤L.length) (h:En ext L k d=.ok q):q.2.2≤L.length:=by
 unfold En at h;cases h1:Ar ext L k d with
 | error r=>rw [h1] at h;cases h
 | ok r=>rw [h1] at h;injection h with h;subst h;exact Ln hk h1
theorem RI {ext second:Bool} {L:List UInt8} {k:Nat} {q:Adr × List Wm × Nat} (hk:k≤L.length) (h:EY ext second L k=.ok q):q.2.2≤L.length:=by
 unfold EY at h;cases hd:L.drop k with
 | nil=>rw [hd] at h;injection h with h;subst h;exact hk
 | cons c t=>
  rw [hd] at h;have hlt:=Bh hd;simp only at h;split at h
  ·unfold Dt at h;simp only at h;split at h
   ·split at h
    ·cases h
    ·injection h with h;subst h;exact (EQ L k hk).2
   ·cases h
  ·split at h
   ·injection h with h;subst h;exact hlt
   ·split at h
    ·exact NA (by omega) h
    ·split at h
     ·unfold EP at h;cases hd2:L.drop (k+1) with
      | nil=>rw [hd2] at h;cases h
      | cons x u=>
       rw [hd2] at h;have hlt2:=Bh hd2;simp only at h;split at h
       ·cases h
       ·exact NA (by omega) h
     ·split at h
      ·unfold Du at h;simp only at h;split at h
       ·injection h with h;subst h;exact (EQ L (k+1) (by omega)).2
       ·cases h
      ·injection h with h;subst h;exact hk
theorem DN {L:List UInt8} {k:Nat} (hk:k≤L.length):Ak L k≤L.length:=(FG L k hk).2
theorem Fl {c:UInt8} (h:c≠10) (B l:List UInt8):((l++10 :: B).head?=some c) ↔ (l.head?=some c):=by
 cases l with
 | nil=>simp [Ne.symm h]
 | cons x l=>exact Iff.rfl
theorem NB {L:List UInt8} {k:Nat} {c:UInt8} (h:(L.drop k).head?=some c):k < L.length:=by
 cases hd:L.drop k with
 | nil=>rw [hd] at h;cases h
 | cons x t=>exact Bh hd
theorem Vr (B:List UInt8) {ext:Bool} {L:List UInt8} {k:Nat} {q:Adr × List Wm × Nat} (hk:k≤L.length) (h:Ce ext L k=.ok q):Ce ext (C5 L B) k=.ok q∧q.2.2≤L.length:=by
 unfold Ce at h ⊢;have hb:=DN hk;rw [Fj B hk,AX B hb];by_cases h1:(L.drop (Ak L k)).head?=some 44
 ·rw [if_pos h1] at h;rw [if_pos ((Fl (by decide) B _).2 h1)];have hlt:=NB h1;have hb2:=DN (show Ak L k+1≤L.length by omega);rw [Fj B (show Ak L k+1≤L.length by omega)];unfold E4 at h ⊢;cases h2:EY ext true L (Ak L (Ak L k+1)) with
  | error r=>rw [h2] at h;cases h
  | ok r=>
   rw [h2] at h;rw [Vq B hb2 h2];simp only at h ⊢;refine ⟨h,?_⟩;split at h
   ·cases h
   ·injection h with h;subst h;exact RI hb2 h2
 ·rw [if_neg h1] at h;rw [if_neg (fun e=>h1 ((Fl (by decide) B _).1 e))];injection h with h;subst h;exact ⟨rfl,hk⟩
theorem Vs (B:List UInt8) {L:List UInt8} {k:Nat} {q:Bool × Nat} (hk:k≤L.length) (h:C7 L k=.ok q):C7 (C5 L B) k=.ok q∧q.2≤L.length:=by
 unfold C7 at h ⊢;have hb:=DN hk;rw [Fj B hk,AX B hb];by_cases h1:(L.drop (Ak L k)).head?=some 33
 ·rw [if_pos h1] at h;rw [if_pos ((Fl (by decide) B _).2 h1)];have hlt:=NB h1;have hb2:=DN (show Ak L k+1≤L.length by omega);rw [Fj B (show Ak L k+1≤L.length by omega),AX B hb2];by_cases h2:(L.drop (Ak L (Ak L k+1))).head?=some 33
  ·rw [if_pos h2] at h;cases h
  ·rw [if_neg h2] at h;rw [if_neg (fun e=>h2 ((Fl (by decide) B _).1 e))];injection h with h;subst h;exact ⟨rfl,hb2⟩
 ·rw [if_neg h1] at h;rw [if_neg (fun e=>h1 ((Fl (by decide) B _).1 e))];injection h with h;subst h;exact ⟨rfl,hb⟩
theorem Vt (B:List UInt8) {ext:Bool} {L:List UInt8} {k:Nat} {q:(Adr × Adr) × List Wm × Nat} (hk:k≤L.length) (h:Eo ext L (EY ext false L k)=.ok q):Eo ext (C5 L B) (EY ext false (C5 L B) k)=.ok q∧q.2.2≤L.length:=by
 unfold Eo at h ⊢;cases h1:EY ext false L k with
 | error r=>rw [h1] at h;cases h
 | ok r=>
  rw [h1] at h;rw [Vq B hk h1];have hr:=RI hk h1;simp only at h ⊢;by_cases h0:r.1.kind=0
  ·rw [if_pos h0] at h ⊢;injection h with h;subst h;exact ⟨rfl,hr⟩
  ·rw [if_neg h0] at h ⊢;unfold FE at h ⊢;cases h2:Ce ext L r.2.2 with
   | error x=>rw [h2] at h;cases h
   | ok x=>
    obtain ⟨g1,g2⟩:=Vr B hr h2;rw [h2] at h;rw [g1];simp only at h ⊢;injection h with h;subst h;exact ⟨rfl,g2⟩
theorem Adc (B:List UInt8) {ext:Bool} {L:List UInt8} {k:Nat} {q:Grd × List Wm × Nat} (hk:k≤L.length) (h:Jd ext L k=.ok q):Jd ext (C5 L B) k=.ok q∧q.2.2≤L.length:=by
 unfold Jd GB at h ⊢;cases h1:Eo ext L (EY ext false L k) with
 | error r=>rw [h1] at h;cases h
 | ok r=>
  obtain ⟨g1,g2⟩:=Vt B hk h1;rw [h1] at h;rw [g1];unfold FF at h ⊢;simp only at h ⊢;cases h2:C7 L r.2.2 with
  | error x=>rw [h2] at h;cases h
  | ok x=>
   obtain ⟨g3,g4⟩:=Vs B g2 h2;rw [h2] at h;rw [g3];simp only at h ⊢;injection h with h;subst h;exact ⟨rfl,g4⟩
def Tl (r r':CO):Prop:=r.1=0→r'=r
theorem Tl.then {r r':CO} {f f':CS→CO} (h:Tl r r') (hf:r.1=0→Tl (f r.2) (f' r.2)):Tl (r.then f) (r'.then f'):=by
 intro h0;unfold CO.then at h0 ⊢
 by_cases h1:r.1=0
 ·rw [h h1,if_pos h1,if_pos h1];rw [if_pos h1] at h0;exact hf h1 h0
 ·rw [if_neg h1] at h0;exact absurd h0 h1
theorem NC (B:List UInt8) {L:List UInt8} {st:CS} (hk:st.k≤L.length):B0 (C5 L B) st=B0 L st:=by
 unfold B0;rw [Mq B hk]
theorem Abk (B:List UInt8) {L:List UInt8} {st:CS} (hk:st.k≤L.length):Dk (C5 L B) st=Dk L st:=by
 unfold Dk;rw [NC B hk,Fj B hk]
theorem Vu (B:List UInt8) {L:List UInt8} {st:CS} (hk:st.k≤L.length):BH (C5 L B) st=BH L st:=by
 unfold BH;rw [Mq B hk,Fj B hk]
theorem Vv (B:List UInt8) {L:List UInt8} {st:CS} (hk:st.k≤L.length):B9 (C5 L B) st=B9 L st:=by
 unfold B9;rw [Mq B hk,Fj B hk]
theorem Mr (B:List UInt8) {L:List UInt8} {st:CS} (hk:st.k≤L.length):Cf (C5 L B) st=Cf L st:=by
 unfold Cf;rw [Fj B hk,AX B (DN hk)];cases L.drop (Ak L st.k) with
 | nil=>rfl
 | cons b t=>rfl
theorem Vw (B:List UInt8) {L:List UInt8} {st:CS} (hk:st.k≤L.length) (h:(A8 L st).2.1=0):A8 (C5 L B) st=A8 L st:=by
 unfold A8 at h ⊢;rw [AX B hk];cases hd:L.drop st.k with
 | nil=>rw [hd] at h;cases h
 | cons d t=>rfl
theorem Zz0 (B:List UInt8) (ext:Bool) {L:List UInt8} {d:UInt8} {st:CS} (hk:st.k≤L.length) (he:∀ k d q,Ar ext L k d=.error q→q.1≠0):Tl (DL ext L d st) (DL ext (C5 L B) d st):=by
 intro h0;unfold DL at h0 ⊢;cases h1:Ar ext L st.k d with
 | error q=>rw [h1] at h0;exact absurd h0 (he _ _ q h1)
 | ok q=>rw [N9 B hk h1]
theorem Abl (B:List UInt8) {L:List UInt8} {d:UInt8} {st:CS} (hk:st.k≤L.length):Tl (CL L d st) (CL (C5 L B) d st):=by
 intro h0;unfold CL at h0 ⊢;have h1:(Aj L (st.k:Int) d false).2.2=0:=by
  unfold DM at h0;split at h0
  ·assumption
  ·exact h0
 rw [Fk B d false hk h1]
theorem Y5 (B:List UInt8) {L:List UInt8} {b:UInt8} {st:CS} (hk:st.k≤L.length):AK (C5 L B) b st=AK L b st:=by
 unfold AK Dc;rw [P3 B hk]
theorem ND (B:List UInt8) {L:List UInt8}:∀ (n m:Nat) (st:CS),st.k≤L.length→L.length - st.k < n→L.length+1 - st.k < m→Tl (AA L n st) (AA (C5 L B) m st)
 | 0,m,st,hk,h1,_=>absurd h1 (Nat.not_lt_zero _)
 | n+1,0,st,hk,_,h2=>absurd h2 (Nat.not_lt_zero _)
 | n+1,m+1,st,hk,h1,h2=>by
  intro h0;unfold AA at h0 ⊢;rw [AX B hk];cases hd:L.drop st.k with
  | nil=>
   have hb:Ak L st.k=st.k:=by unfold Ak;rw [hd];rfl
   show (match AK (C5 L B) 10 st with | some r=>if r.1=0 then AA (C5 L B) m r.2 else r | none=>if (10:UInt8)=119 then B9 (C5 L B) (st.go (st.k+1)) else Cf (C5 L B) st)=(0,st)
   rw [show AK (C5 L B) 10 st=none from rfl];simp only;rw [if_neg (by decide),Mr B hk];unfold Cf;rw [hb,hd];rfl
  | cons b t=>
   rw [hd] at h0;have hlt:=Bh hd;rw [List.cons_append];simp only at h0 ⊢;rw [Y5 B hk];cases hf:AK L b st with
   | some r=>
    rw [hf] at h0;simp only at h0 ⊢;by_cases hr:r.1=0
    ·rw [if_pos hr] at h0;rw [if_pos hr,if_pos hr];obtain ⟨g1,g2⟩:=JG hlt hf hr;exact ND B n m r.2 g2 (by omega) (by omega) h0
    ·rw [if_neg hr,if_neg hr]
   | none=>
    simp only;by_cases h9:b=119
    ·rw [if_pos h9,if_pos h9];exact Vv B (by show st.k+1≤_;omega)
    ·rw [if_neg h9,if_neg h9];exact Mr B hk
theorem Abm (B:List UInt8) (ext:Bool) {L:List UInt8} {st:CS} (hk:st.k≤L.length) (he:∀ k d q,Ar ext L k d=.error q→q.1≠0):Tl (C8 ext L st) (C8 ext (C5 L B) st):=by
 intro h0;have hd0:(A8 L st).2.1=0:=by
  unfold C8 CO.then at h0
  split at h0
  ·assumption
  ·exact h0
 revert h0
 unfold C8;rw [Vw B hk hd0];have k1:=Fi hk;refine Tl.then (fun _=>rfl) fun _=>?_
 refine Tl.then (Zz0 B ext k1 he) fun h0=>?_
 have k2:=P0 k1 h0 (fun q=>he _ _ q);refine Tl.then (Abl B k2) fun _=>?_
 exact ND B _ _ _ (Je k2) (by omega) (by rw [Aee,List.length_cons];omega)
theorem Abn (B:List UInt8) {L:List UInt8} {st:CS} (hk:st.k≤L.length):Tl (Cy L st) (Cy (C5 L B) st):=by
 intro h0;have hd0:(A8 L st).2.1=0:=by
  unfold Cy CO.then at h0
  split at h0
  ·assumption
  ·exact h0
 revert h0
 unfold Cy;rw [Vw B hk hd0];have k1:=Fi hk;refine Tl.then (fun _=>rfl) fun _=>?_
 intro h0;unfold FI at h0 ⊢;have hr:(Aj L ((A8 L st).2.2.k:Int) (A8 L st).1 false).2.2=0:=by
  split at h0
  ·assumption
  ·exact h0
 rw [Fk B _ false k1 hr];rw [if_pos hr] at h0;rw [if_pos hr,if_pos hr];have k2:=D0 (d:=(A8 L st).1) (rx:=false) k1;unfold FH at h0 ⊢;have hr2:(Aj L ((Aj L ((A8 L st).2.2.k:Int) (A8 L st).1 false).2.1:Int) (A8 L st).1 false).2.2=0:=by
  split at h0
  ·assumption
  ·exact h0
 rw [Fk B _ false k2 hr2];rw [if_pos hr2,if_pos hr2];split
 ·refine Mr B ?_;show (Aj L ((Aj L ((A8 L st).2.2.k:Int) (A8 L st).1 false).2.1:Int) (A8 L st).1 false).2.1≤L.length;exact D0 k2
 ·rfl
def LnT (E:Nat) (r r':E1):Prop:=r'.1=r.1∧r'.2.2=0∧(r'.2.1=r.2.1∨(r.2.1=E∧r'.2.1=E+1))
theorem P5 (B:List UInt8):∀ (n:Nat) (l:List UInt8) (p:Nat) (acc:List UInt8),l.length≤n→(By l p acc).2.2=0→LnT (p+l.length) (By l p acc) (By (l++10 :: B) p acc)
 | _,[],p,acc,_,_=>by
  rw [List.nil_append,DZ];exact ⟨rfl,rfl,.inr ⟨rfl,rfl⟩⟩
 | 0,c :: t,_,_,h,_=>absurd h (Nat.not_succ_le_zero _)
 | n+1,c :: t,p,acc,h,h0=>by
  rw [List.cons_append];by_cases h1:c=10
  ·subst h1;rw [DZ,DZ];exact ⟨rfl,rfl,.inl rfl⟩
  ·by_cases h2:c=92
   ·subst h2;cases t with
    | nil=>rw [Dp] at h0;cases h0
    | cons x u=>
     rw [Ed] at h0;rw [List.cons_append,Ed,Ed];have:=P5 B n u (p+2) (acc++[x]) (by simp at h;omega) h0
     rwa [show p+2+u.length=p+(92 :: x :: u).length by simp;omega] at this
   ·rw [CD _ _ _ _ h1 h2] at h0;rw [CD _ _ _ _ h1 h2,CD _ _ _ _ h1 h2];have:=P5 B n t (p+1) (acc++[c]) (by simpa using h) h0
    rwa [show p+1+t.length=p+(c :: t).length by simp;omega] at this
theorem P6:∀ (n:Nat) (l:List UInt8) (p:Nat) (acc:List UInt8),l.length≤n→(By l p acc).2.1≤p+l.length
 | _,[],p,acc,_=>Aec _
 | 0,c :: t,_,_,h=>absurd h (Nat.not_succ_le_zero _)
 | n+1,c :: t,p,acc,h=>by
  by_cases h1:c=10
  ·subst h1;rw [DZ];simp
  ·by_cases h2:c=92
   ·subst h2;cases t with
    | nil=>rw [Dp];simp
    | cons x u=>
     rw [Ed];have:=P6 n u (p+2) (acc++[x]) (by simp at h;omega);simp;omega
   ·rw [CD _ _ _ _ h1 h2];have:=P6 n t (p+1) (acc++[c]) (by simpa using h);simp;omega
theorem Hw {L:List UInt8} {k:Nat} (hk:k≤L.length) (b:Bool):(Bo L k b).2.1≤L.length:=by
 have h1:k+Ee b (L.drop k)≤L.length:=by
  have:=Bw (fun x=>!Fb b x) (L.drop k);rw [List.length_drop] at this;unfold Ee;omega
 unfold Bo Ef;split
 ·exact hk
 ·split
  ·exact hk
  ·exact h1
def U5 (L:List UInt8) (r r':CO):Prop:=r.1=0→r'.1=0∧r'.2.c=r.2.c∧r'.2.ms=r.2.ms∧(r'.2.k=r.2.k∨(r.2.k=L.length∧r'.2.k=L.length+1))∧r.2.k≤L.length
theorem Tl.fin {L:List UInt8} {r r':CO} (h:Tl r r') (hk:r.1=0→r.2.k≤L.length):U5 L r r':=fun h0=>by
 rw [h h0];exact ⟨h0,rfl,rfl,.inl rfl,hk h0⟩
theorem U5.of {L:List UInt8} {r r':CO} (h:r'=r) (hk:r.2.k≤L.length):U5 L r r':=fun h0=>by
 rw [h];exact ⟨h0,rfl,rfl,.inl rfl,hk⟩
theorem NE (B:List UInt8) {L:List UInt8} {st:CS} (hk:st.k≤L.length):U5 L (Db L st) (Db (C5 L B) st):=by
 intro h0;have hl:st.k+(L.drop st.k).length=L.length:=by rw [List.length_drop];omega
 obtain ⟨a1,a2,a3⟩:=P5 B _ (L.drop st.k) st.k [] (Aec _) h0;have a4:=P6 _ (L.drop st.k) st.k [] (Aec _);rw [hl] at a3 a4;unfold Db;rw [AX B hk];refine ⟨a2,?_,rfl,a3,a4⟩;show (st.arg (By (L.drop st.k++10 :: B) st.k []).1 0).c=(st.arg (By (L.drop st.k) st.k []).1 0).c;rw [a1]
theorem Y6 (B:List UInt8) {L:List UInt8} {st:CS} (hk:st.k≤L.length):U5 L (C3 L st) (C3 (C5 L B) st):=by
 have hb:=DN hk;unfold C3;rw [Fj B hk,AX B hb];cases hd:L.drop (Ak L st.k) with
 | nil=>intro h0;cases h0
 | cons c t=>
  have hlt:=Bh hd;rw [List.cons_append];simp only;by_cases h1:c=10
  ·rw [if_pos h1];intro h0;cases h0
  ·rw [if_neg h1,if_neg h1];by_cases h2:c=92∧t.head?=some 10
   ·have h3:c=92∧(t++10 :: B).head?=some 10:=by
     refine ⟨h2.1,?_⟩;cases t with
     | nil=>rfl
     | cons x u=>exact h2.2
    rw [if_pos h2,if_pos h3];refine NE B ?_;show Ak L st.k+2≤L.length;cases t with
    | nil=>cases h2.2
    | cons x u=>
     have:=congrArg List.length hd;rw [List.length_drop] at this;simp at this;omega
   ·rw [if_neg h2];by_cases h3:c=92∧(t++10 :: B).head?=some 10
    ·intro h0;exfalso;cases t with
     | nil=>
      have e:(Db L ((st.go (Ak L st.k)).mark st.c.pl [116,101,120,116])).1=(By (L.drop (Ak L st.k)) (Ak L st.k) []).2.2:=rfl;rw [e,hd,h3.1,Dp] at h0;cases h0
     | cons x u=>exact h2 h3
    ·rw [if_neg h3];exact NE B hb
theorem Lq {L:List UInt8}:∀ (n:Nat) (st:CS),st.k≤L.length→(AA L n st).1=0→(AA L n st).2.k≤L.length
 | 0,st,hk,_=>hk
 | n+1,st,hk,h0=>by
  unfold AA at h0 ⊢;cases hd:L.drop st.k with
  | nil=>exact hk
  | cons b t=>
   rw [hd] at h0;have hlt:=Bh hd;simp only at h0 ⊢;cases hf:AK L b st with
   | some r=>
    rw [hf] at h0;simp only at h0 ⊢;by_cases hr:r.1=0
    ·rw [if_pos hr] at h0 ⊢;exact Lq n r.2 (JG hlt hf hr).2 h0
    ·rw [if_neg hr] at h0;exact absurd h0 hr
   | none=>
    simp only;split
    ·unfold B9;split
     ·exact hlt
     ·exact Hw (show st.k+1≤L.length by omega) false
    ·unfold Cf;have hb:=DN hk;split
     ·exact hb
     ·split
      ·exact hb
      ·split
       ·exact hb
       ·exact hb
theorem RJ {L:List UInt8} {st:CS} (hk:st.k≤L.length):(Cf L st).2.k≤L.length:=by
 have hb:=DN hk;unfold Cf;split
 ·exact hb
 ·split
  ·exact hb
  ·split
   ·exact hb
   ·exact hb
theorem Jg {L:List UInt8} {r:CO} {f:CS→CO} (h:r.1=0→(f r.2).1=0→(f r.2).2.k≤L.length) (h0:(r.then f).1=0):(r.then f).2.k≤L.length:=by
 unfold CO.then at h0 ⊢
 by_cases h1:r.1=0
 ·rw [if_pos h1] at h0 ⊢;exact h h1 h0
 ·rw [if_neg h1] at h0;exact absurd h0 h1
theorem Y7 {ext:Bool} {L:List UInt8} {st:CS} (hk:st.k≤L.length) (he:∀ k d q,Ar ext L k d=.error q→q.1≠0) (h0:(C8 ext L st).1=0):(C8 ext L st).2.k≤L.length:=by
 unfold C8 at h0 ⊢;refine Jg (fun _=>Jg (fun h1=>Jg fun _=>?_)) h0;exact Lq _ _ (Je (P0 (Fi hk) h1 (fun q=>he _ _ q)))
theorem Y8 {L:List UInt8} {st:CS} (hk:st.k≤L.length) (h0:(Cy L st).1=0):(Cy L st).2.k≤L.length:=by
 unfold Cy at h0 ⊢;refine Jg (fun _ _=>?_) h0;have k1:=Fi hk;have k2:=D0 (d:=(A8 L st).1) (rx:=false) k1;have k3:=D0 (d:=(A8 L st).1) (rx:=false) k2;unfold FI;split
 ·unfold FH;split
  ·split
   ·exact RJ k3
   ·exact k2
  ·exact k3
 ·exact k2
theorem Vx (B:List UInt8) (ext:Bool) {L:List UInt8} {st:CS} (hk:st.k≤L.length) (he:∀ k d q,Ar ext L k d=.error q→q.1≠0):U5 L (BA ext L st) (BA ext (C5 L B) st):=by
 unfold BA;simp only;split
 ·exact U5.of rfl hk
 ·split
  ·exact U5.of (NC B hk) (Hw hk true)
  ·split
   ·refine U5.of (Abk B hk) ?_;unfold Dk;split
    ·exact DN hk
    ·exact Hw hk true
   ·split
    ·exact Y6 B hk
    ·split
     ·refine U5.of (Vu B hk) ?_;unfold BH;split
      ·exact hk
      ·exact Hw hk false
     ·split
      ·exact (Abm B ext hk he).fin (Y7 hk he)
      ·split
       ·exact (Abn B hk).fin (Y8 hk)
       ·exact U5.of (Mr B hk) (RJ hk)
theorem Vy (B:List UInt8) (ext:Bool) {L:List UInt8} (st:CS) (hk:st.k≤L.length) (he:∀ k d q,Ar ext L k d=.error q→q.1≠0):U5 L (AO ext L st) (AO ext (C5 L B) st):=by
 intro h0;unfold AO at h0 ⊢;cases hd:L.drop st.k with
 | nil=>
  exfalso;have e:Bg L st=(5,st):=by unfold Bg;rw [hd]
  rw [e] at h0;cases h0
 | cons b t=>
  have hlt:=Bh hd;have e:Bg L st=BG st b (E9 b):=by unfold Bg;rw [hd]
  have e':Bg (C5 L B) st=BG st b (E9 b):=by unfold Bg;rw [AX B hk,hd];rfl
  rw [e] at h0;rw [e,e'];unfold CO.then at h0 ⊢
  by_cases h1:(BG st b (E9 b)).1=0
  ·rw [if_pos h1] at h0;rw [if_pos h1,if_pos h1];refine Vx B ext ?_ he h0;unfold BG;split
   ·exact hk
   ·split
    ·exact hk
    ·split
     ·show st.k+1≤L.length;omega
     ·show st.k+1≤L.length;omega
  ·rw [if_neg h1] at h0;exact absurd h0 h1
theorem Aaa (B:List UInt8) {ext:Bool} {L:List UInt8} {k:Nat} {c:Cmd} {ms:List Wm} {p:Nat} (hk:k≤L.length) (he:∀ k d q,Ar ext L k d=.error q→q.1≠0) (h:Mn ext L k=.ok (c,ms,p)) :
  ∃ p',Mn ext (C5 L B) k=.ok (c,ms,p')∧(p'=p∨(p=L.length∧p'=L.length+1))∧p≤L.length:=by
 unfold Mn UZ at h ⊢;cases h1:Jd ext L k with
 | error q=>rw [h1] at h;cases h
 | ok q=>
  obtain ⟨g1,g2⟩:=Adc B hk h1;rw [h1] at h;rw [g1];simp only at h ⊢;have hw:=Vy B ext (Bd q.1 q.2.1 q.2.2) g2 he;generalize AO ext L (Bd q.1 q.2.1 q.2.2)=r at h hw;generalize AO ext (C5 L B) (Bd q.1 q.2.1 q.2.2)=r' at hw ⊢;unfold FJ at h ⊢;split at h
  ·rename_i h0;obtain ⟨w1,w2,w3,w4,w5⟩:=hw h0;rw [if_pos w1,w2,w3];injection h with h;injection h with e1 h;injection h with e2 e3;subst e1 e2 e3;exact ⟨_,rfl,w4,w5⟩
  ·cases h
theorem RK {p:UInt8→Bool} (X:List UInt8):∀ {l:List UInt8},¬ AF p l < l.length→AF p (l++X)=l.length+AF p X
 | [],_=>by simp
 | c :: l,h=>by
  cases hc:p c with
  | true=>
   rw [Br hc] at h;rw [List.cons_append,Br hc,RK X (l:=l) (by simpa using h),List.length_cons];omega
  | false=>rw [Cr hc] at h;simp at h
theorem Ms {L:List UInt8} {k:Nat} (hk:k≤L.length):C4 L k≤L.length:=by
 have:=Bw (fun b=>([32,9,10,59]:List UInt8).contains b) (L.drop k);rw [List.length_drop] at this;unfold C4 EI;omega
theorem Mt {L:List UInt8} {k:Nat} (hk:k≤L.length):k+Dv L k≤L.length:=by
 have:=Bw (fun b=>!(b == (10:UInt8))) (L.drop k);rw [List.length_drop] at this;unfold Dv;omega
theorem Vz (B:List UInt8) {L:List UInt8} {k:Nat} (hk:k≤L.length) (h:C4 L k < L.length):C4 (C5 L B) k=C4 L k:=by
 unfold C4 EI at h ⊢;rw [AX B hk,P4 _ (by rw [List.length_drop];omega)]
theorem SQ (B:List UInt8) {L:List UInt8} {k:Nat} (hk:k≤L.length) (h:¬ C4 L k < L.length):C4 (C5 L B) k=C4 (C5 L B) (L.length+1):=by
 unfold C4 EI at h ⊢;rw [AX B hk,RK _ (by rw [List.length_drop];omega),show (C5 L B).drop (L.length+1)=B from Bj L (10 :: B) 1,Br (by decide),List.length_drop];omega
theorem Aab (B:List UInt8) {L:List UInt8} {k:Nat} (hk:k≤L.length):Dv (C5 L B) k=Dv L k:=by
 unfold Dv;rw [AX B hk];exact JJ (p:=fun b=>!(b == 10)) rfl B _
theorem ER (L:List UInt8) (n k:Nat):BC L (n+1) k=if (L.drop k).head?=some 35 then BC L n (C4 L (k+Dv L k)) else k:=rfl
theorem P7 (M:List UInt8) (n m k:Nat) (h1:M.length - k < n) (h2:M.length - k < m):BC M m k=BC M n k:=by
 have h:=JI [] M n m k h1 h2;simpa using h
theorem NF (L:List UInt8):∀ n k,k≤BC L n k
 | 0,k=>Aec _
 | n+1,k=>by
  rw [ER];split
  ·have h1:=NF L n (C4 L (k+Dv L k));have h2:=Lo L (k+Dv L k);omega
  ·exact Aec _
theorem Y9 (L:List UInt8) (k:Nat):k≤Aq L k:=Aed (Lo L k) (NF L _ _)
theorem NG (B:List UInt8) {L:List UInt8}:∀ n m k,k≤L.length→L.length - k < n→(C5 L B).length - k < m→
  (BC L n (C4 L k) < L.length→BC (C5 L B) m (C4 (C5 L B) k)=BC L n (C4 L k))∧(¬ BC L n (C4 L k) < L.length→BC (C5 L B) m (C4 (C5 L B) k)=Aq (C5 L B) (L.length+1))
 | 0,_,_,_,h,_=>absurd h (Nat.not_lt_zero _)
 | _,0,_,_,_,h=>absurd h (Nat.not_lt_zero _)
 | n+1,m+1,k,hk,h1,h2=>by
  have hg:=Lo L k;have hM:(C5 L B).length=L.length+(B.length+1):=by rw [Aee,List.length_cons]
  by_cases hs:C4 L k < L.length
  ·rw [Vz B hk hs,ER,ER,Aab B (Aeg hs)];by_cases hh:(L.drop (C4 L k)).head?=some 35
   ·have hh':((C5 L B).drop (C4 L k)).head?=some 35:=by rw [AX B (Aeg hs)];exact (Fl (by decide) B _).2 hh
    rw [if_pos hh,if_pos hh'];have ha:=(P2 hh).1;exact NG B n m _ (Mt (Aeg hs)) (by omega) (by omega)
   ·have hh':¬ ((C5 L B).drop (C4 L k)).head?=some 35:=by rw [AX B (Aeg hs)];exact fun e=>hh ((Fl (by decide) B _).1 e)
    rw [if_neg hh,if_neg hh'];exact ⟨fun _=>rfl,fun h=>absurd hs h⟩
  ·have hd:L.drop (C4 L k)=[]:=List.drop_eq_nil_of_le (by omega);have e:BC L (n+1) (C4 L k)=C4 L k:=by rw [ER,hd];rfl
   rw [e,SQ B hk hs];refine ⟨fun h=>absurd h hs,fun _=>?_⟩;have hj:=Lo (C5 L B) (L.length+1);exact P7 _ _ _ _ (by omega) (by omega)
theorem RL (B:List UInt8) {L:List UInt8} {k:Nat} (hk:k≤L.length) :
  (Aq L k < L.length→Aq (C5 L B) k=Aq L k)∧(¬ Aq L k < L.length→Aq (C5 L B) k=Aq (C5 L B) (L.length+1)):=
 NG B (L.length+1) ((C5 L B).length+1) k hk (by omega) (by omega)
theorem YA (B:List UInt8) {ext:Bool} {L:List UInt8} {st st2:SS} (he:∀ k d q,Ar ext L k d=.error q→q.1≠0) (hk:st.k≤L.length) (h:Cn ext L st=.ok st2) :
  ∃ k',Cn ext (C5 L B) st=.ok (st2.go k')∧(st2.k≤L.length∧k'=st2.k∨st2.k=L.length∧k'=L.length+1)∧st2.cs.length=st.cs.length+1∧st.cs.length≠100:=by
 unfold Cn at h ⊢;by_cases h1:st.cs.length=100
 ·rw [if_pos h1] at h;cases h
 ·rw [if_neg h1] at h ⊢;unfold E5 at h ⊢;cases hc:Mn ext L st.k with
  | error q=>rw [hc] at h;cases h
  | ok q=>
   obtain ⟨c,ms,p⟩:=q;obtain ⟨p',g1,g2,g3⟩:=Aaa B hk he hc;rw [hc] at h;rw [g1];simp only at h ⊢;unfold Gv at h ⊢;split at h
   ·rename_i h0;rw [if_pos h0];injection h with h;subst h;refine ⟨p',rfl,?_,by simp,h1⟩;rcases g2 with rfl | ⟨rfl,rfl⟩
    ·exact .inl ⟨g3,rfl⟩
    ·exact .inr ⟨rfl,rfl⟩
   ·cases h
theorem Mu (ext:Bool) (L:List UInt8) (n:Nat) (st:SS):BR ext L (n+1) st=if Aq L st.k < L.length then (match Cn ext L (st.go (Aq L st.k)) with | .error q=>.error q | .ok st'=>BR ext L n st') else .ok (st.go (Aq L st.k)):=rfl
theorem V0 (B:List UInt8) {ext:Bool} {L:List UInt8} (he:∀ k d q,Ar ext L k d=.error q→q.1≠0):∀ (n:Nat) (st:SS) (k':Nat) (st2:SS),102≤st.cs.length+n→st.cs.length≤100→(st.k≤L.length∧k'=st.k∨st.k=L.length∧k'=L.length+1)→BR ext L n st=.ok st2→
  ∃ m st3,BR ext (C5 L B) n (st.go k')=BR ext (C5 L B) m st3∧st3.cs=st2.cs∧st3.ms=st2.ms∧st3.op=st2.op∧Aq (C5 L B) st3.k=Aq (C5 L B) (L.length+1)∧102≤st2.cs.length+m∧st2.cs.length≤100
 | 0,st,k',st2,h1,h2,_,_=>by omega
 | n+1,st,k',st2,h1,h2,hk,h=>by
  rw [Mu] at h;by_cases hs:Aq L st.k < L.length
  ·rw [if_pos hs] at h;have hg:=Y9 L st.k;obtain ⟨hk1,rfl⟩:st.k≤L.length∧k'=st.k:=by
    rcases hk with hk | hk
    ·exact hk
    ·omega
   have hM:=(RL B hk1).1 hs;rw [Mu,show (st.go st.k).k=st.k from rfl,hM,if_pos (by rw [Aee];omega),show (st.go st.k).go (Aq L st.k)=st.go (Aq L st.k) from rfl];cases hc:Cn ext L (st.go (Aq L st.k)) with
   | error q=>rw [hc] at h;cases h
   | ok st4=>
    rw [hc] at h;obtain ⟨k5,c1,c2,c3,c4⟩:=YA B he (st:=st.go (Aq L st.k)) (Aeg hs) hc;rw [c1];have c3:st4.cs.length=st.cs.length+1:=c3;have c4:st.cs.length≠100:=c4;exact V0 B he n st4 k5 st2 (by omega) (by omega) c2 h
  ·rw [if_neg hs] at h;injection h with h;subst h;refine ⟨n+1,st.go k',rfl,rfl,rfl,rfl,?_,h1,h2⟩;show Aq (C5 L B) k'=_;rcases hk with ⟨hk1,rfl⟩ | ⟨_,rfl⟩
   ·exact (RL B hk1).2 hs
   ·rfl
end
end Go.Proofs.YteilldmmihiijaaGreatDoor
