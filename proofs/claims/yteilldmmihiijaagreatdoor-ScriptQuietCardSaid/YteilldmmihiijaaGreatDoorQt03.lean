/- Texts. -/
import Derived.Test.YteilldmmihiijaaGreatDoorQt01
import Derived.Test.YteilldmmihiijaaGreatDoorQt02
import Derived.Lib.IndexMore
import Derived.Lib.Strings
import Derived.KernelRfl
import Derived.BigQuiet
import Derived.Deep.QuietTactic
import Derived.Deep.DeepCutAuto
import Derived.Outline
import Derived.Shelf.Strings.Search3
import Derived.Shelf.Strings.Prefix
import Derived.Laws.BytesArg
set_option linter.unusedSimpArgs false
set_option linter.unusedVariables false
set_option maxHeartbeats 8000000
set_option maxRecDepth 1000000
namespace Go.Proofs.YteilldmmihiijaaGreatDoor
open Go.Lib renaming hid→Ac8
open Nat renaming le_refl→Adf,le_trans→Adg,lt_of_lt_of_le→Adi
open Go.RowKit.Below renaming refl→Adk
open Go.IntWalk renaming i64_in→Adm
section
def byt (s:List UInt8) (k:Nat):Nat:=(s.getD k 0).toNat
def Ng (s:List UInt8) (kind:Nat) (e:Nat):Option Nat:=
 if e+1 < s.length then (if byt s e=kind∧byt s (e+1)=93 then some e else Ng s kind (e+1)) else none
termination_by s.length - e
structure Itm where
 set:OSet
 may:Bool
 next:Nat
 err:Nat
 place:Nat
def opens (s:List UInt8) (k:Nat):Bool:=decide (byt s k=91) && decide (k+1 < s.length) && (decide (byt s (k+1)=58) || decide (byt s (k+1)=61) || decide (byt s (k+1)=46))
def sub (s:List UInt8) (i j:Nat):List UInt8:=(s.drop i).take (j - i)
def KX (s:List UInt8) (k e:Nat):Itm:=
 if byt s (k+1)=58 then (if CA (sub s (k+2) e) then ⟨A4 (sub s (k+2) e),false,e+2,0,0⟩ else ⟨oz,false,0,6,k⟩)
 else if e=k+3 then ⟨Ab (byt s (k+2)) (byt s (k+2)),decide (byt s (k+1)=46),e+2,0,0⟩
 else ⟨oz,false,0,6,k⟩
def Gj (s:List UInt8) (k:Nat):Nat:=if byt s (k+1)=58 then k+2 else k+3
def ET (s:List UInt8) (k:Nat):Itm:=
 if s.length≤k then ⟨oz,false,0,5,s.length⟩
 else if opens s k then (match Ng s (byt s (k+1)) (Gj s k) with
  | some e=>KX s k e
  | none=>⟨oz,false,0,5,s.length⟩)
 else ⟨Ab (byt s k) (byt s k),true,k+1,0,0⟩
theorem J1 (s:List UInt8) (kind:Nat) (e x:Nat) (h:Ng s kind e=some x):e≤x∧x+1 < s.length:=by
 fun_induction Ng s kind e with
 | case1 e h1 h2=>simp at h;omega
 | case2 e h1 h2 ih=>have:=ih h;omega
 | case3 e h1=>simp at h
theorem J2 (s:List UInt8) (k:Nat) (h:(ET s k).err=0):k < (ET s k).next∧(ET s k).next≤s.length:=by
 unfold ET at h ⊢;split at h
 ·simp at h
 ·rename_i hk
  rw [if_neg hk];split at h
  ·rename_i ho
   rw [if_pos ho];split at h
   ·rename_i e he
    have hge:=J1 _ _ _ _ he;have hf:k+2≤Gj s k:=by unfold Gj;split <;> omega
    unfold KX at h ⊢;split at h
    ·split at h
     ·rename_i h1 h2
      rw [if_pos h1,if_pos h2];simp only;omega
     ·simp at h
    ·split at h
     ·rename_i h1 h2
      rw [if_neg h1,if_pos h2];simp only;omega
     ·simp at h
   ·simp at h
  ·rename_i ho
   rw [if_neg ho];simp only;omega
def Ui (s:OSet):Nat:=match Zw s with
 | []=>0
 | p :: _=>p.1
def TU (s:List UInt8) (k:Nat):Except (Nat × Nat) (OSet × Nat):=
 let a:=ET s k
 if a.err≠0 then .error (a.err,a.place)
 else if a.next+1 < s.length∧byt s a.next=45∧byt s (a.next+1)≠93 then
  let b:=ET s (a.next+1)
  if b.err≠0 then .error (b.err,b.place)
  else if a.may && b.may && decide (Ui a.set≤Ui b.set) then .ok (Ab (Ui a.set) (Ui b.set),b.next)
  else .error (1,k)
 else .ok (a.set,a.next)
theorem J3 (s:List UInt8) (k:Nat) (t:OSet) (j:Nat) (h:TU s k=.ok (t,j)):k < j∧j≤s.length:=by
 unfold TU at h;simp only at h;split at h
 ·cases h
 ·rename_i h1
  have h2:=J2 s k (by simpa using h1);split at h
  ·split at h
   ·cases h
   ·rename_i h3
    have h4:=J2 s _ (by simpa using h3);split at h
    ·injection h with h;injection h with _ h;omega
    ·cases h
  ·injection h with h;injection h with _ h;omega
/-- The rest of an expression from k on: its set beside what was there, and the place behind it; or the error. -/
def IB (s:List UInt8) (first:Bool) (k:Nat) (out:OSet):Except (Nat × Nat) (OSet × Nat):=
 if first=false∧k < s.length∧byt s k=93 then .ok (out,k+1)
 else match h:TU s k with
  | .error e=>.error e
  | .ok (t,j)=>IB s false j (out ||| t)
termination_by s.length - k
decreasing_by have:=J3 s k t j h;omega
def Fo (s:List UInt8) (k:Int):OSet × Int × Nat:=
 if k < 0∨(s.length:Int) < k then (oz,0,1)
 else
  let k:=k.toNat
  let not:=decide (k < s.length) && decide (byt s k=94)
  match IB s true (if not then k+1 else k) oz with
  | .error (e,p)=>(oz,p,e)
  | .ok (t,j)=>(if not then ~~~t else t,j,0)
end
section
theorem IV (b k:Nat) (hb:b < 256):ohas (Ab b b) k=(decide (b≤k) && decide (k < b+1)):=by
 unfold ohas Ab;rw [Int.toNat_natCast,show ((b:Int) - (b:Int)+1).toNat=1 by omega,FO _ _ _ (by omega)]
theorem LQ (b:Nat) (hb:b < 256):Zw (Ab b b)≠[]∧Ui (Ab b b)=b:=by
 have h1:ohas (Ab b b) b=true:=by rw [IV b b hb];simp
 cases hs:Zw (Ab b b) with
 | nil=>
  have h:=XA _ hs;rw [h] at h1;simp [ohas,oz] at h1
 | cons p l=>
  refine ⟨by simp,?_⟩;obtain ⟨_,h2,h3⟩:=RI _ p l hs;unfold Ui;rw [hs];rw [IV b p.1 hb] at h2;simp only [Bool.and_eq_true,decide_eq_true_eq] at h2;simp only;omega
theorem Gw (s:List UInt8) (k:Nat):byt s k < 256:=(s.getD k 0).toNat_lt
theorem QT (s:List UInt8) (k:Nat) (h:(ET s k).may=true):∃ b:Nat,b < 256∧(ET s k).set=Ab b b:=by
 unfold ET at h ⊢;split at h
 ·simp at h
 ·rename_i hk
  rw [if_neg hk];split at h
  ·rename_i ho
   rw [if_pos ho];split at h
   ·rename_i e he
    unfold KX at h ⊢;split at h
    ·split at h <;> simp at h
    ·rename_i h1
     rw [if_neg h1];split at h
     ·rename_i h2
      rw [if_pos h2];exact ⟨_,Gw s (k+2),rfl⟩
     ·simp at h
   ·simp at h
  ·rename_i ho
   rw [if_neg ho];exact ⟨_,Gw s k,rfl⟩
theorem ZS (s:List UInt8) (first:Bool) (k:Nat) (out t:OSet) (j:Nat) (hn:¬ (first=false∧k < s.length∧byt s k=93)) (h:TU s k=.ok (t,j)):IB s first k out=IB s false j (out ||| t):=by
 rw [IB,if_neg hn];split
 ·rename_i e h2
  rw [h] at h2;cases h2
 ·rename_i t' j' h2
  rw [h] at h2;cases h2
  rfl
theorem QU (s:List UInt8) (first:Bool) (k:Nat) (out:OSet) (e:Nat × Nat) (hn:¬ (first=false∧k < s.length∧byt s k=93)) (h:TU s k=.error e):IB s first k out=.error e:=by
 rw [IB,if_neg hn];split
 ·rename_i e2 h2
  rw [h] at h2;cases h2
  rfl
 ·rename_i t' j' h2
  rw [h] at h2;cases h2
end
section
theorem GM (s:List UInt8) (k:Nat) (h:k < s.length):s.drop k=s[k] :: s.drop (k+1)∧byt s k=s[k].toNat:=by
 refine ⟨List.drop_eq_getElem_cons h,?_⟩;unfold byt;rw [List.getD_eq_getElem?_getD,List.getElem?_eq_getElem h];rfl
theorem QV (a b:UInt8):(a == b)=decide (a.toNat=b.toNat):=by
 by_cases h:a=b
 ·subst h;simp
 ·have h2:a.toNat≠b.toNat:=fun e=>h (UInt8.toNat_inj.1 e)
  simp [h,h2]
theorem XI (s:List UInt8) (k:UInt8) (e:Nat) (he:e≤s.length):Lib.index (s.drop e) [k,93]=match Ng s k.toNat e with
  | some x=>(x:Int) - (e:Int)
  | none=>-1:=by
 obtain ⟨n,hn⟩:∃ n,n=s.length - e:=⟨_,rfl⟩;induction n generalizing e with
 | zero=>
  have:e=s.length:=by omega
  subst this;rw [Ng,if_neg (by omega),List.drop_length];rfl
 | succ n ih=>
  have hlt:e < s.length:=by omega
  obtain ⟨h1,h2⟩:=GM s e hlt;have ih:=ih (e+1) (by omega) (by omega);rw [h1,Ng];unfold Lib.index;rw [ih];by_cases hl:e+1 < s.length
  ·obtain ⟨h3,h4⟩:=GM s (e+1) hl
   rw [if_pos hl,h3,h2,h4];have hp:[k,93].isPrefixOf (s[e] :: s[e+1] :: s.drop (e+1+1))=(decide (s[e].toNat=k.toNat) && decide (s[e+1].toNat=93)):=by
    simp only [List.isPrefixOf,Bool.and_true];rw [QV,QV]
    congr 1
    ·exact decide_eq_decide.2 ⟨Eq.symm,Eq.symm⟩
    ·exact decide_eq_decide.2 ⟨Eq.symm,Eq.symm⟩
   rw [hp];by_cases hc:s[e].toNat=k.toNat∧s[e+1].toNat=93
   ·rw [if_pos hc,if_pos (by simp [hc])]
    simp
   ·rw [if_neg hc,if_neg (by simpa using hc)]
    cases hf:Ng s k.toNat (e+1) with
    | none=>simp
    | some x=>
     have:=J1 _ _ _ _ hf;simp only;rw [if_neg (by simp;omega)];omega
  ·rw [if_neg hl]
   have h3:s.drop (e+1)=[]:=List.drop_eq_nil_of_le (by omega);rw [h3];have h4:Ng s k.toNat (e+1)=none:=by rw [Ng,if_neg (by omega)]
   rw [h4];have hp:[k,93].isPrefixOf [s[e]]=false:=by simp [List.isPrefixOf]
   rw [hp];simp
theorem QW (s:List UInt8) (k:Nat) (o:UInt8):Lib.hasPrefix (s.drop k) [o]=(decide (k < s.length) && decide (byt s k=o.toNat)):=by
 unfold Lib.hasPrefix;by_cases hl:k < s.length
 ·obtain ⟨h3,h4⟩:=GM s k hl
  rw [h3,h4];simp only [List.isPrefixOf,Bool.and_true,hl,decide_true,Bool.true_and];rw [QV];exact decide_eq_decide.2 ⟨Eq.symm,Eq.symm⟩
 ·rw [List.drop_eq_nil_of_le (by omega)]
  simp [hl]
theorem XJ (s:List UInt8) (k:Nat) (a o:UInt8):Lib.hasPrefix (s.drop k) [a,o]=(decide (k+1 < s.length) && decide (byt s k=a.toNat) && decide (byt s (k+1)=o.toNat)):=by
 unfold Lib.hasPrefix;by_cases hl:k < s.length
 ·obtain ⟨h3,h4⟩:=GM s k hl
  have:=QW s (k+1) o;unfold Lib.hasPrefix at this;rw [h3,h4];show (a == s[k] && [o].isPrefixOf (s.drop (k+1)))=_;rw [this,QV];rw [show decide (a.toNat=s[k].toNat)=decide (s[k].toNat=a.toNat) from decide_eq_decide.2 ⟨Eq.symm,Eq.symm⟩];cases decide (k+1 < s.length) <;> cases decide (s[k].toNat=a.toNat) <;> rfl
 ·rw [List.drop_eq_nil_of_le (by omega)]
  simp [show ¬ (k+1 < s.length) by omega]
theorem RU (a b:Nat) (h:b < a):Ab a b=oz:=by
 unfold Ab;rw [show ((b:Int) - (a:Int)+1).toNat=0 by omega];rfl
theorem RW (a b:Nat) (hb:b < 256) (h:a≤b):Ab a b≠oz:=by
 intro hz;have h1:ohas (Ab a b) a=true:=by
  unfold ohas Ab;rw [Int.toNat_natCast,FO _ _ _ (by omega)];simp;omega
 rw [hz] at h1;simp [ohas,oz] at h1
end
section
def K8 (r:OSet × Int × Nat):Value:=.tuple #[.agg #[.int .u64 (ow r.1 0),.int .u64 (ow r.1 1),.int .u64 (ow r.1 2),.int .u64 (ow r.1 3)],.int .i64 r.2.1,.int .i64 (r.2.2:Int)]
def Uj (s:List UInt8) (k:Nat):Bool:=decide (k < s.length) && decide (byt s k=94)
theorem XK (s:List UInt8) (k:Int) (h:k < 0∨(s.length:Int) < k):Fo s k=(oz,0,1):=by
 unfold Fo;rw [if_pos h]
theorem OR (s:List UInt8) (n:Nat) (h:n≤s.length) (t:OSet) (j:Nat) (hr:IB s true (if Uj s n then n+1 else n) oz=.ok (t,j)):Fo s (n:Int)=(if Uj s n then ~~~t else t,(j:Int),0):=by
 unfold Fo;rw [if_neg (by omega)];simp only [Int.toNat_natCast];unfold Uj at hr ⊢;rw [hr]
theorem LR (s:List UInt8) (n:Nat) (h:n≤s.length) (e p:Nat) (hr:IB s true (if Uj s n then n+1 else n) oz=.error (e,p)):Fo s (n:Int)=(oz,(p:Int),e):=by
 unfold Fo;rw [if_neg (by omega)];simp only [Int.toNat_natCast];unfold Uj at hr;rw [hr]
theorem LS (s:List UInt8) (k e p:Nat) (h:TU s k=.error (e,p)):e≠0:=by
 unfold TU at h;simp only at h;split at h
 ·rename_i h1
  injection h with h;injection h with h2 _;rw [←h2];exact h1
 ·split at h
  ·split at h
   ·rename_i h1
    injection h with h;injection h with h2 _;rw [←h2];exact h1
   ·split at h
    ·cases h
    ·injection h with h
     injection h with h2 _;omega
  ·cases h
theorem QX (s:List UInt8) (fl:Bool) (k:Nat) (out:OSet) (e p:Nat) (h:IB s fl k out=.error (e,p)):e≠0:=by
 fun_induction IB s fl k out with
 | case1=>cases h
 | case2 _ _ _ _ x hx=>
  injection h with h;subst h;exact LS _ _ _ _ hx
 | case3 _ _ _ _ _ _ _ ih=>exact ih h
end
section
theorem Uk (s:List UInt8) (fl:Bool) (k:Nat) (acc t:OSet) (j:Nat) (h:IB s fl k acc=.ok (t,j)):k < j∧j≤s.length:=by
 fun_induction IB s fl k acc with
 | case1 fl k acc h1=>
  injection h with h;injection h with _ h;omega
 | case2 fl k acc hn e he=>cases h
 | case3 fl k acc hn t' j' he ih=>
  have h1:=ih h;have h2:=J3 _ _ _ _ he;omega
theorem Ul (s:List UInt8) (fl:Bool) (k:Nat) (acc:OSet) (e p:Nat) (h:IB s fl k acc=.error (e,p)):e≠0:=by
 fun_induction IB s fl k acc with
 | case1 fl k acc h1=>cases h
 | case2 fl k acc hn e' he=>
  injection h with h;subst h;exact LS _ _ _ _ he
 | case3 fl k acc hn t' j' he ih=>exact ih h
theorem J4 (s:List UInt8) (n:Nat) (h:n≤s.length):∃ (t:OSet) (j e:Nat),Fo s (n:Int)=(t,(j:Int),e)∧(e=0→n < j∧j≤s.length):=by
 cases hr:IB s true (if Uj s n then n+1 else n) oz with
 | error q=>
  obtain ⟨e,p⟩:=q;exact ⟨_,_,_,LR s n h e p hr,fun h0=>absurd h0 (Ul _ _ _ _ _ _ hr)⟩
 | ok q=>
  obtain ⟨t,j⟩:=q;refine ⟨_,_,_,OR s n h t j hr,fun _=>?_⟩;have:=Uk _ _ _ _ _ _ hr;split at this <;> omega
end
section
end
section
def chAt (s:List UInt8) (k b:Nat):Bool:=decide (k < s.length) && decide (byt s k=b)
def BI (s:List UInt8) (k b:Nat):Bool:=decide (k+1 < s.length) && decide (byt s k=92) && decide (byt s (k+1)=b)
def A0 (ere:Bool) (s:List UInt8) (k b:Nat):Bool:=if ere then chAt s k b else BI s k b
def AX (ere:Bool):Nat:=if ere then 1 else 2
def Fy (s:List UInt8) (k:Nat):Bool:=decide (k < s.length) && decide (48≤byt s k) && decide (byt s k≤57)
def A5 (s:List UInt8):Nat→Nat→Nat→Nat × Nat
 | 0,_,v=>(0,v)
 | n+1,k,v=>if Fy s k then ((A5 s n (k+1) (10 * v+(byt s k - 48))).1+1,(A5 s n (k+1) (10 * v+(byt s k - 48))).2) else (0,v)
def Dc (s:List UInt8) (k:Nat):Nat × Nat:=if (A5 s 3 k 0).2≤255 then ((A5 s 3 k 0).2,(A5 s 3 k 0).1) else (0,0)
def Gx (ere:Bool) (s:List UInt8) (k:Nat):Option (Int × Int × Nat):=
 let m:=Dc s k
 if m.2=0 then none
 else
  let k1:=k+m.2
  let q:Int × Nat:=if chAt s k1 44 then (let x:=Dc s (k1+1);if x.2=0 then (-1,k1+1) else ((x.1:Int),k1+1+x.2)) else ((m.1:Int),k1)
  if A0 ere s q.2 125 && !(decide (0≤q.1) && decide (q.1 < (m.1:Int))) then some ((m.1:Int),q.1,q.2+AX ere) else none
structure ReSt where
 pos:Nat
 opened:Nat
 closed:List Int
 marks:List (Nat × Nat)
abbrev ReRes (α:Type):=Except (Nat × Nat) α
def ReSt.mark (st:ReSt) (c:Nat):ReSt:={ st with marks:=st.marks++[(st.pos,c)] }
def ReSt.to (st:ReSt) (k:Nat):ReSt:={ st with pos:=k }
inductive ReRep where
 | none
 | bad
 | some (mn mx:Int) (c:Nat) (next:Nat)
def repAt (ere:Bool) (s:List UInt8) (k:Nat):ReRep:=
 if chAt s k 42 then .some 0 (-1) 0 (k+1)
 else if A0 ere s k 43 then .some 1 (-1) (if ere then 0 else 43) (k+AX ere)
 else if A0 ere s k 63 then .some 0 1 (if ere then 0 else 63) (k+AX ere)
 else if A0 ere s k 123 then (match Gx ere s (k+AX ere) with
  | Option.none=>.bad
  | Option.some (m,n,j)=>.some m n 0 j)
 else .none
def DC (ere:Bool) (s:List UInt8):Nat→ReSt→Nd→ReRes (ReSt × Nd)
 | 0,_,_=>.error (0,0)
 | n+1,st,d=>match repAt ere s st.pos with
  | .none=>.ok (st,d)
  | .bad=>.error (7,st.pos)
  | .some mn mx c j=>DC ere s n ((if c=0 then st else st.mark c).to j) (.rep d mn mx)
def Ai:OSet:=A4 [97,108,110,117,109] ||| Ab 95 95
def Ap:OSet:=A4 [115,112,97,99,101]
def DY:OSet:=A4 [112,117,110,99,116]
def C9 (c:Nat):Option (OSet × Bool):=
 if c=110 then some (Ab 10 10,false)
 else if c=116 then some (Ab 9 9,true)
 else if c=119 then some (Ai,true)
 else if c=87 then some (~~~Ai,true)
 else if c=115 then some (Ap,true)
 else if c=83 then some (~~~Ap,true)
 else if ohas DY c then some (Ab c c,false)
 else none
def Dk (ere:Bool) (st:ReSt) (c:Nat):ReRes (ReSt × Nd):=
 if 49≤c∧c≤57 then (if st.closed.contains ((c:Int) - 48) then .ok ((if ere then st.mark c else st).to (st.pos+2),.back ((c:Int) - 48)) else .error (9,st.pos))
 else match C9 c with
  | none=>.error (2,st.pos)
  | some (t,m)=>.ok ((if m then st.mark c else st).to (st.pos+2),.one t)
def Fz (ere:Bool) (s:List UInt8) (sub:Option (ReSt→ReRes (ReSt × Nd))) (st:ReSt):ReRes (ReSt × Nd):=match sub with
 | none=>.error (4,st.pos)
 | some f=>match f { st with pos:=st.pos+AX ere,opened:=st.opened+1 } with
  | .error e=>.error e
  | .ok (st',d)=>if A0 ere s st'.pos 41 then .ok ({ st' with pos:=st'.pos+AX ere,closed:=st'.closed++[(st.opened:Int)+1] },.group ((st.opened:Int)+1) d) else .error (8,st.pos)
def Bb (ere:Bool) (s:List UInt8) (sub:Option (ReSt→ReRes (ReSt × Nd))) (st:ReSt):ReRes (ReSt × Nd):=
 if A0 ere s st.pos 40 then Fz ere s sub st
 else if A0 ere s st.pos 41 then .error (8,st.pos)
 else if chAt s st.pos 91 then (if (Fo s ((st.pos:Int)+1)).2.2=0 then .ok (st.to (Fo s ((st.pos:Int)+1)).2.1.toNat,.one (Fo s ((st.pos:Int)+1)).1) else .error ((Fo s ((st.pos:Int)+1)).2.2,(Fo s ((st.pos:Int)+1)).2.1.toNat))
 else if chAt s st.pos 46 then .ok (st.to (st.pos+1),.one (Ab 0 255))
 else if chAt s st.pos 92 then (if st.pos+1 < s.length then Dk ere st (byt s (st.pos+1)) else .error (11,st.pos))
 else .ok (st.to (st.pos+1),.one (Ab (byt s st.pos) (byt s st.pos)))
def AB (s:List UInt8) (k:Nat):Bool:=decide (s.length≤k) || BI s k 124 || BI s k 41
def branchM (ere:Bool) (s:List UInt8) (sub:Option (ReSt→ReRes (ReSt × Nd))) (top:Bool) (begin:Nat):Nat→ReSt→List Nd→Bool→ReRes (ReSt × Nd)
 | 0,_,_,_=>.error (0,0)
 | n+1,st,parts,front=>
  if decide (s.length≤st.pos) || A0 ere s st.pos 124 || (A0 ere s st.pos 41 && !top) then .ok (st,Bs parts)
  else if chAt s st.pos 94 && (ere || decide (st.pos=begin)) then branchM ere s sub top begin n (st.to (st.pos+1)) (parts++[.start]) true
  else if chAt s st.pos 36 && (ere || AB s (st.pos+1)) then branchM ere s sub top begin n (st.to (st.pos+1)) (parts++[.fin]) true
  else if front && (A0 ere s st.pos 123 || A0 ere s st.pos 43 || A0 ere s st.pos 63 || (ere && chAt s st.pos 42)) then .error (10,st.pos)
  else match Bb ere s sub st with
   | .error e=>.error e
   | .ok (st1,d)=>match DC ere s (s.length+1) st1 d with
    | .error e=>.error e
    | .ok (st2,d2)=>branchM ere s sub top begin n st2 (parts++[d2]) false
def Aq (ere:Bool) (s:List UInt8) (sub:Option (ReSt→ReRes (ReSt × Nd))) (top:Bool):Nat→ReSt→List Nd→ReRes (ReSt × Nd)
 | 0,_,_=>.error (0,0)
 | n+1,st,l=>match branchM ere s sub top st.pos (s.length+1) st [] true with
  | .error e=>.error e
  | .ok (st1,d)=>if A0 ere s st1.pos 124 then Aq ere s sub top n ((if ere then st1 else st1.mark 124).to (st1.pos+AX ere)) (l++[d]) else .ok (st1,Cg (l++[d]))
def Cs (ere:Bool) (s:List UInt8):Nat→ReSt→ReRes (ReSt × Nd)
 | 0,st=>Aq ere s none false (s.length+1) st []
 | k+1,st=>Aq ere s (some (Cs ere s k)) false (s.length+1) st []
def DZ:ReSt:=⟨0,0,[],[]⟩
def AY (ere:Bool) (s:List UInt8):ReRes (ReSt × Nd):=
 if 250 < s.length then .error (3,250) else Aq ere s (some (Cs ere s 11)) true (s.length+1) DZ []
end
section
def AP (s:List UInt8) (k:Nat) (t:List UInt8):Bool:=Lib.hasPrefix (s.drop k) t
theorem OS (s:List UInt8) (k b:Nat) (hb:b < 256) (h:k < s.length):(UInt8.ofNat b == s[k])=decide (byt s k=b):=by
 unfold byt;rw [List.getD_eq_getElem?_getD,List.getElem?_eq_getElem h,Option.getD_some];by_cases e:s[k].toNat=b
 ·rw [decide_eq_true e,beq_iff_eq,←e];simp
 ·rw [decide_eq_false e,beq_eq_false_iff_ne]
  intro e2;apply e;rw [←e2];simp;omega
theorem Dw (s:List UInt8) (k b:Nat) (hb:b < 256):AP s k [UInt8.ofNat b]=chAt s k b:=by
 unfold AP Lib.hasPrefix chAt;by_cases h:k < s.length
 ·rw [List.drop_eq_getElem_cons h,decide_eq_true h]
  simp only [List.isPrefixOf,Bool.and_true,Bool.true_and];exact OS s k b hb h
 ·rw [List.drop_eq_nil_of_le (by omega),decide_eq_false h];rfl
theorem BJ (s:List UInt8) (k b:Nat) (hb:b < 256):AP s k [92,UInt8.ofNat b]=BI s k b:=by
 unfold AP Lib.hasPrefix BI;by_cases h:k < s.length
 ·rw [List.drop_eq_getElem_cons h]
  by_cases h2:k+1 < s.length
  ·rw [List.drop_eq_getElem_cons h2,decide_eq_true h2]
   simp only [List.isPrefixOf,Bool.and_true,Bool.true_and];rw [OS s (k+1) b hb h2,show ((92:UInt8) == s[k])=decide (byt s k=92) from OS s k 92 (by decide) h]
  ·rw [List.drop_eq_nil_of_le (by omega),decide_eq_false h2]
   simp [List.isPrefixOf]
 ·rw [List.drop_eq_nil_of_le (by omega),decide_eq_false (by omega)];rfl
theorem F0 (s:List UInt8) (k:Nat) (t:List UInt8) (h:AP s k t=true) (h0:t≠[]):k+t.length≤s.length:=by
 unfold AP Lib.hasPrefix at h;have h1:=(List.isPrefixOf_iff_prefix.1 h).length_le;rw [List.length_drop] at h1;have h2:0 < t.length:=List.length_pos_iff.2 h0;omega
theorem OT (s:List UInt8) (k:Nat):AB s k=(((s.drop k).isEmpty || AP s k [92,124]) || AP s k [92,41]):=by
 unfold AB;rw [show AP s k [92,124]=BI s k 124 from BJ s k 124 (by decide),show AP s k [92,41]=BI s k 41 from BJ s k 41 (by decide)]
 congr 2
 rw [Bool.eq_iff_iff];simp
theorem LT (s:List UInt8) (n k v:Nat) (h:n=0∨Fy s k=false):A5 s n k v=(0,v):=by
 cases n with
 | zero=>rfl
 | succ n=>
  rcases h with h | h
  ·cases h
  ·rw [A5,h];rfl
theorem Um (s:List UInt8) (n k v:Nat) (h:Fy s k=true):A5 s (n+1) k v=((A5 s n (k+1) (10 * v+(byt s k - 48))).1+1,(A5 s n (k+1) (10 * v+(byt s k - 48))).2):=by
 rw [A5,h];rfl
end
section
theorem Nh (ere:Bool) (s:List UInt8):∀ (n:Nat) (st:ReSt) (d:Nd) (st':ReSt) (d':Nd),DC ere s n st d=.ok (st',d')→repAt ere s st'.pos=.none:=by
 intro n;induction n with
 | zero=>intro st d st' d' h;cases h
 | succ n ih=>
  intro st d st' d' h;rw [DC] at h;cases hr:repAt ere s st.pos with
  | none=>
   rw [hr] at h;injection h with h;injection h with h1 _;rw [←h1];exact hr
  | bad=>rw [hr] at h;cases h
  | some mn mx c j=>rw [hr] at h;exact ih _ _ _ _ h
theorem BE {s:List UInt8} {k b:Nat} (h:chAt s k b=true):k < s.length∧byt s k=b:=by
 unfold chAt at h;simp only [Bool.and_eq_true,decide_eq_true_eq] at h;exact h
theorem EU {s:List UInt8} {k b:Nat} (h:BI s k b=true):k+1 < s.length∧byt s k=92∧byt s (k+1)=b:=by
 unfold BI at h;simp only [Bool.and_eq_true,decide_eq_true_eq] at h;exact ⟨h.1.1,h.1.2,h.2⟩
theorem B7 {s:List UInt8} {k b:Nat} (h:byt s k≠b):chAt s k b=false:=by
 cases hc:chAt s k b with
 | false=>rfl
 | true=>exact (h (BE hc).2).elim
theorem EB {ere:Bool} {s:List UInt8} {k b c:Nat} (h:A0 ere s k b=true) (hbc:b≠c):A0 ere s k c=false:=by
 cases hc:A0 ere s k c with
 | false=>rfl
 | true=>
  cases ere with
  | true=>exact (hbc ((BE h).2.symm.trans (BE hc).2)).elim
  | false=>exact (hbc ((EU h).2.2.symm.trans (EU hc).2.2)).elim
theorem Un {ere:Bool} {s:List UInt8} {k b c:Nat} (h:A0 ere s k b=true) (h1:b≠c) (h2:c≠92):chAt s k c=false:=by
 cases ere with
 | true=>exact B7 (by rw [(BE h).2];exact h1)
 | false=>exact B7 (by rw [(EU h).2.1];exact fun e=>h2 e.symm)
theorem Ab3 {ere:Bool} {s:List UInt8} {k b:Nat} (h:A0 ere s k b=true):k < s.length:=by
 cases ere with
 | true=>exact (BE h).1
 | false=>have:=(EU h).1;omega
def Fi (ere:Bool) (s:List UInt8) (r:ReRes (ReSt × Nd)):ReRes (ReSt × Nd):=match r with
 | .error e=>.error e
 | .ok (st,d)=>if A0 ere s st.pos 41 then .error (8,st.pos) else .ok (st,d)
theorem OU (ere:Bool) (s:List UInt8) (sub:Option (ReSt→ReRes (ReSt × Nd))) (begin:Nat):∀ (n:Nat) (st:ReSt) (parts:List Nd) (front:Bool),
  branchM ere s sub true begin n st parts front=Fi ere s (branchM ere s sub false begin n st parts front):=by
 intro n;induction n with
 | zero=>intro _ _ _;rfl
 | succ n ih=>
  intro st parts front;rw [branchM,branchM];cases h41:A0 ere s st.pos 41 with
  | true=>
   have h1:decide (s.length≤st.pos)=false:=decide_eq_false (by have:=Ab3 h41;omega);have h2:A0 ere s st.pos 124=false:=EB h41 (by decide);have h3:=Un h41 (c:=94) (by decide) (by decide);have h4:=Un h41 (c:=36) (by decide) (by decide);have h5:=Un h41 (c:=42) (by decide) (by decide);have h6:A0 ere s st.pos 123=false:=EB h41 (by decide);have h7:A0 ere s st.pos 43=false:=EB h41 (by decide);have h8:A0 ere s st.pos 63=false:=EB h41 (by decide);have h9:A0 ere s st.pos 40=false:=EB h41 (by decide);have ha:Bb ere s sub st=.error (8,st.pos):=by unfold Bb;rw [h9,h41];rfl
   simp [h1,h2,h3,h4,h5,h6,h7,h8,ha,Fi,h41]
  | false=>
   by_cases he:(decide (s.length≤st.pos) || A0 ere s st.pos 124)=true
   ·simp [he,Fi,h41]
   ·rw [Bool.not_eq_true] at he
    simp only [he,Bool.false_and,Bool.or_false,Bool.false_eq_true,if_false];split
    ·exact ih _ _ _
    ·split
     ·exact ih _ _ _
     ·split
      ·rfl
      ·cases Bb ere s sub st with
       | error e=>rfl
       | ok q=>
        obtain ⟨st1,d⟩:=q;simp only;cases DC ere s (s.length+1) st1 d with
        | error e=>rfl
        | ok q2=>exact ih _ _ _
theorem OV (ere:Bool) (s:List UInt8) (sub:Option (ReSt→ReRes (ReSt × Nd))):∀ (n:Nat) (st:ReSt) (l:List Nd),
  Aq ere s sub true n st l=Fi ere s (Aq ere s sub false n st l):=by
 intro n;induction n with
 | zero=>intro _ _;rfl
 | succ n ih=>
  intro st l;rw [Aq,Aq,OU];cases branchM ere s sub false st.pos (s.length+1) st [] true with
  | error e=>rfl
  | ok q=>
   obtain ⟨st1,d⟩:=q;simp only [Fi];cases h41:A0 ere s st1.pos 41 with
   | true=>
    rw [show A0 ere s st1.pos 124=false from EB h41 (by decide)];simp [h41]
   | false=>
    simp only [Bool.false_eq_true,if_false];split
    ·rw [ih];rfl
    ·simp [h41]
theorem Gy (ere:Bool) (s:List UInt8) (h:s.length≤250):AY ere s=Fi ere s (Aq ere s (some (Cs ere s 11)) false (s.length+1) DZ []):=by
 unfold AY;rw [if_neg (by omega),OV]
end
section
theorem F1 (s:List UInt8) (k j:Nat):byt (s.drop k) j=byt s (k+j):=by
 unfold byt;rw [List.getD_eq_getElem?_getD,List.getD_eq_getElem?_getD,List.getElem?_drop]
theorem LU (s:List UInt8) (k j:Nat):decide (j < (s.drop k).length)=decide (k+j < s.length):=by
 rw [List.length_drop];exact decide_eq_decide.2 (by omega)
theorem QY (s:List UInt8) (k j b:Nat):chAt (s.drop k) j b=chAt s (k+j) b:=by
 unfold chAt;rw [F1,LU]
theorem XL (s:List UInt8) (k j b:Nat):BI (s.drop k) j b=BI s (k+j) b:=by
 unfold BI;rw [F1,F1,LU,Nat.add_assoc]
theorem XM (ere:Bool) (s:List UInt8) (k j b:Nat):A0 ere (s.drop k) j b=A0 ere s (k+j) b:=by
 unfold A0;rw [QY,XL]
theorem Uo (s:List UInt8) (k j:Nat):Fy (s.drop k) j=Fy s (k+j):=by
 unfold Fy;rw [F1,LU]
theorem Ii (s:List UInt8) (k:Nat):∀ (n j v:Nat),A5 (s.drop k) n j v=A5 s n (k+j) v:=by
 intro n;induction n with
 | zero=>intro j v;rfl
 | succ n ih=>
  intro j v;rw [A5,A5,Uo,F1,ih,Nat.add_assoc]
theorem Up (s:List UInt8) (k j:Nat):Dc (s.drop k) j=Dc s (k+j):=by
 unfold Dc;rw [Ii]
def CB (s:List UInt8) (k:Nat):Bool:=decide (0 < (A5 s 3 k 0).1) && decide ((A5 s 3 k 0).2≤255)
theorem Uq (s:List UInt8) (k:Nat) (h:CB s k=false):(Dc s k).2=0:=by
 unfold CB at h;unfold Dc;split
 ·rename_i h1
  rw [decide_eq_true h1,Bool.and_true] at h;have:=of_decide_eq_false h;simp only;omega
 ·rfl
theorem QZ (s:List UInt8) (k:Nat) (h:CB s k=true):Dc s k=((A5 s 3 k 0).2,(A5 s 3 k 0).1)∧(Dc s k).2≠0:=by
 unfold CB at h;simp only [Bool.and_eq_true,decide_eq_true_eq] at h;unfold Dc;rw [if_pos h.2];exact ⟨rfl,by simp only;omega⟩
theorem RX (x y:Nat):(!(decide (0≤(y:Int)) && decide ((y:Int) < (x:Int))))=decide (x≤y):=by
 by_cases h:x≤y
 ·rw [decide_eq_true h,decide_eq_false (show ¬ (y:Int) < (x:Int) by omega),Bool.and_false];rfl
 ·rw [decide_eq_false h,decide_eq_true (show (y:Int) < (x:Int) by omega),decide_eq_true (show (0:Int)≤(y:Int) by omega)];rfl
def CC (ere:Bool):List UInt8:=if ere then [125] else [92,125]
theorem Ur (ere:Bool) (s:List UInt8) (k:Nat):AP s k (CC ere)=A0 ere s k 125:=by
 cases ere with
 | true=>exact Dw s k 125 (by decide)
 | false=>exact BJ s k 125 (by decide)
theorem RY (ere:Bool):(CC ere).length=AX ere:=by cases ere <;> rfl
def KY (cl L:List UInt8):Int × Int × Nat × Bool:=
 if CB L 0 then
  (if chAt L (A5 L 3 0 0).1 44 then
   (if AP L ((A5 L 3 0 0).1+1) cl then (((A5 L 3 0 0).2:Int),-1,(A5 L 3 0 0).1+1,true)
    else (((A5 L 3 0 0).2:Int),((A5 L 3 ((A5 L 3 0 0).1+1) 0).2:Int),(A5 L 3 0 0).1+1+(A5 L 3 ((A5 L 3 0 0).1+1) 0).1,CB L ((A5 L 3 0 0).1+1) && decide ((A5 L 3 0 0).2≤(A5 L 3 ((A5 L 3 0 0).1+1) 0).2)))
   else (((A5 L 3 0 0).2:Int),((A5 L 3 0 0).2:Int),(A5 L 3 0 0).1,true))
 else (((A5 L 3 0 0).2:Int),((A5 L 3 0 0).2:Int),(A5 L 3 0 0).1,false)
def KZ (cl L:List UInt8):Option (Int × Int × Nat):=
 if (KY cl L).2.2.2 && AP L (KY cl L).2.2.1 cl then some ((KY cl L).1,(KY cl L).2.1,(KY cl L).2.2.1+cl.length) else none
theorem Us (ere:Bool) (L:List UInt8):Gx ere L 0=KZ (CC ere) L:=by
 unfold KZ KY Gx;simp only [RY,Ur,Nat.zero_add];cases h1:CB L 0 with
 | false=>simp [Uq L 0 h1]
 | true=>
  obtain ⟨e1,e2⟩:=QZ L 0 h1;rw [if_neg e2,e1];simp only [if_true];cases h2:chAt L (A5 L 3 0 0).1 44 with
  | false=>simp
  | true=>
   simp only [if_true];cases h3:A0 ere L ((A5 L 3 0 0).1+1) 125 with
   | true=>
    have hd:Fy L ((A5 L 3 0 0).1+1)=false:=by
     unfold Fy;cases ere with
     | true=>
      simp only [A0,if_true,chAt,Bool.and_eq_true,decide_eq_true_eq] at h3;rw [h3.2];simp
     | false=>
      simp only [A0,Bool.false_eq_true,if_false,BI,Bool.and_eq_true,decide_eq_true_eq] at h3;rw [h3.1.2];simp
    have hn:Dc L ((A5 L 3 0 0).1+1)=(0,0):=by unfold Dc;rw [LT _ _ _ _ (.inr hd)];rfl
    rw [hn];simp [h3]
   | false=>
    cases h4:CB L ((A5 L 3 0 0).1+1) with
    | false=>
     rw [if_pos (Uq _ _ h4)];simp [h3]
    | true=>
     obtain ⟨f1,f2⟩:=QZ _ _ h4;rw [if_neg f2,f1];simp only [Bool.true_and,Bool.false_eq_true,if_false];rw [RX,Bool.and_comm]
theorem RZ (ere:Bool) (s:List UInt8) (k:Nat):Gx ere s k=(Gx ere (s.drop k) 0).map fun q=>(q.1,q.2.1,k+q.2.2):=by
 unfold Gx;simp only [Up,QY,XM,Nat.add_zero,Nat.zero_add];split
 ·rfl
 ·simp only [Nat.add_assoc]
  cases h2:chAt s (k+(Dc s k).2) 44 with
  | false=>
   simp only [Bool.false_eq_true,if_false];split
   ·simp [Nat.add_assoc]
   ·rfl
  | true=>
   simp only [if_true];split
   ·split
    ·simp [Nat.add_assoc]
    ·rfl
   ·split
    ·simp [Nat.add_assoc]
    ·rfl
theorem GN (ere:Bool) (s:List UInt8) (k:Nat):Gx ere s k=(KZ (CC ere) (s.drop k)).map fun q=>(q.1,q.2.1,k+q.2.2):=by rw [RZ,Us]
end
section
theorem Ea {ere:Bool} {s:List UInt8} {k b:Nat} (h:A0 ere s k b=true):k+AX ere≤s.length:=by
 cases ere with
 | true=>have:=(BE h).1;simp [AX];omega
 | false=>have:=(EU h).1;simp [AX];omega
theorem Gz (ere:Bool):0 < AX ere:=by cases ere <;> decide
theorem XN (ere:Bool) (s:List UInt8) (k:Nat) (m n:Int) (j:Nat) (h:Gx ere s k=some (m,n,j)):k < j∧j≤s.length:=by
 rw [GN] at h;obtain ⟨q,hq,he⟩:=Option.map_eq_some_iff.1 h;have h0:CC ere≠[]:=by cases ere <;> simp [CC]
 have h1:q.2.2≤(s.drop k).length:=by
  unfold KZ at hq;split at hq
  ·rename_i hc
   injection hq with hq;subst hq;rw [Bool.and_eq_true] at hc;exact F0 _ _ _ hc.2 h0
  ·cases hq
 have h2:0 < q.2.2:=by
  unfold KZ at hq;split at hq
  ·injection hq with hq
   subst hq;have:0 < (CC ere).length:=List.length_pos_iff.2 h0;simp only;omega
  ·cases hq
 rw [List.length_drop] at h1;injection he with he1 he2;injection he2 with he2 he3;omega
theorem F2 (ere:Bool) (s:List UInt8) (k:Nat) (a b:Int) (c j:Nat) (h:repAt ere s k=.some a b c j):k < j∧j≤s.length:=by
 have hp:=Gz ere;unfold repAt at h;split at h
 ·rename_i h1
  injection h with _ _ _ h;have:=(BE h1).1;omega
 split at h
 ·rename_i _ h1
  injection h with _ _ _ h;have:=Ea h1;omega
 split at h
 ·rename_i _ _ h1
  injection h with _ _ _ h;have:=Ea h1;omega
 split at h
 ·rename_i _ _ _ h1
  split at h
  ·cases h
  ·rename_i m n j' hi
   injection h with _ _ _ h;have h3:=XN _ _ _ _ _ _ hi;omega
 ·cases h
theorem FT (ere:Bool) (s:List UInt8):∀ (n:Nat) (st:ReSt) (d:Nd) (st':ReSt) (d':Nd),st.pos≤s.length→DC ere s n st d=.ok (st',d')→st.pos≤st'.pos∧st'.pos≤s.length:=by
 intro n;induction n with
 | zero=>intro st d st' d' _ h;cases h
 | succ n ih=>
  intro st d st' d' hl h;rw [DC] at h;cases hra:repAt ere s st.pos with
  | none=>
   rw [hra] at h;injection h with h;injection h with h1 h2;subst h1;exact ⟨Adf _,hl⟩
  | bad=>rw [hra] at h;cases h
  | some mn mx c j=>
   rw [hra] at h;have hj:=F2 _ _ _ _ _ _ _ hra;have h2:=ih _ _ _ _ (show j≤s.length from hj.2) h;have h3:j≤st'.pos:=h2.1;exact ⟨by omega,h2.2⟩
theorem Rc (ere:Bool) (st st':ReSt) (c:Nat) (d:Nd) (h:Dk ere st c=.ok (st',d)):st'.pos=st.pos+2:=by
 unfold Dk at h;split at h
 ·split at h
  ·injection h with h;injection h with h1 _;subst h1;rfl
  ·cases h
 ·split at h
  ·cases h
  ·injection h with h;injection h with h1 _;subst h1;rfl
def Dx (s:List UInt8) (sub:Option (ReSt→ReRes (ReSt × Nd))):Prop:=∀ f,sub=some f→∀ st st' d,st.pos≤s.length→f st=.ok (st',d)→st.pos≤st'.pos∧st'.pos≤s.length
theorem DD (ere:Bool) (s:List UInt8) (sub:Option (ReSt→ReRes (ReSt × Nd))) (hsub:Dx s sub) (st st':ReSt) (d:Nd) (hl:st.pos < s.length) (h:Bb ere s sub st=.ok (st',d)):st.pos < st'.pos∧st'.pos≤s.length:=by
 have hp:=Gz ere;unfold Bb at h;split at h
 ·rename_i ho
  unfold Fz at h;split at h
  ·cases h
  ·rename_i f
   split at h
   ·cases h
   ·rename_i st1 d1 hf
    split at h
    ·rename_i h41
     injection h with h;injection h with h1 h2;subst h1;have h3:=hsub f rfl _ _ _ (show st.pos+AX ere≤s.length from Ea ho) hf;have h4:st.pos+AX ere≤st1.pos:=h3.1;have h5:=Ea h41;exact ⟨show st.pos < st1.pos+AX ere by omega,h5⟩
    ·cases h
 ·split at h
  ·cases h
  ·split at h
   ·obtain ⟨t,j,e,hpr,hj⟩:=J4 s (st.pos+1) hl
    rw [show ((st.pos:Int)+1)=((st.pos+1:Nat):Int) by omega,hpr] at h;simp only at h;split at h
    ·rename_i h0
     have:=hj h0;injection h with h;injection h with h1 h2;subst h1;show st.pos < ((j:Int)).toNat∧((j:Int)).toNat≤s.length;omega
    ·cases h
   ·split at h
    ·injection h with h;injection h with h1 h2;subst h1
     exact ⟨show st.pos < st.pos+1 by omega,hl⟩
    ·split at h
     ·split at h
      ·rename_i h9
       have:=Rc _ _ _ _ _ h;omega
      ·cases h
     ·injection h with h;injection h with h1 h2;subst h1
      exact ⟨show st.pos < st.pos+1 by omega,hl⟩
theorem FU (ere:Bool) (s:List UInt8) (sub:Option (ReSt→ReRes (ReSt × Nd))) (hsub:Dx s sub) (top:Bool) (begin:Nat):∀ (n:Nat) (st:ReSt) (parts:List Nd) (front:Bool) (st':ReSt) (d:Nd),st.pos≤s.length→
  branchM ere s sub top begin n st parts front=.ok (st',d)→st.pos≤st'.pos∧st'.pos≤s.length:=by
 intro n;induction n with
 | zero=>intro _ _ _ _ _ _ h;cases h
 | succ n ih=>
  intro st parts front st' d hl h;rw [branchM] at h;split at h
  ·injection h with h;injection h with h1 _;subst h1;exact ⟨Adf _,hl⟩
  ·rename_i he
   have hlt:st.pos < s.length:=by
    simp only [Bool.or_eq_true,decide_eq_true_eq,not_or] at he;omega
   split at h
   ·have h2:=ih _ _ _ _ _ (show st.pos+1≤s.length from hlt) h
    have h3:st.pos+1≤st'.pos:=h2.1;exact ⟨by omega,h2.2⟩
   split at h
   ·have h2:=ih _ _ _ _ _ (show st.pos+1≤s.length from hlt) h
    have h3:st.pos+1≤st'.pos:=h2.1;exact ⟨by omega,h2.2⟩
   split at h
   ·cases h
   split at h
   ·cases h
   ·rename_i st1 d1 ha
    have h1:=DD _ _ _ hsub _ _ _ hlt ha;split at h
    ·cases h
    ·rename_i st2 d2 hr
     have h2:=FT _ _ _ _ _ _ _ h1.2 hr;have h3:=ih _ _ _ _ _ h2.2 h;omega
theorem FV (ere:Bool) (s:List UInt8) (sub:Option (ReSt→ReRes (ReSt × Nd))) (hsub:Dx s sub) (top:Bool):∀ (n:Nat) (st:ReSt) (l:List Nd) (st':ReSt) (d:Nd),st.pos≤s.length→
  Aq ere s sub top n st l=.ok (st',d)→st.pos≤st'.pos∧st'.pos≤s.length:=by
 intro n;induction n with
 | zero=>intro _ _ _ _ _ h;cases h
 | succ n ih=>
  intro st l st' d hl h;rw [Aq] at h;split at h
  ·cases h
  ·rename_i st1 d1 hb
   have h1:=FU _ _ _ hsub _ _ _ _ _ _ _ _ hl hb;split at h
   ·rename_i ho
    have h2:=ih _ _ _ _ (show st1.pos+AX ere≤s.length from Ea ho) h;have h3:st1.pos+AX ere≤st'.pos:=h2.1;exact ⟨by omega,h2.2⟩
   ·injection h with h;injection h with h2 _;subst h2;exact h1
theorem Ut (ere:Bool) (s:List UInt8):∀ (k:Nat) (st st':ReSt) (d:Nd),st.pos≤s.length→Cs ere s k st=.ok (st',d)→st.pos≤st'.pos∧st'.pos≤s.length:=by
 intro k;induction k with
 | zero=>intro st st' d hl h;exact FV ere s none (fun f hf=>by cases hf) false _ _ _ _ _ hl h
 | succ k ih=>intro st st' d hl h;exact FV ere s (some (Cs ere s k)) (fun f hf=>by cases hf;exact ih) false _ _ _ _ _ hl h
end
section
def CD (d:Nd) (st st':ReSt):Prop:=Br d (st.opened:Int) st.closed=some ((st'.opened:Int),st'.closed)
def D1 (l:List Nd) (st st':ReSt):Prop:=BR l (st.opened:Int) st.closed=some ((st'.opened:Int),st'.closed)
theorem Eb {l:List Nd} {d:Nd} {st st1 st2:ReSt} (h:D1 l st st1) (k:CD d st1 st2):D1 (l++[d]) st st2:=by
 unfold D1 at h ⊢;rw [Js,h];simp only [Option.bind_some];rw [Fs];exact k
theorem XO (ere:Bool) (s:List UInt8) (k:Nat) (m n:Int) (j:Nat) (h:Gx ere s k=some (m,n,j)):Jp m n=true:=by
 have h255:∀ k,(Dc s k).1≤255:=by
  intro k;unfold Dc;split
  ·rename_i h;exact h
  ·exact Nat.zero_le _
 have hx:=h255 k;have hall:∀ q:Int × Nat,(q.1=-1∨(0≤q.1∧q.1≤255))→(if A0 ere s q.2 125 && !(decide (0≤q.1) && decide (q.1 < ((Dc s k).1:Int))) then some (((Dc s k).1:Int),q.1,q.2+AX ere) else none)=some (m,n,j)→Jp m n=true:=by
  intro q hq h;split at h
  ·rename_i hc
   injection h with h;injection h with h1 h2;injection h2 with h2 _;subst h1 h2;simp only [Bool.and_eq_true,Bool.not_eq_true',Bool.and_eq_false_iff,decide_eq_false_iff_not] at hc;have hq2:=hc.2;unfold Jp;simp only [Bool.and_eq_true,Bool.or_eq_true,decide_eq_true_eq];rcases hq with hq | hq
   ·exact ⟨⟨by omega,by omega⟩,.inl hq⟩
   ·exact ⟨⟨by omega,by omega⟩,.inr ⟨by omega,by omega⟩⟩
  ·cases h
 unfold Gx at h;simp only at h;split at h
 ·cases h
 ·refine hall _ ?_ h
  split
  ·split
   ·exact .inl rfl
   ·exact .inr ⟨by simp only;omega,by have:=h255 (k+(Dc s k).2+1);simp only;omega⟩
  ·exact .inr ⟨by simp only;omega,by simp only;omega⟩
theorem ZT (ere:Bool) (s:List UInt8) (k:Nat) (m n:Int) (c j:Nat) (h:repAt ere s k=.some m n c j):Jp m n=true:=by
 unfold repAt at h;split at h
 ·injection h with h1 h2;rw [←h1,←h2];rfl
 ·split at h
  ·injection h with h1 h2;rw [←h1,←h2];rfl
  ·split at h
   ·injection h with h1 h2;rw [←h1,←h2];rfl
   ·split at h
    ·split at h
     ·cases h
     ·rename_i m' n' j' hi
      injection h with h1 h2;rw [←h1,←h2];exact XO _ _ _ _ _ _ hi
    ·cases h
theorem J5 (ere:Bool) (s:List UInt8):∀ (n:Nat) (st:ReSt) (d:Nd) (st':ReSt) (d':Nd) (st0:ReSt),CD d st0 st→GF d=true→inCat d=true→DC ere s n st d=.ok (st',d')→CD d' st0 st'∧inCat d'=true:=by
 intro n;induction n with
 | zero=>intro st d st' d' st0 _ _ _ h;cases h
 | succ n ih=>
  intro st d st' d' st0 ht hr hc h;rw [DC] at h;cases hra:repAt ere s st.pos with
  | none=>
   rw [hra] at h;injection h with h;injection h with h1 h2;subst h1 h2;exact ⟨ht,hc⟩
  | bad=>rw [hra] at h;cases h
  | some mn mx c j=>
   rw [hra] at h;refine ih _ _ _ _ st0 ?_ rfl rfl h;have hs:CD (.rep d mn mx) st0 st:=by
    unfold CD;rw [Br,ZT _ _ _ _ _ _ _ hra,hr];exact ht
   by_cases hc0:c=0
   ·rw [if_pos hc0];exact hs
   ·rw [if_neg hc0];exact hs
theorem Sa (ere:Bool) (st st':ReSt) (c:Nat) (d:Nd) (h:Dk ere st c=.ok (st',d)):CD d st st'∧GF d=true∧inCat d=true:=by
 unfold Dk at h;split at h
 ·split at h
  ·rename_i hcl
   injection h with h;injection h with h1 h2;subst h1 h2;refine ⟨?_,rfl,rfl⟩;unfold CD;rw [Br,if_pos hcl];cases ere <;> rfl
  ·cases h
 ·split at h
  ·cases h
  ·rename_i t m _
   injection h with h;injection h with h1 h2;subst h1 h2;refine ⟨?_,rfl,rfl⟩;cases m <;> rfl
def GO (sub:Option (ReSt→ReRes (ReSt × Nd))):Prop:=∀ f,sub=some f→∀ st st' d,f st=.ok (st',d)→CD d st st'
theorem EV (ere:Bool) (s:List UInt8) (sub:Option (ReSt→ReRes (ReSt × Nd))) (hsub:GO sub) (st st':ReSt) (d:Nd) (h:Bb ere s sub st=.ok (st',d)):CD d st st'∧GF d=true∧inCat d=true:=by
 unfold Bb at h;split at h
 ·unfold Fz at h
  split at h
  ·cases h
  ·rename_i f
   split at h
   ·cases h
   ·rename_i st1 d1 hf
    split at h
    ·injection h with h
     injection h with h1 h2;subst h1 h2;refine ⟨?_,rfl,rfl⟩;have ht:=hsub f rfl _ _ _ hf;unfold CD at ht ⊢;rw [Br,if_pos rfl];simp only [Int.natCast_add,Int.natCast_one] at ht;rw [ht];rfl
    ·cases h
 ·split at h
  ·cases h
  ·split at h
   ·split at h
    ·injection h with h;injection h with h1 h2;subst h1 h2;exact ⟨rfl,rfl,rfl⟩
    ·cases h
   ·split at h
    ·injection h with h;injection h with h1 h2;subst h1 h2;exact ⟨rfl,rfl,rfl⟩
    ·split at h
     ·split at h
      ·exact Sa _ _ _ _ _ h
      ·cases h
     ·injection h with h;injection h with h1 h2;subst h1 h2;exact ⟨rfl,rfl,rfl⟩
theorem ED (l:List Nd) (h:l.all inCat=true):AF l=l:=by
 induction l with
 | nil=>rfl
 | cons d ds ih=>
  rw [List.all_cons,Bool.and_eq_true] at h;have hd:Bk d=[d]:=by cases d <;> first | rfl | (have h1:=h.1;cases h1)
  show Bk d++AF ds=_;rw [hd,ih h.2];rfl
theorem Ij (l:List Nd) (h:l.all inAlt=true):AG l=l:=by
 induction l with
 | nil=>rfl
 | cons d ds ih=>
  rw [List.all_cons,Bool.and_eq_true] at h;have hd:AO d=[d]:=by cases d <;> first | rfl | (have h1:=h.1;cases h1)
  show AO d++AG ds=_;rw [hd,ih h.2];rfl
theorem Re {d:Nd} (h:inCat d=true):inAlt d=true:=by cases d <;> first | rfl | exact h
theorem OW {l:List Nd} {st st':ReSt} (h:D1 l st st') (ha:l.all inCat=true):CD (Bs l) st st'∧inAlt (Bs l)=true:=by
 have hj:=ED l ha;unfold Bs;rw [hj];rcases l with _ | ⟨x,_ | ⟨y,ys⟩⟩
 ·exact ⟨h,rfl⟩
 ·refine ⟨?_,?_⟩
  ·unfold D1 at h
   rw [Fs] at h;exact h
  ·rw [List.all_cons,Bool.and_eq_true] at ha
   exact Re ha.1
 ·refine ⟨?_,rfl⟩
  unfold CD;show Br (.cat (x :: y :: ys)) _ _=_;rw [Br,ha,decide_eq_true (show 2≤(x :: y :: ys).length by simp)];exact h
theorem LV {l:List Nd} {st st':ReSt} (h:D1 l st st') (ha:l.all inAlt=true):CD (Cg l) st st':=by
 have hj:=Ij l ha;unfold Cg;rw [hj];rcases l with _ | ⟨x,_ | ⟨y,ys⟩⟩
 ·exact h
 ·unfold D1 at h
  rw [Fs] at h;exact h
 ·unfold CD
  show Br (.alt (x :: y :: ys)) _ _=_;rw [Br,ha,decide_eq_true (show 2≤(x :: y :: ys).length by simp)];exact h
theorem BK {p:Nd→Bool} {l:List Nd} {d:Nd} (h:l.all p=true) (k:p d=true):(l++[d]).all p=true:=by rw [List.all_append,h];simp [k]
theorem GQ (ere:Bool) (s:List UInt8) (sub:Option (ReSt→ReRes (ReSt × Nd))) (hsub:GO sub) (top:Bool) (begin:Nat):∀ (n:Nat) (st:ReSt) (parts:List Nd) (front:Bool) (st':ReSt) (d:Nd) (st0:ReSt),D1 parts st0 st→parts.all inCat=true→
  branchM ere s sub top begin n st parts front=.ok (st',d)→CD d st0 st'∧inAlt d=true:=by
 intro n;induction n with
 | zero=>intro st parts front st' d st0 _ _ h;cases h
 | succ n ih=>
  intro st parts front st' d st0 ht ha h;rw [branchM] at h;split at h
  ·injection h with h
   injection h with h1 h2;subst h1 h2;exact OW ht ha
  ·split at h
   ·exact ih _ _ _ _ _ st0 (Eb ht (show CD .start st (st.to (st.pos+1)) from rfl)) (BK ha rfl) h
   ·split at h
    ·exact ih _ _ _ _ _ st0 (Eb ht (show CD .fin st (st.to (st.pos+1)) from rfl)) (BK ha rfl) h
    ·split at h
     ·cases h
     ·split at h
      ·cases h
      ·rename_i st1 d1 hat
       obtain ⟨k1,k2,k3⟩:=EV ere s sub hsub _ _ _ hat;split at h
       ·cases h
       ·rename_i st2 d2 hrp
        obtain ⟨k4,k5⟩:=J5 ere s _ _ _ _ _ st k1 k2 k3 hrp;exact ih _ _ _ _ _ st0 (Eb ht k4) (BK ha k5) h
theorem GR (ere:Bool) (s:List UInt8) (sub:Option (ReSt→ReRes (ReSt × Nd))) (hsub:GO sub) (top:Bool):∀ (n:Nat) (st:ReSt) (l:List Nd) (st':ReSt) (d:Nd) (st0:ReSt),D1 l st0 st→l.all inAlt=true→
  Aq ere s sub top n st l=.ok (st',d)→CD d st0 st':=by
 intro n;induction n with
 | zero=>intro st l st' d st0 _ _ h;cases h
 | succ n ih=>
  intro st l st' d st0 ht ha h;rw [Aq] at h;split at h
  ·cases h
  ·rename_i st1 d1 hb
   obtain ⟨k1,k2⟩:=GQ ere s sub hsub top _ _ _ _ _ _ _ st (show D1 [] st st from rfl) rfl hb;split at h
   ·refine ih _ _ _ _ st0 ?_ (BK ha k2) h
    have:=Eb ht k1;cases ere <;> exact this
   ·injection h with h
    injection h with h1 h2;subst h1 h2;exact LV (Eb ht k1) (BK ha k2)
theorem Ik (ere:Bool) (s:List UInt8):∀ (k:Nat) (st st':ReSt) (d:Nd),Cs ere s k st=.ok (st',d)→CD d st st':=by
 intro k;induction k with
 | zero=>
  intro st st' d h;exact GR ere s none (fun f hf=>by cases hf) false _ _ _ _ _ st (show D1 [] st st from rfl) rfl h
 | succ k ih=>
  intro st st' d h;exact GR ere s (some (Cs ere s k)) (fun f hf=>by injection hf with hf;subst hf;exact ih) false _ _ _ _ _ st (show D1 [] st st from rfl) rfl h
end
section
end
section
end
section
def Itm.up (a:Itm) (d:Nat):Itm:=⟨a.set,a.may,if a.err=0 then a.next+d else 0,a.err,if a.err=0 then 0 else a.place+d⟩
theorem J6 (s:List UInt8) (sub:Option (ReSt→ReRes (ReSt × Nd))) (begin n:Nat) (st:ReSt) (parts:List Nd) (front:Bool) (h:AB s st.pos=true):branchM false s sub false begin (n+1) st parts front=.ok (st,Bs parts):=by
 rw [branchM];unfold AB at h;simp only [A0,Bool.false_eq_true,if_false,Bool.not_false,Bool.and_true];rw [h,if_pos rfl]
end
section
open Go.RowKit
theorem BH (s:ByteArray) (k:Nat) (h:k < s.size):byt s.data.toList k=s[k].toNat:=by
 unfold byt;rw [List.getD_eq_getElem?_getD,List.getElem?_eq_getElem (by simpa using h)];rfl
theorem Ar (s:ByteArray):s.data.toList.length=s.size:=by simp
theorem ZU (b:UInt8):(0:Int)≤(b.toNat:Int):=Int.natCast_nonneg _
theorem ZV (b:UInt8):(b.toNat:Int)≤255:=by have:=b.toNat_lt;omega
def Xz (s:List UInt8) (k:Nat):Bool:=decide (k+1 < s.length) && decide (byt s k=45) && !decide (byt s (k+1)=93)
theorem Ni (s:ByteArray) (k:Nat) (w:World) (hs:s.size≤35184372088832) (hk:k≤s.size) :
  Calls Tryz.prog 172 #[.string s,.int .i64 (k:Int)] w fun e w'=>e=.returned (.bool (Xz s.data.toList k))∧Below w.heap.size w w':=by
 have Wn:IntKind.i64.wrap ((k:Int)+1)=(k:Int)+1:=Adm _ (by omega);by_cases q1:k+1 < s.size
 ·have Hd:=Ac8 (show Xz s.data.toList k=(decide (s[k].toNat=45) && !decide (s[k+1].toNat=93)) by
   unfold Xz;rw [Ar,BH s k (by omega),BH s (k+1) q1,decide_eq_true q1,Bool.true_and])
  have r1:decide ((k:Int)+1 < (s.size:Int))=true:=by simp;omega
  by_cases q2:s[k].toNat=45
  ·have r2:((s[k].toNat:Int) == 45)=true:=by simp;omega
   have Q2:=Ac8 q2;clear q2;by_cases q3:s[k+1].toNat=93
   ·have r3:((s[k+1].toNat:Int) != 93)=false:=by simp;omega
    have Q3:=Ac8 q3;clear q3;go_enter Tryz.func172,Tryz.ntmps172;go_wp2_with fail
    go_ret;exact ⟨Fx (by rw [Hd.out,Q2.out,Q3.out];rfl),Adk _ _⟩
   ·have r3:((s[k+1].toNat:Int) != 93)=true:=by simp;omega
    have Q3:=Ac8 q3;clear q3;go_enter Tryz.func172,Tryz.ntmps172;go_wp2_with fail
    go_ret;exact ⟨Fx (by rw [Hd.out,Q2.out,decide_eq_false Q3.out];rfl),Adk _ _⟩
  ·have r2:((s[k].toNat:Int) == 45)=false:=by simp;omega
   have Q2:=Ac8 q2;clear q2;go_enter Tryz.func172,Tryz.ntmps172;go_wp2_with fail
   go_ret;exact ⟨Fx (by rw [Hd.out,decide_eq_false Q2.out];rfl),Adk _ _⟩
 ·have r1:decide ((k:Int)+1 < (s.size:Int))=false:=by simp;omega
  have Hd:=Ac8 (show Xz s.data.toList k=false by
   unfold Xz;rw [Ar,decide_eq_false q1];rfl)
  go_enter Tryz.func172,Tryz.ntmps172;go_wp2_with fail
  go_ret;exact ⟨Fx (by rw [Hd.out]),Adk _ _⟩
theorem G0 {w:World} {a:Nat} {s:OSet} {m:Bool} {T:TypeId} (h:Blk w a #[.int .u64 (ow s 0),.int .u64 (ow s 1),.int .u64 (ow s 2),.int .u64 (ow s 3),.bool m] T) :
  w.cell? ⟨a,0,none⟩=some (.int .u64 (ow s 0))∧w.cell? ⟨a,1,none⟩=some (.int .u64 (ow s 1))∧w.cell? ⟨a,2,none⟩=some (.int .u64 (ow s 2))∧w.cell? ⟨a,3,none⟩=some (.int .u64 (ow s 3))∧w.cell? ⟨a,4,none⟩=some (.bool m):=
 ⟨(h.cell 0).trans rfl,(h.cell 1).trans rfl,(h.cell 2).trans rfl,(h.cell 3).trans rfl,(h.cell 4).trans rfl⟩
theorem Uu:(.agg #[.int .u64 (ow oz 0),.int .u64 (ow oz 1),.int .u64 (ow oz 2),.int .u64 (ow oz 3)]:Value)=.agg #[.int .u64 0,.int .u64 0,.int .u64 0,.int .u64 0]:=by rw [Al,Al,Al,Al]
theorem La (b:Nat) (hb:b < 256) (w:World) (hT:TabIn w) (hg:5 < w.heap.size) :
  Calls Tryz.prog 184 #[.agg #[.int .u64 (ow (Ab b b) 0),.int .u64 (ow (Ab b b) 1),.int .u64 (ow (Ab b b) 2),.int .u64 (ow (Ab b b) 3)]] w fun e w'=>e=.returned (.tuple #[.int .u8 (b:Int),.bool true])∧Below w.heap.size w w':=
 OQ (Ab b b) b hb (by rw [IV b b hb];simp) (fun c hc=>by rw [IV b c hb];simp;omega) w hT hg
def Rf (A B:OSet) (ma mb:Bool):OSet:=if ma && mb then Ab (Ui A) (Ui B) else oz
theorem Sc (A B:OSet) (ma mb:Bool) (hA:ma=true→∃ b:Nat,b < 256∧A=Ab b b) (hB:mb=true→∃ b:Nat,b < 256∧B=Ab b b) (w:World) (hT:TabIn w) (hg:5 < w.heap.size) :
  Calls Tryz.prog 173 #[.agg #[.int .u64 (ow A 0),.int .u64 (ow A 1),.int .u64 (ow A 2),.int .u64 (ow A 3),.bool ma],.agg #[.int .u64 (ow B 0),.int .u64 (ow B 1),.int .u64 (ow B 2),.int .u64 (ow B 3),.bool mb]] w fun e w'=>e=.returned (.agg #[.int .u64 (ow (Rf A B ma mb) 0),.int .u64 (ow (Rf A B ma mb) 1),.int .u64 (ow (Rf A B ma mb) 2),.int .u64 (ow (Rf A B ma mb) 3)])∧Below w.heap.size w w':=by
 have hW:=(((Adk w.heap.size w).alloc (Adf _) (.cells #[.int .u64 (ow A 0),.int .u64 (ow A 1),.int .u64 (ow A 2),.int .u64 (ow A 3),.bool ma] 261)).alloc (by simp) (.cells #[.int .u64 (ow B 0),.int .u64 (ow B 1),.int .u64 (ow B 2),.int .u64 (ow B 3),.bool mb] 261)).alloc (by simp;omega) (.cells #[.int .u64 0,.int .u64 0,.int .u64 0,.int .u64 0] 109);cases ma
 ·go_enter Tryz.func173,Tryz.ntmps173
  go_wp2_with fail
  refine bodyPost_ret (v:=.agg #[.int .u64 0,.int .u64 0,.int .u64 0,.int .u64 0]) (by simp [results,Tryz.results173,go_sem]) rfl ⟨by rw [show Rf A B false mb=oz from rfl,Uu],hW⟩
 ·cases mb
  ·go_enter Tryz.func173,Tryz.ntmps173
   go_wp2_with fail
   refine bodyPost_ret (v:=.agg #[.int .u64 0,.int .u64 0,.int .u64 0,.int .u64 0]) (by simp [results,Tryz.results173,go_sem]) rfl ⟨by rw [show Rf A B true false=oz from rfl,Uu],hW⟩
  ·obtain ⟨a,ha,rfl⟩:=hA rfl
   obtain ⟨b,hb,rfl⟩:=hB rfl;have hs:Rf (Ab a a) (Ab b b) true true=Ab a b:=by
    unfold Rf;rw [(LQ a ha).2,(LQ b hb).2];rfl
   rw [hs];have hb2:=(((Blk.new w #[.int .u64 (ow (Ab a a) 0),.int .u64 (ow (Ab a a) 1),.int .u64 (ow (Ab a a) 2),.int .u64 (ow (Ab a a) 3),.bool true] 261 _ rfl).alloc (.cells #[.int .u64 (ow (Ab b b) 0),.int .u64 (ow (Ab b b) 1),.int .u64 (ow (Ab b b) 2),.int .u64 (ow (Ab b b) 3),.bool true] 261)).alloc (.cells #[.int .u64 0,.int .u64 0,.int .u64 0,.int .u64 0] 109))
   have hb3:=((Blk.new (w.alloc (.cells #[.int .u64 (ow (Ab a a) 0),.int .u64 (ow (Ab a a) 1),.int .u64 (ow (Ab a a) 2),.int .u64 (ow (Ab a a) 3),.bool true] 261)) #[.int .u64 (ow (Ab b b) 0),.int .u64 (ow (Ab b b) 1),.int .u64 (ow (Ab b b) 2),.int .u64 (ow (Ab b b) 3),.bool true] 261 _ rfl).alloc (.cells #[.int .u64 0,.int .u64 0,.int .u64 0,.int .u64 0] 109))
   have hb4:=Blk.new ((w.alloc (.cells #[.int .u64 (ow (Ab a a) 0),.int .u64 (ow (Ab a a) 1),.int .u64 (ow (Ab a a) 2),.int .u64 (ow (Ab a a) 3),.bool true] 261)).alloc (.cells #[.int .u64 (ow (Ab b b) 0),.int .u64 (ow (Ab b b) 1),.int .u64 (ow (Ab b b) 2),.int .u64 (ow (Ab b b) 3),.bool true] 261)) #[.int .u64 0,.int .u64 0,.int .u64 0,.int .u64 0] 109 _ rfl;simp only [World.size_alloc] at hb3 hb4;have hT2:=Es hT hW hg;go_enter Tryz.func173,Tryz.ntmps173;go_wp2_with fail
   refine (La a ha _ hT2 (Adi hg hW.size)).mono ?_;rintro e w1 ⟨rfl,b1⟩;replace hW:=hW.trans (b1.mono hW.size);replace hb3:=hb3.below b1 hb3.lt;replace hb4:=hb4.below b1 hb4.lt;clear hT2 hb2 b1;have hT3:=Es hT hW hg;obtain ⟨c0,c1,c2,c3,c4⟩:=G0 hb3;go_wp2_with fail
   refine (La b hb _ hT3 (Adi hg hW.size)).mono ?_;rintro e w2 ⟨rfl,b2⟩;replace hW:=hW.trans (b2.mono hW.size);replace hb4:=hb4.below b2 hb4.lt;clear c0 c1 c2 c3 c4 hb3 b2 hT3;go_wp2_with fail
   refine (EA a b _ (by omega) (by omega) (by omega) (by omega)).mono ?_;rintro e w3 ⟨rfl,b3⟩;replace hW:=hW.trans (b3.mono hW.size);replace hb4:=hb4.below b3 hb4.lt;clear b3;obtain ⟨d0,d1,d2,d3⟩:=Ah hb4;have f0:=hb4.frozen 0;have f1:=hb4.frozen 1;have f2:=hb4.frozen 2;have f3:=hb4.frozen 3;have hlB:=hb4.lt;go_wp2_with fail
   refine bodyPost_ret (v:=.agg #[.int .u64 (ow (Ab a b) 0),.int .u64 (ow (Ab a b) 1),.int .u64 (ow (Ab a b) 2),.int .u64 (ow (Ab a b) 3)]) (by simp [results,Tryz.results173,go_sem,d0,d1,d2,d3,hlB]) rfl ⟨rfl,?_⟩
   repeat (first | exact hW | refine Below.setCell ?_ (by first | omega | (simp;omega) | simp) _)
end
section
open Go.RowKit Go.Shelf
theorem ZW (W:World) (x y:Int):(convert 165 9 (.slice (some ⟨W.heap.size,0,none⟩) 2 2)).run Tryz.prog (W.alloc (.cells #[.int .u8 x,.int .u8 y] 5))=.ok (.string (strOfNums [x,y])) (W.alloc (.cells #[.int .u8 x,.int .u8 y] 5)):=
 run_convert_bytes_arg _ 165 5 Tryz.underlying165 Tryz.underlying5 _ 0 2 2 [x,y] rfl (fun i hi=>by
  rw [(Blk.new W _ _ _ rfl).cell]
  match i,hi with
  | 0,_=>rfl
  | 1,_=>rfl) _ Tryz.underlying9
theorem FW (W:World) (x y:Int):(convert 165 9 (.slice (some ⟨W.heap.size,0,none⟩) 2 2)).run Tryz.prog (W.alloc (.cells #[.int .u8 x,.int .u8 y] 5)).drew=.ok (.string (strOfNums [x,y])) (W.alloc (.cells #[.int .u8 x,.int .u8 y] 5)).drew:=ZW W.drew x y
theorem Nj (x y:Nat):(strOfNums [(x:Int),(y:Int)]).data.toList=[UInt8.ofNat x,UInt8.ofNat y]:=rfl
theorem BL (s:ByteArray) (k:Nat):(s.extract k s.size).data.toList=s.data.toList.drop k:=by
 rw [ByteArray.data_extract,Array.toList_extract,List.extract_eq_take_drop];rw [List.take_of_length_le];simp
def Acw:Go.Shelf.Ren:=⟨fun | 143=>188 | 217=>54 | 219=>37 | 224=>56 | 225=>55 | 266=>78 | 267=>57 | 314=>79 | n=>n,fun | 3=>3 | 4=>4 | 5=>5 | 9=>9 | 46=>125 | 51=>150 | 146=>151 | n=>n,fun | 1=>0 | n=>n⟩
theorem Ab4:Go.Proofs.Lays.n143 Tryz.prog Acw:={
 mixed:=by kernel_rfl
 f143:=Tryz.func188.trans (congrArg some (by kernel_rfl))
 f217:=Tryz.func54.trans (congrArg some (by kernel_rfl))
 f219:=Tryz.func37.trans (congrArg some (by kernel_rfl))
 f224:=Tryz.func56.trans (congrArg some (by kernel_rfl))
 f225:=Tryz.func55.trans (congrArg some (by kernel_rfl))
 f266:=Tryz.func78.trans (congrArg some (by kernel_rfl))
 f267:=Tryz.func57.trans (congrArg some (by kernel_rfl))
 f314:=Tryz.func79.trans (congrArg some (by kernel_rfl))
 t3:=Tryz.underlying3
 a3:=Tryz.isAgg3
 z3:=Tryz.sizeOf3
 v3:=Tryz.zeroValue3
 t4:=Tryz.underlying4
 a4:=Tryz.isAgg4
 z4:=Tryz.sizeOf4
 v4:=Tryz.zeroValue4
 t5:=Tryz.underlying5
 a5:=Tryz.isAgg5
 z5:=Tryz.sizeOf5
 v5:=Tryz.zeroValue5
 t9:=Tryz.underlying9
 a9:=Tryz.isAgg9
 z9:=Tryz.sizeOf9
 v9:=Tryz.zeroValue9
 t46:=Tryz.underlying125
 a46:=Tryz.isAgg125
 z46:=Tryz.sizeOf125
 v46:=Tryz.zeroValue125
 t51:=Tryz.underlying150
 a51:=Tryz.isAgg150
 z51:=Tryz.sizeOf150
 v51:=Tryz.zeroValue150
 t146:=Tryz.underlying151
 a146:=Tryz.isAgg151
 z146:=Tryz.sizeOf151
 v146:=Tryz.zeroValue151
 g1:=by kernel_rfl }
theorem Sd (s t:ByteArray) (m:Int) (w:World) (hs:s.size < 4294967281) (hm:w.cell? ⟨0,0,none⟩=some (.int .i64 m)) :
  Calls Tryz.prog 188 #[.string s,.string t] w fun e w'=>e=.returned (.int .i64 (Lib.index s.data.toList t.data.toList))∧w=w':=
 (Any.strings_Index Ab4 s t m w hs hm).mono fun _ _ ⟨h1,h2⟩=>⟨h1,h2.symm⟩
def Ab5:Go.Shelf.Ren:=⟨fun | 99=>23 | 206=>32 | n=>n,fun | 3=>3 | 4=>4 | 9=>9 | n=>n,fun n=>n⟩
theorem Ab6:Go.Proofs.Lays.n99 Tryz.prog Ab5:={
 mixed:=by kernel_rfl
 f99:=Tryz.func23.trans (congrArg some (by kernel_rfl))
 f206:=Tryz.func32.trans (congrArg some (by kernel_rfl))
 t3:=Tryz.underlying3
 a3:=Tryz.isAgg3
 z3:=Tryz.sizeOf3
 v3:=Tryz.zeroValue3
 t4:=Tryz.underlying4
 a4:=Tryz.isAgg4
 z4:=Tryz.sizeOf4
 v4:=Tryz.zeroValue4
 t9:=Tryz.underlying9
 a9:=Tryz.isAgg9
 z9:=Tryz.sizeOf9
 v9:=Tryz.zeroValue9 }
theorem Ck (s t:ByteArray) (w:World) :
  Calls Tryz.prog 23 #[.string s,.string t] w fun e w'=>e=.returned (.bool (Lib.hasPrefix s.data.toList t.data.toList))∧w=w':=
 (Any.strings_HasPrefix Ab6 s t w).mono fun _ _ ⟨h1,h2⟩=>⟨h1,h2.symm⟩
end
section
open Go.RowKit
theorem DE (b:Nat):Dt [(b:Int)]=Ab b b:=by
 unfold Ab Dt;rw [show ((b:Int) - (b:Int)+1).toNat=1 by omega,Int.toNat_natCast];simp [CH]
theorem BQ {w:World} {a:Nat} {T:TypeId} (h:Blk w a #[.int .u64 0,.int .u64 0,.int .u64 0,.int .u64 0,.bool false] T) :
  w.cell? ⟨a,0,none⟩=some (.int .u64 0)∧w.cell? ⟨a,1,none⟩=some (.int .u64 0)∧w.cell? ⟨a,2,none⟩=some (.int .u64 0)∧w.cell? ⟨a,3,none⟩=some (.int .u64 0)∧w.cell? ⟨a,4,none⟩=some (.bool false):=
 ⟨(h.cell 0).trans rfl,(h.cell 1).trans rfl,(h.cell 2).trans rfl,(h.cell 3).trans rfl,(h.cell 4).trans rfl⟩
def Uv (s:OSet) (m ok:Bool):Value:=.tuple #[.agg #[.int .u64 (ow s 0),.int .u64 (ow s 1),.int .u64 (ow s 2),.int .u64 (ow s 3),.bool m],.bool ok]
theorem XP (t:ByteArray) (w:World) :
  Calls Tryz.prog 186 #[.string t,.int .u8 58] w fun e w'=>e=.returned (Uv (A4 t.toList) false (CA t.toList))∧Below w.heap.size w w':=by
 have hB:=Blk.new w #[.int .u64 0,.int .u64 0,.int .u64 0,.int .u64 0,.bool false] 261 _ rfl;have hW:=(Adk w.heap.size w).alloc (Adf _) (.cells #[.int .u64 0,.int .u64 0,.int .u64 0,.int .u64 0,.bool false] 261);generalize hcs:A4 t.toList=cs;generalize hok:CA t.toList=ok;go_enter Tryz.func186,Tryz.ntmps186;go_wp2_with fail
 refine (KW _ _).mono ?_;rintro e w1 ⟨he,b1⟩;rw [hcs,hok] at he;subst he;replace hW:=hW.trans (b1.mono hW.size);replace hB:=hB.below b1 hB.lt;clear b1;obtain ⟨d0,d1,d2,d3,d4⟩:=BQ hB;have f0:=hB.frozen 0;have f1:=hB.frozen 1;have f2:=hB.frozen 2;have f3:=hB.frozen 3;have f4:=hB.frozen 4;have hlB:=hB.lt;go_wp2_with fail
 refine bodyPost_ret (v:=Uv cs false ok) (by simp [results,Tryz.results186,go_sem,d0,d1,d2,d3,d4,Uv,hlB]) rfl ⟨rfl,?_⟩
 repeat (first | (with_reducible exact hW) | refine Below.setCell ?_ (by first | omega | (simp;omega) | simp) _ | refine Below.alloc ?_ (by first | omega | (simp;omega) | simp) _)
theorem Se (t:ByteArray) (o:Int) (w:World) (ho:o≠58) (ht:t.size=1) :
  Calls Tryz.prog 186 #[.string t,.int .u8 o] w fun e w'=>e=.returned (Uv (Ab (byt t.data.toList 0) (byt t.data.toList 0)) (o == 46) true)∧Below w.heap.size w w':=by
 have r1:(o == 58)=false:=by simp [ho]
 have r2:((t.size:Int) != 1)=false:=by simp [ht]
 have hb:=Ac8 (BH t 0 (by omega));have lt0:0 < t.size:=by omega
 rw [hb.out];have hB:=Blk.new w #[.int .u64 0,.int .u64 0,.int .u64 0,.int .u64 0,.bool false] 261 _ rfl;have hW:=(Adk w.heap.size w).alloc (Adf _) (.cells #[.int .u64 0,.int .u64 0,.int .u64 0,.int .u64 0,.bool false] 261);go_enter Tryz.func186,Tryz.ntmps186;go_wp2_with fail
 refine (C8 (t[0].toNat:Int) (ZU _) (ZV _) _ _ (by simp)).mono ?_;rintro e w1 ⟨rfl,b1⟩;rw [DE];replace hW:=hW.trans (b1.mono hW.size);replace hB:=hB.below b1 hB.lt;clear b1;obtain ⟨d0,d1,d2,d3,d4⟩:=BQ hB;have f0:=hB.frozen 0;have f1:=hB.frozen 1;have f2:=hB.frozen 2;have f3:=hB.frozen 3;have f4:=hB.frozen 4;have hlB:=hB.lt;go_wp2_with fail
 refine bodyPost_ret (v:=Uv (Ab (t[0].toNat:Int) (t[0].toNat:Int)) (o == 46) true) (by simp [results,Tryz.results186,go_sem,d0,d1,d2,d3,d4,Uv,hlB]) rfl ⟨rfl,?_⟩
 repeat (first | (with_reducible exact hW) | refine Below.setCell ?_ (by first | omega | (simp;omega) | simp) _ | refine Below.alloc ?_ (by first | omega | (simp;omega) | simp) _)
theorem OX (t:ByteArray) (o:Int) (w:World) (ho:o≠58) (ht:t.size≠1) :
  Calls Tryz.prog 186 #[.string t,.int .u8 o] w fun e w'=>e=.returned (Uv oz false false)∧Below w.heap.size w w':=by
 have r1:(o == 58)=false:=by simp [ho]
 have r2:((t.size:Int) != 1)=true:=by simp;omega
 have hB:=Blk.new w #[.int .u64 0,.int .u64 0,.int .u64 0,.int .u64 0,.bool false] 261 _ rfl;have hW:=(Adk w.heap.size w).alloc (Adf _) (.cells #[.int .u64 0,.int .u64 0,.int .u64 0,.int .u64 0,.bool false] 261);go_enter Tryz.func186,Tryz.ntmps186;go_wp2_with fail
 refine bodyPost_ret (v:=Uv oz false false) (by simp [results,Tryz.results186,go_sem,Uv,Al]) rfl ⟨rfl,?_⟩
 repeat (first | (with_reducible exact hW) | refine Below.setCell ?_ (by first | omega | (simp;omega) | simp) _ | refine Below.alloc ?_ (by first | omega | (simp;omega) | simp) _)
def Sf (s:List UInt8) (o:Nat) (e:Nat):Int:=match Ng s o e with
 | some x=>(x:Int)
 | none=>-1
def MU (s:List UInt8) (o:Nat) (e:Nat):Int:=match Ng s o e with
 | some x=>(x:Int) - (e:Int)
 | none=>-1
theorem Rg (s:List UInt8) (o e:Nat) (h:¬ MU s o e < 0):Sf s o e=(e:Int)+MU s o e∧0≤MU s o e∧(e:Int)+MU s o e < s.length:=by
 unfold Sf MU at *;cases hf:Ng s o e with
 | none=>rw [hf] at h;simp at h
 | some x=>
  have:=J1 _ _ _ _ hf;simp only;omega
theorem Uw (s:List UInt8) (o e:Nat) (h:MU s o e < 0):Sf s o e=-1:=by
 unfold Sf MU at *;cases hf:Ng s o e with
 | none=>rfl
 | some x=>
  have:=J1 _ _ _ _ hf;rw [hf] at h;simp only at h;omega
theorem Ux (s:List UInt8) (o e:Nat) (h:s.length≤e):Sf s o e=-1:=by
 unfold Sf;rw [Ng,if_neg (by omega)]
theorem XQ (s:ByteArray) (k o:Nat) (w:World) (m:Int) (hs:s.size≤1000000) (hk:k≤s.size) (ho:o < 256) (hm:w.cell? ⟨0,0,none⟩=some (.int .i64 m)) :
  Calls Tryz.prog 188 #[.string (s.extract k s.size),.string (strOfNums [(o:Int),93])] w fun e w'=>e=.returned (.int .i64 (MU s.data.toList o k))∧w=w':=by
 have h:=Sd (s.extract k s.size) (strOfNums [(o:Int),((93:Nat):Int)]) m w (by simp;omega) hm;rw [BL,Nj,show UInt8.ofNat 93=93 from rfl,XI _ _ _ (by rw [Ar];exact hk),show (UInt8.ofNat o).toNat=o by simp;omega] at h;exact h
theorem Uy (s:ByteArray) (k o:Nat) (w:World) (m:Int) (hs:s.size≤1000000) (hk:k≤s.size) (ho:o < 256) (h58:o=58) (hm:w.cell? ⟨0,0,none⟩=some (.int .i64 m)) (hg:0 < w.heap.size) :
  Calls Tryz.prog 185 #[.string s,.int .i64 (k:Int),.int .u8 (o:Int)] w fun e w'=>e=.returned (.int .i64 (Sf s.data.toList o k))∧Below w.heap.size w w':=by
 have kc:=FW w o 93;have hm2:∀ x,(w.alloc x).cell? ⟨0,0,none⟩=some (.int .i64 m):=fun x=>(((Adk w.heap.size w).alloc (Adf _) x).cell (p:=⟨0,0,none⟩) hg).trans hm;have hm3:∀ x,(w.alloc x).drew.cell? ⟨0,0,none⟩=some (.int .i64 m):=hm2
 have r1:((o:Int) != 58)=false:=by simp [h58]
 have r2:decide ((s.size:Int) < (k:Int))=false:=by simp;omega
 have r3:decide (s.size < k)=false:=decide_eq_false (by omega);clear h58;by_cases hc:MU s.data.toList o k < 0
 ·have Hc:=Ac8 (Uw _ _ _ hc)
  have r4:decide (MU s.data.toList o k < 0)=true:=decide_eq_true hc;clear hc
  (go_enter Tryz.func185,Tryz.ntmps185;go_wp2_with fail;go_region_with (go_at_call 188;refine (XQ s k o _ m hs (by omega) ho (hm3 _)).mono ?_;rintro e w1 ⟨rfl,rfl⟩);go_wp2_with fail)
  go_ret;exact ⟨GL (by rw [Hc.out]),Below.drew ((Adk w.heap.size w).alloc (Adf _) _)⟩
 ·have hy:=Rg _ _ _ hc
  rw [Ar] at hy;obtain ⟨hy1,hy2,hy3⟩:=hy;have Hc:=Ac8 hy1;clear hy1;have r4:decide (MU s.data.toList o k < 0)=false:=decide_eq_false hc;have r5:IntKind.i64.wrap ((k:Int)+MU s.data.toList o k)=(k:Int)+MU s.data.toList o k:=Adm _ (by omega);clear hc
  (go_enter Tryz.func185,Tryz.ntmps185;go_wp2_with fail;go_region_with (go_at_call 188;refine (XQ s k o _ m hs (by omega) ho (hm3 _)).mono ?_;rintro e w1 ⟨rfl,rfl⟩);go_wp2_with fail)
  go_ret;exact ⟨GL (by rw [Hc.out]),Below.drew ((Adk w.heap.size w).alloc (Adf _) _)⟩
theorem OY (s:ByteArray) (k o:Nat) (w:World) (m:Int) (hs:s.size≤1000000) (hk:k≤s.size) (ho:o < 256) (h58:o≠58) (hm:w.cell? ⟨0,0,none⟩=some (.int .i64 m)) (hg:0 < w.heap.size) :
  Calls Tryz.prog 185 #[.string s,.int .i64 (k:Int),.int .u8 (o:Int)] w fun e w'=>e=.returned (.int .i64 (Sf s.data.toList o (k+1)))∧Below w.heap.size w w':=by
 have kc:=FW w o 93;have hm2:∀ x,(w.alloc x).cell? ⟨0,0,none⟩=some (.int .i64 m):=fun x=>(((Adk w.heap.size w).alloc (Adf _) x).cell (p:=⟨0,0,none⟩) hg).trans hm;have hm3:∀ x,(w.alloc x).drew.cell? ⟨0,0,none⟩=some (.int .i64 m):=hm2
 have Wn:IntKind.i64.wrap ((k:Int)+1)=((k+1:Nat):Int):=by rw [Adm _ (by omega)];omega
 have r1:((o:Int) != 58)=true:=by simp;omega
 clear h58;by_cases hlt:k+1≤s.size
 ·generalize hk1:k+1=k1 at *
  have r2:decide ((s.size:Int) < (k1:Int))=false:=by simp;omega
  have r3:decide (s.size < k1)=false:=decide_eq_false (by omega);by_cases hc:MU s.data.toList o k1 < 0
  ·have Hc:=Ac8 (Uw _ _ _ hc)
   have r4:decide (MU s.data.toList o k1 < 0)=true:=decide_eq_true hc;clear hc
   (go_enter Tryz.func185,Tryz.ntmps185;go_wp2_with fail;go_region_with (go_at_call 188;refine (XQ s k1 o _ m hs (by omega) ho (hm3 _)).mono ?_;rintro e w1 ⟨rfl,rfl⟩);go_wp2_with fail)
   go_ret;exact ⟨GL (by rw [Hc.out]),Below.drew ((Adk w.heap.size w).alloc (Adf _) _)⟩
  ·have hy:=Rg _ _ _ hc
   rw [Ar] at hy;obtain ⟨hy1,hy2,hy3⟩:=hy;have Hc:=Ac8 hy1;clear hy1;have r4:decide (MU s.data.toList o k1 < 0)=false:=decide_eq_false hc;have r5:IntKind.i64.wrap ((k1:Int)+MU s.data.toList o k1)=(k1:Int)+MU s.data.toList o k1:=Adm _ (by omega);clear hc
   (go_enter Tryz.func185,Tryz.ntmps185;go_wp2_with fail;go_region_with (go_at_call 188;refine (XQ s k1 o _ m hs (by omega) ho (hm3 _)).mono ?_;rintro e w1 ⟨rfl,rfl⟩);go_wp2_with fail)
   go_ret;exact ⟨GL (by rw [Hc.out]),Below.drew ((Adk w.heap.size w).alloc (Adf _) _)⟩
 ·have r2:decide ((s.size:Int) < ((k+1:Nat):Int))=true:=by simp;omega
  have Hp:=Ac8 (Ux s.data.toList o (k+1) (by rw [Ar];omega));generalize hk1:k+1=k1 at *;have r3:decide (s.size < k1)=true:=decide_eq_true (by omega);go_enter Tryz.func185,Tryz.ntmps185;go_wp2_with fail
  go_ret;exact ⟨GL (by rw [Hp.out]),Adk _ _⟩
end
section
open Go.RowKit
def glN:Nat:=Nat.max (Nat.max 5 4) 0+1
structure Gl (w:World):Prop where
 tab:TabIn w
 op0:w.cell? ⟨4,0,none⟩=some (.int .u8 58)
 op1:w.cell? ⟨4,1,none⟩=some (.int .u8 61)
 op2:w.cell? ⟨4,2,none⟩=some (.int .u8 46)
 ml:∃ m,w.cell? ⟨0,0,none⟩=some (.int .i64 m)
 lt:glN≤w.heap.size
theorem Gl.below {w w':World} {B:Nat} (h:Gl w) (hb:Below B w w') (hB:glN≤B):Gl w':=
 ⟨Es h.tab hb (Adi (by decide) hB),
  (hb.cell (p:=⟨4,0,none⟩) (Adi (by decide) hB)).trans h.op0,
  (hb.cell (p:=⟨4,1,none⟩) (Adi (by decide) hB)).trans h.op1,
  (hb.cell (p:=⟨4,2,none⟩) (Adi (by decide) hB)).trans h.op2,
  h.ml.imp fun _ hm=>(hb.cell (p:=⟨0,0,none⟩) (Adi (by decide) hB)).trans hm,
  Adg h.lt hb.size⟩
theorem Gl.up {w w':World} (h:Gl w) (hb:Below w.heap.size w w'):Gl w':=h.below hb h.lt
def GD (s:OSet) (m:Bool) (at':Nat) (er:Nat):Value:=.tuple #[.agg #[.int .u64 (ow s 0),.int .u64 (ow s 1),.int .u64 (ow s 2),.int .u64 (ow s 3),.bool m],.int .i64 (at':Int),.int .i64 (er:Int)]
theorem Nk (s:ByteArray) (k o:Nat) (w:World) (hs:s.size≤1000000) (hk:k+2≤s.size) (hG:Gl w)
  (hcl:∀ w,Gl w→Calls Tryz.prog 185 #[.string s,.int .i64 ((k:Int)+2),.int .u8 (o:Int)] w fun e w'=>e=.returned (.int .i64 (-1))∧Below w.heap.size w w') :
  Calls Tryz.prog 183 #[.string s,.int .i64 (k:Int),.int .u8 (o:Int)] w fun e w'=>e=.returned (GD oz false s.size 5)∧Below w.heap.size w w':=by
 have hB:=Blk.new w #[.int .u64 0,.int .u64 0,.int .u64 0,.int .u64 0,.bool false] 261 _ rfl;have hW:=(Adk w.heap.size w).alloc (Adf _) (.cells #[.int .u64 0,.int .u64 0,.int .u64 0,.int .u64 0,.bool false] 261);have Wn:IntKind.i64.wrap ((k:Int)+2)=(k:Int)+2:=Adm _ (by omega);have hG1:=hG.up hW;go_enter Tryz.func183,Tryz.ntmps183;go_wp2_with fail
 refine (hcl _ hG1).mono ?_;rintro e w1 ⟨rfl,b1⟩;replace hW:=hW.trans (b1.mono hW.size);replace hB:=hB.below b1 hB.lt;clear b1;obtain ⟨d0,d1,d2,d3,d4⟩:=BQ hB;have f0:=hB.frozen 0;have f1:=hB.frozen 1;have f2:=hB.frozen 2;have f3:=hB.frozen 3;have f4:=hB.frozen 4;have hlB:=hB.lt;go_wp2_with fail
 refine bodyPost_ret (v:=GD oz false s.size 5) (by simp [results,Tryz.results183,go_sem,d0,d1,d2,d3,d4,GD,hlB,Al]) rfl ⟨rfl,?_⟩
 repeat (first | (with_reducible exact hW) | refine Below.setCell ?_ (by first | omega | (simp;omega) | simp) _ | refine Below.alloc ?_ (by first | omega | (simp;omega) | simp) _)
theorem F3 (s:ByteArray) (k o x:Nat) (cs:OSet) (m ok:Bool) (w:World) (hs:s.size≤1000000) (hk:k+2≤s.size) (hG:Gl w) (hx0:k+2≤x) (hx1:x+1 < s.size)
  (hcl:∀ w,Gl w→Calls Tryz.prog 185 #[.string s,.int .i64 ((k:Int)+2),.int .u8 (o:Int)] w fun e w'=>e=.returned (.int .i64 (x:Int))∧Below w.heap.size w w')
  (hnm:∀ w,Calls Tryz.prog 186 #[.string (s.extract (k+2) x),.int .u8 (o:Int)] w fun e w'=>e=.returned (Uv cs m ok)∧Below w.heap.size w w') :
  Calls Tryz.prog 183 #[.string s,.int .i64 (k:Int),.int .u8 (o:Int)] w fun e w'=>e=.returned (if ok then GD cs m (x+2) 0 else GD oz false k 6)∧Below w.heap.size w w':=by
 have hB:=Blk.new w #[.int .u64 0,.int .u64 0,.int .u64 0,.int .u64 0,.bool false] 261 _ rfl;have hW:=(Adk w.heap.size w).alloc (Adf _) (.cells #[.int .u64 0,.int .u64 0,.int .u64 0,.int .u64 0,.bool false] 261);have Wn:IntKind.i64.wrap ((k:Int)+2)=(k:Int)+2:=Adm _ (by omega);have Wx:IntKind.i64.wrap ((x:Int)+2)=(x:Int)+2:=Adm _ (by omega);have hG1:=hG.up hW;go_enter Tryz.func183,Tryz.ntmps183;go_wp2_with fail
 refine (hcl _ hG1).mono ?_;rintro e w1 ⟨rfl,b1⟩;replace hW:=hW.trans (b1.mono hW.size);replace hB:=hB.below b1 hB.lt;clear b1;go_wp2_with fail
 refine (hnm _).mono ?_;rintro e w2 ⟨rfl,b1⟩;replace hW:=hW.trans (b1.mono hW.size);replace hB:=hB.below b1 hB.lt;clear b1;obtain ⟨d0,d1,d2,d3,d4⟩:=BQ hB;have f0:=hB.frozen 0;have f1:=hB.frozen 1;have f2:=hB.frozen 2;have f3:=hB.frozen 3;have f4:=hB.frozen 4;have hlB:=hB.lt;unfold Uv;cases ok
 ·go_wp2_with fail
  refine bodyPost_ret (v:=GD oz false k 6) (by simp [results,Tryz.results183,go_sem,d0,d1,d2,d3,d4,GD,hlB,Al]) rfl ⟨rfl,?_⟩
  repeat (first | (with_reducible exact hW) | refine Below.setCell ?_ (by first | omega | (simp;omega) | simp) _ | refine Below.alloc ?_ (by first | omega | (simp;omega) | simp) _)
 ·go_wp2_with fail
  refine bodyPost_ret (v:=GD cs m (x+2) 0) (by simp [results,Tryz.results183,go_sem,d0,d1,d2,d3,d4,GD,hlB,Al]) rfl ⟨rfl,?_⟩
  repeat (first | (with_reducible exact hW) | refine Below.setCell ?_ (by first | omega | (simp;omega) | simp) _ | refine Below.alloc ?_ (by first | omega | (simp;omega) | simp) _)
end
section
set_option linter.unusedVariables false
abbrev Wm:=Int × ByteArray
def Sg (m:Nat × Nat):Wm:=((m.1:Int),⟨#[92,UInt8.ofNat m.2]⟩)
def Ce (by':Int) (l:List Wm):List Wm:=l.map fun m=>(Go.IntKind.i64.wrap (m.1+by'),m.2)
abbrev BG (α:Type):=Except (Nat × Nat) (α × List Wm × Nat)
structure Adr where
 kind:Nat
 line:Nat
 text:List UInt8
 tree:Option Nd
def G1:Adr:=⟨0,0,[],none⟩
def At (ext:Bool) (L:List UInt8) (b:Nat) (d:UInt8):BG (List UInt8 × Nd):=
 let r:=Aj L b d true
 if r.2.2=0 then
  (if r.1=[] then .error (2,b) else
   match AY ext r.1 with
   | .error q=>.error (q.1,b)
   | .ok q=>.ok ((r.1,q.2),Ce b (q.1.marks.map Sg),r.2.1))
 else .error (r.2.2,r.2.1)
def Ec (ext:Bool) (L:List UInt8) (b:Nat) (d:UInt8):BG Adr:=
 match At ext L b d with
 | .error q=>.error q
 | .ok q=>.ok (⟨3,0,q.1.1,some q.1.2⟩,q.2)
def Dl (L:List UInt8) (k:Nat):BG Adr:=
 let r:=Bu L k
 if r.2.2=0 then (if r.1=0 then .error (12,k) else .ok (⟨1,r.1,[],none⟩,[],r.2.1)) else .error (r.2.2,r.2.1)
def Dm (L:List UInt8) (k:Nat):BG Adr:=
 let r:=Bu L (k+1)
 if r.2.2=0 then .ok (⟨4,r.1,[],none⟩,[((k:Int),⟨#[43]⟩)],r.2.1) else .error (r.2.2,r.2.1)
def EE (ext:Bool) (L:List UInt8) (k:Nat):BG Adr:=
 match L.drop (k+1) with
 | []=>.error (12,k)
 | x :: _=>if x=92∨x=10 then .error (12,k) else Ec ext L (k+2) x
def EN (ext second:Bool) (L:List UInt8) (k:Nat):BG Adr:=
 match L.drop k with
 | []=>.ok (G1,[],k)
 | c :: _=>
  if 48≤c.toNat∧c.toNat≤57 then Dl L k
  else if c=36 then .ok (⟨2,0,[],none⟩,[],k+1)
  else if c=47 then Ec ext L (k+1) 47
  else if c=92 then EE ext L k
  else if c=43∧second=true then Dm L k
  else .ok (G1,[],k)
structure Grd where
 a:Adr
 b:Adr
 no:Bool
def Ak (L:List UInt8) (k:Nat):Nat:=k+EQ [32,9] (L.drop k)
def Et (c:Nat) (R:BG Adr):BG Adr:=
 match R with
 | .error q=>.error q
 | .ok q=>if q.1.kind=0 then .error (12,c) else .ok q
def BY (ext:Bool) (L:List UInt8) (k:Nat):BG Adr:=
 if (L.drop (Ak L k)).head?=some 44 then Et (Ak L (Ak L k+1)) (EN ext true L (Ak L (Ak L k+1)))
 else .ok (G1,[],k)
def Cw (L:List UInt8) (k:Nat):Except (Nat × Nat) (Bool × Nat):=
 if (L.drop (Ak L k)).head?=some 33 then
  (if (L.drop (Ak L (Ak L k+1))).head?=some 33 then .error (15,Ak L (Ak L k+1)) else .ok (true,Ak L (Ak L k+1)))
 else .ok (false,Ak L k)
def F4 (a:Adr) (ms:List Wm) (R:BG Adr):BG (Adr × Adr):=
 match R with
 | .error r=>.error r
 | .ok r=>.ok ((a,r.1),ms++r.2.1,r.2.2)
def Ed (ext:Bool) (L:List UInt8) (R:BG Adr):BG (Adr × Adr):=
 match R with
 | .error q=>.error q
 | .ok q=>if q.1.kind=0 then .ok ((q.1,G1),q.2) else F4 q.1 q.2.1 (BY ext L q.2.2)
def F5 (a b:Adr) (ms:List Wm) (R:Except (Nat × Nat) (Bool × Nat)):BG Grd:=
 match R with
 | .error r=>.error r
 | .ok r=>.ok (⟨a,b,r.1⟩,ms,r.2)
def G2 (L:List UInt8) (R:BG (Adr × Adr)):BG Grd:=
 match R with
 | .error q=>.error q
 | .ok q=>F5 q.1.1 q.1.2 q.2.1 (Cw L q.2.2)
def IW (ext:Bool) (L:List UInt8) (k:Nat):BG Grd:=G2 L (Ed ext L (EN ext false L k))
theorem F6 (L:List UInt8) (k:Nat) (h:k≤L.length):k≤Ak L k∧Ak L k≤L.length:=by
 unfold Ak EQ;have:=Bt (fun b=>([32,9]:List UInt8).contains b) (L.drop k);rw [List.length_drop] at this;omega
theorem EF (L:List UInt8) (k:Nat) (h:k≤L.length):k≤(Bu L k).2.1∧(Bu L k).2.1≤L.length:=by
 unfold Bu EQ;have:=Bt (fun b=>A2.contains b) (L.drop k);rw [List.length_drop] at this;simp only;split
 ·exact ⟨Adf _,h⟩
 ·split
  ·exact ⟨Adf _,h⟩
  ·simp only;omega
theorem J7 (d:UInt8) (rx:Bool) (L:List UInt8):∀ (n p:Nat) (acc:List UInt8),p≤L.length→(Ch d rx L n p acc).2.1≤L.length
 | 0,p,acc,h=>Adf _
 | n+1,p,acc,h=>by
  cases hd:L.drop p with
  | nil=>rw [Di hd];exact Adf _
  | cons c t=>
   have hl:t.length+1=L.length - p:=by rw [←List.length_drop,hd];rfl
   by_cases hc:c=d
   ·subst hc;rw [Dj hd];simp only;omega
   ·obtain ⟨x,k,e,he⟩:∃ x k e,AV d rx c t p=(x,k,e):=⟨_,_,_,rfl⟩
    by_cases h0:e=0
    ·subst h0
     rw [C7 hd hc he];obtain ⟨h1,h2,_⟩:=E8 he;exact J7 d rx L n k (acc++x) (by omega)
    ·rw [DK hd hc h0 he]
     obtain ⟨_,h2,_⟩:=Gt he h0;simp only;omega
end
end Go.Proofs.YteilldmmihiijaaGreatDoor
