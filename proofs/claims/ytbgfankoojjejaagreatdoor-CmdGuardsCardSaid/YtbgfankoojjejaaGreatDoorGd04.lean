/- The proof's texts MaC: what the claim reaches of them. -/
import Derived.Test.YtbgfankoojjejaaGreatDoorGd01
import Derived.Test.YtbgfankoojjejaaGreatDoorGd03
import Derived.Lib.IndexMore
import Derived.Lib.Strings
import Derived.KernelRfl
set_option linter.unusedSimpArgs false
set_option linter.unusedVariables false
set_option maxHeartbeats 8000000
set_option maxRecDepth 1000000
namespace Go.Proofs.YtbgfankoojjejaaGreatDoor
def byt (s:List UInt8) (k:Nat):Nat:=(s.getD k 0).toNat
def fnd (s:List UInt8) (kind:Nat) (e:Nat):Option Nat:=
 if e+1 < s.length then (if byt s e=kind∧byt s (e+1)=93 then some e else fnd s kind (e+1)) else none
termination_by s.length - e
structure Itm where
 set:OSet
 may:Bool
 next:Nat
 err:Nat
 place:Nat
def opens (s:List UInt8) (k:Nat):Bool:=decide (byt s k=91) && decide (k+1 < s.length) && (decide (byt s (k+1)=58) || decide (byt s (k+1)=61) || decide (byt s (k+1)=46))
def sub (s:List UInt8) (i j:Nat):List UInt8:=(s.drop i).take (j - i)
def boxed (s:List UInt8) (k e:Nat):Itm:=
 if byt s (k+1)=58 then (if clsOk (sub s (k+2) e) then ⟨clsSet (sub s (k+2) e),false,e+2,0,0⟩ else ⟨oz,false,0,6,k⟩)
 else if e=k+3 then ⟨oSpan (byt s (k+2)) (byt s (k+2)),decide (byt s (k+1)=46),e+2,0,0⟩
 else ⟨oz,false,0,6,k⟩
def from1 (s:List UInt8) (k:Nat):Nat:=if byt s (k+1)=58 then k+2 else k+3
def itm (s:List UInt8) (k:Nat):Itm:=
 if s.length≤k then ⟨oz,false,0,5,s.length⟩
 else if opens s k then (match fnd s (byt s (k+1)) (from1 s k) with
  | some e=>boxed s k e
  | none=>⟨oz,false,0,5,s.length⟩)
 else ⟨oSpan (byt s k) (byt s k),true,k+1,0,0⟩
theorem fnd_ge (s:List UInt8) (kind:Nat) (e x:Nat) (h:fnd s kind e=some x):e≤x∧x+1 < s.length:=by
 fun_induction fnd s kind e with
 | case1 e h1 h2=>simp at h;omega
 | case2 e h1 h2 ih=>have:=ih h;omega
 | case3 e h1=>simp at h
theorem itm_next (s:List UInt8) (k:Nat) (h:(itm s k).err=0):k < (itm s k).next∧(itm s k).next≤s.length:=by
 unfold itm at h ⊢
 split at h
 ·simp at h
 ·rename_i hk
  rw [if_neg hk]
  split at h
  ·rename_i ho
   rw [if_pos ho]
   split at h
   ·rename_i e he
    have hge:=fnd_ge _ _ _ _ he
    have hf:k+2≤from1 s k:=by unfold from1;split <;> omega
    unfold boxed at h ⊢
    split at h
    ·split at h
     ·rename_i h1 h2
      rw [if_pos h1,if_pos h2]
      simp only
      omega
     ·simp at h
    ·split at h
     ·rename_i h1 h2
      rw [if_neg h1,if_pos h2]
      simp only
      omega
     ·simp at h
   ·simp at h
  ·rename_i ho
   rw [if_neg ho]
   simp only
   omega
def lst (s:OSet):Nat:=match sps s with
 | []=>0
 | p :: _=>p.1
def elm (s:List UInt8) (k:Nat):Except (Nat × Nat) (OSet × Nat):=
 let a:=itm s k
 if a.err≠0 then .error (a.err,a.place)
 else if a.next+1 < s.length∧byt s a.next=45∧byt s (a.next+1)≠93 then
  let b:=itm s (a.next+1)
  if b.err≠0 then .error (b.err,b.place)
  else if a.may && b.may && decide (lst a.set≤lst b.set) then .ok (oSpan (lst a.set) (lst b.set),b.next)
  else .error (1,k)
 else .ok (a.set,a.next)
theorem elm_next (s:List UInt8) (k:Nat) (t:OSet) (j:Nat) (h:elm s k=.ok (t,j)):k < j∧j≤s.length:=by
 unfold elm at h
 simp only at h
 split at h
 ·cases h
 ·rename_i h1
  have h2:=itm_next s k (by simpa using h1)
  split at h
  ·split at h
   ·cases h
   ·rename_i h3
    have h4:=itm_next s _ (by simpa using h3)
    split at h
    ·injection h with h;injection h with _ h;omega
    ·cases h
  ·injection h with h;injection h with _ h;omega
/-- The rest of an expression from k on: its set beside what was there, and the place behind it; or the error. -/
def rst (s:List UInt8) (first:Bool) (k:Nat) (out:OSet):Except (Nat × Nat) (OSet × Nat):=
 if first=false∧k < s.length∧byt s k=93 then .ok (out,k+1)
 else match h:elm s k with
  | .error e=>.error e
  | .ok (t,j)=>rst s false j (out ||| t)
termination_by s.length - k
decreasing_by have:=elm_next s k t j h;omega
def prs (s:List UInt8) (k:Int):OSet × Int × Nat:=
 if k < 0∨(s.length:Int) < k then (oz,0,1)
 else
  let k:=k.toNat
  let not:=decide (k < s.length) && decide (byt s k=94)
  match rst s true (if not then k+1 else k) oz with
  | .error (e,p)=>(oz,p,e)
  | .ok (t,j)=>(if not then ~~~t else t,j,0)
end Go.Proofs.YtbgfankoojjejaaGreatDoor
namespace Go.Proofs.YtbgfankoojjejaaGreatDoor
theorem one_has (b k:Nat) (hb:b < 256):ohas (oSpan b b) k=(decide (b≤k) && decide (k < b+1)):=by
 unfold ohas oSpan
 rw [Int.toNat_natCast,show ((b:Int) - (b:Int)+1).toNat=1 by omega,ospan_get _ _ _ (by omega)]
theorem lst_one (b:Nat) (hb:b < 256):sps (oSpan b b)≠[]∧lst (oSpan b b)=b:=by
 have h1:ohas (oSpan b b) b=true:=by rw [one_has b b hb];simp
 cases hs:sps (oSpan b b) with
 | nil=>
  have h:=sps_nil _ hs
  rw [h] at h1
  simp [ohas,oz] at h1
 | cons p l=>
  refine ⟨by simp,?_⟩
  obtain ⟨_,h2,h3⟩:=sps_first _ p l hs
  unfold lst
  rw [hs]
  rw [one_has b p.1 hb] at h2
  simp only [Bool.and_eq_true,decide_eq_true_eq] at h2
  simp only
  omega
theorem byt_lt (s:List UInt8) (k:Nat):byt s k < 256:=(s.getD k 0).toNat_lt
theorem itm_may (s:List UInt8) (k:Nat) (h:(itm s k).may=true):∃ b:Nat,b < 256∧(itm s k).set=oSpan b b:=by
 unfold itm at h ⊢
 split at h
 ·simp at h
 ·rename_i hk
  rw [if_neg hk]
  split at h
  ·rename_i ho
   rw [if_pos ho]
   split at h
   ·rename_i e he
    unfold boxed at h ⊢
    split at h
    ·split at h <;> simp at h
    ·rename_i h1
     rw [if_neg h1]
     split at h
     ·rename_i h2
      rw [if_pos h2]
      exact ⟨_,byt_lt s (k+2),rfl⟩
     ·simp at h
   ·simp at h
  ·rename_i ho
   rw [if_neg ho]
   exact ⟨_,byt_lt s k,rfl⟩
theorem rst_ok (s:List UInt8) (first:Bool) (k:Nat) (out t:OSet) (j:Nat) (hn:¬ (first=false∧k < s.length∧byt s k=93)) (h:elm s k=.ok (t,j)):rst s first k out=rst s false j (out ||| t):=by
 rw [rst,if_neg hn]
 split
 ·rename_i e h2
  rw [h] at h2
  cases h2
 ·rename_i t' j' h2
  rw [h] at h2
  cases h2
  rfl
theorem rst_err (s:List UInt8) (first:Bool) (k:Nat) (out:OSet) (e:Nat × Nat) (hn:¬ (first=false∧k < s.length∧byt s k=93)) (h:elm s k=.error e):rst s first k out=.error e:=by
 rw [rst,if_neg hn]
 split
 ·rename_i e2 h2
  rw [h] at h2
  cases h2
  rfl
 ·rename_i t' j' h2
  rw [h] at h2
  cases h2
end Go.Proofs.YtbgfankoojjejaaGreatDoor
namespace Go.Proofs.YtbgfankoojjejaaGreatDoor
theorem byt_drop (s:List UInt8) (k:Nat) (h:k < s.length):s.drop k=s[k] :: s.drop (k+1)∧byt s k=s[k].toNat:=by
 refine ⟨List.drop_eq_getElem_cons h,?_⟩
 unfold byt
 rw [List.getD_eq_getElem?_getD,List.getElem?_eq_getElem h]
 rfl
theorem u8_eq (a b:UInt8):(a == b)=decide (a.toNat=b.toNat):=by
 by_cases h:a=b
 ·subst h;simp
 ·have h2:a.toNat≠b.toNat:=fun e=>h (UInt8.toNat_inj.1 e)
  simp [h,h2]
theorem idx_fnd (s:List UInt8) (k:UInt8) (e:Nat) (he:e≤s.length):Lib.index (s.drop e) [k,93]=match fnd s k.toNat e with
  | some x=>(x:Int) - (e:Int)
  | none=>-1:=by
 obtain ⟨n,hn⟩:∃ n,n=s.length - e:=⟨_,rfl⟩
 induction n generalizing e with
 | zero=>
  have:e=s.length:=by omega
  subst this
  rw [fnd,if_neg (by omega),List.drop_length]
  rfl
 | succ n ih=>
  have hlt:e < s.length:=by omega
  obtain ⟨h1,h2⟩:=byt_drop s e hlt
  have ih:=ih (e+1) (by omega) (by omega)
  rw [h1,fnd]
  unfold Lib.index
  rw [ih]
  by_cases hl:e+1 < s.length
  ·obtain ⟨h3,h4⟩:=byt_drop s (e+1) hl
   rw [if_pos hl,h3,h2,h4]
   have hp:[k,93].isPrefixOf (s[e] :: s[e+1] :: s.drop (e+1+1))=(decide (s[e].toNat=k.toNat) && decide (s[e+1].toNat=93)):=by
    simp only [List.isPrefixOf,Bool.and_true]
    rw [u8_eq,u8_eq]
    congr 1
    ·exact decide_eq_decide.2 ⟨Eq.symm,Eq.symm⟩
    ·exact decide_eq_decide.2 ⟨Eq.symm,Eq.symm⟩
   rw [hp]
   by_cases hc:s[e].toNat=k.toNat∧s[e+1].toNat=93
   ·rw [if_pos hc,if_pos (by simp [hc])]
    simp
   ·rw [if_neg hc,if_neg (by simpa using hc)]
    cases hf:fnd s k.toNat (e+1) with
    | none=>simp
    | some x=>
     have:=fnd_ge _ _ _ _ hf
     simp only
     rw [if_neg (by simp;omega)]
     omega
  ·rw [if_neg hl]
   have h3:s.drop (e+1)=[]:=List.drop_eq_nil_of_le (by omega)
   rw [h3]
   have h4:fnd s k.toNat (e+1)=none:=by rw [fnd,if_neg (by omega)]
   rw [h4]
   have hp:[k,93].isPrefixOf [s[e]]=false:=by simp [List.isPrefixOf]
   rw [hp]
   simp
theorem pre_one (s:List UInt8) (k:Nat) (o:UInt8):Lib.hasPrefix (s.drop k) [o]=(decide (k < s.length) && decide (byt s k=o.toNat)):=by
 unfold Lib.hasPrefix
 by_cases hl:k < s.length
 ·obtain ⟨h3,h4⟩:=byt_drop s k hl
  rw [h3,h4]
  simp only [List.isPrefixOf,Bool.and_true,hl,decide_true,Bool.true_and]
  rw [u8_eq]
  exact decide_eq_decide.2 ⟨Eq.symm,Eq.symm⟩
 ·rw [List.drop_eq_nil_of_le (by omega)]
  simp [hl]
theorem pre_two (s:List UInt8) (k:Nat) (a o:UInt8):Lib.hasPrefix (s.drop k) [a,o]=(decide (k+1 < s.length) && decide (byt s k=a.toNat) && decide (byt s (k+1)=o.toNat)):=by
 unfold Lib.hasPrefix
 by_cases hl:k < s.length
 ·obtain ⟨h3,h4⟩:=byt_drop s k hl
  have:=pre_one s (k+1) o
  unfold Lib.hasPrefix at this
  rw [h3,h4]
  show (a == s[k] && [o].isPrefixOf (s.drop (k+1)))=_
  rw [this,u8_eq]
  rw [show decide (a.toNat=s[k].toNat)=decide (s[k].toNat=a.toNat) from decide_eq_decide.2 ⟨Eq.symm,Eq.symm⟩]
  cases decide (k+1 < s.length) <;> cases decide (s[k].toNat=a.toNat) <;> rfl
 ·rw [List.drop_eq_nil_of_le (by omega)]
  simp [show ¬ (k+1 < s.length) by omega]
theorem span_none (a b:Nat) (h:b < a):oSpan a b=oz:=by
 unfold oSpan
 rw [show ((b:Int) - (a:Int)+1).toNat=0 by omega]
 rfl
theorem span_some (a b:Nat) (hb:b < 256) (h:a≤b):oSpan a b≠oz:=by
 intro hz
 have h1:ohas (oSpan a b) a=true:=by
  unfold ohas oSpan
  rw [Int.toNat_natCast,ospan_get _ _ _ (by omega)]
  simp;omega
 rw [hz] at h1
 simp [ohas,oz] at h1
end Go.Proofs.YtbgfankoojjejaaGreatDoor
namespace Go.Proofs.YtbgfankoojjejaaGreatDoor
def prV (r:OSet × Int × Nat):Value:=.tuple #[.agg #[.int .u64 (ow r.1 0),.int .u64 (ow r.1 1),.int .u64 (ow r.1 2),.int .u64 (ow r.1 3)],.int .i64 r.2.1,.int .i64 (r.2.2:Int)]
def car (s:List UInt8) (k:Nat):Bool:=decide (k < s.length) && decide (byt s k=94)
theorem prs_out (s:List UInt8) (k:Int) (h:k < 0∨(s.length:Int) < k):prs s k=(oz,0,1):=by
 unfold prs
 rw [if_pos h]
theorem prs_ok (s:List UInt8) (n:Nat) (h:n≤s.length) (t:OSet) (j:Nat) (hr:rst s true (if car s n then n+1 else n) oz=.ok (t,j)):prs s (n:Int)=(if car s n then ~~~t else t,(j:Int),0):=by
 unfold prs
 rw [if_neg (by omega)]
 simp only [Int.toNat_natCast]
 unfold car at hr ⊢
 rw [hr]
theorem prs_err (s:List UInt8) (n:Nat) (h:n≤s.length) (e p:Nat) (hr:rst s true (if car s n then n+1 else n) oz=.error (e,p)):prs s (n:Int)=(oz,(p:Int),e):=by
 unfold prs
 rw [if_neg (by omega)]
 simp only [Int.toNat_natCast]
 unfold car at hr
 rw [hr]
theorem elm_err (s:List UInt8) (k e p:Nat) (h:elm s k=.error (e,p)):e≠0:=by
 unfold elm at h
 simp only at h
 split at h
 ·rename_i h1
  injection h with h
  injection h with h2 _
  rw [←h2]
  exact h1
 ·split at h
  ·split at h
   ·rename_i h1
    injection h with h
    injection h with h2 _
    rw [←h2]
    exact h1
   ·split at h
    ·cases h
    ·injection h with h
     injection h with h2 _
     omega
  ·cases h
theorem rst_end (s:List UInt8) (fl:Bool) (k:Nat) (out:OSet) (e p:Nat) (h:rst s fl k out=.error (e,p)):e≠0:=by
 fun_induction rst s fl k out with
 | case1=>cases h
 | case2 _ _ _ _ x hx=>
  injection h with h
  subst h
  exact elm_err _ _ _ _ hx
 | case3 _ _ _ _ _ _ _ ih=>exact ih h
end Go.Proofs.YtbgfankoojjejaaGreatDoor
namespace Go.Proofs.YtbgfankoojjejaaGreatDoor
theorem rst_move (s:List UInt8) (fl:Bool) (k:Nat) (acc t:OSet) (j:Nat) (h:rst s fl k acc=.ok (t,j)):k < j∧j≤s.length:=by
 fun_induction rst s fl k acc with
 | case1 fl k acc h1=>
  injection h with h
  injection h with _ h
  omega
 | case2 fl k acc hn e he=>cases h
 | case3 fl k acc hn t' j' he ih=>
  have h1:=ih h
  have h2:=elm_next _ _ _ _ he
  omega
theorem rst_code (s:List UInt8) (fl:Bool) (k:Nat) (acc:OSet) (e p:Nat) (h:rst s fl k acc=.error (e,p)):e≠0:=by
 fun_induction rst s fl k acc with
 | case1 fl k acc h1=>cases h
 | case2 fl k acc hn e' he=>
  injection h with h
  subst h
  exact elm_err _ _ _ _ he
 | case3 fl k acc hn t' j' he ih=>exact ih h
theorem prs_form (s:List UInt8) (n:Nat) (h:n≤s.length):∃ (t:OSet) (j e:Nat),prs s (n:Int)=(t,(j:Int),e)∧(e=0→n < j∧j≤s.length):=by
 cases hr:rst s true (if car s n then n+1 else n) oz with
 | error q=>
  obtain ⟨e,p⟩:=q
  exact ⟨_,_,_,prs_err s n h e p hr,fun h0=>absurd h0 (rst_code _ _ _ _ _ _ hr)⟩
 | ok q=>
  obtain ⟨t,j⟩:=q
  refine ⟨_,_,_,prs_ok s n h t j hr,fun _=>?_⟩
  have:=rst_move _ _ _ _ _ _ hr
  split at this <;> omega
end Go.Proofs.YtbgfankoojjejaaGreatDoor
namespace Go.Proofs.YtbgfankoojjejaaGreatDoor
end Go.Proofs.YtbgfankoojjejaaGreatDoor
namespace Go.Proofs.YtbgfankoojjejaaGreatDoor
def chAt (s:List UInt8) (k b:Nat):Bool:=decide (k < s.length) && decide (byt s k=b)
def esAt (s:List UInt8) (k b:Nat):Bool:=decide (k+1 < s.length) && decide (byt s k=92) && decide (byt s (k+1)=b)
def opAt (ere:Bool) (s:List UInt8) (k b:Nat):Bool:=if ere then chAt s k b else esAt s k b
def opLen (ere:Bool):Nat:=if ere then 1 else 2
def isDig (s:List UInt8) (k:Nat):Bool:=decide (k < s.length) && decide (48≤byt s k) && decide (byt s k≤57)
def digs (s:List UInt8):Nat→Nat→Nat→Nat × Nat
 | 0,_,v=>(0,v)
 | n+1,k,v=>if isDig s k then ((digs s n (k+1) (10 * v+(byt s k - 48))).1+1,(digs s n (k+1) (10 * v+(byt s k - 48))).2) else (0,v)
def numAt (s:List UInt8) (k:Nat):Nat × Nat:=if (digs s 3 k 0).2≤255 then ((digs s 3 k 0).2,(digs s 3 k 0).1) else (0,0)
def intv (ere:Bool) (s:List UInt8) (k:Nat):Option (Int × Int × Nat):=
 let m:=numAt s k
 if m.2=0 then none
 else
  let k1:=k+m.2
  let q:Int × Nat:=if chAt s k1 44 then (let x:=numAt s (k1+1);if x.2=0 then (-1,k1+1) else ((x.1:Int),k1+1+x.2)) else ((m.1:Int),k1)
  if opAt ere s q.2 125 && !(decide (0≤q.1) && decide (q.1 < (m.1:Int))) then some ((m.1:Int),q.1,q.2+opLen ere) else none
structure ReSt where
 pos:Nat
 opened:Nat
 closed:List Int
 marks:List (Nat × Nat)
abbrev ReRes (α:Type):=Except (Nat × Nat) α
def ReSt.mark (st:ReSt) (c:Nat):ReSt:={ st with marks:=st.marks++[(st.pos,c)] }
def ReSt.to (st:ReSt) (k:Nat):ReSt:={ st with pos:=k }
inductive ReRep where
 | none
 | bad
 | some (mn mx:Int) (c:Nat) (next:Nat)
def repAt (ere:Bool) (s:List UInt8) (k:Nat):ReRep:=
 if chAt s k 42 then .some 0 (-1) 0 (k+1)
 else if opAt ere s k 43 then .some 1 (-1) (if ere then 0 else 43) (k+opLen ere)
 else if opAt ere s k 63 then .some 0 1 (if ere then 0 else 63) (k+opLen ere)
 else if opAt ere s k 123 then (match intv ere s (k+opLen ere) with
  | Option.none=>.bad
  | Option.some (m,n,j)=>.some m n 0 j)
 else .none
def repM (ere:Bool) (s:List UInt8):Nat→ReSt→Nd→ReRes (ReSt × Nd)
 | 0,_,_=>.error (0,0)
 | n+1,st,d=>match repAt ere s st.pos with
  | .none=>.ok (st,d)
  | .bad=>.error (7,st.pos)
  | .some mn mx c j=>repM ere s n ((if c=0 then st else st.mark c).to j) (.rep d mn mx)
def wordSet:OSet:=clsSet [97,108,110,117,109] ||| oSpan 95 95
def spaceSet:OSet:=clsSet [115,112,97,99,101]
def punctSet:OSet:=clsSet [112,117,110,99,116]
def escSet (c:Nat):Option (OSet × Bool):=
 if c=110 then some (oSpan 10 10,false)
 else if c=116 then some (oSpan 9 9,true)
 else if c=119 then some (wordSet,true)
 else if c=87 then some (~~~wordSet,true)
 else if c=115 then some (spaceSet,true)
 else if c=83 then some (~~~spaceSet,true)
 else if ohas punctSet c then some (oSpan c c,false)
 else none
def escM (ere:Bool) (st:ReSt) (c:Nat):ReRes (ReSt × Nd):=
 if 49≤c∧c≤57 then (if st.closed.contains ((c:Int) - 48) then .ok ((if ere then st.mark c else st).to (st.pos+2),.back ((c:Int) - 48)) else .error (9,st.pos))
 else match escSet c with
  | none=>.error (2,st.pos)
  | some (t,m)=>.ok ((if m then st.mark c else st).to (st.pos+2),.one t)
def grpM (ere:Bool) (s:List UInt8) (sub:Option (ReSt→ReRes (ReSt × Nd))) (st:ReSt):ReRes (ReSt × Nd):=match sub with
 | none=>.error (4,st.pos)
 | some f=>match f { st with pos:=st.pos+opLen ere,opened:=st.opened+1 } with
  | .error e=>.error e
  | .ok (st',d)=>if opAt ere s st'.pos 41 then .ok ({ st' with pos:=st'.pos+opLen ere,closed:=st'.closed++[(st.opened:Int)+1] },.group ((st.opened:Int)+1) d) else .error (8,st.pos)
def atomM (ere:Bool) (s:List UInt8) (sub:Option (ReSt→ReRes (ReSt × Nd))) (st:ReSt):ReRes (ReSt × Nd):=
 if opAt ere s st.pos 40 then grpM ere s sub st
 else if opAt ere s st.pos 41 then .error (8,st.pos)
 else if chAt s st.pos 91 then (if (prs s ((st.pos:Int)+1)).2.2=0 then .ok (st.to (prs s ((st.pos:Int)+1)).2.1.toNat,.one (prs s ((st.pos:Int)+1)).1) else .error ((prs s ((st.pos:Int)+1)).2.2,(prs s ((st.pos:Int)+1)).2.1.toNat))
 else if chAt s st.pos 46 then .ok (st.to (st.pos+1),.one (oSpan 0 255))
 else if chAt s st.pos 92 then (if st.pos+1 < s.length then escM ere st (byt s (st.pos+1)) else .error (11,st.pos))
 else .ok (st.to (st.pos+1),.one (oSpan (byt s st.pos) (byt s st.pos)))
def endsAt (s:List UInt8) (k:Nat):Bool:=decide (s.length≤k) || esAt s k 124 || esAt s k 41
def branchM (ere:Bool) (s:List UInt8) (sub:Option (ReSt→ReRes (ReSt × Nd))) (top:Bool) (begin:Nat):Nat→ReSt→List Nd→Bool→ReRes (ReSt × Nd)
 | 0,_,_,_=>.error (0,0)
 | n+1,st,parts,front=>
  if decide (s.length≤st.pos) || opAt ere s st.pos 124 || (opAt ere s st.pos 41 && !top) then .ok (st,njoin parts)
  else if chAt s st.pos 94 && (ere || decide (st.pos=begin)) then branchM ere s sub top begin n (st.to (st.pos+1)) (parts++[.start]) true
  else if chAt s st.pos 36 && (ere || endsAt s (st.pos+1)) then branchM ere s sub top begin n (st.to (st.pos+1)) (parts++[.fin]) true
  else if front && (opAt ere s st.pos 123 || opAt ere s st.pos 43 || opAt ere s st.pos 63 || (ere && chAt s st.pos 42)) then .error (10,st.pos)
  else match atomM ere s sub st with
   | .error e=>.error e
   | .ok (st1,d)=>match repM ere s (s.length+1) st1 d with
    | .error e=>.error e
    | .ok (st2,d2)=>branchM ere s sub top begin n st2 (parts++[d2]) false
def choiceM (ere:Bool) (s:List UInt8) (sub:Option (ReSt→ReRes (ReSt × Nd))) (top:Bool):Nat→ReSt→List Nd→ReRes (ReSt × Nd)
 | 0,_,_=>.error (0,0)
 | n+1,st,l=>match branchM ere s sub top st.pos (s.length+1) st [] true with
  | .error e=>.error e
  | .ok (st1,d)=>if opAt ere s st1.pos 124 then choiceM ere s sub top n ((if ere then st1 else st1.mark 124).to (st1.pos+opLen ere)) (l++[d]) else .ok (st1,nchoose (l++[d]))
def regM (ere:Bool) (s:List UInt8):Nat→ReSt→ReRes (ReSt × Nd)
 | 0,st=>choiceM ere s none false (s.length+1) st []
 | k+1,st=>choiceM ere s (some (regM ere s k)) false (s.length+1) st []
def reZero:ReSt:=⟨0,0,[],[]⟩
def parseM (ere:Bool) (s:List UInt8):ReRes (ReSt × Nd):=
 if 250 < s.length then .error (3,250) else choiceM ere s (some (regM ere s 11)) true (s.length+1) reZero []
end Go.Proofs.YtbgfankoojjejaaGreatDoor
namespace Go.Proofs.YtbgfankoojjejaaGreatDoor
def wordAt (s:List UInt8) (k:Nat) (t:List UInt8):Bool:=Lib.hasPrefix (s.drop k) t
theorem byt_eq (s:List UInt8) (k b:Nat) (hb:b < 256) (h:k < s.length):(UInt8.ofNat b == s[k])=decide (byt s k=b):=by
 unfold byt
 rw [List.getD_eq_getElem?_getD,List.getElem?_eq_getElem h,Option.getD_some]
 by_cases e:s[k].toNat=b
 ·rw [decide_eq_true e,beq_iff_eq,←e];simp
 ·rw [decide_eq_false e,beq_eq_false_iff_ne]
  intro e2
  apply e
  rw [←e2]
  simp
  omega
theorem word_one (s:List UInt8) (k b:Nat) (hb:b < 256):wordAt s k [UInt8.ofNat b]=chAt s k b:=by
 unfold wordAt Lib.hasPrefix chAt
 by_cases h:k < s.length
 ·rw [List.drop_eq_getElem_cons h,decide_eq_true h]
  simp only [List.isPrefixOf,Bool.and_true,Bool.true_and]
  exact byt_eq s k b hb h
 ·rw [List.drop_eq_nil_of_le (by omega),decide_eq_false h];rfl
theorem word_two (s:List UInt8) (k b:Nat) (hb:b < 256):wordAt s k [92,UInt8.ofNat b]=esAt s k b:=by
 unfold wordAt Lib.hasPrefix esAt
 by_cases h:k < s.length
 ·rw [List.drop_eq_getElem_cons h]
  by_cases h2:k+1 < s.length
  ·rw [List.drop_eq_getElem_cons h2,decide_eq_true h2]
   simp only [List.isPrefixOf,Bool.and_true,Bool.true_and]
   rw [byt_eq s (k+1) b hb h2,show ((92:UInt8) == s[k])=decide (byt s k=92) from byt_eq s k 92 (by decide) h]
  ·rw [List.drop_eq_nil_of_le (by omega),decide_eq_false h2]
   simp [List.isPrefixOf]
 ·rw [List.drop_eq_nil_of_le (by omega),decide_eq_false (by omega)];rfl
theorem word_len (s:List UInt8) (k:Nat) (t:List UInt8) (h:wordAt s k t=true) (h0:t≠[]):k+t.length≤s.length:=by
 unfold wordAt Lib.hasPrefix at h
 have h1:=(List.isPrefixOf_iff_prefix.1 h).length_le
 rw [List.length_drop] at h1
 have h2:0 < t.length:=List.length_pos_iff.2 h0
 omega
theorem ends_words (s:List UInt8) (k:Nat):endsAt s k=(((s.drop k).isEmpty || wordAt s k [92,124]) || wordAt s k [92,41]):=by
 unfold endsAt
 rw [show wordAt s k [92,124]=esAt s k 124 from word_two s k 124 (by decide),show wordAt s k [92,41]=esAt s k 41 from word_two s k 41 (by decide)]
 congr 2
 rw [Bool.eq_iff_iff]
 simp
theorem digs_no (s:List UInt8) (n k v:Nat) (h:n=0∨isDig s k=false):digs s n k v=(0,v):=by
 cases n with
 | zero=>rfl
 | succ n=>
  rcases h with h | h
  ·cases h
  ·rw [digs,h];rfl
theorem digs_yes (s:List UInt8) (n k v:Nat) (h:isDig s k=true):digs s (n+1) k v=((digs s n (k+1) (10 * v+(byt s k - 48))).1+1,(digs s n (k+1) (10 * v+(byt s k - 48))).2):=by
 rw [digs,h];rfl
end Go.Proofs.YtbgfankoojjejaaGreatDoor
namespace Go.Proofs.YtbgfankoojjejaaGreatDoor
theorem repM_end (ere:Bool) (s:List UInt8):∀ (n:Nat) (st:ReSt) (d:Nd) (st':ReSt) (d':Nd),repM ere s n st d=.ok (st',d')→repAt ere s st'.pos=.none:=by
 intro n
 induction n with
 | zero=>intro st d st' d' h;cases h
 | succ n ih=>
  intro st d st' d' h
  rw [repM] at h
  cases hr:repAt ere s st.pos with
  | none=>
   rw [hr] at h
   injection h with h
   injection h with h1 _
   rw [←h1]
   exact hr
  | bad=>rw [hr] at h;cases h
  | some mn mx c j=>rw [hr] at h;exact ih _ _ _ _ h
theorem ch_byt {s:List UInt8} {k b:Nat} (h:chAt s k b=true):k < s.length∧byt s k=b:=by
 unfold chAt at h
 simp only [Bool.and_eq_true,decide_eq_true_eq] at h
 exact h
theorem es_byt {s:List UInt8} {k b:Nat} (h:esAt s k b=true):k+1 < s.length∧byt s k=92∧byt s (k+1)=b:=by
 unfold esAt at h
 simp only [Bool.and_eq_true,decide_eq_true_eq] at h
 exact ⟨h.1.1,h.1.2,h.2⟩
theorem ch_no {s:List UInt8} {k b:Nat} (h:byt s k≠b):chAt s k b=false:=by
 cases hc:chAt s k b with
 | false=>rfl
 | true=>exact (h (ch_byt hc).2).elim
theorem op_other {ere:Bool} {s:List UInt8} {k b c:Nat} (h:opAt ere s k b=true) (hbc:b≠c):opAt ere s k c=false:=by
 cases hc:opAt ere s k c with
 | false=>rfl
 | true=>
  cases ere with
  | true=>exact (hbc ((ch_byt h).2.symm.trans (ch_byt hc).2)).elim
  | false=>exact (hbc ((es_byt h).2.2.symm.trans (es_byt hc).2.2)).elim
theorem op_ch {ere:Bool} {s:List UInt8} {k b c:Nat} (h:opAt ere s k b=true) (h1:b≠c) (h2:c≠92):chAt s k c=false:=by
 cases ere with
 | true=>exact ch_no (by rw [(ch_byt h).2];exact h1)
 | false=>exact ch_no (by rw [(es_byt h).2.1];exact fun e=>h2 e.symm)
theorem op_in {ere:Bool} {s:List UInt8} {k b:Nat} (h:opAt ere s k b=true):k < s.length:=by
 cases ere with
 | true=>exact (ch_byt h).1
 | false=>have:=(es_byt h).1;omega
def shutR (ere:Bool) (s:List UInt8) (r:ReRes (ReSt × Nd)):ReRes (ReSt × Nd):=match r with
 | .error e=>.error e
 | .ok (st,d)=>if opAt ere s st.pos 41 then .error (8,st.pos) else .ok (st,d)
theorem branch_top (ere:Bool) (s:List UInt8) (sub:Option (ReSt→ReRes (ReSt × Nd))) (begin:Nat):∀ (n:Nat) (st:ReSt) (parts:List Nd) (front:Bool),
  branchM ere s sub true begin n st parts front=shutR ere s (branchM ere s sub false begin n st parts front):=by
 intro n
 induction n with
 | zero=>intro _ _ _;rfl
 | succ n ih=>
  intro st parts front
  rw [branchM,branchM]
  cases h41:opAt ere s st.pos 41 with
  | true=>
   have h1:decide (s.length≤st.pos)=false:=decide_eq_false (by have:=op_in h41;omega)
   have h2:opAt ere s st.pos 124=false:=op_other h41 (by decide)
   have h3:=op_ch h41 (c:=94) (by decide) (by decide)
   have h4:=op_ch h41 (c:=36) (by decide) (by decide)
   have h5:=op_ch h41 (c:=42) (by decide) (by decide)
   have h6:opAt ere s st.pos 123=false:=op_other h41 (by decide)
   have h7:opAt ere s st.pos 43=false:=op_other h41 (by decide)
   have h8:opAt ere s st.pos 63=false:=op_other h41 (by decide)
   have h9:opAt ere s st.pos 40=false:=op_other h41 (by decide)
   have ha:atomM ere s sub st=.error (8,st.pos):=by unfold atomM;rw [h9,h41];rfl
   simp [h1,h2,h3,h4,h5,h6,h7,h8,ha,shutR,h41]
  | false=>
   by_cases he:(decide (s.length≤st.pos) || opAt ere s st.pos 124)=true
   ·simp [he,shutR,h41]
   ·rw [Bool.not_eq_true] at he
    simp only [he,Bool.false_and,Bool.or_false,Bool.false_eq_true,if_false]
    split
    ·exact ih _ _ _
    ·split
     ·exact ih _ _ _
     ·split
      ·rfl
      ·cases atomM ere s sub st with
       | error e=>rfl
       | ok q=>
        obtain ⟨st1,d⟩:=q
        simp only
        cases repM ere s (s.length+1) st1 d with
        | error e=>rfl
        | ok q2=>exact ih _ _ _
theorem choice_top (ere:Bool) (s:List UInt8) (sub:Option (ReSt→ReRes (ReSt × Nd))):∀ (n:Nat) (st:ReSt) (l:List Nd),
  choiceM ere s sub true n st l=shutR ere s (choiceM ere s sub false n st l):=by
 intro n
 induction n with
 | zero=>intro _ _;rfl
 | succ n ih=>
  intro st l
  rw [choiceM,choiceM,branch_top]
  cases branchM ere s sub false st.pos (s.length+1) st [] true with
  | error e=>rfl
  | ok q=>
   obtain ⟨st1,d⟩:=q
   simp only [shutR]
   cases h41:opAt ere s st1.pos 41 with
   | true=>
    rw [show opAt ere s st1.pos 124=false from op_other h41 (by decide)]
    simp [h41]
   | false=>
    simp only [Bool.false_eq_true,if_false]
    split
    ·rw [ih];rfl
    ·simp [h41]
theorem parse_shut (ere:Bool) (s:List UInt8) (h:s.length≤250):parseM ere s=shutR ere s (choiceM ere s (some (regM ere s 11)) false (s.length+1) reZero []):=by
 unfold parseM
 rw [if_neg (by omega),choice_top]
end Go.Proofs.YtbgfankoojjejaaGreatDoor
namespace Go.Proofs.YtbgfankoojjejaaGreatDoor
theorem drop_byt (s:List UInt8) (k j:Nat):byt (s.drop k) j=byt s (k+j):=by
 unfold byt
 rw [List.getD_eq_getElem?_getD,List.getD_eq_getElem?_getD,List.getElem?_drop]
theorem drop_lt (s:List UInt8) (k j:Nat):decide (j < (s.drop k).length)=decide (k+j < s.length):=by
 rw [List.length_drop]
 exact decide_eq_decide.2 (by omega)
theorem drop_ch (s:List UInt8) (k j b:Nat):chAt (s.drop k) j b=chAt s (k+j) b:=by
 unfold chAt
 rw [drop_byt,drop_lt]
theorem drop_es (s:List UInt8) (k j b:Nat):esAt (s.drop k) j b=esAt s (k+j) b:=by
 unfold esAt
 rw [drop_byt,drop_byt,drop_lt,Nat.add_assoc]
theorem drop_op (ere:Bool) (s:List UInt8) (k j b:Nat):opAt ere (s.drop k) j b=opAt ere s (k+j) b:=by
 unfold opAt
 rw [drop_ch,drop_es]
theorem drop_dig (s:List UInt8) (k j:Nat):isDig (s.drop k) j=isDig s (k+j):=by
 unfold isDig
 rw [drop_byt,drop_lt]
theorem drop_digs (s:List UInt8) (k:Nat):∀ (n j v:Nat),digs (s.drop k) n j v=digs s n (k+j) v:=by
 intro n
 induction n with
 | zero=>intro j v;rfl
 | succ n ih=>
  intro j v
  rw [digs,digs,drop_dig,drop_byt,ih,Nat.add_assoc]
theorem drop_num (s:List UInt8) (k j:Nat):numAt (s.drop k) j=numAt s (k+j):=by
 unfold numAt
 rw [drop_digs]
def okNum (s:List UInt8) (k:Nat):Bool:=decide (0 < (digs s 3 k 0).1) && decide ((digs s 3 k 0).2≤255)
theorem num_no (s:List UInt8) (k:Nat) (h:okNum s k=false):(numAt s k).2=0:=by
 unfold okNum at h
 unfold numAt
 split
 ·rename_i h1
  rw [decide_eq_true h1,Bool.and_true] at h
  have:=of_decide_eq_false h
  simp only
  omega
 ·rfl
theorem num_yes (s:List UInt8) (k:Nat) (h:okNum s k=true):numAt s k=((digs s 3 k 0).2,(digs s 3 k 0).1)∧(numAt s k).2≠0:=by
 unfold okNum at h
 simp only [Bool.and_eq_true,decide_eq_true_eq] at h
 unfold numAt
 rw [if_pos h.2]
 exact ⟨rfl,by simp only;omega⟩
theorem le_bounds (x y:Nat):(!(decide (0≤(y:Int)) && decide ((y:Int) < (x:Int))))=decide (x≤y):=by
 by_cases h:x≤y
 ·rw [decide_eq_true h,decide_eq_false (show ¬ (y:Int) < (x:Int) by omega),Bool.and_false];rfl
 ·rw [decide_eq_false h,decide_eq_true (show (y:Int) < (x:Int) by omega),decide_eq_true (show (0:Int)≤(y:Int) by omega)];rfl
def ivclo (ere:Bool):List UInt8:=if ere then [125] else [92,125]
theorem ivclo_op (ere:Bool) (s:List UInt8) (k:Nat):wordAt s k (ivclo ere)=opAt ere s k 125:=by
 cases ere with
 | true=>exact word_one s k 125 (by decide)
 | false=>exact word_two s k 125 (by decide)
theorem ivclo_len (ere:Bool):(ivclo ere).length=opLen ere:=by cases ere <;> rfl
def bds (cl L:List UInt8):Int × Int × Nat × Bool:=
 if okNum L 0 then
  (if chAt L (digs L 3 0 0).1 44 then
   (if wordAt L ((digs L 3 0 0).1+1) cl then (((digs L 3 0 0).2:Int),-1,(digs L 3 0 0).1+1,true)
    else (((digs L 3 0 0).2:Int),((digs L 3 ((digs L 3 0 0).1+1) 0).2:Int),(digs L 3 0 0).1+1+(digs L 3 ((digs L 3 0 0).1+1) 0).1,okNum L ((digs L 3 0 0).1+1) && decide ((digs L 3 0 0).2≤(digs L 3 ((digs L 3 0 0).1+1) 0).2)))
   else (((digs L 3 0 0).2:Int),((digs L 3 0 0).2:Int),(digs L 3 0 0).1,true))
 else (((digs L 3 0 0).2:Int),((digs L 3 0 0).2:Int),(digs L 3 0 0).1,false)
def ivl (cl L:List UInt8):Option (Int × Int × Nat):=
 if (bds cl L).2.2.2 && wordAt L (bds cl L).2.2.1 cl then some ((bds cl L).1,(bds cl L).2.1,(bds cl L).2.2.1+cl.length) else none
theorem ivl_zero (ere:Bool) (L:List UInt8):intv ere L 0=ivl (ivclo ere) L:=by
 unfold ivl bds intv
 simp only [ivclo_len,ivclo_op,Nat.zero_add]
 cases h1:okNum L 0 with
 | false=>simp [num_no L 0 h1]
 | true=>
  obtain ⟨e1,e2⟩:=num_yes L 0 h1
  rw [if_neg e2,e1]
  simp only [if_true]
  cases h2:chAt L (digs L 3 0 0).1 44 with
  | false=>simp
  | true=>
   simp only [if_true]
   cases h3:opAt ere L ((digs L 3 0 0).1+1) 125 with
   | true=>
    have hd:isDig L ((digs L 3 0 0).1+1)=false:=by
     unfold isDig
     cases ere with
     | true=>
      simp only [opAt,if_true,chAt,Bool.and_eq_true,decide_eq_true_eq] at h3
      rw [h3.2];simp
     | false=>
      simp only [opAt,Bool.false_eq_true,if_false,esAt,Bool.and_eq_true,decide_eq_true_eq] at h3
      rw [h3.1.2];simp
    have hn:numAt L ((digs L 3 0 0).1+1)=(0,0):=by unfold numAt;rw [digs_no _ _ _ _ (.inr hd)];rfl
    rw [hn]
    simp [h3]
   | false=>
    cases h4:okNum L ((digs L 3 0 0).1+1) with
    | false=>
     rw [if_pos (num_no _ _ h4)]
     simp [h3]
    | true=>
     obtain ⟨f1,f2⟩:=num_yes _ _ h4
     rw [if_neg f2,f1]
     simp only [Bool.true_and,Bool.false_eq_true,if_false]
     rw [le_bounds,Bool.and_comm]
theorem intv_drop (ere:Bool) (s:List UInt8) (k:Nat):intv ere s k=(intv ere (s.drop k) 0).map fun q=>(q.1,q.2.1,k+q.2.2):=by
 unfold intv
 simp only [drop_num,drop_ch,drop_op,Nat.add_zero,Nat.zero_add]
 split
 ·rfl
 ·simp only [Nat.add_assoc]
  cases h2:chAt s (k+(numAt s k).2) 44 with
  | false=>
   simp only [Bool.false_eq_true,if_false]
   split
   ·simp [Nat.add_assoc]
   ·rfl
  | true=>
   simp only [if_true]
   split
   ·split
    ·simp [Nat.add_assoc]
    ·rfl
   ·split
    ·simp [Nat.add_assoc]
    ·rfl
theorem intv_at (ere:Bool) (s:List UInt8) (k:Nat):intv ere s k=(ivl (ivclo ere) (s.drop k)).map fun q=>(q.1,q.2.1,k+q.2.2):=by rw [intv_drop,ivl_zero]
end Go.Proofs.YtbgfankoojjejaaGreatDoor
namespace Go.Proofs.YtbgfankoojjejaaGreatDoor
theorem op_len {ere:Bool} {s:List UInt8} {k b:Nat} (h:opAt ere s k b=true):k+opLen ere≤s.length:=by
 cases ere with
 | true=>have:=(ch_byt h).1;simp [opLen];omega
 | false=>have:=(es_byt h).1;simp [opLen];omega
theorem op_pos (ere:Bool):0 < opLen ere:=by cases ere <;> decide
theorem intv_mv (ere:Bool) (s:List UInt8) (k:Nat) (m n:Int) (j:Nat) (h:intv ere s k=some (m,n,j)):k < j∧j≤s.length:=by
 rw [intv_at] at h
 obtain ⟨q,hq,he⟩:=Option.map_eq_some_iff.1 h
 have h0:ivclo ere≠[]:=by cases ere <;> simp [ivclo]
 have h1:q.2.2≤(s.drop k).length:=by
  unfold ivl at hq
  split at hq
  ·rename_i hc
   injection hq with hq
   subst hq
   rw [Bool.and_eq_true] at hc
   exact word_len _ _ _ hc.2 h0
  ·cases hq
 have h2:0 < q.2.2:=by
  unfold ivl at hq
  split at hq
  ·injection hq with hq
   subst hq
   have:0 < (ivclo ere).length:=List.length_pos_iff.2 h0
   simp only
   omega
  ·cases hq
 rw [List.length_drop] at h1
 injection he with he1 he2
 injection he2 with he2 he3
 omega
theorem rep_mv (ere:Bool) (s:List UInt8) (k:Nat) (a b:Int) (c j:Nat) (h:repAt ere s k=.some a b c j):k < j∧j≤s.length:=by
 have hp:=op_pos ere
 unfold repAt at h
 split at h
 ·rename_i h1
  injection h with _ _ _ h
  have:=(ch_byt h1).1
  omega
 split at h
 ·rename_i _ h1
  injection h with _ _ _ h
  have:=op_len h1
  omega
 split at h
 ·rename_i _ _ h1
  injection h with _ _ _ h
  have:=op_len h1
  omega
 split at h
 ·rename_i _ _ _ h1
  split at h
  ·cases h
  ·rename_i m n j' hi
   injection h with _ _ _ h
   have h3:=intv_mv _ _ _ _ _ _ hi
   omega
 ·cases h
theorem repM_mv (ere:Bool) (s:List UInt8):∀ (n:Nat) (st:ReSt) (d:Nd) (st':ReSt) (d':Nd),st.pos≤s.length→repM ere s n st d=.ok (st',d')→st.pos≤st'.pos∧st'.pos≤s.length:=by
 intro n
 induction n with
 | zero=>intro st d st' d' _ h;cases h
 | succ n ih=>
  intro st d st' d' hl h
  rw [repM] at h
  cases hra:repAt ere s st.pos with
  | none=>
   rw [hra] at h
   injection h with h
   injection h with h1 h2
   subst h1
   exact ⟨Nat.le_refl _,hl⟩
  | bad=>rw [hra] at h;cases h
  | some mn mx c j=>
   rw [hra] at h
   have hj:=rep_mv _ _ _ _ _ _ _ hra
   have h2:=ih _ _ _ _ (show j≤s.length from hj.2) h
   have h3:j≤st'.pos:=h2.1
   exact ⟨by omega,h2.2⟩
theorem escM_mv (ere:Bool) (st st':ReSt) (c:Nat) (d:Nd) (h:escM ere st c=.ok (st',d)):st'.pos=st.pos+2:=by
 unfold escM at h
 split at h
 ·split at h
  ·injection h with h;injection h with h1 _;subst h1;rfl
  ·cases h
 ·split at h
  ·cases h
  ·injection h with h;injection h with h1 _;subst h1;rfl
def SubMv (s:List UInt8) (sub:Option (ReSt→ReRes (ReSt × Nd))):Prop:=∀ f,sub=some f→∀ st st' d,st.pos≤s.length→f st=.ok (st',d)→st.pos≤st'.pos∧st'.pos≤s.length
theorem atom_mv (ere:Bool) (s:List UInt8) (sub:Option (ReSt→ReRes (ReSt × Nd))) (hsub:SubMv s sub) (st st':ReSt) (d:Nd) (hl:st.pos < s.length) (h:atomM ere s sub st=.ok (st',d)):st.pos < st'.pos∧st'.pos≤s.length:=by
 have hp:=op_pos ere
 unfold atomM at h
 split at h
 ·rename_i ho
  unfold grpM at h
  split at h
  ·cases h
  ·rename_i f
   split at h
   ·cases h
   ·rename_i st1 d1 hf
    split at h
    ·rename_i h41
     injection h with h
     injection h with h1 h2
     subst h1
     have h3:=hsub f rfl _ _ _ (show st.pos+opLen ere≤s.length from op_len ho) hf
     have h4:st.pos+opLen ere≤st1.pos:=h3.1
     have h5:=op_len h41
     exact ⟨show st.pos < st1.pos+opLen ere by omega,h5⟩
    ·cases h
 ·split at h
  ·cases h
  ·split at h
   ·obtain ⟨t,j,e,hpr,hj⟩:=prs_form s (st.pos+1) hl
    rw [show ((st.pos:Int)+1)=((st.pos+1:Nat):Int) by omega,hpr] at h
    simp only at h
    split at h
    ·rename_i h0
     have:=hj h0
     injection h with h;injection h with h1 h2;subst h1
     show st.pos < ((j:Int)).toNat∧((j:Int)).toNat≤s.length
     omega
    ·cases h
   ·split at h
    ·injection h with h;injection h with h1 h2;subst h1
     exact ⟨show st.pos < st.pos+1 by omega,hl⟩
    ·split at h
     ·split at h
      ·rename_i h9
       have:=escM_mv _ _ _ _ _ h
       omega
      ·cases h
     ·injection h with h;injection h with h1 h2;subst h1
      exact ⟨show st.pos < st.pos+1 by omega,hl⟩
theorem branch_mv (ere:Bool) (s:List UInt8) (sub:Option (ReSt→ReRes (ReSt × Nd))) (hsub:SubMv s sub) (top:Bool) (begin:Nat):∀ (n:Nat) (st:ReSt) (parts:List Nd) (front:Bool) (st':ReSt) (d:Nd),st.pos≤s.length→
  branchM ere s sub top begin n st parts front=.ok (st',d)→st.pos≤st'.pos∧st'.pos≤s.length:=by
 intro n
 induction n with
 | zero=>intro _ _ _ _ _ _ h;cases h
 | succ n ih=>
  intro st parts front st' d hl h
  rw [branchM] at h
  split at h
  ·injection h with h;injection h with h1 _;subst h1;exact ⟨Nat.le_refl _,hl⟩
  ·rename_i he
   have hlt:st.pos < s.length:=by
    simp only [Bool.or_eq_true,decide_eq_true_eq,not_or] at he
    omega
   split at h
   ·have h2:=ih _ _ _ _ _ (show st.pos+1≤s.length from hlt) h
    have h3:st.pos+1≤st'.pos:=h2.1
    exact ⟨by omega,h2.2⟩
   split at h
   ·have h2:=ih _ _ _ _ _ (show st.pos+1≤s.length from hlt) h
    have h3:st.pos+1≤st'.pos:=h2.1
    exact ⟨by omega,h2.2⟩
   split at h
   ·cases h
   split at h
   ·cases h
   ·rename_i st1 d1 ha
    have h1:=atom_mv _ _ _ hsub _ _ _ hlt ha
    split at h
    ·cases h
    ·rename_i st2 d2 hr
     have h2:=repM_mv _ _ _ _ _ _ _ h1.2 hr
     have h3:=ih _ _ _ _ _ h2.2 h
     omega
theorem choice_mv (ere:Bool) (s:List UInt8) (sub:Option (ReSt→ReRes (ReSt × Nd))) (hsub:SubMv s sub) (top:Bool):∀ (n:Nat) (st:ReSt) (l:List Nd) (st':ReSt) (d:Nd),st.pos≤s.length→
  choiceM ere s sub top n st l=.ok (st',d)→st.pos≤st'.pos∧st'.pos≤s.length:=by
 intro n
 induction n with
 | zero=>intro _ _ _ _ _ h;cases h
 | succ n ih=>
  intro st l st' d hl h
  rw [choiceM] at h
  split at h
  ·cases h
  ·rename_i st1 d1 hb
   have h1:=branch_mv _ _ _ hsub _ _ _ _ _ _ _ _ hl hb
   split at h
   ·rename_i ho
    have h2:=ih _ _ _ _ (show st1.pos+opLen ere≤s.length from op_len ho) h
    have h3:st1.pos+opLen ere≤st'.pos:=h2.1
    exact ⟨by omega,h2.2⟩
   ·injection h with h;injection h with h2 _;subst h2;exact h1
theorem reg_mv (ere:Bool) (s:List UInt8):∀ (k:Nat) (st st':ReSt) (d:Nd),st.pos≤s.length→regM ere s k st=.ok (st',d)→st.pos≤st'.pos∧st'.pos≤s.length:=by
 intro k
 induction k with
 | zero=>intro st st' d hl h;exact choice_mv ere s none (fun f hf=>by cases hf) false _ _ _ _ _ hl h
 | succ k ih=>intro st st' d hl h;exact choice_mv ere s (some (regM ere s k)) (fun f hf=>by cases hf;exact ih) false _ _ _ _ _ hl h
end Go.Proofs.YtbgfankoojjejaaGreatDoor
namespace Go.Proofs.YtbgfankoojjejaaGreatDoor
def Takes (d:Nd) (st st':ReSt):Prop:=nright d (st.opened:Int) st.closed=some ((st'.opened:Int),st'.closed)
def TakesL (l:List Nd) (st st':ReSt):Prop:=nrights l (st.opened:Int) st.closed=some ((st'.opened:Int),st'.closed)
theorem takes_snoc {l:List Nd} {d:Nd} {st st1 st2:ReSt} (h:TakesL l st st1) (k:Takes d st1 st2):TakesL (l++[d]) st st2:=by
 unfold TakesL at h ⊢
 rw [nrights_append,h]
 simp only [Option.bind_some]
 rw [nrights_one]
 exact k
theorem intv_ok (ere:Bool) (s:List UInt8) (k:Nat) (m n:Int) (j:Nat) (h:intv ere s k=some (m,n,j)):okRep m n=true:=by
 have h255:∀ k,(numAt s k).1≤255:=by
  intro k
  unfold numAt
  split
  ·rename_i h;exact h
  ·exact Nat.zero_le _
 have hx:=h255 k
 have hall:∀ q:Int × Nat,(q.1=-1∨(0≤q.1∧q.1≤255))→(if opAt ere s q.2 125 && !(decide (0≤q.1) && decide (q.1 < ((numAt s k).1:Int))) then some (((numAt s k).1:Int),q.1,q.2+opLen ere) else none)=some (m,n,j)→okRep m n=true:=by
  intro q hq h
  split at h
  ·rename_i hc
   injection h with h
   injection h with h1 h2
   injection h2 with h2 _
   subst h1 h2
   simp only [Bool.and_eq_true,Bool.not_eq_true',Bool.and_eq_false_iff,decide_eq_false_iff_not] at hc
   have hq2:=hc.2
   unfold okRep
   simp only [Bool.and_eq_true,Bool.or_eq_true,decide_eq_true_eq]
   rcases hq with hq | hq
   ·exact ⟨⟨by omega,by omega⟩,.inl hq⟩
   ·exact ⟨⟨by omega,by omega⟩,.inr ⟨by omega,by omega⟩⟩
  ·cases h
 unfold intv at h
 simp only at h
 split at h
 ·cases h
 ·refine hall _ ?_ h
  split
  ·split
   ·exact .inl rfl
   ·exact .inr ⟨by simp only;omega,by have:=h255 (k+(numAt s k).2+1);simp only;omega⟩
  ·exact .inr ⟨by simp only;omega,by simp only;omega⟩
theorem rep_ok (ere:Bool) (s:List UInt8) (k:Nat) (m n:Int) (c j:Nat) (h:repAt ere s k=.some m n c j):okRep m n=true:=by
 unfold repAt at h
 split at h
 ·injection h with h1 h2;rw [←h1,←h2];rfl
 ·split at h
  ·injection h with h1 h2;rw [←h1,←h2];rfl
  ·split at h
   ·injection h with h1 h2;rw [←h1,←h2];rfl
   ·split at h
    ·split at h
     ·cases h
     ·rename_i m' n' j' hi
      injection h with h1 h2
      rw [←h1,←h2]
      exact intv_ok _ _ _ _ _ _ hi
    ·cases h
theorem repM_takes (ere:Bool) (s:List UInt8):∀ (n:Nat) (st:ReSt) (d:Nd) (st':ReSt) (d':Nd) (st0:ReSt),Takes d st0 st→inRep d=true→inCat d=true→repM ere s n st d=.ok (st',d')→Takes d' st0 st'∧inCat d'=true:=by
 intro n
 induction n with
 | zero=>intro st d st' d' st0 _ _ _ h;cases h
 | succ n ih=>
  intro st d st' d' st0 ht hr hc h
  rw [repM] at h
  cases hra:repAt ere s st.pos with
  | none=>
   rw [hra] at h
   injection h with h
   injection h with h1 h2
   subst h1 h2
   exact ⟨ht,hc⟩
  | bad=>rw [hra] at h;cases h
  | some mn mx c j=>
   rw [hra] at h
   refine ih _ _ _ _ st0 ?_ rfl rfl h
   have hs:Takes (.rep d mn mx) st0 st:=by
    unfold Takes
    rw [nright,rep_ok _ _ _ _ _ _ _ hra,hr]
    exact ht
   by_cases hc0:c=0
   ·rw [if_pos hc0];exact hs
   ·rw [if_neg hc0];exact hs
theorem esc_takes (ere:Bool) (st st':ReSt) (c:Nat) (d:Nd) (h:escM ere st c=.ok (st',d)):Takes d st st'∧inRep d=true∧inCat d=true:=by
 unfold escM at h
 split at h
 ·split at h
  ·rename_i hcl
   injection h with h
   injection h with h1 h2
   subst h1 h2
   refine ⟨?_,rfl,rfl⟩
   unfold Takes
   rw [nright,if_pos hcl]
   cases ere <;> rfl
  ·cases h
 ·split at h
  ·cases h
  ·rename_i t m _
   injection h with h
   injection h with h1 h2
   subst h1 h2
   refine ⟨?_,rfl,rfl⟩
   cases m <;> rfl
def SubOk (sub:Option (ReSt→ReRes (ReSt × Nd))):Prop:=∀ f,sub=some f→∀ st st' d,f st=.ok (st',d)→Takes d st st'
theorem atom_takes (ere:Bool) (s:List UInt8) (sub:Option (ReSt→ReRes (ReSt × Nd))) (hsub:SubOk sub) (st st':ReSt) (d:Nd) (h:atomM ere s sub st=.ok (st',d)):Takes d st st'∧inRep d=true∧inCat d=true:=by
 unfold atomM at h
 split at h
 ·unfold grpM at h
  split at h
  ·cases h
  ·rename_i f
   split at h
   ·cases h
   ·rename_i st1 d1 hf
    split at h
    ·injection h with h
     injection h with h1 h2
     subst h1 h2
     refine ⟨?_,rfl,rfl⟩
     have ht:=hsub f rfl _ _ _ hf
     unfold Takes at ht ⊢
     rw [nright,if_pos rfl]
     simp only [Int.natCast_add,Int.natCast_one] at ht
     rw [ht]
     rfl
    ·cases h
 ·split at h
  ·cases h
  ·split at h
   ·split at h
    ·injection h with h;injection h with h1 h2;subst h1 h2;exact ⟨rfl,rfl,rfl⟩
    ·cases h
   ·split at h
    ·injection h with h;injection h with h1 h2;subst h1 h2;exact ⟨rfl,rfl,rfl⟩
    ·split at h
     ·split at h
      ·exact esc_takes _ _ _ _ _ h
      ·cases h
     ·injection h with h;injection h with h1 h2;subst h1 h2;exact ⟨rfl,rfl,rfl⟩
theorem jflat_all (l:List Nd) (h:l.all inCat=true):jflat l=l:=by
 induction l with
 | nil=>rfl
 | cons d ds ih=>
  rw [List.all_cons,Bool.and_eq_true] at h
  have hd:jpart d=[d]:=by cases d <;> first | rfl | (have h1:=h.1;cases h1)
  show jpart d++jflat ds=_
  rw [hd,ih h.2]
  rfl
theorem cflat_all (l:List Nd) (h:l.all inAlt=true):cflat l=l:=by
 induction l with
 | nil=>rfl
 | cons d ds ih=>
  rw [List.all_cons,Bool.and_eq_true] at h
  have hd:cpart d=[d]:=by cases d <;> first | rfl | (have h1:=h.1;cases h1)
  show cpart d++cflat ds=_
  rw [hd,ih h.2]
  rfl
theorem cat_alt {d:Nd} (h:inCat d=true):inAlt d=true:=by cases d <;> first | rfl | exact h
theorem join_takes {l:List Nd} {st st':ReSt} (h:TakesL l st st') (ha:l.all inCat=true):Takes (njoin l) st st'∧inAlt (njoin l)=true:=by
 have hj:=jflat_all l ha
 unfold njoin
 rw [hj]
 rcases l with _ | ⟨x,_ | ⟨y,ys⟩⟩
 ·exact ⟨h,rfl⟩
 ·refine ⟨?_,?_⟩
  ·unfold TakesL at h
   rw [nrights_one] at h
   exact h
  ·rw [List.all_cons,Bool.and_eq_true] at ha
   exact cat_alt ha.1
 ·refine ⟨?_,rfl⟩
  unfold Takes
  show nright (.cat (x :: y :: ys)) _ _=_
  rw [nright,ha,decide_eq_true (show 2≤(x :: y :: ys).length by simp)]
  exact h
theorem choose_takes {l:List Nd} {st st':ReSt} (h:TakesL l st st') (ha:l.all inAlt=true):Takes (nchoose l) st st':=by
 have hj:=cflat_all l ha
 unfold nchoose
 rw [hj]
 rcases l with _ | ⟨x,_ | ⟨y,ys⟩⟩
 ·exact h
 ·unfold TakesL at h
  rw [nrights_one] at h
  exact h
 ·unfold Takes
  show nright (.alt (x :: y :: ys)) _ _=_
  rw [nright,ha,decide_eq_true (show 2≤(x :: y :: ys).length by simp)]
  exact h
theorem all_snoc {p:Nd→Bool} {l:List Nd} {d:Nd} (h:l.all p=true) (k:p d=true):(l++[d]).all p=true:=by rw [List.all_append,h];simp [k]
theorem branch_takes (ere:Bool) (s:List UInt8) (sub:Option (ReSt→ReRes (ReSt × Nd))) (hsub:SubOk sub) (top:Bool) (begin:Nat):∀ (n:Nat) (st:ReSt) (parts:List Nd) (front:Bool) (st':ReSt) (d:Nd) (st0:ReSt),TakesL parts st0 st→parts.all inCat=true→
  branchM ere s sub top begin n st parts front=.ok (st',d)→Takes d st0 st'∧inAlt d=true:=by
 intro n
 induction n with
 | zero=>intro st parts front st' d st0 _ _ h;cases h
 | succ n ih=>
  intro st parts front st' d st0 ht ha h
  rw [branchM] at h
  split at h
  ·injection h with h
   injection h with h1 h2
   subst h1 h2
   exact join_takes ht ha
  ·split at h
   ·exact ih _ _ _ _ _ st0 (takes_snoc ht (show Takes .start st (st.to (st.pos+1)) from rfl)) (all_snoc ha rfl) h
   ·split at h
    ·exact ih _ _ _ _ _ st0 (takes_snoc ht (show Takes .fin st (st.to (st.pos+1)) from rfl)) (all_snoc ha rfl) h
    ·split at h
     ·cases h
     ·split at h
      ·cases h
      ·rename_i st1 d1 hat
       obtain ⟨k1,k2,k3⟩:=atom_takes ere s sub hsub _ _ _ hat
       split at h
       ·cases h
       ·rename_i st2 d2 hrp
        obtain ⟨k4,k5⟩:=repM_takes ere s _ _ _ _ _ st k1 k2 k3 hrp
        exact ih _ _ _ _ _ st0 (takes_snoc ht k4) (all_snoc ha k5) h
theorem choice_takes (ere:Bool) (s:List UInt8) (sub:Option (ReSt→ReRes (ReSt × Nd))) (hsub:SubOk sub) (top:Bool):∀ (n:Nat) (st:ReSt) (l:List Nd) (st':ReSt) (d:Nd) (st0:ReSt),TakesL l st0 st→l.all inAlt=true→
  choiceM ere s sub top n st l=.ok (st',d)→Takes d st0 st':=by
 intro n
 induction n with
 | zero=>intro st l st' d st0 _ _ h;cases h
 | succ n ih=>
  intro st l st' d st0 ht ha h
  rw [choiceM] at h
  split at h
  ·cases h
  ·rename_i st1 d1 hb
   obtain ⟨k1,k2⟩:=branch_takes ere s sub hsub top _ _ _ _ _ _ _ st (show TakesL [] st st from rfl) rfl hb
   split at h
   ·refine ih _ _ _ _ st0 ?_ (all_snoc ha k2) h
    have:=takes_snoc ht k1
    cases ere <;> exact this
   ·injection h with h
    injection h with h1 h2
    subst h1 h2
    exact choose_takes (takes_snoc ht k1) (all_snoc ha k2)
theorem reg_takes (ere:Bool) (s:List UInt8):∀ (k:Nat) (st st':ReSt) (d:Nd),regM ere s k st=.ok (st',d)→Takes d st st':=by
 intro k
 induction k with
 | zero=>
  intro st st' d h
  exact choice_takes ere s none (fun f hf=>by cases hf) false _ _ _ _ _ st (show TakesL [] st st from rfl) rfl h
 | succ k ih=>
  intro st st' d h
  exact choice_takes ere s (some (regM ere s k)) (fun f hf=>by injection hf with hf;subst hf;exact ih) false _ _ _ _ _ st (show TakesL [] st st from rfl) rfl h
end Go.Proofs.YtbgfankoojjejaaGreatDoor
namespace Go.Proofs.YtbgfankoojjejaaGreatDoor
end Go.Proofs.YtbgfankoojjejaaGreatDoor
namespace Go.Proofs.YtbgfankoojjejaaGreatDoor
end Go.Proofs.YtbgfankoojjejaaGreatDoor
namespace Go.Proofs.YtbgfankoojjejaaGreatDoor
def Itm.up (a:Itm) (d:Nat):Itm:=⟨a.set,a.may,if a.err=0 then a.next+d else 0,a.err,if a.err=0 then 0 else a.place+d⟩
theorem branch_end (s:List UInt8) (sub:Option (ReSt→ReRes (ReSt × Nd))) (begin n:Nat) (st:ReSt) (parts:List Nd) (front:Bool) (h:endsAt s st.pos=true):branchM false s sub false begin (n+1) st parts front=.ok (st,njoin parts):=by
 rw [branchM]
 unfold endsAt at h
 simp only [opAt,Bool.false_eq_true,if_false,Bool.not_false,Bool.and_true]
 rw [h,if_pos rfl]
end Go.Proofs.YtbgfankoojjejaaGreatDoor
