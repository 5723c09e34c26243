/- The proof's texts PcMa, AdMa, NdAo, NdTa: what the claim reaches of them. -/
import Derived.Test.YtbgfankoojjejaaGreatDoorGd01
import Derived.Lib.SlTrimSet
import Derived.Lib.IndexAny
import Derived.Lib.IndexBytes
import Derived.Test.YtbgfankoojjejaaGreatDoorGd04
import Derived.Test.YtbgfankoojjejaaGreatDoorRows
import Derived.Test.YtbgfankoojjejaaGreatDoorGd02
import Derived.WalkKit
import Derived.Maps.AppendAt
import Derived.Deep.RegionLaw
import Derived.Laws.OwnMore
set_option linter.unusedSimpArgs false
set_option linter.unusedVariables false
set_option maxHeartbeats 8000000
set_option maxRecDepth 1000000
namespace Go.Proofs.YtbgfankoojjejaaGreatDoor
def pcLen (p:UInt8→Bool) (l:List UInt8):Nat:=(l.takeWhile p).length
theorem pcLen_nil (p:UInt8→Bool):pcLen p []=0:=rfl
theorem pcLen_yes {p:UInt8→Bool} {c:UInt8} {l:List UInt8} (h:p c=true):pcLen p (c :: l)=pcLen p l+1:=by simp [pcLen,h]
theorem pcLen_no {p:UInt8→Bool} {c:UInt8} {l:List UInt8} (h:p c=false):pcLen p (c :: l)=0:=by simp [pcLen,h]
theorem pcLen_le (p:UInt8→Bool):∀ l,pcLen p l≤l.length
 | []=>Nat.le_refl _
 | c :: l=>by
  cases h:p c with
  | true=>rw [pcLen_yes h];have:=pcLen_le p l;simp;omega
  | false=>rw [pcLen_no h];omega
theorem pcLen_drop (p:UInt8→Bool):∀ l:List UInt8,l.dropWhile p=l.drop (pcLen p l)
 | []=>rfl
 | c :: l=>by
  cases h:p c with
  | true=>rw [pcLen_yes h,List.dropWhile_cons,h];simp [pcLen_drop p l]
  | false=>rw [pcLen_no h,List.dropWhile_cons,h];simp
theorem pcLen_before (p:UInt8→Bool):∀ (l:List UInt8) (j:Nat) b,j < pcLen p l→l[j]?=some b→p b=true
 | [],j,b,h,_=>by simp [pcLen_nil] at h
 | c :: l,j,b,h,hb=>by
  cases hc:p c with
  | false=>rw [pcLen_no hc] at h;omega
  | true=>
   rw [pcLen_yes hc] at h
   cases j with
   | zero=>simp at hb;rw [←hb];exact hc
   | succ j=>exact pcLen_before p l j b (by omega) (by simpa using hb)
theorem drop_at (s:ByteArray) (k:Nat) (h:k < s.size):s.data.toList.drop k=s[k] :: s.data.toList.drop (k+1):=by
 rw [List.drop_eq_getElem_cons (by simpa using h)];rfl
theorem drop_end (s:ByteArray) (k:Nat) (h:s.size≤k):s.data.toList.drop k=[]:=List.drop_eq_nil_of_le (by rw [←size_list];exact h)
theorem pcLen_dropLe (p:UInt8→Bool) (s:ByteArray) (k:Nat) (hk:k≤s.size):k+pcLen p (s.data.toList.drop k)≤s.size:=by
 have:=pcLen_le p (s.data.toList.drop k)
 rw [List.length_drop,←size_list] at this
 omega
def pcIs (cs:List UInt8) (l:List UInt8):Nat:=pcLen (fun b=>cs.contains b) l
theorem pcIs_trim (cs l:List UInt8):(Lib.trimLeftS l cs).length+pcIs cs l=l.length:=by
 unfold Lib.trimLeftS pcIs
 rw [pcLen_drop,List.length_drop]
 have:=pcLen_le (fun b=>cs.contains b) l
 omega
def pcBehind (cs L:List UInt8) (at':Int):Nat:=if 0≤at'∧at'≤L.length then at'.toNat+pcIs cs (L.drop at'.toNat) else 0
theorem pcBehind_at (cs L:List UInt8) (k:Nat) (h:k≤L.length):pcBehind cs L k=k+pcIs cs (L.drop k):=by
 unfold pcBehind;rw [if_pos (by omega)];simp
theorem pcBehind_no (cs L:List UInt8) (at':Int) (h:¬ (0≤at'∧at'≤L.length)):pcBehind cs L at'=0:=by
 unfold pcBehind;rw [if_neg h]
abbrev PcAns:=List UInt8 × Nat × Nat
def pcAt {α:Type} (L:List UInt8) (at':Int) (z:α) (f:Nat→α):α:=if 0≤at'∧at'≤L.length then f at'.toNat else z
theorem pcAt_at {α:Type} (L:List UInt8) (k:Nat) (z:α) (f:Nat→α) (h:k≤L.length):pcAt L k z f=f k:=by unfold pcAt;rw [if_pos (by omega)];simp
def pcDigits:List UInt8:=[48,49,50,51,52,53,54,55,56,57]
theorem pcDigits_iff (b:UInt8):pcDigits.contains b=(decide (48≤b.toNat) && decide (b.toNat≤57)):=by
 have h:∀ b:Fin 256,pcDigits.contains (UInt8.ofNat b.val)=(decide (48≤(UInt8.ofNat b.val).toNat) && decide ((UInt8.ofNat b.val).toNat≤57)):=by decide +kernel
 have:=h ⟨b.toNat,b.toNat_lt⟩
 simpa using this
def pcVal (l:List UInt8):Nat:=l.foldl (fun n b=>n * 10+(b.toNat - 48)) 0
theorem pcVal_snoc (l:List UInt8) (b:UInt8):pcVal (l++[b])=pcVal l * 10+(b.toNat - 48):=by simp [pcVal]
theorem pcVal_fold:∀ (l:List UInt8) (n:Nat),(∀ b∈l,pcDigits.contains b=true)→l.foldl (fun n b=>n * 10+(b.toNat - 48)) n < (n+1) * 10 ^ l.length
 | [],n,_=>by simp
 | b :: l,n,h=>by
  have hb:=h b (by simp)
  rw [pcDigits_iff] at hb
  simp at hb
  have ih:=pcVal_fold l (n * 10+(b.toNat - 48)) (fun x hx=>h x (by simp [hx]))
  rw [List.foldl_cons,List.length_cons,Nat.pow_succ]
  have h2:(n * 10+(b.toNat - 48)+1) * 10 ^ l.length≤((n+1) * 10) * 10 ^ l.length:=Nat.mul_le_mul_right _ (by omega)
  rw [Nat.mul_assoc,Nat.mul_comm 10] at h2
  omega
theorem pcVal_lt (l:List UInt8) (h:∀ b∈l,pcDigits.contains b=true):pcVal l < 10 ^ l.length:=by
 have:=pcVal_fold l 0 h
 unfold pcVal
 omega
theorem pcVal_nine (l:List UInt8) (h:∀ b∈l,pcDigits.contains b=true) (h9:l.length≤9):pcVal l < 1000000000:=by
 have h1:=pcVal_lt l h
 have h2:10 ^ l.length≤10 ^ 9:=Nat.pow_le_pow_right (by omega) h9
 omega
def pcNum (L:List UInt8) (k:Nat):Nat × Nat × Nat:=
 let n:=pcIs pcDigits (L.drop k)
 if n=0 then (0,k,2) else if 9 < n then (0,k,3) else (pcVal ((L.drop k).take n),k+n,0)
def pcLin:List UInt8→Nat→List UInt8→PcAns
 | [],p,acc=>(acc++[10],p,0)
 | [c],p,acc=>if c=10 then (acc++[10],p+1,0) else if c=92 then ([],p,11) else (acc++[c]++[10],p+1,0)
 | c :: x :: u,p,acc=>if c=10 then (acc++[10],p+1,0) else if c=92 then pcLin u (p+2) (acc++[x]) else pcLin (x :: u) (p+1) (acc++[c])
theorem pcLin_nl (t:List UInt8) (p:Nat) (acc:List UInt8):pcLin (10 :: t) p acc=(acc++[10],p+1,0):=by cases t <;> simp [pcLin]
theorem pcLin_bs (x:UInt8) (u:List UInt8) (p:Nat) (acc:List UInt8):pcLin (92 :: x :: u) p acc=pcLin u (p+2) (acc++[x]):=by simp [pcLin]
theorem pcLin_tail (p:Nat) (acc:List UInt8):pcLin [92] p acc=([],p,11):=by simp [pcLin]
theorem pcLin_else (c:UInt8) (t:List UInt8) (p:Nat) (acc:List UInt8) (h1:¬ c=10) (h2:¬ c=92):pcLin (c :: t) p acc=pcLin t (p+1) (acc++[c]):=by
 cases t <;> simp [pcLin,h1,h2]
def pcEnder (label:Bool) (b:UInt8):Bool:=b == 10 || (label && b == 59)
def pcEnd (label:Bool) (l:List UInt8):Nat:=pcLen (fun b=>!pcEnder label b) l
def pcNameOf (n:List UInt8) (k e:Nat):PcAns:=if n=[] then ([],k,14) else if 40 < n.length then ([],k,3) else (n,e,0)
def pcName (L:List UInt8) (k:Nat) (label:Bool):PcAns:=
 pcNameOf (Lib.trimS ((L.drop k).take (pcEnd label (L.drop k))) [32,9]) k (k+pcEnd label (L.drop k))
def pcOpt (c:UInt8) (l:List UInt8):Nat:=match l with | []=>0 | x :: _=>if x=c then 1 else 0
def pcAhead (t:List UInt8):Nat:=pcOpt 94 t+pcOpt 93 (t.drop (pcOpt 94 t))
def pcBrk (t:List UInt8):Nat:=1+pcAhead t+min (pcLen (fun b=>!(b == 93)) (t.drop (pcAhead t))+1) (t.drop (pcAhead t)).length
def pcPart (d:UInt8) (rx:Bool) (c:UInt8) (t:List UInt8) (p:Nat):PcAns:=
 if c=92 then
  match t with
  | []=>([],p+1,5)
  | x :: _=>if x=d then ([x],p+2,0) else if (x == 10 && rx)=true then ([],p+1,2) else ([92,x],p+2,0)
 else
  let k:=if (rx && c == 91)=true then pcBrk t else 1
  let i:=pcLen (fun b=>!(b == 10)) ((c :: t).take k)
  if i < k then ([],p+i,2) else ((c :: t).take k,p+k,0)
def pcBtw (d:UInt8) (rx:Bool) (L:List UInt8):Nat→Nat→List UInt8→PcAns
 | 0,_,_=>([],L.length,5)
 | n+1,p,acc=>
  match L.drop p with
  | []=>([],L.length,5)
  | c :: t=>if c=d then (acc,p+1,0) else if (pcPart d rx c t p).2.2=0 then pcBtw d rx L n (pcPart d rx c t p).2.1 (acc++(pcPart d rx c t p).1) else pcPart d rx c t p
theorem pcBtw_nil {d:UInt8} {rx:Bool} {L:List UInt8} {n p:Nat} {acc:List UInt8} (h:L.drop p=[]):pcBtw d rx L (n+1) p acc=([],L.length,5):=by rw [pcBtw,h]
theorem pcBtw_del {d:UInt8} {rx:Bool} {L t:List UInt8} {n p:Nat} {acc:List UInt8} (h:L.drop p=d :: t):pcBtw d rx L (n+1) p acc=(acc,p+1,0):=by rw [pcBtw,h];simp
theorem pcBtw_part {d c:UInt8} {rx:Bool} {L t x:List UInt8} {n p k:Nat} {acc:List UInt8} (h:L.drop p=c :: t) (hc:¬ c=d) (hp:pcPart d rx c t p=(x,k,0)):pcBtw d rx L (n+1) p acc=pcBtw d rx L n k (acc++x):=by rw [pcBtw,h];simp [hc,hp]
theorem pcBtw_err {d c:UInt8} {rx:Bool} {L t x:List UInt8} {n p k e:Nat} {acc:List UInt8} (h:L.drop p=c :: t) (hc:¬ c=d) (he:¬ e=0) (hp:pcPart d rx c t p=(x,k,e)):pcBtw d rx L (n+1) p acc=(x,k,e):=by rw [pcBtw,h];simp [hc,hp,he]
theorem pcOpt_le (c:UInt8) (l:List UInt8):pcOpt c l≤l.length:=by
 unfold pcOpt
 split
 ·simp
 ·split <;> simp
theorem pcAhead_le (t:List UInt8):pcAhead t≤t.length:=by
 have h1:=pcOpt_le 94 t
 have h2:=pcOpt_le 93 (t.drop (pcOpt 94 t))
 rw [List.length_drop] at h2
 unfold pcAhead
 omega
theorem pcBrk_le (t:List UInt8):pcBrk t≤t.length+1:=by
 have h1:=pcAhead_le t
 have h2:(t.drop (pcAhead t)).length=t.length - pcAhead t:=List.length_drop
 unfold pcBrk
 omega
theorem pcBrk_pos (t:List UInt8):1≤pcBrk t:=by unfold pcBrk;omega
theorem pcPart_ok {d c:UInt8} {rx:Bool} {t x:List UInt8} {p k:Nat} (h:pcPart d rx c t p=(x,k,0)):p < k∧k≤p+1+t.length∧x.length≤k - p:=by
 unfold pcPart at h
 split at h
 ·split at h
  ·simp at h
  ·split at h
   ·simp at h;obtain ⟨rfl,rfl⟩:=h;simp;try omega
   ·split at h
    ·simp at h
    ·simp at h;obtain ⟨rfl,rfl⟩:=h;simp;try omega
 ·simp only at h
  have hb:1≤(if (rx && c == 91)=true then pcBrk t else 1)∧(if (rx && c == 91)=true then pcBrk t else 1)≤t.length+1:=by
   split
   ·exact ⟨pcBrk_pos t,pcBrk_le t⟩
   ·omega
  generalize (if (rx && c == 91)=true then pcBrk t else 1)=k' at h hb
  split at h
  ·simp at h
  ·simp only [Prod.mk.injEq,and_true] at h
   obtain ⟨rfl,rfl⟩:=h
   have:=List.length_take_le k' (c :: t)
   omega
theorem pcPart_err {d c:UInt8} {rx:Bool} {t x:List UInt8} {p k e:Nat} (h:pcPart d rx c t p=(x,k,e)) (he:¬ e=0):x=[]∧k≤p+1+t.length∧(e=2∨e=5):=by
 unfold pcPart at h
 split at h
 ·split at h
  ·simp at h;obtain ⟨rfl,rfl,rfl⟩:=h;simp
  ·split at h
   ·simp at h;omega
   ·split at h
    ·simp at h;obtain ⟨rfl,rfl,rfl⟩:=h;simp;try omega
    ·simp at h;omega
 ·simp only at h
  have hb:(if (rx && c == 91)=true then pcBrk t else 1)≤t.length+1:=by
   split
   ·exact pcBrk_le t
   ·omega
  generalize (if (rx && c == 91)=true then pcBrk t else 1)=k' at h hb
  split at h
  ·simp only [Prod.mk.injEq] at h
   obtain ⟨rfl,rfl,rfl⟩:=h
   simp;try omega
  ·simp only [Prod.mk.injEq] at h
   omega
theorem index_len:∀ (l:List UInt8) (c:UInt8),Lib.indexByte l c=if pcLen (fun b=>!(b == c)) l < l.length then (pcLen (fun b=>!(b == c)) l:Int) else -1
 | [],c=>by simp [Lib.indexByte,pcLen_nil]
 | b :: l,c=>by
  rw [Lib.indexByte]
  cases h:(b == c) with
  | true=>rw [pcLen_no (by simp [h])];rfl
  | false=>
   rw [pcLen_yes (by simp [h]),index_len l c]
   simp only [List.length_cons,Bool.false_eq_true,if_false]
   have:=pcLen_le (fun b=>!(b == c)) l
   by_cases h1:pcLen (fun b=>!(b == c)) l < l.length
   ·rw [if_pos h1,if_neg (by simp),if_pos (by omega)];simp
   ·rw [if_neg h1,if_pos (by simp),if_neg (by omega)]
theorem indexAny_len (cs:List UInt8):∀ l:List UInt8,Lib.indexAny l cs=if pcLen (fun b=>!cs.contains b) l < l.length then (pcLen (fun b=>!cs.contains b) l:Int) else -1
 | []=>by simp [Lib.indexAny,pcLen_nil]
 | b :: l=>by
  rw [Lib.indexAny]
  cases h:cs.contains b with
  | true=>rw [pcLen_no (p:=fun b=>!cs.contains b) (by rw [h];rfl)];simp
  | false=>
   rw [pcLen_yes (p:=fun b=>!cs.contains b) (by rw [h];rfl),indexAny_len cs l]
   simp only [List.length_cons,Bool.false_eq_true,if_false]
   have:=pcLen_le (fun b=>!cs.contains b) l
   by_cases h1:pcLen (fun b=>!cs.contains b) l < l.length
   ·rw [if_pos h1,if_neg (by simp),if_pos (by omega)];simp
   ·rw [if_neg h1,if_pos (by simp),if_neg (by omega)]
def pcBetween (L:List UInt8) (a:Int) (d:UInt8) (rx:Bool):PcAns:=pcAt L a ([],0,1) fun k=>pcBtw d rx L (L.length+1) k []
end Go.Proofs.YtbgfankoojjejaaGreatDoor
namespace Go.Proofs.YtbgfankoojjejaaGreatDoor
set_option linter.unusedVariables false
abbrev Wm:=Int × ByteArray
def wmOf (m:Nat × Nat):Wm:=((m.1:Int),⟨#[92,UInt8.ofNat m.2]⟩)
def wmMove (by':Int) (l:List Wm):List Wm:=l.map fun m=>(Go.IntKind.i64.wrap (m.1+by'),m.2)
abbrev AdRd (α:Type):=Except (Nat × Nat) (α × List Wm × Nat)
structure Adr where
 kind:Nat
 line:Nat
 text:List UInt8
 tree:Option Nd
def adNone:Adr:=⟨0,0,[],none⟩
def delimM (ext:Bool) (L:List UInt8) (b:Nat) (d:UInt8):AdRd (List UInt8 × Nd):=
 let r:=pcBetween L b d true
 if r.2.2=0 then
  (if r.1=[] then .error (2,b) else
   match parseM ext r.1 with
   | .error q=>.error (q.1,b)
   | .ok q=>.ok ((r.1,q.2),wmMove b (q.1.marks.map wmOf),r.2.1))
 else .error (r.2.2,r.2.1)
def adRx (ext:Bool) (L:List UInt8) (b:Nat) (d:UInt8):AdRd Adr:=
 match delimM ext L b d with
 | .error q=>.error q
 | .ok q=>.ok (⟨3,0,q.1.1,some q.1.2⟩,q.2)
def adLine (L:List UInt8) (k:Nat):AdRd Adr:=
 let r:=pcNum L k
 if r.2.2=0 then (if r.1=0 then .error (12,k) else .ok (⟨1,r.1,[],none⟩,[],r.2.1)) else .error (r.2.2,r.2.1)
def adPlus (L:List UInt8) (k:Nat):AdRd Adr:=
 let r:=pcNum L (k+1)
 if r.2.2=0 then .ok (⟨4,r.1,[],none⟩,[((k:Int),⟨#[43]⟩)],r.2.1) else .error (r.2.2,r.2.1)
def adDel (ext:Bool) (L:List UInt8) (k:Nat):AdRd Adr:=
 match L.drop (k+1) with
 | []=>.error (12,k)
 | x :: _=>if x=92∨x=10 then .error (12,k) else adRx ext L (k+2) x
def adM (ext second:Bool) (L:List UInt8) (k:Nat):AdRd Adr:=
 match L.drop k with
 | []=>.ok (adNone,[],k)
 | c :: _=>
  if 48≤c.toNat∧c.toNat≤57 then adLine L k
  else if c=36 then .ok (⟨2,0,[],none⟩,[],k+1)
  else if c=47 then adRx ext L (k+1) 47
  else if c=92 then adDel ext L k
  else if c=43∧second=true then adPlus L k
  else .ok (adNone,[],k)
structure Grd where
 a:Adr
 b:Adr
 no:Bool
def pcBlk (L:List UInt8) (k:Nat):Nat:=k+pcIs [32,9] (L.drop k)
def adSecOf (c:Nat) (R:AdRd Adr):AdRd Adr:=
 match R with
 | .error q=>.error q
 | .ok q=>if q.1.kind=0 then .error (12,c) else .ok q
def adSec (ext:Bool) (L:List UInt8) (k:Nat):AdRd Adr:=
 if (L.drop (pcBlk L k)).head?=some 44 then adSecOf (pcBlk L (pcBlk L k+1)) (adM ext true L (pcBlk L (pcBlk L k+1)))
 else .ok (adNone,[],k)
def adNot (L:List UInt8) (k:Nat):Except (Nat × Nat) (Bool × Nat):=
 if (L.drop (pcBlk L k)).head?=some 33 then
  (if (L.drop (pcBlk L (pcBlk L k+1))).head?=some 33 then .error (15,pcBlk L (pcBlk L k+1)) else .ok (true,pcBlk L (pcBlk L k+1)))
 else .ok (false,pcBlk L k)
def adJoin (a:Adr) (ms:List Wm) (R:AdRd Adr):AdRd (Adr × Adr):=
 match R with
 | .error r=>.error r
 | .ok r=>.ok ((a,r.1),ms++r.2.1,r.2.2)
def adTwo (ext:Bool) (L:List UInt8) (R:AdRd Adr):AdRd (Adr × Adr):=
 match R with
 | .error q=>.error q
 | .ok q=>if q.1.kind=0 then .ok ((q.1,adNone),q.2) else adJoin q.1 q.2.1 (adSec ext L q.2.2)
def gdEnd (a b:Adr) (ms:List Wm) (R:Except (Nat × Nat) (Bool × Nat)):AdRd Grd:=
 match R with
 | .error r=>.error r
 | .ok r=>.ok (⟨a,b,r.1⟩,ms,r.2)
def gdOf (L:List UInt8) (R:AdRd (Adr × Adr)):AdRd Grd:=
 match R with
 | .error q=>.error q
 | .ok q=>gdEnd q.1.1 q.1.2 q.2.1 (adNot L q.2.2)
def gdM (ext:Bool) (L:List UInt8) (k:Nat):AdRd Grd:=gdOf L (adTwo ext L (adM ext false L k))
theorem pcBlk_le (L:List UInt8) (k:Nat) (h:k≤L.length):k≤pcBlk L k∧pcBlk L k≤L.length:=by
 unfold pcBlk pcIs
 have:=pcLen_le (fun b=>([32,9]:List UInt8).contains b) (L.drop k)
 rw [List.length_drop] at this
 omega
theorem pcNum_le (L:List UInt8) (k:Nat) (h:k≤L.length):k≤(pcNum L k).2.1∧(pcNum L k).2.1≤L.length:=by
 unfold pcNum pcIs
 have:=pcLen_le (fun b=>pcDigits.contains b) (L.drop k)
 rw [List.length_drop] at this
 simp only
 split
 ·exact ⟨Nat.le_refl _,h⟩
 ·split
  ·exact ⟨Nat.le_refl _,h⟩
  ·simp only;omega
theorem pcBtw_le (d:UInt8) (rx:Bool) (L:List UInt8):∀ (n p:Nat) (acc:List UInt8),p≤L.length→(pcBtw d rx L n p acc).2.1≤L.length
 | 0,p,acc,h=>Nat.le_refl _
 | n+1,p,acc,h=>by
  cases hd:L.drop p with
  | nil=>rw [pcBtw_nil hd];exact Nat.le_refl _
  | cons c t=>
   have hl:t.length+1=L.length - p:=by rw [←List.length_drop,hd];rfl
   by_cases hc:c=d
   ·subst hc;rw [pcBtw_del hd];simp only;omega
   ·obtain ⟨x,k,e,he⟩:∃ x k e,pcPart d rx c t p=(x,k,e):=⟨_,_,_,rfl⟩
    by_cases h0:e=0
    ·subst h0
     rw [pcBtw_part hd hc he]
     obtain ⟨h1,h2,_⟩:=pcPart_ok he
     exact pcBtw_le d rx L n k (acc++x) (by omega)
    ·rw [pcBtw_err hd hc h0 he]
     obtain ⟨_,h2,_⟩:=pcPart_err he h0
     simp only;omega
end Go.Proofs.YtbgfankoojjejaaGreatDoor
namespace Go.Proofs.YtbgfankoojjejaaGreatDoor
open Go.RowKit
def NdAt (F:Nat→Prop):Nat→World→Nd→Value→Prop
 | 0,_,_,_=>False
 | n+1,w,d,v=>match d with
  | .empty=>v=.iface 128 (.agg #[])∨v=.nilIface
  | .one s=>v=.iface 134 (.agg #[.int .u64 (ow s 0),.int .u64 (ow s 1),.int .u64 (ow s 2),.int .u64 (ow s 3)])
  | .cat l=>∃ a cap,v=.iface 121 (.agg #[.slice a l.length cap])∧l.length≤cap∧cap≤maxLen∧
    (0 < l.length→∃ b o,a=some ⟨b,o,none⟩∧F b∧b < w.heap.size∧∀ i (h:i < l.length),∃ u,w.cell? ⟨b,o+i,none⟩=some u∧NdAt F n w l[i] u)
  | .alt l=>∃ a cap,v=.iface 122 (.agg #[.slice a l.length cap])∧l.length≤cap∧cap≤maxLen∧
    (0 < l.length→∃ b o,a=some ⟨b,o,none⟩∧F b∧b < w.heap.size∧∀ i (h:i < l.length),∃ u,w.cell? ⟨b,o+i,none⟩=some u∧NdAt F n w l[i] u)
  | .rep d mn mx=>∃ u,v=.iface 124 (.agg #[u,.int .i64 mn,.int .i64 mx])∧NdAt F n w d u
  | .group num d=>∃ u,v=.iface 126 (.agg #[.int .i64 num,u])∧NdAt F n w d u
  | .back num=>v=.iface 140 (.agg #[.int .i64 num])
  | .start=>v=.iface 142 (.agg #[])
  | .fin=>v=.iface 144 (.agg #[])
def NdRow (F:Nat→Prop) (n:Nat) (w:World) (l:List Nd) (a:Option Addr) (cap:Nat):Prop:=
 l.length≤cap∧cap≤maxLen∧(0 < l.length→∃ b o,a=some ⟨b,o,none⟩∧F b∧b < w.heap.size∧∀ i (h:i < l.length),∃ u,w.cell? ⟨b,o+i,none⟩=some u∧NdAt F n w l[i] u)
theorem NdAt.keep {F G:Nat→Prop} {w w':World} (hs:w.heap.size≤w'.heap.size) (hF:∀ b,F b→b < w.heap.size→G b∧∀ o,w'.cell? ⟨b,o,none⟩=w.cell? ⟨b,o,none⟩) :
  ∀ (n:Nat) (d:Nd) (v:Value),NdAt F n w d v→NdAt G n w' d v:=by
 intro n
 induction n with
 | zero=>intro d v h;exact h
 | succ n ih=>
  have hrow:∀ (l:List Nd) (a:Option Addr),(0 < l.length→∃ b o,a=some ⟨b,o,none⟩∧F b∧b < w.heap.size∧∀ i (h:i < l.length),∃ u,w.cell? ⟨b,o+i,none⟩=some u∧NdAt F n w l[i] u)→
    (0 < l.length→∃ b o,a=some ⟨b,o,none⟩∧G b∧b < w'.heap.size∧∀ i (h:i < l.length),∃ u,w'.cell? ⟨b,o+i,none⟩=some u∧NdAt G n w' l[i] u):=by
   intro l a h h0
   obtain ⟨b,o,rfl,hf,hb,hx⟩:=h h0
   refine ⟨b,o,rfl,(hF b hf hb).1,Nat.lt_of_lt_of_le hb hs,fun i hi=>?_⟩
   obtain ⟨u,hu,hr⟩:=hx i hi
   exact ⟨u,((hF b hf hb).2 _).trans hu,ih _ _ hr⟩
  intro d v h
  cases d with
  | empty=>exact h
  | one s=>exact h
  | cat l=>
   obtain ⟨a,cap,h1,h2,h3,h4⟩:=h
   exact ⟨a,cap,h1,h2,h3,hrow l a h4⟩
  | alt l=>
   obtain ⟨a,cap,h1,h2,h3,h4⟩:=h
   exact ⟨a,cap,h1,h2,h3,hrow l a h4⟩
  | rep d mn mx=>
   obtain ⟨u,h1,h2⟩:=h
   exact ⟨u,h1,ih _ _ h2⟩
  | group num d=>
   obtain ⟨u,h1,h2⟩:=h
   exact ⟨u,h1,ih _ _ h2⟩
  | back num=>exact h
  | start=>exact h
  | fin=>exact h
theorem NdAt.below {F:Nat→Prop} {w w':World} (hb:Below w.heap.size w w') (n:Nat) (d:Nd) (v:Value) (h:NdAt F n w d v):NdAt F n w' d v:=
 h.keep hb.size (fun b hf hlt=>⟨hf,fun o=>hb.cell (p:=⟨b,o,none⟩) hlt⟩)
theorem NdAt.more {F:Nat→Prop} {w:World}:∀ (n m:Nat) (d:Nd) (v:Value),n≤m→NdAt F n w d v→NdAt F m w d v:=by
 intro n
 induction n with
 | zero=>intro m d v _ h;exact h.elim
 | succ n ih=>
  intro m d v hm h
  obtain ⟨m,rfl⟩:∃ m',m=m'+1:=⟨m - 1,by omega⟩
  have hrow:∀ (l:List Nd) (a:Option Addr),(0 < l.length→∃ b o,a=some ⟨b,o,none⟩∧F b∧b < w.heap.size∧∀ i (h:i < l.length),∃ u,w.cell? ⟨b,o+i,none⟩=some u∧NdAt F n w l[i] u)→
    (0 < l.length→∃ b o,a=some ⟨b,o,none⟩∧F b∧b < w.heap.size∧∀ i (h:i < l.length),∃ u,w.cell? ⟨b,o+i,none⟩=some u∧NdAt F m w l[i] u):=by
   intro l a h h0
   obtain ⟨b,o,rfl,hf,hb,hx⟩:=h h0
   refine ⟨b,o,rfl,hf,hb,fun i hi=>?_⟩
   obtain ⟨u,hu,hr⟩:=hx i hi
   exact ⟨u,hu,ih _ _ _ (by omega) hr⟩
  cases d with
  | empty=>exact h
  | one s=>exact h
  | cat l=>
   obtain ⟨a,cap,h1,h2,h3,h4⟩:=h
   exact ⟨a,cap,h1,h2,h3,hrow l a h4⟩
  | alt l=>
   obtain ⟨a,cap,h1,h2,h3,h4⟩:=h
   exact ⟨a,cap,h1,h2,h3,hrow l a h4⟩
  | rep d mn mx=>
   obtain ⟨u,h1,h2⟩:=h
   exact ⟨u,h1,ih _ _ _ (by omega) h2⟩
  | group num d=>
   obtain ⟨u,h1,h2⟩:=h
   exact ⟨u,h1,ih _ _ _ (by omega) h2⟩
  | back num=>exact h
  | start=>exact h
  | fin=>exact h
theorem nd_shape {F:Nat→Prop} {n:Nat} {w:World} {d:Nd} {v:Value} (h:NdAt F n w d v):(∃ T p,v=.iface T p)∨v=.nilIface:=by
 cases n with
 | zero=>exact h.elim
 | succ n=>
  cases d with
  | empty=>exact h.elim (fun h=>.inl ⟨_,_,h⟩) .inr
  | one s=>exact .inl ⟨_,_,h⟩
  | cat l=>obtain ⟨a,cap,h1,_⟩:=h;exact .inl ⟨_,_,h1⟩
  | alt l=>obtain ⟨a,cap,h1,_⟩:=h;exact .inl ⟨_,_,h1⟩
  | rep d mn mx=>obtain ⟨u,h1,_⟩:=h;exact .inl ⟨_,_,h1⟩
  | group num d=>obtain ⟨u,h1,_⟩:=h;exact .inl ⟨_,_,h1⟩
  | back num=>exact .inl ⟨_,_,h⟩
  | start=>exact .inl ⟨_,_,h⟩
  | fin=>exact .inl ⟨_,_,h⟩
end Go.Proofs.YtbgfankoojjejaaGreatDoor
namespace Go.Proofs.YtbgfankoojjejaaGreatDoor
open Go.RowKit
theorem nd_own_below {w w':World} {base:Nat} {e:TypeId} {size:Nat} {v:Value} {n:Nat} {xs:List Value} (h:w.ownsRow base e size v n xs) (hb:Below w.heap.size w w'):w'.ownsRow base e size v n xs:=by
 obtain ⟨h1,h2⟩:=h
 refine ⟨h1,?_⟩
 rcases h2 with h2 | ⟨g,cap,cur,a,b,c,d⟩
 ·exact .inl h2
 ·exact .inr ⟨g,cap,cur,a,b,by rw [hb.block g (Array.getElem?_eq_some_iff.1 c).1];exact c,d⟩
theorem own_of {w:World} {base:Nat} {e:TypeId} {size:Nat} {v:Value} {n:Nat} {xs:List Value} (h:w.ownsRow base e size v n xs):∀ k,v.ownBlock=some k→base≤k:=by
 obtain ⟨_,h2⟩:=h
 intro k hk
 rcases h2 with ⟨rfl,_⟩ | ⟨g,cap,cur,rfl,hg,_⟩
 ·simp [Value.ownBlock] at hk
 ·simp [Value.ownBlock] at hk;omega
end Go.Proofs.YtbgfankoojjejaaGreatDoor
namespace Go.Proofs.YtbgfankoojjejaaGreatDoor
open Go
section
variable {P:Program} {w:World}
theorem step_append_any {ops:Array Oper} {o:Oper} {a:Act} {K:Act→World→Prop} {Q:Exit→Act→World→Prop} {E:Prop} (hgd:o.guard=none) (s x:Operand) (t:TypeId)
  (ho:o.op=.call { callee:=.builtin .append,args:=#[s,x],argTypes:=#[t,t] })
  (base:Nat) (e:TypeId) (i:TypeInfo) (z:Value) (size bytes:Nat) (ht:P.underlying t=some (.slice e)) (hi:P.info? e=some i) (hz:i.zero=some z)
  (hsize:i.size=size) (hby:i.bytes=bytes) (hzs:z.cells.size=size) (hsz:0 < size)
  (v:Value) (n:Nat) (xs:List Value) (hs:a.eval s=v) (hown:w.ownsRow base e size v n xs)
  (oa:Option Addr) (m c:Nat) (news:List Value) (hx:a.eval x=.slice oa m c) (hl:news.length=m * size) (hnews:0 < m→∃ a,oa=some a∧∀ j u,news[j]?=some u→w.cell? (a.add j)=some u) (h1:∀ u∈news,u.oneCell'=true)
  (h63:n+m≤maxLen) (hbytes:(n+m) * bytes≤140737488355328) (hbase:base≤w.heap.size)
  (h:∀ v' w',w'.ownsRow base e size v' (n+m) (xs++news)→w.grownBy w' v.ownBlock→(v'.ownBlock=v.ownBlock∨v'.ownBlock=some w.heap.size)→K (a.put o.dst v') w') :
  if Region.wanted o (yielded ops a.tmps)=true then Oper.wp P o a w K Q else E:=by
 rw [if_pos (by simp [Region.wanted,hgd])]
 obtain ⟨v',w',hr,h2,h3,h4⟩:=run_append_own_any (P:=P) w base t o.type e i z size bytes ht hi hz hsize hby hzs hsz v n xs hown oa m c news hl hnews h1 h63 hbytes hbase
 unfold Oper.wp execOp
 simp only [ho,resolve,invoke,builtin,Sem.run_bind,Sem.run_pure,Result.andThen_ok,List.map_toArray,List.map_cons,List.map_nil,hs,hx,hr]
 exact h v' w' h2 h3 h4
theorem own_row {base:Nat} {e:TypeId} {v:Value} {n:Nat} {xs:List Value} {w:World} (h:w.ownsRow base e 1 v n xs) (hx:xs.length=n) :
  ∃ a cap,v=.slice a n cap∧n≤cap∧cap≤maxLen∧(0 < n→∃ g,a=some ⟨g,0,none⟩∧base≤g∧g < w.heap.size∧∀ i (h:i < xs.length),w.cell? ⟨g,0+i,none⟩=some xs[i]):=by
 obtain ⟨h1,h2⟩:=h
 rcases h2 with ⟨rfl,hz⟩ | ⟨g,cap,cur,rfl,hg,hh,hn,hcap,hcs,htk⟩
 ·subst hz
  exact ⟨none,0,rfl,Nat.le_refl _,Nat.zero_le _,fun h=>absurd h (by omega)⟩
 ·refine ⟨some ⟨g,0,none⟩,cap,rfl,hn,hcap,fun h0=>⟨g,rfl,hg,(Array.getElem?_eq_some_iff.1 hh).1,fun i hi=>?_⟩⟩
  have h4:w.cell? ⟨g,0+i,none⟩=cur[i]?:=by simp [World.cell?,hh]
  have h5:(cur.toList.take (n * 1))[i]?=xs[i]?:=by rw [htk]
  rw [List.getElem?_take_of_lt (by omega)] at h5
  rw [h4,←Array.getElem?_toList,h5,List.getElem?_eq_getElem hi]
end
end Go.Proofs.YtbgfankoojjejaaGreatDoor
namespace Go.Proofs.YtbgfankoojjejaaGreatDoor
open Go.RowKit
@[go_sem] theorem ta_Empty_Empty (p:Value) (w:World):(Instr.typeAssert (.iface 128 p) 26 128 true).run Tryz.prog w=.ok (.tuple #[p,.bool true]) w:=by kernel_rfl
@[go_sem] theorem ta_Empty_One (p:Value) (w:World):(Instr.typeAssert (.iface 128 p) 26 134 true).run Tryz.prog w=.ok (.tuple #[.agg #[.int .u64 0,.int .u64 0,.int .u64 0,.int .u64 0],.bool false]) w:=by kernel_rfl
@[go_sem] theorem ta_Empty_Cat (p:Value) (w:World):(Instr.typeAssert (.iface 128 p) 26 121 true).run Tryz.prog w=.ok (.tuple #[.agg #[.slice none 0 0],.bool false]) w:=by kernel_rfl
@[go_sem] theorem ta_Empty_Alt (p:Value) (w:World):(Instr.typeAssert (.iface 128 p) 26 122 true).run Tryz.prog w=.ok (.tuple #[.agg #[.slice none 0 0],.bool false]) w:=by kernel_rfl
@[go_sem] theorem ta_Empty_Rep (p:Value) (w:World):(Instr.typeAssert (.iface 128 p) 26 124 true).run Tryz.prog w=.ok (.tuple #[.agg #[.nilIface,.int .i64 0,.int .i64 0],.bool false]) w:=by kernel_rfl
@[go_sem] theorem ta_Empty_Group (p:Value) (w:World):(Instr.typeAssert (.iface 128 p) 26 126 true).run Tryz.prog w=.ok (.tuple #[.agg #[.int .i64 0,.nilIface],.bool false]) w:=by kernel_rfl
@[go_sem] theorem ta_Empty_Back (p:Value) (w:World):(Instr.typeAssert (.iface 128 p) 26 140 true).run Tryz.prog w=.ok (.tuple #[.agg #[.int .i64 0],.bool false]) w:=by kernel_rfl
@[go_sem] theorem ta_Empty_Start (p:Value) (w:World):(Instr.typeAssert (.iface 128 p) 26 142 true).run Tryz.prog w=.ok (.tuple #[.agg #[],.bool false]) w:=by kernel_rfl
@[go_sem] theorem ta_Empty_End (p:Value) (w:World):(Instr.typeAssert (.iface 128 p) 26 144 true).run Tryz.prog w=.ok (.tuple #[.agg #[],.bool false]) w:=by kernel_rfl
@[go_sem] theorem ta_One_Empty (p:Value) (w:World):(Instr.typeAssert (.iface 134 p) 26 128 true).run Tryz.prog w=.ok (.tuple #[.agg #[],.bool false]) w:=by kernel_rfl
@[go_sem] theorem ta_One_One (p:Value) (w:World):(Instr.typeAssert (.iface 134 p) 26 134 true).run Tryz.prog w=.ok (.tuple #[p,.bool true]) w:=by kernel_rfl
@[go_sem] theorem ta_One_Cat (p:Value) (w:World):(Instr.typeAssert (.iface 134 p) 26 121 true).run Tryz.prog w=.ok (.tuple #[.agg #[.slice none 0 0],.bool false]) w:=by kernel_rfl
@[go_sem] theorem ta_One_Alt (p:Value) (w:World):(Instr.typeAssert (.iface 134 p) 26 122 true).run Tryz.prog w=.ok (.tuple #[.agg #[.slice none 0 0],.bool false]) w:=by kernel_rfl
@[go_sem] theorem ta_One_Rep (p:Value) (w:World):(Instr.typeAssert (.iface 134 p) 26 124 true).run Tryz.prog w=.ok (.tuple #[.agg #[.nilIface,.int .i64 0,.int .i64 0],.bool false]) w:=by kernel_rfl
@[go_sem] theorem ta_One_Group (p:Value) (w:World):(Instr.typeAssert (.iface 134 p) 26 126 true).run Tryz.prog w=.ok (.tuple #[.agg #[.int .i64 0,.nilIface],.bool false]) w:=by kernel_rfl
@[go_sem] theorem ta_One_Back (p:Value) (w:World):(Instr.typeAssert (.iface 134 p) 26 140 true).run Tryz.prog w=.ok (.tuple #[.agg #[.int .i64 0],.bool false]) w:=by kernel_rfl
@[go_sem] theorem ta_One_Start (p:Value) (w:World):(Instr.typeAssert (.iface 134 p) 26 142 true).run Tryz.prog w=.ok (.tuple #[.agg #[],.bool false]) w:=by kernel_rfl
@[go_sem] theorem ta_One_End (p:Value) (w:World):(Instr.typeAssert (.iface 134 p) 26 144 true).run Tryz.prog w=.ok (.tuple #[.agg #[],.bool false]) w:=by kernel_rfl
@[go_sem] theorem ta_Cat_Empty (p:Value) (w:World):(Instr.typeAssert (.iface 121 p) 26 128 true).run Tryz.prog w=.ok (.tuple #[.agg #[],.bool false]) w:=by kernel_rfl
@[go_sem] theorem ta_Cat_One (p:Value) (w:World):(Instr.typeAssert (.iface 121 p) 26 134 true).run Tryz.prog w=.ok (.tuple #[.agg #[.int .u64 0,.int .u64 0,.int .u64 0,.int .u64 0],.bool false]) w:=by kernel_rfl
@[go_sem] theorem ta_Cat_Cat (p:Value) (w:World):(Instr.typeAssert (.iface 121 p) 26 121 true).run Tryz.prog w=.ok (.tuple #[p,.bool true]) w:=by kernel_rfl
@[go_sem] theorem ta_Cat_Alt (p:Value) (w:World):(Instr.typeAssert (.iface 121 p) 26 122 true).run Tryz.prog w=.ok (.tuple #[.agg #[.slice none 0 0],.bool false]) w:=by kernel_rfl
@[go_sem] theorem ta_Cat_Rep (p:Value) (w:World):(Instr.typeAssert (.iface 121 p) 26 124 true).run Tryz.prog w=.ok (.tuple #[.agg #[.nilIface,.int .i64 0,.int .i64 0],.bool false]) w:=by kernel_rfl
@[go_sem] theorem ta_Cat_Group (p:Value) (w:World):(Instr.typeAssert (.iface 121 p) 26 126 true).run Tryz.prog w=.ok (.tuple #[.agg #[.int .i64 0,.nilIface],.bool false]) w:=by kernel_rfl
@[go_sem] theorem ta_Cat_Back (p:Value) (w:World):(Instr.typeAssert (.iface 121 p) 26 140 true).run Tryz.prog w=.ok (.tuple #[.agg #[.int .i64 0],.bool false]) w:=by kernel_rfl
@[go_sem] theorem ta_Cat_Start (p:Value) (w:World):(Instr.typeAssert (.iface 121 p) 26 142 true).run Tryz.prog w=.ok (.tuple #[.agg #[],.bool false]) w:=by kernel_rfl
@[go_sem] theorem ta_Cat_End (p:Value) (w:World):(Instr.typeAssert (.iface 121 p) 26 144 true).run Tryz.prog w=.ok (.tuple #[.agg #[],.bool false]) w:=by kernel_rfl
@[go_sem] theorem ta_Alt_Empty (p:Value) (w:World):(Instr.typeAssert (.iface 122 p) 26 128 true).run Tryz.prog w=.ok (.tuple #[.agg #[],.bool false]) w:=by kernel_rfl
@[go_sem] theorem ta_Alt_One (p:Value) (w:World):(Instr.typeAssert (.iface 122 p) 26 134 true).run Tryz.prog w=.ok (.tuple #[.agg #[.int .u64 0,.int .u64 0,.int .u64 0,.int .u64 0],.bool false]) w:=by kernel_rfl
@[go_sem] theorem ta_Alt_Cat (p:Value) (w:World):(Instr.typeAssert (.iface 122 p) 26 121 true).run Tryz.prog w=.ok (.tuple #[.agg #[.slice none 0 0],.bool false]) w:=by kernel_rfl
@[go_sem] theorem ta_Alt_Alt (p:Value) (w:World):(Instr.typeAssert (.iface 122 p) 26 122 true).run Tryz.prog w=.ok (.tuple #[p,.bool true]) w:=by kernel_rfl
@[go_sem] theorem ta_Alt_Rep (p:Value) (w:World):(Instr.typeAssert (.iface 122 p) 26 124 true).run Tryz.prog w=.ok (.tuple #[.agg #[.nilIface,.int .i64 0,.int .i64 0],.bool false]) w:=by kernel_rfl
@[go_sem] theorem ta_Alt_Group (p:Value) (w:World):(Instr.typeAssert (.iface 122 p) 26 126 true).run Tryz.prog w=.ok (.tuple #[.agg #[.int .i64 0,.nilIface],.bool false]) w:=by kernel_rfl
@[go_sem] theorem ta_Alt_Back (p:Value) (w:World):(Instr.typeAssert (.iface 122 p) 26 140 true).run Tryz.prog w=.ok (.tuple #[.agg #[.int .i64 0],.bool false]) w:=by kernel_rfl
@[go_sem] theorem ta_Alt_Start (p:Value) (w:World):(Instr.typeAssert (.iface 122 p) 26 142 true).run Tryz.prog w=.ok (.tuple #[.agg #[],.bool false]) w:=by kernel_rfl
@[go_sem] theorem ta_Alt_End (p:Value) (w:World):(Instr.typeAssert (.iface 122 p) 26 144 true).run Tryz.prog w=.ok (.tuple #[.agg #[],.bool false]) w:=by kernel_rfl
@[go_sem] theorem ta_Rep_Empty (p:Value) (w:World):(Instr.typeAssert (.iface 124 p) 26 128 true).run Tryz.prog w=.ok (.tuple #[.agg #[],.bool false]) w:=by kernel_rfl
@[go_sem] theorem ta_Rep_One (p:Value) (w:World):(Instr.typeAssert (.iface 124 p) 26 134 true).run Tryz.prog w=.ok (.tuple #[.agg #[.int .u64 0,.int .u64 0,.int .u64 0,.int .u64 0],.bool false]) w:=by kernel_rfl
@[go_sem] theorem ta_Rep_Cat (p:Value) (w:World):(Instr.typeAssert (.iface 124 p) 26 121 true).run Tryz.prog w=.ok (.tuple #[.agg #[.slice none 0 0],.bool false]) w:=by kernel_rfl
@[go_sem] theorem ta_Rep_Alt (p:Value) (w:World):(Instr.typeAssert (.iface 124 p) 26 122 true).run Tryz.prog w=.ok (.tuple #[.agg #[.slice none 0 0],.bool false]) w:=by kernel_rfl
@[go_sem] theorem ta_Rep_Rep (p:Value) (w:World):(Instr.typeAssert (.iface 124 p) 26 124 true).run Tryz.prog w=.ok (.tuple #[p,.bool true]) w:=by kernel_rfl
@[go_sem] theorem ta_Rep_Group (p:Value) (w:World):(Instr.typeAssert (.iface 124 p) 26 126 true).run Tryz.prog w=.ok (.tuple #[.agg #[.int .i64 0,.nilIface],.bool false]) w:=by kernel_rfl
@[go_sem] theorem ta_Rep_Back (p:Value) (w:World):(Instr.typeAssert (.iface 124 p) 26 140 true).run Tryz.prog w=.ok (.tuple #[.agg #[.int .i64 0],.bool false]) w:=by kernel_rfl
@[go_sem] theorem ta_Rep_Start (p:Value) (w:World):(Instr.typeAssert (.iface 124 p) 26 142 true).run Tryz.prog w=.ok (.tuple #[.agg #[],.bool false]) w:=by kernel_rfl
@[go_sem] theorem ta_Rep_End (p:Value) (w:World):(Instr.typeAssert (.iface 124 p) 26 144 true).run Tryz.prog w=.ok (.tuple #[.agg #[],.bool false]) w:=by kernel_rfl
@[go_sem] theorem ta_Group_Empty (p:Value) (w:World):(Instr.typeAssert (.iface 126 p) 26 128 true).run Tryz.prog w=.ok (.tuple #[.agg #[],.bool false]) w:=by kernel_rfl
@[go_sem] theorem ta_Group_One (p:Value) (w:World):(Instr.typeAssert (.iface 126 p) 26 134 true).run Tryz.prog w=.ok (.tuple #[.agg #[.int .u64 0,.int .u64 0,.int .u64 0,.int .u64 0],.bool false]) w:=by kernel_rfl
@[go_sem] theorem ta_Group_Cat (p:Value) (w:World):(Instr.typeAssert (.iface 126 p) 26 121 true).run Tryz.prog w=.ok (.tuple #[.agg #[.slice none 0 0],.bool false]) w:=by kernel_rfl
@[go_sem] theorem ta_Group_Alt (p:Value) (w:World):(Instr.typeAssert (.iface 126 p) 26 122 true).run Tryz.prog w=.ok (.tuple #[.agg #[.slice none 0 0],.bool false]) w:=by kernel_rfl
@[go_sem] theorem ta_Group_Rep (p:Value) (w:World):(Instr.typeAssert (.iface 126 p) 26 124 true).run Tryz.prog w=.ok (.tuple #[.agg #[.nilIface,.int .i64 0,.int .i64 0],.bool false]) w:=by kernel_rfl
@[go_sem] theorem ta_Group_Group (p:Value) (w:World):(Instr.typeAssert (.iface 126 p) 26 126 true).run Tryz.prog w=.ok (.tuple #[p,.bool true]) w:=by kernel_rfl
@[go_sem] theorem ta_Group_Back (p:Value) (w:World):(Instr.typeAssert (.iface 126 p) 26 140 true).run Tryz.prog w=.ok (.tuple #[.agg #[.int .i64 0],.bool false]) w:=by kernel_rfl
@[go_sem] theorem ta_Group_Start (p:Value) (w:World):(Instr.typeAssert (.iface 126 p) 26 142 true).run Tryz.prog w=.ok (.tuple #[.agg #[],.bool false]) w:=by kernel_rfl
@[go_sem] theorem ta_Group_End (p:Value) (w:World):(Instr.typeAssert (.iface 126 p) 26 144 true).run Tryz.prog w=.ok (.tuple #[.agg #[],.bool false]) w:=by kernel_rfl
@[go_sem] theorem ta_Back_Empty (p:Value) (w:World):(Instr.typeAssert (.iface 140 p) 26 128 true).run Tryz.prog w=.ok (.tuple #[.agg #[],.bool false]) w:=by kernel_rfl
@[go_sem] theorem ta_Back_One (p:Value) (w:World):(Instr.typeAssert (.iface 140 p) 26 134 true).run Tryz.prog w=.ok (.tuple #[.agg #[.int .u64 0,.int .u64 0,.int .u64 0,.int .u64 0],.bool false]) w:=by kernel_rfl
@[go_sem] theorem ta_Back_Cat (p:Value) (w:World):(Instr.typeAssert (.iface 140 p) 26 121 true).run Tryz.prog w=.ok (.tuple #[.agg #[.slice none 0 0],.bool false]) w:=by kernel_rfl
@[go_sem] theorem ta_Back_Alt (p:Value) (w:World):(Instr.typeAssert (.iface 140 p) 26 122 true).run Tryz.prog w=.ok (.tuple #[.agg #[.slice none 0 0],.bool false]) w:=by kernel_rfl
@[go_sem] theorem ta_Back_Rep (p:Value) (w:World):(Instr.typeAssert (.iface 140 p) 26 124 true).run Tryz.prog w=.ok (.tuple #[.agg #[.nilIface,.int .i64 0,.int .i64 0],.bool false]) w:=by kernel_rfl
@[go_sem] theorem ta_Back_Group (p:Value) (w:World):(Instr.typeAssert (.iface 140 p) 26 126 true).run Tryz.prog w=.ok (.tuple #[.agg #[.int .i64 0,.nilIface],.bool false]) w:=by kernel_rfl
@[go_sem] theorem ta_Back_Back (p:Value) (w:World):(Instr.typeAssert (.iface 140 p) 26 140 true).run Tryz.prog w=.ok (.tuple #[p,.bool true]) w:=by kernel_rfl
@[go_sem] theorem ta_Back_Start (p:Value) (w:World):(Instr.typeAssert (.iface 140 p) 26 142 true).run Tryz.prog w=.ok (.tuple #[.agg #[],.bool false]) w:=by kernel_rfl
@[go_sem] theorem ta_Back_End (p:Value) (w:World):(Instr.typeAssert (.iface 140 p) 26 144 true).run Tryz.prog w=.ok (.tuple #[.agg #[],.bool false]) w:=by kernel_rfl
@[go_sem] theorem ta_Start_Empty (p:Value) (w:World):(Instr.typeAssert (.iface 142 p) 26 128 true).run Tryz.prog w=.ok (.tuple #[.agg #[],.bool false]) w:=by kernel_rfl
@[go_sem] theorem ta_Start_One (p:Value) (w:World):(Instr.typeAssert (.iface 142 p) 26 134 true).run Tryz.prog w=.ok (.tuple #[.agg #[.int .u64 0,.int .u64 0,.int .u64 0,.int .u64 0],.bool false]) w:=by kernel_rfl
@[go_sem] theorem ta_Start_Cat (p:Value) (w:World):(Instr.typeAssert (.iface 142 p) 26 121 true).run Tryz.prog w=.ok (.tuple #[.agg #[.slice none 0 0],.bool false]) w:=by kernel_rfl
@[go_sem] theorem ta_Start_Alt (p:Value) (w:World):(Instr.typeAssert (.iface 142 p) 26 122 true).run Tryz.prog w=.ok (.tuple #[.agg #[.slice none 0 0],.bool false]) w:=by kernel_rfl
@[go_sem] theorem ta_Start_Rep (p:Value) (w:World):(Instr.typeAssert (.iface 142 p) 26 124 true).run Tryz.prog w=.ok (.tuple #[.agg #[.nilIface,.int .i64 0,.int .i64 0],.bool false]) w:=by kernel_rfl
@[go_sem] theorem ta_Start_Group (p:Value) (w:World):(Instr.typeAssert (.iface 142 p) 26 126 true).run Tryz.prog w=.ok (.tuple #[.agg #[.int .i64 0,.nilIface],.bool false]) w:=by kernel_rfl
@[go_sem] theorem ta_Start_Back (p:Value) (w:World):(Instr.typeAssert (.iface 142 p) 26 140 true).run Tryz.prog w=.ok (.tuple #[.agg #[.int .i64 0],.bool false]) w:=by kernel_rfl
@[go_sem] theorem ta_Start_Start (p:Value) (w:World):(Instr.typeAssert (.iface 142 p) 26 142 true).run Tryz.prog w=.ok (.tuple #[p,.bool true]) w:=by kernel_rfl
@[go_sem] theorem ta_Start_End (p:Value) (w:World):(Instr.typeAssert (.iface 142 p) 26 144 true).run Tryz.prog w=.ok (.tuple #[.agg #[],.bool false]) w:=by kernel_rfl
@[go_sem] theorem ta_End_Empty (p:Value) (w:World):(Instr.typeAssert (.iface 144 p) 26 128 true).run Tryz.prog w=.ok (.tuple #[.agg #[],.bool false]) w:=by kernel_rfl
@[go_sem] theorem ta_End_One (p:Value) (w:World):(Instr.typeAssert (.iface 144 p) 26 134 true).run Tryz.prog w=.ok (.tuple #[.agg #[.int .u64 0,.int .u64 0,.int .u64 0,.int .u64 0],.bool false]) w:=by kernel_rfl
@[go_sem] theorem ta_End_Cat (p:Value) (w:World):(Instr.typeAssert (.iface 144 p) 26 121 true).run Tryz.prog w=.ok (.tuple #[.agg #[.slice none 0 0],.bool false]) w:=by kernel_rfl
@[go_sem] theorem ta_End_Alt (p:Value) (w:World):(Instr.typeAssert (.iface 144 p) 26 122 true).run Tryz.prog w=.ok (.tuple #[.agg #[.slice none 0 0],.bool false]) w:=by kernel_rfl
@[go_sem] theorem ta_End_Rep (p:Value) (w:World):(Instr.typeAssert (.iface 144 p) 26 124 true).run Tryz.prog w=.ok (.tuple #[.agg #[.nilIface,.int .i64 0,.int .i64 0],.bool false]) w:=by kernel_rfl
@[go_sem] theorem ta_End_Group (p:Value) (w:World):(Instr.typeAssert (.iface 144 p) 26 126 true).run Tryz.prog w=.ok (.tuple #[.agg #[.int .i64 0,.nilIface],.bool false]) w:=by kernel_rfl
@[go_sem] theorem ta_End_Back (p:Value) (w:World):(Instr.typeAssert (.iface 144 p) 26 140 true).run Tryz.prog w=.ok (.tuple #[.agg #[.int .i64 0],.bool false]) w:=by kernel_rfl
@[go_sem] theorem ta_End_Start (p:Value) (w:World):(Instr.typeAssert (.iface 144 p) 26 142 true).run Tryz.prog w=.ok (.tuple #[.agg #[],.bool false]) w:=by kernel_rfl
@[go_sem] theorem ta_End_End (p:Value) (w:World):(Instr.typeAssert (.iface 144 p) 26 144 true).run Tryz.prog w=.ok (.tuple #[p,.bool true]) w:=by kernel_rfl
@[go_sem] theorem ta_nil_Empty (w:World):(Instr.typeAssert .nilIface 26 128 true).run Tryz.prog w=.ok (.tuple #[.agg #[],.bool false]) w:=by kernel_rfl
@[go_sem] theorem ta_nil_One (w:World):(Instr.typeAssert .nilIface 26 134 true).run Tryz.prog w=.ok (.tuple #[.agg #[.int .u64 0,.int .u64 0,.int .u64 0,.int .u64 0],.bool false]) w:=by kernel_rfl
@[go_sem] theorem ta_nil_Cat (w:World):(Instr.typeAssert .nilIface 26 121 true).run Tryz.prog w=.ok (.tuple #[.agg #[.slice none 0 0],.bool false]) w:=by kernel_rfl
@[go_sem] theorem ta_nil_Alt (w:World):(Instr.typeAssert .nilIface 26 122 true).run Tryz.prog w=.ok (.tuple #[.agg #[.slice none 0 0],.bool false]) w:=by kernel_rfl
@[go_sem] theorem ta_nil_Rep (w:World):(Instr.typeAssert .nilIface 26 124 true).run Tryz.prog w=.ok (.tuple #[.agg #[.nilIface,.int .i64 0,.int .i64 0],.bool false]) w:=by kernel_rfl
@[go_sem] theorem ta_nil_Group (w:World):(Instr.typeAssert .nilIface 26 126 true).run Tryz.prog w=.ok (.tuple #[.agg #[.int .i64 0,.nilIface],.bool false]) w:=by kernel_rfl
@[go_sem] theorem ta_nil_Back (w:World):(Instr.typeAssert .nilIface 26 140 true).run Tryz.prog w=.ok (.tuple #[.agg #[.int .i64 0],.bool false]) w:=by kernel_rfl
@[go_sem] theorem ta_nil_Start (w:World):(Instr.typeAssert .nilIface 26 142 true).run Tryz.prog w=.ok (.tuple #[.agg #[],.bool false]) w:=by kernel_rfl
@[go_sem] theorem ta_nil_End (w:World):(Instr.typeAssert .nilIface 26 144 true).run Tryz.prog w=.ok (.tuple #[.agg #[],.bool false]) w:=by kernel_rfl
end Go.Proofs.YtbgfankoojjejaaGreatDoor
