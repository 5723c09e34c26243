/- The proof's texts CmGa, CmGb, OctOpen, TrWk, TrCaught: what the claim reaches of them. -/
import Derived.Test.YtbgfankoojjejaaGreatDoorGd28
import Derived.Test.YtbgfankoojjejaaGreatDoorRows
import Derived.Test.YtbgfankoojjejaaGreatDoorGd01
import Derived.WalkKit
import Derived.ProofKit
import Derived.OpenShut
import Derived.Test.YtbgfankoojjejaaGreatDoorGd02
import Derived.Deep.Slices
import Derived.Lib.LaidTab
import Derived.Lib.Hide
import Derived.ChangeKeysEq
import Derived.Deep.RegionHeld3
import Derived.Deep.DeepCutAuto
import Derived.Deep.RegionWith
import Derived.Deep.QuietTactic
import Derived.Test.YtbgfankoojjejaaGreatDoorGd12
import Derived.Defers
import Derived.Recover
import Derived.Tactics2
set_option linter.unusedSimpArgs false
set_option linter.unusedVariables false
set_option maxHeartbeats 8000000
set_option maxRecDepth 1000000
namespace Go.Proofs.YtbgfankoojjejaaGreatDoor
set_option linter.unusedVariables false
theorem drop_sh (A L:List UInt8) (k:Nat):(A++L).drop (A.length+k)=L.drop k:=by rw [←List.drop_drop,List.drop_left]
theorem drop_ltk {L t:List UInt8} {k:Nat} {c:UInt8} (h:L.drop k=c :: t):k < L.length:=by
 by_cases e:k < L.length
 ·exact e
 ·rw [List.drop_eq_nil_of_le (by omega)] at h;cases h
def shP (a:Nat) (r:PcAns):PcAns:=(r.1,a+r.2.1,r.2.2)
theorem num_sh (A L:List UInt8) (k:Nat):pcNum (A++L) (A.length+k)=((pcNum L k).1,A.length+(pcNum L k).2.1,(pcNum L k).2.2):=by
 unfold pcNum
 rw [drop_sh]
 simp only
 split
 ·rfl
 ·split
  ·rfl
  ·simp only [Nat.add_assoc]
theorem blk_sh (A L:List UInt8) (k:Nat):pcBlk (A++L) (A.length+k)=A.length+pcBlk L k:=by
 unfold pcBlk
 rw [drop_sh,Nat.add_assoc]
theorem name_sh (A L:List UInt8) (k:Nat) (b:Bool):pcName (A++L) (A.length+k) b=shP A.length (pcName L k b):=by
 unfold pcName
 rw [drop_sh]
 generalize Lib.trimS ((L.drop k).take (pcEnd b (L.drop k))) [32,9]=n
 generalize pcEnd b (L.drop k)=m
 unfold pcNameOf shP
 split
 ·rfl
 ·split
  ·rfl
  ·simp only [Nat.add_assoc]
theorem lin_sh (a:Nat):∀ (n:Nat) (l:List UInt8) (p:Nat) (acc:List UInt8),l.length≤n→pcLin l (a+p) acc=shP a (pcLin l p acc)
 | _,[],p,acc,_=>by simp [pcLin,shP]
 | 0,c :: t,p,acc,h=>by simp at h
 | n+1,c :: t,p,acc,h=>by
  by_cases h1:c=10
  ·subst h1;rw [pcLin_nl,pcLin_nl];simp [shP,Nat.add_assoc]
  ·by_cases h2:c=92
   ·subst h2
    cases t with
    | nil=>rw [pcLin_tail,pcLin_tail];simp [shP]
    | cons x u=>
     rw [pcLin_bs,pcLin_bs,Nat.add_assoc]
     exact lin_sh a n u _ _ (by simp at h;omega)
   ·rw [pcLin_else _ _ _ _ h1 h2,pcLin_else _ _ _ _ h1 h2,Nat.add_assoc]
    exact lin_sh a n t _ _ (by simp at h;omega)
theorem part_sh (a:Nat) (d:UInt8) (rx:Bool) (c:UInt8) (t:List UInt8) (p:Nat):pcPart d rx c t (a+p)=shP a (pcPart d rx c t p):=by
 unfold pcPart
 by_cases h1:c=92
 ·rw [if_pos h1,if_pos h1]
  cases t with
  | nil=>simp [shP,Nat.add_assoc]
  | cons x u=>
   simp only
   split
   ·simp [shP,Nat.add_assoc]
   ·split <;> simp [shP,Nat.add_assoc]
 ·rw [if_neg h1,if_neg h1]
  simp only
  generalize (if (rx && c == 91)=true then pcBrk t else 1)=k
  generalize pcLen (fun b=>!(b == 10)) ((c :: t).take k)=i
  split <;> simp [shP,Nat.add_assoc]
theorem btw_sh (A L:List UInt8) (d:UInt8) (rx:Bool):∀ (n m p:Nat) (acc:List UInt8),p≤L.length→L.length - p < n→L.length - p < m→pcBtw d rx (A++L) m (A.length+p) acc=shP A.length (pcBtw d rx L n p acc)
 | 0,m,p,acc,hp,h,_=>by omega
 | n+1,0,p,acc,hp,_,h=>by omega
 | n+1,m+1,p,acc,hp,h1,h2=>by
  cases hd:L.drop p with
  | nil=>
   rw [pcBtw_nil hd,pcBtw_nil (by rw [drop_sh,hd])]
   simp [shP]
  | cons c t=>
   have hlt:=drop_ltk hd
   have hl:t.length+1=L.length - p:=by rw [←List.length_drop,hd];rfl
   have hd':(A++L).drop (A.length+p)=c :: t:=by rw [drop_sh,hd]
   by_cases hc:c=d
   ·subst hc
    rw [pcBtw_del hd,pcBtw_del hd']
    simp [shP,Nat.add_assoc]
   ·obtain ⟨x,k,e,he⟩:∃ x k e,pcPart d rx c t p=(x,k,e):=⟨_,_,_,rfl⟩
    have he':pcPart d rx c t (A.length+p)=(x,A.length+k,e):=by rw [part_sh,he];rfl
    by_cases h0:e=0
    ·subst h0
     rw [pcBtw_part hd hc he,pcBtw_part hd' hc he']
     obtain ⟨g1,g2,_⟩:=pcPart_ok he
     exact btw_sh A L d rx n m k (acc++x) (by omega) (by omega) (by omega)
    ·rw [pcBtw_err hd hc h0 he,pcBtw_err hd' hc h0 he']
     rfl
theorem between_sh (A L:List UInt8) (d:UInt8) (rx:Bool) (k:Nat) (hk:k≤L.length):pcBetween (A++L) ((A.length+k:Nat):Int) d rx=shP A.length (pcBetween L (k:Int) d rx):=by
 unfold pcBetween
 rw [pcAt_at _ _ _ _ hk,pcAt_at _ _ _ _ (by rw [List.length_append];omega)]
 exact btw_sh A L d rx _ _ k [] hk (by omega) (by rw [List.length_append];omega)
def ShD (a:Nat) (R R':AdRd (List UInt8 × Nd)):Prop:=
 match R,R' with
 | .error q,.error r=>r=(q.1,a+q.2)
 | .ok q,.ok r=>r.1=q.1∧r.2.2=a+q.2.2
 | _,_=>False
theorem delim_sh (ext:Bool) (A L:List UInt8) (k:Nat) (d:UInt8) (hk:k≤L.length):ShD A.length (delimM ext L k d) (delimM ext (A++L) (A.length+k) d):=by
 unfold delimM
 rw [between_sh A L d true k hk]
 generalize pcBetween L (k:Int) d true=r
 obtain ⟨t,p,e⟩:=r
 rw [show shP A.length (t,p,e)=(t,A.length+p,e) from rfl]
 simp only
 by_cases he:e=0
 ·rw [if_pos he,if_pos he]
  by_cases ht:t=[]
  ·rw [if_pos ht,if_pos ht];exact rfl
  ·rw [if_neg ht,if_neg ht]
   cases parseM ext t with
   | error q=>exact rfl
   | ok q=>exact ⟨rfl,rfl⟩
 ·rw [if_neg he,if_neg he];exact rfl
structure Sh (a:Nat) (st st':CS):Prop where
 k:st'.k=a+st.k
 name:st'.c.name=st.c.name
 arg:st'.c.arg=st.c.arg
 sub:st'.c.sub=st.c.sub
 table:st'.c.table=st.c.table
def ShO (a:Nat) (r r':CO):Prop:=r'.1=r.1∧Sh a r.2 r'.2
theorem Sh.go {a:Nat} {st st':CS} (h:Sh a st st') {k k':Nat} (e:k'=a+k):Sh a (st.go k) (st'.go k'):=⟨e,h.name,h.arg,h.sub,h.table⟩
theorem Sh.mark {a:Nat} {st st':CS} (h:Sh a st st') (p p':Nat) (w:List UInt8):Sh a (st.mark p w) (st'.mark p' w):=⟨h.k,h.name,h.arg,h.sub,h.table⟩
theorem Sh.argS {a:Nat} {st st':CS} (h:Sh a st st') (t:List UInt8) {k k':Nat} (e:k'=a+k):Sh a (st.arg t k) (st'.arg t k'):=⟨e,h.name,rfl,h.sub,h.table⟩
theorem Sh.fileS {a:Nat} {st st':CS} (h:Sh a st st') (t:List UInt8) {k k':Nat} (e:k'=a+k):Sh a (st.file t k) (st'.file t k'):=⟨e,h.name,h.arg,by show { st'.c.sub with file:=t }={ st.c.sub with file:=t };rw [h.sub],h.table⟩
theorem Sh.rx {a:Nat} {st st':CS} (h:Sh a st st') (t:List UInt8) (d:Option Nd) (ms ms':List Wm) {k k':Nat} (e:k'=a+k):Sh a (st.rx t d ms k) (st'.rx t d ms' k'):=⟨e,h.name,h.arg,by show { st'.c.sub with text:=t,tree:=d }={ st.c.sub with text:=t,tree:=d };rw [h.sub],h.table⟩
theorem Sh.parts {a:Nat} {st st':CS} (h:Sh a st st') (ps:List Cp) {k k':Nat} (e:k'=a+k):Sh a (st.parts ps k) (st'.parts ps k'):=⟨e,h.name,h.arg,by show { st'.c.sub with parts:=ps }={ st.c.sub with parts:=ps };rw [h.sub],h.table⟩
theorem Sh.nth {a:Nat} {st st':CS} (h:Sh a st st') (n:Nat) {k k':Nat} (e:k'=a+k):Sh a (st.nth n k) (st'.nth n k'):=⟨e,h.name,h.arg,by show { st'.c.sub with nth:=n }={ st.c.sub with nth:=n };rw [h.sub],h.table⟩
theorem Sh.all {a:Nat} {st st':CS} (h:Sh a st st'):Sh a st.all st'.all:=⟨by show st'.k+1=a+(st.k+1);rw [h.k,Nat.add_assoc],h.name,h.arg,by show { st'.c.sub with all:=true }={ st.c.sub with all:=true };rw [h.sub],h.table⟩
theorem Sh.prt {a:Nat} {st st':CS} (h:Sh a st st'):Sh a st.prt st'.prt:=⟨by show st'.k+1=a+(st.k+1);rw [h.k,Nat.add_assoc],h.name,h.arg,by show { st'.c.sub with prt:=true }={ st.c.sub with prt:=true };rw [h.sub],h.table⟩
theorem Sh.tableS {a:Nat} {st st':CS} (h:Sh a st st') (t:List UInt8) {k k':Nat} (e:k'=a+k):Sh a (st.table t k) (st'.table t k'):=⟨e,h.name,h.arg,h.sub,rfl⟩
theorem ShO.then {a:Nat} {r r':CO} (h:ShO a r r') {f f':CS→CO} (hf:r.1=0→ShO a (f r.2) (f' r'.2)):ShO a (r.then f) (r'.then f'):=by
 unfold CO.then
 rw [h.1]
 by_cases h0:r.1=0
 ·rw [if_pos h0,if_pos h0];exact hf h0
 ·rw [if_neg h0,if_neg h0];exact h
theorem label_sh (A L:List UInt8) {st st':CS} (h:Sh A.length st st'):ShO A.length (cmLabel L st) (cmLabel (A++L) st'):=by
 unfold cmLabel
 rw [h.k,name_sh]
 exact ⟨rfl,h.argS _ rfl⟩
theorem per_sh (A L:List UInt8) {st st':CS} (h:Sh A.length st st'):ShO A.length (cmPer L st) (cmPer (A++L) st'):=by
 have hl:=label_sh A L h
 unfold cmPer
 rw [hl.1]
 by_cases h0:(cmLabel L st).1=14
 ·rw [if_pos h0,if_pos h0]
  exact ⟨rfl,hl.2.go (by rw [h.k,blk_sh])⟩
 ·rw [if_neg h0,if_neg h0];exact hl
theorem lines_sh (A L:List UInt8) {st st':CS} (h:Sh A.length st st'):ShO A.length (cmLines L st) (cmLines (A++L) st'):=by
 unfold cmLines
 rw [h.k,drop_sh,lin_sh A.length _ _ _ _ (Nat.le_refl _)]
 exact ⟨rfl,h.argS _ rfl⟩
theorem text_sh (A L:List UInt8) {st st':CS} (h:Sh A.length st st'):ShO A.length (cmText L st) (cmText (A++L) st'):=by
 unfold cmText
 rw [h.k,blk_sh,drop_sh]
 cases L.drop (pcBlk L st.k) with
 | nil=>exact ⟨rfl,h.go rfl⟩
 | cons c t=>
  simp only
  by_cases h1:c=10
  ·rw [if_pos h1,if_pos h1];exact ⟨rfl,h.go rfl⟩
  ·rw [if_neg h1,if_neg h1]
   by_cases h2:c=92∧t.head?=some 10
   ·rw [if_pos h2,if_pos h2];exact lines_sh A L (h.go (by omega))
   ·rw [if_neg h2,if_neg h2];exact lines_sh A L ((h.go rfl).mark _ _ _)
theorem fileA_sh (A L:List UInt8) {st st':CS} (h:Sh A.length st st'):ShO A.length (cmFileA L st) (cmFileA (A++L) st'):=by
 unfold cmFileA
 rw [h.k,blk_sh,name_sh]
 by_cases h1:pcBlk L st.k=st.k
 ·rw [if_pos h1,if_pos (by omega)];exact ⟨rfl,h⟩
 ·rw [if_neg h1,if_neg (by omega)];exact ⟨rfl,h.argS _ rfl⟩
theorem fileS_sh (A L:List UInt8) {st st':CS} (h:Sh A.length st st'):ShO A.length (cmFileS L st) (cmFileS (A++L) st'):=by
 unfold cmFileS
 rw [h.k,blk_sh,name_sh]
 by_cases h1:pcBlk L st.k=st.k
 ·rw [if_pos h1,if_pos (by omega)];exact ⟨rfl,h⟩
 ·rw [if_neg h1,if_neg (by omega)];exact ⟨rfl,h.fileS _ rfl⟩
theorem del_sh (A L:List UInt8) {st st':CS} (h:Sh A.length st st'):(cmDel (A++L) st').1=(cmDel L st).1∧ShO A.length (cmDel L st).2 (cmDel (A++L) st').2:=by
 unfold cmDel
 rw [h.k,drop_sh]
 cases L.drop st.k with
 | nil=>exact ⟨rfl,rfl,h⟩
 | cons c t=>
  simp only
  split
  ·exact ⟨rfl,rfl,h⟩
  ·exact ⟨rfl,rfl,h.go (Nat.add_assoc _ _ _)⟩
theorem end_sh (A L:List UInt8) {st st':CS} (h:Sh A.length st st'):ShO A.length (cmEnd L st) (cmEnd (A++L) st'):=by
 unfold cmEnd
 rw [h.k,blk_sh,drop_sh]
 cases L.drop (pcBlk L st.k) with
 | nil=>exact ⟨rfl,h.go rfl⟩
 | cons c t=>
  simp only
  split
  ·exact ⟨rfl,h.go rfl⟩
  ·split
   ·exact ⟨rfl,(h.go rfl).mark _ _ _⟩
   ·exact ⟨rfl,h.go rfl⟩
theorem rx_sh (ext:Bool) (A L:List UInt8) (d:UInt8) {st st':CS} (h:Sh A.length st st') (hk:st.k≤L.length):ShO A.length (cmRx ext L d st) (cmRx ext (A++L) d st'):=by
 unfold cmRx
 rw [h.k]
 have hd:=delim_sh ext A L st.k d hk
 generalize delimM ext L st.k d=R at hd ⊢
 generalize delimM ext (A++L) (A.length+st.k) d=R' at hd ⊢
 cases R with
 | error q=>
  cases R' with
  | error r=>obtain rfl:r=_:=hd;exact ⟨rfl,h.rx _ _ _ _ rfl⟩
  | ok r=>cases hd
 | ok q=>
  cases R' with
  | error r=>cases hd
  | ok r=>
   obtain ⟨⟨t,D⟩,ms,p⟩:=q
   obtain ⟨q',ms',p'⟩:=r
   obtain ⟨h1,h2⟩:q'=(t,D)∧p'=A.length+p:=hd
   subst h1 h2
   exact ⟨rfl,h.rx _ _ _ _ rfl⟩
theorem rep_sh (A L:List UInt8) (d:UInt8) {st st':CS} (h:Sh A.length st st') (hk:st.k≤L.length):ShO A.length (cmRep L d st) (cmRep (A++L) d st'):=by
 unfold cmRep
 rw [h.k,h.sub,between_sh A L d false st.k hk]
 generalize pcBetween L (st.k:Int) d false=r
 obtain ⟨t,p,e⟩:=r
 simp only [shP]
 generalize cpRun (cmTreeGroups st.c.sub.tree) t false [] []=q
 unfold cmRepOf
 simp only
 split
 ·split
  ·exact ⟨rfl,h.parts _ rfl⟩
  ·exact ⟨rfl,h⟩
 ·exact ⟨rfl,h.go rfl⟩
theorem nth_sh (A L:List UInt8) {st st':CS} (h:Sh A.length st st'):ShO A.length (cmNth L st) (cmNth (A++L) st'):=by
 unfold cmNth
 rw [h.k,num_sh]
 generalize pcNum L st.k=r
 obtain ⟨n,p,e⟩:=r
 unfold cmNthOf
 rw [h.sub]
 simp only
 split
 ·split
  ·split
   ·exact ⟨rfl,h⟩
   ·exact ⟨rfl,h.nth _ rfl⟩
  ·exact ⟨rfl,h⟩
 ·exact ⟨rfl,h⟩
theorem all_sh {a:Nat} {st st':CS} (h:Sh a st st'):ShO a (cmAll st) (cmAll st'):=by
 unfold cmAll
 rw [h.sub]
 split
 ·exact ⟨rfl,h⟩
 ·exact ⟨rfl,h.all⟩
theorem prt_sh {a:Nat} {st st':CS} (h:Sh a st st'):ShO a (cmPrt st) (cmPrt st'):=by
 unfold cmPrt
 rw [h.sub]
 split
 ·exact ⟨rfl,h⟩
 ·exact ⟨rfl,h.prt⟩
theorem num_adv {L:List UInt8} {k:Nat} (hk:k≤L.length) (h:(pcNum L k).2.2=0):k < (pcNum L k).2.1∧(pcNum L k).2.1≤L.length:=by
 refine ⟨?_,(pcNum_le L k hk).2⟩
 unfold pcNum at h ⊢
 simp only at h ⊢
 split at h
 ·cases h
 ·split at h
  ·cases h
  ·rename_i h1 h2
   rw [if_neg h1,if_neg h2]
   simp only
   omega
theorem flag_adv {L:List UInt8} {b:UInt8} {st:CS} {r:CO} (hk:st.k < L.length) (hf:cmFlag L b st=some r) (h0:r.1=0):st.k < r.2.k∧r.2.k≤L.length:=by
 unfold cmFlag at hf
 split at hf
 ·injection hf with hf
  subst hf
  unfold cmAll at h0 ⊢
  split at h0
  ·cases h0
  ·rename_i h1;rw [if_neg h1];exact ⟨Nat.lt_succ_self _,hk⟩
 ·split at hf
  ·injection hf with hf
   subst hf
   unfold cmPrt at h0 ⊢
   split at h0
   ·cases h0
   ·rename_i h1;rw [if_neg h1];exact ⟨Nat.lt_succ_self _,hk⟩
  ·split at hf
   ·injection hf with hf
    subst hf
    unfold cmNth cmNthOf at h0 ⊢
    split at h0
    ·rename_i h1
     rw [if_pos h1]
     split at h0
     ·rename_i h2
      rw [if_pos h2]
      split at h0
      ·cases h0
      ·rename_i h3
       rw [if_neg h3]
       exact num_adv (by omega) h1
     ·cases h0
    ·rename_i h1
     exact absurd h0 h1
   ·cases hf
theorem flag_sh (A L:List UInt8) (b:UInt8) {st st':CS} (h:Sh A.length st st'):(cmFlag L b st=none∧cmFlag (A++L) b st'=none)∨∃ r r',cmFlag L b st=some r∧cmFlag (A++L) b st'=some r'∧ShO A.length r r':=by
 unfold cmFlag
 split
 ·exact .inr ⟨_,_,rfl,rfl,all_sh h⟩
 ·split
  ·exact .inr ⟨_,_,rfl,rfl,prt_sh h⟩
  ·split
   ·exact .inr ⟨_,_,rfl,rfl,nth_sh A L h⟩
   ·exact .inl ⟨rfl,rfl⟩
theorem flags_sh (A L:List UInt8):∀ (n m:Nat) {st st':CS},Sh A.length st st'→st.k≤L.length→L.length - st.k < n→L.length - st.k < m→ShO A.length (cmFlags L n st) (cmFlags (A++L) m st')
 | 0,m,st,st',h,hk,h1,_=>by omega
 | n+1,0,st,st',h,hk,_,h2=>by omega
 | n+1,m+1,st,st',h,hk,h1,h2=>by
  unfold cmFlags
  rw [h.k,drop_sh]
  cases hd:L.drop st.k with
  | nil=>exact ⟨rfl,h⟩
  | cons b t=>
   have hlt:=drop_ltk hd
   simp only
   rcases flag_sh A L b h with ⟨e1,e2⟩ | ⟨r,r',e1,e2,hr⟩
   ·rw [e1,e2]
    simp only
    split
    ·exact fileS_sh A L (h.go (Nat.add_assoc _ _ _))
    ·exact end_sh A L h
   ·rw [e1,e2]
    simp only
    rw [hr.1]
    by_cases h0:r.1=0
    ·rw [if_pos h0,if_pos h0]
     obtain ⟨g1,g2⟩:=flag_adv hlt e1 h0
     exact flags_sh A L n m hr.2 g2 (by omega) (by omega)
    ·rw [if_neg h0,if_neg h0];exact hr
theorem btwk_le {d:UInt8} {rx:Bool} {L:List UInt8} {k:Nat} (hk:k≤L.length):(pcBetween L (k:Int) d rx).2.1≤L.length:=by
 unfold pcBetween
 rw [pcAt_at _ _ _ _ hk]
 exact pcBtw_le d rx L _ k [] hk
theorem del_le {L:List UInt8} {st:CS} (hk:st.k≤L.length):(cmDel L st).2.2.k≤L.length:=by
 unfold cmDel
 cases hd:L.drop st.k with
 | nil=>exact hk
 | cons c t=>
  have:=drop_ltk hd
  simp only
  split
  ·exact hk
  ·show st.k+1≤_;omega
theorem delimk_le {ext:Bool} {L:List UInt8} {b:Nat} {d:UInt8} {q:(List UInt8 × Nd) × List Wm × Nat} (hb:b≤L.length) (h:delimM ext L b d=.ok q):q.2.2≤L.length:=by
 unfold delimM at h
 simp only at h
 split at h
 ·split at h
  ·cases h
  ·split at h
   ·cases h
   ·injection h with h
    subst h
    exact btwk_le hb
 ·cases h
theorem rxk_le {ext:Bool} {L:List UInt8} {d:UInt8} {st:CS} (hk:st.k≤L.length) (h0:(cmRx ext L d st).1=0) (he:∀ q,delimM ext L st.k d=.error q→q.1≠0):(cmRx ext L d st).2.k≤L.length:=by
 unfold cmRx at h0 ⊢
 cases hR:delimM ext L st.k d with
 | error q=>rw [hR] at h0;exact absurd h0 (he q hR)
 | ok q=>exact delimk_le hk hR
theorem cmDel_ms (L:List UInt8) (st:CS):(cmDel L st).2.2.ms=st.ms:=by
 unfold cmDel
 split
 ·rfl
 ·split <;> rfl
theorem repk_le {L:List UInt8} {d:UInt8} {st:CS} (hk:st.k≤L.length):(cmRep L d st).2.k≤L.length:=by
 unfold cmRep cmRepOf
 split
 ·split
  ·exact btwk_le hk
  ·exact hk
 ·exact btwk_le hk
theorem sub_sh (ext:Bool) (A L:List UInt8) {st st':CS} (h:Sh A.length st st') (hk:st.k≤L.length) (he:∀ k d q,delimM ext L k d=.error q→q.1≠0):ShO A.length (cmSub ext L st) (cmSub ext (A++L) st'):=by
 unfold cmSub
 have hd:=del_sh A L h
 rw [hd.1]
 refine ShO.then hd.2 fun _=>?_
 have k1:=del_le hk
 have h2:=rx_sh ext A L (cmDel L st).1 hd.2.2 k1
 refine ShO.then h2 fun h0=>?_
 have k2:=rxk_le k1 h0 (fun q=>he _ _ q)
 have h3:=rep_sh A L (cmDel L st).1 h2.2 k2
 refine ShO.then h3 fun _=>?_
 exact flags_sh A L _ _ h3.2 (repk_le k2) (by omega) (by rw [List.length_append];omega)
theorem tbl_sh (A L:List UInt8) {st st':CS} (h:Sh A.length st st') (hk:st.k≤L.length):ShO A.length (cmTbl L st) (cmTbl (A++L) st'):=by
 unfold cmTbl
 have hd:=del_sh A L h
 rw [hd.1]
 refine ShO.then hd.2 fun _=>?_
 have k1:=del_le hk
 rw [hd.2.2.k,between_sh A L _ false _ k1]
 have k2:=btwk_le (d:=(cmDel L st).1) (rx:=false) k1
 generalize pcBetween L ((cmDel L st).2.2.k:Int) (cmDel L st).1 false=r at k2 ⊢
 obtain ⟨t,p,e⟩:=r
 rw [show shP A.length (t,p,e)=(t,A.length+p,e) from rfl]
 unfold cmTblA
 simp only at k2 ⊢
 by_cases he:e=0
 ·rw [if_pos he,if_pos he]
  rw [between_sh A L _ false _ k2]
  generalize pcBetween L (p:Int) (cmDel L st).1 false=r2
  obtain ⟨t2,p2,e2⟩:=r2
  rw [show shP A.length (t2,p2,e2)=(t2,A.length+p2,e2) from rfl]
  simp only
  generalize cmTab t t2=q
  unfold cmTblB
  simp only
  by_cases he2:e2=0
  ·rw [if_pos he2,if_pos he2]
   by_cases hq:q.2=0
   ·rw [if_pos hq,if_pos hq]
    exact end_sh A L (hd.2.2.tableS _ rfl)
   ·rw [if_neg hq,if_neg hq]
    exact ⟨rfl,hd.2.2.go rfl⟩
  ·rw [if_neg he2,if_neg he2]
   exact ⟨rfl,hd.2.2.go rfl⟩
 ·rw [if_neg he,if_neg he]
  exact ⟨rfl,hd.2.2.go rfl⟩
theorem takes_sh (ext:Bool) (A L:List UInt8) {st st':CS} (h:Sh A.length st st') (hk:st.k≤L.length) (he:∀ k d q,delimM ext L k d=.error q→q.1≠0):ShO A.length (cmTakes ext L st) (cmTakes ext (A++L) st'):=by
 unfold cmTakes
 rw [h.name]
 simp only
 split
 ·exact ⟨rfl,h⟩
 ·split
  ·exact label_sh A L h
  ·split
   ·exact per_sh A L h
   ·split
    ·exact text_sh A L h
    ·split
     ·exact fileA_sh A L h
     ·split
      ·exact sub_sh ext A L h hk he
      ·split
       ·exact tbl_sh A L h hk
       ·exact end_sh A L h
end Go.Proofs.YtbgfankoojjejaaGreatDoor
namespace Go.Proofs.YtbgfankoojjejaaGreatDoor
set_option linter.unusedVariables false
def Kp (st:CS) (r:CS):Prop:=r.c.pl=st.c.pl∧r.c.name=st.c.name∧r.c.g=st.c.g
theorem Kp.refl (st:CS):Kp st st:=⟨rfl,rfl,rfl⟩
theorem Kp.trans {a b c:CS} (h:Kp a b) (k:Kp b c):Kp a c:=⟨k.1.trans h.1,k.2.1.trans h.2.1,k.2.2.trans h.2.2⟩
theorem kp_then {st:CS} {r:CO} {f:CS→CO} (h:Kp st r.2) (hf:Kp r.2 (f r.2).2):Kp st (r.then f).2:=by
 unfold CO.then
 split
 ·exact h.trans hf
 ·exact h
theorem kp_label (L:List UInt8) (st:CS):Kp st (cmLabel L st).2:=⟨rfl,rfl,rfl⟩
theorem kp_per (L:List UInt8) (st:CS):Kp st (cmPer L st).2:=by
 unfold cmPer
 split
 ·exact ⟨rfl,rfl,rfl⟩
 ·exact kp_label L st
theorem kp_text (L:List UInt8) (st:CS):Kp st (cmText L st).2:=by
 unfold cmText
 split
 ·exact ⟨rfl,rfl,rfl⟩
 ·split
  ·exact ⟨rfl,rfl,rfl⟩
  ·split <;> exact ⟨rfl,rfl,rfl⟩
theorem kp_fileA (L:List UInt8) (st:CS):Kp st (cmFileA L st).2:=by
 unfold cmFileA
 split <;> exact ⟨rfl,rfl,rfl⟩
theorem kp_fileS (L:List UInt8) (st:CS):Kp st (cmFileS L st).2:=by
 unfold cmFileS
 split <;> exact ⟨rfl,rfl,rfl⟩
theorem kp_del (L:List UInt8) (st:CS):Kp st (cmDel L st).2.2:=by
 unfold cmDel
 split
 ·exact ⟨rfl,rfl,rfl⟩
 ·split <;> exact ⟨rfl,rfl,rfl⟩
theorem kp_end (L:List UInt8) (st:CS):Kp st (cmEnd L st).2:=by
 unfold cmEnd
 split
 ·exact ⟨rfl,rfl,rfl⟩
 ·split
  ·exact ⟨rfl,rfl,rfl⟩
  ·split <;> exact ⟨rfl,rfl,rfl⟩
theorem kp_rx (ext:Bool) (L:List UInt8) (d:UInt8) (st:CS):Kp st (cmRx ext L d st).2:=by
 unfold cmRx cmRxOf
 split <;> exact ⟨rfl,rfl,rfl⟩
theorem kp_rep (L:List UInt8) (d:UInt8) (st:CS):Kp st (cmRep L d st).2:=by
 unfold cmRep cmRepOf
 split
 ·split <;> exact ⟨rfl,rfl,rfl⟩
 ·exact ⟨rfl,rfl,rfl⟩
theorem kp_flag {L:List UInt8} {b:UInt8} {st:CS} {r:CO} (h:cmFlag L b st=some r):Kp st r.2:=by
 unfold cmFlag at h
 split at h
 ·injection h with h
  subst h
  unfold cmAll
  split <;> exact ⟨rfl,rfl,rfl⟩
 ·split at h
  ·injection h with h
   subst h
   unfold cmPrt
   split <;> exact ⟨rfl,rfl,rfl⟩
  ·split at h
   ·injection h with h
    subst h
    unfold cmNth cmNthOf
    split
    ·split
     ·split <;> exact ⟨rfl,rfl,rfl⟩
     ·exact ⟨rfl,rfl,rfl⟩
    ·exact ⟨rfl,rfl,rfl⟩
   ·cases h
theorem kp_flags (L:List UInt8):∀ (n:Nat) (st:CS),Kp st (cmFlags L n st).2
 | 0,st=>Kp.refl st
 | n+1,st=>by
  unfold cmFlags
  split
  ·exact Kp.refl st
  ·split
   ·rename_i hf
    split
    ·exact (kp_flag hf).trans (kp_flags L n _)
    ·exact kp_flag hf
   ·split
    ·exact Kp.trans (b:=st.go (st.k+1)) ⟨rfl,rfl,rfl⟩ (kp_fileS L _)
    ·exact kp_end L st
theorem kp_sub (ext:Bool) (L:List UInt8) (st:CS):Kp st (cmSub ext L st).2:=by
 unfold cmSub
 exact kp_then (kp_del L st) (kp_then (kp_rx ext L _ _) (kp_then (kp_rep L _ _) (kp_flags L _ _)))
theorem kp_tbl (L:List UInt8) (st:CS):Kp st (cmTbl L st).2:=by
 unfold cmTbl
 refine kp_then (kp_del L st) ?_
 unfold cmTblA
 split
 ·unfold cmTblB
  split
  ·split
   ·exact Kp.trans (b:=(cmDel L st).2.2.table _ _) ⟨rfl,rfl,rfl⟩ (kp_end L _)
   ·exact ⟨rfl,rfl,rfl⟩
  ·exact ⟨rfl,rfl,rfl⟩
 ·exact ⟨rfl,rfl,rfl⟩
theorem kp_takes (ext:Bool) (L:List UInt8) (st:CS):Kp st (cmTakes ext L st).2:=by
 unfold cmTakes
 simp only
 split
 ·exact Kp.refl st
 ·split
  ·exact kp_label L st
  ·split
   ·exact kp_per L st
   ·split
    ·exact kp_text L st
    ·split
     ·exact kp_fileA L st
     ·split
      ·exact kp_sub ext L st
      ·split
       ·exact kp_tbl L st
       ·exact kp_end L st
def cmNames:List UInt8:=[125,58,61,113,81,97,105,114,123,100,68,103,71,104,72,108,110,78,112,80,120,122,98,116,84,99,119,115,121]
theorem most_names {b:UInt8} {n:Nat} (h:cmMost b=some n):b∈cmNames:=by
 unfold cmMost at h
 split at h
 ·rename_i h1;rcases h1 with h1 | h1 <;> (subst h1;decide)
 ·split at h
  ·rename_i h1;simp at h1;rcases h1 with h1 | h1 | h1 | h1 | h1 | h1 <;> (subst h1;decide)
  ·split at h
   ·rename_i h1
    exact List.mem_append_right [125,58,61,113,81,97,105,114] h1
   ·cases h
def cmPlain (b:UInt8):Bool:=!(pcDigits.contains b) && !(b == 36) && !(b == 47) && !(b == 92) && !(b == 32) && !(b == 9) && !(b == 44) && !(b == 33) && !(b == 43)
theorem names_plain:cmNames.all cmPlain=true:=by decide
theorem plain_of {b:UInt8} {n:Nat} (h:cmMost b=some n):cmPlain b=true:=List.all_eq_true.1 names_plain b (most_names h)
theorem blk_plain {b:UInt8} (h:cmPlain b=true) {L t:List UInt8} {k:Nat} (hd:L.drop k=b :: t):pcBlk L k=k:=by
 unfold cmPlain at h
 simp only [Bool.and_eq_true,Bool.not_eq_true',beq_eq_false_iff_ne] at h
 unfold pcBlk pcIs
 rw [hd,pcLen_no (by simp [h])]
 rfl
theorem not_plain {b:UInt8} (h:cmPlain b=true) {L t:List UInt8} {k:Nat} (hd:L.drop k=b :: t):adNot L k=.ok (false,k):=by
 unfold adNot
 rw [blk_plain h hd,hd]
 unfold cmPlain at h
 simp only [Bool.and_eq_true,Bool.not_eq_true',beq_eq_false_iff_ne] at h
 rw [if_neg (by simp [h])]
theorem ad_plain {b:UInt8} (h:cmPlain b=true) (ext:Bool) {L t:List UInt8} {k:Nat} (hd:L.drop k=b :: t):adM ext false L k=.ok (adNone,[],k):=by
 unfold adM
 rw [hd]
 unfold cmPlain at h
 simp only [Bool.and_eq_true,Bool.not_eq_true',beq_eq_false_iff_ne] at h
 simp only
 have hd2:=h.1.1.1.1.1.1.1.1
 rw [pcDigits_iff] at hd2
 rw [if_neg (by intro hc;simp [hc] at hd2),if_neg h.1.1.1.1.1.1.1.2,if_neg h.1.1.1.1.1.1.2,if_neg h.1.1.1.1.1.2,if_neg (by simp)]
def gdNone:Grd:=⟨adNone,adNone,false⟩
theorem gd_plain {b:UInt8} (h:cmPlain b=true) (ext:Bool) {L t:List UInt8} {k:Nat} (hd:L.drop k=b :: t):gdM ext L k=.ok (gdNone,[],k):=by
 unfold gdM
 rw [ad_plain h ext hd]
 show gdEnd adNone adNone [] (adNot L k)=_
 rw [not_plain h hd]
 rfl
theorem sec_plain {b:UInt8} (h:cmPlain b=true) (ext:Bool) {L t:List UInt8} {k:Nat} (hd:L.drop k=b :: t):adSec ext L k=.ok (adNone,[],k):=by
 unfold adSec
 rw [blk_plain h hd,hd]
 unfold cmPlain at h
 simp only [Bool.and_eq_true,Bool.not_eq_true',beq_eq_false_iff_ne] at h
 rw [if_neg (by simp [h])]
def lnT (j:Nat):List UInt8:=match j with | 0=>[49] | 1=>[55] | 2=>[36] | _=>[49,50]
def lnA (j:Nat):Adr:=match j with | 0=>⟨1,1,[],none⟩ | 1=>⟨1,7,[],none⟩ | 2=>⟨2,0,[],none⟩ | _=>⟨1,12,[],none⟩
theorem ad_line {b:UInt8} (h:cmPlain b=true) (ext:Bool) (t:List UInt8) (j:Nat):adM ext false (lnT j++b :: t) 0=.ok (lnA j,[],(lnT j).length):=by
 unfold cmPlain at h
 simp only [Bool.and_eq_true,Bool.not_eq_true',beq_eq_false_iff_ne] at h
 have hd2:pcDigits.contains b=false:=h.1.1.1.1.1.1.1.1
 have h1:pcLen (fun b=>pcDigits.contains b) (b :: t)=0:=pcLen_no hd2
 match j with
 | 0=>
  show adM ext false (49 :: b :: t) 0=_
  unfold adM
  simp only [List.drop_zero]
  rw [if_pos (by decide)]
  unfold adLine pcNum pcIs
  simp only [List.drop_zero]
  rw [pcLen_yes (by decide),h1]
  rfl
 | 1=>
  show adM ext false (55 :: b :: t) 0=_
  unfold adM
  simp only [List.drop_zero]
  rw [if_pos (by decide)]
  unfold adLine pcNum pcIs
  simp only [List.drop_zero]
  rw [pcLen_yes (by decide),h1]
  rfl
 | 2=>
  show adM ext false (36 :: b :: t) 0=_
  unfold adM
  simp only [List.drop_zero]
  rw [if_neg (by decide),if_pos trivial]
  rfl
 | n+3=>
  show adM ext false (49 :: 50 :: b :: t) 0=_
  unfold adM
  simp only [List.drop_zero]
  rw [if_pos (by decide)]
  unfold adLine pcNum pcIs
  simp only [List.drop_zero]
  rw [pcLen_yes (by decide),pcLen_yes (by decide),h1]
  rfl
theorem gd_line {b:UInt8} (h:cmPlain b=true) (ext:Bool) (t:List UInt8) (j:Nat):gdM ext (lnT j++b :: t) 0=.ok (⟨lnA j,adNone,false⟩,[],(lnT j).length):=by
 have hd:(lnT j++b :: t).drop (lnT j).length=b :: t:=List.drop_left
 have hk:¬ (lnA j).kind=0:=by
  match j with
  | 0=>decide
  | 1=>decide
  | 2=>decide
  | n+3=>exact (by decide:¬ (1:Nat)=0)
 unfold gdM
 rw [ad_line h ext t j]
 unfold adTwo
 simp only
 rw [if_neg hk,sec_plain h ext hd]
 unfold adJoin gdOf
 simp only
 rw [not_plain h hd]
 rfl
theorem adds_line (j:Nat):cmAdds ⟨lnA j,adNone,false⟩=1:=by
 match j with
 | 0=>rfl
 | 1=>rfl
 | 2=>rfl
 | n+3=>rfl
theorem most_one {b:UInt8} {n:Nat} (h:cmMost b=some n):n < 1 ↔ (b=58∨b=125):=by
 unfold cmMost at h
 split at h
 ·rename_i h1
  injection h with h
  subst h
  exact ⟨fun _=>h1.symm,fun _=>Nat.zero_lt_one⟩
 ·rename_i h1
  have hn:¬ (b=58∨b=125):=fun h2=>h1 h2.symm
  split at h
  ·injection h with h;subst h;exact ⟨fun h=>absurd h (by decide),fun h=>absurd h hn⟩
  ·split at h
   ·injection h with h;subst h;exact ⟨fun h=>absurd h (by decide),fun h=>absurd h hn⟩
   ·cases h
theorem guards_math {L:List UInt8} {c:Cmd} {ms:List Wm} {k:Nat} (j:Nat) (he:∀ k d q,delimM false L k d=.error q→q.1≠0) (h:cmM false L 0=.ok (c,ms,k)) (hp:c.pl=0) :
  (c.g=gdNone)∧if c.name=58∨c.name=125 then cmM false (lnT j++L) 0=.error (19,(lnT j).length)
  else ∃ d ms' k',cmM false (lnT j++L) 0=.ok (d,ms',k')∧d.pl=(lnT j).length∧d.name=c.name∧d.arg=c.arg∧d.sub=c.sub∧d.table=c.table∧d.g=⟨lnA j,adNone,false⟩:=by
 unfold cmM at h
 cases hG:gdM false L 0 with
 | error q=>rw [hG] at h;cases h
 | ok q=>
  rw [hG] at h
  unfold cmOf cmAns at h
  simp only at h
  split at h
  ·rename_i h0
   injection h with h
   injection h with h1 h2
   unfold cmWhole at h0 h1
   have hnm:(cmName L (cmNew q.1 q.2.1 q.2.2)).1=0:=by
    unfold CO.then at h0
    split at h0
    ·assumption
    ·exact h0
   have e2:(cmName L (cmNew q.1 q.2.1 q.2.2)).then (cmTakes false L)=cmTakes false L (cmName L (cmNew q.1 q.2.1 q.2.2)).2:=by
    unfold CO.then
    rw [if_pos hnm]
   rw [e2] at h0 h1
   -- the name
   cases hd:L.drop q.2.2 with
   | nil=>
    unfold cmName at hnm
    have hd':L.drop (cmNew q.1 q.2.1 q.2.2).k=[]:=hd
    rw [hd'] at hnm
    cases hnm
   | cons b t=>
    have hd':L.drop (cmNew q.1 q.2.1 q.2.2).k=b :: t:=hd
    have hcn:cmName L (cmNew q.1 q.2.1 q.2.2)=cmNameOf (cmNew q.1 q.2.1 q.2.2) b (cmMost b):=by
     unfold cmName
     rw [hd']
    rw [hcn] at hnm h0 h1
    cases hM:cmMost b with
    | none=>rw [hM] at hnm;cases hnm
    | some n=>
     rw [hM] at hnm h0 h1
     unfold cmNameOf at hnm h0 h1
     simp only at hnm h0 h1
     by_cases hx:n < cmAdds (cmNew q.1 q.2.1 q.2.2).c.g
     ·rw [if_pos hx] at hnm;cases hnm
     ·rw [if_neg hx] at h0 h1
      generalize hst:(if cmTold b=true then (cmNew q.1 q.2.1 q.2.2).mark (cmNew q.1 q.2.1 q.2.2).k [b] else cmNew q.1 q.2.1 q.2.2)=st0 at h0 h1
      have hK:Kp (cmNew q.1 q.2.1 q.2.2) st0∧st0.k=q.2.2∧st0.c=(cmNew q.1 q.2.1 q.2.2).c:=by
       rw [←hst]
       split <;> exact ⟨⟨rfl,rfl,rfl⟩,rfl,rfl⟩
      have hT:=kp_takes false L (st0.name b)
      have hpl:q.2.2=0:=by
       have e3:c.pl=q.2.2:=by
        rw [←h1,hT.1]
        show st0.c.pl=_
        rw [hK.1.1]
        rfl
       omega
      have hcnm:c.name=b:=by rw [←h1,hT.2.1];rfl
      have hcg:c.g=q.1:=by
       rw [←h1,hT.2.2]
       show st0.c.g=_
       rw [hK.1.2.2]
       rfl
      have hpn:=plain_of hM
      rw [hpl,List.drop_zero] at hd
      subst hd
      have hG2:=gd_plain hpn false (L:=b :: t) (k:=0) rfl
      rw [hG2] at hG
      injection hG with hG
      subst hG
      refine ⟨hcg,?_⟩
      have hG3:=gd_line hpn false t j
      have hdl:(lnT j++b :: t).drop (lnT j).length=b :: t:=List.drop_left
      have hcm:cmM false (lnT j++b :: t) 0=cmAns ((cmNameOf (cmNew ⟨lnA j,adNone,false⟩ [] (lnT j).length) b (some n)).then (cmTakes false (lnT j++b :: t))):=by
       unfold cmM
       rw [hG3]
       show cmAns (cmWhole _ _ _)=_
       unfold cmWhole cmName
       rw [show (lnT j++b :: t).drop (cmNew ⟨lnA j,adNone,false⟩ [] (lnT j).length).k=b :: t from hdl,←hM]
      have hadd:cmAdds (cmNew ⟨lnA j,adNone,false⟩ [] (lnT j).length).c.g=1:=adds_line j
      rw [hcnm]
      by_cases hn:n < 1
      ·rw [if_pos ((most_one hM).1 hn),hcm]
       unfold cmNameOf
       simp only
       rw [if_pos (by rw [hadd];exact hn)]
       rfl
      ·rw [if_neg (fun h=>hn ((most_one hM).2 h))]
       unfold cmNameOf at hcm
       simp only at hcm
       rw [if_neg (by rw [hadd];exact hn)] at hcm
       generalize hst2:(if cmTold b=true then (cmNew ⟨lnA j,adNone,false⟩ [] (lnT j).length).mark (cmNew ⟨lnA j,adNone,false⟩ [] (lnT j).length).k [b] else cmNew ⟨lnA j,adNone,false⟩ [] (lnT j).length)=st1 at hcm
       have hK2:Kp (cmNew ⟨lnA j,adNone,false⟩ [] (lnT j).length) st1∧st1.k=(lnT j).length∧st1.c=(cmNew ⟨lnA j,adNone,false⟩ [] (lnT j).length).c:=by
        rw [←hst2]
        split <;> exact ⟨⟨rfl,rfl,rfl⟩,rfl,rfl⟩
       have hS:Sh (lnT j).length (st0.name b) (st1.name b):=by
        refine ⟨?_,rfl,?_,?_,?_⟩
        ·show st1.k+1=(lnT j).length+(st0.k+1)
         rw [hK2.2.1,hK.2.1]
        ·show st1.c.arg=st0.c.arg
         rw [hK2.2.2,hK.2.2];rfl
        ·show st1.c.sub=st0.c.sub
         rw [hK2.2.2,hK.2.2];rfl
        ·show st1.c.table=st0.c.table
         rw [hK2.2.2,hK.2.2];rfl
       have hR:=takes_sh false (lnT j) (b :: t) hS (by
        show st0.k+1≤_
        rw [hK.2.1]
        show 0+1≤_
        simp) he
       have hT2:=kp_takes false (lnT j++b :: t) (st1.name b)
       generalize cmTakes false (b :: t) (st0.name b)=r at h0 h1 hR
       generalize hr2:cmTakes false (lnT j++b :: t) (st1.name b)=r' at hR hT2
       have e5:CO.then (0,st1.name b) (cmTakes false (lnT j++b :: t))=r':=hr2
       rw [e5] at hcm
       unfold cmAns at hcm
       rw [hR.1,if_pos h0] at hcm
       refine ⟨_,_,_,hcm,?_,?_,?_,?_,?_,?_⟩
       ·rw [hT2.1]
        show st1.c.pl=_
        rw [hK2.2.2];rfl
       ·rw [hT2.2.1];rfl
       ·rw [hR.2.arg,h1]
       ·rw [hR.2.sub,h1]
       ·rw [hR.2.table,h1]
       ·rw [hT2.2.2]
        show st1.c.g=_
        rw [hK2.2.2];rfl
  ·cases h
end Go.Proofs.YtbgfankoojjejaaGreatDoor
namespace Go.Proofs.YtbgfankoojjejaaGreatDoor
open Go.ChangeShapes Go.WideShapes Go.ChangeAt Go.RowKit
theorem own:ownKnob Tryz.prog.godebug=none:=by kernel_rfl
theorem laidOut:laidOutB Tryz.prog=true:=by kernel_rfl
end Go.Proofs.YtbgfankoojjejaaGreatDoor
namespace Go.Proofs.YtbgfankoojjejaaGreatDoor
open Go.ChangeShapes Go.WideShapes Go.ChangeAt Go.RowKit
end Go.Proofs.YtbgfankoojjejaaGreatDoor
namespace Go.Proofs.YtbgfankoojjejaaGreatDoor
open Go.RowKit
end Go.Proofs.YtbgfankoojjejaaGreatDoor
namespace Go.Proofs.YtbgfankoojjejaaGreatDoor
open Go.RowKit
def kb (t:Tr):Nat:=if (t.kind=4∨t.kind=5)∧t.parts=[] then 1 else 0
end Go.Proofs.YtbgfankoojjejaaGreatDoor
namespace Go.Proofs.YtbgfankoojjejaaGreatDoor
open Go.RowKit
end Go.Proofs.YtbgfankoojjejaaGreatDoor
namespace Go.Proofs.YtbgfankoojjejaaGreatDoor
open Go.RowKit
theorem rpart0 (a b c d:Int) (w:World):(part 130 #[.int .u64 a,.int .u64 b,.int .u64 c,.int .u64 d] (0 * 1)).run Tryz.prog w=.ok (.int .u64 a) w:=by kernel_rfl
theorem rpart1 (a b c d:Int) (w:World):(part 130 #[.int .u64 a,.int .u64 b,.int .u64 c,.int .u64 d] 1).run Tryz.prog w=.ok (.int .u64 b) w:=by kernel_rfl
theorem rpart2 (a b c d:Int) (w:World):(part 130 #[.int .u64 a,.int .u64 b,.int .u64 c,.int .u64 d] 2).run Tryz.prog w=.ok (.int .u64 c) w:=by kernel_rfl
theorem rpart3 (a b c d:Int) (w:World):(part 130 #[.int .u64 a,.int .u64 b,.int .u64 c,.int .u64 d] 3).run Tryz.prog w=.ok (.int .u64 d) w:=by kernel_rfl
theorem req_items (a b c d a' b' c' d':Int) (w:World):(Op.eqItems 9999 130 1 #[.int .u64 a,.int .u64 b,.int .u64 c,.int .u64 d] #[.int .u64 a',.int .u64 b',.int .u64 c',.int .u64 d'] [0,1,2,3]).run Tryz.prog w=.ok (a == a' && (b == b' && (c == c' && d == d'))) w:=by
 have h:=fun (x y:Int) (w:World)=>(run_equalIn_int (P:=Tryz.prog) w 9998 130 .u64 .u64 x y Tryz.underlying130:(Op.equalIn 9999 130 (.int .u64 x) (.int .u64 y)).run Tryz.prog w=_)
 simp only [Op.eqItems,Sem.run_bind,rpart0,h,Result.andThen_ok]
 cases ha:a == a' <;> cases hb:b == b' <;> cases hc:c == c' <;> cases hd:d == d' <;> simp [ha,hb,hc,hd,h,rpart1,rpart2,rpart3]
theorem rset_beq (s t:OSet):(ow s 0 == ow t 0 && (ow s 1 == ow t 1 && (ow s 2 == ow t 2 && ow s 3 == ow t 3)))=decide (s=t):=by
 by_cases h:s=t
 ·subst h;simp
 ·have h2:=oset_ne h
  rw [decide_eq_false h]
  cases hx:(ow s 0 == ow t 0 && (ow s 1 == ow t 1 && (ow s 2 == ow t 2 && ow s 3 == ow t 3)))
  ·rfl
  ·exfalso
   simp only [Bool.and_eq_true,beq_iff_eq] at hx
   exact h2 hx
end Go.Proofs.YtbgfankoojjejaaGreatDoor
namespace Go.Proofs.YtbgfankoojjejaaGreatDoor
open Go Go.RowKit
def nholds (d:Nd) (s:OSet):Bool:=match d with
 | .one t=>decide (t=s)
 | _=>false
theorem hset_eql (s t:OSet) (w:World):(Op.equalIn 10000 132 (.agg #[.int .u64 (ow s 0),.int .u64 (ow s 1),.int .u64 (ow s 2),.int .u64 (ow s 3)]) (.agg #[.int .u64 (ow t 0),.int .u64 (ow t 1),.int .u64 (ow t 2),.int .u64 (ow t 3)])).run Tryz.prog w=.ok (decide (s=t)) w:=by
 have hc:Tryz.prog.cellsOf 130=1:=by kernel_rfl
 have hi0:(Tryz.prog.info? 130).isSome=true:=by kernel_rfl
 obtain ⟨i,hi⟩:=Option.isSome_iff_exists.1 hi0
 rw [run_equalIn_array w 9999 (e:=130) (n:=4) _ _ Tryz.underlying132 hi]
 rw [hc,show List.range 4=[0,1,2,3] from rfl,req_items,rset_beq]
theorem holds_any {F:Nat→Prop} (d:Nd) (v:Value) (t:OSet) (w:World) (h:NdX F w d v):Calls Tryz.prog 65 #[v,.agg #[.int .u64 (ow t 0),.int .u64 (ow t 1),.int .u64 (ow t 2),.int .u64 (ow t 3)]] w fun e w'=>e=.returned (.bool (nholds d t))∧Below w.heap.size w w':=by
 have hq:=hset_eql
 rcases nd_kinds h with ⟨rfl,rfl | rfl⟩ | ⟨s,rfl,rfl⟩ | ⟨l,a,cap,rfl,rfl,hr⟩ | ⟨l,a,cap,rfl,rfl,hr⟩ | ⟨d',mn,mx,u,rfl,rfl,hu⟩ | ⟨num,d',u,rfl,rfl,hu⟩ | ⟨num,rfl,rfl⟩ | ⟨rfl,rfl⟩ | ⟨rfl,rfl⟩
 all_goals
  go_enter Tryz.func65,Tryz.ntmps65
  go_wp2_with fail
  go_ret
  refine ⟨rfl,?_⟩
  repeat (first | (with_reducible exact Below.refl _ _) | refine Below.drew ?_ | refine Below.setCell ?_ (by first | omega | (simp;omega) | simp) _ | refine Below.alloc ?_ (by first | omega | (simp;omega) | simp) _)
end Go.Proofs.YtbgfankoojjejaaGreatDoor
