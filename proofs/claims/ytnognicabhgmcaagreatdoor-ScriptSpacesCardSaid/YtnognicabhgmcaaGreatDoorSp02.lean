/- Texts. -/
import Derived.Test.YtnognicabhgmcaaGreatDoorSp01
import Derived.IntWalk
import Derived.Shelf.Strings.Cut
import Derived.Deep.RegionHeld3
import Derived.Deep.LoopGhost
import Derived.Deep.Upon
import Derived.Laws.OwnMore
import Derived.RangeFuncBox
import Derived.Laws.ResultCell
import Derived.Lib.OthersKept
import Derived.ChangeKeysEq
set_option linter.unusedSimpArgs false
set_option linter.unusedVariables false
set_option maxHeartbeats 8000000
set_option maxRecDepth 1000000
namespace Go.Proofs.YtnognicabhgmcaaGreatDoor
open Go.Lib renaming hid→Afj
open Nat renaming le_refl→Afq,le_trans→Afr,lt_of_lt_of_le→Aft,le_of_lt→Afu,add_assoc→Af5
open List renaming length_append→Afs,mem_cons→Afz,mem_append→Af1,length_drop→Af3,getElem?_eq_getElem→Af4,getD_eq_getElem?_getD→Af7
open Go.RowKit.Below renaming refl→Afv,heap_setCell→Afw,drew→Agb,alloc→Agc
open Go.IntWalk renaming i64_in→Afx
open Go.World renaming cell?_of_block→Afy
open Bool renaming false_eq_true→Af2,and_eq_true→Af9
open _root_.Array renaming getElem?_eq_some_iff→Af6
open Go.Proofs.Tryz
section
set_option linter.unusedVariables false
abbrev Cm (L B:List UInt8):List UInt8:=L++10 :: B
theorem Bf {L:List UInt8} (B:List UInt8) {k:Nat} (h:k≤L.length):(Cm L B).drop k=L.drop k++10 :: B:=List.drop_append_of_le_length h
theorem JO {p:UInt8→Bool} (h:p 10=false) (B:List UInt8):∀ l:List UInt8,AK p (l++10 :: B)=AK p l
 | []=>by rw [List.nil_append,Cv h];rfl
 | c :: l=>by
  cases hc:p c with
  | true=>rw [List.cons_append,Bl hc,Bl hc,JO h B l]
  | false=>rw [List.cons_append,Cv hc,Cv hc]
theorem PJ {L:List UInt8} (B:List UInt8) {k:Nat} (h:k≤L.length):B9 (Cm L B) k=B9 L k:=by
 have hn:Eg A7 ((Cm L B).drop k)=Eg A7 (L.drop k):=by rw [Bf B h];exact JO (by decide) B _
 unfold B9;rw [hn,Bf B h];simp only;rw [List.take_append_of_le_length (show Eg A7 (L.drop k)≤(L.drop k).length from B8 _ _)]
theorem Fr {L:List UInt8} (B:List UInt8) {k:Nat} (h:k≤L.length):Ak (Cm L B) k=Ak L k:=by
 unfold Ak;rw [Bf B h,show Eg [32,9] (L.drop k++10 :: B)=Eg [32,9] (L.drop k) from JO (by decide) B _]
theorem Mu {L:List UInt8} (B:List UInt8) {k:Nat} (h:k≤L.length) (b:Bool):Bu (Cm L B) k b=Bu L k b:=by
 have he:Ej b ((Cm L B).drop k)=Ej b (L.drop k):=by rw [Bf B h];exact JO (by cases b <;> rfl) B _
 unfold Bu;rw [he,Bf B h,List.take_append_of_le_length (show Ej b (L.drop k)≤(L.drop k).length from B8 _ _)]
theorem V9 {c:UInt8} (h:c≠10) (B l:List UInt8):DG c (l++10 :: B)=DG c l:=by
 cases l with
 | nil=>show (if (10:UInt8)=c then 1 else 0)=0;rw [if_neg (fun e=>h e.symm)]
 | cons x l=>rfl
theorem VA (B l:List UInt8):BD (l++10 :: B)=BD l:=by
 unfold BD;rw [V9 (by decide),List.drop_append_of_le_length (GY 94 l),V9 (by decide)]
theorem PK {p:UInt8→Bool} (X:List UInt8):∀ {l:List UInt8},AK p l < l.length→AK p (l++X)=AK p l
 | [],h=>absurd h (Nat.not_lt_zero _)
 | c :: l,h=>by
  cases hc:p c with
  | true=>
   rw [Bl hc] at h;rw [List.cons_append,Bl hc,Bl hc,PK X (l:=l) (by simpa using h)]
  | false=>rw [List.cons_append,Cv hc,Cv hc]
theorem Ach (B:List UInt8) {t:List UInt8} (h:Ch t < t.length+1):Ch (t++10 :: B)=Ch t:=by
 have h1:=G5 t;have h2:(t.drop (BD t)).length=t.length - BD t:=Af3;unfold Ch at h ⊢;rw [VA,List.drop_append_of_le_length h1];have h3:AK (fun b=>!(b == 93)) (t.drop (BD t)) < (t.drop (BD t)).length:=by omega
 rw [PK _ h3,Afs];omega
theorem Za (B:List UInt8) {d c:UInt8} {rx:Bool} {t x:List UInt8} {p k:Nat} (h:Bd d rx c t p=(x,k,0)) (hk:k < p+1+t.length):Bd d rx c (t++10 :: B) p=(x,k,0):=by
 unfold Bd at h ⊢;by_cases hc:c=92
 ·rw [if_pos hc] at h ⊢;cases t with
  | nil=>cases h
  | cons y t=>exact h
 ·rw [if_neg hc] at h ⊢;simp only at h ⊢;by_cases hb:(rx && c == 91)=true
  ·rw [if_pos hb] at h ⊢;have hlt:Ch t < t.length+1:=by
    split at h
    ·cases h
    ·injection h with _ h;injection h with h _;omega
   rw [Ach B hlt];have ht:(c :: (t++10 :: B)).take (Ch t)=(c :: t).take (Ch t):=by
    rw [←List.cons_append];exact List.take_append_of_le_length (by rw [List.length_cons];omega)
   rw [ht];exact h
  ·rw [if_neg hb] at h ⊢;have ht:(c :: (t++10 :: B)).take 1=(c :: t).take 1:=rfl;rw [ht];exact h
theorem VB (B:List UInt8) (d:UInt8) (rx:Bool) {L:List UInt8}:∀ (n m p:Nat) (acc:List UInt8),p≤L.length→L.length - p < n→L.length+1 - p < m→(Cq d rx L n p acc).2.2=0→Cq d rx (Cm L B) m p acc=Cq d rx L n p acc
 | 0,_,_,_,_,h,_,_=>absurd h (Nat.not_lt_zero _)
 | _,0,_,_,_,_,h,_=>absurd h (Nat.not_lt_zero _)
 | n+1,m+1,p,acc,hp,h1,h2,h0=>by
  cases hd:L.drop p with
  | nil=>rw [D0 hd] at h0;cases h0
  | cons c t=>
   have hl:t.length+1=L.length - p:=by rw [←Af3,hd];rfl
   have hd':(Cm L B).drop p=c :: (t++10 :: B):=by rw [Bf B hp,hd];rfl
   by_cases hc:c=d
   ·subst hc;rw [D1 hd,D1 hd']
   ·obtain ⟨x,k,e,he⟩:∃ x k e,Bd d rx c t p=(x,k,e):=⟨_,_,_,rfl⟩;by_cases hz:e=0
    ·subst hz;rw [CH hd hc he] at h0 ⊢;obtain ⟨g1,g2,_⟩:=ER he;have hk:k < p+1+t.length:=by
      by_cases hk:k < p+1+t.length
      ·exact hk
      ·exfalso;have hk:L.drop k=[]:=List.drop_eq_nil_of_le (by omega);cases n with
       | zero=>cases h0
       | succ n=>rw [D0 hk] at h0;cases h0
     rw [CH hd' hc (Za B he hk)];exact VB B d rx n m k _ (by omega) (by omega) (by omega) h0
    ·rw [DY hd hc hz he] at h0;exact absurd h0 hz
theorem Fs (B:List UInt8) (d:UInt8) (rx:Bool) {L:List UInt8} {k:Nat} (hk:k≤L.length) (h0:(Aj L (k:Int) d rx).2.2=0):Aj (Cm L B) (k:Int) d rx=Aj L (k:Int) d rx:=by
 unfold Aj at h0 ⊢;rw [D9 _ _ _ _ hk] at h0 ⊢;rw [D9 _ _ _ _ (by rw [Afs];omega)];exact VB B d rx _ _ k [] hk (by omega) (by rw [Afs,List.length_cons];omega) h0
theorem NM (B:List UInt8) {ext:Bool} {L:List UInt8} {k:Nat} {d:UInt8} {q:(List UInt8 × Nd) × List Wm × Nat} (hk:k≤L.length) (h:An ext L k d=.ok q):An ext (Cm L B) k d=.ok q:=by
 have h0:(Aj L (k:Int) d true).2.2=0:=by
  unfold An at h;simp only at h;split at h
  ·assumption
  ·cases h
 unfold An at h ⊢;rw [Fs B d true hk h0];exact h
theorem Sk (B:List UInt8) {ext:Bool} {L:List UInt8} {k:Nat} {d:UInt8} {q:Adr × List Wm × Nat} (hk:k≤L.length) (h:Du ext L k d=.ok q):Du ext (Cm L B) k d=.ok q:=by
 unfold Du at h ⊢;cases h1:An ext L k d with
 | error r=>rw [h1] at h;cases h
 | ok r=>rw [NM B hk h1];rw [h1] at h;exact h
theorem VC (B:List UInt8) {ext second:Bool} {L:List UInt8} {k:Nat} {q:Adr × List Wm × Nat} (hk:k≤L.length) (h:DQ ext second L k=.ok q):DQ ext second (Cm L B) k=.ok q:=by
 unfold DQ at h ⊢;rw [Bf B hk];cases hd:L.drop k with
 | nil=>rw [hd] at h;exact h
 | cons c t=>
  rw [hd] at h;have hlt:=AD hd;rw [List.cons_append];simp only at h ⊢;by_cases h1:48≤c.toNat∧c.toNat≤57
  ·rw [if_pos h1] at h ⊢;unfold CK at h ⊢;rw [PJ B hk];exact h
  rw [if_neg h1] at h ⊢;by_cases h2:c=36
  ·rw [if_pos h2] at h ⊢;exact h
  rw [if_neg h2] at h ⊢;by_cases h3:c=47
  ·rw [if_pos h3] at h ⊢;exact Sk B (by omega) h
  rw [if_neg h3] at h ⊢;by_cases h4:c=92
  ·rw [if_pos h4] at h ⊢;unfold Es at h ⊢;rw [Bf B (show k+1≤L.length by omega)];cases hd2:L.drop (k+1) with
   | nil=>rw [hd2] at h;cases h
   | cons x u=>
    rw [hd2] at h;have hlt2:=AD hd2;rw [List.cons_append];simp only at h ⊢;by_cases hx:x=92∨x=10
    ·rw [if_pos hx] at h;cases h
    ·rw [if_neg hx] at h ⊢;exact Sk B (by omega) h
  rw [if_neg h4] at h ⊢;by_cases h5:c=43∧second=true
  ·rw [if_pos h5] at h ⊢;unfold CL at h ⊢;rw [PJ B (by omega)];exact h
  ·rw [if_neg h5] at h ⊢;exact h
theorem NN {ext:Bool} {L:List UInt8} {k:Nat} {d:UInt8} {q:Adr × List Wm × Nat} (hk:k≤L.length) (h:Du ext L k d=.ok q):q.2.2≤L.length:=by
 unfold Du at h;cases h1:An ext L k d with
 | error r=>rw [h1] at h;cases h
 | ok r=>rw [h1] at h;injection h with h;subst h;exact Lt hk h1
theorem Sl {ext second:Bool} {L:List UInt8} {k:Nat} {q:Adr × List Wm × Nat} (hk:k≤L.length) (h:DQ ext second L k=.ok q):q.2.2≤L.length:=by
 unfold DQ at h;cases hd:L.drop k with
 | nil=>rw [hd] at h;injection h with h;subst h;exact hk
 | cons c t=>
  rw [hd] at h;have hlt:=AD hd;simp only at h;split at h
  ·unfold CK at h;simp only at h;split at h
   ·split at h
    ·cases h
    ·injection h with h;subst h;exact (EY L k hk).2
   ·cases h
  ·split at h
   ·injection h with h;subst h;exact hlt
   ·split at h
    ·exact NN (by omega) h
    ·split at h
     ·unfold Es at h;cases hd2:L.drop (k+1) with
      | nil=>rw [hd2] at h;cases h
      | cons x u=>
       rw [hd2] at h;have hlt2:=AD hd2;simp only at h;split at h
       ·cases h
       ·exact NN (by omega) h
     ·split at h
      ·unfold CL at h;simp only at h;split at h
       ·injection h with h;subst h;exact (EY L (k+1) (by omega)).2
       ·cases h
      ·injection h with h;subst h;exact hk
theorem DV {L:List UInt8} {k:Nat} (hk:k≤L.length):Ak L k≤L.length:=(FL L k hk).2
theorem Fu {c:UInt8} (h:c≠10) (B l:List UInt8):((l++10 :: B).head?=some c) ↔ (l.head?=some c):=by
 cases l with
 | nil=>simp [Ne.symm h]
 | cons x l=>exact Iff.rfl
theorem NO {L:List UInt8} {k:Nat} {c:UInt8} (h:(L.drop k).head?=some c):k < L.length:=by
 cases hd:L.drop k with
 | nil=>rw [hd] at h;cases h
 | cons x t=>exact AD hd
theorem VD (B:List UInt8) {ext:Bool} {L:List UInt8} {k:Nat} {q:Adr × List Wm × Nat} (hk:k≤L.length) (h:BC ext L k=.ok q):BC ext (Cm L B) k=.ok q∧q.2.2≤L.length:=by
 unfold BC at h ⊢;have hb:=DV hk;rw [Fr B hk,Bf B hb];by_cases h1:(L.drop (Ak L k)).head?=some 44
 ·rw [if_pos h1] at h;rw [if_pos ((Fu (by decide) B _).2 h1)];have hlt:=NO h1;have hb2:=DV (show Ak L k+1≤L.length by omega);rw [Fr B (show Ak L k+1≤L.length by omega)];unfold DB at h ⊢;cases h2:DQ ext true L (Ak L (Ak L k+1)) with
  | error r=>rw [h2] at h;cases h
  | ok r=>
   rw [h2] at h;rw [VC B hb2 h2];simp only at h ⊢;refine ⟨h,?_⟩;split at h
   ·cases h
   ·injection h with h;subst h;exact Sl hb2 h2
 ·rw [if_neg h1] at h;rw [if_neg (fun e=>h1 ((Fu (by decide) B _).1 e))];injection h with h;subst h;exact ⟨rfl,hk⟩
theorem VE (B:List UInt8) {L:List UInt8} {k:Nat} {q:Bool × Nat} (hk:k≤L.length) (h:C4 L k=.ok q):C4 (Cm L B) k=.ok q∧q.2≤L.length:=by
 unfold C4 at h ⊢;have hb:=DV hk;rw [Fr B hk,Bf B hb];by_cases h1:(L.drop (Ak L k)).head?=some 33
 ·rw [if_pos h1] at h;rw [if_pos ((Fu (by decide) B _).2 h1)];have hlt:=NO h1;have hb2:=DV (show Ak L k+1≤L.length by omega);rw [Fr B (show Ak L k+1≤L.length by omega),Bf B hb2];by_cases h2:(L.drop (Ak L (Ak L k+1))).head?=some 33
  ·rw [if_pos h2] at h;cases h
  ·rw [if_neg h2] at h;rw [if_neg (fun e=>h2 ((Fu (by decide) B _).1 e))];injection h with h;subst h;exact ⟨rfl,hb2⟩
 ·rw [if_neg h1] at h;rw [if_neg (fun e=>h1 ((Fu (by decide) B _).1 e))];injection h with h;subst h;exact ⟨rfl,hb⟩
theorem VF (B:List UInt8) {ext:Bool} {L:List UInt8} {k:Nat} {q:(Adr × Adr) × List Wm × Nat} (hk:k≤L.length) (h:CT ext L (DQ ext false L k)=.ok q):CT ext (Cm L B) (DQ ext false (Cm L B) k)=.ok q∧q.2.2≤L.length:=by
 unfold CT at h ⊢;cases h1:DQ ext false L k with
 | error r=>rw [h1] at h;cases h
 | ok r=>
  rw [h1] at h;rw [VC B hk h1];have hr:=Sl hk h1;simp only at h ⊢;by_cases h0:r.1.kind=0
  ·rw [if_pos h0] at h ⊢;injection h with h;subst h;exact ⟨rfl,hr⟩
  ·rw [if_neg h0] at h ⊢;unfold EG at h ⊢;cases h2:BC ext L r.2.2 with
   | error x=>rw [h2] at h;cases h
   | ok x=>
    obtain ⟨g1,g2⟩:=VD B hr h2;rw [h2] at h;rw [g1];simp only at h ⊢;injection h with h;subst h;exact ⟨rfl,g2⟩
theorem Aej (B:List UInt8) {ext:Bool} {L:List UInt8} {k:Nat} {q:Grd × List Wm × Nat} (hk:k≤L.length) (h:GS ext L k=.ok q):GS ext (Cm L B) k=.ok q∧q.2.2≤L.length:=by
 unfold GS FK at h ⊢;cases h1:CT ext L (DQ ext false L k) with
 | error r=>rw [h1] at h;cases h
 | ok r=>
  obtain ⟨g1,g2⟩:=VF B hk h1;rw [h1] at h;rw [g1];unfold EX at h ⊢;simp only at h ⊢;cases h2:C4 L r.2.2 with
  | error x=>rw [h2] at h;cases h
  | ok x=>
   obtain ⟨g3,g4⟩:=VE B g2 h2;rw [h2] at h;rw [g3];simp only at h ⊢;injection h with h;subst h;exact ⟨rfl,g4⟩
def Tl (r r':CO):Prop:=r.1=0→r'=r
theorem Tl.then {r r':CO} {f f':CS→CO} (h:Tl r r') (hf:r.1=0→Tl (f r.2) (f' r.2)):Tl (r.then f) (r'.then f'):=by
 intro h0;unfold CO.then at h0 ⊢
 by_cases h1:r.1=0
 ·rw [h h1,if_pos h1,if_pos h1];rw [if_pos h1] at h0;exact hf h1 h0
 ·rw [if_neg h1] at h0;exact absurd h0 h1
theorem NP (B:List UInt8) {L:List UInt8} {st:CS} (hk:st.k≤L.length):BE (Cm L B) st=BE L st:=by
 unfold BE;rw [Mu B hk]
theorem Aci (B:List UInt8) {L:List UInt8} {st:CS} (hk:st.k≤L.length):C9 (Cm L B) st=C9 L st:=by
 unfold C9;rw [NP B hk,Fr B hk]
theorem VG (B:List UInt8) {L:List UInt8} {st:CS} (hk:st.k≤L.length):Bn (Cm L B) st=Bn L st:=by
 unfold Bn;rw [Mu B hk,Fr B hk]
theorem VH (B:List UInt8) {L:List UInt8} {st:CS} (hk:st.k≤L.length):Bi (Cm L B) st=Bi L st:=by
 unfold Bi;rw [Mu B hk,Fr B hk]
theorem Mv (B:List UInt8) {L:List UInt8} {st:CS} (hk:st.k≤L.length):BG (Cm L B) st=BG L st:=by
 unfold BG;rw [Fr B hk,Bf B (DV hk)];cases L.drop (Ak L st.k) with
 | nil=>rfl
 | cons b t=>rfl
theorem VI (B:List UInt8) {L:List UInt8} {st:CS} (hk:st.k≤L.length) (h:(Au L st).2.1=0):Au (Cm L B) st=Au L st:=by
 unfold Au at h ⊢;rw [Bf B hk];cases hd:L.drop st.k with
 | nil=>rw [hd] at h;cases h
 | cons d t=>rfl
theorem Aek (B:List UInt8) (ext:Bool) {L:List UInt8} {d:UInt8} {st:CS} (hk:st.k≤L.length) (he:∀ k d q,An ext L k d=.error q→q.1≠0):Tl (Dm ext L d st) (Dm ext (Cm L B) d st):=by
 intro h0;unfold Dm at h0 ⊢;cases h1:An ext L st.k d with
 | error q=>rw [h1] at h0;exact absurd h0 (he _ _ q h1)
 | ok q=>rw [NM B hk h1]
theorem Acj (B:List UInt8) {L:List UInt8} {d:UInt8} {st:CS} (hk:st.k≤L.length):Tl (CA L d st) (CA (Cm L B) d st):=by
 intro h0;unfold CA at h0 ⊢;have h1:(Aj L (st.k:Int) d false).2.2=0:=by
  unfold DC at h0;split at h0
  ·assumption
  ·exact h0
 rw [Fs B d false hk h1]
theorem Zb (B:List UInt8) {L:List UInt8} {b:UInt8} {st:CS} (hk:st.k≤L.length):AH (Cm L B) b st=AH L b st:=by
 unfold AH CB;rw [PJ B hk]
theorem NQ (B:List UInt8) {L:List UInt8}:∀ (n m:Nat) (st:CS),st.k≤L.length→L.length - st.k < n→L.length+1 - st.k < m→Tl (A2 L n st) (A2 (Cm L B) m st)
 | 0,m,st,hk,h1,_=>absurd h1 (Nat.not_lt_zero _)
 | n+1,0,st,hk,_,h2=>absurd h2 (Nat.not_lt_zero _)
 | n+1,m+1,st,hk,h1,h2=>by
  intro h0;unfold A2 at h0 ⊢;rw [Bf B hk];cases hd:L.drop st.k with
  | nil=>
   have hb:Ak L st.k=st.k:=by unfold Ak;rw [hd];rfl
   show (match AH (Cm L B) 10 st with | some r=>if r.1=0 then A2 (Cm L B) m r.2 else r | none=>if (10:UInt8)=119 then Bi (Cm L B) (st.go (st.k+1)) else BG (Cm L B) st)=(0,st)
   rw [show AH (Cm L B) 10 st=none from rfl];simp only;rw [if_neg (by decide),Mv B hk];unfold BG;rw [hb,hd];rfl
  | cons b t=>
   rw [hd] at h0;have hlt:=AD hd;rw [List.cons_append];simp only at h0 ⊢;rw [Zb B hk];cases hf:AH L b st with
   | some r=>
    rw [hf] at h0;simp only at h0 ⊢;by_cases hr:r.1=0
    ·rw [if_pos hr] at h0;rw [if_pos hr,if_pos hr];obtain ⟨g1,g2⟩:=Ib hlt hf hr;exact NQ B n m r.2 g2 (by omega) (by omega) h0
    ·rw [if_neg hr,if_neg hr]
   | none=>
    simp only;by_cases h9:b=119
    ·rw [if_pos h9,if_pos h9];exact VH B (by show st.k+1≤_;omega)
    ·rw [if_neg h9,if_neg h9];exact Mv B hk
theorem Ack (B:List UInt8) (ext:Bool) {L:List UInt8} {st:CS} (hk:st.k≤L.length) (he:∀ k d q,An ext L k d=.error q→q.1≠0):Tl (BU ext L st) (BU ext (Cm L B) st):=by
 intro h0;have hd0:(Au L st).2.1=0:=by
  unfold BU CO.then at h0
  split at h0
  ·assumption
  ·exact h0
 revert h0
 unfold BU;rw [VI B hk hd0];have k1:=Eu hk;refine Tl.then (fun _=>rfl) fun _=>?_
 refine Tl.then (Aek B ext k1 he) fun h0=>?_
 have k2:=Mt k1 h0 (fun q=>he _ _ q);refine Tl.then (Acj B k2) fun _=>?_
 exact NQ B _ _ _ (Ic k2) (by omega) (by rw [Afs,List.length_cons];omega)
theorem Acl (B:List UInt8) {L:List UInt8} {st:CS} (hk:st.k≤L.length):Tl (BL L st) (BL (Cm L B) st):=by
 intro h0;have hd0:(Au L st).2.1=0:=by
  unfold BL CO.then at h0
  split at h0
  ·assumption
  ·exact h0
 revert h0
 unfold BL;rw [VI B hk hd0];have k1:=Eu hk;refine Tl.then (fun _=>rfl) fun _=>?_
 intro h0;unfold EI at h0 ⊢;have hr:(Aj L ((Au L st).2.2.k:Int) (Au L st).1 false).2.2=0:=by
  split at h0
  ·assumption
  ·exact h0
 rw [Fs B _ false k1 hr];rw [if_pos hr] at h0;rw [if_pos hr,if_pos hr];have k2:=Dn (d:=(Au L st).1) (rx:=false) k1;unfold EH at h0 ⊢;have hr2:(Aj L ((Aj L ((Au L st).2.2.k:Int) (Au L st).1 false).2.1:Int) (Au L st).1 false).2.2=0:=by
  split at h0
  ·assumption
  ·exact h0
 rw [Fs B _ false k2 hr2];rw [if_pos hr2,if_pos hr2];split
 ·refine Mv B ?_;show (Aj L ((Aj L ((Au L st).2.2.k:Int) (Au L st).1 false).2.1:Int) (Au L st).1 false).2.1≤L.length;exact Dn k2
 ·rfl
def LnT (E:Nat) (r r':E8):Prop:=r'.1=r.1∧r'.2.2=0∧(r'.2.1=r.2.1∨(r.2.1=E∧r'.2.1=E+1))
theorem PL (B:List UInt8):∀ (n:Nat) (l:List UInt8) (p:Nat) (acc:List UInt8),l.length≤n→(BA l p acc).2.2=0→LnT (p+l.length) (BA l p acc) (BA (l++10 :: B) p acc)
 | _,[],p,acc,_,_=>by
  rw [List.nil_append,Eh];exact ⟨rfl,rfl,.inr ⟨rfl,rfl⟩⟩
 | 0,c :: t,_,_,h,_=>absurd h (Nat.not_succ_le_zero _)
 | n+1,c :: t,p,acc,h,h0=>by
  rw [List.cons_append];by_cases h1:c=10
  ·subst h1;rw [Eh,Eh];exact ⟨rfl,rfl,.inl rfl⟩
  ·by_cases h2:c=92
   ·subst h2;cases t with
    | nil=>rw [Dz] at h0;cases h0
    | cons x u=>
     rw [Ei] at h0;rw [List.cons_append,Ei,Ei];have:=PL B n u (p+2) (acc++[x]) (by simp at h;omega) h0
     rwa [show p+2+u.length=p+(92 :: x :: u).length by simp;omega] at this
   ·rw [CG _ _ _ _ h1 h2] at h0;rw [CG _ _ _ _ h1 h2,CG _ _ _ _ h1 h2];have:=PL B n t (p+1) (acc++[c]) (by simpa using h) h0
    rwa [show p+1+t.length=p+(c :: t).length by simp;omega] at this
theorem PM:∀ (n:Nat) (l:List UInt8) (p:Nat) (acc:List UInt8),l.length≤n→(BA l p acc).2.1≤p+l.length
 | _,[],p,acc,_=>Afq _
 | 0,c :: t,_,_,h=>absurd h (Nat.not_succ_le_zero _)
 | n+1,c :: t,p,acc,h=>by
  by_cases h1:c=10
  ·subst h1;rw [Eh];simp
  ·by_cases h2:c=92
   ·subst h2;cases t with
    | nil=>rw [Dz];simp
    | cons x u=>
     rw [Ei];have:=PM n u (p+2) (acc++[x]) (by simp at h;omega);simp;omega
   ·rw [CG _ _ _ _ h1 h2];have:=PM n t (p+1) (acc++[c]) (by simpa using h);simp;omega
theorem If {L:List UInt8} {k:Nat} (hk:k≤L.length) (b:Bool):(Bu L k b).2.1≤L.length:=by
 have h1:k+Ej b (L.drop k)≤L.length:=by
  have:=B8 (fun x=>!Fi b x) (L.drop k);rw [Af3] at this;unfold Ej;omega
 unfold Bu Ek;split
 ·exact hk
 ·split
  ·exact hk
  ·exact h1
def UU (L:List UInt8) (r r':CO):Prop:=r.1=0→r'.1=0∧r'.2.c=r.2.c∧r'.2.ms=r.2.ms∧(r'.2.k=r.2.k∨(r.2.k=L.length∧r'.2.k=L.length+1))∧r.2.k≤L.length
theorem Tl.fin {L:List UInt8} {r r':CO} (h:Tl r r') (hk:r.1=0→r.2.k≤L.length):UU L r r':=fun h0=>by
 rw [h h0];exact ⟨h0,rfl,rfl,.inl rfl,hk h0⟩
theorem UU.of {L:List UInt8} {r r':CO} (h:r'=r) (hk:r.2.k≤L.length):UU L r r':=fun h0=>by
 rw [h];exact ⟨h0,rfl,rfl,.inl rfl,hk⟩
theorem NS (B:List UInt8) {L:List UInt8} {st:CS} (hk:st.k≤L.length):UU L (Dl L st) (Dl (Cm L B) st):=by
 intro h0;have hl:st.k+(L.drop st.k).length=L.length:=by rw [Af3];omega
 obtain ⟨a1,a2,a3⟩:=PL B _ (L.drop st.k) st.k [] (Afq _) h0;have a4:=PM _ (L.drop st.k) st.k [] (Afq _);rw [hl] at a3 a4;unfold Dl;rw [Bf B hk];refine ⟨a2,?_,rfl,a3,a4⟩;show (st.arg (BA (L.drop st.k++10 :: B) st.k []).1 0).c=(st.arg (BA (L.drop st.k) st.k []).1 0).c;rw [a1]
theorem Zc (B:List UInt8) {L:List UInt8} {st:CS} (hk:st.k≤L.length):UU L (BT L st) (BT (Cm L B) st):=by
 have hb:=DV hk;unfold BT;rw [Fr B hk,Bf B hb];cases hd:L.drop (Ak L st.k) with
 | nil=>intro h0;cases h0
 | cons c t=>
  have hlt:=AD hd;rw [List.cons_append];simp only;by_cases h1:c=10
  ·rw [if_pos h1];intro h0;cases h0
  ·rw [if_neg h1,if_neg h1];by_cases h2:c=92∧t.head?=some 10
   ·have h3:c=92∧(t++10 :: B).head?=some 10:=by
     refine ⟨h2.1,?_⟩;cases t with
     | nil=>rfl
     | cons x u=>exact h2.2
    rw [if_pos h2,if_pos h3];refine NS B ?_;show Ak L st.k+2≤L.length;cases t with
    | nil=>cases h2.2
    | cons x u=>
     have:=congrArg List.length hd;rw [Af3] at this;simp at this;omega
   ·rw [if_neg h2];by_cases h3:c=92∧(t++10 :: B).head?=some 10
    ·intro h0;exfalso;cases t with
     | nil=>
      have e:(Dl L ((st.go (Ak L st.k)).mark st.c.pl [116,101,120,116])).1=(BA (L.drop (Ak L st.k)) (Ak L st.k) []).2.2:=rfl;rw [e,hd,h3.1,Dz] at h0;cases h0
     | cons x u=>exact h2 h3
    ·rw [if_neg h3];exact NS B hb
theorem Lx {L:List UInt8}:∀ (n:Nat) (st:CS),st.k≤L.length→(A2 L n st).1=0→(A2 L n st).2.k≤L.length
 | 0,st,hk,_=>hk
 | n+1,st,hk,h0=>by
  unfold A2 at h0 ⊢;cases hd:L.drop st.k with
  | nil=>exact hk
  | cons b t=>
   rw [hd] at h0;have hlt:=AD hd;simp only at h0 ⊢;cases hf:AH L b st with
   | some r=>
    rw [hf] at h0;simp only at h0 ⊢;by_cases hr:r.1=0
    ·rw [if_pos hr] at h0 ⊢;exact Lx n r.2 (Ib hlt hf hr).2 h0
    ·rw [if_neg hr] at h0;exact absurd h0 hr
   | none=>
    simp only;split
    ·unfold Bi;split
     ·exact hlt
     ·exact If (show st.k+1≤L.length by omega) false
    ·unfold BG;have hb:=DV hk;split
     ·exact hb
     ·split
      ·exact hb
      ·split
       ·exact hb
       ·exact hb
theorem Sm {L:List UInt8} {st:CS} (hk:st.k≤L.length):(BG L st).2.k≤L.length:=by
 have hb:=DV hk;unfold BG;split
 ·exact hb
 ·split
  ·exact hb
  ·split
   ·exact hb
   ·exact hb
theorem Jk {L:List UInt8} {r:CO} {f:CS→CO} (h:r.1=0→(f r.2).1=0→(f r.2).2.k≤L.length) (h0:(r.then f).1=0):(r.then f).2.k≤L.length:=by
 unfold CO.then at h0 ⊢
 by_cases h1:r.1=0
 ·rw [if_pos h1] at h0 ⊢;exact h h1 h0
 ·rw [if_neg h1] at h0;exact absurd h0 h1
theorem Zd {ext:Bool} {L:List UInt8} {st:CS} (hk:st.k≤L.length) (he:∀ k d q,An ext L k d=.error q→q.1≠0) (h0:(BU ext L st).1=0):(BU ext L st).2.k≤L.length:=by
 unfold BU at h0 ⊢;refine Jk (fun _=>Jk (fun h1=>Jk fun _=>?_)) h0;exact Lx _ _ (Ic (Mt (Eu hk) h1 (fun q=>he _ _ q)))
theorem Ze {L:List UInt8} {st:CS} (hk:st.k≤L.length) (h0:(BL L st).1=0):(BL L st).2.k≤L.length:=by
 unfold BL at h0 ⊢;refine Jk (fun _ _=>?_) h0;have k1:=Eu hk;have k2:=Dn (d:=(Au L st).1) (rx:=false) k1;have k3:=Dn (d:=(Au L st).1) (rx:=false) k2;unfold EI;split
 ·unfold EH;split
  ·split
   ·exact Sm k3
   ·exact k2
  ·exact k3
 ·exact k2
theorem VJ (B:List UInt8) (ext:Bool) {L:List UInt8} {st:CS} (hk:st.k≤L.length) (he:∀ k d q,An ext L k d=.error q→q.1≠0):UU L (AP ext L st) (AP ext (Cm L B) st):=by
 unfold AP;simp only;split
 ·exact UU.of rfl hk
 ·split
  ·exact UU.of (NP B hk) (If hk true)
  ·split
   ·refine UU.of (Aci B hk) ?_;unfold C9;split
    ·exact DV hk
    ·exact If hk true
   ·split
    ·exact Zc B hk
    ·split
     ·refine UU.of (VG B hk) ?_;unfold Bn;split
      ·exact hk
      ·exact If hk false
     ·split
      ·exact (Ack B ext hk he).fin (Zd hk he)
      ·split
       ·exact (Acl B hk).fin (Ze hk)
       ·exact UU.of (Mv B hk) (Sm hk)
theorem VK (B:List UInt8) (ext:Bool) {L:List UInt8} (st:CS) (hk:st.k≤L.length) (he:∀ k d q,An ext L k d=.error q→q.1≠0):UU L (AE ext L st) (AE ext (Cm L B) st):=by
 intro h0;unfold AE at h0 ⊢;cases hd:L.drop st.k with
 | nil=>
  exfalso;have e:AW L st=(5,st):=by unfold AW;rw [hd]
  rw [e] at h0;cases h0
 | cons b t=>
  have hlt:=AD hd;have e:AW L st=Bt st b (Et b):=by unfold AW;rw [hd]
  have e':AW (Cm L B) st=Bt st b (Et b):=by unfold AW;rw [Bf B hk,hd];rfl
  rw [e] at h0;rw [e,e'];unfold CO.then at h0 ⊢
  by_cases h1:(Bt st b (Et b)).1=0
  ·rw [if_pos h1] at h0;rw [if_pos h1,if_pos h1];refine VJ B ext ?_ he h0;unfold Bt;split
   ·exact hk
   ·split
    ·exact hk
    ·split
     ·show st.k+1≤L.length;omega
     ·show st.k+1≤L.length;omega
  ·rw [if_neg h1] at h0;exact absurd h0 h1
theorem Aa8 (B:List UInt8) {ext:Bool} {L:List UInt8} {k:Nat} {c:Cmd} {ms:List Wm} {p:Nat} (hk:k≤L.length) (he:∀ k d q,An ext L k d=.error q→q.1≠0) (h:Ji ext L k=.ok (c,ms,p)) :
  ∃ p',Ji ext (Cm L B) k=.ok (c,ms,p')∧(p'=p∨(p=L.length∧p'=L.length+1))∧p≤L.length:=by
 unfold Ji PD at h ⊢;cases h1:GS ext L k with
 | error q=>rw [h1] at h;cases h
 | ok q=>
  obtain ⟨g1,g2⟩:=Aej B hk h1;rw [h1] at h;rw [g1];simp only at h ⊢;have hw:=VK B ext (AA q.1 q.2.1 q.2.2) g2 he;generalize AE ext L (AA q.1 q.2.1 q.2.2)=r at h hw;generalize AE ext (Cm L B) (AA q.1 q.2.1 q.2.2)=r' at hw ⊢;unfold EZ at h ⊢;split at h
  ·rename_i h0;obtain ⟨w1,w2,w3,w4,w5⟩:=hw h0;rw [if_pos w1,w2,w3];injection h with h;injection h with e1 h;injection h with e2 e3;subst e1 e2 e3;exact ⟨_,rfl,w4,w5⟩
  ·cases h
theorem Sn {p:UInt8→Bool} (X:List UInt8):∀ {l:List UInt8},¬ AK p l < l.length→AK p (l++X)=l.length+AK p X
 | [],_=>by simp
 | c :: l,h=>by
  cases hc:p c with
  | true=>
   rw [Bl hc] at h;rw [List.cons_append,Bl hc,Sn X (l:=l) (by simpa using h),List.length_cons];omega
  | false=>rw [Cv hc] at h;simp at h
theorem Mw {L:List UInt8} {k:Nat} (hk:k≤L.length):BZ L k≤L.length:=by
 have:=B8 (fun b=>([32,9,10,59]:List UInt8).contains b) (L.drop k);rw [Af3] at this;unfold BZ Eg;omega
theorem PN {L:List UInt8} {k:Nat} (hk:k≤L.length):k+Do L k≤L.length:=by
 have:=B8 (fun b=>!(b == (10:UInt8))) (L.drop k);rw [Af3] at this;unfold Do;omega
theorem VL (B:List UInt8) {L:List UInt8} {k:Nat} (hk:k≤L.length) (h:BZ L k < L.length):BZ (Cm L B) k=BZ L k:=by
 unfold BZ Eg at h ⊢;rw [Bf B hk,PK _ (by rw [Af3];omega)]
theorem Tn (B:List UInt8) {L:List UInt8} {k:Nat} (hk:k≤L.length) (h:¬ BZ L k < L.length):BZ (Cm L B) k=BZ (Cm L B) (L.length+1):=by
 unfold BZ Eg at h ⊢;rw [Bf B hk,Sn _ (by rw [Af3];omega),show (Cm L B).drop (L.length+1)=B from AL L (10 :: B) 1,Bl (by decide),Af3];omega
theorem Ael (B:List UInt8) {L:List UInt8} {k:Nat} (hk:k≤L.length):Do (Cm L B) k=Do L k:=by
 unfold Do;rw [Bf B hk];exact JO (p:=fun b=>!(b == 10)) rfl B _
theorem Ev (L:List UInt8) (n k:Nat):Bw L (n+1) k=if (L.drop k).head?=some 35 then Bw L n (BZ L (k+Do L k)) else k:=rfl
theorem PO (M:List UInt8) (n m k:Nat) (h1:M.length - k < n) (h2:M.length - k < m):Bw M m k=Bw M n k:=by
 have h:=FO [] M n m k h1 h2;simpa using h
theorem NT (L:List UInt8):∀ n k,k≤Bw L n k
 | 0,k=>Afq _
 | n+1,k=>by
  rw [Ev];split
  ·have h1:=NT L n (BZ L (k+Do L k));have h2:=Lu L (k+Do L k);omega
  ·exact Afq _
theorem Zf (L:List UInt8) (k:Nat):k≤Am L k:=Afr (Lu L k) (NT L _ _)
theorem NU (B:List UInt8) {L:List UInt8}:∀ n m k,k≤L.length→L.length - k < n→(Cm L B).length - k < m→
  (Bw L n (BZ L k) < L.length→Bw (Cm L B) m (BZ (Cm L B) k)=Bw L n (BZ L k))∧(¬ Bw L n (BZ L k) < L.length→Bw (Cm L B) m (BZ (Cm L B) k)=Am (Cm L B) (L.length+1))
 | 0,_,_,_,h,_=>absurd h (Nat.not_lt_zero _)
 | _,0,_,_,_,h=>absurd h (Nat.not_lt_zero _)
 | n+1,m+1,k,hk,h1,h2=>by
  have hg:=Lu L k;have hM:(Cm L B).length=L.length+(B.length+1):=by rw [Afs,List.length_cons]
  by_cases hs:BZ L k < L.length
  ·rw [VL B hk hs,Ev,Ev,Ael B (Afu hs)];by_cases hh:(L.drop (BZ L k)).head?=some 35
   ·have hh':((Cm L B).drop (BZ L k)).head?=some 35:=by rw [Bf B (Afu hs)];exact (Fu (by decide) B _).2 hh
    rw [if_pos hh,if_pos hh'];have ha:=(PI hh).1;exact NU B n m _ (PN (Afu hs)) (by omega) (by omega)
   ·have hh':¬ ((Cm L B).drop (BZ L k)).head?=some 35:=by rw [Bf B (Afu hs)];exact fun e=>hh ((Fu (by decide) B _).1 e)
    rw [if_neg hh,if_neg hh'];exact ⟨fun _=>rfl,fun h=>absurd hs h⟩
  ·have hd:L.drop (BZ L k)=[]:=List.drop_eq_nil_of_le (by omega);have e:Bw L (n+1) (BZ L k)=BZ L k:=by rw [Ev,hd];rfl
   rw [e,Tn B hk hs];refine ⟨fun h=>absurd h hs,fun _=>?_⟩;have hj:=Lu (Cm L B) (L.length+1);exact PO _ _ _ _ (by omega) (by omega)
theorem So (B:List UInt8) {L:List UInt8} {k:Nat} (hk:k≤L.length) :
  (Am L k < L.length→Am (Cm L B) k=Am L k)∧(¬ Am L k < L.length→Am (Cm L B) k=Am (Cm L B) (L.length+1)):=
 NU B (L.length+1) ((Cm L B).length+1) k hk (by omega) (by omega)
theorem Zg (B:List UInt8) {ext:Bool} {L:List UInt8} {st st2:SS} (he:∀ k d q,An ext L k d=.error q→q.1≠0) (hk:st.k≤L.length) (h:CX ext L st=.ok st2) :
  ∃ k',CX ext (Cm L B) st=.ok (st2.go k')∧(st2.k≤L.length∧k'=st2.k∨st2.k=L.length∧k'=L.length+1)∧st2.cs.length=st.cs.length+1∧st.cs.length≠100:=by
 unfold CX at h ⊢;by_cases h1:st.cs.length=100
 ·rw [if_pos h1] at h;cases h
 ·rw [if_neg h1] at h ⊢;unfold EA at h ⊢;cases hc:Ji ext L st.k with
  | error q=>rw [hc] at h;cases h
  | ok q=>
   obtain ⟨c,ms,p⟩:=q;obtain ⟨p',g1,g2,g3⟩:=Aa8 B hk he hc;rw [hc] at h;rw [g1];simp only at h ⊢;unfold Gy at h ⊢;split at h
   ·rename_i h0;rw [if_pos h0];injection h with h;subst h;refine ⟨p',rfl,?_,by simp,h1⟩;rcases g2 with rfl | ⟨rfl,rfl⟩
    ·exact .inl ⟨g3,rfl⟩
    ·exact .inr ⟨rfl,rfl⟩
   ·cases h
theorem Mx (ext:Bool) (L:List UInt8) (n:Nat) (st:SS):BM ext L (n+1) st=if Am L st.k < L.length then (match CX ext L (st.go (Am L st.k)) with | .error q=>.error q | .ok st'=>BM ext L n st') else .ok (st.go (Am L st.k)):=rfl
theorem VM (B:List UInt8) {ext:Bool} {L:List UInt8} (he:∀ k d q,An ext L k d=.error q→q.1≠0):∀ (n:Nat) (st:SS) (k':Nat) (st2:SS),102≤st.cs.length+n→st.cs.length≤100→(st.k≤L.length∧k'=st.k∨st.k=L.length∧k'=L.length+1)→BM ext L n st=.ok st2→
  ∃ m st3,BM ext (Cm L B) n (st.go k')=BM ext (Cm L B) m st3∧st3.cs=st2.cs∧st3.ms=st2.ms∧st3.op=st2.op∧Am (Cm L B) st3.k=Am (Cm L B) (L.length+1)∧102≤st2.cs.length+m∧st2.cs.length≤100
 | 0,st,k',st2,h1,h2,_,_=>by omega
 | n+1,st,k',st2,h1,h2,hk,h=>by
  rw [Mx] at h;by_cases hs:Am L st.k < L.length
  ·rw [if_pos hs] at h;have hg:=Zf L st.k;obtain ⟨hk1,rfl⟩:st.k≤L.length∧k'=st.k:=by
    rcases hk with hk | hk
    ·exact hk
    ·omega
   have hM:=(So B hk1).1 hs;rw [Mx,show (st.go st.k).k=st.k from rfl,hM,if_pos (by rw [Afs];omega),show (st.go st.k).go (Am L st.k)=st.go (Am L st.k) from rfl];cases hc:CX ext L (st.go (Am L st.k)) with
   | error q=>rw [hc] at h;cases h
   | ok st4=>
    rw [hc] at h;obtain ⟨k5,c1,c2,c3,c4⟩:=Zg B he (st:=st.go (Am L st.k)) (Afu hs) hc;rw [c1];have c3:st4.cs.length=st.cs.length+1:=c3;have c4:st.cs.length≠100:=c4;exact VM B he n st4 k5 st2 (by omega) (by omega) c2 h
  ·rw [if_neg hs] at h;injection h with h;subst h;refine ⟨n+1,st.go k',rfl,rfl,rfl,rfl,?_,h1,h2⟩;show Am (Cm L B) k'=_;rcases hk with ⟨hk1,rfl⟩ | ⟨_,rfl⟩
   ·exact (So B hk1).2 hs
   ·rfl
theorem Acm (st:SS) (k:Nat):C5 (st.go k)=C5 st:=rfl
theorem Acn {st st':SS} (h1:st'.cs=st.cs) (h2:st'.op=st.op):C5 st'=C5 st:=by
 unfold C5;rw [h1,h2]
theorem Tp (B:List UInt8) {ext:Bool} {L:List UInt8} (hB:Am B 0=B.length) (he:∀ k d q,An ext L k d=.error q→q.1≠0) {st:SS} (h:Ie ext L=.ok st) :
  ∃ st',Ie ext (Cm L B)=.ok st'∧st'.cs=st.cs∧st'.ms=st.ms∧st'.op=st.op:=by
 unfold Ie FN at h;cases hr:BM ext L 102 ⟨0,[],[],[]⟩ with
 | error q=>rw [hr] at h;cases h
 | ok st2=>
  rw [hr] at h;simp only at h;split at h
  ·rename_i h0;injection h with h;subst h;obtain ⟨m,st3,e1,e2,e3,e4,e5,e6,e7⟩:=VM B he 102 ⟨0,[],[],[]⟩ 0 st2 (by simp) (by simp) (.inl ⟨Nat.zero_le _,rfl⟩) hr;have hsk:Am (Cm L B) (L.length+1)=(Cm L B).length:=by
    have h1:=Sj (L++[10]) B 0;rw [hB] at h1;rw [show Cm L B=(L++[10])++B by simp,show L.length+1=(L++[10]).length+0 by simp,h1];exact List.length_append.symm
   obtain ⟨m',rfl⟩:∃ m',m=m'+1:=⟨m - 1,by omega⟩;have e9:BM ext (Cm L B) (m'+1) st3=.ok (st3.go (Cm L B).length):=by rw [Mx,e5,hsk,if_neg (Nat.lt_irrefl _)]
   have e1:BM ext (Cm L B) 102 ⟨0,[],[],[]⟩=.ok (st3.go (Cm L B).length):=e1.trans e9;unfold Ie FN;rw [e1];simp only;rw [Acm,Acn e2 e4,if_pos h0];exact ⟨_,rfl,e2,e3,e4⟩
  ·cases h
theorem NV:Am [59,32,35,32,120,10] 0=6:=by decide
theorem Zh {ext:Bool} {L:List UInt8} {st:SS} (h:Ie ext L=.ok st):BM ext L 102 ⟨0,[],[],[]⟩=.ok st∧(C5 st).1=0:=by
 unfold Ie FN at h;cases hr:BM ext L 102 ⟨0,[],[],[]⟩ with
 | error q=>rw [hr] at h;cases h
 | ok st2=>
  rw [hr] at h;simp only at h;split at h
  ·rename_i h0;injection h with h;subst h;exact ⟨rfl,h0⟩
  ·cases h
end
section
def Stop (ere:Bool) (x:List UInt8):Prop:=x=[]∨∃ c,(c=41∨c=124)∧A5 ere x 0 c=true
def ReRep.up (P:Nat):ReRep→ReRep
 | .none=>.none
 | .bad=>.bad
 | .some a b c j=>.some a b c (P+j)
end
section
theorem NW (ere:Bool) (s:List UInt8) (sub:Option (ReSt→ReRes (ReSt × Nd))) (begin:Nat):∀ (n:Nat) (st:ReSt) (parts:List Nd) (front:Bool) (st':ReSt) (d:Nd),
  branchM ere s sub false begin n st parts front=.ok (st',d)→s.length≤st'.pos∨A5 ere s st'.pos 124=true∨A5 ere s st'.pos 41=true:=by
 intro n;induction n with
 | zero=>intro st parts front st' d h;cases h
 | succ n ih=>
  intro st parts front st' d h;rw [branchM] at h;split at h
  ·rename_i he;injection h with h;injection h with h1 _;subst h1;simp only [Bool.or_eq_true,decide_eq_true_eq,Af9,Bool.not_false,and_true] at he;rcases he with (h | h) | h
   ·exact .inl h
   ·exact .inr (.inl h)
   ·exact .inr (.inr h)
  ·split at h
   ·exact ih _ _ _ _ _ h
   ·split at h
    ·exact ih _ _ _ _ _ h
    ·split at h
     ·cases h
     ·split at h
      ·cases h
      ·split at h
       ·cases h
       ·exact ih _ _ _ _ _ h
section
variable {ere:Bool} {p s x:List UInt8} (hx:Stop ere x) (g:Nat) (M:List (Nat × Nat))
include hx
end
end
section
theorem Ig {ere:Bool} {s:List UInt8} {st:ReSt} {d:Nd} (h:AU ere s=.ok (st,d)) :
  s.length≤250∧At ere s (some (Cs ere s 11)) false (s.length+1) Ep []=.ok (st,d)∧A5 ere s st.pos 41=false:=by
 have hl:s.length≤250:=by
  unfold AU at h;split at h
  ·cases h
  ·omega
 rw [GB _ _ hl] at h;cases hc:At ere s (some (Cs ere s 11)) false (s.length+1) Ep [] with
 | error e=>rw [hc] at h;cases h
 | ok q=>
  obtain ⟨st2,d2⟩:=q;rw [hc] at h;unfold F1 at h;simp only at h;cases h41:A5 ere s st2.pos 41 with
  | true=>rw [h41] at h;cases h
  | false=>
   rw [h41] at h;injection h with h;injection h with h1 h2;subst h1 h2;exact ⟨hl,rfl,h41⟩
theorem Cx (ere:Bool) (s:List UInt8) (k:Nat):Dj s (some (Cs ere s k))∧Hy (some (Cs ere s k)):=
 ⟨fun f hf=>by injection hf with hf;subst hf;exact Vs ere s k,fun f hf=>by injection hf with hf;subst hf;exact I3 ere s k⟩
end
section
theorem VN (ere:Bool) (s:List UInt8):∀ (n:Nat) (st:ReSt) (d:Nd) (q:Nat × Nat),st.pos≤s.length→s.length < n+st.pos→D2 ere s n st d=.error q→q.1≠0:=by
 intro n;induction n with
 | zero=>intro st d q h1 h2;omega
 | succ n ih=>
  intro st d q h1 h2 h;rw [D2] at h;cases hr:repAt ere s st.pos with
  | none=>rw [hr] at h;cases h
  | bad=>rw [hr] at h;injection h with h;subst h;simp
  | some mn mx c j=>
   rw [hr] at h;obtain ⟨m1,m2⟩:=Fm _ _ _ _ _ _ _ hr;exact ih ((if c=0 then st else st.mark c).to j) _ q m2 (by show _ < n+j;omega) h
def PP (s:List UInt8) (sub:Option (ReSt→ReRes (ReSt × Nd))):Prop:=∀ f,sub=some f→∀ st q,st.pos≤s.length→f st=.error q→q.1≠0
theorem VO (ere:Bool) (st:ReSt) (c:Nat) (q:Nat × Nat) (h:Dt ere st c=.error q):q.1≠0:=by
 unfold Dt at h;split at h
 ·split at h
  ·cases h
  ·injection h with h;subst h;simp
 ·split at h
  ·injection h with h;subst h;simp
  ·cases h
theorem VP (ere:Bool) (s:List UInt8) (sub:Option (ReSt→ReRes (ReSt × Nd))) (hs:PP s sub) (st:ReSt) (q:Nat × Nat) (h:Ba ere s sub st=.error q):q.1≠0:=by
 unfold Ba at h;split at h
 ·rename_i h40;unfold F6 at h;split at h
  ·injection h with h;subst h;simp
  ·rename_i f;split at h
   ·rename_i e he;injection h with h;subst h;exact hs f rfl _ _ (Di h40) he
   ·split at h
    ·cases h
    ·injection h with h;subst h;simp
 ·split at h
  ·injection h with h;subst h;simp
  ·split at h
   ·split at h
    ·cases h
    ·rename_i hz;injection h with h;subst h;exact hz
   ·split at h
    ·cases h
    ·split at h
     ·split at h
      ·exact VO _ _ _ _ h
      ·injection h with h;subst h;simp
     ·cases h
theorem PQ (ere:Bool) (s:List UInt8) (sub:Option (ReSt→ReRes (ReSt × Nd))) (hs:PP s sub) (hmv:Dj s sub) (top:Bool) (begin:Nat):∀ (n:Nat) (st:ReSt) (parts:List Nd) (front:Bool) (q:Nat × Nat),st.pos≤s.length→s.length < n+st.pos→
  branchM ere s sub top begin n st parts front=.error q→q.1≠0:=by
 intro n;induction n with
 | zero=>intro st parts front q h1 h2;omega
 | succ n ih=>
  intro st parts front q h1 h2 h;rw [branchM] at h;split at h
  ·cases h
  ·rename_i he;have hlt:st.pos < s.length:=by
    simp only [Bool.or_eq_true,decide_eq_true_eq,not_or] at he;omega
   split at h
   ·exact ih (st.to (st.pos+1)) _ _ q (show st.pos+1≤_ by omega) (show _ < n+(st.pos+1) by omega) h
   ·split at h
    ·exact ih (st.to (st.pos+1)) _ _ q (show st.pos+1≤_ by omega) (show _ < n+(st.pos+1) by omega) h
    ·split at h
     ·injection h with h;subst h;simp
     ·split at h
      ·rename_i e ha;injection h with h;subst h;exact VP ere s sub hs st _ ha
      ·rename_i st1 d1 ha;have m1:=DA ere s sub hmv st st1 d1 hlt ha;split at h
       ·rename_i e hr;injection h with h;subst h;exact VN ere s _ _ _ _ m1.2 (by omega) hr
       ·rename_i st2 d2 hr;have m2:=Fo ere s _ _ _ _ _ m1.2 hr;exact ih st2 _ _ q m2.2 (by omega) h
theorem GF (ere:Bool) (s:List UInt8) (sub:Option (ReSt→ReRes (ReSt × Nd))) (hs:PP s sub) (hmv:Dj s sub) (top:Bool):∀ (n:Nat) (st:ReSt) (l:List Nd) (q:Nat × Nat),st.pos≤s.length→s.length < n+st.pos→
  At ere s sub top n st l=.error q→q.1≠0:=by
 intro n;induction n with
 | zero=>intro st l q h1 h2;omega
 | succ n ih=>
  intro st l q h1 h2 h;rw [At] at h;split at h
  ·rename_i e hb;injection h with h;subst h;exact PQ ere s sub hs hmv top _ _ _ _ _ _ h1 (by omega) hb
  ·rename_i st1 d1 hb;have m1:=Gh ere s sub hmv top _ _ _ _ _ _ _ h1 hb;split at h
   ·rename_i h124;have hp:=Fl ere;exact ih ((if ere then st1 else st1.mark 124).to (st1.pos+AZ ere)) _ q (Di h124) (by show _ < n+(st1.pos+AZ ere);omega) h
   ·cases h
theorem Zi (ere:Bool) (s:List UInt8):∀ (k:Nat) (st:ReSt) (q:Nat × Nat),st.pos≤s.length→Cs ere s k st=.error q→q.1≠0:=by
 intro k;induction k with
 | zero=>intro st q hp h;exact GF ere s none (fun f hf=>by cases hf) (fun f hf=>by cases hf) false _ _ _ _ hp (by omega) h
 | succ k ih=>intro st q hp h;exact GF ere s (some (Cs ere s k)) (fun f hf=>by injection hf with hf;subst hf;exact ih) (Cx ere s k).1 false _ _ _ _ hp (by omega) h
theorem I4 {ere:Bool} {s:List UInt8} {q:Nat × Nat} (h:AU ere s=.error q):q.1≠0:=by
 unfold AU at h;split at h
 ·injection h with h;subst h;simp
 ·exact GF ere s (some (Cs ere s 11)) (fun f hf=>by injection hf with hf;subst hf;exact Zi ere s 11) (Cx ere s 11).1 true _ _ _ _ (Nat.zero_le _) (by omega) h
theorem JP (f:Nd→List Nd) (hf:∀ d,A0 (f d)≤Ax d) (l:List Nd):A0 (l.flatMap f)≤A0 l:=by
 induction l with
 | nil=>exact Afq _
 | cons d ds ih=>rw [List.flatMap_cons,D8,A0];have:=hf d;omega
theorem NX (l:List Nd):Ax (B0 l)≤1+A0 l:=by
 have h:=JP Br Me l;unfold B0;unfold AN;cases hl:l.flatMap Br with
 | nil=>simp [Ax]
 | cons d ds=>
  rw [hl] at h;cases ds with
  | nil=>simp only [A0] at h;simp only;omega
  | cons e es=>simp only [Ax];omega
theorem NY (l:List Nd):Ax (Co l)≤1+A0 l:=by
 have h:=JP AT Mf l;unfold Co;unfold AO;cases hl:l.flatMap AT with
 | nil=>simp [Ax]
 | cons d ds=>
  rw [hl] at h;cases ds with
  | nil=>simp only [A0] at h;simp only;omega
  | cons e es=>simp only [Ax];omega
theorem Tq (ere:Bool) (s:List UInt8):∀ (n:Nat) (st:ReSt) (d:Nd) (st':ReSt) (d':Nd),D2 ere s n st d=.ok (st',d')→Ax d'+3 * st.pos≤Ax d+3 * st'.pos:=by
 intro n;induction n with
 | zero=>intro st d st' d' h;cases h
 | succ n ih=>
  intro st d st' d' h;rw [D2] at h;cases hr:repAt ere s st.pos with
  | none=>rw [hr] at h;injection h with h;injection h with h1 h2;subst h1 h2;exact Afq _
  | bad=>rw [hr] at h;cases h
  | some mn mx c j=>
   rw [hr] at h;have m:=(Fm _ _ _ _ _ _ _ hr).1;have:=ih _ _ _ _ h;rw [show ((if c=0 then st else st.mark c).to j).pos=j from rfl,Ax] at this;omega
def My (s:List UInt8) (sub:Option (ReSt→ReRes (ReSt × Nd))):Prop:=∀ f,sub=some f→∀ st st' d,st.pos≤s.length→f st=.ok (st',d)→Ax d+3 * st.pos≤2+3 * st'.pos
theorem Ts (ere:Bool) (s:List UInt8) (sub:Option (ReSt→ReRes (ReSt × Nd))) (hs:My s sub) (hmv:Dj s sub) (st st':ReSt) (d:Nd) (hl:st.pos < s.length) (h:Ba ere s sub st=.ok (st',d)):Ax d+3 * st.pos≤3 * st'.pos:=by
 have hp:=Fl ere;have hm:=(DA ere s sub hmv st st' d hl h).1;unfold Ba at h;split at h
 ·rename_i h40;unfold F6 at h;split at h
  ·cases h
  ·rename_i f;split at h
   ·cases h
   ·rename_i st1 d1 he;split at h
    ·injection h with h;injection h with h1 h2;subst h1 h2;have:=hs f rfl _ _ _ (Di h40) he;simp only at this;simp only [Ax];omega
    ·cases h
 ·split at h
  ·cases h
  ·split at h
   ·split at h
    ·injection h with h;injection h with h1 h2;subst h2;simp only [Ax];omega
    ·cases h
   ·split at h
    ·injection h with h;injection h with h1 h2;subst h2;simp only [Ax];omega
    ·split at h
     ·split at h
      ·unfold Dt at h;split at h
       ·split at h
        ·injection h with h;injection h with h1 h2;subst h2;simp only [Ax];omega
        ·cases h
       ·split at h
        ·cases h
        ·injection h with h;injection h with h1 h2;subst h2;simp only [Ax];omega
      ·cases h
     ·injection h with h;injection h with h1 h2;subst h2;simp only [Ax];omega
theorem NZ (ere:Bool) (s:List UInt8) (sub:Option (ReSt→ReRes (ReSt × Nd))) (hs:My s sub) (hmv:Dj s sub) (top:Bool) (begin:Nat):∀ (n:Nat) (st:ReSt) (parts:List Nd) (front:Bool) (st':ReSt) (d:Nd),st.pos≤s.length→
  branchM ere s sub top begin n st parts front=.ok (st',d)→Ax d+3 * st.pos≤1+A0 parts+3 * st'.pos:=by
 intro n;induction n with
 | zero=>intro st parts front st' d _ h;cases h
 | succ n ih=>
  intro st parts front st' d h1 h;have hsn:∀ x,A0 (parts++[x])=A0 parts+Ax x:=fun x=>by rw [D8];simp [A0]
  rw [branchM] at h;split at h
  ·injection h with h;injection h with h2 h3;subst h2 h3;have:=NX parts;omega
  ·rename_i he;have hlt:st.pos < s.length:=by
    simp only [Bool.or_eq_true,decide_eq_true_eq,not_or] at he;omega
   split at h
   ·have:=ih (st.to (st.pos+1)) _ _ _ _ (show st.pos+1≤_ by omega) h;rw [hsn,show (st.to (st.pos+1)).pos=st.pos+1 from rfl] at this;simp only [Ax] at this;omega
   ·split at h
    ·have:=ih (st.to (st.pos+1)) _ _ _ _ (show st.pos+1≤_ by omega) h;rw [hsn,show (st.to (st.pos+1)).pos=st.pos+1 from rfl] at this;simp only [Ax] at this;omega
    ·split at h
     ·cases h
     ·split at h
      ·cases h
      ·rename_i st1 d1 ha;have m1:=DA ere s sub hmv st st1 d1 hlt ha;have z1:=Ts ere s sub hs hmv st st1 d1 hlt ha;split at h
       ·cases h
       ·rename_i st2 d2 hr;have m2:=Fo ere s _ _ _ _ _ m1.2 hr;have z2:=Tq ere s _ _ _ _ _ hr;have:=ih st2 _ _ _ _ m2.2 h;rw [hsn] at this;omega
theorem FP (ere:Bool) (s:List UInt8) (sub:Option (ReSt→ReRes (ReSt × Nd))) (hs:My s sub) (hmv:Dj s sub) (top:Bool):∀ (n:Nat) (st:ReSt) (l:List Nd) (st':ReSt) (d:Nd),st.pos≤s.length→
  At ere s sub top n st l=.ok (st',d)→Ax d+3 * st.pos≤2+A0 l+3 * st'.pos:=by
 intro n;induction n with
 | zero=>intro st l st' d _ h;cases h
 | succ n ih=>
  intro st l st' d h1 h;have hsn:∀ x,A0 (l++[x])=A0 l+Ax x:=fun x=>by rw [D8];simp [A0]
  rw [At] at h;split at h
  ·cases h
  ·rename_i st1 d1 hb;have z1:=NZ ere s sub hs hmv top _ _ _ _ _ _ _ h1 hb;simp only [A0] at z1;split at h
   ·rename_i h124;have hp:=Fl ere;have:=ih ((if ere then st1 else st1.mark 124).to (st1.pos+AZ ere)) _ _ _ (Di h124) h;rw [hsn,show ((if ere then st1 else st1.mark 124).to (st1.pos+AZ ere)).pos=st1.pos+AZ ere from rfl] at this;omega
   ·injection h with h;injection h with h2 h3;subst h2 h3;have:=NY (l++[d1]);rw [hsn] at this;omega
theorem VQ (ere:Bool) (s:List UInt8):∀ (k:Nat) (st st':ReSt) (d:Nd),st.pos≤s.length→Cs ere s k st=.ok (st',d)→Ax d+3 * st.pos≤2+3 * st'.pos:=by
 intro k;induction k with
 | zero=>intro st st' d hp h;have:=FP ere s none (fun f hf=>by cases hf) (fun f hf=>by cases hf) false _ _ _ _ _ hp h;simp only [A0] at this;omega
 | succ k ih=>intro st st' d hp h;have:=FP ere s (some (Cs ere s k)) (fun f hf=>by injection hf with hf;subst hf;exact ih) (Cx ere s k).1 false _ _ _ _ _ hp h;simp only [A0] at this;omega
theorem PR {ere:Bool} {s:List UInt8} {st:ReSt} {d:Nd} (h:AU ere s=.ok (st,d)):Ax d≤752:=by
 obtain ⟨hl,hc,_⟩:=Ig h;have h1:=FP ere s (some (Cs ere s 11)) (fun f hf=>by injection hf with hf;subst hf;exact VQ ere s 11) (Cx ere s 11).1 false _ _ _ _ _ (Nat.zero_le _) hc;have h2:=(Gi ere s (some (Cs ere s 11)) (Cx ere s 11).1 false _ _ _ _ _ (Nat.zero_le _) hc).2;simp only [A0] at h1;omega
def Po (st st':ReSt):Prop:=st'.marks.length+st.pos≤st.marks.length+st'.pos
theorem Ih (st:ReSt) (c:Nat):(st.mark c).marks.length=st.marks.length+1:=by unfold ReSt.mark;simp
theorem VR (ere:Bool) (s:List UInt8):∀ (n:Nat) (st:ReSt) (d:Nd) (st':ReSt) (d':Nd),D2 ere s n st d=.ok (st',d')→Po st st':=by
 intro n;induction n with
 | zero=>intro st d st' d' h;cases h
 | succ n ih=>
  intro st d st' d' h;rw [D2] at h;cases hr:repAt ere s st.pos with
  | none=>rw [hr] at h;injection h with h;injection h with h1 h2;subst h1 h2;exact Afq _
  | bad=>rw [hr] at h;cases h
  | some mn mx c j=>
   rw [hr] at h;have m:=(Fm _ _ _ _ _ _ _ hr).1;have:=ih _ _ _ _ h;unfold Po at this ⊢;rw [show ((if c=0 then st else st.mark c).to j).pos=j from rfl,show ((if c=0 then st else st.mark c).to j).marks=(if c=0 then st else st.mark c).marks from rfl] at this;by_cases hc:c=0
   ·rw [if_pos hc] at this;omega
   ·rw [if_neg hc,Ih] at this;omega
def PS (s:List UInt8) (sub:Option (ReSt→ReRes (ReSt × Nd))):Prop:=∀ f,sub=some f→∀ st st' d,st.pos≤s.length→f st=.ok (st',d)→Po st st'
theorem Oa (ere:Bool) (s:List UInt8) (sub:Option (ReSt→ReRes (ReSt × Nd))) (hs:PS s sub) (hmv:Dj s sub) (st st':ReSt) (d:Nd) (hl:st.pos < s.length) (h:Ba ere s sub st=.ok (st',d)):Po st st':=by
 have hp:=Fl ere;have hm:=(DA ere s sub hmv st st' d hl h).1;unfold Po;unfold Ba at h;split at h
 ·rename_i h40;unfold F6 at h;split at h
  ·cases h
  ·rename_i f;split at h
   ·cases h
   ·rename_i st1 d1 he;split at h
    ·injection h with h;injection h with h1 h2;subst h1 h2;have:=hs f rfl _ _ _ (Di h40) he;unfold Po at this;simp only at this ⊢;omega
    ·cases h
 ·split at h
  ·cases h
  ·split at h
   ·split at h
    ·injection h with h;injection h with h1 h2;subst h1;exact Nat.add_le_add_left (Afu hm) _
    ·cases h
   ·split at h
    ·injection h with h;injection h with h1 h2;subst h1;exact Nat.add_le_add_left (Afu hm) _
    ·split at h
     ·split at h
      ·have hpos:=Sa ere st st' _ d h;unfold Dt at h;split at h
       ·split at h
        ·injection h with h;injection h with h1 h2;subst h1;cases ere with
         | true=>show (st.mark _).marks.length+_≤_;rw [Ih,hpos];omega
         | false=>show st.marks.length+_≤_;rw [hpos];omega
        ·cases h
       ·split at h
        ·cases h
        ·rename_i x m _;injection h with h;injection h with h1 h2;subst h1;cases m with
         | true=>show (st.mark _).marks.length+_≤_;rw [Ih,hpos];omega
         | false=>show st.marks.length+_≤_;rw [hpos];omega
      ·cases h
     ·injection h with h;injection h with h1 h2;subst h1;exact Nat.add_le_add_left (Afu hm) _
theorem PT (ere:Bool) (s:List UInt8) (sub:Option (ReSt→ReRes (ReSt × Nd))) (hs:PS s sub) (hmv:Dj s sub) (top:Bool) (begin:Nat):∀ (n:Nat) (st:ReSt) (parts:List Nd) (front:Bool) (st':ReSt) (d:Nd),st.pos≤s.length→
  branchM ere s sub top begin n st parts front=.ok (st',d)→Po st st':=by
 intro n;induction n with
 | zero=>intro st parts front st' d _ h;cases h
 | succ n ih=>
  intro st parts front st' d h1 h;rw [branchM] at h;split at h
  ·injection h with h;injection h with h2 h3;subst h2 h3;exact Afq _
  ·rename_i he;have hlt:st.pos < s.length:=by
    simp only [Bool.or_eq_true,decide_eq_true_eq,not_or] at he;omega
   have hto:Po (st.to (st.pos+1)) st'→Po st st':=fun h=>by
    unfold Po at h ⊢;rw [show (st.to (st.pos+1)).pos=st.pos+1 from rfl,show (st.to (st.pos+1)).marks=st.marks from rfl] at h;omega
   split at h
   ·exact hto (ih (st.to (st.pos+1)) _ _ _ _ (show st.pos+1≤_ by omega) h)
   ·split at h
    ·exact hto (ih (st.to (st.pos+1)) _ _ _ _ (show st.pos+1≤_ by omega) h)
    ·split at h
     ·cases h
     ·split at h
      ·cases h
      ·rename_i st1 d1 ha;have m1:=DA ere s sub hmv st st1 d1 hlt ha;have z1:=Oa ere s sub hs hmv st st1 d1 hlt ha;split at h
       ·cases h
       ·rename_i st2 d2 hr;have m2:=Fo ere s _ _ _ _ _ m1.2 hr;have z2:=VR ere s _ _ _ _ _ hr;have:=ih st2 _ _ _ _ m2.2 h;unfold Po at *;omega
theorem GG (ere:Bool) (s:List UInt8) (sub:Option (ReSt→ReRes (ReSt × Nd))) (hs:PS s sub) (hmv:Dj s sub) (top:Bool):∀ (n:Nat) (st:ReSt) (l:List Nd) (st':ReSt) (d:Nd),st.pos≤s.length→
  At ere s sub top n st l=.ok (st',d)→Po st st':=by
 intro n;induction n with
 | zero=>intro st l st' d _ h;cases h
 | succ n ih=>
  intro st l st' d h1 h;rw [At] at h;split at h
  ·cases h
  ·rename_i st1 d1 hb;have z1:=PT ere s sub hs hmv top _ _ _ _ _ _ _ h1 hb;split at h
   ·rename_i h124;have hp:=Fl ere;have:=ih ((if ere then st1 else st1.mark 124).to (st1.pos+AZ ere)) _ _ _ (Di h124) h;unfold Po at *;rw [show ((if ere then st1 else st1.mark 124).to (st1.pos+AZ ere)).pos=st1.pos+AZ ere from rfl,show ((if ere then st1 else st1.mark 124).to (st1.pos+AZ ere)).marks=(if ere then st1 else st1.mark 124).marks from rfl] at this;cases ere with
    | true=>simp only [if_true] at this;omega
    | false=>simp only [Af2,if_false,Ih] at this;omega
   ·injection h with h;injection h with h2 h3;subst h2 h3;exact z1
theorem Zj (ere:Bool) (s:List UInt8):∀ (k:Nat) (st st':ReSt) (d:Nd),st.pos≤s.length→Cs ere s k st=.ok (st',d)→Po st st':=by
 intro k;induction k with
 | zero=>intro st st' d hp h;exact GG ere s none (fun f hf=>by cases hf) (fun f hf=>by cases hf) false _ _ _ _ _ hp h
 | succ k ih=>intro st st' d hp h;exact GG ere s (some (Cs ere s k)) (fun f hf=>by injection hf with hf;subst hf;exact ih) (Cx ere s k).1 false _ _ _ _ _ hp h
theorem Ly {ere:Bool} {s:List UInt8} {st:ReSt} {d:Nd} (h:AU ere s=.ok (st,d)):st.marks.length≤s.length:=by
 obtain ⟨hl,hc,_⟩:=Ig h;have h1:=GG ere s (some (Cs ere s 11)) (fun f hf=>by injection hf with hf;subst hf;exact Zj ere s 11) (Cx ere s 11).1 false _ _ _ _ _ (Nat.zero_le _) hc;have h2:=(Gi ere s (some (Cs ere s 11)) (Cx ere s 11).1 false _ _ _ _ _ (Nat.zero_le _) hc).2;unfold Po at h1;rw [show Ep.pos=0 from rfl,show Ep.marks.length=0 from rfl] at h1;omega
end
section
set_option linter.unusedVariables false
def Sp (s:List UInt8) (st st':ReSt):Prop:=(∀ m∈st.marks,m.1≤s.length)→∀ m∈st'.marks,m.1≤s.length
theorem CC {s:List UInt8} {st st':ReSt} (h:st'.marks=st.marks):Sp s st st':=fun h0=>by rw [h];exact h0
theorem D5 {s:List UInt8} {a b c:ReSt} (h1:Sp s a b) (h2:Sp s b c):Sp s a c:=fun h=>h2 (h1 h)
theorem JQ {s:List UInt8} {st st':ReSt} {c:Nat} (hp:st.pos≤s.length) (h:st'.marks=(st.mark c).marks):Sp s st st':=fun h0 m hm=>by
 rw [h] at hm;unfold ReSt.mark at hm;simp only [Af1,List.mem_singleton] at hm;rcases hm with hm | rfl
 ·exact h0 m hm
 ·exact hp
theorem VS {s:List UInt8} {st st':ReSt} {c:Nat} {b:Prop} [Decidable b] (hp:st.pos≤s.length) (h:st'.marks=(if b then st else st.mark c).marks):Sp s st st':=by
 by_cases hb:b
 ·rw [if_pos hb] at h;exact CC h
 ·rw [if_neg hb] at h;exact JQ hp h
theorem VT (ere:Bool) (s:List UInt8):∀ (n:Nat) (st:ReSt) (d:Nd) (st':ReSt) (d':Nd),st.pos≤s.length→D2 ere s n st d=.ok (st',d')→Sp s st st':=by
 intro n;induction n with
 | zero=>intro st d st' d' _ h;cases h
 | succ n ih=>
  intro st d st' d' hp h;rw [D2] at h;cases hr:repAt ere s st.pos with
  | none=>rw [hr] at h;injection h with h;injection h with h1 h2;subst h1 h2;exact CC rfl
  | bad=>rw [hr] at h;cases h
  | some mn mx c j=>
   rw [hr] at h;have m:=Fm _ _ _ _ _ _ _ hr;have h2:D2 ere s n ((if c=0 then st else st.mark c).to j) (d.rep mn mx)=.ok (st',d'):=h;have hj:j≤s.length:=by omega
   exact D5 (VS (st':=(if c=0 then st else st.mark c).to j) (b:=c=0) (c:=c) hp rfl) (ih _ _ _ _ hj h2)
def PU (s:List UInt8) (sub:Option (ReSt→ReRes (ReSt × Nd))):Prop:=∀ f,sub=some f→∀ st st' d,st.pos≤s.length→f st=.ok (st',d)→Sp s st st'
theorem VU (ere:Bool) (s:List UInt8) (sub:Option (ReSt→ReRes (ReSt × Nd))) (hs:PU s sub) (st st':ReSt) (d:Nd) (hl:st.pos < s.length) (h:Ba ere s sub st=.ok (st',d)):Sp s st st':=by
 have hp:=Fl ere;unfold Ba at h;split at h
 ·rename_i h40;unfold F6 at h;split at h
  ·cases h
  ·rename_i f;split at h
   ·cases h
   ·rename_i st1 d1 he;split at h
    ·injection h with h;injection h with h1 h2;subst h1 h2;have z:=hs f rfl _ _ _ (Di h40) he;exact D5 (D5 (CC rfl) z) (CC rfl)
    ·cases h
 ·split at h
  ·cases h
  ·split at h
   ·split at h
    ·injection h with h;injection h with h1 h2;subst h1;exact CC rfl
    ·cases h
   ·split at h
    ·injection h with h;injection h with h1 h2;subst h1;exact CC rfl
    ·split at h
     ·split at h
      ·unfold Dt at h;split at h
       ·split at h
        ·injection h with h;injection h with h1 h2;subst h1;cases ere with
         | true=>exact JQ (Afu hl) rfl
         | false=>exact CC rfl
        ·cases h
       ·split at h
        ·cases h
        ·rename_i x m _;injection h with h;injection h with h1 h2;subst h1;cases m with
         | true=>exact JQ (Afu hl) rfl
         | false=>exact CC rfl
      ·cases h
     ·injection h with h;injection h with h1 h2;subst h1;exact CC rfl
theorem PV (ere:Bool) (s:List UInt8) (sub:Option (ReSt→ReRes (ReSt × Nd))) (hs:PU s sub) (hmv:Dj s sub) (top:Bool) (begin:Nat):∀ (n:Nat) (st:ReSt) (parts:List Nd) (front:Bool) (st':ReSt) (d:Nd),st.pos≤s.length→
  branchM ere s sub top begin n st parts front=.ok (st',d)→Sp s st st':=by
 intro n;induction n with
 | zero=>intro st parts front st' d _ h;cases h
 | succ n ih=>
  intro st parts front st' d h1 h;rw [branchM] at h;split at h
  ·injection h with h;injection h with h2 h3;subst h2 h3;exact CC rfl
  ·rename_i he;have hlt:st.pos < s.length:=by
    simp only [Bool.or_eq_true,decide_eq_true_eq,not_or] at he;omega
   have hto:Sp s (st.to (st.pos+1)) st'→Sp s st st':=fun h=>h
   split at h
   ·exact hto (ih (st.to (st.pos+1)) _ _ _ _ (show st.pos+1≤_ by omega) h)
   ·split at h
    ·exact hto (ih (st.to (st.pos+1)) _ _ _ _ (show st.pos+1≤_ by omega) h)
    ·split at h
     ·cases h
     ·split at h
      ·cases h
      ·rename_i st1 d1 ha;have m1:=DA ere s sub hmv st st1 d1 hlt ha;have z1:=VU ere s sub hs st st1 d1 hlt ha;split at h
       ·cases h
       ·rename_i st2 d2 hr;have m2:=Fo ere s _ _ _ _ _ m1.2 hr;have z2:=VT ere s _ _ _ _ _ m1.2 hr;exact D5 z1 (D5 z2 (ih st2 _ _ _ _ m2.2 h))
theorem GH (ere:Bool) (s:List UInt8) (sub:Option (ReSt→ReRes (ReSt × Nd))) (hs:PU s sub) (hmv:Dj s sub) (top:Bool):∀ (n:Nat) (st:ReSt) (l:List Nd) (st':ReSt) (d:Nd),st.pos≤s.length→
  At ere s sub top n st l=.ok (st',d)→Sp s st st':=by
 intro n;induction n with
 | zero=>intro st l st' d _ h;cases h
 | succ n ih=>
  intro st l st' d h1 h;rw [At] at h;split at h
  ·cases h
  ·rename_i st1 d1 hb;have z1:=PV ere s sub hs hmv top _ _ _ _ _ _ _ h1 hb;split at h
   ·rename_i h124;have hp:=Fl ere;have hl:=Di h124;have:=ih ((if ere then st1 else st1.mark 124).to (st1.pos+AZ ere)) _ _ _ (Di h124) h;exact D5 z1 (D5 (VS (b:=ere=true) (c:=124) (by omega) rfl) this)
   ·injection h with h;injection h with h2 h3;subst h2 h3;exact z1
theorem Zk (ere:Bool) (s:List UInt8):∀ (k:Nat) (st st':ReSt) (d:Nd),st.pos≤s.length→Cs ere s k st=.ok (st',d)→Sp s st st':=by
 intro k;induction k with
 | zero=>intro st st' d hp h;exact GH ere s none (fun f hf=>by cases hf) (fun f hf=>by cases hf) false _ _ _ _ _ hp h
 | succ k ih=>intro st st' d hp h;exact GH ere s (some (Cs ere s k)) (fun f hf=>by injection hf with hf;subst hf;exact ih) (Cx ere s k).1 false _ _ _ _ _ hp h
theorem Tt {ere:Bool} {s:List UInt8} {st:ReSt} {d:Nd} (h:AU ere s=.ok (st,d)):∀ m∈st.marks,m.1≤s.length:=by
 obtain ⟨hl,hc,_⟩:=Ig h;exact GH ere s (some (Cs ere s 11)) (fun f hf=>by injection hf with hf;subst hf;exact Zk ere s 11) (Cx ere s 11).1 false _ _ _ _ _ (Nat.zero_le _) hc (fun m hm=>by cases hm)
def shM (a:Nat) (ms:List Wm):List Wm:=ms.map fun m=>(m.1+(a:Int),m.2)
theorem Jl (a:Nat) (x y:List Wm):shM a (x++y)=shM a x++shM a y:=List.map_append
theorem Sq {a b:Nat} (hz:a+b≤4000000):∀ {l:List (Nat × Nat)},(∀ m∈l,m.1≤250)→BH ((a+b:Nat):Int) (l.map NA)=shM a (BH (b:Int) (l.map NA))
 | [],_=>rfl
 | m :: l,h=>by
  have h1:=h m (by simp);have ih:=Sq hz (l:=l) (fun x hx=>h x (by simp [hx]));show (Go.IntKind.i64.wrap ((m.1:Int)+((a+b:Nat):Int)),_) :: _=(Go.IntKind.i64.wrap ((m.1:Int)+(b:Int))+(a:Int),_) :: _;rw [Go.IntWalk.i64_in _ (by omega),Go.IntWalk.i64_in _ (by omega)];refine congr (congrArg _ (Prod.ext ?_ rfl)) ih;show (m.1:Int)+((a+b:Nat):Int)=(m.1:Int)+(b:Int)+(a:Int);omega
theorem Lz {ext:Bool} (A:List UInt8) {L:List UInt8} {k:Nat} {d:UInt8} {q:(List UInt8 × Nd) × List Wm × Nat} (hz:A.length+L.length≤4000000) (hk:k≤L.length) (h:An ext L k d=.ok q) :
  An ext (A++L) (A.length+k) d=.ok (q.1,shM A.length q.2.1,A.length+q.2.2):=by
 unfold An at h ⊢;rw [CM A L d true k hk];generalize Aj L (k:Int) d true=r at h ⊢;obtain ⟨t,p,e⟩:=r;rw [show KN A.length (t,p,e)=(t,A.length+p,e) from rfl];simp only at h ⊢;by_cases he:e=0
 ·rw [if_pos he] at h ⊢;by_cases ht:t=[]
  ·rw [if_pos ht] at h;cases h
  ·rw [if_neg ht] at h ⊢;cases hp:AU ext t with
   | error x=>rw [hp] at h;cases h
   | ok x=>
    rw [hp] at h;simp only at h ⊢;injection h with h;subst h;have h1:=Tt hp;have h2:=(Ig hp).1;simp only;rw [Sq (by omega) (fun m hm=>Afr (h1 m hm) h2)]
 ·rw [if_neg he] at h;cases h
theorem Ob {ext:Bool} (A:List UInt8) {L:List UInt8} {k:Nat} {d:UInt8} {q:Adr × List Wm × Nat} (hz:A.length+L.length≤4000000) (hk:k≤L.length) (h:Du ext L k d=.ok q) :
  Du ext (A++L) (A.length+k) d=.ok (q.1,shM A.length q.2.1,A.length+q.2.2):=by
 unfold Du at h ⊢;cases h1:An ext L k d with
 | error r=>rw [h1] at h;cases h
 | ok r=>rw [Lz A hz hk h1];rw [h1] at h;injection h with h;subst h;rfl
theorem Sr {ext second:Bool} (A:List UInt8) {L:List UInt8} {k:Nat} {q:Adr × List Wm × Nat} (hz:A.length+L.length≤4000000) (h:DQ ext second L k=.ok q) :
  DQ ext second (A++L) (A.length+k)=.ok (q.1,shM A.length q.2.1,A.length+q.2.2):=by
 unfold DQ at h ⊢;rw [AL];cases hd:L.drop k with
 | nil=>rw [hd] at h;injection h with h;subst h;rfl
 | cons c t=>
  rw [hd] at h;have hlt:=AD hd;simp only at h ⊢;by_cases h1:48≤c.toNat∧c.toNat≤57
  ·rw [if_pos h1] at h ⊢;unfold CK at h ⊢;rw [JN];simp only at h ⊢;split at h
   ·rename_i e1;rw [if_pos e1];split at h
    ·cases h
    ·rename_i e2;rw [if_neg e2];injection h with h;subst h;rfl
   ·cases h
  rw [if_neg h1] at h ⊢;by_cases h2:c=36
  ·rw [if_pos h2] at h ⊢;injection h with h;subst h;rw [Af5];rfl
  rw [if_neg h2] at h ⊢;by_cases h3:c=47
  ·rw [if_pos h3] at h ⊢;rw [Af5];exact Ob A hz (by omega) h
  rw [if_neg h3] at h ⊢;by_cases h4:c=92
  ·rw [if_pos h4] at h ⊢;unfold Es at h ⊢;rw [Af5 A.length k 1,AL,Af5 A.length k 2];cases hd2:L.drop (k+1) with
   | nil=>rw [hd2] at h;cases h
   | cons x u=>
    rw [hd2] at h;have hlt2:=AD hd2;simp only at h ⊢;by_cases hx:x=92∨x=10
    ·rw [if_pos hx] at h;cases h
    ·rw [if_neg hx] at h ⊢;exact Ob A hz (by omega) h
  rw [if_neg h4] at h ⊢;by_cases h5:c=43∧second=true
  ·rw [if_pos h5] at h ⊢;unfold CL at h ⊢;rw [Af5 A.length k 1,JN];simp only at h ⊢;split at h
   ·rename_i e1;rw [if_pos e1];injection h with h;subst h;have e:(((A.length+k:Nat):Int))=(k:Int)+(A.length:Int):=by omega
    rw [e];rfl
   ·cases h
  ·rw [if_neg h5] at h ⊢;injection h with h;subst h;rfl
theorem Tu {ext:Bool} (A:List UInt8) {L:List UInt8} {k:Nat} {q:Adr × List Wm × Nat} (hz:A.length+L.length≤4000000) (h:BC ext L k=.ok q) :
  BC ext (A++L) (A.length+k)=.ok (q.1,shM A.length q.2.1,A.length+q.2.2):=by
 unfold BC at h ⊢;rw [D4,AL,Af5 A.length (Ak L k) 1,D4];by_cases h1:(L.drop (Ak L k)).head?=some 44
 ·rw [if_pos h1] at h ⊢;unfold DB at h ⊢;cases h2:DQ ext true L (Ak L (Ak L k+1)) with
  | error r=>rw [h2] at h;cases h
  | ok r=>
   rw [h2] at h;rw [Sr A hz h2];simp only at h ⊢;split at h
   ·cases h
   ·rename_i e;rw [if_neg e];injection h with h;subst h;rfl
 ·rw [if_neg h1] at h ⊢;injection h with h;subst h;rfl
theorem Aco {ext:Bool} (A:List UInt8) {L:List UInt8} {k:Nat} {q:Grd × List Wm × Nat} (hz:A.length+L.length≤4000000) (h:GS ext L k=.ok q) :
  GS ext (A++L) (A.length+k)=.ok (q.1,shM A.length q.2.1,A.length+q.2.2):=by
 have h2:∀ q,CT ext L (DQ ext false L k)=.ok q→CT ext (A++L) (DQ ext false (A++L) (A.length+k))=.ok (q.1,shM A.length q.2.1,A.length+q.2.2):=by
  intro q h;unfold CT at h ⊢;cases h1:DQ ext false L k with
  | error r=>rw [h1] at h;cases h
  | ok r=>
   rw [h1] at h;rw [Sr A hz h1];simp only at h ⊢;by_cases h0:r.1.kind=0
   ·rw [if_pos h0] at h ⊢;injection h with h;subst h;rfl
   ·rw [if_neg h0] at h ⊢;unfold EG at h ⊢;cases h2:BC ext L r.2.2 with
    | error x=>rw [h2] at h;cases h
    | ok x=>
     rw [h2] at h;rw [Tu A hz h2];simp only at h ⊢;injection h with h;subst h;rw [←Jl]
 unfold GS FK at h ⊢;cases h1:CT ext L (DQ ext false L k) with
 | error r=>rw [h1] at h;cases h
 | ok r=>
  rw [h1] at h;rw [h2 r h1];simp only at h ⊢;rw [NI];unfold EX at h ⊢;cases h3:C4 L r.2.2 with
  | error x=>rw [h3] at h;cases h
  | ok x=>rw [h3] at h;simp only at h ⊢;injection h with h;subst h;rfl
structure Shm (a:Nat) (st st':CS):Prop where
 s:Sh a st st'
 ms:st'.ms=shM a st.ms
theorem JR {a p p':Nat} {w:List UInt8} {st st':CS} (h:st'.ms=shM a st.ms) (hp:p'=a+p):(st'.mark p' w).ms=shM a (st.mark p w).ms:=by
 show st'.ms++[((p':Int),_)]=shM a (st.ms++[((p:Int),_)]);rw [Jl,h,hp];have e:(((a+p:Nat):Int))=(p:Int)+(a:Int):=by omega
 rw [e];rfl
theorem VV (L:List UInt8) (st:CS):(C9 L st).2.ms=st.ms:=by
 unfold C9;split <;> rfl
theorem Oc (L:List UInt8) (st:CS):(Bn L st).2.ms=st.ms:=by
 unfold Bn;split <;> rfl
theorem Od (L:List UInt8) (st:CS):(Bi L st).2.ms=st.ms:=by
 unfold Bi;split <;> rfl
theorem Mz (L:List UInt8) (d:UInt8) (st:CS):(CA L d st).2.ms=st.ms:=by
 unfold CA DC;split
 ·split <;> rfl
 ·rfl
theorem Ss {L:List UInt8} {b:UInt8} {st:CS} {r:CO} (h:AH L b st=some r):r.2.ms=st.ms:=by
 unfold AH at h;split at h
 ·injection h with h;subst h;unfold CU;split <;> rfl
 ·split at h
  ·injection h with h;subst h;unfold CW;split <;> rfl
  ·split at h
   ·injection h with h;subst h;unfold CB Cr;split
    ·split
     ·split <;> rfl
     ·rfl
    ·rfl
   ·cases h
theorem M0 (A L:List UInt8) {st st':CS} (h:Shm A.length st st'):(BG (A++L) st').2.ms=shM A.length (BG L st).2.ms:=by
 unfold BG;rw [h.s.k,D4,AL];cases L.drop (Ak L st.k) with
 | nil=>exact h.ms
 | cons c t=>
  simp only;split
  ·exact h.ms
  ·split
   ·exact JR h.ms rfl
   ·exact h.ms
theorem VW (A L:List UInt8) {st st':CS} (h:Shm A.length st st') (hp:st'.c.pl=A.length+st.c.pl):(BT (A++L) st').2.ms=shM A.length (BT L st).2.ms:=by
 unfold BT;rw [h.s.k,D4,AL];cases L.drop (Ak L st.k) with
 | nil=>exact h.ms
 | cons c t=>
  simp only;by_cases h1:c=10
  ·rw [if_pos h1,if_pos h1];exact h.ms
  ·rw [if_neg h1,if_neg h1];by_cases h2:c=92∧t.head?=some 10
   ·rw [if_pos h2,if_pos h2];exact h.ms
   ·rw [if_neg h2,if_neg h2];exact JR (st:=st.go (Ak L st.k)) (st':=st'.go (A.length+Ak L st.k)) h.ms hp
theorem Acp (ext:Bool) (A L:List UInt8) (d:UInt8) {st st':CS} (hz:A.length+L.length≤4000000) (h:Shm A.length st st') (hk:st.k≤L.length) (he:∀ k d q,An ext L k d=.error q→q.1≠0) (h0:(Dm ext L d st).1=0) :
  Shm A.length (Dm ext L d st).2 (Dm ext (A++L) d st').2:=by
 refine ⟨(V1 ext A L d h.s hk).2,?_⟩;unfold Dm at h0 ⊢;rw [h.s.k];cases h1:An ext L st.k d with
 | error q=>rw [h1] at h0;exact absurd h0 (he _ _ q h1)
 | ok q=>
  rw [Lz A hz hk h1];show st'.ms++_=shM _ (st.ms++_);rw [Jl,h.ms]
theorem L0 (A L:List UInt8):∀ (n m:Nat) {st st':CS},Shm A.length st st'→st.k≤L.length→L.length - st.k < n→L.length - st.k < m→(A2 (A++L) m st').2.ms=shM A.length (A2 L n st).2.ms
 | 0,m,st,st',h,hk,h1,_=>by omega
 | n+1,0,st,st',h,hk,_,h2=>by omega
 | n+1,m+1,st,st',h,hk,h1,h2=>by
  unfold A2;rw [h.s.k,AL];cases hd:L.drop st.k with
  | nil=>exact h.ms
  | cons b t=>
   have hlt:=AD hd;simp only;rcases Sf A L b h.s with ⟨e1,e2⟩ | ⟨r,r',e1,e2,hr⟩
   ·rw [e1,e2];simp only;split
    ·rw [Od,Od];exact h.ms
    ·exact M0 A L h
   ·rw [e1,e2];simp only;rw [hr.1];have hm:r'.2.ms=shM A.length r.2.ms:=by rw [Ss e1,Ss e2];exact h.ms
    by_cases h0:r.1=0
    ·rw [if_pos h0,if_pos h0];obtain ⟨g1,g2⟩:=Ib hlt e1 h0;exact L0 A L n m ⟨hr.2,hm⟩ g2 (by omega) (by omega)
    ·rw [if_neg h0,if_neg h0];exact hm
theorem Ii {a:Nat} {r r':CO} {f f':CS→CO} (h:Iv a r r') (hf:r.1=0→(f r.2).1=0→(f' r'.2).2.ms=shM a (f r.2).2.ms) (h0:(r.then f).1=0):(r'.then f').2.ms=shM a (r.then f).2.ms:=by
 unfold CO.then at h0 ⊢
 rw [h.1];by_cases h1:r.1=0
 ·rw [if_pos h1] at h0;rw [if_pos h1,if_pos h1];exact hf h1 h0
 ·rw [if_neg h1] at h0;exact absurd h0 h1
theorem Zl (ext:Bool) (A L:List UInt8) {st st':CS} (hz:A.length+L.length≤4000000) (h:Shm A.length st st') (hk:st.k≤L.length) (he:∀ k d q,An ext L k d=.error q→q.1≠0) (h0:(BU ext L st).1=0) :
  (BU ext (A++L) st').2.ms=shM A.length (BU ext L st).2.ms:=by
 unfold BU at h0 ⊢;have hd:=Ms A L h.s;rw [hd.1];refine Ii hd.2 (fun _=>?_) h0;have k1:=Eu hk;have m1:Shm A.length (Au L st).2.2 (Au (A++L) st').2.2:=⟨hd.2.2,by rw [DI,DI];exact h.ms⟩
 refine Ii (V1 ext A L (Au L st).1 hd.2.2 k1) (fun h1=>?_);have m2:=Acp ext A L (Au L st).1 hz m1 k1 he h1;have k2:=Mt k1 h1 (fun q=>he _ _ q);refine Ii (PG A L (Au L st).1 m2.s k2) (fun h3 _=>?_);exact L0 A L _ _ ⟨(PG A L (Au L st).1 m2.s k2).2,by rw [Mz,Mz];exact m2.ms⟩ (Ic k2) (by omega) (by rw [Afs];omega)
theorem Zm (A L:List UInt8) {st st':CS} (h:Shm A.length st st') (hk:st.k≤L.length) (h0:(BL L st).1=0):(BL (A++L) st').2.ms=shM A.length (BL L st).2.ms:=by
 unfold BL at h0 ⊢;have hd:=Ms A L h.s;rw [hd.1];refine Ii hd.2 (fun _ h2=>?_) h0;have k1:=Eu hk;have m1:Shm A.length (Au L st).2.2 (Au (A++L) st').2.2:=⟨hd.2.2,by rw [DI,DI];exact h.ms⟩
 rw [m1.s.k,CM A L _ false _ k1];have k2:=Dn (d:=(Au L st).1) (rx:=false) k1;generalize Aj L ((Au L st).2.2.k:Int) (Au L st).1 false=r at k2 h2 ⊢;obtain ⟨t,p,e⟩:=r;rw [show KN A.length (t,p,e)=(t,A.length+p,e) from rfl];unfold EI at h2 ⊢;simp only at k2 h2 ⊢;by_cases he:e=0
 ·rw [if_pos he] at h2;rw [if_pos he,if_pos he,CM A L _ false _ k2];generalize Aj L (p:Int) (Au L st).1 false=r2 at h2 ⊢;obtain ⟨t2,p2,e2⟩:=r2;rw [show KN A.length (t2,p2,e2)=(t2,A.length+p2,e2) from rfl];simp only at h2 ⊢;generalize JM t t2=q at h2 ⊢;unfold EH at h2 ⊢;simp only at h2 ⊢;by_cases he2:e2=0
  ·rw [if_pos he2] at h2;rw [if_pos he2,if_pos he2];by_cases hq:q.2=0
   ·rw [if_pos hq,if_pos hq];exact M0 A L (st:=(Au L st).2.2.table q.1 p2) (st':=(Au (A++L) st').2.2.table q.1 (A.length+p2)) ⟨m1.s.tableS _ rfl,m1.ms⟩
   ·rw [if_neg hq] at h2;exact absurd h2 hq
  ·rw [if_neg he2] at h2;exact absurd h2 he2
 ·rw [if_neg he] at h2;exact absurd h2 he
theorem L1 (ext:Bool) (A L:List UInt8) {st st':CS} (hz:A.length+L.length≤4000000) (h:Shm A.length st st') (hp:st'.c.pl=A.length+st.c.pl) (hk:st.k≤L.length) (he:∀ k d q,An ext L k d=.error q→q.1≠0) (h0:(AP ext L st).1=0) :
  (AP ext (A++L) st').2.ms=shM A.length (AP ext L st).2.ms:=by
 unfold AP at h0 ⊢;rw [h.s.name];simp only at h0 ⊢;by_cases b1:st.c.name=123∨st.c.name=125
 ·rw [if_pos b1,if_pos b1];exact h.ms
 rw [if_neg b1] at h0;rw [if_neg b1,if_neg b1];by_cases b2:st.c.name=58
 ·rw [if_pos b2,if_pos b2];exact h.ms
 rw [if_neg b2] at h0;rw [if_neg b2,if_neg b2];by_cases b3:st.c.name=98∨st.c.name=116∨st.c.name=84
 ·rw [if_pos b3,if_pos b3,VV,VV];exact h.ms
 rw [if_neg b3] at h0;rw [if_neg b3,if_neg b3];by_cases b4:st.c.name=97∨st.c.name=105∨st.c.name=99
 ·rw [if_pos b4,if_pos b4];exact VW A L h hp
 rw [if_neg b4] at h0;rw [if_neg b4,if_neg b4];by_cases b5:st.c.name=114∨st.c.name=119
 ·rw [if_pos b5,if_pos b5,Oc,Oc];exact h.ms
 rw [if_neg b5] at h0;rw [if_neg b5,if_neg b5];by_cases b6:st.c.name=115
 ·rw [if_pos b6] at h0;rw [if_pos b6,if_pos b6];exact Zl ext A L hz h hk he h0
 rw [if_neg b6] at h0;rw [if_neg b6,if_neg b6];by_cases b7:st.c.name=121
 ·rw [if_pos b7] at h0;rw [if_pos b7,if_pos b7];exact Zm A L h hk h0
 ·rw [if_neg b7,if_neg b7];exact M0 A L h
theorem Tv (ext:Bool) (A L:List UInt8) (g:Grd) (ms:List Wm) (p:Nat) (hz:A.length+L.length≤4000000) (he:∀ k d q,An ext L k d=.error q→q.1≠0) (h0:(AE ext L (AA g ms p)).1=0) :
  (AE ext (A++L) (AA g (shM A.length ms) (A.length+p))).2.ms=shM A.length (AE ext L (AA g ms p)).2.ms:=by
 unfold AE AW at h0 ⊢;rw [show (AA g ms p).k=p from rfl] at h0;rw [show (AA g (shM A.length ms) (A.length+p)).k=A.length+p from rfl,show (AA g ms p).k=p from rfl,AL];cases hd:L.drop p with
 | nil=>rfl
 | cons b t=>
  have hk:=AD hd;rw [hd] at h0;simp only at h0 ⊢;cases hm:Et b with
  | none=>rfl
  | some n=>
   rw [hm] at h0;unfold Bt at h0 ⊢;simp only at h0 ⊢;rw [show (AA g ms p).c.g=g from rfl] at h0;rw [show (AA g (shM A.length ms) (A.length+p)).c.g=g from rfl,show (AA g ms p).c.g=g from rfl];by_cases hx:n < GE g
   ·rw [if_pos hx,if_pos hx];rfl
   ·rw [if_neg hx] at h0;rw [if_neg hx,if_neg hx];cases ht:FM b with
    | true=>
     rw [ht] at h0;exact L1 ext A L (st:=((AA g ms p).mark p [b]).name b) (st':=((AA g (shM A.length ms) (A.length+p)).mark (A.length+p) [b]).name b) hz ⟨⟨by show A.length+p+1=A.length+(p+1);omega,rfl,rfl,rfl,rfl⟩,JR (st:=AA g ms p) (st':=AA g (shM A.length ms) (A.length+p)) rfl rfl⟩ rfl (by show p+1≤L.length;omega) he h0
    | false=>
     rw [ht] at h0;exact L1 ext A L (st:=(AA g ms p).name b) (st':=(AA g (shM A.length ms) (A.length+p)).name b) hz ⟨⟨by show A.length+p+1=A.length+(p+1);omega,rfl,rfl,rfl,rfl⟩,rfl⟩ rfl (by show p+1≤L.length;omega) he h0
theorem Acq {ext:Bool} (A:List UInt8) {L:List UInt8} {k:Nat} {c:Cmd} {ms:List Wm} {p:Nat} (hz:A.length+L.length≤4000000) (he:∀ k d q,An ext L k d=.error q→q.1≠0) (h:Ji ext L k=.ok (c,ms,p)) :
  Ji ext (A++L) (A.length+k)=.ok (shC A.length c,shM A.length ms,A.length+p):=by
 have hc:=Aeh ext A L k he;rw [h] at hc;cases hR:Ji ext (A++L) (A.length+k) with
 | error r=>rw [hR] at hc;exact hc.elim
 | ok r=>
  rw [hR] at hc;obtain ⟨c',ms',p'⟩:=r;have e1:c'=shC A.length c:=hc.1;have e2:p'=A.length+p:=hc.2;subst e1 e2;have e3:ms'=shM A.length ms:=by
   unfold Ji PD at h hR;cases h1:GS ext L k with
   | error q=>rw [h1] at h;cases h
   | ok q=>
    rw [h1] at h;rw [Aco A hz h1] at hR;simp only at h hR;have hw:=Tv ext A L q.1 q.2.1 q.2.2 hz he;have hs:=(NK ext A L q.1 q.2.1 (shM A.length q.2.1) q.2.2 he).1;unfold EZ at h hR;split at h
    ·rename_i h0;rw [if_pos (hs.trans h0)] at hR;injection h with h;injection h with _ h;injection h with h _;injection hR with hR;injection hR with _ hR;injection hR with hR _;rw [←hR,←h];exact hw h0
    ·cases h
  rw [e3]
structure SSm (a:Nat) (st st':SS):Prop where
 s:SSh a st st'
 ms:st'.ms=shM a st.ms
theorem VX {ext:Bool} (A:List UInt8) {L:List UInt8} {st st' st2:SS} (hz:A.length+L.length≤4000000) (he:∀ k d q,An ext L k d=.error q→q.1≠0) (h:SSm A.length st st') (hk:st'.k=A.length+st.k) (hr:CX ext L st=.ok st2) :
  ∃ st3,CX ext (A++L) st'=.ok st3∧SSm A.length st2 st3∧st3.k=A.length+st2.k:=by
 unfold CX at hr ⊢;rw [h.s.cs,List.length_map,hk];split at hr
 ·cases hr
 ·rename_i h1;rw [if_neg h1];unfold EA at hr ⊢;cases hc:Ji ext L st.k with
  | error q=>rw [hc] at hr;cases hr
  | ok q=>
   obtain ⟨c,ms,p⟩:=q;rw [hc] at hr;rw [Acq A hz he hc];simp only at hr ⊢;obtain ⟨f1,f2⟩:=Acg h.s c;unfold Gy at hr ⊢;rw [f1,f2];split at hr
   ·rename_i h0;rw [if_pos h0];injection hr with hr;subst hr;refine ⟨_,rfl,⟨⟨?_,rfl⟩,?_⟩,rfl⟩
    ·show st'.cs++[_]=(st.cs++[c]).map _;rw [h.s.cs];simp
    ·show st'.ms++_=shM _ (st.ms++ms);rw [Jl,h.ms]
   ·cases hr
theorem St {ext:Bool} (A:List UInt8) {L:List UInt8} (hz:A.length+L.length≤4000000) (he:∀ k d q,An ext L k d=.error q→q.1≠0):∀ (n:Nat) {st st' st2:SS},SSm A.length st st'→Am (A++L) st'.k=A.length+Am L st.k→BM ext L n st=.ok st2→
  ∃ st3,BM ext (A++L) n st'=.ok st3∧SSm A.length st2 st3
 | 0,st,st',st2,h,_,hr=>by injection hr with hr;subst hr;exact ⟨st',rfl,h⟩
 | n+1,st,st',st2,h,hk,hr=>by
  rw [Mx] at hr ⊢;rw [hk,Afs];by_cases h1:Am L st.k < L.length
  ·rw [if_pos h1] at hr;rw [if_pos (show A.length+Am L st.k < A.length+L.length by omega)];cases hc:CX ext L (st.go (Am L st.k)) with
   | error q=>rw [hc] at hr;cases hr
   | ok st4=>
    rw [hc] at hr;obtain ⟨st5,e1,e2,e3⟩:=VX A hz he (st:=st.go (Am L st.k)) (st':=st'.go (A.length+Am L st.k)) ⟨⟨h.s.cs,h.s.op⟩,h.ms⟩ rfl hc;rw [e1];exact St A hz he n e2 (by rw [e3];exact Sj A L st4.k) hr
  ·rw [if_neg h1] at hr;rw [if_neg (show ¬ A.length+Am L st.k < A.length+L.length by omega)];injection hr with hr;subst hr;exact ⟨_,rfl,⟨h.s.cs,h.s.op⟩,h.ms⟩
theorem PW {ext:Bool} (A:List UInt8) {L:List UInt8} {st:SS} (hz:A.length+L.length≤4000000) (hA:Am (A++L) 0=A.length+Am L 0) (he:∀ k d q,An ext L k d=.error q→q.1≠0) (h:Ie ext L=.ok st) :
  ∃ st',Ie ext (A++L)=.ok st'∧SSm A.length st st':=by
 obtain ⟨hr,h0⟩:=Zh h;obtain ⟨st3,e1,e2⟩:=St A hz he 102 (st':=⟨0,[],[],[]⟩) ⟨⟨rfl,rfl⟩,rfl⟩ hA hr;unfold Ie FN;rw [e1];simp only;rw [if_pos ((YZ e2.s).trans h0)];exact ⟨st3,rfl,e2⟩
def Bo (j:Nat):List UInt8:=match j with | 0=>[32,59,32] | 1=>[35,32,120,10] | 2=>[10,9] | _=>[]
theorem PX (j:Nat) (L:List UInt8):Am (Bo j++L) 0=(Bo j).length+Am L 0:=by
 have hs:∀ X:List UInt8,BZ (X++L) 0=X.length+BZ L 0→Am (X++L) 0=X.length+Am L 0:=fun X h=>by
  unfold Am;rw [h];exact FO X L _ _ _ (by omega) (by rw [Afs];omega)
 have hp:∀ (X:List UInt8),(∀ b∈X,([32,9,10,59]:List UInt8).contains b=true)→Eg [32,9,10,59] (X++L)=X.length+Eg [32,9,10,59] L:=fun X=>by
  induction X with
  | nil=>intro _;simp
  | cons c X ih=>
   intro h;unfold Eg at ih ⊢;rw [List.cons_append,Bl (h c (by simp)),ih (fun b hb=>h b (by simp [hb])),List.length_cons];omega
 have hq:∀ X:List UInt8,(∀ b∈X,([32,9,10,59]:List UInt8).contains b=true)→Am (X++L) 0=X.length+Am L 0:=fun X h=>hs X (by
  unfold BZ;rw [List.drop_zero,List.drop_zero,hp X h];omega)
 match j with
 | 0=>exact hq [32,59,32] (by decide)
 | 1=>
  have e0:BZ ([35,32,120,10]++L) 0=0:=rfl;have e1:Do ([35,32,120,10]++L) 0=3:=rfl;have e2:BZ ([35,32,120,10]++L) 3=4+BZ L 0:=by
   unfold BZ;rw [show (([35,32,120,10]++L:List UInt8)).drop 3=[10]++L from rfl,hp [10] (by decide),List.drop_zero];show 3+(1+_)=_;omega
  show Am ([35,32,120,10]++L) 0=4+Am L 0;unfold Am;rw [e0];show Bw ([35,32,120,10]++L) ((L.length+4)+1) 0=_;have hh:(List.drop 0 (([35,32,120,10]:List UInt8)++L)).head?=some (35:UInt8):=rfl;rw [Ev,if_pos hh,e1,Nat.zero_add,e2];exact FO [35,32,120,10] L _ _ _ (by omega) (by omega)
 | 2=>exact hq [10,9] (by decide)
 | n+3=>show Am ([]++L) 0=0+Am L 0;rw [List.nil_append,Nat.zero_add]
theorem Oe {ext:Bool} (j:Nat) {L:List UInt8} {st:SS} (hz:L.length≤4000) (he:∀ M k d q,An ext M k d=.error q→q.1≠0) (h:Ie ext L=.ok st) :
  ∃ st',Ie ext (Bo j++(L++[10,59,32,35,32,120,10]))=.ok st'∧SSm (Bo j).length st st':=by
 obtain ⟨s1,h1,h2,h3,h4⟩:=Tp [59,32,35,32,120,10] NV (he L) h;have hj:(Bo j).length≤4:=by
  match j with
  | 0=>decide
  | 1=>decide
  | 2=>decide
  | n+3=>exact Nat.zero_le _
 obtain ⟨s2,g1,g2⟩:=PW (Bo j) (L:=Cm L [59,32,35,32,120,10]) (by rw [Afs];simp;omega) (PX j _) (he _) h1;exact ⟨s2,g1,⟨⟨by rw [g2.s.cs,h2],by rw [g2.s.op,h4]⟩,by rw [g2.ms,h3]⟩⟩
def Su:List UInt8:=[35,110,10,47,97,47,123,112,59,98,32,120,125]
def L2:List UInt8:=[35,110,10,47,97,47,123,112,59,98,32,120,10,125,10,58,120]
def Aem (R:Except (Nat × Nat) SS):Nat × Nat:=match R with | .error q=>q | .ok _=>(0,0)
def Sv (R:Except (Nat × Nat) SS):List UInt8:=match R with | .error q=>[] | .ok st=>st.cs.map (·.name)
def VY (R:Except (Nat × Nat) SS):List (List UInt8):=match R with | .error q=>[] | .ok st=>st.cs.map (·.arg)
theorem Acr:Aem (Ie false Su)=(16,6):=by decide +kernel
theorem Acs:Sv (Ie false L2)=[123,112,98,125,58]:=by decide +kernel
theorem Acu:VY (Ie false L2)=[[],[],[120],[],[120]]:=by decide +kernel
theorem Acv:Dq L2=true:=by decide
end
section
open Go Go.RowKit Go.Shelf
theorem VZ (l:List UInt8):(Lib.cut l [10]).1=l.take (AK (fun b=>!(b == 10)) l):=by
 unfold Lib.cut;rw [Lib.index_one,Ge];by_cases h:AK (fun b=>!(b == (10:UInt8))) l < l.length
 ·rw [if_pos h,if_pos (by omega)];simp
 ·rw [if_neg h,if_neg (by omega)];exact (List.take_of_length_le (show l.length≤_ by omega)).symm
def We:Go.Shelf.Ren:=⟨fun | 145=>19 | 217=>52 | 219=>35 | 220=>28 | 224=>54 | 225=>53 | 266=>76 | 267=>55 | 314=>77 | n=>n,fun | 3=>3 | 4=>4 | 5=>5 | 9=>9 | 46=>124 | 51=>149 | 59=>62 | 146=>150 | n=>n,fun | 1=>0 | n=>n⟩
theorem Tw:Go.Proofs.Lays.n145 prog We:={
 mixed:=by kernel_rfl
 f145:=Tryz.func19.trans (congrArg some (by kernel_rfl))
 f217:=Tryz.func52.trans (congrArg some (by kernel_rfl))
 f219:=Tryz.func35.trans (congrArg some (by kernel_rfl))
 f220:=Tryz.func28.trans (congrArg some (by kernel_rfl))
 f224:=Tryz.func54.trans (congrArg some (by kernel_rfl))
 f225:=Tryz.func53.trans (congrArg some (by kernel_rfl))
 f266:=Tryz.func76.trans (congrArg some (by kernel_rfl))
 f267:=Tryz.func55.trans (congrArg some (by kernel_rfl))
 f314:=Tryz.func77.trans (congrArg some (by kernel_rfl))
 t3:=underlying3
 a3:=isAgg3
 z3:=sizeOf3
 v3:=zeroValue3
 t4:=underlying4
 a4:=isAgg4
 z4:=sizeOf4
 v4:=zeroValue4
 t5:=underlying5
 a5:=isAgg5
 z5:=sizeOf5
 v5:=zeroValue5
 t9:=underlying9
 a9:=isAgg9
 z9:=sizeOf9
 v9:=zeroValue9
 t46:=underlying124
 a46:=isAgg124
 z46:=sizeOf124
 v46:=zeroValue124
 t51:=underlying149
 a51:=isAgg149
 z51:=sizeOf149
 v51:=zeroValue149
 t59:=underlying62
 a59:=isAgg62
 z59:=sizeOf62
 v59:=zeroValue62
 t146:=underlying150
 a146:=isAgg150
 z146:=sizeOf150
 v146:=zeroValue150
 g1:=by kernel_rfl
}
theorem Wf (s:ByteArray) (w:World) (hs:s.size < 4294967281) (hG:Gl w) :
  Calls prog 19 #[.string s,.string ⟨#[10]⟩] w fun e w'=>(∃ t b,e=.returned (.tuple #[.string (txt (s.data.toList.take (AK (fun b=>!(b == 10)) s.data.toList))),.string t,.bool b]))∧Below w.heap.size w w':=by
 obtain ⟨m,hm⟩:=hG.ml;refine (Any.strings_Cut Tw s ⟨#[10]⟩ m w hs hm).mono ?_;rintro e w' ⟨rfl,n,rfl⟩;have h:(⟨(Lib.cut s.data.toList (⟨#[10]⟩:ByteArray).data.toList).1.toArray⟩:ByteArray)=txt (s.data.toList.take (AK (fun b=>!(b == 10)) s.data.toList)):=by
  rw [show (⟨#[10]⟩:ByteArray).data.toList=[10] from rfl,VZ];rfl
 rw [h];exact ⟨⟨_,_,rfl⟩,below_drewN (Afv _ _) n⟩
theorem L3 (s:ByteArray) (k p:Nat) (w:World) (hs:s.size≤4000) (hk:k≤s.size) (hG:Gl w) (hp:p < w.heap.size) (c2:w.cell? ⟨p,2,none⟩=some (.string s)) (c4:w.cell? ⟨p,4,none⟩=some (.int .i64 (k:Int))) :
  Calls prog 13 #[.pointer (some ⟨p,0,none⟩)] w fun e w'=>e=.returned (.string (txt ((s.data.toList.drop k).take (Do s.data.toList k))))∧Below w.heap.size w w':=by
 have hx:(s.extract k s.size).size≤4000:=by rw [ByteArray.size_extract];omega
 have hcut:=fun W (hB:Below w.heap.size w W)=>(Wf (s.extract k s.size) W (by omega) (hG.up hB)).mono fun e w' h=>(⟨h.1,hB.trans (h.2.mono hB.size)⟩:_∧Below w.heap.size w w')
 rw [BS] at hcut;rw [show (s.data.toList.drop k).take (Do s.data.toList k)=(s.data.toList.drop k).take (AK (fun b=>!(b == 10)) (s.data.toList.drop k)) from rfl];generalize txt ((s.data.toList.drop k).take (AK (fun b=>!(b == 10)) (s.data.toList.drop k)))=T at hcut ⊢;obtain ⟨E,hE⟩:∃ E,s.extract k s.size=E:=⟨_,rfl⟩;rw [hE] at hcut;have h0:(0:Int)≤(k:Int):=by omega
 have h1:(k:Int)≤(s.size:Int):=by omega
 clear hG hx;go_enter func13,ntmps13;go_upto_region 1 with fail;go_cut [3] (fun s3 wx=>s3=.string T∧Below w.heap.size w wx)
 case first=>
  go_region_held3 (fun w'=>w'.cell? ⟨p,2,none⟩=some (.string s)∧w'.cell? ⟨p,4,none⟩=some (.int .i64 (k:Int))) (first | exact ⟨c2,c4⟩ | (refine ⟨?_,?_⟩ <;> assumption)) (first | (go_at_call 19;(try rw [hE]);refine (hcut _ (by first | exact Afv _ _ | exact (Afv _ _).drew)).mono ?_;rintro e w1 ⟨⟨t,b,rfl⟩,b1⟩;have m2:w1.cell? ⟨p,2,none⟩=some (.string s):=(b1.cell (p:=⟨p,2,none⟩) hp).trans c2;have m4:w1.cell? ⟨p,4,none⟩=some (.int .i64 (k:Int)):=(b1.cell (p:=⟨p,4,none⟩) hp).trans c4))
  all_goals
   (try go_wp2_with fail)
   go_meet;exact ⟨rfl,by first | exact b1 | exact b1.drew⟩
 case rest=>
  obtain ⟨rfl,hb⟩:=hcut;go_wp2_with fail
  go_ret;exact ⟨rfl,hb⟩
abbrev scC (q:Bool) (cv:Value) (s:ByteArray) (ext:Bool) (k:Nat) (mv ov lv:Value):Array Value:=#[.bool q,cv,.string s,.bool ext,.int .i64 (k:Int),mv,ov,lv]
end
section
open Go.RowKit
def Ew (F:Nat→Prop):Nat→World→Nd→Value→Prop
 | 0,_,_,_=>False
 | n+1,w,d,v=>match d with
  | .empty=>v=.iface 104 (.agg #[])∨v=.nilIface
  | .one s=>v=.iface 110 (.agg #[.int .u64 (ow s 0),.int .u64 (ow s 1),.int .u64 (ow s 2),.int .u64 (ow s 3)])
  | .cat l=>∃ a cap,v=.iface 97 (.agg #[.slice a l.length cap])∧l.length≤cap∧cap≤maxLen∧
    (0 < l.length→∃ b o,a=some ⟨b,o,none⟩∧F b∧b < w.heap.size∧∀ i (h:i < l.length),∃ u,w.cell? ⟨b,o+i,none⟩=some u∧Ew F n w l[i] u)
  | .alt l=>∃ a cap,v=.iface 98 (.agg #[.slice a l.length cap])∧l.length≤cap∧cap≤maxLen∧
    (0 < l.length→∃ b o,a=some ⟨b,o,none⟩∧F b∧b < w.heap.size∧∀ i (h:i < l.length),∃ u,w.cell? ⟨b,o+i,none⟩=some u∧Ew F n w l[i] u)
  | .rep d mn mx=>∃ u,v=.iface 100 (.agg #[u,.int .i64 mn,.int .i64 mx])∧Ew F n w d u
  | .group num d=>∃ u,v=.iface 102 (.agg #[.int .i64 num,u])∧Ew F n w d u
  | .back num=>v=.iface 116 (.agg #[.int .i64 num])
  | .start=>v=.iface 118 (.agg #[])
  | .fin=>v=.iface 120 (.agg #[])
def Aa9 (F:Nat→Prop) (n:Nat) (w:World) (l:List Nd) (a:Option Addr) (cap:Nat):Prop:=
 l.length≤cap∧cap≤maxLen∧(0 < l.length→∃ b o,a=some ⟨b,o,none⟩∧F b∧b < w.heap.size∧∀ i (h:i < l.length),∃ u,w.cell? ⟨b,o+i,none⟩=some u∧Ew F n w l[i] u)
theorem Ew.keep {F G:Nat→Prop} {w w':World} (hs:w.heap.size≤w'.heap.size) (hF:∀ b,F b→b < w.heap.size→G b∧∀ o,w'.cell? ⟨b,o,none⟩=w.cell? ⟨b,o,none⟩) :
  ∀ (n:Nat) (d:Nd) (v:Value),Ew F n w d v→Ew G n w' d v:=by
 intro n;induction n with
 | zero=>intro d v h;exact h
 | succ n ih=>
  have hrow:∀ (l:List Nd) (a:Option Addr),(0 < l.length→∃ b o,a=some ⟨b,o,none⟩∧F b∧b < w.heap.size∧∀ i (h:i < l.length),∃ u,w.cell? ⟨b,o+i,none⟩=some u∧Ew F n w l[i] u)→
    (0 < l.length→∃ b o,a=some ⟨b,o,none⟩∧G b∧b < w'.heap.size∧∀ i (h:i < l.length),∃ u,w'.cell? ⟨b,o+i,none⟩=some u∧Ew G n w' l[i] u):=by
   intro l a h h0;obtain ⟨b,o,rfl,hf,hb,hx⟩:=h h0;refine ⟨b,o,rfl,(hF b hf hb).1,Aft hb hs,fun i hi=>?_⟩;obtain ⟨u,hu,hr⟩:=hx i hi;exact ⟨u,((hF b hf hb).2 _).trans hu,ih _ _ hr⟩
  intro d v h;cases d with
  | empty=>exact h
  | one s=>exact h
  | cat l=>
   obtain ⟨a,cap,h1,h2,h3,h4⟩:=h;exact ⟨a,cap,h1,h2,h3,hrow l a h4⟩
  | alt l=>
   obtain ⟨a,cap,h1,h2,h3,h4⟩:=h;exact ⟨a,cap,h1,h2,h3,hrow l a h4⟩
  | rep d mn mx=>
   obtain ⟨u,h1,h2⟩:=h;exact ⟨u,h1,ih _ _ h2⟩
  | group num d=>
   obtain ⟨u,h1,h2⟩:=h;exact ⟨u,h1,ih _ _ h2⟩
  | back num=>exact h
  | start=>exact h
  | fin=>exact h
theorem Ew.below {F:Nat→Prop} {w w':World} (hb:Below w.heap.size w w') (n:Nat) (d:Nd) (v:Value) (h:Ew F n w d v):Ew F n w' d v:=
 h.keep hb.size (fun b hf hlt=>⟨hf,fun o=>hb.cell (p:=⟨b,o,none⟩) hlt⟩)
theorem Ew.more {F:Nat→Prop} {w:World}:∀ (n m:Nat) (d:Nd) (v:Value),n≤m→Ew F n w d v→Ew F m w d v:=by
 intro n;induction n with
 | zero=>intro m d v _ h;exact h.elim
 | succ n ih=>
  intro m d v hm h;obtain ⟨m,rfl⟩:∃ m',m=m'+1:=⟨m - 1,by omega⟩;have hrow:∀ (l:List Nd) (a:Option Addr),(0 < l.length→∃ b o,a=some ⟨b,o,none⟩∧F b∧b < w.heap.size∧∀ i (h:i < l.length),∃ u,w.cell? ⟨b,o+i,none⟩=some u∧Ew F n w l[i] u)→
    (0 < l.length→∃ b o,a=some ⟨b,o,none⟩∧F b∧b < w.heap.size∧∀ i (h:i < l.length),∃ u,w.cell? ⟨b,o+i,none⟩=some u∧Ew F m w l[i] u):=by
   intro l a h h0;obtain ⟨b,o,rfl,hf,hb,hx⟩:=h h0;refine ⟨b,o,rfl,hf,hb,fun i hi=>?_⟩;obtain ⟨u,hu,hr⟩:=hx i hi;exact ⟨u,hu,ih _ _ _ (by omega) hr⟩
  cases d with
  | empty=>exact h
  | one s=>exact h
  | cat l=>
   obtain ⟨a,cap,h1,h2,h3,h4⟩:=h;exact ⟨a,cap,h1,h2,h3,hrow l a h4⟩
  | alt l=>
   obtain ⟨a,cap,h1,h2,h3,h4⟩:=h;exact ⟨a,cap,h1,h2,h3,hrow l a h4⟩
  | rep d mn mx=>
   obtain ⟨u,h1,h2⟩:=h;exact ⟨u,h1,ih _ _ _ (by omega) h2⟩
  | group num d=>
   obtain ⟨u,h1,h2⟩:=h;exact ⟨u,h1,ih _ _ _ (by omega) h2⟩
  | back num=>exact h
  | start=>exact h
  | fin=>exact h
theorem Ay {F:Nat→Prop} {n:Nat} {w:World} {d:Nd} {v:Value} (h:Ew F n w d v):(∃ T p,v=.iface T p)∨v=.nilIface:=by
 cases n with
 | zero=>exact h.elim
 | succ n=>
  cases d with
  | empty=>exact h.elim (fun h=>.inl ⟨_,_,h⟩) .inr
  | one s=>exact .inl ⟨_,_,h⟩
  | cat l=>obtain ⟨a,cap,h1,_⟩:=h;exact .inl ⟨_,_,h1⟩
  | alt l=>obtain ⟨a,cap,h1,_⟩:=h;exact .inl ⟨_,_,h1⟩
  | rep d mn mx=>obtain ⟨u,h1,_⟩:=h;exact .inl ⟨_,_,h1⟩
  | group num d=>obtain ⟨u,h1,_⟩:=h;exact .inl ⟨_,_,h1⟩
  | back num=>exact .inl ⟨_,_,h⟩
  | start=>exact .inl ⟨_,_,h⟩
  | fin=>exact .inl ⟨_,_,h⟩
theorem Ah {w w':World} {base:Nat} {e:TypeId} {size:Nat} {v:Value} {n:Nat} {xs:List Value} (h:w.ownsRow base e size v n xs) (hb:Below w.heap.size w w'):w'.ownsRow base e size v n xs:=by
 obtain ⟨h1,h2⟩:=h;refine ⟨h1,?_⟩;rcases h2 with h2 | ⟨g,cap,cur,a,b,c,d⟩
 ·exact .inl h2
 ·exact .inr ⟨g,cap,cur,a,b,by rw [hb.block g (Af6.1 c).1];exact c,d⟩
theorem AS {w:World} {base:Nat} {e:TypeId} {size:Nat} {v:Value} {n:Nat} {xs:List Value} (h:w.ownsRow base e size v n xs):∀ k,v.ownBlock=some k→base≤k:=by
 obtain ⟨_,h2⟩:=h;intro k hk;rcases h2 with ⟨rfl,_⟩ | ⟨g,cap,cur,rfl,hg,_⟩
 ·simp [Value.ownBlock] at hk
 ·simp [Value.ownBlock] at hk;omega
end
section
open Go
section
variable {P:Program} {w:World}
theorem A6 {ops:Array Oper} {o:Oper} {a:Act} {K:Act→World→Prop} {Q:Exit→Act→World→Prop} {E:Prop} (hgd:o.guard=none) (s x:Operand) (t:TypeId)
  (ho:o.op=.call { callee:=.builtin .append,args:=#[s,x],argTypes:=#[t,t] })
  (base:Nat) (e:TypeId) (i:TypeInfo) (z:Value) (size bytes:Nat) (ht:P.underlying t=some (.slice e)) (hi:P.info? e=some i) (hz:i.zero=some z)
  (hsize:i.size=size) (hby:i.bytes=bytes) (hzs:z.cells.size=size) (hsz:0 < size)
  (v:Value) (n:Nat) (xs:List Value) (hs:a.eval s=v) (hown:w.ownsRow base e size v n xs)
  (oa:Option Addr) (m c:Nat) (news:List Value) (hx:a.eval x=.slice oa m c) (hl:news.length=m * size) (hnews:0 < m→∃ a,oa=some a∧∀ j u,news[j]?=some u→w.cell? (a.add j)=some u) (h1:∀ u∈news,u.oneCell'=true)
  (h63:n+m≤maxLen) (hbytes:(n+m) * bytes≤140737488355328) (hbase:base≤w.heap.size)
  (h:∀ v' w',w'.ownsRow base e size v' (n+m) (xs++news)→w.grownBy w' v.ownBlock→(v'.ownBlock=v.ownBlock∨v'.ownBlock=some w.heap.size)→K (a.put o.dst v') w') :
  if Region.wanted o (yielded ops a.tmps)=true then Oper.wp P o a w K Q else E:=by
 rw [if_pos (by simp [Region.wanted,hgd])];obtain ⟨v',w',hr,h2,h3,h4⟩:=El (P:=P) w base t o.type e i z size bytes ht hi hz hsize hby hzs hsz v n xs hown oa m c news hl hnews h1 h63 hbytes hbase;unfold Oper.wp execOp;simp only [ho,resolve,invoke,builtin,Sem.run_bind,Sem.run_pure,Result.andThen_ok,List.map_toArray,List.map_cons,List.map_nil,hs,hx,hr];exact h v' w' h2 h3 h4
theorem Gk {base:Nat} {e:TypeId} {v:Value} {n:Nat} {xs:List Value} {w:World} (h:w.ownsRow base e 1 v n xs) (hx:xs.length=n) :
  ∃ a cap,v=.slice a n cap∧n≤cap∧cap≤maxLen∧(0 < n→∃ g,a=some ⟨g,0,none⟩∧base≤g∧g < w.heap.size∧∀ i (h:i < xs.length),w.cell? ⟨g,0+i,none⟩=some xs[i]):=by
 obtain ⟨h1,h2⟩:=h;rcases h2 with ⟨rfl,hz⟩ | ⟨g,cap,cur,rfl,hg,hh,hn,hcap,hcs,htk⟩
 ·subst hz;exact ⟨none,0,rfl,Afq _,Nat.zero_le _,fun h=>absurd h (by omega)⟩
 ·refine ⟨some ⟨g,0,none⟩,cap,rfl,hn,hcap,fun h0=>⟨g,rfl,hg,(Af6.1 hh).1,fun i hi=>?_⟩⟩;have h4:w.cell? ⟨g,0+i,none⟩=cur[i]?:=by simp [World.cell?,hh]
  have h5:(cur.toList.take (n * 1))[i]?=xs[i]?:=by rw [htk]
  rw [List.getElem?_take_of_lt (by omega)] at h5;rw [h4,←Array.getElem?_toList,h5,Af4 hi]
end
end
section
open Go.RowKit
@[go_sem] theorem Wh (p:Value) (w:World):(Instr.typeAssert (.iface 104 p) 45 104 true).run prog w=.ok (.tuple #[p,.bool true]) w:=by kernel_rfl
@[go_sem] theorem Zn (p:Value) (w:World):(Instr.typeAssert (.iface 104 p) 45 110 true).run prog w=.ok (.tuple #[.agg #[.int .u64 0,.int .u64 0,.int .u64 0,.int .u64 0],.bool false]) w:=by kernel_rfl
@[go_sem] theorem M1 (p:Value) (w:World):(Instr.typeAssert (.iface 104 p) 45 97 true).run prog w=.ok (.tuple #[.agg #[.slice none 0 0],.bool false]) w:=by kernel_rfl
@[go_sem] theorem Zo (p:Value) (w:World):(Instr.typeAssert (.iface 104 p) 45 98 true).run prog w=.ok (.tuple #[.agg #[.slice none 0 0],.bool false]) w:=by kernel_rfl
@[go_sem] theorem M2 (p:Value) (w:World):(Instr.typeAssert (.iface 104 p) 45 100 true).run prog w=.ok (.tuple #[.agg #[.nilIface,.int .i64 0,.int .i64 0],.bool false]) w:=by kernel_rfl
@[go_sem] theorem JS (p:Value) (w:World):(Instr.typeAssert (.iface 104 p) 45 102 true).run prog w=.ok (.tuple #[.agg #[.int .i64 0,.nilIface],.bool false]) w:=by kernel_rfl
@[go_sem] theorem KU (p:Value) (w:World):(Instr.typeAssert (.iface 104 p) 45 116 true).run prog w=.ok (.tuple #[.agg #[.int .i64 0],.bool false]) w:=by kernel_rfl
@[go_sem] theorem JT (p:Value) (w:World):(Instr.typeAssert (.iface 104 p) 45 118 true).run prog w=.ok (.tuple #[.agg #[],.bool false]) w:=by kernel_rfl
@[go_sem] theorem M3 (p:Value) (w:World):(Instr.typeAssert (.iface 104 p) 45 120 true).run prog w=.ok (.tuple #[.agg #[],.bool false]) w:=by kernel_rfl
@[go_sem] theorem Zp (p:Value) (w:World):(Instr.typeAssert (.iface 110 p) 45 104 true).run prog w=.ok (.tuple #[.agg #[],.bool false]) w:=by kernel_rfl
@[go_sem] theorem Acw (p:Value) (w:World):(Instr.typeAssert (.iface 110 p) 45 110 true).run prog w=.ok (.tuple #[p,.bool true]) w:=by kernel_rfl
@[go_sem] theorem PY (p:Value) (w:World):(Instr.typeAssert (.iface 110 p) 45 97 true).run prog w=.ok (.tuple #[.agg #[.slice none 0 0],.bool false]) w:=by kernel_rfl
@[go_sem] theorem Acx (p:Value) (w:World):(Instr.typeAssert (.iface 110 p) 45 98 true).run prog w=.ok (.tuple #[.agg #[.slice none 0 0],.bool false]) w:=by kernel_rfl
@[go_sem] theorem PZ (p:Value) (w:World):(Instr.typeAssert (.iface 110 p) 45 100 true).run prog w=.ok (.tuple #[.agg #[.nilIface,.int .i64 0,.int .i64 0],.bool false]) w:=by kernel_rfl
@[go_sem] theorem M4 (p:Value) (w:World):(Instr.typeAssert (.iface 110 p) 45 102 true).run prog w=.ok (.tuple #[.agg #[.int .i64 0,.nilIface],.bool false]) w:=by kernel_rfl
@[go_sem] theorem Of (p:Value) (w:World):(Instr.typeAssert (.iface 110 p) 45 116 true).run prog w=.ok (.tuple #[.agg #[.int .i64 0],.bool false]) w:=by kernel_rfl
@[go_sem] theorem M7 (p:Value) (w:World):(Instr.typeAssert (.iface 110 p) 45 118 true).run prog w=.ok (.tuple #[.agg #[],.bool false]) w:=by kernel_rfl
@[go_sem] theorem Qa (p:Value) (w:World):(Instr.typeAssert (.iface 110 p) 45 120 true).run prog w=.ok (.tuple #[.agg #[],.bool false]) w:=by kernel_rfl
@[go_sem] theorem Zq (p:Value) (w:World):(Instr.typeAssert (.iface 97 p) 45 104 true).run prog w=.ok (.tuple #[.agg #[],.bool false]) w:=by kernel_rfl
@[go_sem] theorem Acy (p:Value) (w:World):(Instr.typeAssert (.iface 97 p) 45 110 true).run prog w=.ok (.tuple #[.agg #[.int .u64 0,.int .u64 0,.int .u64 0,.int .u64 0],.bool false]) w:=by kernel_rfl
@[go_sem] theorem Qb (p:Value) (w:World):(Instr.typeAssert (.iface 97 p) 45 97 true).run prog w=.ok (.tuple #[p,.bool true]) w:=by kernel_rfl
@[go_sem] theorem Acz (p:Value) (w:World):(Instr.typeAssert (.iface 97 p) 45 98 true).run prog w=.ok (.tuple #[.agg #[.slice none 0 0],.bool false]) w:=by kernel_rfl
@[go_sem] theorem Qc (p:Value) (w:World):(Instr.typeAssert (.iface 97 p) 45 100 true).run prog w=.ok (.tuple #[.agg #[.nilIface,.int .i64 0,.int .i64 0],.bool false]) w:=by kernel_rfl
@[go_sem] theorem M8 (p:Value) (w:World):(Instr.typeAssert (.iface 97 p) 45 102 true).run prog w=.ok (.tuple #[.agg #[.int .i64 0,.nilIface],.bool false]) w:=by kernel_rfl
@[go_sem] theorem Og (p:Value) (w:World):(Instr.typeAssert (.iface 97 p) 45 116 true).run prog w=.ok (.tuple #[.agg #[.int .i64 0],.bool false]) w:=by kernel_rfl
@[go_sem] theorem M9 (p:Value) (w:World):(Instr.typeAssert (.iface 97 p) 45 118 true).run prog w=.ok (.tuple #[.agg #[],.bool false]) w:=by kernel_rfl
@[go_sem] theorem Qd (p:Value) (w:World):(Instr.typeAssert (.iface 97 p) 45 120 true).run prog w=.ok (.tuple #[.agg #[],.bool false]) w:=by kernel_rfl
@[go_sem] theorem Zr (p:Value) (w:World):(Instr.typeAssert (.iface 98 p) 45 104 true).run prog w=.ok (.tuple #[.agg #[],.bool false]) w:=by kernel_rfl
@[go_sem] theorem Ac0 (p:Value) (w:World):(Instr.typeAssert (.iface 98 p) 45 110 true).run prog w=.ok (.tuple #[.agg #[.int .u64 0,.int .u64 0,.int .u64 0,.int .u64 0],.bool false]) w:=by kernel_rfl
@[go_sem] theorem Qe (p:Value) (w:World):(Instr.typeAssert (.iface 98 p) 45 97 true).run prog w=.ok (.tuple #[.agg #[.slice none 0 0],.bool false]) w:=by kernel_rfl
@[go_sem] theorem Ac1 (p:Value) (w:World):(Instr.typeAssert (.iface 98 p) 45 98 true).run prog w=.ok (.tuple #[p,.bool true]) w:=by kernel_rfl
@[go_sem] theorem Qf (p:Value) (w:World):(Instr.typeAssert (.iface 98 p) 45 100 true).run prog w=.ok (.tuple #[.agg #[.nilIface,.int .i64 0,.int .i64 0],.bool false]) w:=by kernel_rfl
@[go_sem] theorem MC (p:Value) (w:World):(Instr.typeAssert (.iface 98 p) 45 102 true).run prog w=.ok (.tuple #[.agg #[.int .i64 0,.nilIface],.bool false]) w:=by kernel_rfl
@[go_sem] theorem Oh (p:Value) (w:World):(Instr.typeAssert (.iface 98 p) 45 116 true).run prog w=.ok (.tuple #[.agg #[.int .i64 0],.bool false]) w:=by kernel_rfl
@[go_sem] theorem MD (p:Value) (w:World):(Instr.typeAssert (.iface 98 p) 45 118 true).run prog w=.ok (.tuple #[.agg #[],.bool false]) w:=by kernel_rfl
@[go_sem] theorem Qg (p:Value) (w:World):(Instr.typeAssert (.iface 98 p) 45 120 true).run prog w=.ok (.tuple #[.agg #[],.bool false]) w:=by kernel_rfl
@[go_sem] theorem Zs (p:Value) (w:World):(Instr.typeAssert (.iface 100 p) 45 104 true).run prog w=.ok (.tuple #[.agg #[],.bool false]) w:=by kernel_rfl
@[go_sem] theorem Ac2 (p:Value) (w:World):(Instr.typeAssert (.iface 100 p) 45 110 true).run prog w=.ok (.tuple #[.agg #[.int .u64 0,.int .u64 0,.int .u64 0,.int .u64 0],.bool false]) w:=by kernel_rfl
@[go_sem] theorem Qh (p:Value) (w:World):(Instr.typeAssert (.iface 100 p) 45 97 true).run prog w=.ok (.tuple #[.agg #[.slice none 0 0],.bool false]) w:=by kernel_rfl
@[go_sem] theorem Ac3 (p:Value) (w:World):(Instr.typeAssert (.iface 100 p) 45 98 true).run prog w=.ok (.tuple #[.agg #[.slice none 0 0],.bool false]) w:=by kernel_rfl
@[go_sem] theorem Qi (p:Value) (w:World):(Instr.typeAssert (.iface 100 p) 45 100 true).run prog w=.ok (.tuple #[p,.bool true]) w:=by kernel_rfl
@[go_sem] theorem ME (p:Value) (w:World):(Instr.typeAssert (.iface 100 p) 45 102 true).run prog w=.ok (.tuple #[.agg #[.int .i64 0,.nilIface],.bool false]) w:=by kernel_rfl
@[go_sem] theorem Oi (p:Value) (w:World):(Instr.typeAssert (.iface 100 p) 45 116 true).run prog w=.ok (.tuple #[.agg #[.int .i64 0],.bool false]) w:=by kernel_rfl
@[go_sem] theorem MF (p:Value) (w:World):(Instr.typeAssert (.iface 100 p) 45 118 true).run prog w=.ok (.tuple #[.agg #[],.bool false]) w:=by kernel_rfl
@[go_sem] theorem Qj (p:Value) (w:World):(Instr.typeAssert (.iface 100 p) 45 120 true).run prog w=.ok (.tuple #[.agg #[],.bool false]) w:=by kernel_rfl
@[go_sem] theorem Wo (p:Value) (w:World):(Instr.typeAssert (.iface 102 p) 45 104 true).run prog w=.ok (.tuple #[.agg #[],.bool false]) w:=by kernel_rfl
@[go_sem] theorem Zt (p:Value) (w:World):(Instr.typeAssert (.iface 102 p) 45 110 true).run prog w=.ok (.tuple #[.agg #[.int .u64 0,.int .u64 0,.int .u64 0,.int .u64 0],.bool false]) w:=by kernel_rfl
@[go_sem] theorem MG (p:Value) (w:World):(Instr.typeAssert (.iface 102 p) 45 97 true).run prog w=.ok (.tuple #[.agg #[.slice none 0 0],.bool false]) w:=by kernel_rfl
@[go_sem] theorem Zu (p:Value) (w:World):(Instr.typeAssert (.iface 102 p) 45 98 true).run prog w=.ok (.tuple #[.agg #[.slice none 0 0],.bool false]) w:=by kernel_rfl
@[go_sem] theorem MH (p:Value) (w:World):(Instr.typeAssert (.iface 102 p) 45 100 true).run prog w=.ok (.tuple #[.agg #[.nilIface,.int .i64 0,.int .i64 0],.bool false]) w:=by kernel_rfl
@[go_sem] theorem JU (p:Value) (w:World):(Instr.typeAssert (.iface 102 p) 45 102 true).run prog w=.ok (.tuple #[p,.bool true]) w:=by kernel_rfl
@[go_sem] theorem KV (p:Value) (w:World):(Instr.typeAssert (.iface 102 p) 45 116 true).run prog w=.ok (.tuple #[.agg #[.int .i64 0],.bool false]) w:=by kernel_rfl
@[go_sem] theorem JV (p:Value) (w:World):(Instr.typeAssert (.iface 102 p) 45 118 true).run prog w=.ok (.tuple #[.agg #[],.bool false]) w:=by kernel_rfl
@[go_sem] theorem MI (p:Value) (w:World):(Instr.typeAssert (.iface 102 p) 45 120 true).run prog w=.ok (.tuple #[.agg #[],.bool false]) w:=by kernel_rfl
@[go_sem] theorem Y5 (p:Value) (w:World):(Instr.typeAssert (.iface 116 p) 45 104 true).run prog w=.ok (.tuple #[.agg #[],.bool false]) w:=by kernel_rfl
@[go_sem] theorem Aba (p:Value) (w:World):(Instr.typeAssert (.iface 116 p) 45 110 true).run prog w=.ok (.tuple #[.agg #[.int .u64 0,.int .u64 0,.int .u64 0,.int .u64 0],.bool false]) w:=by kernel_rfl
@[go_sem] theorem Oj (p:Value) (w:World):(Instr.typeAssert (.iface 116 p) 45 97 true).run prog w=.ok (.tuple #[.agg #[.slice none 0 0],.bool false]) w:=by kernel_rfl
@[go_sem] theorem Abb (p:Value) (w:World):(Instr.typeAssert (.iface 116 p) 45 98 true).run prog w=.ok (.tuple #[.agg #[.slice none 0 0],.bool false]) w:=by kernel_rfl
@[go_sem] theorem Ol (p:Value) (w:World):(Instr.typeAssert (.iface 116 p) 45 100 true).run prog w=.ok (.tuple #[.agg #[.nilIface,.int .i64 0,.int .i64 0],.bool false]) w:=by kernel_rfl
@[go_sem] theorem KW (p:Value) (w:World):(Instr.typeAssert (.iface 116 p) 45 102 true).run prog w=.ok (.tuple #[.agg #[.int .i64 0,.nilIface],.bool false]) w:=by kernel_rfl
@[go_sem] theorem MJ (p:Value) (w:World):(Instr.typeAssert (.iface 116 p) 45 116 true).run prog w=.ok (.tuple #[p,.bool true]) w:=by kernel_rfl
@[go_sem] theorem KX (p:Value) (w:World):(Instr.typeAssert (.iface 116 p) 45 118 true).run prog w=.ok (.tuple #[.agg #[],.bool false]) w:=by kernel_rfl
@[go_sem] theorem Om (p:Value) (w:World):(Instr.typeAssert (.iface 116 p) 45 120 true).run prog w=.ok (.tuple #[.agg #[],.bool false]) w:=by kernel_rfl
@[go_sem] theorem Wq (p:Value) (w:World):(Instr.typeAssert (.iface 118 p) 45 104 true).run prog w=.ok (.tuple #[.agg #[],.bool false]) w:=by kernel_rfl
@[go_sem] theorem Zv (p:Value) (w:World):(Instr.typeAssert (.iface 118 p) 45 110 true).run prog w=.ok (.tuple #[.agg #[.int .u64 0,.int .u64 0,.int .u64 0,.int .u64 0],.bool false]) w:=by kernel_rfl
@[go_sem] theorem MK (p:Value) (w:World):(Instr.typeAssert (.iface 118 p) 45 97 true).run prog w=.ok (.tuple #[.agg #[.slice none 0 0],.bool false]) w:=by kernel_rfl
@[go_sem] theorem Zw (p:Value) (w:World):(Instr.typeAssert (.iface 118 p) 45 98 true).run prog w=.ok (.tuple #[.agg #[.slice none 0 0],.bool false]) w:=by kernel_rfl
@[go_sem] theorem ML (p:Value) (w:World):(Instr.typeAssert (.iface 118 p) 45 100 true).run prog w=.ok (.tuple #[.agg #[.nilIface,.int .i64 0,.int .i64 0],.bool false]) w:=by kernel_rfl
@[go_sem] theorem JW (p:Value) (w:World):(Instr.typeAssert (.iface 118 p) 45 102 true).run prog w=.ok (.tuple #[.agg #[.int .i64 0,.nilIface],.bool false]) w:=by kernel_rfl
@[go_sem] theorem KY (p:Value) (w:World):(Instr.typeAssert (.iface 118 p) 45 116 true).run prog w=.ok (.tuple #[.agg #[.int .i64 0],.bool false]) w:=by kernel_rfl
@[go_sem] theorem JX (p:Value) (w:World):(Instr.typeAssert (.iface 118 p) 45 118 true).run prog w=.ok (.tuple #[p,.bool true]) w:=by kernel_rfl
@[go_sem] theorem MM (p:Value) (w:World):(Instr.typeAssert (.iface 118 p) 45 120 true).run prog w=.ok (.tuple #[.agg #[],.bool false]) w:=by kernel_rfl
@[go_sem] theorem Zx (p:Value) (w:World):(Instr.typeAssert (.iface 120 p) 45 104 true).run prog w=.ok (.tuple #[.agg #[],.bool false]) w:=by kernel_rfl
@[go_sem] theorem Ac4 (p:Value) (w:World):(Instr.typeAssert (.iface 120 p) 45 110 true).run prog w=.ok (.tuple #[.agg #[.int .u64 0,.int .u64 0,.int .u64 0,.int .u64 0],.bool false]) w:=by kernel_rfl
@[go_sem] theorem Qk (p:Value) (w:World):(Instr.typeAssert (.iface 120 p) 45 97 true).run prog w=.ok (.tuple #[.agg #[.slice none 0 0],.bool false]) w:=by kernel_rfl
@[go_sem] theorem Ac5 (p:Value) (w:World):(Instr.typeAssert (.iface 120 p) 45 98 true).run prog w=.ok (.tuple #[.agg #[.slice none 0 0],.bool false]) w:=by kernel_rfl
@[go_sem] theorem Ql (p:Value) (w:World):(Instr.typeAssert (.iface 120 p) 45 100 true).run prog w=.ok (.tuple #[.agg #[.nilIface,.int .i64 0,.int .i64 0],.bool false]) w:=by kernel_rfl
@[go_sem] theorem MN (p:Value) (w:World):(Instr.typeAssert (.iface 120 p) 45 102 true).run prog w=.ok (.tuple #[.agg #[.int .i64 0,.nilIface],.bool false]) w:=by kernel_rfl
@[go_sem] theorem On (p:Value) (w:World):(Instr.typeAssert (.iface 120 p) 45 116 true).run prog w=.ok (.tuple #[.agg #[.int .i64 0],.bool false]) w:=by kernel_rfl
@[go_sem] theorem MO (p:Value) (w:World):(Instr.typeAssert (.iface 120 p) 45 118 true).run prog w=.ok (.tuple #[.agg #[],.bool false]) w:=by kernel_rfl
@[go_sem] theorem Qm (p:Value) (w:World):(Instr.typeAssert (.iface 120 p) 45 120 true).run prog w=.ok (.tuple #[p,.bool true]) w:=by kernel_rfl
@[go_sem] theorem Zy (w:World):(Instr.typeAssert .nilIface 45 104 true).run prog w=.ok (.tuple #[.agg #[],.bool false]) w:=by kernel_rfl
@[go_sem] theorem Ac6 (w:World):(Instr.typeAssert .nilIface 45 110 true).run prog w=.ok (.tuple #[.agg #[.int .u64 0,.int .u64 0,.int .u64 0,.int .u64 0],.bool false]) w:=by kernel_rfl
@[go_sem] theorem Qn (w:World):(Instr.typeAssert .nilIface 45 97 true).run prog w=.ok (.tuple #[.agg #[.slice none 0 0],.bool false]) w:=by kernel_rfl
@[go_sem] theorem Ac7 (w:World):(Instr.typeAssert .nilIface 45 98 true).run prog w=.ok (.tuple #[.agg #[.slice none 0 0],.bool false]) w:=by kernel_rfl
@[go_sem] theorem Qo (w:World):(Instr.typeAssert .nilIface 45 100 true).run prog w=.ok (.tuple #[.agg #[.nilIface,.int .i64 0,.int .i64 0],.bool false]) w:=by kernel_rfl
@[go_sem] theorem MP (w:World):(Instr.typeAssert .nilIface 45 102 true).run prog w=.ok (.tuple #[.agg #[.int .i64 0,.nilIface],.bool false]) w:=by kernel_rfl
@[go_sem] theorem Oo (w:World):(Instr.typeAssert .nilIface 45 116 true).run prog w=.ok (.tuple #[.agg #[.int .i64 0],.bool false]) w:=by kernel_rfl
@[go_sem] theorem MQ (w:World):(Instr.typeAssert .nilIface 45 118 true).run prog w=.ok (.tuple #[.agg #[],.bool false]) w:=by kernel_rfl
@[go_sem] theorem Qp (w:World):(Instr.typeAssert .nilIface 45 120 true).run prog w=.ok (.tuple #[.agg #[],.bool false]) w:=by kernel_rfl
def NdX (F:Nat→Prop) (w:World) (d:Nd) (v:Value):Prop:=∃ n,Ew F n w d v
def Be (F:Nat→Prop) (w:World) (l:List Nd) (a:Option Addr) (cap:Nat):Prop:=
 l.length≤cap∧cap≤maxLen∧(0 < l.length→∃ b o,a=some ⟨b,o,none⟩∧F b∧b < w.heap.size∧∀ i (h:i < l.length),∃ u,w.cell? ⟨b,o+i,none⟩=some u∧NdX F w l[i] u)
theorem NdX.keep {F G:Nat→Prop} {w w':World} (hs:w.heap.size≤w'.heap.size) (hF:∀ b,F b→b < w.heap.size→G b∧∀ o,w'.cell? ⟨b,o,none⟩=w.cell? ⟨b,o,none⟩) {d:Nd} {v:Value} (h:NdX F w d v):NdX G w' d v:=by
 obtain ⟨n,h⟩:=h;exact ⟨n,Ew.keep hs hF n d v h⟩
theorem Be.keep {F G:Nat→Prop} {w w':World} (hs:w.heap.size≤w'.heap.size) (hF:∀ b,F b→b < w.heap.size→G b∧∀ o,w'.cell? ⟨b,o,none⟩=w.cell? ⟨b,o,none⟩) {l:List Nd} {a:Option Addr} {cap:Nat} (h:Be F w l a cap):Be G w' l a cap:=by
 refine ⟨h.1,h.2.1,fun h0=>?_⟩;obtain ⟨b,o,rfl,hf,hb,hx⟩:=h.2.2 h0;refine ⟨b,o,rfl,(hF b hf hb).1,Aft hb hs,fun i hi=>?_⟩;obtain ⟨u,hu,hr⟩:=hx i hi;exact ⟨u,((hF b hf hb).2 _).trans hu,hr.keep hs hF⟩
theorem NdX.below {F:Nat→Prop} {w w':World} (hb:Below w.heap.size w w') {d:Nd} {v:Value} (h:NdX F w d v):NdX F w' d v:=
 h.keep hb.size (fun b hf hlt=>⟨hf,fun o=>hb.cell (p:=⟨b,o,none⟩) hlt⟩)
theorem Be.below {F:Nat→Prop} {w w':World} (hb:Below w.heap.size w w') {l:List Nd} {a:Option Addr} {cap:Nat} (h:Be F w l a cap):Be F w' l a cap:=
 h.keep hb.size (fun b hf hlt=>⟨hf,fun o=>hb.cell (p:=⟨b,o,none⟩) hlt⟩)
theorem NdX.drew {F:Nat→Prop} {w:World} {d:Nd} {v:Value} (h:NdX F w d v):NdX F w.drew d v:=h.below (Agb (Afv _ _))
theorem Be.drew {F:Nat→Prop} {w:World} {l:List Nd} {a:Option Addr} {cap:Nat} (h:Be F w l a cap):Be F w.drew l a cap:=h.below (Agb (Afv _ _))
theorem Be.nil (F:Nat→Prop) (w:World) (a:Option Addr) (cap:Nat) (h:cap≤maxLen):Be F w [] a cap:=⟨Nat.zero_le _,h,fun h=>absurd h (by simp)⟩
theorem Be.of {F:Nat→Prop} {n:Nat} {w:World} {l:List Nd} {a:Option Addr} {cap:Nat} (h:Aa9 F n w l a cap):Be F w l a cap:=by
 refine ⟨h.1,h.2.1,fun h0=>?_⟩;obtain ⟨b,o,rfl,hf,hb,hx⟩:=h.2.2 h0;refine ⟨b,o,rfl,hf,hb,fun i hi=>?_⟩;obtain ⟨u,hu,hr⟩:=hx i hi;exact ⟨u,hu,n,hr⟩
theorem Be.tail {F:Nat→Prop} {w:World} {d:Nd} {l:List Nd} {a:Option Addr} {cap:Nat} (h:Be F w (d :: l) a cap) :
  ∃ b o u,a=some ⟨b,o,none⟩∧F b∧b < w.heap.size∧1≤cap∧w.cell? ⟨b,o,none⟩=some u∧NdX F w d u∧Be F w l (some ⟨b,o+1,none⟩) (cap - 1):=by
 obtain ⟨b,o,rfl,hf,hb,hx⟩:=h.2.2 (by simp);obtain ⟨u,hu,hr⟩:=hx 0 (by simp);have h1:=h.1;have h2:=h.2.1;simp at h1;refine ⟨b,o,u,rfl,hf,hb,by omega,hu,hr,by omega,by omega,fun _=>⟨b,o+1,rfl,hf,hb,fun i hi=>?_⟩⟩;obtain ⟨u',hu',hr'⟩:=hx (i+1) (by simpa using hi);exact ⟨u',by rw [←hu',Af5,Nat.add_comm 1 i],by simpa using hr'⟩
theorem Ij {F G:Nat→Prop} {w:World} {d:Nd} {u:Value} {T:TypeId} {k:Nat} (hk:w.heap.size=k) (h:NdX F w d u) (hG:∀ b,F b→b < w.heap.size→G b) (hn:G w.heap.size):Be G (w.alloc (.cells #[u] T)) [d] (some ⟨k,0,none⟩) 1:=by
 subst hk;have hb:=Blk.new w #[u] T _ rfl;refine ⟨Afq _,by decide,fun _=>⟨w.heap.size,0,rfl,hn,hb.lt,fun i hi=>?_⟩⟩;obtain rfl:i=0:=by simp at hi;exact hi
 have hB:=(Afv w.heap.size w).alloc (Afq _) (.cells #[u] T);exact ⟨u,(hb.cell 0).trans rfl,h.keep hB.size (fun b hf hlt=>⟨hG b hf hlt,fun o=>hB.cell (p:=⟨b,o,none⟩) hlt⟩)⟩
theorem I5 {F:Nat→Prop} (d:Nd) (v:Value) (w:World) (h:NdX F w d v) :
  Calls prog 33 #[v] w fun e w'=>∃ a cap,e=.returned (.slice a (Cn d).length cap)∧Be (fun b=>F b∨w.heap.size≤b) w' (Cn d) a cap∧Below w.heap.size w w':=by
 obtain ⟨n,h⟩:=h;cases n with
 | zero=>exact h.elim
 | succ n=>
  cases d with
  | empty=>
   rcases h with rfl | rfl
   ·go_enter func33,ntmps33;go_wp2_with fail
    go_ret;exact ⟨none,0,rfl,Be.nil _ _ _ _ (by decide),Afv _ _⟩
   ·go_enter func33,ntmps33;go_wp2_with fail
    go_ret;exact ⟨none,0,rfl,Be.nil _ _ _ _ (by decide),Afv _ _⟩
  | one s=>
   obtain rfl:=h;go_enter func33,ntmps33;go_wp2_with fail
   go_ret;exact ⟨none,0,rfl,Be.nil _ _ _ _ (by decide),Afv _ _⟩
  | back num=>
   obtain rfl:=h;go_enter func33,ntmps33;go_wp2_with fail
   go_ret;exact ⟨none,0,rfl,Be.nil _ _ _ _ (by decide),Afv _ _⟩
  | start=>
   obtain rfl:=h;go_enter func33,ntmps33;go_wp2_with fail
   go_ret;exact ⟨none,0,rfl,Be.nil _ _ _ _ (by decide),Afv _ _⟩
  | fin=>
   obtain rfl:=h;go_enter func33,ntmps33;go_wp2_with fail
   go_ret;exact ⟨none,0,rfl,Be.nil _ _ _ _ (by decide),Afv _ _⟩
  | cat l=>
   obtain ⟨a,cap,rfl,hx⟩:=h;have hR:Be F w l a cap:=Be.of (n:=n) hx;clear hx;go_enter func33,ntmps33;go_wp2_with fail
   go_ret;have hB:=(Afv w.heap.size w).alloc (Afq _) (.cells #[.slice a l.length cap] 97);exact ⟨a,cap,rfl,hR.keep hB.size (fun b hf hlt=>⟨.inl hf,fun o=>hB.cell (p:=⟨b,o,none⟩) hlt⟩),hB⟩
  | alt l=>
   obtain ⟨a,cap,rfl,hx⟩:=h;have hR:Be F w l a cap:=Be.of (n:=n) hx;clear hx;go_enter func33,ntmps33;go_wp2_with fail
   go_ret;have hB:=(Afv w.heap.size w).alloc (Afq _) (.cells #[.slice a l.length cap] 98);exact ⟨a,cap,rfl,hR.keep hB.size (fun b hf hlt=>⟨.inl hf,fun o=>hB.cell (p:=⟨b,o,none⟩) hlt⟩),hB⟩
  | rep d mn mx=>
   obtain ⟨u,rfl,hu⟩:=h;have hX:NdX F w d u:=⟨n,hu⟩
   rcases Ay hu with ⟨T,q,rfl⟩ | rfl
   ·clear hu;go_enter func33,ntmps33;go_wp2_with fail
    go_ret;have hB:=(Afv w.heap.size w).alloc (Afq _) (.cells #[.iface T q,.int .i64 mn,.int .i64 mx] 100);refine ⟨_,_,rfl,Ij (G:=fun b=>F b∨w.heap.size≤b) (by simp) (hX.below hB) (fun b hf _=>.inl hf) (.inr hB.size),hB.alloc hB.size _⟩
   ·clear hu;go_enter func33,ntmps33;go_wp2_with fail
    go_ret;have hB:=(Afv w.heap.size w).alloc (Afq _) (.cells #[.nilIface,.int .i64 mn,.int .i64 mx] 100);refine ⟨_,_,rfl,Ij (G:=fun b=>F b∨w.heap.size≤b) (by simp) (hX.below hB) (fun b hf _=>.inl hf) (.inr hB.size),hB.alloc hB.size _⟩
  | group num d=>
   obtain ⟨u,rfl,hu⟩:=h;have hX:NdX F w d u:=⟨n,hu⟩
   rcases Ay hu with ⟨T,q,rfl⟩ | rfl
   ·clear hu;go_enter func33,ntmps33;go_wp2_with fail
    go_ret;have hB:=(Afv w.heap.size w).alloc (Afq _) (.cells #[.int .i64 num,.iface T q] 102);refine ⟨_,_,rfl,Ij (G:=fun b=>F b∨w.heap.size≤b) (by simp) (hX.below hB) (fun b hf _=>.inl hf) (.inr hB.size),hB.alloc hB.size _⟩
   ·clear hu;go_enter func33,ntmps33;go_wp2_with fail
    go_ret;have hB:=(Afv w.heap.size w).alloc (Afq _) (.cells #[.int .i64 num,.nilIface] 102);refine ⟨_,_,rfl,Ij (G:=fun b=>F b∨w.heap.size≤b) (by simp) (hX.below hB) (fun b hf _=>.inl hf) (.inr hB.size),hB.alloc hB.size _⟩
end
section
open Go Go.RowKit
theorem Boxed.ne_of {W:World} {A B:Nat} {t u:TypeId} {v x:Value} (h:Boxed W A t v) (k:Boxed W B u x) (htu:t≠u):A≠B:=by
 intro e;subst e;have:=(show W.heap[A]?=_ from h).symm.trans k;simp at this;exact htu this.2
theorem Boxed.same {W W':World} {B:Nat} {t:TypeId} {v:Value} (h:Boxed W B t v) (k:W'.heap[B]?=W.heap[B]?):Boxed W' B t v:=k.trans h
theorem Ab {w w':World} {base:Nat} {e:TypeId} {size:Nat} {v:Value} {n:Nat} {xs:List Value} (h:w.ownsRow base e size v n xs) (hb:∀ g,v.ownBlock=some g→w'.heap[g]?=w.heap[g]?):w'.ownsRow base e size v n xs:=by
 obtain ⟨h1,h2⟩:=h;refine ⟨h1,?_⟩;rcases h2 with h2 | ⟨g,cap,cur,rfl,b,c,d⟩
 ·exact .inl h2
 ·exact .inr ⟨g,cap,cur,rfl,b,(hb g rfl).trans c,d⟩
theorem Sw {w:World} {base:Nat} {e:TypeId} {size g n cap m:Nat} {xs:List Value} (h:w.ownsRow base e size (.slice (some ⟨g,0,none⟩) n cap) m xs):n≤cap:=by
 rcases h.2 with ⟨e,_⟩ | ⟨g5,cap5,cur5,e,_,_,h5,_⟩
 ·cases e
 ·simp only [Value.slice.injEq] at e;omega
def StkC (G:Nat→Prop) (W:World):List (Nd × List Nd)→List Value→Prop
 | [],us=>us=[]
 | x :: s,us=>∃ v a cap us',us=v :: .slice a x.2.length cap :: us'∧NdX G W x.1 v∧Be G W x.2 a cap∧StkC G W s us'
theorem StkC.len {G:Nat→Prop} {W:World}:∀ {s:List (Nd × List Nd)} {us:List Value},StkC G W s us→us.length=s.length * 2
 | [],us,h=>by rw [show us=[] from h];rfl
 | x :: s,us,⟨v,a,cap,us',h,_,_,h4⟩=>by rw [h];have:=StkC.len h4;simp [this];omega
theorem StkC.keep {F G:Nat→Prop} {W W':World} (hs:W.heap.size≤W'.heap.size) (hF:∀ b,F b→b < W.heap.size→G b∧∀ o,W'.cell? ⟨b,o,none⟩=W.cell? ⟨b,o,none⟩) :
  ∀ {s:List (Nd × List Nd)} {us:List Value},StkC F W s us→StkC G W' s us
 | [],_,h=>h
 | _ :: _,_,⟨v,a,cap,us',h,h2,h3,h4⟩=>⟨v,a,cap,us',h,h2.keep hs hF,h3.keep hs hF,StkC.keep hs hF h4⟩
theorem StkC.snoc {G:Nat→Prop} {W:World} {d:Nd} {r:List Nd} {v:Value} {a:Option Addr} {cap:Nat} (hd:NdX G W d v) (hr:Be G W r a cap) :
  ∀ {s:List (Nd × List Nd)} {us:List Value},StkC G W s us→StkC G W (s++[(d,r)]) (us++[v,.slice a r.length cap])
 | [],us,h=>by obtain rfl:us=[]:=h;exact ⟨v,a,cap,[],rfl,hd,hr,rfl⟩
 | _ :: _,_,⟨v',a',cap',us',h,h2,h3,h4⟩=>⟨v',a',cap',_,by rw [h];rfl,h2,h3,StkC.snoc hd hr h4⟩
theorem StkC.last {G:Nat→Prop} {W:World} {d:Nd} {r:List Nd} :
  ∀ {s:List (Nd × List Nd)} {us:List Value},StkC G W (s++[(d,r)]) us→∃ us' v a cap,us=us'++[v,.slice a r.length cap]∧NdX G W d v∧Be G W r a cap∧StkC G W s us'
 | [],us,⟨v,a,cap,us',h,h2,h3,h4⟩=>by obtain rfl:us'=[]:=h4;exact ⟨[],v,a,cap,h,h2,h3,rfl⟩
 | x :: s,us,⟨v',a',cap',us',h,h2,h3,h4⟩=>by
  obtain ⟨us2,v,a,cap,e,g2,g3,g4⟩:=StkC.last h4;exact ⟨v' :: .slice a' x.2.length cap' :: us2,v,a,cap,by rw [h,e];rfl,g2,g3,v',a',cap',us2,rfl,h2,h3,g4⟩
def Lies (n₀ base:Nat) (C:Nat→Prop) (S:Nat) (sv:Value) (b:Nat):Prop:=b < n₀∨(base≤b∧¬ C b∧b≠S∧sv.ownBlock≠some b)
theorem Oq {n₀ base:Nat} {C:Nat→Prop} {S:Nat} {sv:Value} {W:World} {d:Nd} {v:Value} (h:NdX (Lies n₀ base C S sv) W d v):NdX (fun k=>k < n₀∨(base≤k∧¬ C k)) W d v:=
 h.keep (Afq _) (fun _ hb _=>⟨Or.elim hb .inl (fun h=>.inr ⟨h.1,h.2.1⟩),fun _=>rfl⟩)
structure Stk (n₀ base S Y l:Nat) (C:Nat→Prop) (W:World) (s:List (Nd × List Nd)) (sv:Value) (us:List Value):Prop where
 box:Boxed W S 217 sv
 yld:Boxed W Y 216 (.func (.yield l) #[] #[])
 bS:base≤S
 bY:base≤Y
 bn:n₀≤base
 cS:¬ C S
 cY:¬ C Y
 cC:∀ k,C k→base≤k
 row:W.ownsRow base 219 2 sv s.length us
 cR:∀ g,sv.ownBlock=some g→¬ C g
 cells:StkC (Lies n₀ base C S sv) W s us
theorem Stk.lS {n₀ base S Y l:Nat} {C:Nat→Prop} {W:World} {s:List (Nd × List Nd)} {sv:Value} {us:List Value} (h:Stk n₀ base S Y l C W s sv us):S < W.heap.size:=h.box.lt
theorem Stk.neSY {n₀ base S Y l:Nat} {C:Nat→Prop} {W:World} {s:List (Nd × List Nd)} {sv:Value} {us:List Value} (h:Stk n₀ base S Y l C W s sv us):S≠Y:=Boxed.ne_of h.box h.yld (by decide)
theorem Stk.nr {n₀ base S Y l:Nat} {C:Nat→Prop} {W:World} {s:List (Nd × List Nd)} {sv:Value} {us:List Value} (h:Stk n₀ base S Y l C W s sv us):∀ g,sv.ownBlock=some g→base≤g∧g < W.heap.size∧g≠S∧g≠Y∧¬ C g:=fun g hg=>
 ⟨(h.row.lt g hg).1,(h.row.lt g hg).2,fun e=>Boxed.not_row h.box (by decide) h.row (by rw [hg,e]),fun e=>Boxed.not_row h.yld (by decide) h.row (by rw [hg,e]),h.cR g hg⟩
theorem Tx {n₀ base S Y l:Nat} {C:Nat→Prop} {W:World} {s:List (Nd × List Nd)} {g n cap:Nat} {us:List Value} (h:Stk n₀ base S Y l C W s (.slice (some ⟨g,0,none⟩) n cap) us) {k:Nat} (hk:Lies n₀ base C S (.slice (some ⟨g,0,none⟩) n cap) k):k≠g:=by
 rcases hk with h1 | h1
 ·have:=h.bn;have:=(h.nr g rfl).1;omega
 ·intro e;exact h1.2.2.2 (congrArg some e.symm)
theorem Stk.round {n₀ base S Y l:Nat} {C C':Nat→Prop} {W W':World} {s:List (Nd × List Nd)} {sv:Value} {us:List Value} (h:Stk n₀ base S Y l C W s sv us) (hr:Rdn n₀ base C C' W W') (hC:∀ k,C' k→base≤k):Stk n₀ base S Y l C' W' s sv us:=by
 have hnew:∀ b,b < W.heap.size→¬ C b→¬ C' b:=fun b hb hc hc'=>(hr.new b hc').elim hc (fun h=>by omega)
 refine ⟨Boxed.same h.box (hr.block _ h.box.lt (.inr ⟨h.bS,h.cS⟩)),Boxed.same h.yld (hr.block _ h.yld.lt (.inr ⟨h.bY,h.cY⟩)),h.bS,h.bY,h.bn,hnew _ h.box.lt h.cS,hnew _ h.yld.lt h.cY,hC,
  Ab h.row (fun g hg=>hr.block _ (h.nr g hg).2.1 (.inr ⟨(h.nr g hg).1,(h.nr g hg).2.2.2.2⟩)),fun g hg=>hnew g (h.nr g hg).2.1 (h.nr g hg).2.2.2.2,?_⟩
 refine h.cells.keep hr.size (fun b hf hb=>⟨?_,fun o=>Afy (w:=W) (a:=⟨b,o,none⟩) (hr.block b hb ?_)⟩)
 ·rcases hf with hf | ⟨h1,h2,h3,h4⟩
  ·exact .inl hf
  ·exact .inr ⟨h1,hnew b hb h2,h3,h4⟩
 ·rcases hf with hf | ⟨h1,h2,h3,h4⟩
  ·exact .inl hf
  ·exact .inr ⟨h1,h2⟩
theorem Stk.below {n₀ base S Y l:Nat} {C:Nat→Prop} {W W':World} {s:List (Nd × List Nd)} {sv:Value} {us:List Value} (h:Stk n₀ base S Y l C W s sv us) (hb:Below W.heap.size W W'):Stk n₀ base S Y l C W' s sv us:=
 h.round ⟨hb.size,fun k hk _=>hb.block k hk,fun _ hk=>.inl hk⟩ h.cC
theorem Ty {n₀ base S:Nat} {C:Nat→Prop} {W:World} {sv v':Value} {b:Nat} (hb:Lies n₀ base C S sv b) (hlt:b < W.heap.size) (hat:v'.ownBlock=sv.ownBlock∨v'.ownBlock=some W.heap.size):Lies n₀ base C S v' b:=by
 rcases hb with hb | ⟨h1,h2,h3,h4⟩
 ·exact .inl hb
 ·refine .inr ⟨h1,h2,h3,?_⟩;rcases hat with e | e
  ·rw [e];exact h4
  ·rw [e];intro e2;injection e2 with e2;omega
theorem Stk.push {n₀ base S Y l:Nat} {C:Nat→Prop} {W w2 w3:World} {s:List (Nd × List Nd)} {sv v' v:Value} {us:List Value} {d:Nd} {r:List Nd} {a:Option Addr} {cap:Nat}
  (h:Stk n₀ base S Y l C W s sv us) (hb:Below W.heap.size W w2) (hd:NdX (Lies n₀ base C S sv) W d v) (hr:Be (fun b=>Lies n₀ base C S sv b∨W.heap.size≤b) w2 r a cap) (hC:∀ k,C k→k < W.heap.size)
  (hown:w3.ownsRow base 219 2 v' (s.length+1) (us++[v,.slice a r.length cap])) (hg:w2.grownBy w3 sv.ownBlock) (hat:v'.ownBlock=sv.ownBlock∨v'.ownBlock=some w2.heap.size) :
  Boxed w3 S 217 sv∧Stk n₀ base S Y l C (w3.setCell ⟨S,0,none⟩ v') (s++[(d,r)]) v' (us++[v,.slice a r.length cap])∧Other base C W (w3.setCell ⟨S,0,none⟩ v')∧NdX (Lies n₀ base C S v') (w3.setCell ⟨S,0,none⟩ v') d v:=by
 have h2:=h.below hb;have hS3:Boxed w3 S 217 sv:=h2.box.kept hg (fun e=>(h2.nr S e.symm).2.2.1 rfl);have hY3:Boxed w3 Y 216 (.func (.yield l) #[] #[]):=h2.yld.kept hg (fun e=>(h2.nr Y e.symm).2.2.2.1 rfl);have hbs:base≤w2.heap.size:=Afu (Nat.lt_of_le_of_lt h2.bS h2.box.lt);have hlt3:=hown.lt;have hCv:∀ g,v'.ownBlock=some g→¬ C g:=fun g hg' hc=>by
  rcases hat with e | e
  ·rw [e] at hg';exact h2.cR g hg' hc
  ·rw [e] at hg';injection hg' with hg';have:=hC g hc;have:=hb.size;omega
 have hnS:∀ g,v'.ownBlock=some g→g≠S∧g≠Y:=fun g hg'=>by
  rcases hat with e | e
  ·rw [e] at hg';exact ⟨(h2.nr g hg').2.2.1,(h2.nr g hg').2.2.2.1⟩
  ·rw [e] at hg';injection hg' with hg';have:=h2.box.lt;have:=h2.yld.lt;omega
 have hblk:∀ k,k < w2.heap.size→sv.ownBlock≠some k→k≠S→(w3.setCell ⟨S,0,none⟩ v').heap[k]?=w2.heap[k]?:=fun k hk h1 h3=>
  (Afw _ _ _ _ h3).trans (hg.block k hk (fun e=>h1 e.symm))
 have hsz:w2.heap.size≤(w3.setCell ⟨S,0,none⟩ v').heap.size:=by have:=hg.size;simpa [World.setCell] using this
 have hkeep:∀ b,Lies n₀ base C S sv b∨(W.heap.size≤b∧b < w2.heap.size)→b < w2.heap.size→Lies n₀ base C S v' b∧∀ o,(w3.setCell ⟨S,0,none⟩ v').cell? ⟨b,o,none⟩=w2.cell? ⟨b,o,none⟩:=by
  intro b hf hlt;have hf2:Lies n₀ base C S sv b:=by
   rcases hf with hf | ⟨hf,_⟩
   ·exact hf
   ·refine .inr ⟨by have:=h.bS;have:=h.box.lt;omega,fun hc=>by have:=hC b hc;omega,fun e=>by have:=h.box.lt;omega,fun e=>by have:=(h.nr b e).2.1;omega⟩
  refine ⟨Ty hf2 hlt hat,fun o=>Afy (w:=w2) (a:=⟨b,o,none⟩) (hblk b hlt ?_ ?_)⟩
  ·rcases hf2 with h1 | h1
   ·intro e;have:=(h2.nr b e).1;have:=h.bn;omega
   ·exact h1.2.2.2
  ·rcases hf2 with h1 | h1
   ·have:=h.bn;have:=h.bS;omega
   ·exact h1.2.2.1
 refine ⟨hS3,⟨hS3.set v',?_,h.bS,h.bY,h.bn,h.cS,h.cY,h.cC,?_,hCv,?_⟩,?_⟩
 ·exact Boxed.same hY3 (Afw _ _ _ _ (Ne.symm h.neSY))
 ·rw [Afs];exact Ab hown (fun g hg'=>Afw _ _ _ _ (hnS g hg').1)
 ·refine StkC.snoc ?_ ?_ ?_
  ·exact (hd.below hb).keep hsz (fun b hf hlt=>hkeep b (.inl hf) hlt)
  ·exact hr.keep hsz (fun b hf hlt=>hkeep b (hf.elim .inl (fun h=>.inr ⟨h,hlt⟩)) hlt)
  ·exact h2.cells.keep hsz (fun b hf hlt=>hkeep b (.inl hf) hlt)
 ·exact ⟨(((Other.of_below hb).trans (Other.refl base C w2)).grown hg (fun k hk=>⟨(h2.nr k hk).1,(h2.nr k hk).2.2.2.2⟩)).setCell (p:=⟨S,0,none⟩) h.bS h.cS v',(hd.below hb).keep hsz (fun b hf hlt=>hkeep b (.inl hf) hlt)⟩
theorem Stk.top {n₀ base S Y l:Nat} {C:Nat→Prop} {W:World} {s:List (Nd × List Nd)} {sv:Value} {us:List Value} {d:Nd} {r:List Nd} (h:Stk n₀ base S Y l C W (s++[(d,r)]) sv us) :
  ∃ g cap us' v a cap',sv=.slice (some ⟨g,0,none⟩) (s.length+1) cap∧us=us'++[v,.slice a r.length cap']∧us'.length=s.length * 2∧W.cell? ⟨g,s.length * 2,none⟩=some v∧W.cell? ⟨g,s.length * 2+1,none⟩=some (.slice a r.length cap')∧W.frozen? ⟨g,s.length * 2+1,none⟩=false∧
   NdX (Lies n₀ base C S sv) W d v∧Be (Lies n₀ base C S sv) W r a cap':=by
 have hrow:=h.row;rw [Afs] at hrow;obtain ⟨g,cap,rfl⟩:=ownsRow_succ hrow;obtain ⟨us',v,a,cap',rfl,h1,h2,h3⟩:=h.cells.last;have hl:=h3.len;refine ⟨g,cap,us',v,a,cap',rfl,rfl,hl,?_,?_,hrow.frozenAt _,h1,h2⟩
 ·rw [hrow.cellAt (s.length * 2) (show s.length * 2 < (s.length+1) * 2 by omega),←hl,List.getElem?_append_right (Afq _)];simp
 ·rw [hrow.cellAt (s.length * 2+1) (show s.length * 2+1 < (s.length+1) * 2 by omega),←hl,List.getElem?_append_right (by omega)];rw [show us'.length+1 - us'.length=1 by omega];rfl
theorem Stk.pop {n₀ base S Y l:Nat} {C:Nat→Prop} {W:World} {s:List (Nd × List Nd)} {g cap:Nat} {us:List Value} {d:Nd} {r:List Nd} (h:Stk n₀ base S Y l C W (s++[(d,r)]) (.slice (some ⟨g,0,none⟩) (s.length+1) cap) us) :
  ∃ us',Stk n₀ base S Y l C (W.setCell ⟨S,0,none⟩ (.slice (some ⟨g,0,none⟩) s.length cap)) s (.slice (some ⟨g,0,none⟩) s.length cap) us'∧Other base C W (W.setCell ⟨S,0,none⟩ (.slice (some ⟨g,0,none⟩) s.length cap)):=by
 have hrow:=h.row;rw [Afs] at hrow;obtain ⟨us',v,a,cap',rfl,h1,h2,h3⟩:=h.cells.last;have hp:=ownsRow_pop h3.len hrow;have hng:=h.nr g rfl;refine ⟨us',⟨h.box.set _,?_,h.bS,h.bY,h.bn,h.cS,h.cY,h.cC,?_,fun g' hg'=>h.cR g' hg',?_⟩,(Other.refl base C W).setCell (p:=⟨S,0,none⟩) h.bS h.cS _⟩
 ·exact Boxed.same h.yld (Afw _ _ _ _ (Ne.symm h.neSY))
 ·exact Ab hp (fun g' hg'=>Afw _ _ _ _ (by simp [Value.ownBlock] at hg';subst hg';exact hng.2.2.1))
 ·refine h3.keep (by simp [World.setCell]) (fun b hf hlt=>⟨hf,fun o=>Afy (w:=W) (a:=⟨b,o,none⟩) (Afw _ _ _ _ ?_)⟩);rcases hf with h1 | h1
  ·have:=h.bn;have:=h.bS;simp;omega
  ·exact h1.2.2.1
theorem Stk.shift {n₀ base S Y l:Nat} {C:Nat→Prop} {W:World} {s:List (Nd × List Nd)} {g cap cap':Nat} {a:Option Addr} {us:List Value} {d:Nd} {r r':List Nd} (h:Stk n₀ base S Y l C W (s++[(d,r)]) (.slice (some ⟨g,0,none⟩) (s.length+1) cap) us)
  (hr:Be (Lies n₀ base C S (.slice (some ⟨g,0,none⟩) (s.length+1) cap)) W r' a cap') :
  ∃ us',Stk n₀ base S Y l C (W.setCell ⟨g,s.length * 2+1,none⟩ (.slice a r'.length cap')) (s++[(d,r')]) (.slice (some ⟨g,0,none⟩) (s.length+1) cap) us'∧Other base C W (W.setCell ⟨g,s.length * 2+1,none⟩ (.slice a r'.length cap')):=by
 have hrow:=h.row;rw [Afs] at hrow;obtain ⟨us',v,a2,cap2,rfl,h1,h2,h3⟩:=h.cells.last;have hl:=h3.len;have hng:=h.nr g rfl;have hst:=(hrow.stored (s.length * 2+1) (.slice a r'.length cap')).1;rw [←hl,List.set_append_right _ _ (by omega)] at hst;simp at hst;rw [hl] at hst;have hk:∀ b,Lies n₀ base C S (.slice (some ⟨g,0,none⟩) (s.length+1) cap) b→b < W.heap.size→Lies n₀ base C S (.slice (some ⟨g,0,none⟩) (s.length+1) cap) b∧∀ o,(W.setCell ⟨g,s.length * 2+1,none⟩ (.slice a r'.length cap')).cell? ⟨b,o,none⟩=W.cell? ⟨b,o,none⟩:=fun b hf hlt=>
  ⟨hf,fun o=>Afy (w:=W) (a:=⟨b,o,none⟩) (Afw _ _ _ _ (by
   rcases hf with h1 | h1
   ·have:=h.bn;simp;omega
   ·intro e;exact h1.2.2.2 (congrArg some e.symm)))⟩
 have hsz:W.heap.size≤(W.setCell ⟨g,s.length * 2+1,none⟩ (.slice a r'.length cap')).heap.size:=by simp [World.setCell]
 refine ⟨us'++[v,.slice a r'.length cap'],⟨?_,?_,h.bS,h.bY,h.bn,h.cS,h.cY,h.cC,?_,fun g' hg'=>h.cR g' hg',?_⟩,(Other.refl base C W).setCell (p:=⟨g,_,none⟩) hng.1 hng.2.2.2.2 _⟩
 ·exact Boxed.same h.box (Afw _ _ _ _ (Ne.symm hng.2.2.1))
 ·exact Boxed.same h.yld (Afw _ _ _ _ (Ne.symm hng.2.2.2.1))
 ·rw [Afs];exact hst
 ·exact StkC.snoc (h1.keep hsz hk) (hr.keep hsz hk) (h3.keep hsz hk)
theorem Bj {w:World} {b:Nat} {T:TypeId} {v0 v1 v2 v3:Value} (h:Blk w b #[v0,v1,v2,v3] T) :
  w.cell? ⟨b,0,none⟩=some v0∧w.cell? ⟨b,1,none⟩=some v1∧w.cell? ⟨b,2,none⟩=some v2∧w.cell? ⟨b,3,none⟩=some v3∧
  w.frozen? ⟨b,0,none⟩=false∧w.frozen? ⟨b,1,none⟩=false∧w.frozen? ⟨b,2,none⟩=false∧w.frozen? ⟨b,3,none⟩=false∧b < w.heap.size:=
 ⟨(h.cell 0).trans rfl,(h.cell 1).trans rfl,(h.cell 2).trans rfl,(h.cell 3).trans rfl,h.frozen 0,h.frozen 1,h.frozen 2,h.frozen 3,h.lt⟩
theorem Ey {w w':World} {p:Nat} {cs:Array Value} {T:TypeId} (h:Blk w p cs T) (e:w'.heap[p]?=w.heap[p]?):Blk w' p cs T:=by
 unfold Blk at h ⊢;rw [e,h]
theorem Abc {w0 w:World} {p:Nat} {T:TypeId} {u0 u1 u2 u3:Value} (hb:Below w0.heap.size w0 w) (hp:w0.heap.size≤p) (h:Blk w p #[u0,u1,u2,u3] T) (v0 v1 v2 v3:Value) (w':World)
  (hw:((((w.setCell ⟨p,0,none⟩ v0).setCell ⟨p,1,none⟩ v1).setCell ⟨p,2,none⟩ v2).setCell ⟨p,3,none⟩ v3)=w') :
  Below w0.heap.size w0 w'∧Blk w' p #[v0,v1,v2,v3] T∧(∀ b,b≠p→w'.heap[b]?=w.heap[b]?)∧w'.heap.size=w.heap.size:=by
 subst hw;have h9:=(((h.set 0 v0).set 1 v1).set 2 v2).set 3 v3;have o1:∀ (w:World) (j:Nat) (v:Value) b,b≠p→(w.setCell ⟨p,j,none⟩ v).heap[b]?=w.heap[b]?:=fun w j v b hb=>Afw _ _ _ _ (fun e=>hb e)
 refine ⟨?_,h9,fun b hb=>?_,by simp [World.setCell]⟩
 ·exact (((hb.setCell (p:=⟨p,0,none⟩) hp v0).setCell (p:=⟨p,1,none⟩) hp v1).setCell (p:=⟨p,2,none⟩) hp v2).setCell (p:=⟨p,3,none⟩) hp v3
 ·rw [o1 _ _ _ _ hb,o1 _ _ _ _ hb,o1 _ _ _ _ hb,o1 _ _ _ _ hb]
theorem Cy {P:Program} {fn:Func} {Q:Ending→World→Prop} {e:Exit} {act:Act} {w0 w:World} {p:Nat} {T:TypeId} {u0 u1 u2 u3:Value} (hb:Below w0.heap.size w0 w) (h:Blk w p #[u0,u1,u2,u3] T) (hp:w0.heap.size≤p) {v0 v1 v2 v3:Value}
  (H:∀ w',Below w0.heap.size w0 w'→Blk w' p #[v0,v1,v2,v3] T→(∀ b,b≠p→w'.heap[b]?=w.heap[b]?)→w'.heap.size=w.heap.size→bodyPost P fn Q e act w') :
  bodyPost P fn Q e act ((((w.setCell ⟨p,0,none⟩ v0).setCell ⟨p,1,none⟩ v1).setCell ⟨p,2,none⟩ v2).setCell ⟨p,3,none⟩ v3):=by
 obtain ⟨h1,h2,h3,h4⟩:=Abc hb hp h v0 v1 v2 v3 _ rfl;exact H _ h1 h2 h3 h4
theorem Ac8 {P:Program} {fn:Func} {Q:Ending→World→Prop} {e:Exit} {act:Act} {w0 w:World} {p:Nat} {T:TypeId} {u0 u1 u2 u3:Value} (hb:Below w0.heap.size w0 w) (h:Blk w p #[u0,u1,u2,u3] T) (hp:w0.heap.size≤p) {v0 v1 v2 v3:Value}
  (H:∀ w',Below w0.heap.size w0 w'→Blk w' p #[v0,v1,v2,v3] T→(∀ b,b≠p→w'.heap[b]?=w.heap[b]?)→w'.heap.size=w.heap.size→bodyPost P fn Q e act w') :
  bodyPost P fn Q e act ((((w.setCell ⟨p,0,none⟩ v0).setCell ⟨p,1,none⟩ v1).setCell ⟨p,2,none⟩ v2).setCell ⟨p,3,none⟩ v3).drew:=by
 obtain ⟨h1,h2,h3,h4⟩:=Abc hb hp h v0 v1 v2 v3 _ rfl;exact H _ h1.drew h2 h3 h4
theorem BW {w:World} {B C:Nat} (h:B≤C) {e:TypeId} {size n:Nat} {v:Value} {xs:List Value} (k:w.ownsRow C e size v n xs):w.ownsRow B e size v n xs:=by
 obtain ⟨h1,h2⟩:=k;refine ⟨h1,?_⟩;rcases h2 with h2 | ⟨g,cap,cur,a,b,c⟩
 ·exact .inl h2
 ·exact .inr ⟨g,cap,cur,a,by omega,c⟩
theorem AM {w w':World} {p:Nat} {r:Option Nat} {cs:Array Value} {T:TypeId} (h:Blk w p cs T) (hg:w.grownBy w' r) (hne:r≠some p):Blk w' p cs T:=by
 have hl:=h.lt;unfold Blk at h ⊢;rw [hg.block p hl (fun e=>hne e.symm)];exact h
theorem Gu {w:World} {b:Nat} {T:TypeId} {v0 v1 v2:Value} (h:Blk w b #[v0,v1,v2] T) :
  w.cell? ⟨b,0,none⟩=some v0∧w.cell? ⟨b,1,none⟩=some v1∧w.cell? ⟨b,2,none⟩=some v2∧
  w.frozen? ⟨b,0,none⟩=false∧w.frozen? ⟨b,1,none⟩=false∧w.frozen? ⟨b,2,none⟩=false∧b < w.heap.size:=
 ⟨(h.cell 0).trans rfl,(h.cell 1).trans rfl,(h.cell 2).trans rfl,h.frozen 0,h.frozen 1,h.frozen 2,h.lt⟩
theorem Sx {P:Program} {fn:Func} {Q:Ending→World→Prop} {e:Exit} {act:Act} {w0 w:World} {p:Nat} {T:TypeId} {u0 u1 u2:Value} (hb:Below w0.heap.size w0 w) (h:Blk w p #[u0,u1,u2] T) (hp:w0.heap.size≤p) {v0 v1 v2:Value}
  (H:∀ w',Below w0.heap.size w0 w'→Blk w' p #[v0,v1,v2] T→(∀ b,b≠p→w'.heap[b]?=w.heap[b]?)→w'.heap.size=w.heap.size→bodyPost P fn Q e act w') :
  bodyPost P fn Q e act (((w.setCell ⟨p,0,none⟩ v0).setCell ⟨p,1,none⟩ v1).setCell ⟨p,2,none⟩ v2):=by
 have o1:∀ (w:World) (j:Nat) (v:Value) b,b≠p→(w.setCell ⟨p,j,none⟩ v).heap[b]?=w.heap[b]?:=fun w j v b hb=>Afw _ _ _ _ (fun e=>hb e)
 refine H _ ?_ (((h.set 0 v0).set 1 v1).set 2 v2) (fun b hb=>?_) (by simp [World.setCell])
 ·exact ((hb.setCell (p:=⟨p,0,none⟩) hp v0).setCell (p:=⟨p,1,none⟩) hp v1).setCell (p:=⟨p,2,none⟩) hp v2
 ·rw [o1 _ _ _ _ hb,o1 _ _ _ _ hb,o1 _ _ _ _ hb]
theorem Af {w w2:World} {cs:Array Value} {T:TypeId} (h:w.alloc (.cells cs T)=w2):Blk w2 w.heap.size cs T:=by
 subst h;exact Blk.new w cs T _ rfl
theorem Ad {w w2:World} {o:Obj} (h:w.alloc o=w2):Below w.heap.size w w2:=by
 subst h;exact (Afv _ _).alloc (Afq _) _
def Ez (m:Nat × Nat):List Value:=[.int .i64 (m.1:Int),.string ⟨#[92,UInt8.ofNat m.2]⟩]
def marksC (l:List (Nat × Nat)):List Value:=l.flatMap Ez
theorem IR (l:List (Nat × Nat)) (m:Nat × Nat):marksC (l++[m])=marksC l++Ez m:=by unfold marksC;rw [List.flatMap_append];simp
theorem C3:∃ i,Tryz.prog.info? 33=some i∧i.zero=some (.agg #[.int .i64 0,.string ⟨#[]⟩])∧i.size=2∧i.bytes=24:=by
 have h:(Tryz.prog.info? 33).map (fun i=>(i.zero,i.size,i.bytes))=some (some (.agg #[.int .i64 0,.string ⟨#[]⟩]),2,24):=by kernel_rfl
 obtain ⟨i,hi,he⟩:=Option.map_eq_some_iff.1 h;injection he with h1 h2;injection h2 with h2 h3;exact ⟨i,hi,h1,h2,h3⟩
theorem AF {B:Nat} {w:World} {e:TypeId} {size n:Nat} {v:Value} {us:List Value} (h:w.ownsRow B e size v n us) (g:Nat) (hg:v.ownBlock=some g):g < w.heap.size:=by
 rcases h.2 with ⟨rfl,_⟩ | ⟨g',cap,cur,rfl,_,hh,_⟩
 ·simp [Value.ownBlock] at hg
 ·simp [Value.ownBlock] at hg;subst hg;exact (Af6.1 hh).1
structure AtSet (w0:World) (a:Nat) (t:OSet) (wx:World):Prop where
 b:Below w0.heap.size w0 wx
 s:Blk wx a #[.int .u64 (ow t 0),.int .u64 (ow t 1),.int .u64 (ow t 2),.int .u64 (ow t 3)] 108
 lo:w0.heap.size≤a
theorem CD {w:World} {a:Nat} {x y z u:Value} {T:TypeId} (h:Blk w a #[x,y,z,u] T):w.cell? ⟨a,0,none⟩=some x∧w.cell? ⟨a,1,none⟩=some y∧w.cell? ⟨a,2,none⟩=some z∧w.cell? ⟨a,3,none⟩=some u∧
  w.frozen? ⟨a,0,none⟩=false∧w.frozen? ⟨a,1,none⟩=false∧w.frozen? ⟨a,2,none⟩=false∧w.frozen? ⟨a,3,none⟩=false∧a < w.heap.size:=
 ⟨(h.cell 0).trans rfl,(h.cell 1).trans rfl,(h.cell 2).trans rfl,(h.cell 3).trans rfl,h.frozen 0,h.frozen 1,h.frozen 2,h.frozen 3,h.lt⟩
theorem Wr (cl L:List UInt8) (q:Int × Int × Nat) (h0:cl≠[]) (h:Lr cl L=some q):q.2.2≤L.length:=by
 unfold Lr at h;split at h
 ·rename_i hc;injection h with h;subst h;rw [Af9] at hc;exact FH _ _ _ hc.2 h0
 ·cases h
theorem AB {w:World} {B:Nat} {e:TypeId} {size n:Nat} {v:Value} {us:List Value} (h:w.ownsRow B e size v n us):∃ a c,v=.slice a n c:=by
 rcases h.2 with ⟨rfl,h0⟩ | ⟨g,cap,cur,rfl,_⟩
 ·exact ⟨none,0,by rw [h0]⟩
 ·exact ⟨_,_,rfl⟩
def Qq (r:ReRes (ReSt × Nd)) (w:World) (e:Ending) (w':World):Prop:=Below w.heap.size w w'∧match r with
 | .error q=>e=.returned (.tuple #[.nilIface,.slice none 0 0,.int .i64 (q.2:Int),.int .i64 (q.1:Int)])
 | .ok q=>∃ v mv,e=.returned (.tuple #[v,mv,.int .i64 0,.int .i64 0])∧NdX (fun b=>w.heap.size≤b) w' q.2 v∧w'.ownsRow w.heap.size 33 2 mv q.1.marks.length (marksC q.1.marks)
theorem Wt {s:List UInt8} {k:Nat} (h0:chAt s k 42=false) (h1:BP s k 43=false) (h2:BP s k 63=false) (h:BP s k 123=false):repAt false s k=.none:=by unfold repAt;simp [h0,h1,h2,A5,h]
theorem Wu {s:List UInt8} {k:Nat} (h:chAt s k 42=true):repAt false s k=.some 0 (-1) 0 (k+1):=by unfold repAt;rw [if_pos h]
theorem Wv {s:List UInt8} {k:Nat} (h0:chAt s k 42=false) (h:BP s k 43=true):repAt false s k=.some 1 (-1) 43 (k+2):=by unfold repAt;simp [h0,A5,AZ,h]
theorem Zz {s:List UInt8} {k:Nat} (h0:chAt s k 42=false) (h1:BP s k 43=false) (h:BP s k 63=true):repAt false s k=.some 0 1 63 (k+2):=by unfold repAt;simp [h0,h1,A5,AZ,h]
theorem Ww {s:List UInt8} {k:Nat} {m n:Int} {j:Nat} (h0:chAt s k 42=false) (h1:BP s k 43=false) (h2:BP s k 63=false) (h:BP s k 123=true) (hi:GA false s (k+2)=some (m,n,j)):repAt false s k=.some m n 0 j:=by unfold repAt;simp [h0,h1,h2,A5,AZ,h,hi]
theorem Z0 {s:List UInt8} {k:Nat} (h0:chAt s k 42=false) (h1:BP s k 43=false) (h2:BP s k 63=false) (h:BP s k 123=true) (hi:GA false s (k+2)=none):repAt false s k=.bad:=by unfold repAt;simp [h0,h1,h2,A5,AZ,h,hi]
theorem Wy:(~~~oz:OSet)=Ac 0 255:=by decide +kernel
def JY (m:Wm):List Value:=[.int .i64 m.1,.string m.2]
def wmC (l:List Wm):List Value:=l.flatMap JY
theorem Wz (l:List Wm) (m:Wm):wmC (l++[m])=wmC l++JY m:=by simp [wmC]
theorem Ik (m:Wm) (l:List Wm):wmC (m :: l)=JY m++wmC l:=by simp [wmC]
theorem MR (l k:List Wm):wmC (l++k)=wmC l++wmC k:=by simp [wmC]
theorem MS (l:List Wm):(wmC l).length=l.length * 2:=by
 induction l with
 | nil=>rfl
 | cons m l ih=>rw [Ik,Afs,ih];simp [JY];omega
theorem Tz (l:List (Nat × Nat)):marksC l=wmC (l.map NA):=by
 induction l with
 | nil=>rfl
 | cons m l ih=>
  rw [List.map_cons,Ik,←ih];rfl
theorem MT:∀ (l:List Wm) (j:Nat) (h:j < l.length),(wmC l)[j * 2]?=some (.int .i64 l[j].1)∧(wmC l)[j * 2+1]?=some (.string l[j].2)
 | [],j,h=>by simp at h
 | m :: l,0,h=>by rw [Ik];exact ⟨rfl,rfl⟩
 | m :: l,j+1,h=>by
  have ih:=MT l j (by simpa using h);rw [Ik,show (j+1) * 2=j * 2+1+1 by omega,show j * 2+1+1+1=j * 2+1+1+1 from rfl];simpa [JY] using ih
theorem Il (m:Wm):∀ u∈JY m,u.oneCell'=true:=fun u hu=>by
 simp only [JY,Afz,List.not_mem_nil,or_false] at hu;rcases hu with rfl | rfl <;> rfl
theorem MU (l:List Wm):∀ u∈wmC l,u.oneCell'=true:=fun u hu=>by
 unfold wmC at hu;obtain ⟨m,_,h⟩:=List.mem_flatMap.1 hu;exact Il m u h
theorem JZ (w:World) (m:Wm) (T:TypeId):∀ n u,(JY m)[n]?=some u→(w.alloc (.cells #[.int .i64 m.1,.string m.2] T)).cell? ((⟨w.heap.size,0,none⟩:Addr).add n)=some u:=by
 have hb:=Blk.new w #[.int .i64 m.1,.string m.2] T w.heap.size rfl;intro n u hu;rw [Go.WideShapes.add_plain,Nat.zero_add,hb.cell n,←Array.getElem?_toList];exact hu
theorem W7 {w:World} {B:Nat} {T:TypeId} {a:Option Addr} {c:Nat} {l:List Wm} (h:w.ownsRow B T 2 (.slice a l.length c) l.length (wmC l)) (h0:0 < l.length) :
  ∃ q,a=some ⟨q,0,none⟩∧q < w.heap.size∧l.length≤c∧c≤maxLen∧∀ j (hj:j < l.length),w.cell? ⟨q,j * 2,none⟩=some (.int .i64 l[j].1)∧w.cell? ⟨q,j * 2+1,none⟩=some (.string l[j].2):=by
 obtain ⟨h1,h2⟩:=h;rcases h2 with ⟨_,h3⟩ | ⟨q,cap,cur,e,hB,hh,hn,hcap,hcs,htk⟩
 ·omega
 ·injection e with e1 _ e2;subst e1 e2;refine ⟨q,rfl,(Af6.1 hh).1,hn,hcap,fun j hj=>?_⟩;have hc:∀ i,i < l.length * 2→w.cell? ⟨q,i,none⟩=(wmC l)[i]?:=fun i hi=>by
   have h4:w.cell? ⟨q,i,none⟩=cur[i]?:=by simp [World.cell?,hh]
   rw [h4,←htk,List.getElem?_take_of_lt hi,Array.getElem?_toList]
  have h5:=MT l j hj;exact ⟨(hc _ (by omega)).trans h5.1,(hc _ (by omega)).trans h5.2⟩
theorem Qr (l:List Wm) (a:Option Addr) (cap:Nat) (k:Int) (B:Nat) (w:World) (h:w.ownsRow B 33 2 (.slice a l.length cap) l.length (wmC l)) (hl:l.length≤100000) :
  Calls prog 99 #[.slice a l.length cap,.int .i64 k] w fun e w'=>∃ v,e=.returned v∧Below w.heap.size w w'∧w'.ownsRow w.heap.size 33 2 v l.length (wmC (BH k l)):=by
 have Hc:=Afj fun h0=>W7 h h0
 clear h;obtain ⟨n,hn⟩:∃ n,l.length=n:=⟨_,rfl⟩;rw [hn] at hl ⊢;have Hn:=Afj hn;obtain ⟨i0,hi,hz0,hz1,hz2⟩:=C3;clear hn;go_enter func99,ntmps99;go_wp2_with fail
 go_loopw [5,10] (fun vv i wr=>∃ (j:Nat),j≤n∧i=.int .i64 j∧wr.ownsRow w.heap.size 33 2 vv j (wmC (BH k (l.take j)))∧Below w.heap.size w wr) (fun _ i _=>n - (intOf i).toNat)
 case atStart=>exact ⟨0,by omega,rfl,World.ownsRow_nil _ _ _ _,Afv _ _⟩
 case round=>
  obtain ⟨j,hj,rfl,hrow,hb⟩:=hrel;have Hb:=Afj hb;have Hrow:=Afj hrow;obtain ⟨va,vc,rfl⟩:=AB hrow;clear hb hrow;by_cases hlt:j < n
  ·obtain ⟨q,rfl,hq,hc1,hc2,hcell⟩:=Hc.out (by rw [Hn.out];omega);rw [Hn.out] at hc1;have hjl:j < l.length:=by rw [Hn.out];omega
   obtain ⟨e0,e1⟩:=hcell j hjl;have htk:BH k (l.take (j+1))=BH k (l.take j)++[(IntKind.i64.wrap (l[j].1+k),l[j].2)]:=by
    rw [show l.take (j+1)=l.take j++[l[j]] by simp];unfold BH;rw [List.map_append];rfl
   have Htk:=Afj htk;clear htk hcell;generalize l[j]=m at e0 e1 Htk;obtain ⟨mp,mw⟩:=m;simp only at e0 e1 Htk;replace e0:=(Hb.out.cell (p:=⟨q,j * 2,none⟩) hq).trans e0;replace e1:=(Hb.out.cell (p:=⟨q,j * 2+1,none⟩) hq).trans e1;have hji:(j:Int) < (n:Int):=by omega
   have Wj:IntKind.i64.wrap ((j:Int)+1)=(j:Int)+1:=Afx _ (by omega);obtain ⟨y,hy⟩:∃ y,IntKind.i64.wrap (mp+k)=y:=⟨_,rfl⟩;rw [hy] at Htk;have hm1:j+1≤maxLen:=by unfold maxLen;omega
   have hm2:(j+1) * 24≤140737488355328:=by omega
   have hA1:=(Afv wr.heap.size wr).alloc (Afq _) (.cells #[.int .i64 mp,.string mw] 33);have hX:=Blk.new wr #[.int .i64 mp,.string mw] 33 _ rfl;have hr1:=Ah Hrow.out hA1;have hb1:=Hb.out.trans (hA1.mono Hb.out.size);obtain ⟨W1,hW1⟩:∃ W1,wr.alloc (.cells #[.int .i64 mp,.string mw] 33)=W1:=⟨_,rfl⟩;rw [hW1] at hX hr1 hb1;have x0:=(hX.cell 0).trans rfl;have x1:=(hX.cell 1).trans rfl;have hxl:=hX.lt;have Hr1:=Afj hr1;have Hb1:=Afj hb1;have hbs:w.heap.size≤(W1.alloc (.cells #[.int .i64 y,.string mw] 33)).heap.size:=by have:=hb1.size;simp;omega
   clear hX hr1 hb1 hA1;go_wp2_with (at_builtin;go_loud (refine wpList_append_own_at _ rfl _ _ 26 rfl w.heap.size 33 i0 (.agg #[.int .i64 0,.string ⟨#[]⟩]) 2 24 underlying26 hi hz0 hz1 hz2 rfl (by decide) (.slice va j vc) j (wmC (BH k (l.take j))) rfl (Ah Hr1.out ((Afv _ W1).alloc (Afq _) _)) ⟨W1.heap.size,0,none⟩ 1 1 (JY (y,mw)) rfl rfl (JZ W1 (y,mw) _) (Il _) hm1 hm2 hbs ?_;intro v6 w6 hown6 hgr6 _ hat6))
   have HF:=Afj (show w6.ownsRow w.heap.size 33 2 v6 (j+1) (wmC (BH k (l.take (j+1))))∧Below w.heap.size w w6 from by
    refine ⟨by rw [Htk.out,Wz];exact hown6,(Hb1.out.alloc Hb1.out.size _).grown hgr6 hbs (fun b hb=>AS Hrow.out b hb)⟩)
   obtain ⟨v6a,v6c,rfl⟩:=AB hown6;clear hown6 hgr6 hat6;go_roundw
   case rel=>exact ⟨j+1,by omega,by go_num,HF.out.1,HF.out.2⟩
   case measure=>simp [intOf];omega
  ·obtain rfl:n=j:=by omega
   have HF:=Afj (And.intro Hb.out Hrow.out);rw [show l.take n=l by rw [←Hn.out,List.take_length]] at HF;clear Hb Hrow;go_wp2_with fail
   go_ret;exact ⟨_,rfl,HF.out.1,HF.out.2⟩
theorem Ka (k:Int) (l:List Wm):(BH k l).length=l.length:=by simp [BH]
theorem Z2 {l:List Wm} {n:Nat} (hn:l.length=n) (a:Option Addr) (cap:Nat) (k:Int) (B:Nat) (w:World) (h:w.ownsRow B 33 2 (.slice a n cap) n (wmC l)) (hl:n≤100000) :
  Calls prog 99 #[.slice a n cap,.int .i64 k] w fun e w'=>∃ a' c',e=.returned (.slice a' n c')∧Below w.heap.size w w'∧w'.ownsRow w.heap.size 33 2 (.slice a' n c') n (wmC (BH k l)):=by
 subst hn;refine (Qr l a cap k B w h hl).mono ?_;rintro e w' ⟨v,rfl,h1,h2⟩;obtain ⟨a',c',rfl⟩:=AB h2;exact ⟨a',c',rfl,h1,h2⟩
structure RStep (p:Nat) (w:World) (mv cv:Value) (w':World) (mv' cv':Value):Prop where
 os:w'.os=w.os
 tape:w'.tape=w.tape
 output:w'.output=w.output
 size:w.heap.size≤w'.heap.size
 block:∀ b,b < w.heap.size→b≠p→mv.ownBlock≠some b→cv.ownBlock≠some b→w'.heap[b]?=w.heap[b]?∧mv'.ownBlock≠some b∧cv'.ownBlock≠some b
theorem RStep.refl (p:Nat) (w:World) (mv cv:Value):RStep p w mv cv w mv cv:=⟨rfl,rfl,rfl,Afq _,fun _ _ _ h1 h2=>⟨rfl,h1,h2⟩⟩
theorem RStep.trans {p:Nat} {w w1 w2:World} {mv cv mv1 cv1 mv2 cv2:Value} (h:RStep p w mv cv w1 mv1 cv1) (k:RStep p w1 mv1 cv1 w2 mv2 cv2):RStep p w mv cv w2 mv2 cv2:=
 ⟨k.os.trans h.os,k.tape.trans h.tape,k.output.trans h.output,Afr h.size k.size,fun b hb hp h1 h2=>by
  obtain ⟨e1,e2,e3⟩:=h.block b hb hp h1 h2;obtain ⟨f1,f2,f3⟩:=k.block b (Aft hb h.size) hp e2 e3;exact ⟨f1.trans e1,f2,f3⟩⟩
theorem RStep.of_below {p:Nat} {w w':World} {mv cv:Value} (h:Below w.heap.size w w'):RStep p w mv cv w' mv cv:=
 ⟨h.os,h.tape,h.output,h.size,fun b hb _ h1 h2=>⟨h.block b hb,h1,h2⟩⟩
def OffR (p:Nat) (mv cv:Value) (b:Nat):Prop:=b≠p∧mv.ownBlock≠some b∧cv.ownBlock≠some b
theorem RStep.keep {p:Nat} {w w':World} {mv cv mv' cv':Value} (h:RStep p w mv cv w' mv' cv'):∀ b,OffR p mv cv b→b < w.heap.size→OffR p mv' cv' b∧∀ o,w'.cell? ⟨b,o,none⟩=w.cell? ⟨b,o,none⟩:=fun b hf hb=>by
 obtain ⟨e1,e2,e3⟩:=h.block b hb hf.1 hf.2.1 hf.2.2;exact ⟨⟨hf.1,e2,e3⟩,fun o=>Afy (w:=w) (a:=⟨b,o,none⟩) e1⟩
structure Rd (B p:Nat) (w:World) (s:ByteArray) (st:ReSt) (es:List Bool) (dep:Nat) (mv cv:Value):Prop where
 blk:Blk w p #[.string s,.int .i64 (st.pos:Int),mv,cv,.int .i64 (dep:Int)] 201
 mo:w.ownsRow B 33 2 mv st.marks.length (marksC st.marks)
 co:w.ownsRow B 4 1 cv es.length (es.map Value.bool)
 rr:RR es (st.opened:Int) st.closed
 bp:B≤p
 mp:mv.ownBlock≠some p
 cp:cv.ownBlock≠some p
 mc:∀ b,mv.ownBlock=some b→cv.ownBlock≠some b
 pos:st.pos≤s.size
 small:s.size≤250
 few:st.marks.length≤st.pos∧es.length≤st.pos
theorem Rd.below {B p:Nat} {w w':World} {s:ByteArray} {st:ReSt} {es:List Bool} {dep:Nat} {mv cv:Value} (h:Rd B p w s st es dep mv cv) (hb:Below w.heap.size w w'):Rd B p w' s st es dep mv cv:=
 { h with blk:=h.blk.below hb h.blk.lt,mo:=Ah h.mo hb,co:=Ah h.co hb }
structure RdC (w:World) (p:Nat) (s:ByteArray) (k:Int) (mv cv:Value) (d:Int):Prop where
 c0:w.cell? ⟨p,0,none⟩=some (.string s)
 c1:w.cell? ⟨p,1,none⟩=some (.int .i64 k)
 c2:w.cell? ⟨p,2,none⟩=some mv
 c3:w.cell? ⟨p,3,none⟩=some cv
 c4:w.cell? ⟨p,4,none⟩=some (.int .i64 d)
 z1:w.frozen? ⟨p,1,none⟩=false
 z2:w.frozen? ⟨p,2,none⟩=false
 z3:w.frozen? ⟨p,3,none⟩=false
 z4:w.frozen? ⟨p,4,none⟩=false
theorem Rd.cells {B p:Nat} {w:World} {s:ByteArray} {st:ReSt} {es:List Bool} {dep:Nat} {mv cv:Value} (h:Rd B p w s st es dep mv cv):RdC w p s (st.pos:Int) mv cv (dep:Int):=
 ⟨(h.blk.cell 0).trans rfl,(h.blk.cell 1).trans rfl,(h.blk.cell 2).trans rfl,(h.blk.cell 3).trans rfl,(h.blk.cell 4).trans rfl,h.blk.frozen 1,h.blk.frozen 2,h.blk.frozen 3,h.blk.frozen 4⟩
theorem Rd.goto {B p:Nat} {w:World} {s:ByteArray} {st:ReSt} {es:List Bool} {dep:Nat} {mv cv:Value} (h:Rd B p w s st es dep mv cv) (k:Nat) (hk:st.pos≤k) (hs:k≤s.size) :
  Rd B p (w.setCell ⟨p,1,none⟩ (.int .i64 (k:Int))) s (st.to k) es dep mv cv∧RStep p w mv cv (w.setCell ⟨p,1,none⟩ (.int .i64 (k:Int))) mv cv:=by
 have hset:∀ b,b≠p→(w.setCell ⟨p,1,none⟩ (.int .i64 (k:Int))).heap[b]?=w.heap[b]?:=fun b hb=>Afw _ _ _ _ (fun e=>hb e)
 have hsz:(w.setCell ⟨p,1,none⟩ (.int .i64 (k:Int))).heap.size=w.heap.size:=by simp [World.setCell]
 refine ⟨{ blk:=(h.blk.set 1 (.int .i64 (k:Int))),mo:=?_,co:=?_,rr:=h.rr,bp:=h.bp,mp:=h.mp,cp:=h.cp,mc:=h.mc,pos:=hs,small:=h.small,few:=⟨Afr h.few.1 hk,Afr h.few.2 hk⟩ },?_⟩
 ·exact h.mo.kept ⟨rfl,rfl,rfl,by rw [hsz];exact Afq _,fun b _ hb=>hset b (fun e=>hb (by rw [e]))⟩ (Or.inr h.mp)
 ·exact h.co.kept ⟨rfl,rfl,rfl,by rw [hsz];exact Afq _,fun b _ hb=>hset b (fun e=>hb (by rw [e]))⟩ (Or.inr h.cp)
 ·exact ⟨rfl,rfl,rfl,by rw [hsz];exact Afq _,fun b _ hp h1 h2=>⟨hset b hp,h1,h2⟩⟩
theorem Fv {B p:Nat} {s:ByteArray} {st:ReSt} {es:List Bool} {dep:Nat} {mv cv:Value} (t:ByteArray) (w:World) (h:Rd B p w s st es dep mv cv) :
  Calls prog 151 #[.pointer (some ⟨p,0,none⟩),.string t] w fun e w'=>e=.returned (.bool (AV s.data.toList st.pos t.data.toList))∧∃ n,w'=w.drewN n:=by
 obtain ⟨c0,c1,c2,c3,c4,z1,z2,z3,z4⟩:=h.cells;have hp:=h.pos;have hs:=h.small;have hx:=BS s st.pos;have hc:=fun w=>Cw (s.extract st.pos s.size) t w
 rw [hx] at hc;clear hx h;unfold AV;go_enter func151,ntmps151;go_wp2_with fail
 have hp2:(st.pos:Int)≤(s.size:Int):=by omega
 go_quiet ((go_at_call 21;exact Calls.quiet_of_same ((hc _).mono fun _ _ h=>⟨h.1,h.2.symm⟩)))
 go_wp2_with fail
 go_ret;exact ⟨rfl,_,rfl⟩
theorem Im {B p:Nat} {s:ByteArray} {st:ReSt} {es:List Bool} {dep:Nat} {mv cv:Value} (t:ByteArray) (w:World) (h:Rd B p w s st es dep mv cv) (hn:AV s.data.toList st.pos t.data.toList=false) :
  Calls prog 138 #[.pointer (some ⟨p,0,none⟩),.string t] w fun e w'=>e=.returned (.bool false)∧∃ n,w'=w.drewN n:=by
 have hc:=Fv t w h;rw [hn] at hc;clear h;go_enter func138,ntmps138;go_wp2_with (go_at_call 151;refine hc.mono ?_;rintro e w' ⟨rfl,n,rfl⟩)
 go_ret;exact ⟨rfl,n,rfl⟩
theorem FQ {B p:Nat} {s:ByteArray} {st:ReSt} {es:List Bool} {dep:Nat} {mv cv:Value} (t:ByteArray) (w:World) (h:Rd B p w s st es dep mv cv) (hn:AV s.data.toList st.pos t.data.toList=true) (h0:t.data.toList≠[]) :
  Calls prog 138 #[.pointer (some ⟨p,0,none⟩),.string t] w fun e w'=>e=.returned (.bool true)∧Rd B p w' s (st.to (st.pos+t.size)) es dep mv cv∧RStep p w mv cv w' mv cv:=by
 have hc:=Fv t w h;rw [hn] at hc;have hl:=FH _ _ _ hn h0;have e1:s.data.toList.length=s.size:=by simp
 have e2:t.data.toList.length=t.size:=by simp
 rw [e1,e2] at hl;have hsm:=h.small;have Wn:IntKind.i64.wrap ((st.pos:Int)+(t.size:Int))=((st.pos+t.size:Nat):Int):=by rw [Afx _ (by omega)];omega
 have hg:=fun n=>(h.below (below_drewN (Afv w.heap.size w) n)).goto (st.pos+t.size) (by omega) hl
 have hstep:=fun n=>RStep.of_below (p:=p) (mv:=mv) (cv:=cv) (below_drewN (Afv w.heap.size w) n)
 obtain ⟨c0,c1,c2,c3,c4,z1,z2,z3,z4⟩:=h.cells;have hx:(st.pos:Int)+(t.size:Int)=((st.pos+t.size:Nat):Int):=by omega
 clear h hn h0 e1 e2;have HG:=Afj hg;have HX:=Afj hx;clear hg hx;go_enter func138,ntmps138;go_wp2_with (go_at_call 151;refine hc.mono ?_;rintro e w' ⟨rfl,n,rfl⟩)
 go_ret;refine ⟨rfl,?_,?_⟩
 ·exact (HG.out n).1
 ·exact (hstep n).trans (HG.out n).2
theorem Gm (s:ByteArray) (k:Nat) (w:World) :
  Calls prog 139 #[.string (s.extract k s.size)] w fun e w'=>e=.returned (.bool (AG s.data.toList k))∧w=w':=by
 have h1:=fun w=>Cw (s.extract k s.size) ⟨#[92,124]⟩ w
 have h2:=fun w=>Cw (s.extract k s.size) ⟨#[92,41]⟩ w
 have hx:=BS s k;rw [hx] at h1 h2;rw [P7];unfold AV;have hE:(s.data.toList.drop k).isEmpty=(s.extract k s.size).toList.isEmpty:=by rw [←hx,ByteArray.toList_eq]
 rw [hE];generalize s.extract k s.size=r at *;generalize s.data.toList.drop k=l at *;clear hE hx;cases he:r.toList.isEmpty
 ·have e2:¬ r.toList=[]:=by intro e;rw [e] at he;cases he
  have e1:(r.toList == [])=false:=by rw [beq_eq_false_iff_ne];exact e2
  cases q1:Lib.hasPrefix l [92,124]
  ·rw [show Lib.hasPrefix l (⟨#[92,124]⟩:ByteArray).data.toList=false from q1] at h1;cases q2:Lib.hasPrefix l [92,41]
   ·rw [show Lib.hasPrefix l (⟨#[92,41]⟩:ByteArray).data.toList=false from q2] at h2;clear q1 q2;go_enter func139,ntmps139;go_wp2_with (first | (go_at_call_of 21 (ByteArray.mk #[92,124]);refine (h1 _).mono ?_;rintro e w' ⟨rfl,rfl⟩) | (go_at_call 21;refine (h2 _).mono ?_;rintro e w' ⟨rfl,rfl⟩))
    go_ret;exact ⟨rfl,rfl⟩
   ·rw [show Lib.hasPrefix l (⟨#[92,41]⟩:ByteArray).data.toList=true from q2] at h2;clear q1 q2;go_enter func139,ntmps139;go_wp2_with (first | (go_at_call_of 21 (ByteArray.mk #[92,124]);refine (h1 _).mono ?_;rintro e w' ⟨rfl,rfl⟩) | (go_at_call 21;refine (h2 _).mono ?_;rintro e w' ⟨rfl,rfl⟩))
    go_ret;exact ⟨rfl,rfl⟩
  ·rw [show Lib.hasPrefix l (⟨#[92,124]⟩:ByteArray).data.toList=true from q1] at h1;clear q1;go_enter func139,ntmps139;go_wp2_with (first | (go_at_call_of 21 (ByteArray.mk #[92,124]);refine (h1 _).mono ?_;rintro e w' ⟨rfl,rfl⟩) | (go_at_call 21;refine (h2 _).mono ?_;rintro e w' ⟨rfl,rfl⟩))
   go_ret;exact ⟨rfl,rfl⟩
 ·have e2:r.toList=[]:=List.isEmpty_iff.1 he;have e1:(r.toList == [])=true:=by rw [e2];rfl
  clear h1 h2;go_enter func139,ntmps139;go_wp2_with fail
  go_ret;exact ⟨rfl,rfl⟩
theorem Qs (n b c d e:Nat) (h:¬ b < 128):127 < (Lib.decodeN n b c d e).1:=by
 unfold Lib.decodeN;rw [if_neg h]
 repeat' split
 all_goals (simp only;omega)
theorem T0 (s:ByteArray) (pos:Nat) (h:¬ (s.data.toList.getD pos 0).toNat < 128):127 < (Utf8.decode s pos).1:=by
 rw [E7];exact Qs _ _ _ _ _ h
theorem Fa (s:ByteArray) (k:Nat):(s.extract k s.size).size=s.size - k:=by
 simp
theorem Rd.mark {B p:Nat} {W w6:World} {s:ByteArray} {st:ReSt} {es:List Bool} {dep:Nat} {mv cv v6:Value} {m:Nat × Nat} (h:Rd B p W s st es dep mv cv)
  (hown:w6.ownsRow B 33 2 v6 (st.marks.length+1) (marksC st.marks++Ez m)) (hg:W.grownBy w6 mv.ownBlock) (hat:v6.ownBlock=mv.ownBlock∨v6.ownBlock=some W.heap.size) (hfew:st.marks.length+1≤st.pos) :
  Rd B p (w6.setCell ⟨p,2,none⟩ v6) s { st with marks:=st.marks++[m] } es dep v6 cv∧RStep p W mv cv (w6.setCell ⟨p,2,none⟩ v6) v6 cv:=by
 have hpl:=h.blk.lt;have hcl:=fun b hb=>AF h.co b hb
 have hset:∀ b,b≠p→(w6.setCell ⟨p,2,none⟩ v6).heap[b]?=w6.heap[b]?:=fun b hb=>Afw _ _ _ _ (fun e=>hb e)
 have hsz:(w6.setCell ⟨p,2,none⟩ v6).heap.size=w6.heap.size:=by simp [World.setCell]
 have hv6p:v6.ownBlock≠some p:=by
  rcases hat with e | e
  ·rw [e];exact h.mp
  ·rw [e];intro he;injection he with he;omega
 have hb6:Blk w6 p #[.string s,.int .i64 (st.pos:Int),mv,cv,.int .i64 (dep:Int)] 201:=by
  have h1:=h.blk;unfold Blk at h1 ⊢;rw [hg.block p hpl (fun e=>h.mp e.symm)];exact h1
 have hco6:=h.co.kept hg (by
  rcases hc:cv.ownBlock with _ | b
  ·exact .inl rfl
  ·refine .inr (fun e=>?_);exact h.mc b e.symm hc)
 refine ⟨{ blk:=hb6.set 2 v6,mo:=?_,co:=?_,rr:=h.rr,bp:=h.bp,mp:=hv6p,cp:=h.cp,mc:=?_,pos:=h.pos,small:=h.small,few:=⟨by simp;exact hfew,h.few.2⟩ },?_⟩
 ·rw [Afs,IR];exact hown.kept ⟨rfl,rfl,rfl,by rw [hsz];exact Afq _,fun b _ hb=>hset b (fun e=>hb (by rw [e]))⟩ (Or.inr hv6p)
 ·exact hco6.kept ⟨rfl,rfl,rfl,by rw [hsz];exact Afq _,fun b _ hb=>hset b (fun e=>hb (by rw [e]))⟩ (Or.inr h.cp)
 ·intro b hb;rcases hat with e | e
  ·exact h.mc b (by rw [←e];exact hb)
  ·intro hc;rw [e] at hb;injection hb with hb;have:=hcl b hc;omega
 ·refine ⟨hg.os,hg.tape,hg.output,by rw [hsz];exact hg.size,fun b hb hp h1 h2=>⟨?_,?_,h2⟩⟩
  ·rw [hset b hp];exact hg.block b hb (fun e=>h1 e.symm)
  ·rcases hat with e | e
   ·rw [e];exact h1
   ·rw [e];intro he;injection he with he;omega
theorem Kb {B p:Nat} {s:ByteArray} {st:ReSt} {es:List Bool} {dep:Nat} {mv cv:Value} (t:ByteArray) (w:World) (h:Rd B p w s st es dep mv cv) (hn:AV s.data.toList st.pos t.data.toList=false) :
  Calls prog 125 #[.pointer (some ⟨p,0,none⟩),.string t] w fun e w'=>e=.returned (.bool false)∧∃ n,w'=w.drewN n:=by
 have hc:=Im t w h hn;obtain ⟨c0,c1,c2,c3,c4,z1,z2,z3,z4⟩:=h.cells;clear h;go_enter func125,ntmps125;go_wp2_with (go_at_call 138;refine hc.mono ?_;rintro e w' ⟨rfl,n,rfl⟩)
 go_ret;exact ⟨rfl,n,rfl⟩
theorem I6 {B p:Nat} {s:ByteArray} {st:ReSt} {es:List Bool} {dep:Nat} {mv cv:Value} (c:Nat) (w:World) (h:Rd B p w s st es dep mv cv) (hn:AV s.data.toList st.pos [92,UInt8.ofNat c]=true) :
  Calls prog 125 #[.pointer (some ⟨p,0,none⟩),.string ⟨#[92,UInt8.ofNat c]⟩] w fun e w'=>e=.returned (.bool true)∧∃ mv',Rd B p w' s ((st.mark c).to (st.pos+2)) es dep mv' cv∧RStep p w mv cv w' mv' cv:=by
 obtain ⟨i0,hi,hz0,hz1,hz2⟩:=C3;have hc:=FQ ⟨#[92,UInt8.ofNat c]⟩ w h hn (by simp);rw [show (ByteArray.mk #[92,UInt8.ofNat c]).size=2 from rfl] at hc;have hs:=h.small;have hp:=h.pos;have hfew:=h.few.1;obtain ⟨c0,c1,c2,c3,c4,z1,z2,z3,z4⟩:=h.cells;have hb0:=Afr h.bp (Afu h.blk.lt);clear h;go_enter func125,ntmps125;go_wp2_with fail
 refine hc.mono ?_;rintro e w1 ⟨rfl,hR,hS⟩;clear hc c0 c1 c2 c3 c4 z1 z2 z3 z4;obtain ⟨c0,c1,c2,c3,c4,z1,z2,z3,z4⟩:=hR.cells;have hA:=(Afv w1.heap.size w1).alloc (Afq _) (.cells #[.int .i64 (st.pos:Int),.string ⟨#[92,UInt8.ofNat c]⟩] 33);have hRA:=hR.below hA;have hpl:=hR.blk.lt;have hSA:=hS.trans (RStep.of_below (p:=p) (mv:=mv) (cv:=cv) hA);have hnw:∀ j u,(Ez (st.pos,c))[j]?=some u→(w1.alloc (.cells #[.int .i64 (st.pos:Int),.string ⟨#[92,UInt8.ofNat c]⟩] 33)).cell? ((⟨w1.heap.size,0,none⟩:Addr).add j)=some u:=by
  have hb:=Blk.new w1 #[.int .i64 (st.pos:Int),.string ⟨#[92,UInt8.ofNat c]⟩] 33 w1.heap.size rfl;intro j u hu;rw [Go.WideShapes.add_plain,Nat.zero_add,hb.cell j,←Array.getElem?_toList];exact hu
 have hv1:∀ u∈Ez (st.pos,c),u.oneCell'=true:=by intro u hu;simp [Ez] at hu;rcases hu with rfl | rfl <;> rfl
 have hm1:(st.to (st.pos+2)).marks.length+1≤maxLen:=by show st.marks.length+1≤_;unfold maxLen;omega
 have hm2:((st.to (st.pos+2)).marks.length+1) * 24≤140737488355328:=by show (st.marks.length+1) * 24≤_;omega
 have hbase:B≤w1.heap.size:=Afr hR.bp (Afu hpl);have HS:=Afj hSA;have HR:=Afj hRA;clear hA hRA hSA hR hS;go_wp2_with (at_builtin;refine Ag _ rfl _ _ 26 rfl B 33 i0 (.agg #[.int .i64 0,.string ⟨#[]⟩]) 2 24 underlying26 hi hz0 hz1 hz2 rfl (by decide) mv _ _ rfl HR.out.mo (some ⟨w1.heap.size,0,none⟩) 1 1 (Ez (st.pos,c)) rfl rfl (fun _=>⟨_,rfl,hnw⟩) hv1 hm1 hm2 (by simp;omega) ?_;intro v6 w6 hown6 hgrow6 hat6;have HM:=Afj (HR.out.mark (m:=(st.pos,c)) hown6 hgrow6 hat6 (by show st.marks.length+1≤st.pos+2;omega));have hfz:w6.frozen? ⟨p,2,none⟩=false:=(hgrow6.frozen_far ⟨p,2,none⟩ (by simp;omega) (fun e=>HR.out.mp e.symm)).trans (HR.out.blk.frozen 2);have hce:w6.cell? ⟨p,2,none⟩=some mv:=(hgrow6.cell_far ⟨p,2,none⟩ (by simp;omega) (fun e=>HR.out.mp e.symm)).trans ((HR.out.blk.cell 2).trans rfl);obtain ⟨g,gcap,hv6,_,_⟩:=World.ownsRow.form hown6 (Nat.succ_pos _);subst hv6;clear hown6 hgrow6 hat6 hnw c0 c1 c2 c3 c4 z1 z2 z3 z4)
 go_ret;exact ⟨rfl,_,HM.out.1,HS.out.trans HM.out.2⟩
end
section
open Go Go.RowKit Go.Shelf
theorem Z3:Go.Proofs.Lays.n206 prog Aed:={
 mixed:=by kernel_rfl
 f206:=Tryz.func30.trans (congrArg some (by kernel_rfl))
 t3:=underlying3
 a3:=isAgg3
 z3:=sizeOf3
 v3:=zeroValue3
 t4:=underlying4
 a4:=isAgg4
 z4:=sizeOf4
 v4:=zeroValue4
 t9:=underlying9
 a9:=isAgg9
 z9:=sizeOf9
 v9:=zeroValue9 }
theorem IS (s t:ByteArray) (w:World) :
  Calls prog 30 #[.string s,.string t] w fun e w'=>e=.returned (.bool (Lib.hasPrefix s.data.toList t.data.toList))∧w=w':=
 (Any.stringslite_HasPrefix Z3 s t w).mono fun _ _ ⟨h1,h2⟩=>⟨h1,h2.symm⟩
theorem Ot (s t:ByteArray) (h:Lib.hasPrefix s.data.toList t.data.toList=true):t.size≤s.size:=by
 unfold Lib.hasPrefix at h;have h1:=(List.isPrefixOf_iff_prefix.1 h).length_le;simpa using h1
theorem Z4 (s t:ByteArray) (w:World) (h:Lib.hasPrefix s.data.toList t.data.toList=false) :
  Calls prog 164 #[.string s,.string t] w fun e w'=>e=.returned (.tuple #[.string s,.bool false])∧w=w':=by
 have hc:=IS s t w;rw [h] at hc;clear h;go_enter func164,ntmps164;go_wp2_with (go_at_call 30;refine hc.mono ?_;rintro e w' ⟨rfl,rfl⟩)
 go_ret2
 exact ⟨rfl,rfl⟩
theorem WA (s t:ByteArray) (w:World) (h:Lib.hasPrefix s.data.toList t.data.toList=true) :
  Calls prog 164 #[.string s,.string t] w fun e w'=>e=.returned (.tuple #[.string (s.extract t.size s.size),.bool true])∧w=w':=by
 have hc:=IS s t w;have hs:=Ot s t h;have hs2:(t.size:Int)≤(s.size:Int):=by omega
 rw [h] at hc;clear h;go_enter func164,ntmps164;go_wp2_with (go_at_call 30;refine hc.mono ?_;rintro e w' ⟨rfl,rfl⟩)
 go_ret2
 exact ⟨rfl,rfl⟩
theorem Qt (s t:ByteArray) (w:World) (h:Lib.hasPrefix s.data.toList t.data.toList=false) :
  Calls prog 156 #[.string s,.string t] w fun e w'=>e=.returned (.tuple #[.string s,.bool false])∧w=w':=by
 have hc:=Z4 s t w h;clear h;go_enter func156,ntmps156;go_wp2_with (go_at_call 164;refine hc.mono ?_;rintro e w' ⟨rfl,rfl⟩)
 go_ret2
 exact ⟨rfl,rfl⟩
theorem MV (s t:ByteArray) (w:World) (h:Lib.hasPrefix s.data.toList t.data.toList=true) :
  Calls prog 156 #[.string s,.string t] w fun e w'=>e=.returned (.tuple #[.string (s.extract t.size s.size),.bool true])∧w=w':=by
 have hc:=WA s t w h;clear h;go_enter func156,ntmps156;go_wp2_with (go_at_call 164;refine hc.mono ?_;rintro e w' ⟨rfl,rfl⟩)
 go_ret2
 exact ⟨rfl,rfl⟩
theorem MW {fn:Func} {a b c d:Tmp} (h:fn.results=#[.tmp a,.tmp b,.tmp c,.tmp d]) (tmps:Array Value) (P:Program) (w:World) :
  (results fn tmps).run P w=.ok (.tuple #[tmps.getD a undef,tmps.getD b undef,tmps.getD c undef,tmps.getD d undef]) w:=by
 simp [results,h]
theorem Jm {a:Int} {s:ByteArray} {b c:Bool} (h:b=c):Ending.returned (.tuple #[.int .i64 a,.string s,.bool b])=.returned (.tuple #[.int .i64 a,.string s,.bool c]):=by rw [h]
theorem L4 (r:ByteArray) (w:World) (hs:r.size≤250) :
  Calls prog 163 #[.string r] w fun e w'=>e=.returned (.tuple #[.int .i64 ((A9 r.data.toList 3 0 0).2:Int),.string (r.extract (A9 r.data.toList 3 0 0).1 r.size),.bool (CP r.data.toList 0)])∧Below w.heap.size w w':=by
 have hrb:∀ j,(r.data.toList.getD j 0).toNat=byt r.data.toList j:=fun j=>rfl
 have HRB:=Afj hrb;have hrs:r.data.toList.length=r.size:=by simp
 have HRS:=Afj hrs;clear hrb hrs;obtain ⟨D,hD⟩:∃ D,D=A9 r.data.toList 3 0 0:=⟨_,rfl⟩;unfold CP;rw [←hD];have HD:=Afj hD;clear hD;go_enter func163,ntmps163;go_wp2_with fail
 all_goals go_wp2_with fail
 go_loopw [2,5] (fun v d wr=>∃ k x:Nat,k≤3∧d=.int .i64 (k:Int)∧v=.int .i64 (x:Int)∧x≤9999∧(k=0→x=0)∧(k≤2→x≤99)∧(k≤1→x≤9)∧k≤r.size∧wr.heap[w.heap.size]?=some (.stringIter r k)∧Below w.heap.size w wr∧D=(k+(A9 r.data.toList (3 - k) k x).1,(A9 r.data.toList (3 - k) k x).2)) (fun _ d _=>3 - (intOf d).toNat)
 case atStart=>
  refine ⟨0,0,by omega,rfl,rfl,by omega,fun _=>rfl,fun _=>by omega,fun _=>by omega,by omega,?_,?_,?_⟩
  ·exact World.iter_heap w r 0
  ·exact Agc (Afv _ _) (Afq _) _
  ·rw [HD.out];simp
 case round=>
  obtain ⟨k,x,hk3,rfl,rfl,hx,hx0,hx2,hx1,hks,hit,hV,hDk⟩:=hrel;have HDK:=Afj hDk;clear hDk;have hq:w.heap.size < wr.heap.size:=(Af6.1 hit).1;have hrs:=HRS.out;by_cases hlt:k < r.size
  ·have hnx:∀ ty,(Instr.next (.pointer (some ⟨w.heap.size,0,none⟩)) true ty).run prog wr=_:=fun ty=>Lib.run_next_any_at wr w.heap.size r k ty hit hlt
   have hbw2:=Lib.below_iterAt hV (k:=w.heap.size) (Afq _) r (k+(Utf8.decode r k).2);have hit2:=Lib.iterAt_heap wr w.heap.size r k (k+(Utf8.decode r k).2) hit;have hdec:byt r.data.toList k < 128→Utf8.decode r k=(byt r.data.toList k,1):=fun hlo=>by
    have h1:=HRB.out k;rw [E7,IM _ _ _ _ _ (by rw [h1];exact hlo),h1]
   have hhi:¬ byt r.data.toList k < 128→127 < (Utf8.decode r k).1:=fun hno=>T0 _ _ (by rw [HRB.out k];exact hno)
   have hdig:FG r.data.toList k=(decide (48≤byt r.data.toList k) && decide (byt r.data.toList k≤57)):=by
    unfold FG;rw [decide_eq_true (by rw [hrs];exact hlt)];rfl
   have hb256:=G9 r.data.toList k;by_cases hgo:(48≤byt r.data.toList k∧byt r.data.toList k≤57)∧k < 3
   ·obtain ⟨⟨hg1,hg2⟩,hg3⟩:=hgo;rw [hdec (by omega)] at hnx hbw2 hit2;have hD2:D=(k+1+(A9 r.data.toList (3 - (k+1)) (k+1) (10 * x+(byt r.data.toList k - 48))).1,(A9 r.data.toList (3 - (k+1)) (k+1) (10 * x+(byt r.data.toList k - 48))).2):=by
     rw [HDK.out,show 3 - k=(3 - (k+1))+1 by omega,Vl _ _ _ _ (by rw [hdig,decide_eq_true hg1,decide_eq_true hg2];rfl)];simp only [Af5];rw [show (1:Nat)+(A9 r.data.toList (3 - (k+1)) (k+1) (10 * x+(byt r.data.toList k - 48))).1=(A9 r.data.toList (3 - (k+1)) (k+1) (10 * x+(byt r.data.toList k - 48))).1+1 by omega]
    have HD2:=Afj hD2;have hx9:=hx2 (by omega);have HX0:=Afj hx0;clear hD2 hdec hhi hdig hx0 HDK;generalize byt r.data.toList k=b at *;have e1:decide ((b:Int) < 48)=false:=by simp;omega
    have e2:decide (57 < (b:Int))=false:=by simp;omega
    have e3:((k:Int) == 3)=false:=by simp;omega
    have W1:IntKind.i64.wrap (10 * (x:Int)+((b:Int) - 48))=((10 * x+(b - 48):Nat):Int):=by rw [Afx _ (by omega)];omega
    have HL:=Afj (show k+1≤r.size by omega);clear hrs;go_wp2_with fail
    go_roundw
    case rel=>exact ⟨k+1,10 * x+(b - 48),by omega,by go_num,by go_num,by omega,by omega,by omega,by have:=HX0.out;omega,HL.out,hit2,hbw2,HD2.out⟩
    case measure=>simp [intOf];omega
   ·have hF:D=(k,x):=by
     rw [HDK.out,Mo]
     ·rfl
     ·by_cases h3:k < 3
      ·right;rw [hdig];cases h1:decide (48≤byt r.data.toList k) <;> cases h2:decide (byt r.data.toList k≤57) <;> first | rfl | exact (hgo ⟨⟨of_decide_eq_true h1,of_decide_eq_true h2⟩,h3⟩).elim
      ·left;omega
    obtain ⟨R,wd,hRw,hcase⟩:∃ R wd:Nat,Utf8.decode r k=(R,wd)∧((R < 48)∨(¬ R < 48∧57 < R)∨(¬ R < 48∧¬ 57 < R∧k=3)):=by
     by_cases hlo:byt r.data.toList k < 128
     ·exact ⟨_,_,hdec hlo,by omega⟩
     ·refine ⟨(Utf8.decode r k).1,(Utf8.decode r k).2,rfl,?_⟩;have h9:=hhi hlo;clear hnx hbw2 hit2 hdec hhi;omega
    rw [hRw] at hnx hbw2 hit2;simp only at hnx hbw2 hit2;generalize k+wd=j at hnx hbw2 hit2;subst hF;have hks2:(k:Int)≤(r.size:Int):=by omega
    clear hrs HDK hdec hhi hdig hgo hb256 hRw;have HB:=Afj hbw2;have hb1:k=0∨0 < k:=by omega
    clear hbw2;rcases hcase with h1 | ⟨h1,h2⟩ | ⟨h1,h2,h3⟩
    ·have e1:decide ((R:Int) < 48)=true:=by simp;omega
     clear h1;rcases hb1 with rfl | hb1
     ·obtain rfl:x=0:=hx0 rfl;have q1:decide ((0:Nat) < 0)=false:=rfl;go_wp2_with fail
      go_quiet (fail)
      go_wp2_with fail
      go_ret3
      exact ⟨rfl,below_drewN HB.out _⟩
     ·have q1:decide (0 < k)=true:=decide_eq_true hb1;have Hq:=Afj (show decide ((x:Int)≤255)=decide (x≤255) from decide_eq_decide.2 (by omega));go_wp2_with fail
      go_quiet (fail)
      go_wp2_with fail
      go_ret3
      exact ⟨Jm Hq.out,below_drewN HB.out _⟩
    ·have e1:decide ((R:Int) < 48)=false:=by simp;omega
     have e2:decide (57 < (R:Int))=true:=by simp;omega
     clear h1 h2;rcases hb1 with rfl | hb1
     ·obtain rfl:x=0:=hx0 rfl;have q1:decide ((0:Nat) < 0)=false:=rfl;go_wp2_with fail
      go_quiet (fail)
      go_wp2_with fail
      go_ret3
      exact ⟨rfl,below_drewN HB.out _⟩
     ·have q1:decide (0 < k)=true:=decide_eq_true hb1;have Hq:=Afj (show decide ((x:Int)≤255)=decide (x≤255) from decide_eq_decide.2 (by omega));go_wp2_with fail
      go_quiet (fail)
      go_wp2_with fail
      go_ret3
      exact ⟨Jm Hq.out,below_drewN HB.out _⟩
    ·have e1:decide ((R:Int) < 48)=false:=by simp;omega
     have e2:decide (57 < (R:Int))=false:=by simp;omega
     have e3:((k:Int) == 3)=true:=by simp;omega
     replace hb1:0 < k:=by omega
     clear h1 h2 h3;have q1:decide (0 < k)=true:=decide_eq_true hb1;have Hq:=Afj (show decide ((x:Int)≤255)=decide (x≤255) from decide_eq_decide.2 (by omega));go_wp2_with fail
     go_quiet (fail)
     go_wp2_with fail
     go_ret3
     exact ⟨Jm Hq.out,below_drewN HB.out _⟩
  ·have hnx:∀ ty,(Instr.next (.pointer (some ⟨w.heap.size,0,none⟩)) true ty).run prog wr=_:=fun ty=>Lib.run_next_end_at wr w.heap.size r k ty hit hlt
   have hF:D=(k,x):=by
    rw [HDK.out,Mo]
    ·rfl
    ·right;unfold FG;rw [decide_eq_false (by rw [hrs];exact hlt)];rfl
   subst hF;have hks2:(k:Int)≤(r.size:Int):=by omega
   clear hrs HDK;have HB:=Afj hV;have hb1:k=0∨0 < k:=by omega
   rcases hb1 with rfl | hb1
   ·obtain rfl:x=0:=hx0 rfl;have q1:decide ((0:Nat) < 0)=false:=rfl;go_wp2_with fail
    go_quiet (fail)
    go_wp2_with fail
    go_ret3
    exact ⟨rfl,below_drewN HB.out _⟩
   ·have q1:decide (0 < k)=true:=decide_eq_true hb1;have Hq:=Afj (show decide ((x:Int)≤255)=decide (x≤255) from decide_eq_decide.2 (by omega));go_wp2_with fail
    go_quiet (fail)
    go_wp2_with fail
    go_ret3
    exact ⟨Jm Hq.out,below_drewN HB.out _⟩
end
section
open Go Go.RowKit
theorem MX (r:ByteArray) (a b:Nat):(r.extract a r.size).extract b (r.extract a r.size).size=r.extract (a+b) r.size:=by
 apply ByteArray.ext;apply Array.ext';rw [BS,BS,BS,List.drop_drop]
theorem Fb {a b c d:Int} {s t:ByteArray} {x y:Bool} (h1:a=c) (h2:b=d) (h3:s=t) (h4:x=y):Ending.returned (.tuple #[.int .i64 a,.int .i64 b,.string s,.bool x])=.returned (.tuple #[.int .i64 c,.int .i64 d,.string t,.bool y]):=by rw [h1,h2,h3,h4]
theorem Ac9 (cl L:List UInt8) (h:CP L 0=false):Lq cl L=(((A9 L 3 0 0).2:Int),((A9 L 3 0 0).2:Int),(A9 L 3 0 0).1,false):=by unfold Lq;simp [h]
theorem Z6 (cl L:List UInt8) (h:CP L 0=true) (h2:chAt L (A9 L 3 0 0).1 44=false):Lq cl L=(((A9 L 3 0 0).2:Int),((A9 L 3 0 0).2:Int),(A9 L 3 0 0).1,true):=by unfold Lq;simp [h,h2]
theorem WB (cl L:List UInt8) (h:CP L 0=true) (h2:chAt L (A9 L 3 0 0).1 44=true) (h3:AV L ((A9 L 3 0 0).1+1) cl=true):Lq cl L=(((A9 L 3 0 0).2:Int),-1,(A9 L 3 0 0).1+1,true):=by unfold Lq;simp [h,h2,h3]
theorem Z7 (cl L:List UInt8) (h:CP L 0=true) (h2:chAt L (A9 L 3 0 0).1 44=true) (h3:AV L ((A9 L 3 0 0).1+1) cl=false) :
  Lq cl L=(((A9 L 3 0 0).2:Int),((A9 L 3 ((A9 L 3 0 0).1+1) 0).2:Int),(A9 L 3 0 0).1+1+(A9 L 3 ((A9 L 3 0 0).1+1) 0).1,CP L ((A9 L 3 0 0).1+1) && decide ((A9 L 3 0 0).2≤(A9 L 3 ((A9 L 3 0 0).1+1) 0).2)):=by unfold Lq;simp [h,h2,h3]
theorem Z8 (s:List UInt8) (k:Nat):CP (s.drop k) 0=CP s k:=by unfold CP;rw [I0,Nat.add_zero]
theorem Ou (r cl:ByteArray) (w:World) (hs:r.size≤250) :
  Calls prog 155 #[.string r,.string cl] w fun e w'=>e=.returned (.tuple #[.int .i64 (Lq cl.data.toList r.data.toList).1,.int .i64 (Lq cl.data.toList r.data.toList).2.1,.string (r.extract (Lq cl.data.toList r.data.toList).2.2.1 r.size),.bool (Lq cl.data.toList r.data.toList).2.2.2])∧Below w.heap.size w w':=by
 have hb1:=L4 r w hs;generalize hL:r.data.toList=L at *;generalize hC:cl.data.toList=C at *;obtain ⟨X,hX⟩:∃ X,X=Lq C L:=⟨_,rfl⟩;rw [←hX];have HX:=Afj hX;clear hX;have HI1:=Afj (Ac9 C L);have HI2:=Afj (Z6 C L);have HI3:=Afj (WB C L);have HI4:=Afj (Z7 C L);have HL:=Afj hL;have HC:=Afj hC;clear hL hC;go_enter func155,ntmps155;go_wp2_with fail
 refine hb1.mono ?_;rintro e w1 ⟨rfl,b1⟩;clear hb1;generalize hk1:(A9 L 3 0 0).1=k1 at *;generalize hv1:(A9 L 3 0 0).2=v1 at *;have hr1:(r.extract k1 r.size).data.toList=L.drop k1:=by rw [BS,HL.out]
 have hz1:=Fa r k1;clear hk1 hv1;cases q1:CP L 0
 ·have HF:=Afj (HX.out.trans (HI1.out q1));clear q1 HI1 HI2 HI3 HI4;cases q2:Lib.hasPrefix (r.extract k1 r.size).data.toList (ByteArray.mk #[44]).data.toList
  ·have hc:=Qt _ _ w1 q2;clear q2 hr1 hz1;go_wp2_with fail
   refine hc.mono ?_;rintro e w2 ⟨rfl,rfl⟩;go_wp2_with fail
   (try simp only [Exit.inBlock,Exit.then]);refine bodyPost_ret (MW rfl _ _ _) rfl ?_
   exact ⟨Fb (by rw [HF.out]) (by rw [HF.out]) (by rw [HF.out]) (by rw [HF.out]),b1⟩
  ·have hc:=MV _ _ w1 q2;clear q2 hr1 hz1;go_wp2_with fail
   refine hc.mono ?_;rintro e w2 ⟨rfl,rfl⟩;go_wp2_with fail
   (try simp only [Exit.inBlock,Exit.then]);refine bodyPost_ret (MW rfl _ _ _) rfl ?_
   exact ⟨Fb (by rw [HF.out]) (by rw [HF.out]) (by rw [HF.out]) (by rw [HF.out]),b1⟩
 ·have hq:Lib.hasPrefix (r.extract k1 r.size).data.toList (ByteArray.mk #[44]).data.toList=chAt L k1 44:=by rw [hr1];exact DH L k1 44 (by decide)
  have H2:=Afj (HI2.out q1);have H3:=Afj (HI3.out q1);have H4:=Afj (HI4.out q1);clear q1 HI1 HI2 HI3 HI4;cases q2:chAt L k1 44
  ·have HF:=Afj (HX.out.trans (H2.out q2));have hc:=Qt _ _ w1 (hq.trans q2);clear q2 hr1 hz1 hq H2 H3 H4;go_wp2_with fail
   refine hc.mono ?_;rintro e w2 ⟨rfl,rfl⟩;go_wp2_with fail
   (try simp only [Exit.inBlock,Exit.then]);refine bodyPost_ret (MW rfl _ _ _) rfl ?_
   exact ⟨Fb (by rw [HF.out]) (by rw [HF.out]) (by rw [HF.out]) (by rw [HF.out]),b1⟩
  ·have H3':=Afj (H3.out q2);have H4':=Afj (H4.out q2);have hc:=MV _ _ w1 (hq.trans q2);rw [MX,show (ByteArray.mk #[44]).size=1 from rfl] at hc;clear q2 hr1 hz1 hq H2 H3 H4;have hr2:(r.extract (k1+1) r.size).data.toList=L.drop (k1+1):=by rw [BS,HL.out]
   have hp:=Cw (r.extract (k1+1) r.size) cl w1;have hz2:=Fa r (k1+1);have hb2:=L4 (r.extract (k1+1) r.size) w1 (by omega);rw [hr2,HC.out] at hp;rw [hr2,Z8,I0,Nat.add_zero,MX] at hb2;clear hz2;rw [show Lib.hasPrefix (L.drop (k1+1)) C=AV L (k1+1) C from rfl] at hp;clear hr2;go_wp2_with fail
   refine hc.mono ?_;rintro e w2 ⟨rfl,rfl⟩;clear hc;cases q3:AV L (k1+1) C
   ·have HF:=Afj (HX.out.trans (H4'.out q3));rw [q3] at hp;clear q3 H3' H4';generalize (A9 L 3 (k1+1) 0).1=k2 at *;generalize (A9 L 3 (k1+1) 0).2=v2 at *;generalize CP L (k1+1)=o2 at *;go_wp2_with fail
    refine hp.mono ?_;rintro e w2 ⟨rfl,rfl⟩;go_wp2_with fail
    refine hb2.mono ?_;rintro e w2 ⟨rfl,b2⟩;have HD:=Afj (show decide ((v1:Int)≤(v2:Int))=decide (v1≤v2) from decide_eq_decide.2 (by omega));have hbb:=b1.trans (b2.mono b1.size);cases o2
    ·go_wp2_with fail
     (try simp only [Exit.inBlock,Exit.then]);refine bodyPost_ret (MW rfl _ _ _) rfl ?_
     exact ⟨Fb (by rw [HF.out]) (by rw [HF.out]) (by rw [HF.out]) (by rw [HF.out];rfl),hbb⟩
    ·go_wp2_with fail
     (try simp only [Exit.inBlock,Exit.then]);refine bodyPost_ret (MW rfl _ _ _) rfl ?_
     exact ⟨Fb (by rw [HF.out]) (by rw [HF.out]) (by rw [HF.out]) (by rw [HF.out,Bool.true_and];first | done | exact HD.out),hbb⟩
   ·have HF:=Afj (HX.out.trans (H3'.out q3));rw [q3] at hp;clear q3 H3' H4' hb2;go_wp2_with fail
    refine hp.mono ?_;rintro e w2 ⟨rfl,rfl⟩;go_wp2_with fail
    (try simp only [Exit.inBlock,Exit.then]);refine bodyPost_ret (MW rfl _ _ _) rfl ?_
    exact ⟨Fb (by rw [HF.out]) (by rw [HF.out]) (by rw [HF.out]) (by rw [HF.out]),b1⟩
def Kc (r:Option (Int × Int × Nat)):Ending:=match r with
 | some q=>.returned (.tuple #[.int .i64 q.1,.int .i64 q.2.1,.int .i64 (q.2.2:Int),.bool true])
 | none=>.returned (.tuple #[.int .i64 0,.int .i64 0,.int .i64 0,.bool false])
theorem Qu {r:Option (Int × Int × Nat)} {a b c:Int} {j:Nat} (h:r=some (a,b,j)) (hc:c=(j:Int)):Ending.returned (.tuple #[.int .i64 a,.int .i64 b,.int .i64 c,.bool true])=Kc r:=by subst h hc;rfl
theorem Kd {r:Option (Int × Int × Nat)} (h:r=none):Ending.returned (.tuple #[.int .i64 0,.int .i64 0,.int .i64 0,.bool false])=Kc r:=by subst h;rfl
theorem L5 (r cl:ByteArray) (w:World) (hs:r.size≤250) (h0:cl.data.toList≠[]) :
  Calls prog 145 #[.string r,.string cl] w fun e w'=>e=Kc (Lr cl.data.toList r.data.toList)∧Below w.heap.size w w':=by
 have hb1:=Ou r cl w hs;generalize hL:r.data.toList=L at *;generalize hC:cl.data.toList=C at *;obtain ⟨X,hX⟩:∃ X,X=Lr C L:=⟨_,rfl⟩;rw [←hX];have HX:=Afj hX;clear hX;obtain ⟨a,b,j,o,hB⟩:∃ a b j o,Lq C L=(a,b,j,o):=⟨_,_,_,_,rfl⟩;have HF:=Afj (show Lr C L=if o && AV L j C then some (a,b,j+C.length) else none by unfold Lr;rw [hB]);rw [hB] at hb1;simp only at hb1;have hr1:(r.extract j r.size).data.toList=L.drop j:=by rw [BS,hL]
 have hCl:C.length=cl.size:=by rw [←hC];simp
 have hq:Lib.hasPrefix (r.extract j r.size).data.toList cl.data.toList=AV L j C:=by rw [hr1,hC];rfl
 have hz:=Fa r j;clear hB hr1;have HL:=Afj hL;have HC:=Afj hC;clear hL hC;go_enter func145,ntmps145;go_wp2_with fail
 refine hb1.mono ?_;rintro e w1 ⟨rfl,b1⟩;clear hb1;cases q2:AV L j C
 ·have HG:=Afj (HX.out.trans (HF.out.trans (by rw [q2,Bool.and_false];first | done | rfl)));have hc:=Qt _ _ w1 (hq.trans q2);clear q2 hq hz hCl;cases o
  all_goals
   go_wp2_with fail
   refine hc.mono ?_;rintro e w2 ⟨rfl,rfl⟩;go_wp2_with fail
   (try simp only [Exit.inBlock,Exit.then]);refine bodyPost_ret (MW rfl _ _ _) rfl ?_
   exact ⟨Kd HG.out,b1⟩
 ·have hc:=MV _ _ w1 (hq.trans q2);have hsz:=Ot _ _ (hq.trans q2);rw [MX] at hc;have hz2:=Fa r (j+cl.size);cases o
  ·have HG:=Afj (HX.out.trans (HF.out.trans (by rw [Bool.false_and];first | done | rfl)));clear q2 hq hz hz2 hCl hsz;go_wp2_with fail
   refine hc.mono ?_;rintro e w2 ⟨rfl,rfl⟩;go_wp2_with fail
   (try simp only [Exit.inBlock,Exit.then]);refine bodyPost_ret (MW rfl _ _ _) rfl ?_
   exact ⟨Kd HG.out,b1⟩
  ·have HG:=Afj (HX.out.trans (HF.out.trans (by rw [q2];first | done | rfl)));have hj:j+cl.size≤r.size:=by
    have:=FH L j C q2 h0;rw [←HC.out,←HL.out] at this;simpa using this
   have Wn:IntKind.i64.wrap ((r.size:Int) - ((r.extract (j+cl.size) r.size).size:Int))=((j+C.length:Nat):Int):=by rw [Afx _ (by omega)];omega
   have HW:=Afj (show (r.size:Int) - ((r.size - (j+cl.size):Nat):Int)=((j+C.length:Nat):Int) by omega);clear q2 hq hz hz2 hCl hsz;go_wp2_with fail
   refine hc.mono ?_;rintro e w2 ⟨rfl,rfl⟩;go_wp2_with fail
   (try simp only [Exit.inBlock,Exit.then]);refine bodyPost_ret (MW rfl _ _ _) rfl ?_
   exact ⟨Qu HG.out HW.out,b1⟩
theorem Bq (s:ByteArray) (w:World) :
  Calls prog 158 #[.string s] w fun e w'=>e=.returned (.agg #[.int .u64 (ow (A8 s.data.toList) 0),.int .u64 (ow (A8 s.data.toList) 1),.int .u64 (ow (A8 s.data.toList) 2),.int .u64 (ow (A8 s.data.toList) 3)])∧Below w.heap.size w w':=by
 have hB0:=(Afv w.heap.size w).alloc (Afq _) (.cells #[.int .u64 0,.int .u64 0,.int .u64 0,.int .u64 0] 108);have hP0:=Blk.new w #[.int .u64 0,.int .u64 0,.int .u64 0,.int .u64 0] 108 w.heap.size rfl;have hc:=Lo s (w.alloc (.cells #[.int .u64 0,.int .u64 0,.int .u64 0,.int .u64 0] 108));rw [ByteArray.toList_eq] at hc;generalize A8 s.data.toList=t at hc ⊢;generalize CN s.data.toList=ok at hc;go_enter func158,ntmps158;go_wp2_with fail
 refine hc.mono ?_;rintro e w1 ⟨rfl,b1⟩;have hP1:=hP0.below b1 hP0.lt;have hB1:=hB0.trans (b1.mono hB0.size);have p0:=(hP1.cell 0).trans rfl;have p1:=(hP1.cell 1).trans rfl;have p2:=(hP1.cell 2).trans rfl;have p3:=(hP1.cell 3).trans rfl;have z0:=hP1.frozen 0;have z1:=hP1.frozen 1;have z2:=hP1.frozen 2;have z3:=hP1.frozen 3;have hl:=hP1.lt;clear hc hP0 hB0 b1;have g:=((((hP1.set 0 (.int .u64 (ow t 0))).set 1 (.int .u64 (ow t 1))).set 2 (.int .u64 (ow t 2))).set 3 (.int .u64 (ow t 3))).alloc (.cells #[.int .u64 (ow t 0),.int .u64 (ow t 1),.int .u64 (ow t 2),.int .u64 (ow t 3)] 108);have hBn:=((((hB1.setCell (p:=⟨w.heap.size,0,none⟩) (Afq _) (.int .u64 (ow t 0))).setCell (p:=⟨w.heap.size,1,none⟩) (Afq _) (.int .u64 (ow t 1))).setCell (p:=⟨w.heap.size,2,none⟩) (Afq _) (.int .u64 (ow t 2))).setCell (p:=⟨w.heap.size,3,none⟩) (Afq _) (.int .u64 (ow t 3))).alloc (by simp [World.setCell];omega) (.cells #[.int .u64 (ow t 0),.int .u64 (ow t 1),.int .u64 (ow t 2),.int .u64 (ow t 3)] 108);have HG:=Afj g;have HBn:=Afj hBn;clear g hBn;go_wp2_with fail
 have g:=HG.out;have hBn:=HBn.out;clear HG HBn p0 p1 p2 p3 z0 z1 z2 z3 hP1;generalize ((((w1.setCell _ _).setCell _ _).setCell _ _).setCell _ _).alloc _=w9 at g hBn ⊢;have d0:=(g.cell 0).trans rfl;have d1:=(g.cell 1).trans rfl;have d2:=(g.cell 2).trans rfl;have d3:=(g.cell 3).trans rfl;exact bodyPost_ret (v:=.agg #[.int .u64 (ow t 0),.int .u64 (ow t 1),.int .u64 (ow t 2),.int .u64 (ow t 3)]) (by simp [results,results158,go_sem,d0,d1,d2,d3]) rfl ⟨rfl,hBn⟩
theorem Z9 (w:World):Calls prog 148 #[.int .u8 110] w fun e w'=>e=.returned (.tuple #[.agg #[.int .u64 (ow (Ac 10 10) 0),.int .u64 (ow (Ac 10 10) 1),.int .u64 (ow (Ac 10 10) 2),.int .u64 (ow (Ac 10 10) 3)],.bool false,.bool true])∧Below w.heap.size w w':=by
 have hB0:=(Afv w.heap.size w).alloc (Afq _) (.cells #[.int .u64 0,.int .u64 0,.int .u64 0,.int .u64 0] 108);have hP0:=Blk.new w #[.int .u64 0,.int .u64 0,.int .u64 0,.int .u64 0] 108 w.heap.size rfl;go_enter func148,ntmps148;go_wp2_with fail;refine (Bq _ _).mono ?_;rintro e w1 ⟨rfl,b1⟩;replace hP0:=hP0.below b1 hP0.lt;replace hB0:=hB0.trans (b1.mono hB0.size);clear b1;go_wp2_with fail;refine (CI 95 (by decide) (by decide) _ _ (by simp)).mono ?_;rintro e w2 ⟨rfl,b2⟩;replace hP0:=hP0.below b2 hP0.lt;replace hB0:=hB0.trans (b2.mono hB0.size);clear b2;go_wp2_with fail;refine (DK _ _ _).mono ?_;rintro e w3 ⟨rfl,b3⟩;replace hP0:=hP0.below b3 hP0.lt;replace hB0:=hB0.trans (b3.mono hB0.size);clear b3;generalize A8 (ByteArray.mk #[97,108,110,117,109]).data.toList ||| DE [95]=t;go_wp2_with fail
 refine (CI 10 (by decide) (by decide) _ _ (by simp)).mono ?_;rintro e w4 ⟨rfl,b4⟩;replace hP0:=(hP0.alloc (.cells #[.int .u64 (ow t 0),.int .u64 (ow t 1),.int .u64 (ow t 2),.int .u64 (ow t 3)] 108)).below b4 (by have:=hP0.lt;simp;omega);replace hB0:=(hB0.alloc hB0.size (.cells #[.int .u64 (ow t 0),.int .u64 (ow t 1),.int .u64 (ow t 2),.int .u64 (ow t 3)] 108)).trans (b4.mono (by have:=hB0.size;simp;omega));clear b4;rw [show DE [(10:Int)]=Ac 10 10 from DU 10];have g:=(((hP0.set 0 (.int .u64 (ow (Ac 10 10) 0))).set 1 (.int .u64 (ow (Ac 10 10) 1))).set 2 (.int .u64 (ow (Ac 10 10) 2))).set 3 (.int .u64 (ow (Ac 10 10) 3));have hBn:=(((hB0.setCell (p:=⟨w.heap.size,0,none⟩) (Afq _) (.int .u64 (ow (Ac 10 10) 0))).setCell (p:=⟨w.heap.size,1,none⟩) (Afq _) (.int .u64 (ow (Ac 10 10) 1))).setCell (p:=⟨w.heap.size,2,none⟩) (Afq _) (.int .u64 (ow (Ac 10 10) 2))).setCell (p:=⟨w.heap.size,3,none⟩) (Afq _) (.int .u64 (ow (Ac 10 10) 3));have p0:=(hP0.cell 0).trans rfl;have p1:=(hP0.cell 1).trans rfl;have p2:=(hP0.cell 2).trans rfl;have p3:=(hP0.cell 3).trans rfl;have z0:=hP0.frozen 0;have z1:=hP0.frozen 1;have z2:=hP0.frozen 2;have z3:=hP0.frozen 3;have hl:=hP0.lt;have HG:=Afj g;have HBn:=Afj hBn;clear g hBn hP0 hB0;go_wp2_with fail;have g:=HG.out;have hBn:=HBn.out;clear HG HBn p0 p1 p2 p3 z0 z1 z2 z3;generalize (((World.setCell _ _ _).setCell _ _).setCell _ _).setCell _ _=w9 at g hBn ⊢;have d0:=(g.cell 0).trans rfl;have d1:=(g.cell 1).trans rfl;have d2:=(g.cell 2).trans rfl;have d3:=(g.cell 3).trans rfl;exact bodyPost_ret (v:=.tuple #[.agg #[.int .u64 (ow (Ac 10 10) 0),.int .u64 (ow (Ac 10 10) 1),.int .u64 (ow (Ac 10 10) 2),.int .u64 (ow (Ac 10 10) 3)],.bool false,.bool true]) (by simp [results,results148,go_sem,d0,d1,d2,d3]) rfl ⟨rfl,hBn⟩
theorem ZA (w:World):Calls prog 148 #[.int .u8 116] w fun e w'=>e=.returned (.tuple #[.agg #[.int .u64 (ow (Ac 9 9) 0),.int .u64 (ow (Ac 9 9) 1),.int .u64 (ow (Ac 9 9) 2),.int .u64 (ow (Ac 9 9) 3)],.bool true,.bool true])∧Below w.heap.size w w':=by
 have hB0:=(Afv w.heap.size w).alloc (Afq _) (.cells #[.int .u64 0,.int .u64 0,.int .u64 0,.int .u64 0] 108);have hP0:=Blk.new w #[.int .u64 0,.int .u64 0,.int .u64 0,.int .u64 0] 108 w.heap.size rfl;go_enter func148,ntmps148;go_wp2_with fail;refine (Bq _ _).mono ?_;rintro e w1 ⟨rfl,b1⟩;replace hP0:=hP0.below b1 hP0.lt;replace hB0:=hB0.trans (b1.mono hB0.size);clear b1;go_wp2_with fail;refine (CI 95 (by decide) (by decide) _ _ (by simp)).mono ?_;rintro e w2 ⟨rfl,b2⟩;replace hP0:=hP0.below b2 hP0.lt;replace hB0:=hB0.trans (b2.mono hB0.size);clear b2;go_wp2_with fail;refine (DK _ _ _).mono ?_;rintro e w3 ⟨rfl,b3⟩;replace hP0:=hP0.below b3 hP0.lt;replace hB0:=hB0.trans (b3.mono hB0.size);clear b3;generalize A8 (ByteArray.mk #[97,108,110,117,109]).data.toList ||| DE [95]=t;go_wp2_with fail
 refine (CI 9 (by decide) (by decide) _ _ (by simp)).mono ?_;rintro e w4 ⟨rfl,b4⟩;replace hP0:=(hP0.alloc (.cells #[.int .u64 (ow t 0),.int .u64 (ow t 1),.int .u64 (ow t 2),.int .u64 (ow t 3)] 108)).below b4 (by have:=hP0.lt;simp;omega);replace hB0:=(hB0.alloc hB0.size (.cells #[.int .u64 (ow t 0),.int .u64 (ow t 1),.int .u64 (ow t 2),.int .u64 (ow t 3)] 108)).trans (b4.mono (by have:=hB0.size;simp;omega));clear b4;rw [show DE [(9:Int)]=Ac 9 9 from DU 9];have g:=(((hP0.set 0 (.int .u64 (ow (Ac 9 9) 0))).set 1 (.int .u64 (ow (Ac 9 9) 1))).set 2 (.int .u64 (ow (Ac 9 9) 2))).set 3 (.int .u64 (ow (Ac 9 9) 3));have hBn:=(((hB0.setCell (p:=⟨w.heap.size,0,none⟩) (Afq _) (.int .u64 (ow (Ac 9 9) 0))).setCell (p:=⟨w.heap.size,1,none⟩) (Afq _) (.int .u64 (ow (Ac 9 9) 1))).setCell (p:=⟨w.heap.size,2,none⟩) (Afq _) (.int .u64 (ow (Ac 9 9) 2))).setCell (p:=⟨w.heap.size,3,none⟩) (Afq _) (.int .u64 (ow (Ac 9 9) 3));have p0:=(hP0.cell 0).trans rfl;have p1:=(hP0.cell 1).trans rfl;have p2:=(hP0.cell 2).trans rfl;have p3:=(hP0.cell 3).trans rfl;have z0:=hP0.frozen 0;have z1:=hP0.frozen 1;have z2:=hP0.frozen 2;have z3:=hP0.frozen 3;have hl:=hP0.lt;have HG:=Afj g;have HBn:=Afj hBn;clear g hBn hP0 hB0;go_wp2_with fail;have g:=HG.out;have hBn:=HBn.out;clear HG HBn p0 p1 p2 p3 z0 z1 z2 z3;generalize (((World.setCell _ _ _).setCell _ _).setCell _ _).setCell _ _=w9 at g hBn ⊢;have d0:=(g.cell 0).trans rfl;have d1:=(g.cell 1).trans rfl;have d2:=(g.cell 2).trans rfl;have d3:=(g.cell 3).trans rfl;exact bodyPost_ret (v:=.tuple #[.agg #[.int .u64 (ow (Ac 9 9) 0),.int .u64 (ow (Ac 9 9) 1),.int .u64 (ow (Ac 9 9) 2),.int .u64 (ow (Ac 9 9) 3)],.bool true,.bool true]) (by simp [results,results148,go_sem,d0,d1,d2,d3]) rfl ⟨rfl,hBn⟩
theorem ZB (w:World):Calls prog 148 #[.int .u8 119] w fun e w'=>e=.returned (.tuple #[.agg #[.int .u64 (ow Al 0),.int .u64 (ow Al 1),.int .u64 (ow Al 2),.int .u64 (ow Al 3)],.bool true,.bool true])∧Below w.heap.size w w':=by
 have hB0:=(Afv w.heap.size w).alloc (Afq _) (.cells #[.int .u64 0,.int .u64 0,.int .u64 0,.int .u64 0] 108);have hP0:=Blk.new w #[.int .u64 0,.int .u64 0,.int .u64 0,.int .u64 0] 108 w.heap.size rfl;go_enter func148,ntmps148;go_wp2_with fail;refine (Bq _ _).mono ?_;rintro e w1 ⟨rfl,b1⟩;replace hP0:=hP0.below b1 hP0.lt;replace hB0:=hB0.trans (b1.mono hB0.size);clear b1;go_wp2_with fail;refine (CI 95 (by decide) (by decide) _ _ (by simp)).mono ?_;rintro e w2 ⟨rfl,b2⟩;replace hP0:=hP0.below b2 hP0.lt;replace hB0:=hB0.trans (b2.mono hB0.size);clear b2;go_wp2_with fail;refine (DK _ _ _).mono ?_;rintro e w3 ⟨rfl,b3⟩;replace hP0:=hP0.below b3 hP0.lt;replace hB0:=hB0.trans (b3.mono hB0.size);clear b3;have hws:A8 (ByteArray.mk #[97,108,110,117,109]).data.toList ||| DE [95]=Al:=by unfold Al;rw [show DE [(95:Int)]=Ac 95 95 from DU 95]
 rw [hws];clear hws;have hP0:=hP0.alloc (.cells #[.int .u64 (ow Al 0),.int .u64 (ow Al 1),.int .u64 (ow Al 2),.int .u64 (ow Al 3)] 108);have hB0:=hB0.alloc hB0.size (.cells #[.int .u64 (ow Al 0),.int .u64 (ow Al 1),.int .u64 (ow Al 2),.int .u64 (ow Al 3)] 108);have g:=(((hP0.set 0 (.int .u64 (ow Al 0))).set 1 (.int .u64 (ow Al 1))).set 2 (.int .u64 (ow Al 2))).set 3 (.int .u64 (ow Al 3));have hBn:=(((hB0.setCell (p:=⟨w.heap.size,0,none⟩) (Afq _) (.int .u64 (ow Al 0))).setCell (p:=⟨w.heap.size,1,none⟩) (Afq _) (.int .u64 (ow Al 1))).setCell (p:=⟨w.heap.size,2,none⟩) (Afq _) (.int .u64 (ow Al 2))).setCell (p:=⟨w.heap.size,3,none⟩) (Afq _) (.int .u64 (ow Al 3));have p0:=(hP0.cell 0).trans rfl;have p1:=(hP0.cell 1).trans rfl;have p2:=(hP0.cell 2).trans rfl;have p3:=(hP0.cell 3).trans rfl;have z0:=hP0.frozen 0;have z1:=hP0.frozen 1;have z2:=hP0.frozen 2;have z3:=hP0.frozen 3;have hl:=hP0.lt;have HG:=Afj g;have HBn:=Afj hBn;clear g hBn hP0 hB0;go_wp2_with fail;have g:=HG.out;have hBn:=HBn.out;clear HG HBn p0 p1 p2 p3 z0 z1 z2 z3;generalize (((World.setCell _ _ _).setCell _ _).setCell _ _).setCell _ _=w9 at g hBn ⊢;have d0:=(g.cell 0).trans rfl;have d1:=(g.cell 1).trans rfl;have d2:=(g.cell 2).trans rfl;have d3:=(g.cell 3).trans rfl;exact bodyPost_ret (v:=.tuple #[.agg #[.int .u64 (ow Al 0),.int .u64 (ow Al 1),.int .u64 (ow Al 2),.int .u64 (ow Al 3)],.bool true,.bool true]) (by simp [results,results148,go_sem,d0,d1,d2,d3]) rfl ⟨rfl,hBn⟩
theorem Ada (w:World):Calls prog 148 #[.int .u8 87] w fun e w'=>e=.returned (.tuple #[.agg #[.int .u64 (ow (~~~Al) 0),.int .u64 (ow (~~~Al) 1),.int .u64 (ow (~~~Al) 2),.int .u64 (ow (~~~Al) 3)],.bool true,.bool true])∧Below w.heap.size w w':=by
 have hB0:=(Afv w.heap.size w).alloc (Afq _) (.cells #[.int .u64 0,.int .u64 0,.int .u64 0,.int .u64 0] 108);have hP0:=Blk.new w #[.int .u64 0,.int .u64 0,.int .u64 0,.int .u64 0] 108 w.heap.size rfl;go_enter func148,ntmps148;go_wp2_with fail;refine (Bq _ _).mono ?_;rintro e w1 ⟨rfl,b1⟩;replace hP0:=hP0.below b1 hP0.lt;replace hB0:=hB0.trans (b1.mono hB0.size);clear b1;go_wp2_with fail;refine (CI 95 (by decide) (by decide) _ _ (by simp)).mono ?_;rintro e w2 ⟨rfl,b2⟩;replace hP0:=hP0.below b2 hP0.lt;replace hB0:=hB0.trans (b2.mono hB0.size);clear b2;go_wp2_with fail;refine (DK _ _ _).mono ?_;rintro e w3 ⟨rfl,b3⟩;replace hP0:=hP0.below b3 hP0.lt;replace hB0:=hB0.trans (b3.mono hB0.size);clear b3;have hws:A8 (ByteArray.mk #[97,108,110,117,109]).data.toList ||| DE [95]=Al:=by unfold Al;rw [show DE [(95:Int)]=Ac 95 95 from DU 95]
 rw [hws];clear hws;go_wp2_with fail
 refine (Gf _ _).mono ?_;rintro e w4 ⟨rfl,b4⟩;replace hP0:=(hP0.alloc (.cells #[.int .u64 (ow Al 0),.int .u64 (ow Al 1),.int .u64 (ow Al 2),.int .u64 (ow Al 3)] 108)).below b4 (by have:=hP0.lt;simp;omega);replace hB0:=(hB0.alloc hB0.size (.cells #[.int .u64 (ow Al 0),.int .u64 (ow Al 1),.int .u64 (ow Al 2),.int .u64 (ow Al 3)] 108)).trans (b4.mono (by have:=hB0.size;simp;omega));clear b4;have g:=(((hP0.set 0 (.int .u64 (ow (~~~Al) 0))).set 1 (.int .u64 (ow (~~~Al) 1))).set 2 (.int .u64 (ow (~~~Al) 2))).set 3 (.int .u64 (ow (~~~Al) 3));have hBn:=(((hB0.setCell (p:=⟨w.heap.size,0,none⟩) (Afq _) (.int .u64 (ow (~~~Al) 0))).setCell (p:=⟨w.heap.size,1,none⟩) (Afq _) (.int .u64 (ow (~~~Al) 1))).setCell (p:=⟨w.heap.size,2,none⟩) (Afq _) (.int .u64 (ow (~~~Al) 2))).setCell (p:=⟨w.heap.size,3,none⟩) (Afq _) (.int .u64 (ow (~~~Al) 3));have p0:=(hP0.cell 0).trans rfl;have p1:=(hP0.cell 1).trans rfl;have p2:=(hP0.cell 2).trans rfl;have p3:=(hP0.cell 3).trans rfl;have z0:=hP0.frozen 0;have z1:=hP0.frozen 1;have z2:=hP0.frozen 2;have z3:=hP0.frozen 3;have hl:=hP0.lt;have HG:=Afj g;have HBn:=Afj hBn;clear g hBn hP0 hB0;go_wp2_with fail;have g:=HG.out;have hBn:=HBn.out;clear HG HBn p0 p1 p2 p3 z0 z1 z2 z3;generalize (((World.setCell _ _ _).setCell _ _).setCell _ _).setCell _ _=w9 at g hBn ⊢;have d0:=(g.cell 0).trans rfl;have d1:=(g.cell 1).trans rfl;have d2:=(g.cell 2).trans rfl;have d3:=(g.cell 3).trans rfl;exact bodyPost_ret (v:=.tuple #[.agg #[.int .u64 (ow (~~~Al) 0),.int .u64 (ow (~~~Al) 1),.int .u64 (ow (~~~Al) 2),.int .u64 (ow (~~~Al) 3)],.bool true,.bool true]) (by simp [results,results148,go_sem,d0,d1,d2,d3]) rfl ⟨rfl,hBn⟩
theorem ZC (w:World):Calls prog 148 #[.int .u8 115] w fun e w'=>e=.returned (.tuple #[.agg #[.int .u64 (ow As 0),.int .u64 (ow As 1),.int .u64 (ow As 2),.int .u64 (ow As 3)],.bool true,.bool true])∧Below w.heap.size w w':=by
 have hB0:=(Afv w.heap.size w).alloc (Afq _) (.cells #[.int .u64 0,.int .u64 0,.int .u64 0,.int .u64 0] 108);have hP0:=Blk.new w #[.int .u64 0,.int .u64 0,.int .u64 0,.int .u64 0] 108 w.heap.size rfl;go_enter func148,ntmps148;go_wp2_with fail;refine (Bq _ _).mono ?_;rintro e w1 ⟨rfl,b1⟩;replace hP0:=hP0.below b1 hP0.lt;replace hB0:=hB0.trans (b1.mono hB0.size);clear b1;go_wp2_with fail;refine (CI 95 (by decide) (by decide) _ _ (by simp)).mono ?_;rintro e w2 ⟨rfl,b2⟩;replace hP0:=hP0.below b2 hP0.lt;replace hB0:=hB0.trans (b2.mono hB0.size);clear b2;go_wp2_with fail;refine (DK _ _ _).mono ?_;rintro e w3 ⟨rfl,b3⟩;replace hP0:=hP0.below b3 hP0.lt;replace hB0:=hB0.trans (b3.mono hB0.size);clear b3;generalize A8 (ByteArray.mk #[97,108,110,117,109]).data.toList ||| DE [95]=t;go_wp2_with fail
 refine (Bq _ _).mono ?_;rintro e w4 ⟨rfl,b4⟩;replace hP0:=(hP0.alloc (.cells #[.int .u64 (ow t 0),.int .u64 (ow t 1),.int .u64 (ow t 2),.int .u64 (ow t 3)] 108)).below b4 (by have:=hP0.lt;simp;omega);replace hB0:=(hB0.alloc hB0.size (.cells #[.int .u64 (ow t 0),.int .u64 (ow t 1),.int .u64 (ow t 2),.int .u64 (ow t 3)] 108)).trans (b4.mono (by have:=hB0.size;simp;omega));clear b4;rw [show A8 (ByteArray.mk #[115,112,97,99,101]).data.toList=As from rfl];have g:=(((hP0.set 0 (.int .u64 (ow As 0))).set 1 (.int .u64 (ow As 1))).set 2 (.int .u64 (ow As 2))).set 3 (.int .u64 (ow As 3));have hBn:=(((hB0.setCell (p:=⟨w.heap.size,0,none⟩) (Afq _) (.int .u64 (ow As 0))).setCell (p:=⟨w.heap.size,1,none⟩) (Afq _) (.int .u64 (ow As 1))).setCell (p:=⟨w.heap.size,2,none⟩) (Afq _) (.int .u64 (ow As 2))).setCell (p:=⟨w.heap.size,3,none⟩) (Afq _) (.int .u64 (ow As 3));have p0:=(hP0.cell 0).trans rfl;have p1:=(hP0.cell 1).trans rfl;have p2:=(hP0.cell 2).trans rfl;have p3:=(hP0.cell 3).trans rfl;have z0:=hP0.frozen 0;have z1:=hP0.frozen 1;have z2:=hP0.frozen 2;have z3:=hP0.frozen 3;have hl:=hP0.lt;have HG:=Afj g;have HBn:=Afj hBn;clear g hBn hP0 hB0;go_wp2_with fail;have g:=HG.out;have hBn:=HBn.out;clear HG HBn p0 p1 p2 p3 z0 z1 z2 z3;generalize (((World.setCell _ _ _).setCell _ _).setCell _ _).setCell _ _=w9 at g hBn ⊢;have d0:=(g.cell 0).trans rfl;have d1:=(g.cell 1).trans rfl;have d2:=(g.cell 2).trans rfl;have d3:=(g.cell 3).trans rfl;exact bodyPost_ret (v:=.tuple #[.agg #[.int .u64 (ow As 0),.int .u64 (ow As 1),.int .u64 (ow As 2),.int .u64 (ow As 3)],.bool true,.bool true]) (by simp [results,results148,go_sem,d0,d1,d2,d3]) rfl ⟨rfl,hBn⟩
theorem Adb (w:World):Calls prog 148 #[.int .u8 83] w fun e w'=>e=.returned (.tuple #[.agg #[.int .u64 (ow (~~~As) 0),.int .u64 (ow (~~~As) 1),.int .u64 (ow (~~~As) 2),.int .u64 (ow (~~~As) 3)],.bool true,.bool true])∧Below w.heap.size w w':=by
 have hB0:=(Afv w.heap.size w).alloc (Afq _) (.cells #[.int .u64 0,.int .u64 0,.int .u64 0,.int .u64 0] 108);have hP0:=Blk.new w #[.int .u64 0,.int .u64 0,.int .u64 0,.int .u64 0] 108 w.heap.size rfl;go_enter func148,ntmps148;go_wp2_with fail;refine (Bq _ _).mono ?_;rintro e w1 ⟨rfl,b1⟩;replace hP0:=hP0.below b1 hP0.lt;replace hB0:=hB0.trans (b1.mono hB0.size);clear b1;go_wp2_with fail;refine (CI 95 (by decide) (by decide) _ _ (by simp)).mono ?_;rintro e w2 ⟨rfl,b2⟩;replace hP0:=hP0.below b2 hP0.lt;replace hB0:=hB0.trans (b2.mono hB0.size);clear b2;go_wp2_with fail;refine (DK _ _ _).mono ?_;rintro e w3 ⟨rfl,b3⟩;replace hP0:=hP0.below b3 hP0.lt;replace hB0:=hB0.trans (b3.mono hB0.size);clear b3;generalize A8 (ByteArray.mk #[97,108,110,117,109]).data.toList ||| DE [95]=t;go_wp2_with fail
 refine (Bq _ _).mono ?_;rintro e w4 ⟨rfl,b4⟩;replace hP0:=(hP0.alloc (.cells #[.int .u64 (ow t 0),.int .u64 (ow t 1),.int .u64 (ow t 2),.int .u64 (ow t 3)] 108)).below b4 (by have:=hP0.lt;simp;omega);replace hB0:=(hB0.alloc hB0.size (.cells #[.int .u64 (ow t 0),.int .u64 (ow t 1),.int .u64 (ow t 2),.int .u64 (ow t 3)] 108)).trans (b4.mono (by have:=hB0.size;simp;omega));clear b4;rw [show A8 (ByteArray.mk #[115,112,97,99,101]).data.toList=As from rfl];go_wp2_with fail
 refine (Gf _ _).mono ?_;rintro e w5 ⟨rfl,b5⟩;replace hP0:=hP0.below b5 hP0.lt;replace hB0:=hB0.trans (b5.mono hB0.size);clear b5;have g:=(((hP0.set 0 (.int .u64 (ow (~~~As) 0))).set 1 (.int .u64 (ow (~~~As) 1))).set 2 (.int .u64 (ow (~~~As) 2))).set 3 (.int .u64 (ow (~~~As) 3));have hBn:=(((hB0.setCell (p:=⟨w.heap.size,0,none⟩) (Afq _) (.int .u64 (ow (~~~As) 0))).setCell (p:=⟨w.heap.size,1,none⟩) (Afq _) (.int .u64 (ow (~~~As) 1))).setCell (p:=⟨w.heap.size,2,none⟩) (Afq _) (.int .u64 (ow (~~~As) 2))).setCell (p:=⟨w.heap.size,3,none⟩) (Afq _) (.int .u64 (ow (~~~As) 3));have p0:=(hP0.cell 0).trans rfl;have p1:=(hP0.cell 1).trans rfl;have p2:=(hP0.cell 2).trans rfl;have p3:=(hP0.cell 3).trans rfl;have z0:=hP0.frozen 0;have z1:=hP0.frozen 1;have z2:=hP0.frozen 2;have z3:=hP0.frozen 3;have hl:=hP0.lt;have HG:=Afj g;have HBn:=Afj hBn;clear g hBn hP0 hB0;go_wp2_with fail;have g:=HG.out;have hBn:=HBn.out;clear HG HBn p0 p1 p2 p3 z0 z1 z2 z3;generalize (((World.setCell _ _ _).setCell _ _).setCell _ _).setCell _ _=w9 at g hBn ⊢;have d0:=(g.cell 0).trans rfl;have d1:=(g.cell 1).trans rfl;have d2:=(g.cell 2).trans rfl;have d3:=(g.cell 3).trans rfl;exact bodyPost_ret (v:=.tuple #[.agg #[.int .u64 (ow (~~~As) 0),.int .u64 (ow (~~~As) 1),.int .u64 (ow (~~~As) 2),.int .u64 (ow (~~~As) 3)],.bool true,.bool true]) (by simp [results,results148,go_sem,d0,d1,d2,d3]) rfl ⟨rfl,hBn⟩
theorem ZD (c:Nat) (w:World) (hc:c < 256) (h1:c≠110) (h2:c≠116) (h3:c≠119) (h4:c≠87) (h5:c≠115) (h6:c≠83) (hp:ohas Eo c=true):Calls prog 148 #[.int .u8 (c:Int)] w fun e w'=>e=.returned (.tuple #[.agg #[.int .u64 (ow (Ac c c) 0),.int .u64 (ow (Ac c c) 1),.int .u64 (ow (Ac c c) 2),.int .u64 (ow (Ac c c) 3)],.bool false,.bool true])∧Below w.heap.size w w':=by
 have e110:((c:Int) == 110)=false:=by simp;omega
 have e116:((c:Int) == 116)=false:=by simp;omega
 have e119:((c:Int) == 119)=false:=by simp;omega
 have e87:((c:Int) == 87)=false:=by simp;omega
 have e115:((c:Int) == 115)=false:=by simp;omega
 have e83:((c:Int) == 83)=false:=by simp;omega
 have hc0:(0:Int)≤(c:Int):=by omega
 have hc1:(c:Int)≤255:=by omega
 clear h1 h2 h3 h4 h5 h6;have hB0:=(Afv w.heap.size w).alloc (Afq _) (.cells #[.int .u64 0,.int .u64 0,.int .u64 0,.int .u64 0] 108);have hP0:=Blk.new w #[.int .u64 0,.int .u64 0,.int .u64 0,.int .u64 0] 108 w.heap.size rfl;go_enter func148,ntmps148;go_wp2_with fail;refine (Bq _ _).mono ?_;rintro e w1 ⟨rfl,b1⟩;replace hP0:=hP0.below b1 hP0.lt;replace hB0:=hB0.trans (b1.mono hB0.size);clear b1;go_wp2_with fail;refine (CI 95 (by decide) (by decide) _ _ (by simp)).mono ?_;rintro e w2 ⟨rfl,b2⟩;replace hP0:=hP0.below b2 hP0.lt;replace hB0:=hB0.trans (b2.mono hB0.size);clear b2;go_wp2_with fail;refine (DK _ _ _).mono ?_;rintro e w3 ⟨rfl,b3⟩;replace hP0:=hP0.below b3 hP0.lt;replace hB0:=hB0.trans (b3.mono hB0.size);clear b3;generalize A8 (ByteArray.mk #[97,108,110,117,109]).data.toList ||| DE [95]=t;go_wp2_with fail
 refine (Bq _ _).mono ?_;rintro e w4 ⟨rfl,b4⟩;replace hP0:=(hP0.alloc (.cells #[.int .u64 (ow t 0),.int .u64 (ow t 1),.int .u64 (ow t 2),.int .u64 (ow t 3)] 108)).below b4 (by have:=hP0.lt;simp;omega);replace hB0:=(hB0.alloc hB0.size (.cells #[.int .u64 (ow t 0),.int .u64 (ow t 1),.int .u64 (ow t 2),.int .u64 (ow t 3)] 108)).trans (b4.mono (by have:=hB0.size;simp;omega));clear b4;rw [show A8 (ByteArray.mk #[112,117,110,99,116]).data.toList=Eo from rfl];go_wp2_with fail
 refine (RO _ _ hc0 hc1 _).mono ?_;rintro e w5 ⟨rfl,b5⟩;replace hP0:=hP0.below b5 hP0.lt;replace hB0:=hB0.trans (b5.mono hB0.size);clear b5;rw [show ohas Eo ((c:Int)).toNat=true from hp];go_wp2_with fail
 refine (CI (c:Int) hc0 hc1 _ _ (by simp)).mono ?_;rintro e w6 ⟨rfl,b6⟩;replace hP0:=hP0.below b6 hP0.lt;replace hB0:=hB0.trans (b6.mono hB0.size);clear b6;rw [show DE [(c:Int)]=Ac c c from DU c];have g:=(((hP0.set 0 (.int .u64 (ow (Ac c c) 0))).set 1 (.int .u64 (ow (Ac c c) 1))).set 2 (.int .u64 (ow (Ac c c) 2))).set 3 (.int .u64 (ow (Ac c c) 3));have hBn:=(((hB0.setCell (p:=⟨w.heap.size,0,none⟩) (Afq _) (.int .u64 (ow (Ac c c) 0))).setCell (p:=⟨w.heap.size,1,none⟩) (Afq _) (.int .u64 (ow (Ac c c) 1))).setCell (p:=⟨w.heap.size,2,none⟩) (Afq _) (.int .u64 (ow (Ac c c) 2))).setCell (p:=⟨w.heap.size,3,none⟩) (Afq _) (.int .u64 (ow (Ac c c) 3));have p0:=(hP0.cell 0).trans rfl;have p1:=(hP0.cell 1).trans rfl;have p2:=(hP0.cell 2).trans rfl;have p3:=(hP0.cell 3).trans rfl;have z0:=hP0.frozen 0;have z1:=hP0.frozen 1;have z2:=hP0.frozen 2;have z3:=hP0.frozen 3;have hl:=hP0.lt;have HG:=Afj g;have HBn:=Afj hBn;clear g hBn hP0 hB0;go_wp2_with fail;have g:=HG.out;have hBn:=HBn.out;clear HG HBn p0 p1 p2 p3 z0 z1 z2 z3;generalize (((World.setCell _ _ _).setCell _ _).setCell _ _).setCell _ _=w9 at g hBn ⊢;have d0:=(g.cell 0).trans rfl;have d1:=(g.cell 1).trans rfl;have d2:=(g.cell 2).trans rfl;have d3:=(g.cell 3).trans rfl;exact bodyPost_ret (v:=.tuple #[.agg #[.int .u64 (ow (Ac c c) 0),.int .u64 (ow (Ac c c) 1),.int .u64 (ow (Ac c c) 2),.int .u64 (ow (Ac c c) 3)],.bool false,.bool true]) (by simp [results,results148,go_sem,d0,d1,d2,d3]) rfl ⟨rfl,hBn⟩
theorem Adc (c:Nat) (w:World) (hc:c < 256) (h1:c≠110) (h2:c≠116) (h3:c≠119) (h4:c≠87) (h5:c≠115) (h6:c≠83) (hp:ohas Eo c=false):Calls prog 148 #[.int .u8 (c:Int)] w fun e w'=>e=.returned (.tuple #[.agg #[.int .u64 0,.int .u64 0,.int .u64 0,.int .u64 0],.bool false,.bool false])∧Below w.heap.size w w':=by
 have e110:((c:Int) == 110)=false:=by simp;omega
 have e116:((c:Int) == 116)=false:=by simp;omega
 have e119:((c:Int) == 119)=false:=by simp;omega
 have e87:((c:Int) == 87)=false:=by simp;omega
 have e115:((c:Int) == 115)=false:=by simp;omega
 have e83:((c:Int) == 83)=false:=by simp;omega
 have hc0:(0:Int)≤(c:Int):=by omega
 have hc1:(c:Int)≤255:=by omega
 clear h1 h2 h3 h4 h5 h6;have hB0:=(Afv w.heap.size w).alloc (Afq _) (.cells #[.int .u64 0,.int .u64 0,.int .u64 0,.int .u64 0] 108);have hP0:=Blk.new w #[.int .u64 0,.int .u64 0,.int .u64 0,.int .u64 0] 108 w.heap.size rfl;go_enter func148,ntmps148;go_wp2_with fail;refine (Bq _ _).mono ?_;rintro e w1 ⟨rfl,b1⟩;replace hP0:=hP0.below b1 hP0.lt;replace hB0:=hB0.trans (b1.mono hB0.size);clear b1;go_wp2_with fail;refine (CI 95 (by decide) (by decide) _ _ (by simp)).mono ?_;rintro e w2 ⟨rfl,b2⟩;replace hP0:=hP0.below b2 hP0.lt;replace hB0:=hB0.trans (b2.mono hB0.size);clear b2;go_wp2_with fail;refine (DK _ _ _).mono ?_;rintro e w3 ⟨rfl,b3⟩;replace hP0:=hP0.below b3 hP0.lt;replace hB0:=hB0.trans (b3.mono hB0.size);clear b3;generalize A8 (ByteArray.mk #[97,108,110,117,109]).data.toList ||| DE [95]=t;go_wp2_with fail
 refine (Bq _ _).mono ?_;rintro e w4 ⟨rfl,b4⟩;replace hP0:=(hP0.alloc (.cells #[.int .u64 (ow t 0),.int .u64 (ow t 1),.int .u64 (ow t 2),.int .u64 (ow t 3)] 108)).below b4 (by have:=hP0.lt;simp;omega);replace hB0:=(hB0.alloc hB0.size (.cells #[.int .u64 (ow t 0),.int .u64 (ow t 1),.int .u64 (ow t 2),.int .u64 (ow t 3)] 108)).trans (b4.mono (by have:=hB0.size;simp;omega));clear b4;rw [show A8 (ByteArray.mk #[112,117,110,99,116]).data.toList=Eo from rfl];go_wp2_with fail
 refine (RO _ _ hc0 hc1 _).mono ?_;rintro e w5 ⟨rfl,b5⟩;replace hP0:=hP0.below b5 hP0.lt;replace hB0:=hB0.trans (b5.mono hB0.size);clear b5;rw [show ohas Eo ((c:Int)).toNat=false from hp];have g:=(((hP0.set 0 (.int .u64 0)).set 1 (.int .u64 0)).set 2 (.int .u64 0)).set 3 (.int .u64 0);have hBn:=(((hB0.setCell (p:=⟨w.heap.size,0,none⟩) (Afq _) (.int .u64 0)).setCell (p:=⟨w.heap.size,1,none⟩) (Afq _) (.int .u64 0)).setCell (p:=⟨w.heap.size,2,none⟩) (Afq _) (.int .u64 0)).setCell (p:=⟨w.heap.size,3,none⟩) (Afq _) (.int .u64 0);have p0:=(hP0.cell 0).trans rfl;have p1:=(hP0.cell 1).trans rfl;have p2:=(hP0.cell 2).trans rfl;have p3:=(hP0.cell 3).trans rfl;have z0:=hP0.frozen 0;have z1:=hP0.frozen 1;have z2:=hP0.frozen 2;have z3:=hP0.frozen 3;have hl:=hP0.lt;have HG:=Afj g;have HBn:=Afj hBn;clear g hBn hP0 hB0;go_wp2_with fail;have g:=HG.out;have hBn:=HBn.out;clear HG HBn p0 p1 p2 p3 z0 z1 z2 z3;generalize (((World.setCell _ _ _).setCell _ _).setCell _ _).setCell _ _=w9 at g hBn ⊢;have d0:=(g.cell 0).trans rfl;have d1:=(g.cell 1).trans rfl;have d2:=(g.cell 2).trans rfl;have d3:=(g.cell 3).trans rfl;exact bodyPost_ret (v:=.tuple #[.agg #[.int .u64 0,.int .u64 0,.int .u64 0,.int .u64 0],.bool false,.bool false]) (by simp [results,results148,go_sem,d0,d1,d2,d3]) rfl ⟨rfl,hBn⟩
def Qv (r:Option (OSet × Bool)):Value:=match r with
 | some q=>.tuple #[.agg #[.int .u64 (ow q.1 0),.int .u64 (ow q.1 1),.int .u64 (ow q.1 2),.int .u64 (ow q.1 3)],.bool q.2,.bool true]
 | none=>.tuple #[.agg #[.int .u64 0,.int .u64 0,.int .u64 0,.int .u64 0],.bool false,.bool false]
theorem Gn (c:Nat) (hc:c < 256) (w:World):Calls prog 148 #[.int .u8 (c:Int)] w fun e w'=>e=.returned (Qv (CJ c))∧Below w.heap.size w w':=by
 unfold CJ;split
 ·rename_i h;subst h;exact Z9 w
 split
 ·rename_i h;subst h;exact ZA w
 split
 ·rename_i h;subst h;exact ZB w
 split
 ·rename_i h;subst h;exact Ada w
 split
 ·rename_i h;subst h;exact ZC w
 split
 ·rename_i h;subst h;exact Adb w
 split
 ·rename_i h1 h2 h3 h4 h5 h6 h7;exact ZD c w hc h1 h2 h3 h4 h5 h6 h7
 ·rename_i h1 h2 h3 h4 h5 h6 h7;exact Adc c w hc h1 h2 h3 h4 h5 h6 (by simpa using h7)
def I7 (k e:Nat) (r:Ending):Prop:=r=.panicked [{ v:=.iface 197 (.agg #[.int .i64 (k:Int),.int .i64 (e:Int)]),recovered:=false }]
def BdR (r:ReRep) (B p:Nat) (s:ByteArray) (st:ReSt) (es:List Bool) (dep:Nat) (mv cv:Value) (w:World) (e:Ending) (w':World):Prop:=∃ mv',RStep p w mv cv w' mv' cv∧match r with
 | .none=>e=.returned (.tuple #[.int .i64 0,.int .i64 0,.bool false])∧Rd B p w' s st es dep mv' cv
 | .bad=>I7 st.pos 7 e
 | .some mn mx c j=>e=.returned (.tuple #[.int .i64 mn,.int .i64 mx,.bool true])∧Rd B p w' s ((if c=0 then st else st.mark c).to j) es dep mv' cv
theorem In {r:ReRep} {B p:Nat} {s:ByteArray} {st:ReSt} {es:List Bool} {dep:Nat} {mv cv mv':Value} {w w':World} {a b:Int} {c j:Nat} (h:r=.some a b c j) (hS:RStep p w mv cv w' mv' cv) (hR:Rd B p w' s ((if c=0 then st else st.mark c).to j) es dep mv' cv) :
  BdR r B p s st es dep mv cv w (.returned (.tuple #[.int .i64 a,.int .i64 b,.bool true])) w':=by subst h;exact ⟨mv',hS,rfl,hR⟩
theorem WC {r:ReRep} {B p:Nat} {s:ByteArray} {st:ReSt} {es:List Bool} {dep:Nat} {mv cv:Value} {w w':World} (h:r=.none) (hS:RStep p w mv cv w' mv cv) (hR:Rd B p w' s st es dep mv cv) :
  BdR r B p s st es dep mv cv w (.returned (.tuple #[.int .i64 0,.int .i64 0,.bool false])) w':=by subst h;exact ⟨mv,hS,rfl,hR⟩
theorem ZE {r:ReRep} {B p:Nat} {s:ByteArray} {st:ReSt} {es:List Bool} {dep:Nat} {mv cv:Value} {w w':World} {e:Ending} (h:r=.bad) (hS:RStep p w mv cv w' mv cv) (hE:I7 st.pos 7 e) :
  BdR r B p s st es dep mv cv w e w':=by subst h;exact ⟨mv,hS,hE⟩
structure RdH (W:World) (B p:Nat) (s:ByteArray) (st:ReSt) (es:List Bool) (dep:Nat) (mv cv:Value) (w':World):Prop where
 b:Below W.heap.size W w'
 r:Rd B p w' s st es dep mv cv
abbrev Ke (W:World) (B p:Nat) (s:ByteArray) (st:ReSt) (es:List Bool) (dep:Nat) (mv cv:Value) (w':World):Prop:=
 w'.cell? ⟨p,0,none⟩=some (.string s)∧w'.cell? ⟨p,1,none⟩=some (.int .i64 (st.pos:Int))∧RdH W B p s st es dep mv cv w'
theorem RdH.all {W:World} {B p:Nat} {s:ByteArray} {st:ReSt} {es:List Bool} {dep:Nat} {mv cv:Value} {w':World} (h:RdH W B p s st es dep mv cv w'):Ke W B p s st es dep mv cv w':=⟨h.r.cells.c0,h.r.cells.c1,h⟩
theorem Kf {W:World} {B p:Nat} {s:ByteArray} {st:ReSt} {es:List Bool} {dep:Nat} {mv cv:Value} {w' w'':World} (hb:Below w'.heap.size w' w'') (h:Ke W B p s st es dep mv cv w'):Ke W B p s st es dep mv cv w'':=
 RdH.all ⟨h.2.2.b.trans (hb.mono h.2.2.b.size),h.2.2.r.below hb⟩
theorem Qw {W:World} {B p:Nat} {s:ByteArray} {st:ReSt} {es:List Bool} {dep:Nat} {mv cv:Value} {w':World} (h:Ke W B p s st es dep mv cv w'):Ke W B p s st es dep mv cv w'.drew:=
 Kf (Agb (Afv _ _)) h
theorem IT {W:World} {B p k:Nat} {s:ByteArray} {st:ReSt} {es:List Bool} {dep:Nat} {mv cv:Value} {w' w'':World} (hk:st.pos=k) (hb:Below w'.heap.size w' w'') (h:w'.cell? ⟨p,0,none⟩=some (.string s)∧w'.cell? ⟨p,1,none⟩=some (.int .i64 (k:Int))∧RdH W B p s st es dep mv cv w'):w''.cell? ⟨p,0,none⟩=some (.string s)∧w''.cell? ⟨p,1,none⟩=some (.int .i64 (k:Int))∧RdH W B p s st es dep mv cv w'':=by
 subst hk;exact Kf hb h
theorem IU {W:World} {B p k:Nat} {s:ByteArray} {st:ReSt} {es:List Bool} {dep:Nat} {mv cv:Value} {w':World} (hk:st.pos=k) (h:w'.cell? ⟨p,0,none⟩=some (.string s)∧w'.cell? ⟨p,1,none⟩=some (.int .i64 (k:Int))∧RdH W B p s st es dep mv cv w'):w'.drew.cell? ⟨p,0,none⟩=some (.string s)∧w'.drew.cell? ⟨p,1,none⟩=some (.int .i64 (k:Int))∧RdH W B p s st es dep mv cv w'.drew:=by
 subst hk;exact Qw h
theorem L6 {B p:Nat} {W:World} {s:ByteArray} {st:ReSt} {es:List Bool} {dep:Nat} {mv cv:Value} (h:Rd B p W s st es dep mv cv):Ke W B p s st es dep mv cv W:=RdH.all ⟨Afv _ _,h⟩
theorem Aen (s:ByteArray) (k:Nat):Lr (ByteArray.mk #[92,125]).data.toList (s.extract k s.size).data.toList=Lr (CQ false) (s.data.toList.drop k):=by rw [BS];rfl
theorem ZF (s:List UInt8) (k:Nat) (h:Lr (CQ false) (s.drop k)=none):GA false s k=none:=by rw [Hw,h];rfl
theorem ZG (s:List UInt8) (k:Nat) (q:Int × Int × Nat) (h:Lr (CQ false) (s.drop k)=some q):GA false s k=some (q.1,q.2.1,k+q.2.2):=by rw [Hw,h];rfl
theorem Qx {B p:Nat} {s:ByteArray} {st:ReSt} {es:List Bool} {dep:Nat} {mv cv:Value} (w:World) (h:Rd B p w s st es dep mv cv) :
  Calls prog 153 #[.pointer (some ⟨p,0,none⟩)] w fun e w'=>BdR (repAt false s.data.toList st.pos) B p s st es dep mv cv w e w':=by
 obtain ⟨R,hR⟩:∃ R,R=repAt false s.data.toList st.pos:=⟨_,rfl⟩;rw [←hR];have HR:=Afj hR;clear hR;have hst:∀ n,Rd B p (w.drewN n) s st es dep mv cv:=fun n=>h.below (below_drewN (Afv w.heap.size w) n)
 have hsn:∀ n,RStep p w mv cv (w.drewN n) mv cv:=fun n=>RStep.of_below (below_drewN (Afv w.heap.size w) n)
 have HST:=Afj hst;have HSN:=Afj hsn;obtain ⟨c0,c1,c2,c3,c4,z1,z2,z3,z4⟩:=h.cells;clear hst hsn;go_enter func153,ntmps153;cases q1:chAt s.data.toList st.pos 42
 ·have g1:=Im ⟨#[42]⟩ w h ((DH _ _ 42 (by decide)).trans q1);go_wp2_with fail
  refine g1.mono ?_;rintro e w2 ⟨rfl,n1,rfl⟩;clear g1;cases q2:BP s.data.toList st.pos 43
  ·have g2:=Kb ⟨#[92,43]⟩ _ (HST.out n1) ((BQ _ _ 43 (by decide)).trans q2);go_wp2_with fail
   refine g2.mono ?_;rintro e w2 ⟨rfl,n2,rfl⟩;clear g2;rw [show (w.drewN n1).drewN n2=w.drewN (n1+n2) by simp];generalize n1+n2=n3;cases q3:BP s.data.toList st.pos 63
   ·have g3:=Kb ⟨#[92,63]⟩ _ (HST.out n3) ((BQ _ _ 63 (by decide)).trans q3);go_wp2_with fail
    refine g3.mono ?_;rintro e w2 ⟨rfl,n4,rfl⟩;clear g3;rw [show (w.drewN n3).drewN n4=w.drewN (n3+n4) by simp];generalize n3+n4=n5;cases q4:BP s.data.toList st.pos 123
    ·have g4:=Im ⟨#[92,123]⟩ _ (HST.out n5) ((BQ _ _ 123 (by decide)).trans q4);have HF:=Afj (HR.out.trans (Wt q1 q2 q3 q4));clear q1 q2 q3 q4;go_wp2_with fail
     refine g4.mono ?_;rintro e w2 ⟨rfl,n6,rfl⟩;go_wp2_with fail
     go_ret3
     exact WC HF.out (HSN.out _) (HST.out _)
    ·have g4:=FQ ⟨#[92,123]⟩ _ (HST.out n5) ((BQ _ _ 123 (by decide)).trans q4) (by simp);go_wp2_with fail
     refine g4.mono ?_;rintro e w2 ⟨rfl,hR2,hS2⟩;replace hS2:=(HSN.out n5).trans hS2;clear g4;have hall:=L6 hR2;obtain ⟨c0,c1,c2,c3,c4,z1,z2,z3,z4⟩:=hR2.cells;have hp2:(st.to (st.pos+(ByteArray.mk #[92,123]).size)).pos=st.pos+2:=rfl;rw [hp2] at c1;have hlen:st.pos+2≤s.size:=hR2.pos;have hlen2:((st.pos+2:Nat):Int)≤(s.size:Int):=by omega
     have hsm:=hR2.small;have g5:=fun w=>L5 (s.extract (st.pos+2) s.size) ⟨#[92,125]⟩ w (by rw [Fa];omega) (by simp)
     rw [Aen] at g5;generalize hst2:st.to (st.pos+(ByteArray.mk #[92,123]).size)=st2 at *;have hk2:st2.pos=st.pos+2:=by rw [←hst2];rfl
     unfold Ke at hall;rw [hk2] at hall;have HK2:=Afj hk2;have HST2:=Afj hst2;clear hk2 hst2 hp2;cases hiv:Lr (CQ false) (s.data.toList.drop (st.pos+2)) with
     | none=>
      rw [hiv,show Kc none=.returned (.tuple #[.int .i64 0,.int .i64 0,.int .i64 0,.bool false]) from rfl] at g5;have HF:=Afj (HR.out.trans (Z0 q1 q2 q3 q4 (ZF _ _ hiv)));clear q1 q2 q3 q4 hiv;generalize st.pos+2=k2 at *;go_wp2_with fail
      go_region_held3 (fun w'=>(w'.cell? ⟨p,0,none⟩=some (.string s)∧w'.cell? ⟨p,1,none⟩=some (.int .i64 ((k2:Nat):Int))∧RdH w2 B p s st2 es dep mv cv w'))
       (first | (with_reducible exact hall) | (with_reducible exact IT HK2.out hbX (by assumption)) | (with_reducible exact IU HK2.out (by assumption)))
       (first | (go_at_call 145;refine (g5 _).mono ?_;rintro e w' ⟨rfl,hbX⟩))
      go_wp2_with fail
      go_split_ands
      exact ⟨rfl,ZE HF.out (hS2.trans (RStep.of_below (RdH.b (by assumption)))) rfl⟩
     | some q=>
      rw [hiv,show Kc (some q)=.returned (.tuple #[.int .i64 q.1,.int .i64 q.2.1,.int .i64 (q.2.2:Int),.bool true]) from rfl] at g5;have HF:=Afj (HR.out.trans (Ww (m:=q.1) (n:=q.2.1) (j:=st.pos+2+q.2.2) q1 q2 q3 q4 (ZG _ _ _ hiv)));have hql:=Wr _ _ _ (by simp [CQ]) hiv;rw [Af3] at hql;have hsl:s.data.toList.length=s.size:=by simp
      have Wn:IntKind.i64.wrap (((st.pos+2:Nat):Int)+(q.2.2:Int))=((st.pos+2+q.2.2:Nat):Int):=by rw [Afx _ (by omega)];omega
      have hqs:st.pos+2+q.2.2≤s.size:=by omega
      have HQ:=Afj hqs;generalize q.1=qa at *;generalize q.2.1=qb at *;generalize q.2.2=qc at *;clear q1 q2 q3 q4 hiv hql hsl hqs;generalize st.pos+2=k2 at *;go_wp2_with fail
      go_region_held3 (fun w'=>(w'.cell? ⟨p,0,none⟩=some (.string s)∧w'.cell? ⟨p,1,none⟩=some (.int .i64 ((k2:Nat):Int))∧RdH w2 B p s st2 es dep mv cv w'))
       (first | (with_reducible exact hall) | (with_reducible exact IT HK2.out hbX (by assumption)) | (with_reducible exact IU HK2.out (by assumption)))
       (first | (go_at_call 145;refine (g5 _).mono ?_;rintro e w' ⟨rfl,hbX⟩))
      go_split_ands
      rename_i w5 _ _ hX;clear c0 c1 c2 c3 c4 z1 z2 z3 z4;obtain ⟨hb5,hR5⟩:=hX;obtain ⟨c0,c1,c2,c3,c4,z1,z2,z3,z4⟩:=hR5.cells;rw [HK2.out] at c1;have hg:=Afj (hR5.goto (k2+qc) (by rw [HK2.out];omega) HQ.out);have hS5:=hS2.trans (RStep.of_below (p:=p) (mv:=mv) (cv:=cv) hb5);go_wp2_with fail
      go_ret3
      exact In HF.out (hS5.trans hg.out.2) (by have:=hg.out.1;rw [←HST2.out] at this;exact this)
   ·have g3:=I6 63 _ (HST.out n3) ((BQ _ _ 63 (by decide)).trans q3);have HF:=Afj (HR.out.trans (Zz q1 q2 q3));clear q1 q2 q3;go_wp2_with fail
    refine g3.mono ?_;rintro e w2 ⟨rfl,mv',hR2,hS2⟩;go_wp2_with fail
    go_ret3
    exact In HF.out ((HSN.out n3).trans hS2) hR2
  ·have g2:=I6 43 _ (HST.out n1) ((BQ _ _ 43 (by decide)).trans q2);have HF:=Afj (HR.out.trans (Wv q1 q2));clear q1 q2;go_wp2_with fail
   refine g2.mono ?_;rintro e w2 ⟨rfl,mv',hR2,hS2⟩;go_wp2_with fail
   go_ret3
   exact In HF.out ((HSN.out n1).trans hS2) hR2
 ·have g1:=FQ ⟨#[42]⟩ w h ((DH _ _ 42 (by decide)).trans q1) (by simp);have HF:=Afj (HR.out.trans (Wu q1));clear q1;go_wp2_with fail
  refine g1.mono ?_;rintro e w2 ⟨rfl,hR2,hS2⟩;go_wp2_with fail
  go_ret3
  exact In HF.out hS2 hR2
theorem DW {B p:Nat} {s:ByteArray} {st:ReSt} {es:List Bool} {dep:Nat} {mv cv:Value} (n k:Nat) (w:World) (h:Rd B p w s st es dep mv cv) (h1:1≤n) (hn:st.closed.contains (n:Int)=false) :
  Calls prog 168 #[.pointer (some ⟨p,0,none⟩),.int .i64 (k:Int),.int .i64 (n:Int)] w fun e w'=>I7 k 9 e∧w=w':=by
 obtain ⟨c0,c1,c2,c3,c4,z1,z2,z3,z4⟩:=h.cells;have hr:=h.rr.2 (n:Int);rw [hn,decide_eq_true (show (1:Int)≤(n:Int) by omega),Bool.true_and] at hr;obtain ⟨a,cap,rfl,hl1,hl2,hx⟩:=Gk h.co (by simp);unfold maxLen at hl2;have hes:=h.few.2;have hsm:=h.small;have hps:=h.pos;clear h;unfold I7;by_cases hlen:n≤es.length
 ·rw [decide_eq_true (show (n:Int)≤(es.length:Int) by omega),Bool.true_and] at hr;obtain ⟨g,rfl,_,hg,hc⟩:=hx (by omega);have hcn:=hc (n - 1) (by simp;omega);have he:es.getD (n - 1) false=false:=by
   rw [show ((n:Int) - 1).toNat=n - 1 by omega] at hr;exact hr.symm
  have hcb:w.cell? ⟨g,n - 1,none⟩=some (.bool false):=by
   rw [Nat.zero_add] at hcn;rw [hcn,List.getElem_map];rw [Af7,Af4 (by omega),Option.getD_some] at he;rw [he]
  have e1:decide ((es.length:Int) < (n:Int))=false:=by simp;omega
  have e2:decide (es.length < n)=false:=by simp;omega
  have Wn:IntKind.i64.wrap ((n:Int) - 1)=((n - 1:Nat):Int):=by rw [Afx _ (by omega)];omega
  have hlt:((n - 1:Nat):Int) < (es.length:Int):=by omega
  clear hr hc hx hcn he;generalize n - 1=m at *;go_enter func168,ntmps168;go_wp2_with fail
  exact ⟨rfl,rfl,rfl⟩
 ·have e1:decide ((es.length:Int) < (n:Int))=true:=by simp;omega
  have e2:decide (es.length < n)=true:=by simp;omega
  clear hr hx;go_enter func168,ntmps168;go_wp2_with fail
  exact ⟨rfl,rfl,rfl⟩
theorem Dr {B p:Nat} {s:ByteArray} {st:ReSt} {es:List Bool} {dep:Nat} {mv cv:Value} (n k:Nat) (w:World) (h:Rd B p w s st es dep mv cv) (h1:1≤n) (hn:st.closed.contains (n:Int)=true) :
  Calls prog 168 #[.pointer (some ⟨p,0,none⟩),.int .i64 (k:Int),.int .i64 (n:Int)] w fun e w'=>e=.returned (.iface 116 (.agg #[.int .i64 (n:Int)]))∧w=w':=by
 obtain ⟨c0,c1,c2,c3,c4,z1,z2,z3,z4⟩:=h.cells;have hr:=h.rr.2 (n:Int);rw [hn,decide_eq_true (show (1:Int)≤(n:Int) by omega),Bool.true_and] at hr;obtain ⟨a,cap,rfl,hl1,hl2,hx⟩:=Gk h.co (by simp);unfold maxLen at hl2;have hes:=h.few.2;have hsm:=h.small;have hps:=h.pos;clear h;have hr2:=(Bool.and_eq_true_iff.1 hr.symm)
 have hlen:n≤es.length:=by have:=of_decide_eq_true hr2.1;omega
 obtain ⟨g,rfl,_,hg,hc⟩:=hx (by omega);have hcn:=hc (n - 1) (by simp;omega);have he:es.getD (n - 1) false=true:=by
  have:=hr2.2;rw [show ((n:Int) - 1).toNat=n - 1 by omega] at this;exact this
 have hcb:w.cell? ⟨g,n - 1,none⟩=some (.bool true):=by
  rw [Nat.zero_add] at hcn;rw [hcn,List.getElem_map];rw [Af7,Af4 (by omega),Option.getD_some] at he;rw [he]
 have e1:decide ((es.length:Int) < (n:Int))=false:=by simp;omega
 have e2:decide (es.length < n)=false:=by simp;omega
 have Wn:IntKind.i64.wrap ((n:Int) - 1)=((n - 1:Nat):Int):=by rw [Afx _ (by omega)];omega
 have hlt:((n - 1:Nat):Int) < (es.length:Int):=by omega
 clear hr hr2 hc hx hcn he;generalize n - 1=m at *;go_enter func168,ntmps168;go_wp2_with fail
 go_ret;exact ⟨rfl,rfl⟩
end
section
open Go.RowKit
theorem Zz0 (a b c d:Int) (w:World):(part 106 #[.int .u64 a,.int .u64 b,.int .u64 c,.int .u64 d] (0 * 1)).run prog w=.ok (.int .u64 a) w:=by kernel_rfl
theorem ZH (a b c d:Int) (w:World):(part 106 #[.int .u64 a,.int .u64 b,.int .u64 c,.int .u64 d] 1).run prog w=.ok (.int .u64 b) w:=by kernel_rfl
theorem ZI (a b c d:Int) (w:World):(part 106 #[.int .u64 a,.int .u64 b,.int .u64 c,.int .u64 d] 2).run prog w=.ok (.int .u64 c) w:=by kernel_rfl
theorem ZJ (a b c d:Int) (w:World):(part 106 #[.int .u64 a,.int .u64 b,.int .u64 c,.int .u64 d] 3).run prog w=.ok (.int .u64 d) w:=by kernel_rfl
theorem T3 (a b c d a' b' c' d':Int) (w:World):(Op.eqItems 9999 106 1 #[.int .u64 a,.int .u64 b,.int .u64 c,.int .u64 d] #[.int .u64 a',.int .u64 b',.int .u64 c',.int .u64 d'] [0,1,2,3]).run prog w=.ok (a == a' && (b == b' && (c == c' && d == d'))) w:=by
 have h:=fun (x y:Int) (w:World)=>(run_equalIn_int (P:=prog) w 9998 106 .u64 .u64 x y underlying106:(Op.equalIn 9999 106 (.int .u64 x) (.int .u64 y)).run prog w=_)
 simp only [Op.eqItems,Sem.run_bind,Zz0,h,Result.andThen_ok];cases ha:a == a' <;> cases hb:b == b' <;> cases hc:c == c' <;> cases hd:d == d' <;> simp [ha,hb,hc,hd,h,ZH,ZI,ZJ]
theorem WD (s t:OSet):(ow s 0 == ow t 0 && (ow s 1 == ow t 1 && (ow s 2 == ow t 2 && ow s 3 == ow t 3)))=decide (s=t):=by
 by_cases h:s=t
 ·subst h;simp
 ·have h2:=RG h;rw [decide_eq_false h];cases hx:(ow s 0 == ow t 0 && (ow s 1 == ow t 1 && (ow s 2 == ow t 2 && ow s 3 == ow t 3)))
  ·rfl
  ·exfalso;simp only [Af9,beq_iff_eq] at hx;exact h2 hx
theorem WE (s t:OSet) (w:World):(Op.equalIn 10000 108 (.agg #[.int .u64 (ow s 0),.int .u64 (ow s 1),.int .u64 (ow s 2),.int .u64 (ow s 3)]) (.agg #[.int .u64 (ow t 0),.int .u64 (ow t 1),.int .u64 (ow t 2),.int .u64 (ow t 3)])).run prog w=.ok (decide (s=t)) w:=by
 have hc:Tryz.prog.cellsOf 106=1:=by kernel_rfl
 have hi0:(Tryz.prog.info? 106).isSome=true:=by kernel_rfl
 obtain ⟨i,hi⟩:=Option.isSome_iff_exists.1 hi0;rw [run_equalIn_array w 9999 (e:=106) (n:=4) _ _ underlying108 hi];rw [hc,show List.range 4=[0,1,2,3] from rfl,T3,WD]
end
end Go.Proofs.YtnognicabhgmcaaGreatDoor
