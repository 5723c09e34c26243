/- Texts. -/
import Derived.Test.YteilldmmihiijaaGreatDoorQt03
set_option linter.unusedSimpArgs false
set_option linter.unusedVariables false
set_option maxHeartbeats 8000000
set_option maxRecDepth 1000000
namespace Go.Proofs.YteilldmmihiijaaGreatDoor
open Nat renaming le_refl→Adf
open List renaming length_append→Adh
section
set_option linter.unusedVariables false
abbrev Cp:=Int × List UInt8
structure Sb where
 text:List UInt8
 tree:Option Nd
 parts:List Cp
 nth:Nat
 all:Bool
 prt:Bool
 file:List UInt8
structure Cmd where
 pl:Nat
 g:Grd
 name:UInt8
 arg:List UInt8
 sub:Sb
 table:List UInt8
structure CS where
 k:Nat
 c:Cmd
 ms:List Wm
abbrev CO:=Nat × CS
def CS.go (st:CS) (k:Nat):CS:={ st with k:=k }
def CS.arg (st:CS) (a:List UInt8) (k:Nat):CS:={ st with k:=k,c:={ st.c with arg:=a } }
def CS.file (st:CS) (a:List UInt8) (k:Nat):CS:={ st with k:=k,c:={ st.c with sub:={ st.c.sub with file:=a } } }
def CS.mark (st:CS) (p:Nat) (w:List UInt8):CS:={ st with ms:=st.ms++[((p:Int),⟨w.toArray⟩)] }
def CS.name (st:CS) (b:UInt8):CS:={ st with k:=st.k+1,c:={ st.c with name:=b } }
def Ey (b:UInt8):Option Nat:=
 if b=125∨b=58 then some 0
 else if b∈[61,113,81,97,105,114] then some 1
 else if b∈[123,100,68,103,71,104,72,108,110,78,112,80,120,122,98,116,84,99,119,115,121] then some 2
 else none
def Il (g:Grd):Nat:=if g.a.kind=0 then 0 else if g.b.kind=0 then 1 else 2
def G3 (b:UInt8):Bool:=b == 81 || b == 84 || b == 122
def BA (st:CS) (b:UInt8) (m:Option Nat):CO:=
 match m with
 | none=>(13,st)
 | some n=>if n < Il st.c.g then (19,st) else (0,(if G3 b=true then st.mark st.k [b] else st).name b)
def Bf (L:List UInt8) (st:CS):CO:=
 match L.drop st.k with
 | []=>(5,st)
 | b :: _=>BA st b (Ey b)
def By (L:List UInt8) (st:CS):CO:=((Bm L st.k true).2.2,st.arg (Bm L st.k true).1 (Bm L st.k true).2.1)
def Dd (L:List UInt8) (st:CS):CO:=if (By L st).1=14 then (0,(By L st).2.go (Ak L st.k)) else By L st
def CT (L:List UInt8) (st:CS):CO:=((Bw (L.drop st.k) st.k []).2.2,st.arg (Bw (L.drop st.k) st.k []).1 (Bw (L.drop st.k) st.k []).2.1)
def Ct (L:List UInt8) (st:CS):CO:=
 match L.drop (Ak L st.k) with
 | []=>(11,st.go (Ak L st.k))
 | c :: t=>
  if c=10 then (5,st.go (Ak L st.k))
  else if c=92∧t.head?=some 10 then CT L (st.go (Ak L st.k+2))
  else CT L ((st.go (Ak L st.k)).mark st.c.pl [116,101,120,116])
def BC (L:List UInt8) (st:CS):CO:=if Ak L st.k=st.k then (2,st) else ((Bm L st.k false).2.2,st.arg (Bm L st.k false).1 (Bm L st.k false).2.1)
def Bz (L:List UInt8) (st:CS):CO:=if Ak L st.k=st.k then (2,st) else ((Bm L st.k false).2.2,st.file (Bm L st.k false).1 (Bm L st.k false).2.1)
def A6 (L:List UInt8) (st:CS):UInt8 × CO:=
 match L.drop st.k with
 | []=>(0,5,st)
 | d :: _=>if d=92∨d=10 then (0,2,st) else (d,0,st.go (st.k+1))
def BZ (L:List UInt8) (st:CS):CO:=
 match L.drop (Ak L st.k) with
 | []=>(0,st.go (Ak L st.k))
 | b :: _=>if b=59∨b=10∨b=35 then (0,st.go (Ak L st.k)) else if b=125 then (0,(st.go (Ak L st.k)).mark (Ak L st.k) [125]) else (17,st.go (Ak L st.k))
def CS.rx (st:CS) (t:List UInt8) (d:Option Nd) (ms:List Wm) (k:Nat):CS:={ st with k:=k,c:={ st.c with sub:={ st.c.sub with text:=t,tree:=d } },ms:=st.ms++ms }
def LW (st:CS) (R:BG (List UInt8 × Nd)):CO:=
 match R with
 | .error q=>(q.1,st.rx [] none [] q.2)
 | .ok q=>(0,st.rx q.1.1 (some q.1.2) q.2.1 q.2.2)
def DF (ext:Bool) (L:List UInt8) (d:UInt8) (st:CS):CO:=LW st (At ext L st.k d)
def D8 (ps:List Cp) (t:List UInt8):List Cp:=if t=[] then ps else ps++[(-1,t)]
def Ca (n:Nat):List UInt8→Bool→List Cp→List UInt8→List Cp × Nat
 | [],esc,ps,t=>if esc=true then ([],11) else (D8 ps t,0)
 | b :: l,false,ps,t=>if b=92 then Ca n l true ps t else if b=38 then Ca n l false (D8 ps t++[(0,[])]) [] else Ca n l false ps (t++[b])
 | b :: l,true,ps,t=>
  if A2.contains b=true then (if n < b.toNat - 48 then ([],9) else Ca n l false (D8 ps t++[(((b.toNat - 48:Nat):Int),[])]) [])
  else if b=110 then Ca n l false ps (t++[10]) else Ca n l false ps (t++[b])
def EW (d:Option Nd):Nat:=match d with | none=>0 | some d=>Cm d
def CS.parts (st:CS) (ps:List Cp) (k:Nat):CS:={ st with k:=k,c:={ st.c with sub:={ st.c.sub with parts:=ps } } }
def DG (st:CS) (r:Er) (q:List Cp × Nat):CO:=if r.2.2=0 then (if q.2=0 then (0,st.parts q.1 r.2.1) else (q.2,st)) else (r.2.2,st.go r.2.1)
def CE (L:List UInt8) (d:UInt8) (st:CS):CO:=DG st (Aj L st.k d false) (Ca (EW st.c.sub.tree) (Aj L st.k d false).1 false [] [])
def CS.all (st:CS):CS:={ st with k:=st.k+1,c:={ st.c with sub:={ st.c.sub with all:=true } } }
def CS.prt (st:CS):CS:={ st with k:=st.k+1,c:={ st.c with sub:={ st.c.sub with prt:=true } } }
def CS.nth (st:CS) (n k:Nat):CS:={ st with k:=k,c:={ st.c with sub:={ st.c.sub with nth:=n } } }
def De (st:CS):CO:=if st.c.sub.all=true then (15,st) else (0,st.all)
def Df (st:CS):CO:=if st.c.sub.prt=true then (15,st) else (0,st.prt)
def C0 (st:CS) (r:Nat × Nat × Nat):CO:=if r.2.2=0 then (if st.c.sub.nth=0 then (if r.1=0 then (1,st) else (0,st.nth r.1 r.2.1)) else (15,st)) else (r.2.2,st)
def CU (L:List UInt8) (st:CS):CO:=C0 st (Bu L st.k)
def AI (L:List UInt8) (b:UInt8) (st:CS):Option CO:=if b=103 then some (De st) else if b=112 then some (Df st) else if A2.contains b=true then some (CU L st) else none
def A9 (L:List UInt8):Nat→CS→CO
 | 0,st=>(0,st)
 | n+1,st=>
  match L.drop st.k with
  | []=>(0,st)
  | b :: _=>
   match AI L b st with
   | some r=>if r.1=0 then A9 L n r.2 else r
   | none=>if b=119 then Bz L (st.go (st.k+1)) else BZ L st
def CO.then (r:CO) (f:CS→CO):CO:=if r.1=0 then f r.2 else r
def Cx (ext:Bool) (L:List UInt8) (st:CS):CO:=
 (A6 L st).2.then fun s1=>(DF ext L (A6 L st).1 s1).then fun s2=>(CE L (A6 L st).1 s2).then fun s3=>A9 L (L.length+1) s3
def BM:List UInt8→Bool→List UInt8→Option (List UInt8)
 | [],esc,acc=>if esc=true then none else some acc
 | b :: l,false,acc=>if b=92 then BM l true acc else BM l false (acc++[b])
 | b :: l,true,acc=>if b=110 then BM l false (acc++[10]) else if b=92 then BM l false (acc++[92]) else none
def GS:List UInt8→List UInt8→List UInt8→List UInt8→Option (List UInt8)
 | [],_,_,T=>some T
 | k :: ks,v,seen,T=>if k∈seen then none else GS ks v.tail (k :: seen) (T.set k.toNat (v.headD 0))
def J8:List UInt8:=(List.range 256).map UInt8.ofNat
def XR (a b:Option (List UInt8)):List UInt8 × Nat:=
 match a,b with
 | some ks,some vs=>if ks.length=vs.length then (match GS ks vs [] J8 with | none=>([],15) | some T=>(T,0)) else ([],18)
 | _,_=>([],18)
def Lb (a b:List UInt8):List UInt8 × Nat:=XR (BM a false []) (BM b false [])
def CS.table (st:CS) (t:List UInt8) (k:Nat):CS:={ st with k:=k,c:={ st.c with table:=t } }
def F7 (L:List UInt8) (st:CS) (p:Nat) (r:Er) (q:List UInt8 × Nat):CO:=
 if r.2.2=0 then (if q.2=0 then BZ L (st.table q.1 r.2.1) else (q.2,st.go p)) else (r.2.2,st.go r.2.1)
def F8 (L:List UInt8) (d:UInt8) (st:CS) (r:Er):CO:=
 if r.2.2=0 then F7 L st r.2.1 (Aj L r.2.1 d false) (Lb r.1 (Aj L r.2.1 d false).1) else (r.2.2,st.go r.2.1)
def Cq (L:List UInt8) (st:CS):CO:=(A6 L st).2.then fun s1=>F8 L (A6 L st).1 s1 (Aj L s1.k (A6 L st).1 false)
def B0 (ext:Bool) (L:List UInt8) (st:CS):CO:=
 let b:=st.c.name
 if b=123∨b=125 then (0,st)
 else if b=58 then By L st
 else if b=98∨b=116∨b=84 then Dd L st
 else if b=97∨b=105∨b=99 then Ct L st
 else if b=114∨b=119 then BC L st
 else if b=115 then Cx ext L st
 else if b=121 then Cq L st
 else BZ L st
def AM (ext:Bool) (L:List UInt8) (st:CS):CO:=(Bf L st).then (B0 ext L)
def sb0:Sb:=⟨[],none,[],0,false,false,[]⟩
def Bc (g:Grd) (ms:List Wm) (k:Nat):CS:=⟨k,⟨k,g,0,[],sb0,[]⟩,ms⟩
def F9 (r:CO):BG Cmd:=if r.1=0 then .ok (r.2.c,r.2.ms,r.2.k) else .error (r.1,r.2.k)
def Uz (ext:Bool) (L:List UInt8) (R:BG Grd):BG Cmd:=
 match R with
 | .error q=>.error q
 | .ok q=>F9 (AM ext L (Bc q.1 q.2.1 q.2.2))
def MV (ext:Bool) (L:List UInt8) (k:Nat):BG Cmd:=Uz ext L (IW ext L k)
end
section
set_option linter.unusedVariables false
theorem Bn (A L:List UInt8) (k:Nat):(A++L).drop (A.length+k)=L.drop k:=by rw [←List.drop_drop,List.drop_left]
theorem Bg {L t:List UInt8} {k:Nat} {c:UInt8} (h:L.drop k=c :: t):k < L.length:=by
 by_cases e:k < L.length
 ·exact e
 ·rw [List.drop_eq_nil_of_le (by omega)] at h;cases h
def LX (a:Nat) (r:Er):Er:=(r.1,a+r.2.1,r.2.2)
theorem OZ (A L:List UInt8) (k:Nat):Bu (A++L) (A.length+k)=((Bu L k).1,A.length+(Bu L k).2.1,(Bu L k).2.2):=by
 unfold Bu;rw [Bn];simp only;split
 ·rfl
 ·split
  ·rfl
  ·simp only [Nat.add_assoc]
theorem EX (A L:List UInt8) (k:Nat):Ak (A++L) (A.length+k)=A.length+Ak L k:=by
 unfold Ak;rw [Bn,Nat.add_assoc]
theorem LY (A L:List UInt8) (k:Nat) (b:Bool):Bm (A++L) (A.length+k) b=LX A.length (Bm L k b):=by
 unfold Bm;rw [Bn];generalize Lib.trimS ((L.drop k).take (DU b (L.drop k))) [32,9]=n;generalize DU b (L.drop k)=m;unfold DV LX;split
 ·rfl
 ·split
  ·rfl
  ·simp only [Nat.add_assoc]
theorem Pa (a:Nat):∀ (n:Nat) (l:List UInt8) (p:Nat) (acc:List UInt8),l.length≤n→Bw l (a+p) acc=LX a (Bw l p acc)
 | _,[],p,acc,_=>by simp [Bw,LX]
 | 0,c :: t,p,acc,h=>by simp at h
 | n+1,c :: t,p,acc,h=>by
  by_cases h1:c=10
  ·subst h1;rw [DS,DS];simp [LX,Nat.add_assoc]
  ·by_cases h2:c=92
   ·subst h2
    cases t with
    | nil=>rw [Dh,Dh];simp [LX]
    | cons x u=>
     rw [DT,DT,Nat.add_assoc];exact Pa a n u _ _ (by simp at h;omega)
   ·rw [C6 _ _ _ _ h1 h2,C6 _ _ _ _ h1 h2,Nat.add_assoc]
    exact Pa a n t _ _ (by simp at h;omega)
theorem XS (a:Nat) (d:UInt8) (rx:Bool) (c:UInt8) (t:List UInt8) (p:Nat):AV d rx c t (a+p)=LX a (AV d rx c t p):=by
 unfold AV;by_cases h1:c=92
 ·rw [if_pos h1,if_pos h1]
  cases t with
  | nil=>simp [LX,Nat.add_assoc]
  | cons x u=>
   simp only;split
   ·simp [LX,Nat.add_assoc]
   ·split <;> simp [LX,Nat.add_assoc]
 ·rw [if_neg h1,if_neg h1]
  simp only;generalize (if (rx && c == 91)=true then BW t else 1)=k;generalize AH (fun b=>!(b == 10)) ((c :: t).take k)=i;split <;> simp [LX,Nat.add_assoc]
theorem U0 (A L:List UInt8) (d:UInt8) (rx:Bool):∀ (n m p:Nat) (acc:List UInt8),p≤L.length→L.length - p < n→L.length - p < m→Ch d rx (A++L) m (A.length+p) acc=LX A.length (Ch d rx L n p acc)
 | 0,m,p,acc,hp,h,_=>by omega
 | n+1,0,p,acc,hp,_,h=>by omega
 | n+1,m+1,p,acc,hp,h1,h2=>by
  cases hd:L.drop p with
  | nil=>
   rw [Di hd,Di (by rw [Bn,hd])];simp [LX]
  | cons c t=>
   have hlt:=Bg hd;have hl:t.length+1=L.length - p:=by rw [←List.length_drop,hd];rfl
   have hd':(A++L).drop (A.length+p)=c :: t:=by rw [Bn,hd]
   by_cases hc:c=d
   ·subst hc
    rw [Dj hd,Dj hd'];simp [LX,Nat.add_assoc]
   ·obtain ⟨x,k,e,he⟩:∃ x k e,AV d rx c t p=(x,k,e):=⟨_,_,_,rfl⟩
    have he':AV d rx c t (A.length+p)=(x,A.length+k,e):=by rw [XS,he];rfl
    by_cases h0:e=0
    ·subst h0
     rw [C7 hd hc he,C7 hd' hc he'];obtain ⟨g1,g2,_⟩:=E8 he;exact U0 A L d rx n m k (acc++x) (by omega) (by omega) (by omega)
    ·rw [DK hd hc h0 he,DK hd' hc h0 he']
     rfl
theorem EY (A L:List UInt8) (d:UInt8) (rx:Bool) (k:Nat) (hk:k≤L.length):Aj (A++L) ((A.length+k:Nat):Int) d rx=LX A.length (Aj L (k:Int) d rx):=by
 unfold Aj;rw [Dq _ _ _ _ hk,Dq _ _ _ _ (by rw [Adh];omega)];exact U0 A L d rx _ _ k [] hk (by omega) (by rw [Adh];omega)
def ShD (a:Nat) (R R':BG (List UInt8 × Nd)):Prop:=
 match R,R' with
 | .error q,.error r=>r=(q.1,a+q.2)
 | .ok q,.ok r=>r.1=q.1∧r.2.2=a+q.2.2
 | _,_=>False
theorem Nl (ext:Bool) (A L:List UInt8) (k:Nat) (d:UInt8) (hk:k≤L.length):ShD A.length (At ext L k d) (At ext (A++L) (A.length+k) d):=by
 unfold At;rw [EY A L d true k hk];generalize Aj L (k:Int) d true=r;obtain ⟨t,p,e⟩:=r;rw [show LX A.length (t,p,e)=(t,A.length+p,e) from rfl];simp only;by_cases he:e=0
 ·rw [if_pos he,if_pos he]
  by_cases ht:t=[]
  ·rw [if_pos ht,if_pos ht];exact rfl
  ·rw [if_neg ht,if_neg ht]
   cases AY ext t with
   | error q=>exact rfl
   | ok q=>exact ⟨rfl,rfl⟩
 ·rw [if_neg he,if_neg he];exact rfl
structure Sh (a:Nat) (st st':CS):Prop where
 k:st'.k=a+st.k
 name:st'.c.name=st.c.name
 arg:st'.c.arg=st.c.arg
 sub:st'.c.sub=st.c.sub
 table:st'.c.table=st.c.table
def Im (a:Nat) (r r':CO):Prop:=r'.1=r.1∧Sh a r.2 r'.2
theorem Sh.go {a:Nat} {st st':CS} (h:Sh a st st') {k k':Nat} (e:k'=a+k):Sh a (st.go k) (st'.go k'):=⟨e,h.name,h.arg,h.sub,h.table⟩
theorem Sh.mark {a:Nat} {st st':CS} (h:Sh a st st') (p p':Nat) (w:List UInt8):Sh a (st.mark p w) (st'.mark p' w):=⟨h.k,h.name,h.arg,h.sub,h.table⟩
theorem Sh.argS {a:Nat} {st st':CS} (h:Sh a st st') (t:List UInt8) {k k':Nat} (e:k'=a+k):Sh a (st.arg t k) (st'.arg t k'):=⟨e,h.name,rfl,h.sub,h.table⟩
theorem Sh.fileS {a:Nat} {st st':CS} (h:Sh a st st') (t:List UInt8) {k k':Nat} (e:k'=a+k):Sh a (st.file t k) (st'.file t k'):=⟨e,h.name,h.arg,by show { st'.c.sub with file:=t }={ st.c.sub with file:=t };rw [h.sub],h.table⟩
theorem Sh.rx {a:Nat} {st st':CS} (h:Sh a st st') (t:List UInt8) (d:Option Nd) (ms ms':List Wm) {k k':Nat} (e:k'=a+k):Sh a (st.rx t d ms k) (st'.rx t d ms' k'):=⟨e,h.name,h.arg,by show { st'.c.sub with text:=t,tree:=d }={ st.c.sub with text:=t,tree:=d };rw [h.sub],h.table⟩
theorem Sh.parts {a:Nat} {st st':CS} (h:Sh a st st') (ps:List Cp) {k k':Nat} (e:k'=a+k):Sh a (st.parts ps k) (st'.parts ps k'):=⟨e,h.name,h.arg,by show { st'.c.sub with parts:=ps }={ st.c.sub with parts:=ps };rw [h.sub],h.table⟩
theorem Sh.nth {a:Nat} {st st':CS} (h:Sh a st st') (n:Nat) {k k':Nat} (e:k'=a+k):Sh a (st.nth n k) (st'.nth n k'):=⟨e,h.name,h.arg,by show { st'.c.sub with nth:=n }={ st.c.sub with nth:=n };rw [h.sub],h.table⟩
theorem Sh.all {a:Nat} {st st':CS} (h:Sh a st st'):Sh a st.all st'.all:=⟨by show st'.k+1=a+(st.k+1);rw [h.k,Nat.add_assoc],h.name,h.arg,by show { st'.c.sub with all:=true }={ st.c.sub with all:=true };rw [h.sub],h.table⟩
theorem Sh.prt {a:Nat} {st st':CS} (h:Sh a st st'):Sh a st.prt st'.prt:=⟨by show st'.k+1=a+(st.k+1);rw [h.k,Nat.add_assoc],h.name,h.arg,by show { st'.c.sub with prt:=true }={ st.c.sub with prt:=true };rw [h.sub],h.table⟩
theorem Sh.tableS {a:Nat} {st st':CS} (h:Sh a st st') (t:List UInt8) {k k':Nat} (e:k'=a+k):Sh a (st.table t k) (st'.table t k'):=⟨e,h.name,h.arg,h.sub,rfl⟩
theorem Im.then {a:Nat} {r r':CO} (h:Im a r r') {f f':CS→CO} (hf:r.1=0→Im a (f r.2) (f' r'.2)):Im a (r.then f) (r'.then f'):=by
 unfold CO.then
 rw [h.1];by_cases h0:r.1=0
 ·rw [if_pos h0,if_pos h0];exact hf h0
 ·rw [if_neg h0,if_neg h0];exact h
theorem Nm (A L:List UInt8) {st st':CS} (h:Sh A.length st st'):Im A.length (By L st) (By (A++L) st'):=by
 unfold By;rw [h.k,LY];exact ⟨rfl,h.argS _ rfl⟩
theorem ZX (A L:List UInt8) {st st':CS} (h:Sh A.length st st'):Im A.length (Dd L st) (Dd (A++L) st'):=by
 have hl:=Nm A L h;unfold Dd;rw [hl.1];by_cases h0:(By L st).1=14
 ·rw [if_pos h0,if_pos h0]
  exact ⟨rfl,hl.2.go (by rw [h.k,EX])⟩
 ·rw [if_neg h0,if_neg h0];exact hl
theorem Nn (A L:List UInt8) {st st':CS} (h:Sh A.length st st'):Im A.length (CT L st) (CT (A++L) st'):=by
 unfold CT;rw [h.k,Bn,Pa A.length _ _ _ _ (Adf _)];exact ⟨rfl,h.argS _ rfl⟩
theorem XT (A L:List UInt8) {st st':CS} (h:Sh A.length st st'):Im A.length (Ct L st) (Ct (A++L) st'):=by
 unfold Ct;rw [h.k,EX,Bn];cases L.drop (Ak L st.k) with
 | nil=>exact ⟨rfl,h.go rfl⟩
 | cons c t=>
  simp only;by_cases h1:c=10
  ·rw [if_pos h1,if_pos h1];exact ⟨rfl,h.go rfl⟩
  ·rw [if_neg h1,if_neg h1]
   by_cases h2:c=92∧t.head?=some 10
   ·rw [if_pos h2,if_pos h2];exact Nn A L (h.go (by omega))
   ·rw [if_neg h2,if_neg h2];exact Nn A L ((h.go rfl).mark _ _ _)
theorem U1 (A L:List UInt8) {st st':CS} (h:Sh A.length st st'):Im A.length (BC L st) (BC (A++L) st'):=by
 unfold BC;rw [h.k,EX,LY];by_cases h1:Ak L st.k=st.k
 ·rw [if_pos h1,if_pos (by omega)];exact ⟨rfl,h⟩
 ·rw [if_neg h1,if_neg (by omega)];exact ⟨rfl,h.argS _ rfl⟩
theorem U2 (A L:List UInt8) {st st':CS} (h:Sh A.length st st'):Im A.length (Bz L st) (Bz (A++L) st'):=by
 unfold Bz;rw [h.k,EX,LY];by_cases h1:Ak L st.k=st.k
 ·rw [if_pos h1,if_pos (by omega)];exact ⟨rfl,h⟩
 ·rw [if_neg h1,if_neg (by omega)];exact ⟨rfl,h.fileS _ rfl⟩
theorem U3 (A L:List UInt8) {st st':CS} (h:Sh A.length st st'):(A6 (A++L) st').1=(A6 L st).1∧Im A.length (A6 L st).2 (A6 (A++L) st').2:=by
 unfold A6;rw [h.k,Bn];cases L.drop st.k with
 | nil=>exact ⟨rfl,rfl,h⟩
 | cons c t=>
  simp only;split
  ·exact ⟨rfl,rfl,h⟩
  ·exact ⟨rfl,rfl,h.go (Nat.add_assoc _ _ _)⟩
theorem Pb (A L:List UInt8) {st st':CS} (h:Sh A.length st st'):Im A.length (BZ L st) (BZ (A++L) st'):=by
 unfold BZ;rw [h.k,EX,Bn];cases L.drop (Ak L st.k) with
 | nil=>exact ⟨rfl,h.go rfl⟩
 | cons c t=>
  simp only;split
  ·exact ⟨rfl,h.go rfl⟩
  ·split
   ·exact ⟨rfl,(h.go rfl).mark _ _ _⟩
   ·exact ⟨rfl,h.go rfl⟩
theorem Ab7 (ext:Bool) (A L:List UInt8) (d:UInt8) {st st':CS} (h:Sh A.length st st') (hk:st.k≤L.length):Im A.length (DF ext L d st) (DF ext (A++L) d st'):=by
 unfold DF;rw [h.k];have hd:=Nl ext A L st.k d hk;generalize At ext L st.k d=R at hd ⊢;generalize At ext (A++L) (A.length+st.k) d=R' at hd ⊢;cases R with
 | error q=>
  cases R' with
  | error r=>obtain rfl:r=_:=hd;exact ⟨rfl,h.rx _ _ _ _ rfl⟩
  | ok r=>cases hd
 | ok q=>
  cases R' with
  | error r=>cases hd
  | ok r=>
   obtain ⟨⟨t,D⟩,ms,p⟩:=q;obtain ⟨q',ms',p'⟩:=r;obtain ⟨h1,h2⟩:q'=(t,D)∧p'=A.length+p:=hd;subst h1 h2;exact ⟨rfl,h.rx _ _ _ _ rfl⟩
theorem ZY (A L:List UInt8) (d:UInt8) {st st':CS} (h:Sh A.length st st') (hk:st.k≤L.length):Im A.length (CE L d st) (CE (A++L) d st'):=by
 unfold CE;rw [h.k,h.sub,EY A L d false st.k hk];generalize Aj L (st.k:Int) d false=r;obtain ⟨t,p,e⟩:=r;simp only [LX];generalize Ca (EW st.c.sub.tree) t false [] []=q;unfold DG;simp only;split
 ·split
  ·exact ⟨rfl,h.parts _ rfl⟩
  ·exact ⟨rfl,h⟩
 ·exact ⟨rfl,h.go rfl⟩
theorem ZZ (A L:List UInt8) {st st':CS} (h:Sh A.length st st'):Im A.length (CU L st) (CU (A++L) st'):=by
 unfold CU;rw [h.k,OZ];generalize Bu L st.k=r;obtain ⟨n,p,e⟩:=r;unfold C0;rw [h.sub];simp only;split
 ·split
  ·split
   ·exact ⟨rfl,h⟩
   ·exact ⟨rfl,h.nth _ rfl⟩
  ·exact ⟨rfl,h⟩
 ·exact ⟨rfl,h⟩
theorem Aaa {a:Nat} {st st':CS} (h:Sh a st st'):Im a (De st) (De st'):=by
 unfold De;rw [h.sub];split
 ·exact ⟨rfl,h⟩
 ·exact ⟨rfl,h.all⟩
theorem Aab {a:Nat} {st st':CS} (h:Sh a st st'):Im a (Df st) (Df st'):=by
 unfold Df;rw [h.sub];split
 ·exact ⟨rfl,h⟩
 ·exact ⟨rfl,h.prt⟩
theorem XU {L:List UInt8} {k:Nat} (hk:k≤L.length) (h:(Bu L k).2.2=0):k < (Bu L k).2.1∧(Bu L k).2.1≤L.length:=by
 refine ⟨?_,(EF L k hk).2⟩;unfold Bu at h ⊢;simp only at h ⊢;split at h
 ·cases h
 ·split at h
  ·cases h
  ·rename_i h1 h2
   rw [if_neg h1,if_neg h2];simp only;omega
theorem J9 {L:List UInt8} {b:UInt8} {st:CS} {r:CO} (hk:st.k < L.length) (hf:AI L b st=some r) (h0:r.1=0):st.k < r.2.k∧r.2.k≤L.length:=by
 unfold AI at hf;split at hf
 ·injection hf with hf
  subst hf;unfold De at h0 ⊢;split at h0
  ·cases h0
  ·rename_i h1;rw [if_neg h1];exact ⟨Nat.lt_succ_self _,hk⟩
 ·split at hf
  ·injection hf with hf
   subst hf;unfold Df at h0 ⊢;split at h0
   ·cases h0
   ·rename_i h1;rw [if_neg h1];exact ⟨Nat.lt_succ_self _,hk⟩
  ·split at hf
   ·injection hf with hf
    subst hf;unfold CU C0 at h0 ⊢;split at h0
    ·rename_i h1
     rw [if_pos h1];split at h0
     ·rename_i h2
      rw [if_pos h2];split at h0
      ·cases h0
      ·rename_i h3
       rw [if_neg h3];exact XU (by omega) h1
     ·cases h0
    ·rename_i h1
     exact absurd h0 h1
   ·cases hf
theorem XV (A L:List UInt8) (b:UInt8) {st st':CS} (h:Sh A.length st st'):(AI L b st=none∧AI (A++L) b st'=none)∨∃ r r',AI L b st=some r∧AI (A++L) b st'=some r'∧Im A.length r r':=by
 unfold AI;split
 ·exact .inr ⟨_,_,rfl,rfl,Aaa h⟩
 ·split
  ·exact .inr ⟨_,_,rfl,rfl,Aab h⟩
  ·split
   ·exact .inr ⟨_,_,rfl,rfl,ZZ A L h⟩
   ·exact .inl ⟨rfl,rfl⟩
theorem No (A L:List UInt8):∀ (n m:Nat) {st st':CS},Sh A.length st st'→st.k≤L.length→L.length - st.k < n→L.length - st.k < m→Im A.length (A9 L n st) (A9 (A++L) m st')
 | 0,m,st,st',h,hk,h1,_=>by omega
 | n+1,0,st,st',h,hk,_,h2=>by omega
 | n+1,m+1,st,st',h,hk,h1,h2=>by
  unfold A9;rw [h.k,Bn];cases hd:L.drop st.k with
  | nil=>exact ⟨rfl,h⟩
  | cons b t=>
   have hlt:=Bg hd;simp only;rcases XV A L b h with ⟨e1,e2⟩ | ⟨r,r',e1,e2,hr⟩
   ·rw [e1,e2]
    simp only;split
    ·exact U2 A L (h.go (Nat.add_assoc _ _ _))
    ·exact Pb A L h
   ·rw [e1,e2]
    simp only;rw [hr.1];by_cases h0:r.1=0
    ·rw [if_pos h0,if_pos h0]
     obtain ⟨g1,g2⟩:=J9 hlt e1 h0;exact No A L n m hr.2 g2 (by omega) (by omega)
    ·rw [if_neg h0,if_neg h0];exact hr
theorem Dr {d:UInt8} {rx:Bool} {L:List UInt8} {k:Nat} (hk:k≤L.length):(Aj L (k:Int) d rx).2.1≤L.length:=by
 unfold Aj;rw [Dq _ _ _ _ hk];exact J7 d rx L _ k [] hk
theorem EZ {L:List UInt8} {st:CS} (hk:st.k≤L.length):(A6 L st).2.2.k≤L.length:=by
 unfold A6;cases hd:L.drop st.k with
 | nil=>exact hk
 | cons c t=>
  have:=Bg hd;simp only;split
  ·exact hk
  ·show st.k+1≤_;omega
theorem Lc {ext:Bool} {L:List UInt8} {b:Nat} {d:UInt8} {q:(List UInt8 × Nd) × List Wm × Nat} (hb:b≤L.length) (h:At ext L b d=.ok q):q.2.2≤L.length:=by
 unfold At at h;simp only at h;split at h
 ·split at h
  ·cases h
  ·split at h
   ·cases h
   ·injection h with h
    subst h;exact Dr hb
 ·cases h
theorem Pc {ext:Bool} {L:List UInt8} {d:UInt8} {st:CS} (hk:st.k≤L.length) (h0:(DF ext L d st).1=0) (he:∀ q,At ext L st.k d=.error q→q.1≠0):(DF ext L d st).2.k≤L.length:=by
 unfold DF at h0 ⊢;cases hR:At ext L st.k d with
 | error q=>rw [hR] at h0;exact absurd h0 (he q hR)
 | ok q=>exact Lc hk hR
theorem GT (L:List UInt8) (st:CS):(A6 L st).2.2.ms=st.ms:=by
 unfold A6;split
 ·rfl
 ·split <;> rfl
theorem IX {L:List UInt8} {d:UInt8} {st:CS} (hk:st.k≤L.length):(CE L d st).2.k≤L.length:=by
 unfold CE DG;split
 ·split
  ·exact Dr hk
  ·exact hk
 ·exact Dr hk
theorem Aac (ext:Bool) (A L:List UInt8) {st st':CS} (h:Sh A.length st st') (hk:st.k≤L.length) (he:∀ k d q,At ext L k d=.error q→q.1≠0):Im A.length (Cx ext L st) (Cx ext (A++L) st'):=by
 unfold Cx;have hd:=U3 A L h;rw [hd.1];refine Im.then hd.2 fun _=>?_
 have k1:=EZ hk;have h2:=Ab7 ext A L (A6 L st).1 hd.2.2 k1;refine Im.then h2 fun h0=>?_
 have k2:=Pc k1 h0 (fun q=>he _ _ q);have h3:=ZY A L (A6 L st).1 h2.2 k2;refine Im.then h3 fun _=>?_
 exact No A L _ _ h3.2 (IX k2) (by omega) (by rw [Adh];omega)
theorem Aad (A L:List UInt8) {st st':CS} (h:Sh A.length st st') (hk:st.k≤L.length):Im A.length (Cq L st) (Cq (A++L) st'):=by
 unfold Cq;have hd:=U3 A L h;rw [hd.1];refine Im.then hd.2 fun _=>?_
 have k1:=EZ hk;rw [hd.2.2.k,EY A L _ false _ k1];have k2:=Dr (d:=(A6 L st).1) (rx:=false) k1;generalize Aj L ((A6 L st).2.2.k:Int) (A6 L st).1 false=r at k2 ⊢;obtain ⟨t,p,e⟩:=r;rw [show LX A.length (t,p,e)=(t,A.length+p,e) from rfl];unfold F8;simp only at k2 ⊢;by_cases he:e=0
 ·rw [if_pos he,if_pos he]
  rw [EY A L _ false _ k2];generalize Aj L (p:Int) (A6 L st).1 false=r2;obtain ⟨t2,p2,e2⟩:=r2;rw [show LX A.length (t2,p2,e2)=(t2,A.length+p2,e2) from rfl];simp only;generalize Lb t t2=q;unfold F7;simp only;by_cases he2:e2=0
  ·rw [if_pos he2,if_pos he2]
   by_cases hq:q.2=0
   ·rw [if_pos hq,if_pos hq]
    exact Pb A L (hd.2.2.tableS _ rfl)
   ·rw [if_neg hq,if_neg hq]
    exact ⟨rfl,hd.2.2.go rfl⟩
  ·rw [if_neg he2,if_neg he2]
   exact ⟨rfl,hd.2.2.go rfl⟩
 ·rw [if_neg he,if_neg he]
  exact ⟨rfl,hd.2.2.go rfl⟩
theorem Np (ext:Bool) (A L:List UInt8) {st st':CS} (h:Sh A.length st st') (hk:st.k≤L.length) (he:∀ k d q,At ext L k d=.error q→q.1≠0):Im A.length (B0 ext L st) (B0 ext (A++L) st'):=by
 unfold B0;rw [h.name];simp only;split
 ·exact ⟨rfl,h⟩
 ·split
  ·exact Nm A L h
  ·split
   ·exact ZX A L h
   ·split
    ·exact XT A L h
    ·split
     ·exact U1 A L h
     ·split
      ·exact Aac ext A L h hk he
      ·split
       ·exact Aad A L h hk
       ·exact Pb A L h
end
section
set_option linter.unusedVariables false
def Kp (st:CS) (r:CS):Prop:=r.c.pl=st.c.pl∧r.c.name=st.c.name∧r.c.g=st.c.g
theorem Kp.refl (st:CS):Kp st st:=⟨rfl,rfl,rfl⟩
theorem Kp.trans {a b c:CS} (h:Kp a b) (k:Kp b c):Kp a c:=⟨k.1.trans h.1,k.2.1.trans h.2.1,k.2.2.trans h.2.2⟩
theorem IY {st:CS} {r:CO} {f:CS→CO} (h:Kp st r.2) (hf:Kp r.2 (f r.2).2):Kp st (r.then f).2:=by
 unfold CO.then
 split
 ·exact h.trans hf
 ·exact h
theorem Nq (L:List UInt8) (st:CS):Kp st (By L st).2:=⟨rfl,rfl,rfl⟩
theorem Aae (L:List UInt8) (st:CS):Kp st (Dd L st).2:=by
 unfold Dd;split
 ·exact ⟨rfl,rfl,rfl⟩
 ·exact Nq L st
theorem XW (L:List UInt8) (st:CS):Kp st (Ct L st).2:=by
 unfold Ct;split
 ·exact ⟨rfl,rfl,rfl⟩
 ·split
  ·exact ⟨rfl,rfl,rfl⟩
  ·split <;> exact ⟨rfl,rfl,rfl⟩
theorem U4 (L:List UInt8) (st:CS):Kp st (BC L st).2:=by
 unfold BC;split <;> exact ⟨rfl,rfl,rfl⟩
theorem U5 (L:List UInt8) (st:CS):Kp st (Bz L st).2:=by
 unfold Bz;split <;> exact ⟨rfl,rfl,rfl⟩
theorem U6 (L:List UInt8) (st:CS):Kp st (A6 L st).2.2:=by
 unfold A6;split
 ·exact ⟨rfl,rfl,rfl⟩
 ·split <;> exact ⟨rfl,rfl,rfl⟩
theorem Pd (L:List UInt8) (st:CS):Kp st (BZ L st).2:=by
 unfold BZ;split
 ·exact ⟨rfl,rfl,rfl⟩
 ·split
  ·exact ⟨rfl,rfl,rfl⟩
  ·split <;> exact ⟨rfl,rfl,rfl⟩
theorem Ab8 (ext:Bool) (L:List UInt8) (d:UInt8) (st:CS):Kp st (DF ext L d st).2:=by
 unfold DF LW;split <;> exact ⟨rfl,rfl,rfl⟩
theorem Aaf (L:List UInt8) (d:UInt8) (st:CS):Kp st (CE L d st).2:=by
 unfold CE DG;split
 ·split <;> exact ⟨rfl,rfl,rfl⟩
 ·exact ⟨rfl,rfl,rfl⟩
theorem Rh {L:List UInt8} {b:UInt8} {st:CS} {r:CO} (h:AI L b st=some r):Kp st r.2:=by
 unfold AI at h;split at h
 ·injection h with h
  subst h;unfold De;split <;> exact ⟨rfl,rfl,rfl⟩
 ·split at h
  ·injection h with h
   subst h;unfold Df;split <;> exact ⟨rfl,rfl,rfl⟩
  ·split at h
   ·injection h with h
    subst h;unfold CU C0;split
    ·split
     ·split <;> exact ⟨rfl,rfl,rfl⟩
     ·exact ⟨rfl,rfl,rfl⟩
    ·exact ⟨rfl,rfl,rfl⟩
   ·cases h
theorem Nr (L:List UInt8):∀ (n:Nat) (st:CS),Kp st (A9 L n st).2
 | 0,st=>Kp.refl st
 | n+1,st=>by
  unfold A9;split
  ·exact Kp.refl st
  ·split
   ·rename_i hf
    split
    ·exact (Rh hf).trans (Nr L n _)
    ·exact Rh hf
   ·split
    ·exact Kp.trans (b:=st.go (st.k+1)) ⟨rfl,rfl,rfl⟩ (U5 L _)
    ·exact Pd L st
theorem Aag (ext:Bool) (L:List UInt8) (st:CS):Kp st (Cx ext L st).2:=by
 unfold Cx;exact IY (U6 L st) (IY (Ab8 ext L _ _) (IY (Aaf L _ _) (Nr L _ _)))
theorem Aah (L:List UInt8) (st:CS):Kp st (Cq L st).2:=by
 unfold Cq;refine IY (U6 L st) ?_;unfold F8;split
 ·unfold F7
  split
  ·split
   ·exact Kp.trans (b:=(A6 L st).2.2.table _ _) ⟨rfl,rfl,rfl⟩ (Pd L _)
   ·exact ⟨rfl,rfl,rfl⟩
  ·exact ⟨rfl,rfl,rfl⟩
 ·exact ⟨rfl,rfl,rfl⟩
theorem U7 (ext:Bool) (L:List UInt8) (st:CS):Kp st (B0 ext L st).2:=by
 unfold B0;simp only;split
 ·exact Kp.refl st
 ·split
  ·exact Nq L st
  ·split
   ·exact Aae L st
   ·split
    ·exact XW L st
    ·split
     ·exact U4 L st
     ·split
      ·exact Aag ext L st
      ·split
       ·exact Aah L st
       ·exact Pd L st
end
section
set_option linter.unusedVariables false
def X0 {α:Type} (a:Nat) (f:α→α) (R R':BG α):Prop:=
 match R,R' with
 | .error q,.error r=>r=(q.1,a+q.2)
 | .ok q,.ok r=>r.1=f q.1∧r.2.2=a+q.2.2
 | _,_=>False
theorem Ri (ext:Bool) (A L:List UInt8) (b:Nat) (d:UInt8) (hb:b≤L.length):X0 A.length id (Ec ext L b d) (Ec ext (A++L) (A.length+b) d):=by
 have h:=Nl ext A L b d hb;unfold Ec;generalize At ext L b d=R at h ⊢;generalize At ext (A++L) (A.length+b) d=R' at h ⊢;cases R with
 | error q=>
  cases R' with
  | error r=>exact h
  | ok r=>exact h.elim
 | ok q=>
  cases R' with
  | error r=>exact h.elim
  | ok r=>exact ⟨by show (⟨3,0,r.1.1,some r.1.2⟩:Adr)=⟨3,0,q.1.1,some q.1.2⟩;rw [h.1],h.2⟩
theorem Si (A L:List UInt8) (k:Nat):X0 A.length id (Dl L k) (Dl (A++L) (A.length+k)):=by
 unfold Dl;rw [OZ];obtain ⟨n,p,e⟩:=Bu L k;simp only;by_cases he:e=0
 ·rw [if_pos he,if_pos he]
  by_cases hn:n=0
  ·rw [if_pos hn,if_pos hn];exact rfl
  ·rw [if_neg hn,if_neg hn];exact ⟨rfl,rfl⟩
 ·rw [if_neg he,if_neg he];exact rfl
theorem Sj (A L:List UInt8) (k:Nat):X0 A.length id (Dm L k) (Dm (A++L) (A.length+k)):=by
 unfold Dm;rw [Nat.add_assoc A.length k 1,OZ];obtain ⟨n,p,e⟩:=Bu L (k+1);simp only;by_cases he:e=0
 ·rw [if_pos he,if_pos he];exact ⟨rfl,rfl⟩
 ·rw [if_neg he,if_neg he];exact rfl
theorem U8 (ext:Bool) (A L:List UInt8) (k:Nat):X0 A.length id (EE ext L k) (EE ext (A++L) (A.length+k)):=by
 unfold EE;rw [Nat.add_assoc A.length k 1,Bn,Nat.add_assoc A.length k 2];cases hd:L.drop (k+1) with
 | nil=>exact rfl
 | cons x t=>
  simp only;by_cases hx:x=92∨x=10
  ·rw [if_pos hx,if_pos hx];exact rfl
  ·rw [if_neg hx,if_neg hx];exact Ri ext A L (k+2) x (by have:=Bg hd;omega)
theorem U9 (ext second:Bool) (A L:List UInt8) (k:Nat):X0 A.length id (EN ext second L k) (EN ext second (A++L) (A.length+k)):=by
 unfold EN;rw [Bn];cases hd:L.drop k with
 | nil=>exact ⟨rfl,rfl⟩
 | cons c t=>
  have hk:=Bg hd;simp only;by_cases h1:48≤c.toNat∧c.toNat≤57
  ·rw [if_pos h1,if_pos h1];exact Si A L k
  rw [if_neg h1,if_neg h1];by_cases h2:c=36
  ·rw [if_pos h2,if_pos h2];exact ⟨rfl,Nat.add_assoc _ _ _⟩
  rw [if_neg h2,if_neg h2];by_cases h3:c=47
  ·rw [if_pos h3,if_pos h3,Nat.add_assoc];exact Ri ext A L (k+1) 47 (by omega)
  rw [if_neg h3,if_neg h3];by_cases h4:c=92
  ·rw [if_pos h4,if_pos h4];exact U8 ext A L k
  rw [if_neg h4,if_neg h4];by_cases h5:c=43∧second=true
  ·rw [if_pos h5,if_pos h5];exact Sj A L k
  ·rw [if_neg h5,if_neg h5];exact ⟨rfl,rfl⟩
theorem UA (ext:Bool) (A L:List UInt8) (k:Nat):X0 A.length id (BY ext L k) (BY ext (A++L) (A.length+k)):=by
 unfold BY;rw [EX,Bn,Nat.add_assoc A.length (Ak L k) 1,EX];by_cases h1:(L.drop (Ak L k)).head?=some 44
 ·rw [if_pos h1,if_pos h1]
  have h:=U9 ext true A L (Ak L (Ak L k+1));generalize EN ext true L (Ak L (Ak L k+1))=R at h ⊢;generalize EN ext true (A++L) (A.length+Ak L (Ak L k+1))=R' at h ⊢;unfold Et;cases R with
  | error q=>
   cases R' with
   | error r=>exact h
   | ok r=>exact h.elim
  | ok q=>
   cases R' with
   | error r=>exact h.elim
   | ok r=>
    have e:r.1=q.1:=h.1;simp only [e];by_cases h0:q.1.kind=0
    ·rw [if_pos h0,if_pos h0];exact rfl
    ·rw [if_neg h0,if_neg h0];exact h
 ·rw [if_neg h1,if_neg h1];exact ⟨rfl,rfl⟩
theorem UB (A L:List UInt8) (k:Nat):Cw (A++L) (A.length+k)=(match Cw L k with | .error q=>.error (q.1,A.length+q.2) | .ok q=>.ok (q.1,A.length+q.2)):=by
 unfold Cw;rw [EX,Bn,Nat.add_assoc A.length (Ak L k) 1,EX,Bn];by_cases h1:(L.drop (Ak L k)).head?=some 33
 ·rw [if_pos h1,if_pos h1]
  by_cases h2:(L.drop (Ak L (Ak L k+1))).head?=some 33
  ·rw [if_pos h2,if_pos h2]
  ·rw [if_neg h2,if_neg h2]
 ·rw [if_neg h1,if_neg h1]
theorem Ab9 (ext:Bool) (A L:List UInt8) (k:Nat):X0 A.length id (IW ext L k) (IW ext (A++L) (A.length+k)):=by
 have h2:X0 A.length id (Ed ext L (EN ext false L k)) (Ed ext (A++L) (EN ext false (A++L) (A.length+k))):=by
  have h:=U9 ext false A L k;generalize EN ext false L k=R at h ⊢;generalize EN ext false (A++L) (A.length+k)=R' at h ⊢;unfold Ed;cases R with
  | error q=>
   cases R' with
   | error r=>exact h
   | ok r=>exact h.elim
  | ok q=>
   cases R' with
   | error r=>exact h.elim
   | ok r=>
    have e:r.1=q.1:=h.1;have e2:r.2.2=A.length+q.2.2:=h.2;simp only [e,e2];by_cases h0:q.1.kind=0
    ·rw [if_pos h0,if_pos h0];exact ⟨rfl,e2⟩
    ·rw [if_neg h0,if_neg h0]
     have hs:=UA ext A L q.2.2;generalize BY ext L q.2.2=S at hs ⊢;generalize BY ext (A++L) (A.length+q.2.2)=S' at hs ⊢;unfold F4;cases S with
     | error q=>cases S' with
      | error r=>exact hs
      | ok r=>exact hs.elim
     | ok q=>cases S' with
      | error r=>exact hs.elim
      | ok r=>exact ⟨by show (_,r.1)=(_,_);rw [show r.1=_ from hs.1];rfl,hs.2⟩
 unfold IW;generalize Ed ext L (EN ext false L k)=R at h2 ⊢;generalize Ed ext (A++L) (EN ext false (A++L) (A.length+k))=R' at h2 ⊢;unfold G2;cases R with
 | error q=>
  cases R' with
  | error r=>exact h2
  | ok r=>exact h2.elim
 | ok q=>
  cases R' with
  | error r=>exact h2.elim
  | ok r=>
   have e:r.1=q.1:=h2.1;have e2:r.2.2=A.length+q.2.2:=h2.2;simp only [e,e2];rw [UB];generalize Cw L q.2.2=S;unfold F5;cases S with
   | error x=>exact rfl
   | ok x=>exact ⟨rfl,rfl⟩
def shC (a:Nat) (c:Cmd):Cmd:={ c with pl:=a+c.pl }
theorem Ns (ext:Bool) (L:List UInt8) (st:CS):(AM ext L st).2.c.pl=st.c.pl∧(AM ext L st).2.c.g=st.c.g:=by
 have hn:(Bf L st).2.c.pl=st.c.pl∧(Bf L st).2.c.g=st.c.g:=by
  unfold Bf;split
  ·exact ⟨rfl,rfl⟩
  ·unfold BA
   split
   ·exact ⟨rfl,rfl⟩
   ·split
    ·exact ⟨rfl,rfl⟩
    ·split
     ·exact ⟨rfl,rfl⟩
     ·exact ⟨rfl,rfl⟩
 unfold AM CO.then
 split
 ·have h:=U7 ext L (Bf L st).2
  exact ⟨h.1.trans hn.1,h.2.2.trans hn.2⟩
 ·exact hn
theorem UC (ext:Bool) (A L:List UInt8) (g:Grd) (ms ms':List Wm) (p:Nat) (he:∀ k d q,At ext L k d=.error q→q.1≠0) :
  Im A.length (AM ext L (Bc g ms p)) (AM ext (A++L) (Bc g ms' (A.length+p))):=by
 have h0:Sh A.length (Bc g ms p) (Bc g ms' (A.length+p)):=⟨rfl,rfl,rfl,rfl,rfl⟩
 unfold AM Bf;rw [show (Bc g ms' (A.length+p)).k=A.length+p from rfl,show (Bc g ms p).k=p from rfl,Bn];cases hd:L.drop p with
 | nil=>exact ⟨rfl,h0⟩
 | cons b t=>
  have hk:=Bg hd;simp only;cases Ey b with
  | none=>exact ⟨rfl,h0⟩
  | some n=>
   unfold BA;simp only;rw [show (Bc g ms' (A.length+p)).c.g=g from rfl,show (Bc g ms p).c.g=g from rfl];by_cases hx:n < Il g
   ·rw [if_pos hx,if_pos hx];exact ⟨rfl,h0⟩
   ·rw [if_neg hx,if_neg hx]
    cases G3 b with
    | true=>exact Np ext A L (st:=((Bc g ms p).mark p [b]).name b) (st':=((Bc g ms' (A.length+p)).mark (A.length+p) [b]).name b) ⟨by show A.length+p+1=A.length+(p+1);omega,rfl,rfl,rfl,rfl⟩ (by show p+1≤L.length;omega) he
    | false=>exact Np ext A L (st:=(Bc g ms p).name b) (st':=(Bc g ms' (A.length+p)).name b) ⟨by show A.length+p+1=A.length+(p+1);omega,rfl,rfl,rfl,rfl⟩ (by show p+1≤L.length;omega) he
theorem Aca (ext:Bool) (A L:List UInt8) (k:Nat) (he:∀ k d q,At ext L k d=.error q→q.1≠0):X0 A.length (shC A.length) (MV ext L k) (MV ext (A++L) (A.length+k)):=by
 have h:=Ab9 ext A L k;unfold MV;generalize IW ext L k=R at h ⊢;generalize IW ext (A++L) (A.length+k)=R' at h ⊢;cases R with
 | error q=>
  cases R' with
  | error r=>exact h
  | ok r=>exact h.elim
 | ok q=>
  cases R' with
  | error r=>exact h.elim
  | ok r=>
   obtain ⟨g,ms,p⟩:=q;obtain ⟨g',ms',p'⟩:=r;have e1:g'=g:=h.1;have e2:p'=A.length+p:=h.2;subst e1 e2;show X0 _ _ (F9 (AM ext L (Bc g' ms p))) (F9 (AM ext (A++L) (Bc g' ms' (A.length+p))));obtain ⟨w1,w2⟩:=UC ext A L g' ms ms' p he;have k1:=Ns ext L (Bc g' ms p);have k2:=Ns ext (A++L) (Bc g' ms' (A.length+p));generalize AM ext L (Bc g' ms p)=r at w1 w2 k1 ⊢;generalize AM ext (A++L) (Bc g' ms' (A.length+p))=r' at w1 w2 k2 ⊢;obtain ⟨n,st⟩:=r;obtain ⟨n',st'⟩:=r';have e3:n'=n:=w1;subst e3;have w2:Sh A.length st st':=w2;unfold F9;simp only;by_cases h0:n'=0
   ·rw [if_pos h0,if_pos h0]
    refine ⟨?_,w2.k⟩;show st'.c=shC A.length st.c;obtain ⟨kk,⟨pl,gg,nm,ar,sb,tb⟩,mm⟩:=st;obtain ⟨kk',⟨pl',gg',nm',ar',sb',tb'⟩,mm'⟩:=st';have a1:nm'=nm:=w2.name;have a2:ar'=ar:=w2.arg;have a3:sb'=sb:=w2.sub;have a4:tb'=tb:=w2.table;have b1:pl=p:=k1.1;have b2:gg=g':=k1.2;have b3:pl'=A.length+p:=k2.1;have b4:gg'=g':=k2.2;subst a1 a2 a3 a4 b1 b2 b3 b4;rfl
   ·rw [if_neg h0,if_neg h0]
    show (n',st'.k)=(n',A.length+st.k)
    rw [w2.k]
end
section
set_option linter.unusedVariables false
def FA (L:List UInt8) (k:Nat):Nat:=k+EQ [32,9,10,59] (L.drop k)
def D2 (L:List UInt8) (k:Nat):Nat:=AH (fun b=>!(b == 10)) (L.drop k)
def C3 (L:List UInt8):Nat→Nat→Nat
 | 0,k=>k
 | n+1,k=>if (L.drop k).head?=some 35 then C3 L n (FA L (k+D2 L k)) else k
def AJ (L:List UInt8) (k:Nat):Nat:=C3 L (L.length+1) (FA L k)
structure SS where
 k:Nat
 cs:List Cmd
 ms:List Wm
 op:List Nat
def scLabels (cs:List Cmd):List (List UInt8):=(cs.filter fun c=>c.name == 58).map (·.arg)
def AQ (st:SS) (c:Cmd):Nat × List Nat:=
 if c.name=123 then (if st.op.length=12 then (4,st.op) else (0,st.op++[c.pl]))
 else if c.name=125 then (if st.op.length=0 then (16,st.op) else (0,st.op.dropLast))
 else if c.name=58 then (if c.arg∈scLabels st.cs then (15,st.op) else (0,st.op))
 else (0,st.op)
def IC (st:SS) (q:Cmd × List Wm × Nat) (r:Nat × List Nat):Except (Nat × Nat) SS:=
 if r.1=0 then .ok ⟨q.2.2,st.cs++[q.1],st.ms++q.2.1,r.2⟩ else .error (r.1,q.1.pl)
def FX (st:SS) (R:BG Cmd):Except (Nat × Nat) SS:=
 match R with
 | .error q=>.error q
 | .ok q=>IC st q (AQ st q.1)
def Ee (ext:Bool) (L:List UInt8) (st:SS):Except (Nat × Nat) SS:=
 if st.cs.length=100 then .error (3,st.k) else FX st (MV ext L st.k)
def SS.go (st:SS) (k:Nat):SS:={ st with k:=k }
def D9 (ext:Bool) (L:List UInt8):Nat→SS→Except (Nat × Nat) SS
 | 0,st=>.ok st
 | n+1,st=>
  if AJ L st.k < L.length then
   (match Ee ext L (st.go (AJ L st.k)) with
   | .error q=>.error q
   | .ok st'=>D9 ext L n st')
  else .ok (st.go (AJ L st.k))
def CW (ls:List (List UInt8)) (c:Cmd):Bool:=(c.name == 98 || c.name == 116 || c.name == 84) && !c.arg.isEmpty && !ls.contains c.arg
def Dy (st:SS):Nat × Nat:=
 match st.op.getLast? with
 | some p=>(16,p)
 | none=>(match st.cs.find? (CW (scLabels st.cs)) with
  | some c=>(14,c.pl)
  | none=>(0,0))
def GU (R:Except (Nat × Nat) SS):Except (Nat × Nat) SS:=
 match R with
 | .error q=>.error q
 | .ok st=>if (Dy st).1=0 then .ok st else .error (Dy st)
def C4 (L:List UInt8):Bool:=L.take (D2 L 0) == [35,110]
def MW (ext:Bool) (L:List UInt8):Except (Nat × Nat) SS:=GU (D9 ext L 102 ⟨0,[],[],[]⟩)
theorem Zy (A L:List UInt8) (k:Nat):FA (A++L) (A.length+k)=A.length+FA L k:=by
 unfold FA;rw [Bn,Nat.add_assoc]
theorem Acb (A L:List UInt8) (k:Nat):D2 (A++L) (A.length+k)=D2 L k:=by unfold D2;rw [Bn]
theorem Zz (L:List UInt8) (k:Nat):k≤FA L k:=Nat.le_add_right _ _
theorem UD {L:List UInt8} {k:Nat} (h:(L.drop k).head?=some 35):0 < D2 L k∧k < L.length:=by
 cases hd:L.drop k with
 | nil=>rw [hd] at h;cases h
 | cons c t=>
  rw [hd] at h;injection h with h;subst h;refine ⟨?_,Bg hd⟩;unfold D2 AH;rw [hd];simp
theorem JA (A L:List UInt8):∀ (n m k:Nat),L.length - k < n→L.length - k < m→C3 (A++L) m (A.length+k)=A.length+C3 L n k
 | 0,_,_,h,_=>absurd h (Nat.not_lt_zero _)
 | _,0,_,_,h=>absurd h (Nat.not_lt_zero _)
 | n+1,m+1,k,h1,h2=>by
  unfold C3;rw [Bn];by_cases hh:(L.drop k).head?=some 35
  ·obtain ⟨ha,hb⟩:=UD hh
   have hs:=Zz L (k+D2 L k);rw [if_pos hh,if_pos hh,Acb,Nat.add_assoc,Zy];exact JA A L n m _ (by omega) (by omega)
  ·rw [if_neg hh,if_neg hh]
theorem XX (A L:List UInt8) (k:Nat):AJ (A++L) (A.length+k)=A.length+AJ L k:=by
 unfold AJ;rw [Zy];exact JA A L _ _ _ (by omega) (by rw [Adh];omega)
structure SSh (a:Nat) (st st':SS):Prop where
 cs:st'.cs=st.cs.map (shC a)
 op:st'.op=st.op.map (a+·)
theorem Ld (a:Nat) (cs:List Cmd):scLabels (cs.map (shC a))=scLabels cs:=by
 unfold scLabels;rw [List.filter_map,List.map_map];rfl
theorem Aai {a:Nat} {st st':SS} (h:SSh a st st') (c:Cmd):(AQ st' (shC a c)).1=(AQ st c).1∧(AQ st' (shC a c)).2=(AQ st c).2.map (a+·):=by
 unfold AQ;rw [h.op,h.cs,Ld,List.length_map,show (shC a c).name=c.name from rfl,show (shC a c).arg=c.arg from rfl,show (shC a c).pl=a+c.pl from rfl];by_cases h1:c.name=123
 ·rw [if_pos h1,if_pos h1]
  by_cases h2:st.op.length=12
  ·rw [if_pos h2,if_pos h2];exact ⟨rfl,rfl⟩
  ·rw [if_neg h2,if_neg h2];exact ⟨rfl,by simp⟩
 rw [if_neg h1,if_neg h1];by_cases h3:c.name=125
 ·rw [if_pos h3,if_pos h3]
  by_cases h2:st.op.length=0
  ·rw [if_pos h2,if_pos h2];exact ⟨rfl,rfl⟩
  ·rw [if_neg h2,if_neg h2];exact ⟨rfl,by simp⟩
 rw [if_neg h3,if_neg h3];by_cases h4:c.name=58
 ·rw [if_pos h4,if_pos h4]
  by_cases h2:c.arg∈scLabels st.cs
  ·rw [if_pos h2,if_pos h2];exact ⟨rfl,rfl⟩
  ·rw [if_neg h2,if_neg h2];exact ⟨rfl,rfl⟩
 ·rw [if_neg h4,if_neg h4];exact ⟨rfl,rfl⟩
def ShS (a:Nat) (b:Bool) (R R':Except (Nat × Nat) SS):Prop:=
 match R,R' with
 | .error q,.error r=>r=(q.1,a+q.2)
 | .ok st,.ok st'=>SSh a st st'∧(b=true→st'.k=a+st.k)
 | _,_=>False
theorem XY (ext:Bool) (A L:List UInt8) (he:∀ k d q,At ext L k d=.error q→q.1≠0) {st st':SS} (h:SSh A.length st st') (hk:st'.k=A.length+st.k):ShS A.length true (Ee ext L st) (Ee ext (A++L) st'):=by
 unfold Ee;rw [h.cs,List.length_map,hk];by_cases h1:st.cs.length=100
 ·rw [if_pos h1,if_pos h1];exact rfl
 ·rw [if_neg h1,if_neg h1]
  have hc:=Aca ext A L st.k he;generalize MV ext L st.k=R at hc ⊢;generalize MV ext (A++L) (A.length+st.k)=R' at hc ⊢;unfold FX;cases R with
  | error q=>cases R' with
   | error r=>exact hc
   | ok r=>exact hc.elim
  | ok q=>cases R' with
   | error r=>exact hc.elim
   | ok r=>
    obtain ⟨c,ms,p⟩:=q;obtain ⟨c',ms',p'⟩:=r;have e1:c'=shC A.length c:=hc.1;have e2:p'=A.length+p:=hc.2;subst e1 e2;obtain ⟨f1,f2⟩:=Aai h c;simp only;unfold IC;rw [f1,f2];by_cases h0:(AQ st c).1=0
    ·rw [if_pos h0,if_pos h0]
     exact ⟨⟨by show st'.cs++[_]=(st.cs++[c]).map _;rw [h.cs];simp,rfl⟩,fun _=>rfl⟩
    ·rw [if_neg h0,if_neg h0];exact rfl
theorem UE (ext:Bool) (A L:List UInt8) (he:∀ k d q,At ext L k d=.error q→q.1≠0):∀ (n:Nat) {st st':SS},SSh A.length st st'→AJ (A++L) st'.k=A.length+AJ L st.k→ShS A.length false (D9 ext L n st) (D9 ext (A++L) n st')
 | 0,st,st',h,_=>⟨h,fun h=>by cases h⟩
 | n+1,st,st',h,hk=>by
  unfold D9;rw [hk,Adh];by_cases h1:AJ L st.k < L.length
  ·rw [if_pos h1,if_pos (show A.length+AJ L st.k < A.length+L.length by omega)]
   have hc:=XY ext A L he (st:=st.go (AJ L st.k)) (st':=st'.go (A.length+AJ L st.k)) ⟨h.cs,h.op⟩ rfl;generalize Ee ext L (st.go (AJ L st.k))=R at hc ⊢;generalize Ee ext (A++L) (st'.go (A.length+AJ L st.k))=R' at hc ⊢;cases R with
   | error q=>cases R' with
    | error r=>exact hc
    | ok r=>exact hc.elim
   | ok q=>cases R' with
    | error r=>exact hc.elim
    | ok r=>
     obtain ⟨hc1,hc2⟩:=hc;exact UE ext A L he n hc1 (by rw [hc2 rfl];exact XX A L q.k)
  ·rw [if_neg h1,if_neg (show ¬ A.length+AJ L st.k < A.length+L.length by omega)]
   exact ⟨⟨h.cs,h.op⟩,fun h=>by cases h⟩
theorem XZ {a:Nat} {st st':SS} (h:SSh a st st'):(Dy st').1=(Dy st).1:=by
 unfold Dy;rw [h.op,h.cs,Ld,List.getLast?_map,List.find?_map];cases st.op.getLast? with
 | some p=>rfl
 | none=>
  simp only [Option.map_none];rw [show (CW (scLabels st.cs) ∘ shC a)=CW (scLabels st.cs) from rfl];cases st.cs.find? (CW (scLabels st.cs)) with
  | some c=>rfl
  | none=>rfl
def ShQ (a:Nat) (R R':Except (Nat × Nat) SS):Prop:=
 match R,R' with
 | .error q,.error r=>r.1=q.1
 | .ok st,.ok st'=>SSh a st st'
 | _,_=>False
theorem Aaj {a:Nat} {b:Bool} {R R':Except (Nat × Nat) SS} (h:ShS a b R R'):ShQ a (GU R) (GU R'):=by
 unfold GU;cases R with
 | error q=>cases R' with
  | error r=>have e:r=(q.1,a+q.2):=h;subst e;exact rfl
  | ok r=>exact h.elim
 | ok st=>cases R' with
  | error r=>exact h.elim
  | ok st'=>
   have e:=XZ h.1;simp only;rw [e];by_cases h0:(Dy st).1=0
   ·rw [if_pos h0,if_pos h0];exact h.1
   ·rw [if_neg h0,if_neg h0];exact e
theorem UF (ext:Bool) (L:List UInt8) (he:∀ k d q,At ext L k d=.error q→q.1≠0):ShQ 3 (MW ext L) (MW ext ([35,110,10]++L)):=by
 refine Aaj (b:=false) (UE ext [35,110,10] L he 102 ⟨rfl,rfl⟩ ?_);show AJ ([35,110,10]++L) 0=3+AJ L 0;have e0:FA ([35,110,10]++L) 0=0:=rfl;have e1:D2 ([35,110,10]++L) 0=2:=rfl;have e2:FA ([35,110,10]++L) 2=3+FA L 0:=by
  unfold FA EQ AH;rw [show (([35,110,10]++L:List UInt8)).drop 2=10 :: L from rfl];simp only [List.drop_zero];rw [List.takeWhile_cons_of_pos (by decide),List.length_cons];omega
 have e3:∀ M n k,C3 M (n+1) k=if (M.drop k).head?=some 35 then C3 M n (FA M (k+D2 M k)) else k:=fun _ _ _=>rfl
 unfold AJ;rw [e0];show C3 ([35,110,10]++L) ((L.length+3)+1) 0=_;have hh:(List.drop 0 (([35,110,10]:List UInt8)++L)).head?=some (35:UInt8):=rfl;rw [e3 ([35,110,10]++L),if_pos hh,e1,Nat.zero_add,e2];exact JA [35,110,10] L _ _ _ (by omega) (by omega)
theorem Sk (L:List UInt8):C4 ([35,110,10]++L)=true:=rfl
theorem UG (L:List UInt8) (h:L.take 2≠[35,110]):C4 L=false:=by
 unfold C4;cases hb:(L.take (D2 L 0) == [35,110]) with
 | false=>rfl
 | true=>
  exfalso;have e:L.take (D2 L 0)=[35,110]:=by simpa using hb
  apply h;have h2:2≤D2 L 0:=by have:=congrArg List.length e;rw [List.length_take] at this;simp at this;omega
  have:=congrArg (List.take 2) e
  rwa [List.take_take,Nat.min_eq_left h2] at this
end
section
set_option linter.unusedVariables false
abbrev EG (L B:List UInt8):List UInt8:=L++10 :: B
theorem BD {L:List UInt8} (B:List UInt8) {k:Nat} (h:k≤L.length):(EG L B).drop k=L.drop k++10 :: B:=List.drop_append_of_le_length h
theorem LZ {p:UInt8→Bool} (h:p 10=false) (B:List UInt8):∀ l:List UInt8,AH p (l++10 :: B)=AH p l
 | []=>by rw [List.nil_append,Cu h];rfl
 | c :: l=>by
  cases hc:p c with
  | true=>rw [List.cons_append,Cc hc,Cc hc,LZ h B l]
  | false=>rw [List.cons_append,Cu hc,Cu hc]
theorem Pe {L:List UInt8} (B:List UInt8) {k:Nat} (h:k≤L.length):Bu (EG L B) k=Bu L k:=by
 have hn:EQ A2 ((EG L B).drop k)=EQ A2 (L.drop k):=by rw [BD B h];exact LZ (by decide) B _
 unfold Bu;rw [hn,BD B h];simp only;rw [List.take_append_of_le_length (show EQ A2 (L.drop k)≤(L.drop k).length from Bt _ _)]
theorem Fa {L:List UInt8} (B:List UInt8) {k:Nat} (h:k≤L.length):Ak (EG L B) k=Ak L k:=by
 unfold Ak;rw [BD B h,show EQ [32,9] (L.drop k++10 :: B)=EQ [32,9] (L.drop k) from LZ (by decide) B _]
theorem Ma {L:List UInt8} (B:List UInt8) {k:Nat} (h:k≤L.length) (b:Bool):Bm (EG L B) k b=Bm L k b:=by
 have he:DU b ((EG L B).drop k)=DU b (L.drop k):=by rw [BD B h];exact LZ (by cases b <;> rfl) B _
 unfold Bm;rw [he,BD B h,List.take_append_of_le_length (show DU b (L.drop k)≤(L.drop k).length from Bt _ _)]
theorem UH {c:UInt8} (h:c≠10) (B l:List UInt8):Dv c (l++10 :: B)=Dv c l:=by
 cases l with
 | nil=>show (if (10:UInt8)=c then 1 else 0)=0;rw [if_neg (fun e=>h e.symm)]
 | cons x l=>rfl
theorem UI (B l:List UInt8):Bx (l++10 :: B)=Bx l:=by
 unfold Bx;rw [UH (by decide),List.drop_append_of_le_length (GJ 94 l),UH (by decide)]
theorem UJ {p:UInt8→Bool} (X:List UInt8):∀ {l:List UInt8},AH p l < l.length→AH p (l++X)=AH p l
 | [],h=>absurd h (Nat.not_lt_zero _)
 | c :: l,h=>by
  cases hc:p c with
  | true=>
   rw [Cc hc] at h;rw [List.cons_append,Cc hc,Cc hc,UJ X (l:=l) (by simpa using h)]
  | false=>rw [List.cons_append,Cu hc,Cu hc]
theorem Aak (B:List UInt8) {t:List UInt8} (h:BW t < t.length+1):BW (t++10 :: B)=BW t:=by
 have h1:=Gs t;have h2:(t.drop (Bx t)).length=t.length - Bx t:=List.length_drop;unfold BW at h ⊢;rw [UI,List.drop_append_of_le_length h1];have h3:AH (fun b=>!(b == 93)) (t.drop (Bx t)) < (t.drop (Bx t)).length:=by omega
 rw [UJ _ h3,Adh];omega
theorem Ya (B:List UInt8) {d c:UInt8} {rx:Bool} {t x:List UInt8} {p k:Nat} (h:AV d rx c t p=(x,k,0)) (hk:k < p+1+t.length):AV d rx c (t++10 :: B) p=(x,k,0):=by
 unfold AV at h ⊢;by_cases hc:c=92
 ·rw [if_pos hc] at h ⊢
  cases t with
  | nil=>cases h
  | cons y t=>exact h
 ·rw [if_neg hc] at h ⊢
  simp only at h ⊢;by_cases hb:(rx && c == 91)=true
  ·rw [if_pos hb] at h ⊢
   have hlt:BW t < t.length+1:=by
    split at h
    ·cases h
    ·injection h with _ h;injection h with h _;omega
   rw [Aak B hlt];have ht:(c :: (t++10 :: B)).take (BW t)=(c :: t).take (BW t):=by
    rw [←List.cons_append];exact List.take_append_of_le_length (by rw [List.length_cons];omega)
   rw [ht];exact h
  ·rw [if_neg hb] at h ⊢
   have ht:(c :: (t++10 :: B)).take 1=(c :: t).take 1:=rfl;rw [ht];exact h
theorem UK (B:List UInt8) (d:UInt8) (rx:Bool) {L:List UInt8}:∀ (n m p:Nat) (acc:List UInt8),p≤L.length→L.length - p < n→L.length+1 - p < m→(Ch d rx L n p acc).2.2=0→Ch d rx (EG L B) m p acc=Ch d rx L n p acc
 | 0,_,_,_,_,h,_,_=>absurd h (Nat.not_lt_zero _)
 | _,0,_,_,_,_,h,_=>absurd h (Nat.not_lt_zero _)
 | n+1,m+1,p,acc,hp,h1,h2,h0=>by
  cases hd:L.drop p with
  | nil=>rw [Di hd] at h0;cases h0
  | cons c t=>
   have hl:t.length+1=L.length - p:=by rw [←List.length_drop,hd];rfl
   have hd':(EG L B).drop p=c :: (t++10 :: B):=by rw [BD B hp,hd];rfl
   by_cases hc:c=d
   ·subst hc;rw [Dj hd,Dj hd']
   ·obtain ⟨x,k,e,he⟩:∃ x k e,AV d rx c t p=(x,k,e):=⟨_,_,_,rfl⟩
    by_cases hz:e=0
    ·subst hz
     rw [C7 hd hc he] at h0 ⊢;obtain ⟨g1,g2,_⟩:=E8 he;have hk:k < p+1+t.length:=by
      by_cases hk:k < p+1+t.length
      ·exact hk
      ·exfalso
       have hk:L.drop k=[]:=List.drop_eq_nil_of_le (by omega);cases n with
       | zero=>cases h0
       | succ n=>rw [Di hk] at h0;cases h0
     rw [C7 hd' hc (Ya B he hk)];exact UK B d rx n m k _ (by omega) (by omega) (by omega) h0
    ·rw [DK hd hc hz he] at h0
     exact absurd h0 hz
theorem Fb (B:List UInt8) (d:UInt8) (rx:Bool) {L:List UInt8} {k:Nat} (hk:k≤L.length) (h0:(Aj L (k:Int) d rx).2.2=0):Aj (EG L B) (k:Int) d rx=Aj L (k:Int) d rx:=by
 unfold Aj at h0 ⊢;rw [Dq _ _ _ _ hk] at h0 ⊢;rw [Dq _ _ _ _ (by rw [Adh];omega)];exact UK B d rx _ _ k [] hk (by omega) (by rw [Adh,List.length_cons];omega) h0
theorem Nt (B:List UInt8) {ext:Bool} {L:List UInt8} {k:Nat} {d:UInt8} {q:(List UInt8 × Nd) × List Wm × Nat} (hk:k≤L.length) (h:At ext L k d=.ok q):At ext (EG L B) k d=.ok q:=by
 have h0:(Aj L (k:Int) d true).2.2=0:=by
  unfold At at h;simp only at h;split at h
  ·assumption
  ·cases h
 unfold At at h ⊢;rw [Fb B d true hk h0];exact h
theorem Rj (B:List UInt8) {ext:Bool} {L:List UInt8} {k:Nat} {d:UInt8} {q:Adr × List Wm × Nat} (hk:k≤L.length) (h:Ec ext L k d=.ok q):Ec ext (EG L B) k d=.ok q:=by
 unfold Ec at h ⊢;cases h1:At ext L k d with
 | error r=>rw [h1] at h;cases h
 | ok r=>rw [Nt B hk h1];rw [h1] at h;exact h
theorem UL (B:List UInt8) {ext second:Bool} {L:List UInt8} {k:Nat} {q:Adr × List Wm × Nat} (hk:k≤L.length) (h:EN ext second L k=.ok q):EN ext second (EG L B) k=.ok q:=by
 unfold EN at h ⊢;rw [BD B hk];cases hd:L.drop k with
 | nil=>rw [hd] at h;exact h
 | cons c t=>
  rw [hd] at h;have hlt:=Bg hd;rw [List.cons_append];simp only at h ⊢;by_cases h1:48≤c.toNat∧c.toNat≤57
  ·rw [if_pos h1] at h ⊢;unfold Dl at h ⊢;rw [Pe B hk];exact h
  rw [if_neg h1] at h ⊢;by_cases h2:c=36
  ·rw [if_pos h2] at h ⊢;exact h
  rw [if_neg h2] at h ⊢;by_cases h3:c=47
  ·rw [if_pos h3] at h ⊢;exact Rj B (by omega) h
  rw [if_neg h3] at h ⊢;by_cases h4:c=92
  ·rw [if_pos h4] at h ⊢
   unfold EE at h ⊢;rw [BD B (show k+1≤L.length by omega)];cases hd2:L.drop (k+1) with
   | nil=>rw [hd2] at h;cases h
   | cons x u=>
    rw [hd2] at h;have hlt2:=Bg hd2;rw [List.cons_append];simp only at h ⊢;by_cases hx:x=92∨x=10
    ·rw [if_pos hx] at h;cases h
    ·rw [if_neg hx] at h ⊢;exact Rj B (by omega) h
  rw [if_neg h4] at h ⊢;by_cases h5:c=43∧second=true
  ·rw [if_pos h5] at h ⊢;unfold Dm at h ⊢;rw [Pe B (by omega)];exact h
  ·rw [if_neg h5] at h ⊢;exact h
end
section
set_option linter.unusedVariables false
theorem Nu {ext:Bool} {L:List UInt8} {k:Nat} {d:UInt8} {q:Adr × List Wm × Nat} (hk:k≤L.length) (h:Ec ext L k d=.ok q):q.2.2≤L.length:=by
 unfold Ec at h;cases h1:At ext L k d with
 | error r=>rw [h1] at h;cases h
 | ok r=>rw [h1] at h;injection h with h;subst h;exact Lc hk h1
theorem Rk {ext second:Bool} {L:List UInt8} {k:Nat} {q:Adr × List Wm × Nat} (hk:k≤L.length) (h:EN ext second L k=.ok q):q.2.2≤L.length:=by
 unfold EN at h;cases hd:L.drop k with
 | nil=>rw [hd] at h;injection h with h;subst h;exact hk
 | cons c t=>
  rw [hd] at h;have hlt:=Bg hd;simp only at h;split at h
  ·unfold Dl at h
   simp only at h;split at h
   ·split at h
    ·cases h
    ·injection h with h;subst h;exact (EF L k hk).2
   ·cases h
  ·split at h
   ·injection h with h;subst h;exact hlt
   ·split at h
    ·exact Nu (by omega) h
    ·split at h
     ·unfold EE at h
      cases hd2:L.drop (k+1) with
      | nil=>rw [hd2] at h;cases h
      | cons x u=>
       rw [hd2] at h;have hlt2:=Bg hd2;simp only at h;split at h
       ·cases h
       ·exact Nu (by omega) h
     ·split at h
      ·unfold Dm at h
       simp only at h;split at h
       ·injection h with h;subst h;exact (EF L (k+1) (by omega)).2
       ·cases h
      ·injection h with h;subst h;exact hk
theorem DH {L:List UInt8} {k:Nat} (hk:k≤L.length):Ak L k≤L.length:=(F6 L k hk).2
theorem GV {c:UInt8} (h:c≠10) (B l:List UInt8):((l++10 :: B).head?=some c) ↔ (l.head?=some c):=by
 cases l with
 | nil=>simp [Ne.symm h]
 | cons x l=>exact Iff.rfl
theorem Nv {L:List UInt8} {k:Nat} {c:UInt8} (h:(L.drop k).head?=some c):k < L.length:=by
 cases hd:L.drop k with
 | nil=>rw [hd] at h;cases h
 | cons x t=>exact Bg hd
theorem UM (B:List UInt8) {ext:Bool} {L:List UInt8} {k:Nat} {q:Adr × List Wm × Nat} (hk:k≤L.length) (h:BY ext L k=.ok q):BY ext (EG L B) k=.ok q∧q.2.2≤L.length:=by
 unfold BY at h ⊢;have hb:=DH hk;rw [Fa B hk,BD B hb];by_cases h1:(L.drop (Ak L k)).head?=some 44
 ·rw [if_pos h1] at h
  rw [if_pos ((GV (by decide) B _).2 h1)];have hlt:=Nv h1;have hb2:=DH (show Ak L k+1≤L.length by omega);rw [Fa B (show Ak L k+1≤L.length by omega)];unfold Et at h ⊢;cases h2:EN ext true L (Ak L (Ak L k+1)) with
  | error r=>rw [h2] at h;cases h
  | ok r=>
   rw [h2] at h;rw [UL B hb2 h2];simp only at h ⊢;refine ⟨h,?_⟩;split at h
   ·cases h
   ·injection h with h;subst h;exact Rk hb2 h2
 ·rw [if_neg h1] at h
  rw [if_neg (fun e=>h1 ((GV (by decide) B _).1 e))];injection h with h;subst h;exact ⟨rfl,hk⟩
theorem UN (B:List UInt8) {L:List UInt8} {k:Nat} {q:Bool × Nat} (hk:k≤L.length) (h:Cw L k=.ok q):Cw (EG L B) k=.ok q∧q.2≤L.length:=by
 unfold Cw at h ⊢;have hb:=DH hk;rw [Fa B hk,BD B hb];by_cases h1:(L.drop (Ak L k)).head?=some 33
 ·rw [if_pos h1] at h
  rw [if_pos ((GV (by decide) B _).2 h1)];have hlt:=Nv h1;have hb2:=DH (show Ak L k+1≤L.length by omega);rw [Fa B (show Ak L k+1≤L.length by omega),BD B hb2];by_cases h2:(L.drop (Ak L (Ak L k+1))).head?=some 33
  ·rw [if_pos h2] at h;cases h
  ·rw [if_neg h2] at h
   rw [if_neg (fun e=>h2 ((GV (by decide) B _).1 e))];injection h with h;subst h;exact ⟨rfl,hb2⟩
 ·rw [if_neg h1] at h
  rw [if_neg (fun e=>h1 ((GV (by decide) B _).1 e))];injection h with h;subst h;exact ⟨rfl,hb⟩
theorem UO (B:List UInt8) {ext:Bool} {L:List UInt8} {k:Nat} {q:(Adr × Adr) × List Wm × Nat} (hk:k≤L.length) (h:Ed ext L (EN ext false L k)=.ok q):Ed ext (EG L B) (EN ext false (EG L B) k)=.ok q∧q.2.2≤L.length:=by
 unfold Ed at h ⊢;cases h1:EN ext false L k with
 | error r=>rw [h1] at h;cases h
 | ok r=>
  rw [h1] at h;rw [UL B hk h1];have hr:=Rk hk h1;simp only at h ⊢;by_cases h0:r.1.kind=0
  ·rw [if_pos h0] at h ⊢;injection h with h;subst h;exact ⟨rfl,hr⟩
  ·rw [if_neg h0] at h ⊢
   unfold F4 at h ⊢;cases h2:BY ext L r.2.2 with
   | error x=>rw [h2] at h;cases h
   | ok x=>
    obtain ⟨g1,g2⟩:=UM B hr h2;rw [h2] at h;rw [g1];simp only at h ⊢;injection h with h;subst h;exact ⟨rfl,g2⟩
theorem Acc (B:List UInt8) {ext:Bool} {L:List UInt8} {k:Nat} {q:Grd × List Wm × Nat} (hk:k≤L.length) (h:IW ext L k=.ok q):IW ext (EG L B) k=.ok q∧q.2.2≤L.length:=by
 unfold IW G2 at h ⊢;cases h1:Ed ext L (EN ext false L k) with
 | error r=>rw [h1] at h;cases h
 | ok r=>
  obtain ⟨g1,g2⟩:=UO B hk h1;rw [h1] at h;rw [g1];unfold F5 at h ⊢;simp only at h ⊢;cases h2:Cw L r.2.2 with
  | error x=>rw [h2] at h;cases h
  | ok x=>
   obtain ⟨g3,g4⟩:=UN B g2 h2;rw [h2] at h;rw [g3];simp only at h ⊢;injection h with h;subst h;exact ⟨rfl,g4⟩
def Tl (r r':CO):Prop:=r.1=0→r'=r
theorem Tl.then {r r':CO} {f f':CS→CO} (h:Tl r r') (hf:r.1=0→Tl (f r.2) (f' r.2)):Tl (r.then f) (r'.then f'):=by
 intro h0;unfold CO.then at h0 ⊢
 by_cases h1:r.1=0
 ·rw [h h1,if_pos h1,if_pos h1]
  rw [if_pos h1] at h0;exact hf h1 h0
 ·rw [if_neg h1] at h0;exact absurd h0 h1
theorem Nw (B:List UInt8) {L:List UInt8} {st:CS} (hk:st.k≤L.length):By (EG L B) st=By L st:=by
 unfold By;rw [Ma B hk]
theorem Aal (B:List UInt8) {L:List UInt8} {st:CS} (hk:st.k≤L.length):Dd (EG L B) st=Dd L st:=by
 unfold Dd;rw [Nw B hk,Fa B hk]
theorem UP (B:List UInt8) {L:List UInt8} {st:CS} (hk:st.k≤L.length):BC (EG L B) st=BC L st:=by
 unfold BC;rw [Ma B hk,Fa B hk]
theorem UQ (B:List UInt8) {L:List UInt8} {st:CS} (hk:st.k≤L.length):Bz (EG L B) st=Bz L st:=by
 unfold Bz;rw [Ma B hk,Fa B hk]
theorem Mb (B:List UInt8) {L:List UInt8} {st:CS} (hk:st.k≤L.length):BZ (EG L B) st=BZ L st:=by
 unfold BZ;rw [Fa B hk,BD B (DH hk)];cases L.drop (Ak L st.k) with
 | nil=>rfl
 | cons b t=>rfl
theorem UR (B:List UInt8) {L:List UInt8} {st:CS} (hk:st.k≤L.length) (h:(A6 L st).2.1=0):A6 (EG L B) st=A6 L st:=by
 unfold A6 at h ⊢;rw [BD B hk];cases hd:L.drop st.k with
 | nil=>rw [hd] at h;cases h
 | cons d t=>rfl
theorem Acd (B:List UInt8) (ext:Bool) {L:List UInt8} {d:UInt8} {st:CS} (hk:st.k≤L.length) (he:∀ k d q,At ext L k d=.error q→q.1≠0):Tl (DF ext L d st) (DF ext (EG L B) d st):=by
 intro h0;unfold DF at h0 ⊢;cases h1:At ext L st.k d with
 | error q=>rw [h1] at h0;exact absurd h0 (he _ _ q h1)
 | ok q=>rw [Nt B hk h1]
theorem Aam (B:List UInt8) {L:List UInt8} {d:UInt8} {st:CS} (hk:st.k≤L.length):Tl (CE L d st) (CE (EG L B) d st):=by
 intro h0;unfold CE at h0 ⊢;have h1:(Aj L (st.k:Int) d false).2.2=0:=by
  unfold DG at h0;split at h0
  ·assumption
  ·exact h0
 rw [Fb B d false hk h1]
theorem Yb (B:List UInt8) {L:List UInt8} {b:UInt8} {st:CS} (hk:st.k≤L.length):AI (EG L B) b st=AI L b st:=by
 unfold AI CU;rw [Pe B hk]
theorem Nx (B:List UInt8) {L:List UInt8}:∀ (n m:Nat) (st:CS),st.k≤L.length→L.length - st.k < n→L.length+1 - st.k < m→Tl (A9 L n st) (A9 (EG L B) m st)
 | 0,m,st,hk,h1,_=>absurd h1 (Nat.not_lt_zero _)
 | n+1,0,st,hk,_,h2=>absurd h2 (Nat.not_lt_zero _)
 | n+1,m+1,st,hk,h1,h2=>by
  intro h0;unfold A9 at h0 ⊢;rw [BD B hk];cases hd:L.drop st.k with
  | nil=>
   have hb:Ak L st.k=st.k:=by unfold Ak;rw [hd];rfl
   show (match AI (EG L B) 10 st with | some r=>if r.1=0 then A9 (EG L B) m r.2 else r | none=>if (10:UInt8)=119 then Bz (EG L B) (st.go (st.k+1)) else BZ (EG L B) st)=(0,st)
   rw [show AI (EG L B) 10 st=none from rfl];simp only;rw [if_neg (by decide),Mb B hk];unfold BZ;rw [hb,hd];rfl
  | cons b t=>
   rw [hd] at h0;have hlt:=Bg hd;rw [List.cons_append];simp only at h0 ⊢;rw [Yb B hk];cases hf:AI L b st with
   | some r=>
    rw [hf] at h0;simp only at h0 ⊢;by_cases hr:r.1=0
    ·rw [if_pos hr] at h0
     rw [if_pos hr,if_pos hr];obtain ⟨g1,g2⟩:=J9 hlt hf hr;exact Nx B n m r.2 g2 (by omega) (by omega) h0
    ·rw [if_neg hr,if_neg hr]
   | none=>
    simp only;by_cases h9:b=119
    ·rw [if_pos h9,if_pos h9];exact UQ B (by show st.k+1≤_;omega)
    ·rw [if_neg h9,if_neg h9];exact Mb B hk
theorem Aan (B:List UInt8) (ext:Bool) {L:List UInt8} {st:CS} (hk:st.k≤L.length) (he:∀ k d q,At ext L k d=.error q→q.1≠0):Tl (Cx ext L st) (Cx ext (EG L B) st):=by
 intro h0;have hd0:(A6 L st).2.1=0:=by
  unfold Cx CO.then at h0
  split at h0
  ·assumption
  ·exact h0
 revert h0
 unfold Cx;rw [UR B hk hd0];have k1:=EZ hk;refine Tl.then (fun _=>rfl) fun _=>?_
 refine Tl.then (Acd B ext k1 he) fun h0=>?_
 have k2:=Pc k1 h0 (fun q=>he _ _ q);refine Tl.then (Aam B k2) fun _=>?_
 exact Nx B _ _ _ (IX k2) (by omega) (by rw [Adh,List.length_cons];omega)
theorem Aao (B:List UInt8) {L:List UInt8} {st:CS} (hk:st.k≤L.length):Tl (Cq L st) (Cq (EG L B) st):=by
 intro h0;have hd0:(A6 L st).2.1=0:=by
  unfold Cq CO.then at h0
  split at h0
  ·assumption
  ·exact h0
 revert h0
 unfold Cq;rw [UR B hk hd0];have k1:=EZ hk;refine Tl.then (fun _=>rfl) fun _=>?_
 intro h0;unfold F8 at h0 ⊢;have hr:(Aj L ((A6 L st).2.2.k:Int) (A6 L st).1 false).2.2=0:=by
  split at h0
  ·assumption
  ·exact h0
 rw [Fb B _ false k1 hr];rw [if_pos hr] at h0;rw [if_pos hr,if_pos hr];have k2:=Dr (d:=(A6 L st).1) (rx:=false) k1;unfold F7 at h0 ⊢;have hr2:(Aj L ((Aj L ((A6 L st).2.2.k:Int) (A6 L st).1 false).2.1:Int) (A6 L st).1 false).2.2=0:=by
  split at h0
  ·assumption
  ·exact h0
 rw [Fb B _ false k2 hr2];rw [if_pos hr2,if_pos hr2];split
 ·refine Mb B ?_
  show (Aj L ((Aj L ((A6 L st).2.2.k:Int) (A6 L st).1 false).2.1:Int) (A6 L st).1 false).2.1≤L.length;exact Dr k2
 ·rfl
end
section
set_option linter.unusedVariables false
def LnT (E:Nat) (r r':Er):Prop:=r'.1=r.1∧r'.2.2=0∧(r'.2.1=r.2.1∨(r.2.1=E∧r'.2.1=E+1))
theorem Pf (B:List UInt8):∀ (n:Nat) (l:List UInt8) (p:Nat) (acc:List UInt8),l.length≤n→(Bw l p acc).2.2=0→LnT (p+l.length) (Bw l p acc) (Bw (l++10 :: B) p acc)
 | _,[],p,acc,_,_=>by
  rw [List.nil_append,DS];exact ⟨rfl,rfl,.inr ⟨rfl,rfl⟩⟩
 | 0,c :: t,_,_,h,_=>absurd h (Nat.not_succ_le_zero _)
 | n+1,c :: t,p,acc,h,h0=>by
  rw [List.cons_append];by_cases h1:c=10
  ·subst h1;rw [DS,DS];exact ⟨rfl,rfl,.inl rfl⟩
  ·by_cases h2:c=92
   ·subst h2
    cases t with
    | nil=>rw [Dh] at h0;cases h0
    | cons x u=>
     rw [DT] at h0;rw [List.cons_append,DT,DT];have:=Pf B n u (p+2) (acc++[x]) (by simp at h;omega) h0
     rwa [show p+2+u.length=p+(92 :: x :: u).length by simp;omega] at this
   ·rw [C6 _ _ _ _ h1 h2] at h0
    rw [C6 _ _ _ _ h1 h2,C6 _ _ _ _ h1 h2];have:=Pf B n t (p+1) (acc++[c]) (by simpa using h) h0
    rwa [show p+1+t.length=p+(c :: t).length by simp;omega] at this
theorem Pg:∀ (n:Nat) (l:List UInt8) (p:Nat) (acc:List UInt8),l.length≤n→(Bw l p acc).2.1≤p+l.length
 | _,[],p,acc,_=>Adf _
 | 0,c :: t,_,_,h=>absurd h (Nat.not_succ_le_zero _)
 | n+1,c :: t,p,acc,h=>by
  by_cases h1:c=10
  ·subst h1;rw [DS];simp
  ·by_cases h2:c=92
   ·subst h2
    cases t with
    | nil=>rw [Dh];simp
    | cons x u=>
     rw [DT];have:=Pg n u (p+2) (acc++[x]) (by simp at h;omega);simp;omega
   ·rw [C6 _ _ _ _ h1 h2]
    have:=Pg n t (p+1) (acc++[c]) (by simpa using h);simp;omega
theorem GW {L:List UInt8} {k:Nat} (hk:k≤L.length) (b:Bool):(Bm L k b).2.1≤L.length:=by
 have h1:k+DU b (L.drop k)≤L.length:=by
  have:=Bt (fun x=>!ER b x) (L.drop k);rw [List.length_drop] at this;unfold DU;omega
 unfold Bm DV;split
 ·exact hk
 ·split
  ·exact hk
  ·exact h1
def TV (L:List UInt8) (r r':CO):Prop:=r.1=0→r'.1=0∧r'.2.c=r.2.c∧r'.2.ms=r.2.ms∧(r'.2.k=r.2.k∨(r.2.k=L.length∧r'.2.k=L.length+1))∧r.2.k≤L.length
theorem Tl.fin {L:List UInt8} {r r':CO} (h:Tl r r') (hk:r.1=0→r.2.k≤L.length):TV L r r':=fun h0=>by
 rw [h h0];exact ⟨h0,rfl,rfl,.inl rfl,hk h0⟩
theorem TV.of {L:List UInt8} {r r':CO} (h:r'=r) (hk:r.2.k≤L.length):TV L r r':=fun h0=>by
 rw [h];exact ⟨h0,rfl,rfl,.inl rfl,hk⟩
theorem Ny (B:List UInt8) {L:List UInt8} {st:CS} (hk:st.k≤L.length):TV L (CT L st) (CT (EG L B) st):=by
 intro h0;have hl:st.k+(L.drop st.k).length=L.length:=by rw [List.length_drop];omega
 obtain ⟨a1,a2,a3⟩:=Pf B _ (L.drop st.k) st.k [] (Adf _) h0;have a4:=Pg _ (L.drop st.k) st.k [] (Adf _);rw [hl] at a3 a4;unfold CT;rw [BD B hk];refine ⟨a2,?_,rfl,a3,a4⟩;show (st.arg (Bw (L.drop st.k++10 :: B) st.k []).1 0).c=(st.arg (Bw (L.drop st.k) st.k []).1 0).c;rw [a1]
theorem Yc (B:List UInt8) {L:List UInt8} {st:CS} (hk:st.k≤L.length):TV L (Ct L st) (Ct (EG L B) st):=by
 have hb:=DH hk;unfold Ct;rw [Fa B hk,BD B hb];cases hd:L.drop (Ak L st.k) with
 | nil=>intro h0;cases h0
 | cons c t=>
  have hlt:=Bg hd;rw [List.cons_append];simp only;by_cases h1:c=10
  ·rw [if_pos h1];intro h0;cases h0
  ·rw [if_neg h1,if_neg h1]
   by_cases h2:c=92∧t.head?=some 10
   ·have h3:c=92∧(t++10 :: B).head?=some 10:=by
     refine ⟨h2.1,?_⟩;cases t with
     | nil=>rfl
     | cons x u=>exact h2.2
    rw [if_pos h2,if_pos h3];refine Ny B ?_;show Ak L st.k+2≤L.length;cases t with
    | nil=>cases h2.2
    | cons x u=>
     have:=congrArg List.length hd;rw [List.length_drop] at this;simp at this;omega
   ·rw [if_neg h2]
    by_cases h3:c=92∧(t++10 :: B).head?=some 10
    ·intro h0
     exfalso;cases t with
     | nil=>
      have e:(CT L ((st.go (Ak L st.k)).mark st.c.pl [116,101,120,116])).1=(Bw (L.drop (Ak L st.k)) (Ak L st.k) []).2.2:=rfl;rw [e,hd,h3.1,Dh] at h0;cases h0
     | cons x u=>exact h2 h3
    ·rw [if_neg h3]
     exact Ny B hb
theorem Le {L:List UInt8}:∀ (n:Nat) (st:CS),st.k≤L.length→(A9 L n st).1=0→(A9 L n st).2.k≤L.length
 | 0,st,hk,_=>hk
 | n+1,st,hk,h0=>by
  unfold A9 at h0 ⊢;cases hd:L.drop st.k with
  | nil=>exact hk
  | cons b t=>
   rw [hd] at h0;have hlt:=Bg hd;simp only at h0 ⊢;cases hf:AI L b st with
   | some r=>
    rw [hf] at h0;simp only at h0 ⊢;by_cases hr:r.1=0
    ·rw [if_pos hr] at h0 ⊢
     exact Le n r.2 (J9 hlt hf hr).2 h0
    ·rw [if_neg hr] at h0;exact absurd h0 hr
   | none=>
    simp only;split
    ·unfold Bz
     split
     ·exact hlt
     ·exact GW (show st.k+1≤L.length by omega) false
    ·unfold BZ
     have hb:=DH hk;split
     ·exact hb
     ·split
      ·exact hb
      ·split
       ·exact hb
       ·exact hb
theorem Rl {L:List UInt8} {st:CS} (hk:st.k≤L.length):(BZ L st).2.k≤L.length:=by
 have hb:=DH hk;unfold BZ;split
 ·exact hb
 ·split
  ·exact hb
  ·split
   ·exact hb
   ·exact hb
theorem IZ {L:List UInt8} {r:CO} {f:CS→CO} (h:r.1=0→(f r.2).1=0→(f r.2).2.k≤L.length) (h0:(r.then f).1=0):(r.then f).2.k≤L.length:=by
 unfold CO.then at h0 ⊢
 by_cases h1:r.1=0
 ·rw [if_pos h1] at h0 ⊢;exact h h1 h0
 ·rw [if_neg h1] at h0;exact absurd h0 h1
theorem Yd {ext:Bool} {L:List UInt8} {st:CS} (hk:st.k≤L.length) (he:∀ k d q,At ext L k d=.error q→q.1≠0) (h0:(Cx ext L st).1=0):(Cx ext L st).2.k≤L.length:=by
 unfold Cx at h0 ⊢;refine IZ (fun _=>IZ (fun h1=>IZ fun _=>?_)) h0;exact Le _ _ (IX (Pc (EZ hk) h1 (fun q=>he _ _ q)))
theorem Ye {L:List UInt8} {st:CS} (hk:st.k≤L.length) (h0:(Cq L st).1=0):(Cq L st).2.k≤L.length:=by
 unfold Cq at h0 ⊢;refine IZ (fun _ _=>?_) h0;have k1:=EZ hk;have k2:=Dr (d:=(A6 L st).1) (rx:=false) k1;have k3:=Dr (d:=(A6 L st).1) (rx:=false) k2;unfold F8;split
 ·unfold F7
  split
  ·split
   ·exact Rl k3
   ·exact k2
  ·exact k3
 ·exact k2
theorem US (B:List UInt8) (ext:Bool) {L:List UInt8} {st:CS} (hk:st.k≤L.length) (he:∀ k d q,At ext L k d=.error q→q.1≠0):TV L (B0 ext L st) (B0 ext (EG L B) st):=by
 unfold B0;simp only;split
 ·exact TV.of rfl hk
 ·split
  ·exact TV.of (Nw B hk) (GW hk true)
  ·split
   ·refine TV.of (Aal B hk) ?_
    unfold Dd;split
    ·exact DH hk
    ·exact GW hk true
   ·split
    ·exact Yc B hk
    ·split
     ·refine TV.of (UP B hk) ?_
      unfold BC;split
      ·exact hk
      ·exact GW hk false
     ·split
      ·exact (Aan B ext hk he).fin (Yd hk he)
      ·split
       ·exact (Aao B hk).fin (Ye hk)
       ·exact TV.of (Mb B hk) (Rl hk)
theorem UT (B:List UInt8) (ext:Bool) {L:List UInt8} (st:CS) (hk:st.k≤L.length) (he:∀ k d q,At ext L k d=.error q→q.1≠0):TV L (AM ext L st) (AM ext (EG L B) st):=by
 intro h0;unfold AM at h0 ⊢;cases hd:L.drop st.k with
 | nil=>
  exfalso;have e:Bf L st=(5,st):=by unfold Bf;rw [hd]
  rw [e] at h0;cases h0
 | cons b t=>
  have hlt:=Bg hd;have e:Bf L st=BA st b (Ey b):=by unfold Bf;rw [hd]
  have e':Bf (EG L B) st=BA st b (Ey b):=by unfold Bf;rw [BD B hk,hd];rfl
  rw [e] at h0;rw [e,e'];unfold CO.then at h0 ⊢
  by_cases h1:(BA st b (Ey b)).1=0
  ·rw [if_pos h1] at h0
   rw [if_pos h1,if_pos h1];refine US B ext ?_ he h0;unfold BA;split
   ·exact hk
   ·split
    ·exact hk
    ·split
     ·show st.k+1≤L.length;omega
     ·show st.k+1≤L.length;omega
  ·rw [if_neg h1] at h0;exact absurd h0 h1
theorem Ace (B:List UInt8) {ext:Bool} {L:List UInt8} {k:Nat} {c:Cmd} {ms:List Wm} {p:Nat} (hk:k≤L.length) (he:∀ k d q,At ext L k d=.error q→q.1≠0) (h:MV ext L k=.ok (c,ms,p)) :
  ∃ p',MV ext (EG L B) k=.ok (c,ms,p')∧(p'=p∨(p=L.length∧p'=L.length+1))∧p≤L.length:=by
 unfold MV Uz at h ⊢;cases h1:IW ext L k with
 | error q=>rw [h1] at h;cases h
 | ok q=>
  obtain ⟨g1,g2⟩:=Acc B hk h1;rw [h1] at h;rw [g1];simp only at h ⊢;have hw:=UT B ext (Bc q.1 q.2.1 q.2.2) g2 he;generalize AM ext L (Bc q.1 q.2.1 q.2.2)=r at h hw;generalize AM ext (EG L B) (Bc q.1 q.2.1 q.2.2)=r' at hw ⊢;unfold F9 at h ⊢;split at h
  ·rename_i h0
   obtain ⟨w1,w2,w3,w4,w5⟩:=hw h0;rw [if_pos w1,w2,w3];injection h with h;injection h with e1 h;injection h with e2 e3;subst e1 e2 e3;exact ⟨_,rfl,w4,w5⟩
  ·cases h
end
section
set_option linter.unusedVariables false
theorem Mc {L:List UInt8} {k:Nat} (hk:k≤L.length):FA L k≤L.length:=by
 have:=Bt (fun b=>([32,9,10,59]:List UInt8).contains b) (L.drop k);rw [List.length_drop] at this;unfold FA EQ;omega
theorem UU {L:List UInt8} {k:Nat} (hk:k≤L.length):k+D2 L k≤L.length:=by
 have:=Bt (fun b=>!(b == (10:UInt8))) (L.drop k);rw [List.length_drop] at this;unfold D2;omega
theorem Nz (L:List UInt8) (n k:Nat):C3 L (n+1) k=if (L.drop k).head?=some 35 then C3 L n (FA L (k+D2 L k)) else k:=rfl
end
end Go.Proofs.YteilldmmihiijaaGreatDoor
