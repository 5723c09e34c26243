/- Texts. -/
import Derived.Test.YteilldmmihiijaaGreatDoorQt01
import Derived.Deep.LoopGhost
import Derived.Test.YteilldmmihiijaaGreatDoorQt06
import Derived.Test.YteilldmmihiijaaGreatDoorQt10
import Derived.Test.YteilldmmihiijaaGreatDoorQt14
import Derived.Test.YteilldmmihiijaaGreatDoorQt05
set_option linter.unusedSimpArgs false
set_option linter.unusedVariables false
set_option maxHeartbeats 8000000
set_option maxRecDepth 1000000
namespace Go.Proofs.YteilldmmihiijaaGreatDoor
open Go.Lib renaming hid→Ac8
open Nat renaming le_refl→Adf,le_trans→Adg,lt_of_lt_of_le→Adi,le_of_lt→Adj
open Go.RowKit.Below renaming refl→Adk
open Go.IntWalk renaming i64_in→Adm
open Go.World renaming cell?_of_block→Adn
section
open Go.RowKit
theorem Lu {T e:TypeId} {B b:Nat} {p:Value} {bs:List Value} {W W':World} (h:Lib.BuilderAtF T e B b p bs W) (hb:Below W.heap.size W W'):Lib.BuilderAtF T e B b p bs W':=by
 obtain ⟨hB,v,hv,⟨hl,hr⟩,hne⟩:=h;refine ⟨hB,v,by rw [hb.block b (Array.getElem?_eq_some_iff.1 hv).1];exact hv,⟨hl,?_⟩,hne⟩;rcases hr with h | ⟨g,cap,cur,fz,h1,h2,h3,h4⟩
 ·exact .inl h
 ·exact .inr ⟨g,cap,cur,fz,h1,h2,by rw [hb.block g (Array.getElem?_eq_some_iff.1 h3).1];exact h3,h4⟩
theorem Ts {T e:TypeId} {B b:Nat} {bs:List Value} {W W':World} (h:Lib.IsBuilderF T e B b bs W) (hb:Below W.heap.size W W'):Lib.IsBuilderF T e B b bs W':=
 h.elim (fun x=>.inl (Lu x hb)) (fun x=>.inr (Lu x hb))
structure GP (w:World):Prop where
 c0:w.cell? ⟨3,0,none⟩=some (.int .u8 94)
 c1:w.cell? ⟨3,1,none⟩=some (.int .u8 93)
 lt:3 < w.heap.size
theorem GP.below {w w':World} {B:Nat} (h:GP w) (hb:Below B w w') (hB:3 < B):GP w':=
 ⟨(hb.cell (p:=⟨3,0,none⟩) hB).trans h.c0,(hb.cell (p:=⟨3,1,none⟩) hB).trans h.c1,Adi h.lt hb.size⟩
theorem GP.up {w w':World} (h:GP w) (hb:Below w.heap.size w w'):GP w':=h.below hb h.lt
theorem Iw {s:ByteArray} {l:List UInt8} (h:s.data.toList=l):s=txt l:=by rw [←h,ZH]
theorem Oj (s:ByteArray) (k:Nat) (d:UInt8) (rx:Bool) (w:World) (hs:s.size≤4000000) (hk:k < s.size) (h92:s[k]=92) :
  Calls Tryz.prog 110 #[.string s,.int .i64 k,.int .u8 d.toNat,.bool rx] w fun e w'=>e=pcA (AV d rx 92 (s.data.toList.drop (k+1)) k)∧Below w.heap.size w w':=by
 have W2:IntKind.i64.wrap ((k:Int)+2)=(k:Int)+2:=Adm _ (by omega);have W1:IntKind.i64.wrap ((k:Int)+1)=(k:Int)+1:=Adm _ (by omega);obtain ⟨R,hR⟩:∃ R,AV d rx 92 (s.data.toList.drop (k+1)) k=R:=⟨_,rfl⟩;rw [hR];have HR:=Ac8 hR;have H92:=Ac8 h92;clear hR h92;go_enter Tryz.func110,Tryz.ntmps110;by_cases hend:k+1 < s.size
 ·have c1:¬ (s.size:Int) < (k:Int)+2:=by omega
  have c1':(k:Int)+2≤(s.size:Int):=by omega
  have i1:(k:Int)+1 < (s.size:Int):=by omega
  have hd:=Ac8 (Bh s (k+1) hend);have hl1:=Ac8 (Cd s k (k+2));have hl2:=Ac8 (Cd s (k+1) (k+2));have hd0:=Ac8 (Bh s k hk);obtain ⟨x,hx⟩:∃ x,s[k+1]=x:=⟨_,rfl⟩;have Hx:=Ac8 hx;have Hpart:=Ac8 (show R=if x=d then ([x],k+2,0) else if (x == 10 && rx)=true then ([],k+1,2) else ([92,x],k+2,0) by
   rw [←HR.out,hd.out,Hx.out];rfl)
  by_cases hxd:x=d
  ·have q:((s[k+1].toNat:Int) == (d.toNat:Int))=true:=by rw [hx,hxd];simp
   have Hxd:=Ac8 hxd;clear hx hxd
   go_wp2
   go_ret3
   refine ⟨?_,Adk _ _⟩;rw [Hpart.out,if_pos Hxd.out];exact CK (Iw (by rw [hl2.out,hd.out,Hx.out,show k+2 - (k+1)=1 by omega];rfl)) rfl rfl
  ·have q:((s[k+1].toNat:Int) == (d.toNat:Int))=false:=beq_eq_false_iff_ne.2 fun h=>hxd (by rw [←hx];exact UInt8.toNat_inj.1 (by omega))
   have Hxd:=Ac8 hxd;clear hxd;by_cases h10:x=10
   ·have q10:((s[k+1].toNat:Int) == 10)=true:=by rw [hx,h10];rfl
    have H10:=Ac8 h10;clear hx h10;cases rx
    ·go_wp2
     go_ret3
     refine ⟨?_,Adk _ _⟩;rw [Hpart.out,if_neg Hxd.out,if_neg (by simp)];exact CK (Iw (by rw [hl1.out,hd0.out,hd.out,Hx.out,show k+2 - k=2 by omega,H92.out];rfl)) rfl rfl
    ·go_wp2
     go_ret3
     refine ⟨?_,Adk _ _⟩;rw [Hpart.out,if_neg Hxd.out,if_pos (by rw [H10.out];rfl)];rfl
   ·have q10:((s[k+1].toNat:Int) == 10)=false:=beq_eq_false_iff_ne.2 fun h=>h10 (by rw [←hx];exact UInt8.toNat_inj.1 (by show s[k+1].toNat=10;omega))
    have H10:=Ac8 h10;clear hx h10
    go_wp2
    go_ret3
    refine ⟨?_,Adk _ _⟩;rw [Hpart.out,if_neg Hxd.out,if_neg (by simp [H10.out])];exact CK (Iw (by rw [hl1.out,hd0.out,hd.out,Hx.out,show k+2 - k=2 by omega,H92.out];rfl)) rfl rfl
 ·have c1:(s.size:Int) < (k:Int)+2:=by omega
  have hd:=Ac8 (Bl s (k+1) (by omega));have hse:(s.size:Int)=((k+1:Nat):Int):=by omega
  have Hse:=Ac8 hse;clear hse hend
  go_wp2
  go_ret3
  refine ⟨?_,Adk _ _⟩;rw [←HR.out,hd.out];exact CK rfl Hse.out rfl
def FJ (t:List UInt8) (i:Nat):Nat:=if i=0 then 0 else if i=1 then Dv 94 t else Bx t
theorem YQ (t:List UInt8) (i:Nat):FJ t i≤t.length:=by
 unfold FJ;split
 ·omega
 ·split
  ·exact GJ 94 t
  ·exact Gs t
theorem Ol {c:UInt8} {s:ByteArray} {p:Nat} (h:s.size≤p):Dv c (s.data.toList.drop p)=0:=by rw [Bl s p h];rfl
theorem Lw {c:UInt8} {s:ByteArray} {p:Nat} (h:p < s.size) (hc:s[p]=c):Dv c (s.data.toList.drop p)=1:=by rw [Bh s p h];simp [Dv,hc]
theorem Lx {c:UInt8} {s:ByteArray} {p:Nat} (h:p < s.size) (hc:¬ s[p]=c):Dv c (s.data.toList.drop p)=0:=by rw [Bh s p h];simp [Dv,hc]
theorem Ly (t:List UInt8) (i:Nat) (c:UInt8) (h:(i=0∧c=94)∨(i=1∧c=93)):FJ t (i+1)=FJ t i+Dv c (t.drop (FJ t i)):=by
 rcases h with ⟨rfl,rfl⟩ | ⟨rfl,rfl⟩
 ·simp [FJ]
 ·simp [FJ,Bx]
theorem MF (a b:Int) (w:World):(Instr.index 222 (.agg #[.int .u8 a,.int .u8 b]) (.int .i64 0)).run Tryz.prog w=.ok (.int .u8 a) w:=by kernel_rfl
theorem MG (a b:Int) (w:World):(Instr.index 222 (.agg #[.int .u8 a,.int .u8 b]) (.int .i64 1)).run Tryz.prog w=.ok (.int .u8 b) w:=by kernel_rfl
theorem Kh (s:ByteArray) (k:Nat) (w:World) (hs:s.size≤4000000) (hk:k < s.size) (hG:GP w) :
  Calls Tryz.prog 111 #[.string s,.int .i64 k] w fun e w'=>e=.returned (.int .i64 ((k+BW (s.data.toList.drop (k+1)):Nat):Int))∧Below w.heap.size w w':=by
 have W1:IntKind.i64.wrap ((k:Int)+1)=(k:Int)+1:=Adm _ (by omega);have g0:=hG.c0;have g1:=hG.c1;have htl:(s.data.toList.drop (k+1)).length=s.size - (k+1):=by rw [List.length_drop,←Ad]
 obtain ⟨R,hR⟩:∃ R,k+BW (s.data.toList.drop (k+1))=R:=⟨_,rfl⟩;rw [hR];have HR:=Ac8 hR;clear hR;go_enter Tryz.func111,Tryz.ntmps111
 go_wp2
 go_loopg [1,6,11] 2 (fun g a _ j wx=>∃ i:Nat,i+g=2∧j=.int .i64 i∧a=.int .i64 ((k+1+FJ (s.data.toList.drop (k+1)) i:Nat):Int)∧wx=w)
 case atStart=>exact ⟨0,by omega,rfl,by simp [FJ],rfl⟩
 case round=>
  obtain ⟨i,hig,rfl,rfl,rfl⟩:=hrel;have hah:=YQ (s.data.toList.drop (k+1)) i;obtain ⟨p,hp⟩:∃ p,k+1+FJ (s.data.toList.drop (k+1)) i=p:=⟨_,rfl⟩;rw [hp];have hps:p≤s.size:=by omega
  cases gk with
  | zero=>
   obtain rfl:i=2:=by omega
   have hI:=Fv (s.extract p s.size) 93 wr;rw [BX,FQ] at hI;rw [show (((93:UInt8).toNat:Nat):Int)=93 from rfl] at hI;have hR2:R=k+(1+Bx (s.data.toList.drop (k+1))+min (AH (fun b=>!(b == 93)) (s.data.toList.drop p)+1) (s.data.toList.drop p).length):=by
    rw [←HR.out,BW,List.drop_drop,←hp];rfl
   rw [show FJ (s.data.toList.drop (k+1)) 2=Bx (s.data.toList.drop (k+1)) from rfl] at hp;have hle:=Bt (fun b=>!(b == 93)) (s.data.toList.drop p);have hlen:(s.data.toList.drop p).length=s.size - p:=by rw [List.length_drop,←Ad]
   rw [hlen] at hI hR2 hle;generalize AH (fun b=>!(b == 93)) (s.data.toList.drop p)=m at hI hR2 hle;have hps':(p:Int)≤(s.size:Int):=by omega
   clear hlen hah;by_cases hm:m < s.size - p
   ·rw [if_pos hm] at hI
    have h0:(0:Int)≤(m:Int):=by omega
    have Wa:IntKind.i64.wrap ((p:Int)+(m:Int))=(p:Int)+(m:Int):=Adm _ (by omega);have Wb:IntKind.i64.wrap ((p:Int)+(m:Int)+1)=(p:Int)+(m:Int)+1:=Adm _ (by omega);have hRi:(R:Int)=(p:Int)+(m:Int)+1:=by omega
    have HRi:=Ac8 hRi;clear hRi hR2 hp;go_wp2_with (go_at_call 112;refine hI.mono ?_;rintro e w1 ⟨rfl,rfl⟩)
    go_ret;exact ⟨by rw [HRi.out];rfl,Adk _ _⟩
   ·rw [if_neg hm] at hI
    have hRi:(R:Int)=(s.size:Int):=by omega
    have HRi:=Ac8 hRi;clear hRi hR2 hp;go_wp2_with (go_at_call 112;refine hI.mono ?_;rintro e w1 ⟨rfl,rfl⟩)
    go_ret;exact ⟨by rw [HRi.out];rfl,Adk _ _⟩
  | succ g=>
   have e0:=fun w=>MF 94 93 w
   have e1:=fun w=>MG 94 93 w
   rcases (by omega:i=0∨i=1) with rfl | rfl
   ·obtain rfl:g=1:=by omega
    have hnx:FJ (s.data.toList.drop (k+1)) 1=FJ (s.data.toList.drop (k+1)) 0+Dv 94 ((s.data.toList.drop (k+1)).drop (FJ (s.data.toList.drop (k+1)) 0)):=Ly _ 0 94 (by simp);rw [List.drop_drop,hp] at hnx;have Hnx:=Ac8 hnx;have Hp:=Ac8 hp;clear hnx hp hah;by_cases hlt:p < s.size
    ·have hlti:(p:Int) < (s.size:Int):=by omega
     by_cases hx:s[p]=94
     ·have q:((s[p].toNat:Int) == 94)=true:=by rw [hx];rfl
      have Ho:=Ac8 (Lw (c:=94) hlt hx);have W3:IntKind.i64.wrap ((p:Int)+1)=(p:Int)+1:=Adm _ (by omega);clear hx
      go_wp2
      go_roundg 1
      case measure=>omega
      case rel=>exact ⟨1,by omega,rfl,congrArg (Value.int .i64) (by have h1:=Hnx.out;rw [Ho.out] at h1;have h2:=Hp.out;omega),rfl⟩
     ·have q:((s[p].toNat:Int) == 94)=false:=beq_eq_false_iff_ne.2 fun h=>hx (UInt8.toNat_inj.1 (by show s[p].toNat=94;omega))
      have Ho:=Ac8 (Lx (c:=94) hlt hx);clear hx
      go_wp2
      go_roundg 1
      case measure=>omega
      case rel=>exact ⟨1,by omega,rfl,congrArg (Value.int .i64) (by have h1:=Hnx.out;rw [Ho.out] at h1;have h2:=Hp.out;omega),rfl⟩
    ·have hlti:¬ (p:Int) < (s.size:Int):=by omega
     have Ho:=Ac8 (Ol (c:=94) (s:=s) (p:=p) (by omega))
     go_wp2
     go_roundg 1
     case measure=>omega
     case rel=>exact ⟨1,by omega,rfl,congrArg (Value.int .i64) (by have h1:=Hnx.out;rw [Ho.out] at h1;have h2:=Hp.out;omega),rfl⟩
   ·obtain rfl:g=0:=by omega
    have hnx:FJ (s.data.toList.drop (k+1)) 2=FJ (s.data.toList.drop (k+1)) 1+Dv 93 ((s.data.toList.drop (k+1)).drop (FJ (s.data.toList.drop (k+1)) 1)):=Ly _ 1 93 (by simp);rw [List.drop_drop,hp] at hnx;have Hnx:=Ac8 hnx;have Hp:=Ac8 hp;clear hnx hp hah;by_cases hlt:p < s.size
    ·have hlti:(p:Int) < (s.size:Int):=by omega
     by_cases hx:s[p]=93
     ·have q:((s[p].toNat:Int) == 93)=true:=by rw [hx];rfl
      have Ho:=Ac8 (Lw (c:=93) hlt hx);have W3:IntKind.i64.wrap ((p:Int)+1)=(p:Int)+1:=Adm _ (by omega);clear hx
      go_wp2
      go_roundg 0
      case measure=>omega
      case rel=>exact ⟨2,by omega,rfl,congrArg (Value.int .i64) (by have h1:=Hnx.out;rw [Ho.out] at h1;have h2:=Hp.out;omega),rfl⟩
     ·have q:((s[p].toNat:Int) == 93)=false:=beq_eq_false_iff_ne.2 fun h=>hx (UInt8.toNat_inj.1 (by show s[p].toNat=93;omega))
      have Ho:=Ac8 (Lx (c:=93) hlt hx);clear hx
      go_wp2
      go_roundg 0
      case measure=>omega
      case rel=>exact ⟨2,by omega,rfl,congrArg (Value.int .i64) (by have h1:=Hnx.out;rw [Ho.out] at h1;have h2:=Hp.out;omega),rfl⟩
    ·have hlti:¬ (p:Int) < (s.size:Int):=by omega
     have Ho:=Ac8 (Ol (c:=93) (s:=s) (p:=p) (by omega))
     go_wp2
     go_roundg 0
     case measure=>omega
     case rel=>exact ⟨2,by omega,rfl,congrArg (Value.int .i64) (by have h1:=Hnx.out;rw [Ho.out] at h1;have h2:=Hp.out;omega),rfl⟩
theorem KI (s:ByteArray) (k:Nat) (d:UInt8) (rx:Bool) (w:World) (hs:s.size≤4000000) (hk:k < s.size) (hG:GP w) :
  Calls Tryz.prog 94 #[.string s,.int .i64 k,.int .u8 d.toNat,.bool rx] w fun e w'=>e=pcA (AV d rx s[k] (s.data.toList.drop (k+1)) k)∧Below w.heap.size w w':=by
 have hki:(k:Int) < (s.size:Int):=by omega
 by_cases h92:s[k]=92
 ·have hE:=Oj s k d rx w hs hk h92
  rw [←h92] at hE;have q:((s[k].toNat:Int) == 92)=true:=by rw [h92];rfl
  clear h92;generalize AV d rx s[k] (s.data.toList.drop (k+1)) k=R at hE ⊢;go_enter Tryz.func94,Tryz.ntmps94;go_wp2_with (go_at_call 110;refine hE.mono ?_;rintro e w1 ⟨rfl,hb⟩)
  go_ret3
  exact ⟨rfl,hb⟩
 ·have q:((s[k].toNat:Int) == 92)=false:=beq_eq_false_iff_ne.2 fun h=>h92 (UInt8.toNat_inj.1 (by show s[k].toNat=92;omega))
  have hB:=Kh s k w hs hk hG;have hcc:∀ m,(if (rx && s[k] == 91)=true then BW (s.data.toList.drop (k+1)) else 1)=m→1≤m∧k+m≤s.size→
    ∀ W,Calls Tryz.prog 112 #[.string (s.extract k (k+m)),.int .u8 10] W fun e w'=>e=.returned (.int .i64 (if AH (fun b=>!(b == 10)) ((s[k] :: s.data.toList.drop (k+1)).take m) < m then (AH (fun b=>!(b == 10)) ((s[k] :: s.data.toList.drop (k+1)).take m):Int) else -1))∧w'=W:=fun m _ hm W=>by
   have h:=Fv (s.extract k (k+m)) 10 W;rw [Cd,FQ,show k+m - k=m by omega,Bh s k hk] at h;rw [show (((s[k] :: s.data.toList.drop (k+1)).take m).length)=m by rw [List.length_take,List.length_cons,List.length_drop,←Ad];omega] at h;exact h
  have htx:∀ m,(s.extract k (k+m)).data.toList=(s[k] :: s.data.toList.drop (k+1)).take m:=fun m=>by rw [Cd,show k+m - k=m by omega,Bh s k hk]
  have hbl:=Jw (s.data.toList.drop (k+1));have hbp:=KR (s.data.toList.drop (k+1));rw [List.length_drop,←Ad] at hbl;have Htx:=Ac8 htx;have Hcc:=Ac8 hcc;clear htx hcc;obtain ⟨R,hR⟩:∃ R,AV d rx s[k] (s.data.toList.drop (k+1)) k=R:=⟨_,rfl⟩;rw [hR];have HR:=Ac8 (show R=(let m:=if (rx && s[k] == 91)=true then BW (s.data.toList.drop (k+1)) else 1
   let i:=AH (fun b=>!(b == 10)) ((s[k] :: s.data.toList.drop (k+1)).take m)
   if i < m then ([],k+i,2) else ((s[k] :: s.data.toList.drop (k+1)).take m,k+m,0)) by rw [←hR];unfold AV;rw [if_neg h92])
  clear hR h92;have Wk:IntKind.i64.wrap ((k:Int)+1)=(k:Int)+1:=Adm _ (by omega);have tail:∀ m,(if (rx && s[k] == 91)=true then BW (s.data.toList.drop (k+1)) else 1)=m→1≤m∧k+m≤s.size→
    ∃ i:Nat,i≤m∧(∀ W,Calls Tryz.prog 112 #[.string (s.extract k (k+m)),.int .u8 10] W fun e w'=>e=.returned (.int .i64 (if i < m then (i:Int) else -1))∧w'=W)∧
     Hid (R=if i < m then ([],k+i,2) else ((s[k] :: s.data.toList.drop (k+1)).take m,k+m,0)):=fun m hm1 hm2=>by
   refine ⟨AH (fun b=>!(b == 10)) ((s[k] :: s.data.toList.drop (k+1)).take m),?_,Hcc.out m hm1 hm2,Ac8 (by rw [HR.out];simp only [hm1])⟩;have:=Bt (fun b=>!(b == 10)) ((s[k] :: s.data.toList.drop (k+1)).take m);have h2:=List.length_take_le m (s[k] :: s.data.toList.drop (k+1));omega
  clear HR Hcc;by_cases h91:(rx && s[k] == 91)=true
  ·obtain ⟨i,hi,hI,HR⟩:=tail _ (if_pos h91) (by omega)
   clear tail;simp only [Bool.and_eq_true] at h91;obtain ⟨rfl,h91⟩:=h91;have q91:((s[k].toNat:Int) == 91)=true:=by rw [eq_of_beq h91];rfl
   clear h91;generalize BW (s.data.toList.drop (k+1))=m at *;have hm1:(k:Int)≤((k+m:Nat):Int):=by omega
   have hm2:((k+m:Nat):Int)≤(s.size:Int):=by omega
   obtain ⟨E,hE⟩:∃ E,k+m=E:=⟨_,rfl⟩;rw [hE] at hB hI hm1 hm2 HR;have hkE:k≤E:=by omega
   go_enter Tryz.func94,Tryz.ntmps94;by_cases him:i < m
   ·rw [if_pos him] at hI
    have h0:(0:Int)≤(i:Int):=by omega
    have Wi:IntKind.i64.wrap ((k:Int)+(i:Int))=(k:Int)+(i:Int):=Adm _ (by omega);have HRi:=Ac8 (show R=([],k+i,2) by rw [HR.out,if_pos him]);clear HR him hE;go_wp2_with (first
     | (go_at_call 111;refine hB.mono ?_;rintro e w1 ⟨rfl,hb⟩)
     | (go_at_call 112;refine (hI _).mono ?_;rintro e w2 ⟨rfl,rfl⟩))
    go_ret3
    refine ⟨?_,hb⟩;rw [HRi.out];exact CK rfl (by show (k:Int)+(i:Int)=((k+i:Nat):Int);omega) rfl
   ·rw [if_neg him] at hI
    have HRi:=Ac8 (show R=((s[k] :: s.data.toList.drop (k+1)).take m,E,0) by rw [HR.out,if_neg him]);have HE:=Ac8 hE;clear HR him hE;go_wp2_with (first
     | (go_at_call 111;refine hB.mono ?_;rintro e w1 ⟨rfl,hb⟩)
     | (go_at_call 112;refine (hI _).mono ?_;rintro e w2 ⟨rfl,rfl⟩))
    go_ret3
    refine ⟨?_,hb⟩;rw [HRi.out];exact CK (Iw (by rw [←HE.out];exact Htx.out m)) rfl rfl
  ·obtain ⟨i,hi,hI,HR⟩:=tail _ (if_neg h91) (by omega)
   clear tail hB hbl hbp hG;have q91:rx=true→((s[k].toNat:Int) == 91)=false:=fun hrx=>by
    subst hrx;exact beq_eq_false_iff_ne.2 fun h=>h91 (by
     have:s[k]=91:=UInt8.toNat_inj.1 (by show s[k].toNat=91;omega);rw [this];rfl)
   clear h91;obtain ⟨E,hE⟩:∃ E,k+1=E:=⟨_,rfl⟩;rw [hE] at hI HR;have hEi:((k:Int)+1)=(E:Int):=by omega
   rw [hEi] at Wk;have Wk':IntKind.i64.wrap ((k:Int)+1)=(E:Int):=by rw [hEi];exact Wk
   have hm1:(k:Int)≤(E:Int):=by omega
   have hm2:(E:Int)≤(s.size:Int):=by omega
   have hkE:k≤E:=by omega
   have HE:=Ac8 hE;clear hE hEi Wk;by_cases him:i < 1
   ·rw [if_pos him] at hI
    have h0:(0:Int)≤(i:Int):=by omega
    have Wi:IntKind.i64.wrap ((k:Int)+(i:Int))=(k:Int)+(i:Int):=Adm _ (by omega);have HRi:=Ac8 (show R=([],k+i,2) by rw [HR.out,if_pos him]);clear HR him;go_enter Tryz.func94,Tryz.ntmps94;cases rx
    ·go_wp2_with (go_at_call 112;refine (hI _).mono ?_;rintro e w2 ⟨rfl,rfl⟩)
     go_ret3
     refine ⟨?_,Adk _ _⟩;rw [HRi.out];exact CK rfl (by show (k:Int)+(i:Int)=((k+i:Nat):Int);omega) rfl
    ·have q91':=q91 rfl
     clear q91;go_wp2_with (go_at_call 112;refine (hI _).mono ?_;rintro e w2 ⟨rfl,rfl⟩)
     go_ret3
     refine ⟨?_,Adk _ _⟩;rw [HRi.out];exact CK rfl (by show (k:Int)+(i:Int)=((k+i:Nat):Int);omega) rfl
   ·rw [if_neg him] at hI
    have HRi:=Ac8 (show R=((s[k] :: s.data.toList.drop (k+1)).take 1,E,0) by rw [HR.out,if_neg him];rfl);clear HR him;go_enter Tryz.func94,Tryz.ntmps94;cases rx
    ·go_wp2_with (go_at_call 112;refine (hI _).mono ?_;rintro e w2 ⟨rfl,rfl⟩)
     go_ret3
     refine ⟨?_,Adk _ _⟩;rw [HRi.out];exact CK (Iw (by rw [←HE.out];exact Htx.out 1)) rfl rfl
    ·have q91':=q91 rfl
     clear q91;go_wp2_with (go_at_call 112;refine (hI _).mono ?_;rintro e w2 ⟨rfl,rfl⟩)
     go_ret3
     refine ⟨?_,Adk _ _⟩;rw [HRi.out];exact CK (Iw (by rw [←HE.out];exact Htx.out 1)) rfl rfl
theorem FK (s:ByteArray) (k:Nat) (d:UInt8) (rx:Bool) (w:World) (hs:s.size≤4000000) (hk:k≤s.size) (hG:GP w) :
  Calls Tryz.prog 76 #[.string s,.int .i64 k,.int .u8 d.toNat,.bool rx] w fun e w'=>e=pcA (Ch d rx s.data.toList (s.size+1) k [])∧Below w.heap.size w w':=by
 have hP:=E9 s k w hk;obtain ⟨R,hR⟩:∃ R,Ch d rx s.data.toList (s.size+1) k []=R:=⟨_,rfl⟩;rw [hR];have HR:=Ac8 hR;clear hR;go_enter Tryz.func76,Tryz.ntmps76;go_wp2_with (go_at_call 38;refine hP.mono ?_;rintro e w' ⟨rfl,rfl⟩)
 clear hP;go_loopw [1,12,13,14] (fun i _ _ _ wr=>∃ (p n:Nat) (acc:List UInt8),p≤s.size∧s.size < p+n∧i=.int .i64 p∧Lib.IsBuilderF 167 5 w'.heap.size w'.heap.size (Lib.byteCells acc) wr∧Below w'.heap.size w' wr∧acc.length≤p∧Ch d rx s.data.toList n p acc=R) (fun i _ _ _ _=>s.size - (intOf i).toNat)
 case atStart=>exact ⟨k,s.size+1,[],hk,by omega,rfl,Lib.IsBuilderF.of (Lib.fresh_isBuilder 167 5 w'),(Adk _ w').alloc (Adf _) _,by simp,HR.out⟩
 case round=>
  obtain ⟨p,n,acc,hp,hn,rfl,hI,hbw,hal,hacc⟩:=hrel;obtain ⟨n,rfl⟩:∃ m,n=m+1:=⟨n - 1,by omega⟩;have HA:=Ac8 hacc;clear hacc;have hsz:=hbw.size;by_cases hlt:p < s.size
  ·have hlti:(p:Int) < (s.size:Int):=by omega
   have Hd:=Ac8 (Bh s p hlt);by_cases hc:s[p]=d
   ·have q:((s[p].toNat:Int) == (d.toNat:Int))=true:=by rw [hc];simp
    have Hc:=Ac8 hc;clear hc;have Wp:IntKind.i64.wrap ((p:Int)+1)=(p:Int)+1:=Adm _ (by omega);have hS:=Cz w'.heap.size w'.heap.size acc wr hI hsz;go_wp2_with (go_at_call 88;refine hS.mono ?_;rintro e W2 ⟨rfl,_,b2,_⟩)
    go_ret3
    refine ⟨?_,hbw.trans b2⟩;rw [←HA.out,Dj (t:=s.data.toList.drop (p+1)) (by rw [Hd.out,Hc.out])];rfl
   ·have q:((s[p].toNat:Int) == (d.toNat:Int))=false:=beq_eq_false_iff_ne.2 fun h=>hc (UInt8.toNat_inj.1 (by omega))
    have hPP:=KI s p d rx wr hs hlt (hG.below hbw hG.lt);obtain ⟨x,e,er,hx⟩:∃ x e er,AV d rx s[p] (s.data.toList.drop (p+1)) p=(x,e,er):=⟨_,_,_,rfl⟩;rw [hx] at hPP;have hxs:=CJ x;by_cases her:er=0
    ·subst her
     obtain ⟨h1,h2,h3⟩:=E8 hx;rw [List.length_drop,←Ad] at h2;have Hn:=Ac8 (C7 (n:=n) (acc:=acc) (L:=s.data.toList) (p:=p) Hd.out hc hx);have hlen:(Lib.byteCells acc).length+(txt x).size≤140737488355328:=by rw [Lib.byteCells_length];omega
     clear hx hc;go_wp2_with (first
      | (go_at_call 94;refine hPP.mono ?_;rintro e w1 ⟨rfl,b1⟩)
      | (go_at_call 95;refine (Kz w'.heap.size w'.heap.size _ _ _ (Ts hI b1) hlen (Adg hsz b1.size)).mono ?_;rintro e w2 ⟨rfl,h4,b2,_⟩))
     go_roundw
     case rel=>
      refine ⟨e,n,acc++x,by omega,by omega,rfl,?_,(hbw.trans (b1.mono hsz)).trans b2,by simp;omega,by rw [←Hn.out];exact HA.out⟩;rw [Lib.byteCells_append];exact Or.inr h4
     case measure=>simp [intOf];omega
    ·obtain ⟨rfl,h2,h3⟩:=Gt hx her
     have qe:(((er:Nat):Int) != 0)=true:=bne_iff_ne.2 (by omega);have Hn:=Ac8 (DK (n:=n) (acc:=acc) (L:=s.data.toList) (p:=p) Hd.out hc her hx);clear hx hc h3 her;go_wp2_with (first
      | (go_at_call 94;refine hPP.mono ?_;rintro e w1 ⟨rfl,b1⟩))
     go_ret3
     refine ⟨?_,hbw.trans (b1.mono hsz)⟩;rw [←HA.out,Hn.out];rfl
  ·have hlti:¬ (p:Int) < (s.size:Int):=by omega
   have Hd:=Ac8 (Bl s p (by omega))
   go_wp2
   go_ret3
   refine ⟨?_,hbw⟩;rw [←HA.out,Di Hd.out];exact CK rfl rfl rfl
end
section
open Go Go.RowKit
def Tt (w:World) (r:BG (List UInt8 × Nd)) (e:Ending) (w':World):Prop:=Below w.heap.size w w'∧match r with
 | .error q=>e=.returned (.tuple #[.agg #[.string ⟨#[]⟩,.nilIface,.slice none 0 0],.int .i64 (q.2:Int),.int .i64 (q.1:Int)])
 | .ok q=>∃ tv mv,e=.returned (.tuple #[.agg #[.string (txt q.1.1),tv,mv],.int .i64 (q.2.2:Int),.int .i64 0])∧NdX (fun b=>w.heap.size≤b∧mv.ownBlock≠some b) w' q.1.2 tv∧w'.ownsRow w.heap.size 33 2 mv q.2.1.length (wmC q.2.1)
theorem Tu {ext:Bool} {L:List UInt8} {b:Nat} {d:UInt8} {t:List UInt8} {p e:Nat} (hb:b≤L.length) (h:Ch d true L (L.length+1) b []=(t,p,e)) :
  At ext L b d=if e=0 then (if t=[] then .error (2,b) else match AY ext t with | .error q=>.error (q.1,b) | .ok q=>.ok ((t,q.2),Ce b (q.1.marks.map Sg),p)) else .error (e,p):=by
 unfold At Aj;rw [Dq _ _ _ _ hb,h];rfl
theorem VS (ext:Bool) (s:ByteArray) (w:World) (hG:Gl w):Calls Tryz.prog (if ext then 100 else 99) #[.string s] w fun e w'=>P4 (AY ext s.data.toList) w e w':=by
 cases ext
 ·exact PM s w hG
 ·exact Qb s w hG
theorem Ki (ext:Bool) (s:ByteArray) (b:Nat) (d:UInt8) (w:World) (hs:s.size≤4000000) (hb:b≤s.size) (hG:Gl w) (hP:GP w) :
  Calls Tryz.prog 84 #[.string s,.int .i64 (b:Int),.int .u8 d.toNat,.bool ext] w (Tt w (At ext s.data.toList b d)):=by
 have hA:=(Adk w.heap.size w).alloc (Adf _) (.cells #[.string ⟨#[]⟩,.nilIface,.slice none 0 0] 160);have hR0:=Blk.new w #[.string ⟨#[]⟩,.nilIface,.slice none 0 0] 160 w.heap.size rfl;obtain ⟨W,hW⟩:∃ W,w.alloc (.cells #[.string ⟨#[]⟩,.nilIface,.slice none 0 0] 160)=W:=⟨_,rfl⟩;rw [hW] at hA hR0;have hbt:=FK s b d true W hs hb (hP.up hA);obtain ⟨⟨t,p,e0⟩,hR⟩:∃ R,Ch d true s.data.toList (s.size+1) b []=R:=⟨_,rfl⟩;rw [hR] at hbt;rw [Tu (ext:=ext) (t:=t) (p:=p) (e:=e0) (by rw [←Ad];exact hb) (by rw [←Ad];exact hR)];have HA:=Ac8 hA;have HR0:=Ac8 hR0;have HG:=Ac8 (hG.up hA);clear hR hA hR0 hG hP;obtain ⟨z0,z1,z2,v0,v1,v2,hz⟩:=Gg HR0.out;have hbt:Calls Tryz.prog 76 #[.string s,.int .i64 b,.int .u8 d.toNat,.bool true] W fun e w'=>e=.returned (.tuple #[.string (txt t),.int .i64 (p:Int),.int .i64 (e0:Int)])∧Below W.heap.size W w':=hbt
 obtain ⟨T,hT⟩:∃ T,txt t=T:=⟨_,rfl⟩;have hTl:T.data.toList=t:=by rw [←hT,DR]
 have hT1:T.toList.isEmpty=t.isEmpty:=by rw [ByteArray.toList_eq,hTl]
 rw [hT] at hbt;have HT:=Ac8 hTl;have HTx:=Ac8 hT;clear hTl hT;by_cases he:e0=0
 ·subst he
  rw [if_pos rfl];by_cases ht:t=[]
  ·rw [if_pos ht]
   have c1:T.toList.isEmpty=true:=by rw [hT1,ht];rfl
   have c2:T.toList=[]:=List.isEmpty_iff.1 c1;clear ht hT1;go_enter Tryz.func84,Tryz.ntmps84;go_wp2_with (go_at_call 76;refine hbt.mono ?_;clear hbt;rintro e w1 ⟨rfl,b1⟩;have B1:=Ac8 (HA.out.trans (b1.mono HA.out.size));have K1:=Ac8 (HR0.out.below b1 HR0.out.lt);clear b1 z0 z1 z2 v0 v1 v2 hz;obtain ⟨z0,z1,z2,v0,v1,v2,hz⟩:=Gg K1.out)
   first
    | (with_reducible refine Rp B1.out K1.out (Adf _) ?_;intro w9 hB9 hk9 hs9 hz9)
    | (have hB9:=B1.out;have hk9:=K1.out;generalize w1=w9 at *)
   clear z0 z1 z2 v0 v1 v2 hz;obtain ⟨z0,z1,z2,_⟩:=Gg hk9;refine bodyPost_ret (v:=.tuple #[.agg #[.string ⟨#[]⟩,.nilIface,.slice none 0 0],.int .i64 (b:Int),.int .i64 2]) (by simp [results,Tryz.results84,go_sem,z0,z1,z2]) rfl ?_;exact ⟨hB9,rfl⟩
  ·rw [if_neg ht]
   have c1:T.toList.isEmpty=false:=by rw [hT1];cases t <;> simp_all
   have c2:¬ T.toList=[]:=fun h=>by rw [h] at c1;cases c1
   clear ht hT1;have hpa:=fun w1 (hb1:Below W.heap.size W w1)=>VS ext T w1 (HG.out.up hb1)
   rw [HT.out] at hpa;have hwe:∀ q,AY ext t=.error q→q.1≠0:=fun q h=>In h
   have hwm:∀ q,AY ext t=.ok q→q.1.marks.length≤250:=fun q h=>by
    have:=Lf (st:=q.1) (d:=q.2) h;unfold AY at h;split at h
    ·cases h
    ·omega
   obtain ⟨R,hRp⟩:∃ R,AY ext t=R:=⟨_,rfl⟩;rw [hRp] at hpa hwe hwm ⊢;clear hRp;cases R with
   | error q=>
    obtain ⟨n,k⟩:=q;have hn:n≠0:=hwe _ rfl;have hnn:((n:Int) != 0)=true:=by simp;omega
    clear hwe hwm hn;cases ext
    all_goals
     simp only [Bool.false_eq_true,if_false,if_true] at hpa;go_enter Tryz.func84,Tryz.ntmps84;go_wp2_with (first
      | (go_at_call 76;refine hbt.mono ?_;clear hbt;rintro e w1 ⟨rfl,b1⟩;have hp1:=hpa w1 b1;have B1:=Ac8 (HA.out.trans (b1.mono HA.out.size));have K1:=Ac8 (HR0.out.below b1 HR0.out.lt);clear b1 hpa z0 z1 z2 v0 v1 v2 hz;obtain ⟨z0,z1,z2,v0,v1,v2,hz⟩:=Gg K1.out)
      | (go_at_call 99;refine hp1.mono ?_;clear hp1;rintro e w2 ⟨b2,rfl⟩;have B2:=Ac8 (B1.out.trans (b2.mono B1.out.size));have K2:=Ac8 (K1.out.below b2 K1.out.lt);clear b2 z0 z1 z2 v0 v1 v2 hz;obtain ⟨z0,z1,z2,v0,v1,v2,hz⟩:=Gg K2.out)
      | (go_at_call 100;refine hp1.mono ?_;clear hp1;rintro e w2 ⟨b2,rfl⟩;have B2:=Ac8 (B1.out.trans (b2.mono B1.out.size));have K2:=Ac8 (K1.out.below b2 K1.out.lt);clear b2 z0 z1 z2 v0 v1 v2 hz;obtain ⟨z0,z1,z2,v0,v1,v2,hz⟩:=Gg K2.out))
     first
      | (with_reducible refine Rp B2.out K2.out (Adf _) ?_;intro w9 hB9 hk9 hs9 hz9)
      | (have hB9:=B2.out;have hk9:=K2.out;generalize w2=w9 at *)
     clear z0 z1 z2 v0 v1 v2 hz;obtain ⟨z0,z1,z2,_⟩:=Gg hk9;refine bodyPost_ret (v:=.tuple #[.agg #[.string ⟨#[]⟩,.nilIface,.slice none 0 0],.int .i64 (b:Int),.int .i64 (n:Int)]) (by simp [results,Tryz.results84,go_sem,z0,z1,z2]) rfl ?_;exact ⟨hB9,rfl⟩
   | ok q=>
    obtain ⟨st,dn⟩:=q;show Calls _ _ _ _ (Tt w (.ok ((t,dn),Ce (b:Int) (st.marks.map Sg),p)));have hm250:st.marks.length≤250:=hwm _ rfl;obtain ⟨n,hn⟩:∃ n,st.marks.length=n:=⟨_,rfl⟩;have hmn:(st.marks.map Sg).length=n:=by simp [hn]
    simp only [P4,hn,Sq] at hpa;rw [hn] at hm250;have Hmn:=Ac8 hmn;clear hwe hwm hn hmn;generalize st.marks.map Sg=l at hpa Hmn ⊢;have HF:∀ (w':World) (tv:Value) (a':Option Addr) (c':Nat),Below w.heap.size w w'→NdX (fun b=>w.heap.size≤b∧(Value.slice a' n c').ownBlock≠some b) w' dn tv→w'.ownsRow w.heap.size 33 2 (.slice a' n c') n (wmC (Ce (b:Int) l))→
      Tt w (.ok ((t,dn),Ce (b:Int) l,p)) (.returned (.tuple #[.agg #[.string T,tv,.slice a' n c'],.int .i64 (p:Int),.int .i64 0])) w':=fun w' tv a' c' h1 h2 h3=>by
     refine ⟨h1,tv,.slice a' n c',?_,h2,?_⟩
     ·rw [←HTx.out]
     ·show w'.ownsRow w.heap.size 33 2 _ (Ce (b:Int) l).length (wmC (Ce (b:Int) l))
      rw [JK,Hmn.out];exact h3
    have HFh:=Ac8 HF;clear HF;cases ext
    all_goals
     simp only [Bool.false_eq_true,if_false,if_true] at hpa;go_enter Tryz.func84,Tryz.ntmps84;go_upto_region 10 with (first
      | (go_at_call 76;refine hbt.mono ?_;clear hbt;rintro e w1 ⟨rfl,b1⟩;have hp1:=hpa w1 b1;have B1:=Ac8 (HA.out.trans (b1.mono HA.out.size));have K1:=Ac8 (HR0.out.below b1 HR0.out.lt);clear b1 hpa z0 z1 z2 v0 v1 v2 hz;obtain ⟨z0,z1,z2,v0,v1,v2,hz⟩:=Gg K1.out)
      | (go_at_call 99;refine hp1.mono ?_;clear hp1;rintro e w2 ⟨b2,tv,mv,rfl,hd,hm⟩)
      | (go_at_call 100;refine hp1.mono ?_;clear hp1;rintro e w2 ⟨b2,tv,mv,rfl,hd,hm⟩))
     obtain ⟨ma,mc,rfl⟩:=A7 hm;have B2:=Ac8 (B1.out.trans (b2.mono B1.out.size));have K2:=Ac8 (K1.out.below b2 K1.out.lt);have HD2:=Ac8 (NdX.keep (G:=fun b=>w1.heap.size≤b∧b < w2.heap.size) (Adf _) (fun b hb hl=>⟨⟨hb,hl⟩,fun _=>rfl⟩) hd);have hmv:=Yv Hmn.out ma mc (b:Int) w1.heap.size w2 hm (by omega);have hsh:=hd.elim fun _ h=>Av h
     clear b2 hd hm z0 z1 z2 v0 v1 v2 hz;obtain ⟨z0,z1,z2,v0,v1,v2,hz⟩:=Gg K2.out;rcases hsh with ⟨T9,q9,rfl⟩ | rfl
     all_goals
      go_wp2_with (go_at_call 101;refine hmv.mono ?_;clear hmv;rintro e w3 ⟨a3,c3,rfl,b3,ho3⟩;have B3:=Ac8 (B2.out.trans (b3.mono B2.out.size));have K3:=Ac8 (K2.out.below b3 K2.out.lt);have HD3:=Ac8 (NdX.below b3 HD2.out);have HO3:=Ac8 ho3;have hb3:=Ac8 b3.size;clear b3 ho3 z0 z1 z2 v0 v1 v2 hz;obtain ⟨z0,z1,z2,v0,v1,v2,hz⟩:=Gg K3.out)
      with_reducible refine Rp B3.out K3.out (Adf _) ?_
      intro w9 hB9 hk9 hs9 hz9;have hne:∀ g,(Value.slice a3 n c3).ownBlock=some g→g≠w.heap.size:=fun g hg e=>by
       have:=AN HO3.out g hg;have:=K2.out.lt;omega
      have hfin:=HFh.out w9 _ a3 c3 hB9 (NdX.keep (G:=fun b=>w.heap.size≤b∧(Value.slice a3 n c3).ownBlock≠some b) (by omega) (fun b hb hl=>⟨⟨Adg B1.out.size hb.1,fun e=>by have:=AN HO3.out b e;have:=hb.2;omega⟩,fun o=>Adn (w:=w3) (a:=⟨b,o,none⟩) (hs9 b (by have:=K1.out.lt;have:=hb.1;omega))⟩) HD3.out) (Aa (BN (Adg B2.out.size (Adf _)) HO3.out) fun g hg=>hs9 g (hne g hg));clear z0 z1 z2 v0 v1 v2 hz;obtain ⟨z0,z1,z2,_⟩:=Gg hk9;refine bodyPost_ret (by simp [results,Tryz.results84,go_sem,z0,z1,z2]) rfl hfin
 ·rw [if_neg he]
  have hnn:((e0:Int) != 0)=true:=by simp;omega
  clear he hT1;go_enter Tryz.func84,Tryz.ntmps84;go_wp2_with (go_at_call 76;refine hbt.mono ?_;clear hbt;rintro e w1 ⟨rfl,b1⟩;have B1:=Ac8 (HA.out.trans (b1.mono HA.out.size));have K1:=Ac8 (HR0.out.below b1 HR0.out.lt);clear b1 z0 z1 z2 v0 v1 v2 hz;obtain ⟨z0,z1,z2,v0,v1,v2,hz⟩:=Gg K1.out)
  first
   | (with_reducible refine Rp B1.out K1.out (Adf _) ?_;intro w9 hB9 hk9 hs9 hz9)
   | (have hB9:=B1.out;have hk9:=K1.out;generalize w1=w9 at *)
  clear z0 z1 z2 v0 v1 v2 hz;obtain ⟨z0,z1,z2,_⟩:=Gg hk9;refine bodyPost_ret (v:=.tuple #[.agg #[.string ⟨#[]⟩,.nilIface,.slice none 0 0],.int .i64 (p:Int),.int .i64 (e0:Int)]) (by simp [results,Tryz.results84,go_sem,z0,z1,z2]) rfl ?_;exact ⟨hB9,rfl⟩
end
section
open Go Go.RowKit
def TrO (F:Nat→Prop) (w:World):Option Nd→Value→Prop
 | none,v=>v=.nilIface
 | some d,v=>NdX F w d v
theorem TrO.keep {F G:Nat→Prop} {w w':World} (hs:w.heap.size≤w'.heap.size) (hF:∀ b,F b→b < w.heap.size→G b∧∀ o,w'.cell? ⟨b,o,none⟩=w.cell? ⟨b,o,none⟩):∀ {t:Option Nd} {v:Value},TrO F w t v→TrO G w' t v
 | none,_,h=>h
 | some _,_,h=>NdX.keep hs hF h
theorem TrO.below {F:Nat→Prop} {w w':World} (hb:Below w.heap.size w w'):∀ {t:Option Nd} {v:Value},TrO F w t v→TrO F w' t v
 | none,_,h=>h
 | some _,_,h=>NdX.below hb h
theorem TrO.shape {F:Nat→Prop} {w:World}:∀ {t:Option Nd} {v:Value},TrO F w t v→(∃ T q,v=.iface T q)∨v=.nilIface
 | none,_,h=>.inr h
 | some _,_,h=>h.elim fun _ k=>Av k
theorem EL {ext:Bool} {L:List UInt8} {b:Nat} {d:UInt8} {q:Nat × Nat} (h:At ext L b d=.error q):q.1≠0:=by
 unfold At at h;simp only at h;split at h
 ·split at h
  ·injection h with h;subst h;simp
  ·split at h
   ·rename_i he
    injection h with h;have hq:=In he;rw [←h];exact hq
   ·cases h
 ·rename_i he
  injection h with h;subst h;exact he
def IJ (w:World) (r:BG Adr) (e:Ending) (w':World):Prop:=Below w.heap.size w w'∧match r with
 | .error q=>e=.returned (.tuple #[.agg #[.int .i64 0,.int .i64 0,.string ⟨#[]⟩,.nilIface],.slice none 0 0,.int .i64 (q.2:Int),.int .i64 (q.1:Int)])
 | .ok q=>∃ tv ma mc,e=.returned (.tuple #[.agg #[.int .i64 (q.1.kind:Int),.int .i64 (q.1.line:Int),.string (txt q.1.text),tv],.slice ma q.2.1.length mc,.int .i64 (q.2.2:Int),.int .i64 0])∧
  TrO (fun b=>w.heap.size≤b∧(Value.slice ma q.2.1.length mc).ownBlock≠some b) w' q.1.tree tv∧w'.ownsRow w.heap.size 33 2 (.slice ma q.2.1.length mc) q.2.1.length (wmC q.2.1)
abbrev Gh:Array Value:=#[.int .i64 0,.int .i64 0,.string ⟨#[]⟩,.nilIface]
theorem Tv (s:ByteArray) (k:Nat) (w:World) (hs:s.size≤4000000) (hk:k≤s.size) :
  Calls Tryz.prog 62 #[.string s,.int .i64 (k:Int)] w (IJ w (Dl s.data.toList k)):=by
 have hA:=(Adk w.heap.size w).alloc (Adf _) (.cells Gh 40);have hR0:=Blk.new w Gh 40 w.heap.size rfl;obtain ⟨W,hW⟩:∃ W,w.alloc (.cells Gh 40)=W:=⟨_,rfl⟩;rw [hW] at hA hR0;have hnm:=Gv s k W hs hk;obtain ⟨⟨n,p,e0⟩,hR⟩:∃ R,Bu s.data.toList k=R:=⟨_,rfl⟩;rw [hR] at hnm;unfold Dl;rw [hR];have hnm:Calls Tryz.prog 83 #[.string s,.int .i64 k] W fun e w'=>e=.returned (.tuple #[.int .i64 (n:Int),.int .i64 (p:Int),.int .i64 (e0:Int)])∧Below W.heap.size W w':=hnm
 have HA:=Ac8 hA;have HR0:=Ac8 hR0;clear hR hA hR0;obtain ⟨z0,z1,z2,z3,v0,v1,v2,v3,hz⟩:=Bd HR0.out;simp only;by_cases he:e0=0
 ·subst he
  rw [if_pos rfl];by_cases hn:n=0
  ·subst hn
   rw [if_pos rfl];go_enter Tryz.func62,Tryz.ntmps62;go_wp2_with (go_at_call 83;refine hnm.mono ?_;clear hnm;rintro e w1 ⟨rfl,b1⟩;have B1:=Ac8 (HA.out.trans (b1.mono HA.out.size));have K1:=Ac8 (HR0.out.below b1 HR0.out.lt);clear b1 z0 z1 z2 z3 v0 v1 v2 v3 hz;obtain ⟨z0,z1,z2,z3,v0,v1,v2,v3,hz⟩:=Bd K1.out)
   first
    | (with_reducible refine Cl B1.out K1.out (Adf _) ?_;intro w9 hB9 hk9 hs9 hz9)
    | (have hB9:=B1.out;have hk9:=K1.out;generalize w1=w9 at *)
   clear z0 z1 z2 z3 v0 v1 v2 v3 hz;obtain ⟨z0,z1,z2,z3,_⟩:=Bd hk9;refine bodyPost_ret (v:=.tuple #[.agg Gh,.slice none 0 0,.int .i64 (k:Int),.int .i64 12]) (by simp [results,Tryz.results62,go_sem,z0,z1,z2,z3]) rfl ?_;exact ⟨hB9,rfl⟩
  ·rw [if_neg hn]
   have hnn:((n:Int) == 0)=false:=by simp;omega
   clear hn;go_enter Tryz.func62,Tryz.ntmps62;go_wp2_with (go_at_call 83;refine hnm.mono ?_;clear hnm;rintro e w1 ⟨rfl,b1⟩;have B1:=Ac8 (HA.out.trans (b1.mono HA.out.size));have K1:=Ac8 (HR0.out.below b1 HR0.out.lt);clear b1 z0 z1 z2 z3 v0 v1 v2 v3 hz;obtain ⟨z0,z1,z2,z3,v0,v1,v2,v3,hz⟩:=Bd K1.out)
   with_reducible refine Cl B1.out K1.out (Adf _) ?_
   intro w9 hB9 hk9 hs9 hz9;clear z0 z1 z2 z3 v0 v1 v2 v3 hz;obtain ⟨z0,z1,z2,z3,_⟩:=Bd hk9;refine bodyPost_ret (v:=.tuple #[.agg #[.int .i64 1,.int .i64 (n:Int),.string ⟨#[]⟩,.nilIface],.slice none 0 0,.int .i64 (p:Int),.int .i64 0]) (by simp [results,Tryz.results62,go_sem,z0,z1,z2,z3]) rfl ?_;exact ⟨hB9,.nilIface,none,0,rfl,rfl,World.ownsRow_nil _ _ _ _⟩
 ·rw [if_neg he]
  have hnn:((e0:Int) != 0)=true:=by simp;omega
  clear he;go_enter Tryz.func62,Tryz.ntmps62;go_wp2_with (go_at_call 83;refine hnm.mono ?_;clear hnm;rintro e w1 ⟨rfl,b1⟩;have B1:=Ac8 (HA.out.trans (b1.mono HA.out.size));have K1:=Ac8 (HR0.out.below b1 HR0.out.lt);clear b1 z0 z1 z2 z3 v0 v1 v2 v3 hz;obtain ⟨z0,z1,z2,z3,v0,v1,v2,v3,hz⟩:=Bd K1.out)
  first
   | (with_reducible refine Cl B1.out K1.out (Adf _) ?_;intro w9 hB9 hk9 hs9 hz9)
   | (have hB9:=B1.out;have hk9:=K1.out;generalize w1=w9 at *)
  clear z0 z1 z2 z3 v0 v1 v2 v3 hz;obtain ⟨z0,z1,z2,z3,_⟩:=Bd hk9;refine bodyPost_ret (v:=.tuple #[.agg Gh,.slice none 0 0,.int .i64 (p:Int),.int .i64 (e0:Int)]) (by simp [results,Tryz.results62,go_sem,z0,z1,z2,z3]) rfl ?_;exact ⟨hB9,rfl⟩
theorem Tw (s:ByteArray) (k:Nat) (w:World) (hs:s.size≤4000000) (hk:k < s.size) :
  Calls Tryz.prog 65 #[.string s,.int .i64 (k:Int)] w (IJ w (Dm s.data.toList k)):=by
 have hA:=(Adk w.heap.size w).alloc (Adf _) (.cells Gh 40);have hR0:=Blk.new w Gh 40 w.heap.size rfl;obtain ⟨W,hW⟩:∃ W,w.alloc (.cells Gh 40)=W:=⟨_,rfl⟩;rw [hW] at hA hR0;obtain ⟨k1,hk1⟩:∃ k1,k+1=k1:=⟨_,rfl⟩;have hnm:=Gv s k1 W hs (by omega);have Wk:IntKind.i64.wrap ((k:Int)+1)=(k1:Int):=by rw [Adm _ (by omega)];omega
 unfold Dm;rw [hk1];obtain ⟨⟨n,p,e0⟩,hR⟩:∃ R,Bu s.data.toList k1=R:=⟨_,rfl⟩;rw [hR] at hnm ⊢;have hnm:Calls Tryz.prog 83 #[.string s,.int .i64 k1] W fun e w'=>e=.returned (.tuple #[.int .i64 (n:Int),.int .i64 (p:Int),.int .i64 (e0:Int)])∧Below W.heap.size W w':=hnm
 have HA:=Ac8 hA;have HR0:=Ac8 hR0;clear hR hA hR0 hk1;obtain ⟨z0,z1,z2,z3,v0,v1,v2,v3,hz⟩:=Bd HR0.out;simp only;by_cases he:e0=0
 ·subst he
  rw [if_pos rfl];go_enter Tryz.func65,Tryz.ntmps65;go_upto_region 4 with (go_at_call 83;refine hnm.mono ?_;clear hnm;rintro e w1 ⟨rfl,b1⟩;have B1:=Ac8 (HA.out.trans (b1.mono HA.out.size));have K1:=Ac8 (HR0.out.below b1 HR0.out.lt);clear b1 z0 z1 z2 z3 v0 v1 v2 v3 hz)
  have b2:=B1.out.alloc B1.out.size (.cells #[.int .i64 (k:Int),.string ⟨#[43]⟩] 33);have k2:=K1.out.alloc (.cells #[.int .i64 (k:Int),.string ⟨#[43]⟩] 33);have ho2:=World.ownsRow_lit (base:=w.heap.size) (size:=2) (e:=33) w1 #[.int .i64 (k:Int),.string ⟨#[43]⟩] 1 B1.out.size (by decide) rfl;have hlt:=K1.out.lt;obtain ⟨g,hg⟩:∃ g,w1.heap.size=g:=⟨_,rfl⟩;obtain ⟨W2,hW2⟩:∃ W2,w1.alloc (.cells #[.int .i64 (k:Int),.string ⟨#[43]⟩] 33)=W2:=⟨_,rfl⟩;rw [hW2] at b2 k2 ho2;rw [hg] at ho2 hlt;have HO:=Ac8 ho2;have B2:=Ac8 b2;have K2:=Ac8 k2;have Hlt:=Ac8 hlt;clear b2 k2 ho2 hlt;obtain ⟨z0,z1,z2,z3,v0,v1,v2,v3,hz⟩:=Bd K2.out;go_wp2_with fail
  with_reducible refine Cl B2.out K2.out (Adf _) ?_
  intro w9 hB9 hk9 hs9 hz9;clear z0 z1 z2 z3 v0 v1 v2 v3 hz;obtain ⟨z0,z1,z2,z3,_⟩:=Bd hk9;refine bodyPost_ret (v:=.tuple #[.agg #[.int .i64 4,.int .i64 (n:Int),.string ⟨#[]⟩,.nilIface],.slice (some ⟨g,0,none⟩) 1 1,.int .i64 (p:Int),.int .i64 0]) (by simp [results,Tryz.results65,go_sem,z0,z1,z2,z3]) rfl ?_;refine ⟨hB9,.nilIface,_,_,rfl,rfl,Aa HO.out fun b hb=>hs9 b fun e=>?_⟩;have:some g=some b:=hb;injection this with this;have:=Hlt.out;omega
 ·rw [if_neg he]
  have hnn:((e0:Int) != 0)=true:=by simp;omega
  clear he;go_enter Tryz.func65,Tryz.ntmps65;go_wp2_with (go_at_call 83;refine hnm.mono ?_;clear hnm;rintro e w1 ⟨rfl,b1⟩;have B1:=Ac8 (HA.out.trans (b1.mono HA.out.size));have K1:=Ac8 (HR0.out.below b1 HR0.out.lt);clear b1 z0 z1 z2 z3 v0 v1 v2 v3 hz;obtain ⟨z0,z1,z2,z3,v0,v1,v2,v3,hz⟩:=Bd K1.out)
  first
   | (with_reducible refine Cl B1.out K1.out (Adf _) ?_;intro w9 hB9 hk9 hs9 hz9)
   | (have hB9:=B1.out;have hk9:=K1.out;generalize w1=w9 at *)
  clear z0 z1 z2 z3 v0 v1 v2 v3 hz;obtain ⟨z0,z1,z2,z3,_⟩:=Bd hk9;refine bodyPost_ret (v:=.tuple #[.agg Gh,.slice none 0 0,.int .i64 (p:Int),.int .i64 (e0:Int)]) (by simp [results,Tryz.results65,go_sem,z0,z1,z2,z3]) rfl ?_;exact ⟨hB9,rfl⟩
theorem Lz (ext:Bool) (s:ByteArray) (b:Nat) (d:UInt8) (w:World) (hs:s.size≤4000000) (hb:b≤s.size) (hG:Gl w) (hP:GP w) :
  Calls Tryz.prog 63 #[.string s,.int .i64 (b:Int),.int .u8 d.toNat,.bool ext] w (IJ w (Ec ext s.data.toList b d)):=by
 have hA:=(Adk w.heap.size w).alloc (Adf _) (.cells Gh 40);have hR0:=Blk.new w Gh 40 w.heap.size rfl;obtain ⟨W,hW⟩:∃ W,w.alloc (.cells Gh 40)=W:=⟨_,rfl⟩;rw [hW] at hA hR0;have hde:=Ki ext s b d W hs hb (hG.up hA) (hP.up hA);have hwe:∀ q,At ext s.data.toList b d=.error q→q.1≠0:=fun q h=>EL h
 unfold Ec;obtain ⟨R,hR⟩:∃ R,At ext s.data.toList b d=R:=⟨_,rfl⟩;rw [hR] at hde hwe ⊢;have HA:=Ac8 hA;have HR0:=Ac8 hR0;clear hR hA hR0 hG hP;obtain ⟨z0,z1,z2,z3,v0,v1,v2,v3,hz⟩:=Bd HR0.out;cases R with
 | error q=>
  obtain ⟨n,p⟩:=q;have hn:n≠0:=hwe _ rfl;have hnn:((n:Int) != 0)=true:=by simp;omega
  clear hwe hn;go_enter Tryz.func63,Tryz.ntmps63;go_upto_region 2 with (go_at_call 84;refine hde.mono ?_;clear hde;rintro e w1 ⟨b1,rfl⟩;have B1:=Ac8 (HA.out.trans (b1.mono HA.out.size));have K1:=Ac8 (HR0.out.below b1 HR0.out.lt);clear b1 z0 z1 z2 z3 v0 v1 v2 v3 hz)
  have b2:=B1.out.alloc B1.out.size (.cells #[.string ⟨#[]⟩,.nilIface,.slice none 0 0] 160);have k2:=K1.out.alloc (.cells #[.string ⟨#[]⟩,.nilIface,.slice none 0 0] 160);generalize w1.alloc (.cells #[.string ⟨#[]⟩,.nilIface,.slice none 0 0] 160)=w2 at *;have B2:=Ac8 b2;have K2:=Ac8 k2;clear b2 k2;obtain ⟨z0,z1,z2,z3,v0,v1,v2,v3,hz⟩:=Bd K2.out;go_wp2_with fail
  first
   | (with_reducible refine Cl B2.out K2.out (Adf _) ?_;intro w9 hB9 hk9 hs9 hz9)
   | (have hB9:=B2.out;have hk9:=K2.out;generalize w2=w9 at *)
  clear z0 z1 z2 z3 v0 v1 v2 v3 hz;obtain ⟨z0,z1,z2,z3,_⟩:=Bd hk9;refine bodyPost_ret (v:=.tuple #[.agg Gh,.slice none 0 0,.int .i64 (p:Int),.int .i64 (n:Int)]) (by simp [results,Tryz.results63,go_sem,z0,z1,z2,z3]) rfl ?_;exact ⟨hB9,rfl⟩
 | ok q=>
  obtain ⟨⟨t,dn⟩,ms,p⟩:=q;show Calls _ _ _ _ (IJ w (.ok (⟨3,0,t,some dn⟩,ms,p)));have hde:Calls Tryz.prog 84 #[.string s,.int .i64 (b:Int),.int .u8 d.toNat,.bool ext] W fun e w'=>Tt W (.ok ((t,dn),ms,p)) e w':=hde
  simp only [Tt] at hde;clear hwe;obtain ⟨n,hn⟩:∃ n,ms.length=n:=⟨_,rfl⟩;rw [hn] at hde;obtain ⟨T,hT⟩:∃ T,txt t=T:=⟨_,rfl⟩;rw [hT] at hde;have HF:=Ac8 (fun (w':World) (tv:Value) (a':Option Addr) (c':Nat) (h1:Below w.heap.size w w') (h2:NdX (fun b=>w.heap.size≤b∧(Value.slice a' n c').ownBlock≠some b) w' dn tv) (h3:w'.ownsRow w.heap.size 33 2 (.slice a' n c') n (wmC ms))=>
   (show IJ w (.ok (⟨3,0,t,some dn⟩,ms,p)) (.returned (.tuple #[.agg #[.int .i64 3,.int .i64 0,.string T,tv],.slice a' n c',.int .i64 (p:Int),.int .i64 0])) w' from by
    subst hn hT;exact ⟨h1,tv,a',c',rfl,h2,h3⟩))
  clear hn hT;go_enter Tryz.func63,Tryz.ntmps63;go_upto_region 2 with (go_at_call 84;refine hde.mono ?_;clear hde;rintro e w1 ⟨b1,tv,mv,rfl,hd,hm⟩;obtain ⟨ma,mc,rfl⟩:=A7 hm;have HD1:=Ac8 hd;have HM1:=Ac8 hm;have hsh:=hd.elim fun _ h=>Av h;have B1:=Ac8 (HA.out.trans (b1.mono HA.out.size));have K1:=Ac8 (HR0.out.below b1 HR0.out.lt);clear b1 hd hm z0 z1 z2 z3 v0 v1 v2 v3 hz;rcases hsh with ⟨T9,q9,rfl⟩ | rfl)
  all_goals
   have hlt1:=K1.out.lt;generalize hW2:w1.alloc _=w2;have b2:=Ac hW2;have hX:=Ae hW2;have B2:=Ac8 (B1.out.trans (b2.mono B1.out.size));have K2:=Ac8 (K1.out.below b2 hlt1);have HD2:=Ac8 (NdX.below b2 HD1.out);have HM2:=Ac8 (Ag HM1.out b2);have Hlt:=Ac8 (show w.heap.size < W.heap.size from HR0.out.lt);obtain ⟨x0,x1,x2,_,_,_,hxl⟩:=Gg hX;generalize w1.heap.size=r at *;obtain ⟨z0,z1,z2,z3,v0,v1,v2,v3,hz⟩:=Bd K2.out;clear b2 hX hW2;go_wp2_with fail
   go_region
   all_goals
    go_wp2_with fail
    first
     | (with_reducible refine Cl B2.out K2.out (Adf _) ?_)
     | (with_reducible refine Aa5 B2.out K2.out (Adf _) ?_)
    intro w9 hB9 hk9 hs9 hz9;have hfin:=HF.out w9 _ ma mc hB9 (NdX.keep (G:=fun b=>w.heap.size≤b∧(Value.slice ma n mc).ownBlock≠some b) (by first | omega | (simp at hz9;omega)) (fun b hb hl=>⟨⟨Adg (Adj Hlt.out) hb.1,hb.2⟩,fun o=>Adn (w:=w2) (a:=⟨b,o,none⟩) (hs9 b (by have:=Hlt.out;have:=hb.1;omega))⟩) HD2.out) (Aa (BN (Adj Hlt.out) HM2.out) fun g hg=>hs9 g (by have:=AN HM2.out g hg;have:=Hlt.out;omega));clear z0 z1 z2 z3 v0 v1 v2 v3 hz;obtain ⟨z0,z1,z2,z3,_⟩:=Bd hk9;refine bodyPost_ret (by simp [results,Tryz.results63,go_sem,z0,z1,z2,z3]) rfl hfin
end
section
open Go Go.RowKit
theorem Kj {x:UInt8} {n:Nat} (hn:n < 256) (h:x≠UInt8.ofNat n):((x.toNat:Int) == (n:Int))=false:=beq_eq_false_iff_ne.2 fun e=>h (UInt8.toNat_inj.1 (by
 have h2:(UInt8.ofNat n).toNat=n:=by simp;omega
 rw [h2];omega))
theorem IJ.hand {w W:World} {r:BG Adr} {e:Ending} {w1:World} (hA:Below w.heap.size w W) (hk:Blk W w.heap.size Gh 40) (h:IJ W r e w1) :
  ∃ k l t v mv p n,e=.returned (.tuple #[.agg #[k,l,t,v],mv,.int .i64 p,.int .i64 n])∧Below w.heap.size w w1∧Blk w1 w.heap.size Gh 40∧
   ((∃ T q,v=.iface T q)∨v=.nilIface)∧(∃ i,k=.int .i64 i)∧(∃ i,l=.int .i64 i)∧(∃ s,t=.string s)∧(∃ a m c,mv=.slice a m c)∧
   ∀ w9,Below w.heap.size w w9→(∀ b,b≠w.heap.size→w9.heap[b]?=w1.heap[b]?)→w9.heap.size=w1.heap.size→IJ w r e w9:=by
 obtain ⟨h1,h2⟩:=h;have hlt:=hk.lt;have hkk:=hk.below h1 hk.lt;have hbb:=hA.trans (h1.mono hA.size);cases r with
 | error q=>
  subst h2;exact ⟨_,_,_,_,_,_,_,rfl,hbb,hkk,.inr rfl,⟨_,rfl⟩,⟨_,rfl⟩,⟨_,rfl⟩,⟨_,_,_,rfl⟩,fun w9 hb _ _=>⟨hb,rfl⟩⟩
 | ok q=>
  obtain ⟨tv,ma,mc,rfl,h4,h5⟩:=h2;refine ⟨_,_,_,_,_,_,_,rfl,hbb,hkk,h4.shape,⟨_,rfl⟩,⟨_,rfl⟩,⟨_,rfl⟩,⟨_,_,_,rfl⟩,fun w9 hb hs hz=>⟨hb,tv,ma,mc,rfl,TrO.keep (by omega) (fun b hb _=>⟨⟨Adg hA.size hb.1,hb.2⟩,fun o=>Adn (w:=w1) (a:=⟨b,o,none⟩) (hs b (by have:=hb.1;omega))⟩) h4,Aa (BN hA.size h5) fun g hg=>hs g (by have:=AN h5 g hg;omega)⟩⟩
theorem Qc (ext:Bool) (s:ByteArray) (k:Nat) (w:World) (hs:s.size≤4000000) (hk:k < s.size) (hG:Gl w) (hP:GP w) :
  Calls Tryz.prog 64 #[.string s,.int .i64 (k:Int),.bool ext] w (IJ w (EE ext s.data.toList k)):=by
 have hA:=(Adk w.heap.size w).alloc (Adf _) (.cells Gh 40);have hR0:=Blk.new w Gh 40 w.heap.size rfl;obtain ⟨W,hW⟩:∃ W,w.alloc (.cells Gh 40)=W:=⟨_,rfl⟩;rw [hW] at hA hR0;have hGW:=hG.up hA;have hPW:=hP.up hA;have HA:=Ac8 hA;have HR0:=Ac8 hR0;clear hA hR0 hG hP;obtain ⟨z0,z1,z2,z3,v0,v1,v2,v3,hz⟩:=Bd HR0.out;obtain ⟨k1,hk1⟩:∃ k1,k+1=k1:=⟨_,rfl⟩;have Wk:IntKind.i64.wrap ((k:Int)+1)=(k1:Int):=by rw [Adm _ (by omega)];omega
 have Wk2:IntKind.i64.wrap ((k:Int)+2)=((k+2:Nat):Int):=by rw [Adm _ (by omega)];omega
 unfold EE;rw [hk1];by_cases he:k1=s.size
 ·rw [Bl s k1 (by omega)]
  have hE:((k1:Int) == (s.size:Int))=true:=by simp [he]
  clear he hk1 hGW hPW;simp only;go_enter Tryz.func64,Tryz.ntmps64;go_wp2_with fail
  first
   | (with_reducible refine Cl HA.out HR0.out (Adf _) ?_;intro w9 hB9 hk9 hs9 hz9)
   | (have hB9:=HA.out;have hk9:=HR0.out;generalize W=w9 at *)
  clear z0 z1 z2 z3 v0 v1 v2 v3 hz;obtain ⟨z0,z1,z2,z3,_⟩:=Bd hk9;refine bodyPost_ret (v:=.tuple #[.agg Gh,.slice none 0 0,.int .i64 (k:Int),.int .i64 12]) (by simp [results,Tryz.results64,go_sem,z0,z1,z2,z3]) rfl ?_;exact ⟨hB9,rfl⟩
 ·have hlt:k1 < s.size:=by omega
  rw [Bh s k1 hlt];have hE:((k1:Int) == (s.size:Int))=false:=by simp;omega
  have hx0:(0:Int)≤(k1:Int):=by omega
  have hx1:(k1:Int) < (s.size:Int):=by omega
  simp only;generalize hx:s[k1]=x;by_cases h92:x=92
  ·rw [if_pos (.inl h92)]
   have q92:((s[k1].toNat:Int) == 92)=true:=by rw [hx,h92];rfl
   clear he hk1 hGW hPW hx h92;go_enter Tryz.func64,Tryz.ntmps64;go_wp2_with fail
   first
    | (with_reducible refine Cl HA.out HR0.out (Adf _) ?_;intro w9 hB9 hk9 hs9 hz9)
    | (have hB9:=HA.out;have hk9:=HR0.out;generalize W=w9 at *)
   clear z0 z1 z2 z3 v0 v1 v2 v3 hz;obtain ⟨z0,z1,z2,z3,_⟩:=Bd hk9;refine bodyPost_ret (v:=.tuple #[.agg Gh,.slice none 0 0,.int .i64 (k:Int),.int .i64 12]) (by simp [results,Tryz.results64,go_sem,z0,z1,z2,z3]) rfl ?_;exact ⟨hB9,rfl⟩
  ·have q92:((s[k1].toNat:Int) == 92)=false:=by rw [hx];exact Kj (n:=92) (by decide) h92
   by_cases h10:x=10
   ·rw [if_pos (.inr h10)]
    have q10:((s[k1].toNat:Int) == 10)=true:=by rw [hx,h10];rfl
    clear he hk1 hGW hPW hx h92 h10;go_enter Tryz.func64,Tryz.ntmps64;go_wp2_with fail
    first
     | (with_reducible refine Cl HA.out HR0.out (Adf _) ?_;intro w9 hB9 hk9 hs9 hz9)
     | (have hB9:=HA.out;have hk9:=HR0.out;generalize W=w9 at *)
    clear z0 z1 z2 z3 v0 v1 v2 v3 hz;obtain ⟨z0,z1,z2,z3,_⟩:=Bd hk9;refine bodyPost_ret (v:=.tuple #[.agg Gh,.slice none 0 0,.int .i64 (k:Int),.int .i64 12]) (by simp [results,Tryz.results64,go_sem,z0,z1,z2,z3]) rfl ?_;exact ⟨hB9,rfl⟩
   ·rw [if_neg (by intro h;exact h.elim h92 h10)]
    have q10:((s[k1].toNat:Int) == 10)=false:=by rw [hx];exact Kj (n:=10) (by decide) h10
    have hC:=Lz ext s (k+2) s[k1] W hs (by omega) hGW hPW;rw [hx] at hC;generalize Ec ext s.data.toList (k+2) x=R at hC ⊢;obtain ⟨xn,hxn⟩:∃ xn,x.toNat=xn:=⟨_,rfl⟩;have hxe:s[k1].toNat=xn:=by rw [hx,hxn]
    rw [hxn] at hC;have HX:=Ac8 hxe;clear he hk1 hGW hPW h92 h10 hxn hx hxe;go_enter Tryz.func64,Tryz.ntmps64;go_wp2_with (go_at_call 63;rw [HX.out];refine hC.mono ?_;clear hC;intro e w1 h;obtain ⟨k',l',t',v',mv,p',n',rfl,hb1,hk1,hsh,⟨ki,rfl⟩,⟨li,rfl⟩,⟨ti,rfl⟩,⟨a',m',c',rfl⟩,hF⟩:=IJ.hand HA.out HR0.out h;have HB1:=Ac8 hb1;have HK1:=Ac8 hk1;have HF:=Ac8 hF;clear h hb1 hk1 hF z0 z1 z2 z3 v0 v1 v2 v3 hz;obtain ⟨z0,z1,z2,z3,v0,v1,v2,v3,hz⟩:=Bd HK1.out;rcases hsh with ⟨T9,q9,rfl⟩ | rfl)
    all_goals
     with_reducible refine Cl HB1.out HK1.out (Adf _) ?_
     intro w9 hB9 hk9 hs9 hz9;clear z0 z1 z2 z3 v0 v1 v2 v3 hz;obtain ⟨z0,z1,z2,z3,_⟩:=Bd hk9;exact bodyPost_ret (by simp [results,Tryz.results64,go_sem,z0,z1,z2,z3]) rfl (HF.out w9 hB9 hs9 hz9)
end
section
open Go Go.RowKit
theorem Rv (ext second:Bool) (s:ByteArray) (k:Nat) (w:World) (hs:s.size≤4000000) (hk:k≤s.size) (hG:Gl w) (hP:GP w) :
  Calls Tryz.prog 40 #[.string s,.int .i64 (k:Int),.bool ext,.bool second] w (IJ w (EN ext second s.data.toList k)):=by
 have hA:=(Adk w.heap.size w).alloc (Adf _) (.cells Gh 40);have hR0:=Blk.new w Gh 40 w.heap.size rfl;obtain ⟨W,hW⟩:∃ W,w.alloc (.cells Gh 40)=W:=⟨_,rfl⟩;rw [hW] at hA hR0;have hGW:=hG.up hA;have hPW:=hP.up hA;have HA:=Ac8 hA;have HR0:=Ac8 hR0;clear hA hR0 hG hP;obtain ⟨z0,z1,z2,z3,v0,v1,v2,v3,hz⟩:=Bd HR0.out;have hx0:¬ (k:Int) < 0:=by omega
 have hx1:¬ (s.size:Int) < (k:Int):=by omega
 have Wk:IntKind.i64.wrap ((k:Int)+1)=((k+1:Nat):Int):=by rw [Adm _ (by omega)];omega
 have HW:=Ac8 hW;unfold EN;by_cases he:k=s.size
 ·rw [Bl s k (by omega)]
  have hE:((k:Int) == (s.size:Int))=true:=by simp [he]
  clear he hGW hPW;simp only;go_enter Tryz.func40,Tryz.ntmps40;go_wp2_with fail
  first
   | (with_reducible refine Cl HA.out HR0.out (Adf _) ?_;intro w9 hB9 hk9 hs9 hz9)
   | (have hB9:=HA.out;have hk9:=HR0.out;generalize W=w9 at *)
  clear z0 z1 z2 z3 v0 v1 v2 v3 hz;obtain ⟨z0,z1,z2,z3,_⟩:=Bd hk9;refine bodyPost_ret (v:=.tuple #[.agg Gh,.slice none 0 0,.int .i64 (k:Int),.int .i64 0]) (by simp [results,Tryz.results40,go_sem,z0,z1,z2,z3]) rfl ?_;exact ⟨hB9,.nilIface,none,0,rfl,rfl,World.ownsRow_nil _ _ _ _⟩
 ·have hlt:k < s.size:=by omega
  rw [Bh s k hlt];have hE:((k:Int) == (s.size:Int))=false:=by simp;omega
  have hy0:(0:Int)≤(k:Int):=by omega
  have hy1:(k:Int) < (s.size:Int):=by omega
  simp only;have hl:=Tv s k W hs hk;have hp:=Tw s k W hs hlt;have hd:=Qc ext s k W hs hlt hGW hPW;have hr:=Lz ext s (k+1) s[k] W hs (by omega) hGW hPW;clear hGW hPW he;by_cases hdg:48≤s[k].toNat∧s[k].toNat≤57
  ·rw [if_pos hdg]
   have d1:(48:Int)≤(s[k].toNat:Int):=by omega
   have d2:(s[k].toNat:Int)≤57:=by omega
   have hC:=hl;clear hdg hl hp hd hr;generalize Dl s.data.toList k=R at hC ⊢;go_enter Tryz.func40,Tryz.ntmps40;go_wp2_with (go_at_call 62;refine hC.mono ?_;clear hC;intro e w1 h;obtain ⟨k',l',t',v',mv,p',n',rfl,hb1,hk1,hsh,⟨ki,rfl⟩,⟨li,rfl⟩,⟨ti,rfl⟩,⟨a',m',c',rfl⟩,hF⟩:=IJ.hand HA.out HR0.out h;have HB1:=Ac8 hb1;have HK1:=Ac8 hk1;have HF:=Ac8 hF;clear h hb1 hk1 hF z0 z1 z2 z3 v0 v1 v2 v3 hz;obtain ⟨z0,z1,z2,z3,v0,v1,v2,v3,hz⟩:=Bd HK1.out;rcases hsh with ⟨T9,q9,rfl⟩ | rfl)
   all_goals
    with_reducible refine Cl HB1.out HK1.out (Adf _) ?_
    intro w9 hB9 hk9 hs9 hz9;clear z0 z1 z2 z3 v0 v1 v2 v3 hz;obtain ⟨z0,z1,z2,z3,_⟩:=Bd hk9;exact bodyPost_ret (by simp [results,Tryz.results40,go_sem,z0,z1,z2,z3]) rfl (HF.out w9 hB9 hs9 hz9)
  ·rw [if_neg hdg]
   have hD:=Ac8 (show (48:Int)≤(s[k].toNat:Int)→¬ (s[k].toNat:Int)≤57 from fun a b=>hdg ⟨by omega,by omega⟩);clear hdg hl;have hdig:(¬ (48:Int)≤(s[k].toNat:Int))∨((48:Int)≤(s[k].toNat:Int)∧¬ (s[k].toNat:Int)≤57):=by
    by_cases h:(48:Int)≤(s[k].toNat:Int)
    ·exact .inr ⟨h,hD.out h⟩
    ·exact .inl h
   clear hD;by_cases h36:s[k]=36
   ·rw [if_pos h36]
    have q36:((s[k].toNat:Int) == 36)=true:=by rw [h36];rfl
    clear h36 hp hd hr;rcases hdig with d1 | ⟨d1,d2⟩
    all_goals
     go_enter Tryz.func40,Tryz.ntmps40;go_wp2_with fail
     first
      | (with_reducible refine Cl HA.out HR0.out (Adf _) ?_;intro w9 hB9 hk9 hs9 hz9)
      | (have hB9:=HA.out;have hk9:=HR0.out;generalize W=w9 at *)
     clear z0 z1 z2 z3 v0 v1 v2 v3 hz;obtain ⟨z0,z1,z2,z3,_⟩:=Bd hk9;refine bodyPost_ret (v:=.tuple #[.agg #[.int .i64 2,.int .i64 0,.string ⟨#[]⟩,.nilIface],.slice none 0 0,.int .i64 ((k+1:Nat):Int),.int .i64 0]) (by simp [results,Tryz.results40,go_sem,z0,z1,z2,z3]) rfl ?_;exact ⟨hB9,.nilIface,none,0,rfl,rfl,World.ownsRow_nil _ _ _ _⟩
   ·rw [if_neg h36]
    have q36:((s[k].toNat:Int) == 36)=false:=Kj (n:=36) (by decide) h36;clear h36;by_cases h47:s[k]=47
    ·rw [if_pos h47]
     have q47:((s[k].toNat:Int) == 47)=true:=by rw [h47];rfl
     have hC:Calls Tryz.prog 63 #[.string s,.int .i64 ((k+1:Nat):Int),.int .u8 s[k].toNat,.bool ext] W (IJ W (Ec ext s.data.toList (k+1) 47)):=by
      have h:=hr;rw [show Ec ext s.data.toList (k+1) s[k]=Ec ext s.data.toList (k+1) 47 by rw [h47]] at h;exact h
     clear h47 hp hd hr;generalize Ec ext s.data.toList (k+1) 47=R at hC ⊢;rcases hdig with d1 | ⟨d1,d2⟩
     all_goals
      go_enter Tryz.func40,Tryz.ntmps40;go_wp2_with (go_at_call 63;refine hC.mono ?_;clear hC;intro e w1 h;obtain ⟨k',l',t',v',mv,p',n',rfl,hb1,hk1,hsh,⟨ki,rfl⟩,⟨li,rfl⟩,⟨ti,rfl⟩,⟨a',m',c',rfl⟩,hF⟩:=IJ.hand HA.out HR0.out h;have HB1:=Ac8 hb1;have HK1:=Ac8 hk1;have HF:=Ac8 hF;clear h hb1 hk1 hF z0 z1 z2 z3 v0 v1 v2 v3 hz;obtain ⟨z0,z1,z2,z3,v0,v1,v2,v3,hz⟩:=Bd HK1.out;rcases hsh with ⟨T9,q9,rfl⟩ | rfl)
      all_goals
       with_reducible refine Cl HB1.out HK1.out (Adf _) ?_
       intro w9 hB9 hk9 hs9 hz9;clear z0 z1 z2 z3 v0 v1 v2 v3 hz;obtain ⟨z0,z1,z2,z3,_⟩:=Bd hk9;exact bodyPost_ret (by simp [results,Tryz.results40,go_sem,z0,z1,z2,z3]) rfl (HF.out w9 hB9 hs9 hz9)
    ·rw [if_neg h47]
     have q47:((s[k].toNat:Int) == 47)=false:=Kj (n:=47) (by decide) h47;clear h47 hr;by_cases h92:s[k]=92
     ·rw [if_pos h92]
      have q92:((s[k].toNat:Int) == 92)=true:=by rw [h92];rfl
      have hC:=hd;clear h92 hp hd;generalize EE ext s.data.toList k=R at hC ⊢;rcases hdig with d1 | ⟨d1,d2⟩
      all_goals
       go_enter Tryz.func40,Tryz.ntmps40;go_wp2_with (go_at_call 64;refine hC.mono ?_;clear hC;intro e w1 h;obtain ⟨k',l',t',v',mv,p',n',rfl,hb1,hk1,hsh,⟨ki,rfl⟩,⟨li,rfl⟩,⟨ti,rfl⟩,⟨a',m',c',rfl⟩,hF⟩:=IJ.hand HA.out HR0.out h;have HB1:=Ac8 hb1;have HK1:=Ac8 hk1;have HF:=Ac8 hF;clear h hb1 hk1 hF z0 z1 z2 z3 v0 v1 v2 v3 hz;obtain ⟨z0,z1,z2,z3,v0,v1,v2,v3,hz⟩:=Bd HK1.out;rcases hsh with ⟨T9,q9,rfl⟩ | rfl)
       all_goals
        with_reducible refine Cl HB1.out HK1.out (Adf _) ?_
        intro w9 hB9 hk9 hs9 hz9;clear z0 z1 z2 z3 v0 v1 v2 v3 hz;obtain ⟨z0,z1,z2,z3,_⟩:=Bd hk9;exact bodyPost_ret (by simp [results,Tryz.results40,go_sem,z0,z1,z2,z3]) rfl (HF.out w9 hB9 hs9 hz9)
     ·rw [if_neg h92]
      have q92:((s[k].toNat:Int) == 92)=false:=Kj (n:=92) (by decide) h92;clear h92 hd;by_cases h43:s[k]=43
      ·have q43:((s[k].toNat:Int) == 43)=true:=by rw [h43];rfl
       cases second with
       | true=>
        rw [if_pos ⟨h43,rfl⟩];have hC:=hp;clear h43 hp;generalize Dm s.data.toList k=R at hC ⊢;rcases hdig with d1 | ⟨d1,d2⟩
        all_goals
         go_enter Tryz.func40,Tryz.ntmps40;go_wp2_with (go_at_call 65;refine hC.mono ?_;clear hC;intro e w1 h;obtain ⟨k',l',t',v',mv,p',n',rfl,hb1,hk1,hsh,⟨ki,rfl⟩,⟨li,rfl⟩,⟨ti,rfl⟩,⟨a',m',c',rfl⟩,hF⟩:=IJ.hand HA.out HR0.out h;have HB1:=Ac8 hb1;have HK1:=Ac8 hk1;have HF:=Ac8 hF;clear h hb1 hk1 hF z0 z1 z2 z3 v0 v1 v2 v3 hz;obtain ⟨z0,z1,z2,z3,v0,v1,v2,v3,hz⟩:=Bd HK1.out;rcases hsh with ⟨T9,q9,rfl⟩ | rfl)
         all_goals
          with_reducible refine Cl HB1.out HK1.out (Adf _) ?_
          intro w9 hB9 hk9 hs9 hz9;clear z0 z1 z2 z3 v0 v1 v2 v3 hz;obtain ⟨z0,z1,z2,z3,_⟩:=Bd hk9;exact bodyPost_ret (by simp [results,Tryz.results40,go_sem,z0,z1,z2,z3]) rfl (HF.out w9 hB9 hs9 hz9)
       | false=>
        rw [if_neg (by simp)];clear h43 hp;rcases hdig with d1 | ⟨d1,d2⟩
        all_goals
         go_enter Tryz.func40,Tryz.ntmps40;go_wp2_with fail
         first
          | (with_reducible refine Cl HA.out HR0.out (Adf _) ?_;intro w9 hB9 hk9 hs9 hz9)
          | (have hB9:=HA.out;have hk9:=HR0.out;generalize W=w9 at *)
         clear z0 z1 z2 z3 v0 v1 v2 v3 hz;obtain ⟨z0,z1,z2,z3,_⟩:=Bd hk9;refine bodyPost_ret (v:=.tuple #[.agg Gh,.slice none 0 0,.int .i64 (k:Int),.int .i64 0]) (by simp [results,Tryz.results40,go_sem,z0,z1,z2,z3]) rfl ?_;exact ⟨hB9,.nilIface,none,0,rfl,rfl,World.ownsRow_nil _ _ _ _⟩
      ·rw [if_neg (fun h=>h43 h.1)]
       have q43:((s[k].toNat:Int) == 43)=false:=Kj (n:=43) (by decide) h43;clear h43 hp;rcases hdig with d1 | ⟨d1,d2⟩
       all_goals
        go_enter Tryz.func40,Tryz.ntmps40;go_wp2_with fail
        first
         | (with_reducible refine Cl HA.out HR0.out (Adf _) ?_;intro w9 hB9 hk9 hs9 hz9)
         | (have hB9:=HA.out;have hk9:=HR0.out;generalize W=w9 at *)
        clear z0 z1 z2 z3 v0 v1 v2 v3 hz;obtain ⟨z0,z1,z2,z3,_⟩:=Bd hk9;refine bodyPost_ret (v:=.tuple #[.agg Gh,.slice none 0 0,.int .i64 (k:Int),.int .i64 0]) (by simp [results,Tryz.results40,go_sem,z0,z1,z2,z3]) rfl ?_;exact ⟨hB9,.nilIface,none,0,rfl,rfl,World.ownsRow_nil _ _ _ _⟩
end
section
open Go Go.RowKit
theorem VT (l:List UInt8) (b:UInt8):Lib.hasPrefix l [b]=decide (l.head?=some b):=by
 cases l with
 | nil=>rfl
 | cons c l=>
  show (b == c && List.isPrefixOf [] l)=decide (some c=some b);by_cases h:c=b
  ·rw [h];simp
  ·rw [decide_eq_false (by simpa using h),beq_eq_false_iff_ne.2 (Ne.symm h)]
   rfl
theorem MH (s:ByteArray) (k:Nat) (b:UInt8) (w:World):Calls Tryz.prog 23 #[.string (s.extract k s.size),.string ⟨#[b]⟩] w fun e w'=>e=.returned (.bool (decide ((s.data.toList.drop k).head?=some b)))∧w=w':=by
 have h:=Ck (s.extract k s.size) ⟨#[b]⟩ w;rw [BX,show (⟨#[b]⟩:ByteArray).data.toList=[b] from rfl,VT] at h;exact h
theorem Jf (s:ByteArray) (k:Nat) (w:World) (hs:s.size≤4000000) (hk:k≤s.size) :
  Calls Tryz.prog 66 #[.string s,.int .i64 (k:Int)] w fun e w'=>e=.returned (.int .i64 (Ak s.data.toList k:Int))∧Below w.heap.size w w':=by
 have h:=IA s k w hs;rw [Du _ _ _ (by rw [←Ad];exact hk)] at h;exact h
theorem E0 (s:ByteArray) (k:Nat) (hk:k≤s.size):Ak s.data.toList k≤s.size:=by
 have:=(F6 s.data.toList k (by rw [←Ad];exact hk)).2;rw [Ad];exact this
theorem Gd {s:ByteArray} {k:Nat} {b:UInt8} (h:(s.data.toList.drop k).head?=some b):k < s.size:=by
 by_cases hk:k < s.size
 ·exact hk
 ·rw [Bl s k (by omega)] at h;cases h
theorem Om (s:ByteArray) (k:Nat) (w:World) (hs:s.size≤4000000) (hk:k≤s.size) :
  Calls Tryz.prog 42 #[.string s,.int .i64 (k:Int)] w fun e w'=>Below w.heap.size w w'∧e=match Cw s.data.toList k with
   | .error q=>.returned (.tuple #[.bool false,.int .i64 (q.2:Int),.int .i64 (q.1:Int)])
   | .ok q=>.returned (.tuple #[.bool q.1,.int .i64 (q.2:Int),.int .i64 0]):=by
 have hB:=Jf s k w hs hk;have hble:=E0 s k hk;unfold Cw;obtain ⟨b,hb⟩:∃ b,Ak s.data.toList k=b:=⟨_,rfl⟩;rw [hb] at hB hble ⊢;have hx0:(0:Int)≤(b:Int):=by omega
 have hx1:(b:Int)≤(s.size:Int):=by omega
 have hpf:=fun w=>MH s b 33 w
 clear hb;by_cases h33:(s.data.toList.drop b).head?=some 33
 ·rw [if_pos h33]
  have hlt:=Gd h33;rw [decide_eq_true h33] at hpf;obtain ⟨b1,hb1⟩:∃ b1,b+1=b1:=⟨_,rfl⟩;rw [hb1];have Wb:IntKind.i64.wrap ((b:Int)+1)=(b1:Int):=by rw [Adm _ (by omega)];omega
  have hB2:=fun w=>Jf s b1 w hs (by omega)
  have hble2:=E0 s b1 (by omega);obtain ⟨c,hc⟩:∃ c,Ak s.data.toList b1=c:=⟨_,rfl⟩;rw [hc] at hB2 hble2 ⊢;have hy0:(0:Int)≤(c:Int):=by omega
  have hy1:(c:Int)≤(s.size:Int):=by omega
  have hpf2:=fun w=>MH s c 33 w
  have hbc:b≠c:=by
   have:=(F6 s.data.toList b1 (by rw [←Ad];omega)).1;omega
  clear hc hb1 h33 hlt;by_cases h33':(s.data.toList.drop c).head?=some 33
  ·rw [if_pos h33']
   rw [decide_eq_true h33'] at hpf2;clear h33';go_enter Tryz.func42,Tryz.ntmps42;go_upto_region 2 with (go_at_call 66;refine hB.mono ?_;clear hB;rintro e w1 ⟨rfl,b1'⟩;have B1:=Ac8 b1';clear b1')
   go_upto_region 4 with (go_at_call 23;go_loud (refine (hpf _).mono ?_;clear hpf;rintro e w2 ⟨rfl,rfl⟩))
   go_upto_region 5 with (go_at_call 66;refine (hB2 _).mono ?_;clear hB2;rintro e w3 ⟨rfl,b3⟩;have B3:=Ac8 b3;clear b3)
   go_wp2_with (go_at_call 23;refine (hpf2 _).mono ?_;clear hpf2;rintro e w4 ⟨rfl,rfl⟩)
   go_ret3
   exact ⟨B1.out.trans (B3.out.mono B1.out.size),rfl⟩
  ·rw [if_neg h33']
   rw [decide_eq_false h33'] at hpf2;clear h33';go_enter Tryz.func42,Tryz.ntmps42;go_upto_region 2 with (go_at_call 66;refine hB.mono ?_;clear hB;rintro e w1 ⟨rfl,b1'⟩;have B1:=Ac8 b1';clear b1')
   go_upto_region 4 with (go_at_call 23;go_loud (refine (hpf _).mono ?_;clear hpf;rintro e w2 ⟨rfl,rfl⟩))
   go_upto_region 5 with (go_at_call 66;refine (hB2 _).mono ?_;clear hB2;rintro e w3 ⟨rfl,b3⟩;have B3:=Ac8 b3;clear b3)
   go_wp2_with (go_at_call 23;refine (hpf2 _).mono ?_;clear hpf2;rintro e w4 ⟨rfl,rfl⟩)
   go_ret3
   exact ⟨B1.out.trans (B3.out.mono B1.out.size),rfl⟩
 ·rw [if_neg h33]
  rw [decide_eq_false h33] at hpf;clear h33;go_enter Tryz.func42,Tryz.ntmps42;go_wp2_with (first
   | (go_at_call 66;refine hB.mono ?_;clear hB;rintro e w1 ⟨rfl,b1'⟩;have B1:=Ac8 b1';clear b1')
   | (go_at_call 23;refine (hpf _).mono ?_;clear hpf;rintro e w2 ⟨rfl,rfl⟩))
  go_ret3
  exact ⟨B1.out,rfl⟩
end
section
open Go Go.RowKit
theorem Qd {L:List UInt8} {k:Nat} {q:Nat × Nat} (h:Dl L k=.error q):q.1≠0:=by
 unfold Dl at h;simp only at h;split at h
 ·split at h
  ·injection h with h;rw [←h];exact Nat.succ_ne_zero _
  ·cases h
 ·rename_i he
  injection h with h;rw [←h];exact he
theorem Qe {L:List UInt8} {k:Nat} {q:Nat × Nat} (h:Dm L k=.error q):q.1≠0:=by
 unfold Dm at h;simp only at h;split at h
 ·cases h
 ·rename_i he
  injection h with h;rw [←h];exact he
theorem On {ext:Bool} {L:List UInt8} {k:Nat} {d:UInt8} {q:Nat × Nat} (h:Ec ext L k d=.error q):q.1≠0:=by
 unfold Ec at h;split at h
 ·rename_i he
  injection h with h;rw [←h];exact EL he
 ·cases h
theorem Tx {ext:Bool} {L:List UInt8} {k:Nat} {q:Nat × Nat} (h:EE ext L k=.error q):q.1≠0:=by
 unfold EE at h;split at h
 ·injection h with h;rw [←h];exact Nat.succ_ne_zero _
 ·split at h
  ·injection h with h;rw [←h];exact Nat.succ_ne_zero _
  ·exact On h
theorem Jg {ext second:Bool} {L:List UInt8} {k:Nat} {q:Nat × Nat} (h:EN ext second L k=.error q):q.1≠0:=by
 unfold EN at h;split at h
 ·cases h
 ·split at h
  ·exact Qd h
  ·split at h
   ·cases h
   ·split at h
    ·exact On h
    ·split at h
     ·exact Tx h
     ·split at h
      ·exact Qe h
      ·cases h
theorem L0 {ext:Bool} {L:List UInt8} {k:Nat} {q:Nat × Nat} (h:BY ext L k=.error q):q.1≠0:=by
 unfold BY Et at h;split at h
 ·split at h
  ·rename_i he
   injection h with h;rw [←h];exact Jg he
  ·split at h
   ·injection h with h;rw [←h];exact Nat.succ_ne_zero _
   ·cases h
 ·cases h
theorem Kk {ext:Bool} {L:List UInt8} {b:Nat} {d:UInt8} {q:(List UInt8 × Nd) × List Wm × Nat} (hb:b≤L.length) (h:At ext L b d=.ok q):q.2.2≤L.length∧q.2.1.length≤250:=by
 unfold At at h;simp only at h;split at h
 ·split at h
  ·cases h
  ·split at h
   ·cases h
   ·rename_i hp
    injection h with h;subst h;refine ⟨?_,?_⟩
    ·show (Aj L b d true).2.1≤_
     unfold Aj;rw [Dq _ _ _ _ hb];exact J7 d true L _ _ _ hb
    ·show (Ce _ _).length≤_
     rw [JK,List.length_map];rename_i q';have h1:=Lf (st:=q'.1) (d:=q'.2) hp;unfold AY at hp;split at hp
     ·cases hp
     ·omega
 ·cases h
theorem Rw {ext:Bool} {L:List UInt8} {b:Nat} {d:UInt8} {q:Adr × List Wm × Nat} (hb:b≤L.length) (h:Ec ext L b d=.ok q):q.2.2≤L.length∧q.2.1.length≤251:=by
 unfold Ec at h;split at h
 ·cases h
 ·rename_i hp
  injection h with h;subst h;have:=Kk hb hp;exact ⟨this.1,Nat.le_succ_of_le this.2⟩
theorem YR {ext second:Bool} {L:List UInt8} {k:Nat} {q:Adr × List Wm × Nat} (hk:k≤L.length) (h:EN ext second L k=.ok q):q.2.2≤L.length∧q.2.1.length≤251:=by
 unfold EN at h;split at h
 ·injection h with h;subst h;exact ⟨hk,by simp⟩
 ·rename_i c t hd
  have hlt:k < L.length:=by
   by_cases e:k < L.length
   ·exact e
   ·rw [List.drop_eq_nil_of_le (by omega)] at hd;cases hd
  split at h
  ·unfold Dl at h
   simp only at h;split at h
   ·split at h
    ·cases h
    ·injection h with h;subst h;exact ⟨(EF L k hk).2,by simp⟩
   ·cases h
  ·split at h
   ·injection h with h;subst h;exact ⟨by show k+1≤_;omega,by simp⟩
   ·split at h
    ·exact Rw (by omega) h
    ·split at h
     ·unfold EE at h
      split at h
      ·cases h
      ·rename_i x t2 hd2
       have:k+1 < L.length:=by
        by_cases e:k+1 < L.length
        ·exact e
        ·rw [List.drop_eq_nil_of_le (by omega)] at hd2;cases hd2
       split at h
       ·cases h
       ·exact Rw (by omega) h
     ·split at h
      ·unfold Dm at h
       simp only at h;split at h
       ·injection h with h;subst h;exact ⟨(EF L (k+1) (by omega)).2,by simp⟩
       ·cases h
      ·injection h with h;subst h;exact ⟨hk,by simp⟩
theorem MI {ext second:Bool} {k:Nat} {q:Adr × List Wm × Nat} (s:ByteArray) (hk:k≤s.size) (h:EN ext second s.data.toList k=.ok q):q.2.2≤s.size∧q.2.1.length≤251:=by
 have:=YR (by rw [←Ad];exact hk) h;rw [←Ad] at this;exact this
theorem VU {ext:Bool} {k:Nat} {q:Adr × List Wm × Nat} (s:ByteArray) (hk:k≤s.size) (h:BY ext s.data.toList k=.ok q):q.2.2≤s.size∧q.2.1.length≤251:=by
 unfold BY at h;split at h
 ·rename_i h44
  have h1:=E0 s k hk;have h2:=Gd h44;have h3:=E0 s (Ak s.data.toList k+1) (by omega);unfold Et at h;split at h
  ·cases h
  ·rename_i he
   split at h
   ·cases h
   ·injection h with h
    subst h;exact MI s h3 he
 ·injection h with h
  subst h;exact ⟨hk,by simp⟩
theorem Kl {B:Nat} {w:World} {e:TypeId} {size n:Nat} {v:Value} {us:List Value} (h:w.ownsRow B e size v n us) (g:Nat) (hg:v.ownBlock=some g):g < w.heap.size:=AA h g hg
theorem IJ.mk' {w w9:World} {A:BG Adr} {kd ln p:Nat} {tx:List UInt8} {tr:Option Nd} {ms:List Wm} {tv:Value} {ma:Option Addr} {mc:Nat} (hE:(.ok (⟨kd,ln,tx,tr⟩,ms,p):BG Adr)=A) (h1:Below w.heap.size w w9) (h2:TrO (fun b=>w.heap.size≤b∧(Value.slice ma ms.length mc).ownBlock≠some b) w9 tr tv)
  (h3:w9.ownsRow w.heap.size 33 2 (.slice ma ms.length mc) ms.length (wmC ms)):IJ w A (.returned (.tuple #[.agg #[.int .i64 (kd:Int),.int .i64 (ln:Int),.string (txt tx),tv],.slice ma ms.length mc,.int .i64 (p:Int),.int .i64 0])) w9:=by
 subst hE;exact ⟨h1,tv,ma,mc,rfl,h2,h3⟩
theorem VV (ext:Bool) (s:ByteArray) (k:Nat) (w:World) (hs:s.size≤4000000) (hk:k≤s.size) (hG:Gl w) (hP:GP w) :
  Calls Tryz.prog 41 #[.string s,.int .i64 (k:Int),.bool ext] w (IJ w (BY ext s.data.toList k)):=by
 have hA:=(Adk w.heap.size w).alloc (Adf _) (.cells Gh 40);have hR0:=Blk.new w Gh 40 w.heap.size rfl;obtain ⟨W,hW⟩:∃ W,w.alloc (.cells Gh 40)=W:=⟨_,rfl⟩;rw [hW] at hA hR0;have hB:=Jf s k W hs hk;have hble:=E0 s k hk;unfold BY;obtain ⟨b,hb⟩:∃ b,Ak s.data.toList k=b:=⟨_,rfl⟩;rw [hb] at hB hble ⊢;have hx0:(0:Int)≤(b:Int):=by omega
 have hx1:(b:Int)≤(s.size:Int):=by omega
 have hpf:=fun w=>MH s b 44 w
 have hGW:=hG.up hA;have hPW:=hP.up hA;have HA:=Ac8 hA;have HR0:=Ac8 hR0;clear hb hA hR0 hG hP;obtain ⟨z0,z1,z2,z3,v0,v1,v2,v3,hz⟩:=Bd HR0.out;by_cases h44:(s.data.toList.drop b).head?=some 44
 ·rw [if_pos h44]
  have hlt:=Gd h44;rw [decide_eq_true h44] at hpf;obtain ⟨b1,hb1⟩:∃ b1,b+1=b1:=⟨_,rfl⟩;rw [hb1];have Wb:IntKind.i64.wrap ((b:Int)+1)=(b1:Int):=by rw [Adm _ (by omega)];omega
  have hB2:=fun w=>Jf s b1 w hs (by omega)
  have hble2:=E0 s b1 (by omega);obtain ⟨c,hc⟩:∃ c,Ak s.data.toList b1=c:=⟨_,rfl⟩;rw [hc] at hB2 hble2 ⊢;have hAd:=fun (w':World) (hb:Below W.heap.size W w')=>Rv ext true s c w' hs hble2 (hGW.up hb) (hPW.up hb)
  have hwe:∀ q,EN ext true s.data.toList c=.error q→q.1≠0:=fun q h=>Jg h
  generalize EN ext true s.data.toList c=R at hAd hwe ⊢;obtain ⟨A,hans⟩:∃ A,Et c R=A:=⟨_,rfl⟩;rw [hans];have HAN:=Ac8 hans;have HAd:=Ac8 hAd;clear hans;clear hc hb1 h44 hlt hGW hPW hAd;go_enter Tryz.func41,Tryz.ntmps41;go_upto_region 2 with (go_at_call 66;refine hB.mono ?_;clear hB;rintro e w1 ⟨rfl,b1'⟩;have B1:=Ac8 b1';clear b1')
  go_upto_region 4 with (go_at_call 23;refine (hpf _).mono ?_;clear hpf;rintro e w2 ⟨rfl,rfl⟩)
  go_upto_region 5 with (go_at_call 66;refine (hB2 _).mono ?_;clear hB2;rintro e w3 ⟨rfl,b3⟩;have B3:=Ac8 (B1.out.trans (b3.mono B1.out.size));clear b3)
  have A3:=Ac8 (HA.out.trans (B3.out.mono HA.out.size));have K3:=Ac8 (HR0.out.below B3.out HR0.out.lt);have hC:=HAd.out _ B3.out;clear z0 z1 z2 z3 v0 v1 v2 v3 hz;obtain ⟨z0,z1,z2,z3,v0,v1,v2,v3,hz⟩:=Bd K3.out;cases R with
  | error q=>
   obtain ⟨n,p⟩:=q;have hn:n≠0:=hwe _ rfl;have hnn:((n:Int) == 0)=false:=by simp;omega
   have HAE:=Ac8 (show (.error (n,p):BG Adr)=A from HAN.out);clear hwe hn;go_upto_region 6 with (go_at_call 40;refine hC.mono ?_;clear hC;rintro e w4 ⟨b4,rfl⟩;have B4:=Ac8 (A3.out.trans (b4.mono A3.out.size));have K4:=Ac8 (K3.out.below b4 K3.out.lt);clear b4 z0 z1 z2 z3 v0 v1 v2 v3 hz)
   have hlt4:=K4.out.lt;generalize hW5:w4.alloc _=w5;have hb5:=Ac hW5;have hX:=Ae hW5;have B5:=Ac8 (B4.out.trans (hb5.mono B4.out.size));have K5:=Ac8 (K4.out.below hb5 hlt4);obtain ⟨x0,x1,x2,x3,_,_,_,_,hxl⟩:=Bd hX;obtain ⟨z0,z1,z2,z3,v0,v1,v2,v3,hz⟩:=Bd K5.out;clear hb5 hX hW5;go_wp2_with fail
   first
    | (with_reducible refine Cl B5.out K5.out (Adf _) ?_;intro w9 hB9 hk9 hs9 hz9)
    | (have hB9:=B5.out;have hk9:=K5.out;generalize w5=w9 at *)
   clear z0 z1 z2 z3 v0 v1 v2 v3 hz;obtain ⟨z0,z1,z2,z3,_⟩:=Bd hk9;refine bodyPost_ret (v:=.tuple #[.agg Gh,.slice none 0 0,.int .i64 (p:Int),.int .i64 (n:Int)]) (by simp [results,Tryz.results41,go_sem,z0,z1,z2,z3]) rfl ?_;rw [←HAE.out];exact ⟨hB9,rfl⟩
  | ok q=>
   obtain ⟨⟨kd,ln,tx,tr⟩,ms,p⟩:=q;clear hwe;have hC:Calls Tryz.prog 40 #[.string s,.int .i64 (c:Int),.bool ext,.bool true] w3 fun e w'=>IJ w3 (.ok (⟨kd,ln,tx,tr⟩,ms,p)) e w':=hC
   simp only [IJ] at hC;by_cases hkd:kd=0
   ·subst hkd
    have HAE:=Ac8 (show (.error (12,c):BG Adr)=A from HAN.out);go_upto_region 6 with (go_at_call 40;refine hC.mono ?_;clear hC;rintro e w4 ⟨b4,tv,ma,mc,rfl,ht,_⟩;have hsh:=ht.shape;have B4:=Ac8 (A3.out.trans (b4.mono A3.out.size));have K4:=Ac8 (K3.out.below b4 K3.out.lt);clear b4 ht z0 z1 z2 z3 v0 v1 v2 v3 hz;rcases hsh with ⟨T9,q9,rfl⟩ | rfl)
    all_goals
     have hlt4:=K4.out.lt;generalize hW5:w4.alloc _=w5;have hb5:=Ac hW5;have hX:=Ae hW5;have B5:=Ac8 (B4.out.trans (hb5.mono B4.out.size));have K5:=Ac8 (K4.out.below hb5 hlt4);obtain ⟨x0,x1,x2,x3,_,_,_,_,hxl⟩:=Bd hX;obtain ⟨z0,z1,z2,z3,v0,v1,v2,v3,hz⟩:=Bd K5.out;clear hb5 hX hW5;go_wp2_with fail
     first
      | (with_reducible refine Cl B5.out K5.out (Adf _) ?_;intro w9 hB9 hk9 hs9 hz9)
      | (have hB9:=B5.out;have hk9:=K5.out;generalize w5=w9 at *)
     clear z0 z1 z2 z3 v0 v1 v2 v3 hz;obtain ⟨z0,z1,z2,z3,_⟩:=Bd hk9;refine bodyPost_ret (v:=.tuple #[.agg Gh,.slice none 0 0,.int .i64 (c:Int),.int .i64 12]) (by simp [results,Tryz.results41,go_sem,z0,z1,z2,z3]) rfl ?_;rw [←HAE.out];exact ⟨hB9,rfl⟩
   ·have hkk:((kd:Int) == 0)=false:=by simp;omega
    have HAE:=Ac8 (show (.ok (⟨kd,ln,tx,tr⟩,ms,p):BG Adr)=A from (if_neg hkd).symm.trans HAN.out);clear hkd;go_upto_region 6 with (go_at_call 40;refine hC.mono ?_;clear hC;rintro e w4 ⟨b4,tv,ma,mc,rfl,ht,hm⟩;have hsh:=ht.shape;have HT4:=Ac8 ht;have HM4:=Ac8 hm;have B4:=Ac8 (A3.out.trans (b4.mono A3.out.size));have K4:=Ac8 (K3.out.below b4 K3.out.lt);clear b4 ht hm z0 z1 z2 z3 v0 v1 v2 v3 hz;rcases hsh with ⟨T9,q9,rfl⟩ | rfl)
    all_goals
     have hlt4:=K4.out.lt;generalize hW5:w4.alloc _=w5;have hb5:=Ac hW5;have hX:=Ae hW5;have B5:=Ac8 (B4.out.trans (hb5.mono B4.out.size));have K5:=Ac8 (K4.out.below hb5 hlt4);have HT5:=Ac8 (TrO.below hb5 HT4.out);have HM5:=Ac8 (Ag HM4.out hb5);have Hlt:=Ac8 K3.out.lt;obtain ⟨x0,x1,x2,x3,_,_,_,_,hxl⟩:=Bd hX;obtain ⟨z0,z1,z2,z3,v0,v1,v2,v3,hz⟩:=Bd K5.out;clear hb5 hX hW5;go_wp2_with fail
     with_reducible refine Cl B5.out K5.out (Adf _) ?_
     intro w9 hB9 hk9 hs9 hz9;clear z0 z1 z2 z3 v0 v1 v2 v3 hz;obtain ⟨z0,z1,z2,z3,_⟩:=Bd hk9;have hfin:=IJ.mk' HAE.out hB9 (TrO.keep (by omega) (fun b hb _=>⟨⟨Adg A3.out.size hb.1,hb.2⟩,fun o=>Adn (w:=w5) (a:=⟨b,o,none⟩) (hs9 b (by have:=Hlt.out;have:=hb.1;omega))⟩) HT5.out) (Aa (BN A3.out.size HM5.out) fun g hg=>hs9 g (by have:=AN HM5.out g hg;have:=Hlt.out;omega));exact bodyPost_ret (by simp [results,Tryz.results41,go_sem,z0,z1,z2,z3]) rfl hfin
 ·rw [if_neg h44]
  rw [decide_eq_false h44] at hpf;clear h44 hGW hPW;go_enter Tryz.func41,Tryz.ntmps41;go_wp2_with (first
   | (go_at_call 66;refine hB.mono ?_;clear hB;rintro e w1 ⟨rfl,b1'⟩;have B1:=Ac8 (HA.out.trans (b1'.mono HA.out.size));have K1:=Ac8 (HR0.out.below b1' HR0.out.lt);clear b1' z0 z1 z2 z3 v0 v1 v2 v3 hz;obtain ⟨z0,z1,z2,z3,v0,v1,v2,v3,hz⟩:=Bd K1.out)
   | (go_at_call 23;refine (hpf _).mono ?_;clear hpf;rintro e w2 ⟨rfl,rfl⟩))
  first
   | (with_reducible refine Cl B1.out K1.out (Adf _) ?_;intro w9 hB9 hk9 hs9 hz9)
   | (have hB9:=B1.out;have hk9:=K1.out;generalize w1=w9 at *)
  clear z0 z1 z2 z3 v0 v1 v2 v3 hz;obtain ⟨z0,z1,z2,z3,_⟩:=Bd hk9;refine bodyPost_ret (v:=.tuple #[.agg Gh,.slice none 0 0,.int .i64 (k:Int),.int .i64 0]) (by simp [results,Tryz.results41,go_sem,z0,z1,z2,z3]) rfl ?_;exact ⟨hB9,.nilIface,none,0,rfl,rfl,World.ownsRow_nil _ _ _ _⟩
end
end Go.Proofs.YteilldmmihiijaaGreatDoor
