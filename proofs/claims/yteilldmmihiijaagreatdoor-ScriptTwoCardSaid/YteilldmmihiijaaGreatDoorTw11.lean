/- Texts. -/
import Derived.Test.YteilldmmihiijaaGreatDoorTw10
import Derived.Deep.DeepMust
set_option linter.unusedSimpArgs false
set_option linter.unusedVariables false
set_option maxHeartbeats 8000000
set_option maxRecDepth 1000000
namespace Go.Proofs.YteilldmmihiijaaGreatDoor
open Go.Lib renaming hid→Ad5
open List renaming setIfInBounds_toArray→Ad6,getElem_cons_zero→Ad7,getElem_cons_succ→Ad8,getElem_toArray→Ad9,set_cons_zero→Aea,set_cons_succ→Aeb,length_append→Aee,mem_cons→Ael,mem_append→Aem
open Nat renaming le_refl→Aec,le_trans→Aed,lt_of_lt_of_le→Aef,le_of_lt→Aeg
open Go.RowKit.Below renaming refl→Aeh,heap_setCell→Aei
open Go.IntWalk renaming i64_in→Aej
open Go.World renaming cell?_of_block→Aek
section
open Go Go.RowKit
theorem Sk {L:List UInt8} {st:CS} (h0:(Bg L st).1=0):(Bg L st).2.k=st.k+1∧st.k < L.length∧(Bg L st).2.ms.length≤st.ms.length+1:=by
 unfold Bg at h0 ⊢;cases hd:L.drop st.k with
 | nil=>rw [hd] at h0;cases h0
 | cons b t=>
  have hlt:=Bh hd;rw [hd] at h0;simp only at h0 ⊢;cases hM:E9 b with
  | none=>rw [hM] at h0;cases h0
  | some n=>
   rw [hM] at h0;unfold BG at h0 ⊢;simp only at h0 ⊢;by_cases hx:n < Ir st.c.g
   ·rw [if_pos hx] at h0;cases h0
   ·rw [if_neg hx];split
    ·exact ⟨rfl,hlt,by show (st.ms++_).length≤_;simp⟩
    ·exact ⟨rfl,hlt,Nat.le_succ _⟩
theorem Xv {ext:Bool} {L:List UInt8} {st:CS} {b:UInt8} (hb:st.c.name=b):BA ext L st=if b=123∨b=125 then (0,st) else if b=58 then B0 L st else if b=98∨b=116∨b=84 then Dk L st else if b=97∨b=105∨b=99 then C3 L st else if b=114∨b=119 then BH L st else if b=115 then C8 ext L st else if b=121 then Cy L st else Cf L st:=by
 subst hb;rfl
theorem Xw (w:World) (p:Nat) (s:ByteArray) (ext:Bool) (st:CS) (W:World) (h:Do w p s ext st W) (hs:s.size≤4000) (hk:st.k≤s.size) (hl:st.ms.length≤80000) (hG:Gl w) (hP:GP w) :
  Calls Tryz.prog 34 #[.pointer (some ⟨p,0,none⟩)] W fun e W'=>e=.returned (.int .i64 ((AO ext s.data.toList st).1:Int))∧Do w p s ext (AO ext s.data.toList st).2 W':=by
 have hs4:s.size≤4000000:=by omega
 have hA:=Uj w p s ext st W h hs4 hk (by omega);have hok:=Sk (L:=s.data.toList) (st:=st);rw [←Ad] at hok;unfold AO CO.then
 obtain ⟨⟨e1,s1⟩,hR1⟩:∃ R,Bg s.data.toList st=R:=⟨_,rfl⟩;rw [hR1] at hA hok ⊢;simp only at hA hok ⊢;clear hR1 h;by_cases h1:e1=0
 ·subst h1;rw [if_pos rfl];obtain ⟨hk1,hkl,hm1⟩:=hok rfl;have hk2:s1.k≤s.size:=by omega
  have hm2:s1.ms.length≤90000:=by omega
  have hm3:s1.ms.length≤100000:=by omega
  obtain ⟨b,hb⟩:∃ b,s1.c.name=b:=⟨_,rfl⟩;rw [Xv hb];have HB:=Ad5 hb;clear hb hk1 hkl hm1 hok hl hk;by_cases h123:b=123∨b=125
  ·rw [if_pos h123];rcases h123 with hx | hx
   ·have q123:((b.toNat:Int) == 123)=true:=by rw [hx];rfl
    clear hx;go_enter Tryz.func34,Tryz.ntmps34;go_wp2_with (go_at_call 43;refine hA.mono ?_;clear hA;rintro e w1 ⟨rfl,h1⟩;have H1:=Ad5 h1;obtain ⟨ta,tb,ts,pa,pc,ma,mc,h1⟩:=h1;have c13:w1.cell? ⟨p,13,none⟩=some (.int .u8 (b.toNat:Int)):=(h1.q.cell 13).trans (by rw [←HB.out];rfl);clear h1)
    go_ret;exact ⟨rfl,H1.out⟩
   ·have q125:((b.toNat:Int) == 125)=true:=by rw [hx];rfl
    have q123:((b.toNat:Int) == 123)=false:=by rw [hx];rfl
    clear hx;go_enter Tryz.func34,Tryz.ntmps34;go_wp2_with (go_at_call 43;refine hA.mono ?_;clear hA;rintro e w1 ⟨rfl,h1⟩;have H1:=Ad5 h1;obtain ⟨ta,tb,ts,pa,pc,ma,mc,h1⟩:=h1;have c13:w1.cell? ⟨p,13,none⟩=some (.int .u8 (b.toNat:Int)):=(h1.q.cell 13).trans (by rw [←HB.out];rfl);clear h1)
    go_ret;exact ⟨rfl,H1.out⟩
  rw [if_neg h123];have q123:((b.toNat:Int) == 123)=false:=An (c:=123) (fun e=>h123 (.inl e));have q125:((b.toNat:Int) == 125)=false:=An (c:=125) (fun e=>h123 (.inr e));clear h123;by_cases h58:b=58
  ·rw [if_pos h58];have q58:((b.toNat:Int) == 58)=true:=by rw [h58];rfl
   clear h58;have hX:=fun W1 (h:Do w p s ext s1 W1)=>K0 w p s ext s1 W1 h hs4 hk2
   clear hG hP hm2 hm3 hk2 hs hs4;go_enter Tryz.func34,Tryz.ntmps34;go_wp2_with (first | (go_at_call 43;refine hA.mono ?_;clear hA;rintro e w1 ⟨rfl,h1⟩;have H1:=Ad5 h1;obtain ⟨ta,tb,ts,pa,pc,ma,mc,h1⟩:=h1;have c13:w1.cell? ⟨p,13,none⟩=some (.int .u8 (b.toNat:Int)):=(h1.q.cell 13).trans (by rw [←HB.out];rfl);clear h1) | (go_at_call 44;refine (hX _ H1.out).mono ?_;clear hX;rintro e w2 ⟨rfl,h2⟩))
   go_ret;exact ⟨rfl,h2⟩
  rw [if_neg h58];have q58:((b.toNat:Int) == 58)=false:=An (c:=58) (h58);clear h58;by_cases h98:b=98∨b=116∨b=84
  ·rw [if_pos h98];rcases h98 with hx | hx | hx
   ·have q98:((b.toNat:Int) == 98)=true:=by rw [hx];rfl
    clear hx;have hX:=fun W1 (h:Do w p s ext s1 W1)=>K6 w p s ext s1 W1 h hs4 hk2
    clear hG hP hm2 hm3 hk2 hs hs4;go_enter Tryz.func34,Tryz.ntmps34;go_wp2_with (first | (go_at_call 43;refine hA.mono ?_;clear hA;rintro e w1 ⟨rfl,h1⟩;have H1:=Ad5 h1;obtain ⟨ta,tb,ts,pa,pc,ma,mc,h1⟩:=h1;have c13:w1.cell? ⟨p,13,none⟩=some (.int .u8 (b.toNat:Int)):=(h1.q.cell 13).trans (by rw [←HB.out];rfl);clear h1) | (go_at_call 45;refine (hX _ H1.out).mono ?_;clear hX;rintro e w2 ⟨rfl,h2⟩))
    go_ret;exact ⟨rfl,h2⟩
   ·have q116:((b.toNat:Int) == 116)=true:=by rw [hx];rfl
    have q98:((b.toNat:Int) == 98)=false:=by rw [hx];rfl
    clear hx;have hX:=fun W1 (h:Do w p s ext s1 W1)=>K6 w p s ext s1 W1 h hs4 hk2
    clear hG hP hm2 hm3 hk2 hs hs4;go_enter Tryz.func34,Tryz.ntmps34;go_wp2_with (first | (go_at_call 43;refine hA.mono ?_;clear hA;rintro e w1 ⟨rfl,h1⟩;have H1:=Ad5 h1;obtain ⟨ta,tb,ts,pa,pc,ma,mc,h1⟩:=h1;have c13:w1.cell? ⟨p,13,none⟩=some (.int .u8 (b.toNat:Int)):=(h1.q.cell 13).trans (by rw [←HB.out];rfl);clear h1) | (go_at_call 45;refine (hX _ H1.out).mono ?_;clear hX;rintro e w2 ⟨rfl,h2⟩))
    go_ret;exact ⟨rfl,h2⟩
   ·have q84:((b.toNat:Int) == 84)=true:=by rw [hx];rfl
    have q98:((b.toNat:Int) == 98)=false:=by rw [hx];rfl
    have q116:((b.toNat:Int) == 116)=false:=by rw [hx];rfl
    clear hx;have hX:=fun W1 (h:Do w p s ext s1 W1)=>K6 w p s ext s1 W1 h hs4 hk2
    clear hG hP hm2 hm3 hk2 hs hs4;go_enter Tryz.func34,Tryz.ntmps34;go_wp2_with (first | (go_at_call 43;refine hA.mono ?_;clear hA;rintro e w1 ⟨rfl,h1⟩;have H1:=Ad5 h1;obtain ⟨ta,tb,ts,pa,pc,ma,mc,h1⟩:=h1;have c13:w1.cell? ⟨p,13,none⟩=some (.int .u8 (b.toNat:Int)):=(h1.q.cell 13).trans (by rw [←HB.out];rfl);clear h1) | (go_at_call 45;refine (hX _ H1.out).mono ?_;clear hX;rintro e w2 ⟨rfl,h2⟩))
    go_ret;exact ⟨rfl,h2⟩
  rw [if_neg h98];have q98:((b.toNat:Int) == 98)=false:=An (c:=98) (fun e=>h98 (.inl e));have q116:((b.toNat:Int) == 116)=false:=An (c:=116) (fun e=>h98 (.inr (.inl e)));have q84:((b.toNat:Int) == 84)=false:=An (c:=84) (fun e=>h98 (.inr (.inr e)));clear h98;by_cases h97:b=97∨b=105∨b=99
  ·rw [if_pos h97];rcases h97 with hx | hx | hx
   ·have q97:((b.toNat:Int) == 97)=true:=by rw [hx];rfl
    clear hx;have hX:=fun W1 (h:Do w p s ext s1 W1)=>I8 w p s ext s1 W1 h hs4 hk2 hm3
    clear hG hP hm2 hm3 hk2 hs hs4;go_enter Tryz.func34,Tryz.ntmps34;go_wp2_with (first | (go_at_call 43;refine hA.mono ?_;clear hA;rintro e w1 ⟨rfl,h1⟩;have H1:=Ad5 h1;obtain ⟨ta,tb,ts,pa,pc,ma,mc,h1⟩:=h1;have c13:w1.cell? ⟨p,13,none⟩=some (.int .u8 (b.toNat:Int)):=(h1.q.cell 13).trans (by rw [←HB.out];rfl);clear h1) | (go_at_call 46;refine (hX _ H1.out).mono ?_;clear hX;rintro e w2 ⟨rfl,h2⟩))
    go_ret;exact ⟨rfl,h2⟩
   ·have q105:((b.toNat:Int) == 105)=true:=by rw [hx];rfl
    have q97:((b.toNat:Int) == 97)=false:=by rw [hx];rfl
    clear hx;have hX:=fun W1 (h:Do w p s ext s1 W1)=>I8 w p s ext s1 W1 h hs4 hk2 hm3
    clear hG hP hm2 hm3 hk2 hs hs4;go_enter Tryz.func34,Tryz.ntmps34;go_wp2_with (first | (go_at_call 43;refine hA.mono ?_;clear hA;rintro e w1 ⟨rfl,h1⟩;have H1:=Ad5 h1;obtain ⟨ta,tb,ts,pa,pc,ma,mc,h1⟩:=h1;have c13:w1.cell? ⟨p,13,none⟩=some (.int .u8 (b.toNat:Int)):=(h1.q.cell 13).trans (by rw [←HB.out];rfl);clear h1) | (go_at_call 46;refine (hX _ H1.out).mono ?_;clear hX;rintro e w2 ⟨rfl,h2⟩))
    go_ret;exact ⟨rfl,h2⟩
   ·have q99:((b.toNat:Int) == 99)=true:=by rw [hx];rfl
    have q97:((b.toNat:Int) == 97)=false:=by rw [hx];rfl
    have q105:((b.toNat:Int) == 105)=false:=by rw [hx];rfl
    clear hx;have hX:=fun W1 (h:Do w p s ext s1 W1)=>I8 w p s ext s1 W1 h hs4 hk2 hm3
    clear hG hP hm2 hm3 hk2 hs hs4;go_enter Tryz.func34,Tryz.ntmps34;go_wp2_with (first | (go_at_call 43;refine hA.mono ?_;clear hA;rintro e w1 ⟨rfl,h1⟩;have H1:=Ad5 h1;obtain ⟨ta,tb,ts,pa,pc,ma,mc,h1⟩:=h1;have c13:w1.cell? ⟨p,13,none⟩=some (.int .u8 (b.toNat:Int)):=(h1.q.cell 13).trans (by rw [←HB.out];rfl);clear h1) | (go_at_call 46;refine (hX _ H1.out).mono ?_;clear hX;rintro e w2 ⟨rfl,h2⟩))
    go_ret;exact ⟨rfl,h2⟩
  rw [if_neg h97];have q97:((b.toNat:Int) == 97)=false:=An (c:=97) (fun e=>h97 (.inl e));have q105:((b.toNat:Int) == 105)=false:=An (c:=105) (fun e=>h97 (.inr (.inl e)));have q99:((b.toNat:Int) == 99)=false:=An (c:=99) (fun e=>h97 (.inr (.inr e)));clear h97;by_cases h114:b=114∨b=119
  ·rw [if_pos h114];rcases h114 with hx | hx
   ·have q114:((b.toNat:Int) == 114)=true:=by rw [hx];rfl
    clear hx;have hX:=fun W1 (h:Do w p s ext s1 W1)=>K7 w p s ext s1 W1 h hs4 hk2
    clear hG hP hm2 hm3 hk2 hs hs4;go_enter Tryz.func34,Tryz.ntmps34;go_wp2_with (first | (go_at_call 43;refine hA.mono ?_;clear hA;rintro e w1 ⟨rfl,h1⟩;have H1:=Ad5 h1;obtain ⟨ta,tb,ts,pa,pc,ma,mc,h1⟩:=h1;have c13:w1.cell? ⟨p,13,none⟩=some (.int .u8 (b.toNat:Int)):=(h1.q.cell 13).trans (by rw [←HB.out];rfl);clear h1) | (go_at_call 47;refine (hX _ H1.out).mono ?_;clear hX;rintro e w2 ⟨rfl,h2⟩))
    go_ret;exact ⟨rfl,h2⟩
   ·have q119:((b.toNat:Int) == 119)=true:=by rw [hx];rfl
    have q114:((b.toNat:Int) == 114)=false:=by rw [hx];rfl
    clear hx;have hX:=fun W1 (h:Do w p s ext s1 W1)=>K7 w p s ext s1 W1 h hs4 hk2
    clear hG hP hm2 hm3 hk2 hs hs4;go_enter Tryz.func34,Tryz.ntmps34;go_wp2_with (first | (go_at_call 43;refine hA.mono ?_;clear hA;rintro e w1 ⟨rfl,h1⟩;have H1:=Ad5 h1;obtain ⟨ta,tb,ts,pa,pc,ma,mc,h1⟩:=h1;have c13:w1.cell? ⟨p,13,none⟩=some (.int .u8 (b.toNat:Int)):=(h1.q.cell 13).trans (by rw [←HB.out];rfl);clear h1) | (go_at_call 47;refine (hX _ H1.out).mono ?_;clear hX;rintro e w2 ⟨rfl,h2⟩))
    go_ret;exact ⟨rfl,h2⟩
  rw [if_neg h114];have q114:((b.toNat:Int) == 114)=false:=An (c:=114) (fun e=>h114 (.inl e));have q119:((b.toNat:Int) == 119)=false:=An (c:=119) (fun e=>h114 (.inr e));clear h114;by_cases h115:b=115
  ·rw [if_pos h115];have q115:((b.toNat:Int) == 115)=true:=by rw [h115];rfl
   clear h115;have hX:=fun W1 (h:Do w p s ext s1 W1)=>Xp w p s ext s1 W1 h hs hk2 hm2 hG hP
   clear hG hP hm2 hm3 hk2 hs hs4;go_enter Tryz.func34,Tryz.ntmps34;go_wp2_with (first | (go_at_call 43;refine hA.mono ?_;clear hA;rintro e w1 ⟨rfl,h1⟩;have H1:=Ad5 h1;obtain ⟨ta,tb,ts,pa,pc,ma,mc,h1⟩:=h1;have c13:w1.cell? ⟨p,13,none⟩=some (.int .u8 (b.toNat:Int)):=(h1.q.cell 13).trans (by rw [←HB.out];rfl);clear h1) | (go_at_call 48;refine (hX _ H1.out).mono ?_;clear hX;rintro e w2 ⟨rfl,h2⟩))
   go_ret;exact ⟨rfl,h2⟩
  rw [if_neg h115];have q115:((b.toNat:Int) == 115)=false:=An (c:=115) (h115);clear h115;by_cases h121:b=121
  ·rw [if_pos h121];have q121:((b.toNat:Int) == 121)=true:=by rw [h121];rfl
   clear h121;have hX:=fun W1 (h:Do w p s ext s1 W1)=>Xu w p s ext s1 W1 h hs hk2 hm3 hP
   clear hG hP hm2 hm3 hk2 hs hs4;go_enter Tryz.func34,Tryz.ntmps34;go_wp2_with (first | (go_at_call 43;refine hA.mono ?_;clear hA;rintro e w1 ⟨rfl,h1⟩;have H1:=Ad5 h1;obtain ⟨ta,tb,ts,pa,pc,ma,mc,h1⟩:=h1;have c13:w1.cell? ⟨p,13,none⟩=some (.int .u8 (b.toNat:Int)):=(h1.q.cell 13).trans (by rw [←HB.out];rfl);clear h1) | (go_at_call 49;refine (hX _ H1.out).mono ?_;clear hX;rintro e w2 ⟨rfl,h2⟩))
   go_ret;exact ⟨rfl,h2⟩
  rw [if_neg h121];have q121:((b.toNat:Int) == 121)=false:=An (c:=121) (h121);clear h121;have hX:=fun W1 (h:Do w p s ext s1 W1)=>Kx w p s ext s1 W1 h hs4 hk2 hm3
  clear hG hP hm2 hm3 hk2 hs hs4;go_enter Tryz.func34,Tryz.ntmps34;go_wp2_with (first | (go_at_call 43;refine hA.mono ?_;clear hA;rintro e w1 ⟨rfl,h1⟩;have H1:=Ad5 h1;obtain ⟨ta,tb,ts,pa,pc,ma,mc,h1⟩:=h1;have c13:w1.cell? ⟨p,13,none⟩=some (.int .u8 (b.toNat:Int)):=(h1.q.cell 13).trans (by rw [←HB.out];rfl);clear h1) | (go_at_call 50;refine (hX _ H1.out).mono ?_;clear hX;rintro e w2 ⟨rfl,h2⟩))
  go_ret;exact ⟨rfl,h2⟩
 ·rw [if_neg h1];have ce:((e1:Int) != 0)=true:=by simpa using h1
  clear hok hl hk h1 hG hP;go_enter Tryz.func34,Tryz.ntmps34;go_wp2_with (go_at_call 43;refine hA.mono ?_;clear hA;rintro e w1 ⟨rfl,h1⟩)
  go_ret;exact ⟨rfl,h1⟩
theorem Xx {ext:Bool} {k:Nat} {q:Grd × List Wm × Nat} (s:ByteArray) (hk:k≤s.size) (h:Jd ext s.data.toList k=.ok q):q.2.2≤s.size∧q.2.1.length≤600:=by
 have hnk:∀ {j:Nat} {r:Bool × Nat},j≤s.size→C7 s.data.toList j=.ok r→r.2≤s.size:=fun {j r} hj h=>by
  have h1:=EB s j hj;unfold C7 at h;split at h
  ·rename_i hh;have h2:=Gn hh;have h3:=EB s (Ak s.data.toList j+1) (by omega);split at h
   ·cases h
   ·injection h with h;subst h;exact h3
  ·injection h with h;subst h;exact h1
 unfold Jd at h;cases h1:EY ext false s.data.toList k with
 | error q=>rw [h1] at h;cases h
 | ok r=>
  rw [h1] at h;obtain ⟨f1,g1⟩:=Na s hk h1;unfold Eo at h;simp only at h;split at h
  ·unfold GB FF at h;simp only at h;split at h
   ·cases h
   ·rename_i h5;injection h with h;subst h;exact ⟨hnk f1 h5,by show r.2.1.length≤_;omega⟩
  ·cases h2:Ce ext s.data.toList r.2.2 with
   | error q=>rw [h2] at h;cases h
   | ok r2=>
    rw [h2] at h;have hj:r2.2.2≤s.size∧r2.2.1.length≤251:=by
     have hb:=EB s r.2.2 f1;unfold Ce at h2;split at h2
     ·rename_i hh;have hlt:=Gn hh;have hb2:=EB s (Ak s.data.toList r.2.2+1) (by omega);unfold E4 at h2;split at h2
      ·cases h2
      ·rename_i h3;split at h2
       ·cases h2
       ·injection h2 with h2;subst h2;exact Na s hb2 h3
     ·injection h2 with h2;subst h2;exact ⟨f1,by simp⟩
    unfold FE GB FF at h;simp only at h;split at h
    ·cases h
    ·rename_i h5;injection h with h;subst h;exact ⟨hnk hj.1 h5,by show (r.2.1++r2.2.1).length≤_;rw [Aee];omega⟩
abbrev ED (c:Cmd) (ta tb ts pv:Value):Array Value:=
 #[.int .i64 (c.pl:Int),.int .i64 (c.g.a.kind:Int),.int .i64 (c.g.a.line:Int),.string (txt c.g.a.text),ta,.int .i64 (c.g.b.kind:Int),.int .i64 (c.g.b.line:Int),.string (txt c.g.b.text),tb,.bool c.g.no,.int .u8 c.name.toNat,.string (txt c.arg),.string (txt c.sub.text),ts,pv,.int .i64 (c.sub.nth:Int),.bool c.sub.all,.bool c.sub.prt,.string (txt c.sub.file),.string (txt c.table)]
abbrev Dg:Array Value:=
 #[.int .i64 0,.int .i64 0,.int .i64 0,.string ⟨#[]⟩,.nilIface,.int .i64 0,.int .i64 0,.string ⟨#[]⟩,.nilIface,.bool false,.int .u8 0,.string ⟨#[]⟩,.string ⟨#[]⟩,.nilIface,.slice none 0 0,.int .i64 0,.bool false,.bool false,.string ⟨#[]⟩,.string ⟨#[]⟩]
def Uw (w:World) (r:BK Cmd) (e:Ending) (w':World):Prop:=Below w.heap.size w w'∧match r with
 | .error q=>e=.returned (.tuple #[.agg Dg,.slice none 0 0,.int .i64 (q.2:Int),.int .i64 (q.1:Int)])
 | .ok q=>∃ ta tb ts pa pc ma mc,e=.returned (.tuple #[.agg (ED q.1 ta tb ts (.slice pa q.1.sub.parts.length pc)),.slice ma q.2.1.length mc,.int .i64 (q.2.2:Int),.int .i64 0])∧
  TrO (fun b=>w.heap.size≤b) w' q.1.g.a.tree ta∧TrO (fun b=>w.heap.size≤b) w' q.1.g.b.tree tb∧TrO (fun b=>w.heap.size≤b) w' q.1.sub.tree ts∧
  w'.ownsRow w.heap.size 74 2 (.slice pa q.1.sub.parts.length pc) q.1.sub.parts.length (cpC q.1.sub.parts)∧
  w'.ownsRow w.heap.size 33 2 (.slice ma q.2.1.length mc) q.2.1.length (wmC q.2.1)
theorem CmSt.fin {w W:World} {p:Nat} {s:ByteArray} {ext:Bool} {st:CS} {ta tb ts:Value} {pa:Option Addr} {pc:Nat} {ma:Option Addr} {mc:Nat} {w5 W9:World} (h:CmSt W p s ext st ta tb ts pa pc ma mc w5) (hw:w.heap.size < W.heap.size) (hb:Below w.heap.size w W9) (hs:∀ b,b≠w.heap.size→W9.heap[b]?=w5.heap[b]?) (hz:W9.heap.size=w5.heap.size) :
  Uw w (.ok (st.c,st.ms,st.k)) (.returned (.tuple #[.agg (ED st.c ta tb ts (.slice pa st.c.sub.parts.length pc)),.slice ma st.ms.length mc,.int .i64 (st.k:Int),.int .i64 0])) W9:=by
 have hk:∀ {t v},TrO (fun b=>W.heap.size≤b∧b≠p∧(Value.slice ma st.ms.length mc).ownBlock≠some b) w5 t v→TrO (fun b=>w.heap.size≤b) W9 t v:=fun hk=>TrO.keep (by omega) (fun b hb _=>⟨by have:=hb.1;omega,fun o=>Aek (w:=w5) (a:=⟨b,o,none⟩) (hs b (by have:=hb.1;omega))⟩) hk
 exact ⟨hb,ta,tb,ts,pa,pc,ma,mc,rfl,hk h.ha,hk h.hb,hk h.hs,BS (Aeg hw) (Aa h.pr fun b e=>hs b (by have:=AL h.pr b e;omega)),BS (Aeg hw) (Aa h.r fun b e=>hs b (by have:=AL h.r b e;omega))⟩
theorem I9 {tmps:Array Value} {W:World} {r:Nat} {cs:Array Value} {v7 v8 v9:Value} (h6:tmps.getD 6 undef=.pointer (some ⟨r,0,none⟩)) (h7:tmps.getD 7 undef=v7) (h8:tmps.getD 8 undef=v8) (h9:tmps.getD 9 undef=v9) (hl:(loadVar 47 ⟨r,0,none⟩).run Tryz.prog W=.ok (.agg cs) W) :
  (results Tryz.f24 tmps).run Tryz.prog W=.ok (.tuple #[.agg cs,v7,v8,v9]) W:=by
 have ha:(asAddr (.pointer (some ⟨r,0,none⟩))).run Tryz.prog W=.ok ⟨r,0,none⟩ W:=rfl;simp only [Array.getD_eq_getD_getElem?] at h6 h7 h8 h9;unfold results;rw [Tryz.results24];simp [Sem.run_bind,h6,h7,h8,h9,hl,ha]
theorem Gx {P:Program} {op:Oper} {a:Act} {W:World} (ty:TypeId) (x:Operand) (ho:op.op=.load ty x) (g:Nat) (hx:a.eval x=.pointer (some ⟨g,0,none⟩)) {cs:Array Value} {T:TypeId} (h:Blk W g cs T) {fs:_} (hu:P.underlying ty=some (.struct fs)) (hi:(P.info? ty).map (·.size)=some cs.size) :
  Sem.run P (execOp a.eval op) W=.ok (.value (.agg cs)) W:=by
 unfold execOp;simp only [ho,hx,Instr.loadAt,Instr.sureAddr,Sem.run_bind,Sem.run_pure,Result.andThen_ok,run_loadVar_row W g _ ty cs _ (.struct fs) h hu rfl hi]
theorem Gy {P:Program} {op:Oper} {a:Act} {W:World} (ty:TypeId) (x:Operand) (ho:op.op=.load ty x) (g o n:Nat) (hx:a.eval x=.pointer (some ⟨g,o,none⟩)) {cs:Array Value} {T:TypeId} (h:Blk W g cs T) {fs:_} (hu:P.underlying ty=some (.struct fs)) (hi:(P.info? ty).map (·.size)=some ((cs.toList.drop o).take n).length) :
  Sem.run P (execOp a.eval op) W=.ok (.value (.agg ((cs.toList.drop o).take n).toArray)) W:=by
 have hc:W.rangeAt g o ((cs.toList.drop o).take n):=fun j v hj=>by
  rw [List.getElem?_take] at hj;split at hj
  ·rw [List.getElem?_drop] at hj;rw [h.cell (o+j),←Array.getElem?_toList];exact hj
  ·cases hj
 unfold execOp;simp only [ho,hx,Instr.loadAt,Instr.sureAddr,Sem.run_bind,Sem.run_pure,Result.andThen_ok,run_loadVar_mid W g o ty _ (.struct fs) hc hu rfl hi]
abbrev gdC (g:Grd) (ta tb:Value):Array Value:=#[.int .i64 (g.a.kind:Int),.int .i64 (g.a.line:Int),.string (txt g.a.text),ta,.int .i64 (g.b.kind:Int),.int .i64 (g.b.line:Int),.string (txt g.b.text),tb,.bool g.no]
structure GxS (W:World) (gx:Nat) (g:Grd) (ms:List Wm) (ta tb:Value) (ma:Option Addr) (mc:Nat) (wx:World):Prop where
 b:Below W.heap.size W wx
 q:Blk wx gx (gdC g ta tb) 42
 ha:TrO (fun b=>W.heap.size≤b∧b < wx.heap.size∧(Value.slice ma ms.length mc).ownBlock≠some b) wx g.a.tree ta
 hb:TrO (fun b=>W.heap.size≤b∧b < wx.heap.size∧(Value.slice ma ms.length mc).ownBlock≠some b) wx g.b.tree tb
 r:wx.ownsRow W.heap.size 33 2 (.slice ma ms.length mc) ms.length (wmC ms)
theorem GxS.mk' {W w1 w2:World} {g:Grd} {ms:List Wm} {ta tb:Value} {ma:Option Addr} {mc:Nat} (b1:Below W.heap.size W w1) (ha:TrO (fun b=>W.heap.size < b∧(Value.slice ma ms.length mc).ownBlock≠some b) w1 g.a.tree ta) (hb:TrO (fun b=>W.heap.size < b∧(Value.slice ma ms.length mc).ownBlock≠some b) w1 g.b.tree tb) (hr:w1.ownsRow (W.heap.size+1) 33 2 (.slice ma ms.length mc) ms.length (wmC ms)) (hW:w1.alloc (.cells (gdC g ta tb) 42)=w2):GxS W w1.heap.size g ms ta tb ma mc w2:=by
 have b2:=Ac hW;have hs:=b2.size;have hk:∀ {t v},TrO (fun b=>W.heap.size < b∧(Value.slice ma ms.length mc).ownBlock≠some b) w1 t v→TrO (fun b=>W.heap.size≤b∧b < w2.heap.size∧(Value.slice ma ms.length mc).ownBlock≠some b) w2 t v:=fun h=>TrO.keep hs (fun b h1 hl=>⟨⟨Aeg h1.1,Aef hl hs,h1.2⟩,fun o=>b2.cell (p:=⟨b,o,none⟩) hl⟩) h
 exact ⟨b1.trans (b2.mono b1.size),Ae hW,hk ha,hk hb,Ag (BS (Nat.le_succ _) hr) b2⟩
theorem ZC (s:ByteArray) (ext:Bool) (st:CS) (ta tb ts pv mv:Value) (h1:ta.oneCell'=true) (h2:tb.oneCell'=true) (h3:ts.oneCell'=true) (h4:pv.oneCell'=true) (h5:mv.oneCell'=true):(cmC s ext st ta tb ts pv mv).all (·.oneCell')=true:=by
 unfold cmC;simp only [List.all_toArray,List.all_cons,List.all_nil,h1,h2,h3,h4,h5];rfl
theorem Nm (c:Cmd) (ta tb ts pv:Value) (h1:ta.oneCell'=true) (h2:tb.oneCell'=true) (h3:ts.oneCell'=true) (h4:pv.oneCell'=true):(ED c ta tb ts pv).all (·.oneCell')=true:=by
 simp only [List.all_toArray,List.all_cons,List.all_nil,h1,h2,h3,h4];rfl
theorem AN {v:Value} (h:(∃ T q,v=.iface T q)∨v=.nilIface):v.oneCell'=true:=by
 rcases h with ⟨T,q,rfl⟩ | rfl <;> rfl
theorem GxS.reader {W:World} {gx:Nat} {g:Grd} {ms:List Wm} {ta tb:Value} {ma:Option Addr} {mc:Nat} {wx wy:World} (h:GxS W gx g ms ta tb ma mc wx) (s:ByteArray) (ext:Bool) (k:Nat) {z:Array Value} (hy:wx.alloc (.cells z 79)=wy) :
  CmSt W wx.heap.size s ext (Bd g ms k) ta tb .nilIface none 0 ma mc (wy.setRow wx.heap.size (cmC s ext (Bd g ms k) ta tb .nilIface (.slice none 0 0) (.slice ma ms.length mc))):=by
 have b2:=Ac hy;have q2:=Ae hy;have hs:=b2.size;have hbs:=h.b.size;have o1:∀ b,b≠wx.heap.size→(wy.setRow wx.heap.size (cmC s ext (Bd g ms k) ta tb .nilIface (.slice none 0 0) (.slice ma ms.length mc))).heap[b]?=wy.heap[b]?:=fun b hb=>setRow_other wy _ b _ hb
 have hk:∀ {t v},TrO (fun b=>W.heap.size≤b∧b < wx.heap.size∧(Value.slice ma ms.length mc).ownBlock≠some b) wx t v→TrO (fun b=>W.heap.size≤b∧b≠wx.heap.size∧(Value.slice ma ms.length mc).ownBlock≠some b) (wy.setRow wx.heap.size (cmC s ext (Bd g ms k) ta tb .nilIface (.slice none 0 0) (.slice ma ms.length mc))) t v:=fun h=>TrO.keep (by simp;omega) (fun b h1 hl=>⟨⟨h1.1,by omega,h1.2.2⟩,fun o=>Aek (w:=wx) (a:=⟨b,o,none⟩) ((o1 b (by omega)).trans (b2.block b hl))⟩) h
 have hne:∀ q,(Value.slice ma ms.length mc).ownBlock=some q→q≠wx.heap.size:=fun q e=>Nat.ne_of_lt (AB h.r q e)
 refine ⟨below_setRow (h.b.trans (b2.mono hbs)) hbs _,setRow_heap wy _ _ _ _ _ q2,hbs,hk h.ha,hk h.hb,rfl,Aa (Ag h.r b2) fun b e=>o1 b (hne b e),fun e=>hne _ e rfl,World.ownsRow_nil _ _ _ _,fun b e=>?_⟩;simp [Value.ownBlock] at e
theorem Re (ext:Bool) (s:ByteArray) (k:Nat) (w:World) (hs:s.size≤4000) (hk:k≤s.size) (hG:Gl w) (hP:GP w) :
  Calls Tryz.prog 24 #[.string s,.int .i64 (k:Int),.bool ext] w (Uw w (Mn ext s.data.toList k)):=by
 obtain ⟨W,hW⟩:∃ W,w.alloc (.cells Dg 47)=W:=⟨_,rfl⟩;have HA:=Ad5 (Ac hW);have HR0:=Ad5 (Ae hW);have hs4:s.size≤4000000:=by omega
 have hg:=Ug ext s k W hs4 hk (hG.up HA.out) (hP.up HA.out);have hgle:∀ q,Jd ext s.data.toList k=.ok q→q.2.2≤s.size∧q.2.1.length≤600:=fun q h=>Xx s hk h
 have hgne:∀ q,Jd ext s.data.toList k=.error q→q.1≠0:=fun q h=>Si h
 have HG:=Ad5 (hG.up HA.out);have HP:=Ad5 (hP.up HA.out);unfold Mn;generalize Jd ext s.data.toList k=R at hg hgle hgne ⊢;unfold Dg at hW;clear hG hP;cases R with
 | error q=>
  obtain ⟨n,p⟩:=q;have hn:n≠0:=hgne _ rfl;have hnn:((n:Int) != 0)=true:=by simp;omega
  show Calls _ _ _ _ (Uw w (.error (n,p)));replace hg:Calls Tryz.prog 33 #[.string s,.int .i64 (k:Int),.bool ext] W fun e w'=>GdA W (.error (n,p)) e w':=hg
  simp only [GdA] at hg;clear hgle hgne hn;go_enter Tryz.func24,Tryz.ntmps24;go_upto_region 2 with (go_at_call 33;refine hg.mono ?_;clear hg;rintro e w1 ⟨b1,rfl⟩)
  generalize hW2:w1.alloc _=w2;have b2:=b1.trans ((Ac hW2).mono b1.size);have B2:=Ad5 (HA.out.trans (b2.mono HA.out.size));have K2:=Ad5 (HR0.out.below b2 HR0.out.lt);clear b1 b2 hW2;go_upto_region 3 with fail;have hbz:∀ f:Nat × Operand→Nat × Value,((Tryz.prog.built 47 (Array.map f #[]).toList).getD #[])=Dg:=fun f=>by kernel_rfl
  refine wp_region_list ?_;refine wpList_build rfl 47 #[] rfl (by kernel_rfl) ?_;rw [hbz]
  (try simp only [Ad9,Ad8,Ad7,Act.put,Ad6,Aea,Aeb])
  iterate 2 (refine wpList_plain rfl (fun K hK=>?_);go_simp;refine hK _ _ ?_;clear hK K;(try simp only [Ad9,Ad8,Ad7,Act.put,Ad6,Aea,Aeb]))
  refine wpList_store_row rfl 47 _ _ rfl w.heap.size Dg rfl rfl 47 Dg K2.out (by kernel_rfl) rfl (by kernel_rfl) ?_
  (try simp only [Ad9,Ad8,Ad7,Act.put,Ad6,Aea,Aeb])
  have B3:=Ad5 (below_setRow B2.out (Aec w.heap.size) Dg);have K3:=Ad5 (setRow_heap w2 w.heap.size _ Dg _ _ K2.out);generalize w2.setRow w.heap.size Dg=w3 at B3 K3 ⊢
  iterate 3 (refine wpList_plain rfl (fun K hK=>?_);go_simp;refine hK _ _ ?_;clear hK K;(try simp only [Ad9,Ad8,Ad7,Act.put,Ad6,Aea,Aeb]))
  refine wpList_nil ?_;go_wp2_with fail
  have hl:=run_loadVar_row (P:=Tryz.prog) w3 w.heap.size 47 47 Dg _ _ K3.out Tryz.underlying47 rfl (by kernel_rfl);refine bodyPost_ret (v:=.tuple #[.agg Dg,.slice none 0 0,.int .i64 (p:Int),.int .i64 (n:Int)]) (I9 rfl rfl rfl rfl hl) rfl ?_;exact ⟨B3.out,rfl⟩
 | ok q=>
  obtain ⟨g,ms,p⟩:=q;obtain ⟨hpl,hml⟩:=hgle _ rfl;simp only at hpl hml;clear hgle hgne;replace hg:Calls Tryz.prog 33 #[.string s,.int .i64 (k:Int),.bool ext] W fun e w'=>GdA W (.ok (g,ms,p)) e w':=hg
  simp only [GdA] at hg;show Calls _ _ _ _ (Uw w (FJ (AO ext s.data.toList (Bd g ms p))));have hC:=fun wx r (h:Do W r s ext (Bd g ms p) wx)=>Xw W r s ext (Bd g ms p) wx h hs hpl (show ms.length≤80000 by omega) HG.out HP.out
  obtain ⟨⟨e1,st1⟩,hR⟩:∃ R,AO ext s.data.toList (Bd g ms p)=R:=⟨_,rfl⟩;rw [hR] at hC ⊢;simp only at hC;obtain ⟨A,hA⟩:∃ A,FJ (e1,st1)=A:=⟨_,rfl⟩;rw [hA];have HANS:=Ad5 hA;clear hA hR hpl hml;go_enter Tryz.func24,Tryz.ntmps24;go_upto_region 1 with fail;go_cut [1,10,11,12] (fun s1 s10 s11 s12 wx=>∃ gx ta tb ma mc,s1=.int .i64 (p:Int)∧s10=.pointer (some ⟨gx,0,none⟩)∧s11=.slice ma ms.length mc∧s12=.int .i64 0∧GxS W gx g ms ta tb ma mc wx)
  case first=>
   go_upto_region 2 with (go_at_call 33;refine hg.mono ?_;clear hg;rintro e w1 ⟨b1,ta,tb,ma,mc,rfl,hta,htb,hr⟩;have hsa:=hta.shape;have hsb:=htb.shape;have HTA:=Ad5 hta;have HTB:=Ad5 htb;have HR:=Ad5 hr;have B1:=Ad5 b1;clear hta htb hr b1;rcases hsa with ⟨T8,q8,rfl⟩ | rfl <;> rcases hsb with ⟨T9,q9,rfl⟩ | rfl)
   all_goals
    go_meet;exact ⟨_,_,_,ma,mc,rfl,rfl,rfl,rfl,GxS.mk' B1.out HTA.out HTB.out HR.out rfl⟩
  case rest=>
   obtain ⟨gx,ta,tb,ma,mc,rfl,rfl,rfl,rfl,hx⟩:=hcut;have HX:=Ad5 hx;clear hx hg;go_upto_region 4 with fail;refine wp_region_list ?_
   iterate 4 (refine wpList_plain rfl (fun K hK=>?_);go_simp;refine hK _ _ ?_;clear hK K;(try simp only [Ad9,Ad8,Ad7,Act.put,Ad6,Aea,Aeb]))
   refine wpList_load_row rfl 42 _ rfl gx rfl 42 (gdC g ta tb) _ _ HX.out.q Tryz.underlying42 rfl (by kernel_rfl) ?_
   (try simp only [Ad9,Ad8,Ad7,Act.put,Ad6,Aea,Aeb])
   refine wpList_build rfl 47 _ rfl (by kernel_rfl) ?_;generalize hB:Option.getD _ #[]=B;have hB2:B=ED (Bd g ms p).c ta tb .nilIface (.slice none 0 0):=by rw [←hB];kernel_rfl
   subst hB2;clear hB
   (try simp only [Ad9,Ad8,Ad7,Act.put,Ad6,Aea,Aeb])
   refine wpList_plain rfl (fun K hK=>?_);go_simp;refine hK _ _ ?_;clear hK K;(try simp only [Ad9,Ad8,Ad7,Act.put,Ad6,Aea,Aeb]);refine wpList_build rfl 79 _ rfl (by kernel_rfl) ?_;generalize hB:Option.getD _ #[]=B;have hB2:B=cmC s ext (Bd g ms p) ta tb .nilIface (.slice none 0 0) (.slice ma ms.length mc):=by rw [←hB];kernel_rfl
   subst hB2;clear hB
   (try simp only [Ad9,Ad8,Ad7,Act.put,Ad6,Aea,Aeb])
   refine wpList_plain rfl (fun K hK=>?_);go_simp;generalize hA:wc.alloc _=wy;refine hK _ _ ?_;clear hK K
   (try simp only [Ad9,Ad8,Ad7,Act.put,Ad6,Aea,Aeb])
   refine wpList_store_row rfl 79 _ _ rfl (World.heap wc).size (cmC s ext (Bd g ms p) ta tb .nilIface (.slice none 0 0) (.slice ma ms.length mc)) rfl rfl 79 _ (Ae hA) (by kernel_rfl) rfl (ZC _ _ _ _ _ _ _ _ (AN HX.out.ha.shape) (AN HX.out.hb.shape) rfl rfl rfl) ?_
   (try simp only [Ad9,Ad8,Ad7,Act.put,Ad6,Aea,Aeb])
   refine wpList_nil ?_;have H4:=Ad5 (HX.out.reader s ext p hA);have hne:(World.heap wc).size≠w.heap.size:=by have:=HA.out.size;have:=HX.out.b.size;have:=HR0.out.lt;omega
   have Hne:=Ad5 hne;obtain ⟨r,hr⟩:∃ r,(World.heap wc).size=r:=⟨_,rfl⟩;rw [hr] at H4 Hne ⊢;generalize wy.setRow r _=wz at H4 ⊢;clear hA hr hne HX;have hC2:=hC wz r H4.out.R;go_upto_region 6 with (go_at_call 34;refine hC2.mono ?_;clear hC2;rintro e w5 ⟨rfl,h5⟩)
   obtain ⟨ta,tb,ts,pa,pc,ma,mc,h5⟩:=h5;have H5:=Ad5 h5;clear h5 H4 hC;have hmix:Tryz.prog.follows .mixedOrders=true:=by kernel_rfl
   have hgw:w.heap.size < W.heap.size:=HR0.out.lt;have K5:=HR0.out.below H5.out.b0 hgw;have B5:=Ad5 (HA.out.trans (H5.out.b0.mono (Aeg hgw)));by_cases he:e1=0
   ·subst he;obtain rfl:(.ok (st1.c,st1.ms,st1.k):BK Cmd)=A:=HANS.out;go_upto_region 8 with fail;refine wp_region_held_drew (S:=fun W':World=>Blk W' r (cmC s ext st1 ta tb ts (.slice pa st1.c.sub.parts.length pc) (.slice ma st1.ms.length mc)) 79) hmix H5.out.q (fun hHeld=>?_);refine AE 0 (.pointer (some ⟨r,3,none⟩)) rfl hHeld (Or.inl ⟨by rfl,?_⟩) ?_;(focus (intro W' hSw;go_simp));(try simp only [Ad9,Ad8,Ad7,Act.put,Ad6,Aea,Aeb]);refine AE 1 (.agg (ED st1.c ta tb ts (.slice pa st1.c.sub.parts.length pc))) rfl hHeld (Or.inl ⟨by rfl,?_⟩) ?_
    ·intro W' hSw;exact Gy 47 _ rfl r 3 20 rfl hSw Tryz.underlying47 (by kernel_rfl)
    (try simp only [Ad9,Ad8,Ad7,Act.put,Ad6,Aea,Aeb])
    refine AE 2 (.pointer (some ⟨r,23,none⟩)) rfl hHeld (Or.inl ⟨by rfl,?_⟩) ?_;(focus (intro W' hSw;go_simp));(try simp only [Ad9,Ad8,Ad7,Act.put,Ad6,Aea,Aeb]);refine AE 3 (.slice ma st1.ms.length mc) rfl hHeld (Or.inl ⟨by rfl,?_⟩) ?_;(focus (intro W' hSw;(have c23:W'.cell? ⟨r,23,none⟩=some (.slice ma st1.ms.length mc):=(hSw.cell 23).trans rfl);clear hSw;go_simp));(try simp only [Ad9,Ad8,Ad7,Act.put,Ad6,Aea,Aeb]);refine AE 4 (.pointer (some ⟨r,2,none⟩)) rfl hHeld (Or.inl ⟨by rfl,?_⟩) ?_;(focus (intro W' hSw;go_simp));(try simp only [Ad9,Ad8,Ad7,Act.put,Ad6,Aea,Aeb]);refine AE 5 (.int .i64 (st1.k:Int)) rfl hHeld (Or.inl ⟨by rfl,?_⟩) ?_;(focus (intro W' hSw;(have c2:W'.cell? ⟨r,2,none⟩=some (.int .i64 (st1.k:Int)):=(hSw.cell 2).trans rfl);clear hSw;go_simp));(try simp only [Ad9,Ad8,Ad7,Act.put,Ad6,Aea,Aeb]);refine wpAnyH_ready (rs:=[6]) (by kernel_rfl) (by simp) ?_;refine AllReadyH.cons rfl (fun K hK=>?_) AllReadyH.nil;rw [if_pos (by rfl)];refine wp_store_row 47 _ _ rfl w.heap.size (ED st1.c ta tb ts (.slice pa st1.c.sub.parts.length pc)) rfl rfl 47 Dg K5 (by kernel_rfl) rfl (Nm _ _ _ _ _ (AN H5.out.ha.shape) (AN H5.out.hb.shape) (AN H5.out.hs.shape) rfl) ?_;refine hK.out _ _ ((setRow_other _ w.heap.size r _ Hne.out).trans H5.out.q) (fun hHeld=>?_);clear hK K
    (try simp only [Ad9,Ad8,Ad7,Act.put,Ad6,Aea,Aeb])
    refine AE 7 (.slice ma st1.ms.length mc) rfl hHeld (Or.inl ⟨by rfl,?_⟩) ?_;(focus (intro W' hSw;go_simp));(try simp only [Ad9,Ad8,Ad7,Act.put,Ad6,Aea,Aeb]);refine AE 8 (.int .i64 (st1.k:Int)) rfl hHeld (Or.inl ⟨by rfl,?_⟩) ?_;(focus (intro W' hSw;go_simp));(try simp only [Ad9,Ad8,Ad7,Act.put,Ad6,Aea,Aeb]);refine AE 9 (.int .i64 0) rfl hHeld (Or.inl ⟨by rfl,?_⟩) ?_;(focus (intro W' hSw;go_simp));(try simp only [Ad9,Ad8,Ad7,Act.put,Ad6,Aea,Aeb]);refine wpAnyH_done (by kernel_rfl) ?_ _
    (try go_wp2_with fail)
    have hl:=run_loadVar_row (P:=Tryz.prog) _ w.heap.size 47 47 _ _ _ (setRow_heap w5.drew w.heap.size _ (ED st1.c ta tb ts (.slice pa st1.c.sub.parts.length pc)) _ _ K5) Tryz.underlying47 rfl (by kernel_rfl);refine bodyPost_ret (I9 rfl rfl rfl rfl hl) rfl ?_;exact H5.out.fin hgw (below_setRow (Below.drew B5.out) (Aec _) _) (fun b hb=>setRow_other w5.drew _ b _ hb) (by simp)
   ·have ce:((e1:Int) != 0)=true:=by simpa using he
    obtain rfl:(.error (e1,st1.k):BK Cmd)=A:=by rw [←HANS.out];unfold FJ;rw [if_neg he]
    clear he;go_upto_region 7 with fail;refine wp_region_held_drew (S:=fun W':World=>Blk W' r (cmC s ext st1 ta tb ts (.slice pa st1.c.sub.parts.length pc) (.slice ma st1.ms.length mc)) 79) hmix H5.out.q (fun hHeld=>?_);refine AE 0 (.agg Dg) rfl hHeld (Or.inl ⟨by rfl,?_⟩) ?_;(focus (intro W' hSw;kernel_rfl));(try simp only [Ad9,Ad8,Ad7,Act.put,Ad6,Aea,Aeb]);refine AE 1 (.pointer (some ⟨r,2,none⟩)) rfl hHeld (Or.inl ⟨by rfl,?_⟩) ?_;(focus (intro W' hSw;go_simp));(try simp only [Ad9,Ad8,Ad7,Act.put,Ad6,Aea,Aeb]);refine AE 2 (.int .i64 (st1.k:Int)) rfl hHeld (Or.inl ⟨by rfl,?_⟩) ?_;(focus (intro W' hSw;(have c2:W'.cell? ⟨r,2,none⟩=some (.int .i64 (st1.k:Int)):=(hSw.cell 2).trans rfl);clear hSw;go_simp));(try simp only [Ad9,Ad8,Ad7,Act.put,Ad6,Aea,Aeb]);refine AE 3 (.int .i64 (e1:Int)) rfl hHeld (Or.inl ⟨by rfl,?_⟩) ?_;(focus (intro W' hSw;go_simp));(try simp only [Ad9,Ad8,Ad7,Act.put,Ad6,Aea,Aeb]);refine wpAnyH_ready (rs:=[4]) (by kernel_rfl) (by simp) ?_;refine AllReadyH.cons rfl (fun K hK=>?_) AllReadyH.nil;rw [if_pos (by rfl)];refine wp_store_row 47 _ _ rfl w.heap.size Dg rfl rfl 47 Dg K5 (by kernel_rfl) rfl (by kernel_rfl) ?_;refine hK.out _ _ ((setRow_other _ w.heap.size r _ Hne.out).trans H5.out.q) (fun hHeld=>?_);clear hK K
    (try simp only [Ad9,Ad8,Ad7,Act.put,Ad6,Aea,Aeb])
    refine AE 5 (.slice none 0 0) rfl hHeld (Or.inl ⟨by rfl,?_⟩) ?_;(focus (intro W' hSw;go_simp));(try simp only [Ad9,Ad8,Ad7,Act.put,Ad6,Aea,Aeb]);refine AE 6 (.int .i64 (st1.k:Int)) rfl hHeld (Or.inl ⟨by rfl,?_⟩) ?_;(focus (intro W' hSw;go_simp));(try simp only [Ad9,Ad8,Ad7,Act.put,Ad6,Aea,Aeb]);refine AE 7 (.int .i64 (e1:Int)) rfl hHeld (Or.inl ⟨by rfl,?_⟩) ?_;(focus (intro W' hSw;go_simp));(try simp only [Ad9,Ad8,Ad7,Act.put,Ad6,Aea,Aeb]);refine wpAnyH_done (by kernel_rfl) ?_ _
    (try go_wp2_with fail)
    have hl:=run_loadVar_row (P:=Tryz.prog) _ w.heap.size 47 47 _ _ _ (setRow_heap w5.drew w.heap.size _ Dg _ _ K5) Tryz.underlying47 rfl (by kernel_rfl);refine bodyPost_ret (I9 rfl rfl rfl rfl hl) rfl ?_;exact ⟨below_setRow (Below.drew B5.out) (Aec _) _,rfl⟩
theorem ZD {w:World} {B n c:Nat} {T:TypeId} {a:Option Addr} {l:List Cp} (h:w.ownsRow B T 2 (.slice a n c) n (cpC l)) (h0:0 < l.length):∃ q,a=some ⟨q,0,none⟩∧B≤q∧q < w.heap.size∧∀ j v,(cpC l)[j]?=some v→w.cell? ⟨q,j,none⟩=some v:=by
 have hl:∀ l:List Cp,(cpC l).length=2 * l.length:=fun l=>by
  induction l with
  | nil=>rfl
  | cons c l ih=>rw [show cpC (c :: l)=[.int .i64 c.1,.string (txt c.2)]++cpC l from rfl,Aee,ih,List.length_cons];simp;omega
 have hn:n=l.length:=by have:=h.1;rw [hl] at this;omega
 rcases h.2 with ⟨h1,h2⟩ | ⟨g,cap,cur,h1,hB,hg,hc1,hc2,_,ht⟩
 ·omega
 ·injection h1 with h1 h2 h3;refine ⟨g,h1,hB,(Array.getElem?_eq_some_iff.1 hg).1,fun j v hh=>?_⟩;rw [←ht,List.getElem?_take] at hh;split at hh
  ·simp only [World.cell?,hg];rw [Array.getElem?_toList] at hh;simpa using hh
  ·cases hh
theorem Sl {w1 wy:World} {cs:Array Value} (hA:w1.alloc (.cells Dg 47)=wy):Below w1.heap.size w1 (wy.setRow w1.heap.size cs)∧Blk (wy.setRow w1.heap.size cs) w1.heap.size cs 47:=
 ⟨below_setRow (Ac hA) (Aec _) _,setRow_heap wy _ _ _ _ _ (Ae hA)⟩
def KX (w:World) (a:Option Addr) (ps:List Cp):Prop:=0 < ps.length→ps.length≤maxLen∧∃ q,a=some ⟨q,0,none⟩∧q < w.heap.size∧∀ j v,(cpC ps)[j]?=some v→w.cell? ⟨q,j,none⟩=some v
theorem KX.below {w w':World} {a:Option Addr} {ps:List Cp} (h:KX w a ps) (hb:Below w.heap.size w w'):KX w' a ps:=fun h0=>by
 obtain ⟨hm,q,ha,hl,hc⟩:=h h0;exact ⟨hm,q,ha,Aef hl hb.size,fun j v hj=>(hb.cell (p:=⟨q,j,none⟩) hl).trans (hc j v hj)⟩
theorem ZE {w:World} {B n c:Nat} {T:TypeId} {a:Option Addr} {l:List Cp} (h:w.ownsRow B T 2 (.slice a n c) n (cpC l)) (h0:0 < l.length):l.length≤maxLen:=by
 have hl:∀ l:List Cp,(cpC l).length=2 * l.length:=fun l=>by
  induction l with
  | nil=>rfl
  | cons c l ih=>rw [show cpC (c :: l)=[.int .i64 c.1,.string (txt c.2)]++cpC l from rfl,Aee,ih,List.length_cons];simp;omega
 have hn:n=l.length:=by have:=h.1;rw [hl] at this;omega
 rcases h.2 with ⟨_,h2⟩ | ⟨g,cap,cur,h1,_,_,hc1,hc2,_⟩
 ·omega
 ·omega
theorem Xy:∀ (ps:List Cp) (j:Nat) (h:j < ps.length),(cpC ps)[j * 2]?=some (.int .i64 ps[j].1)∧(cpC ps)[j * 2+1]?=some (.string (txt ps[j].2))
 | c :: ps,0,h=>⟨rfl,rfl⟩
 | c :: ps,j+1,h=>by
  have ih:=Xy ps j (by simpa using h);rw [show cpC (c :: ps)=.int .i64 c.1 :: .string (txt c.2) :: cpC ps from rfl,show (j+1) * 2=j * 2+1+1 by omega];exact ih
theorem ZF (ps:List Cp) (pa pb:Option Addr) (c1 c2:Nat) (w:World) (h1:KX w pa ps) (h2:KX w pb ps) :
  Calls Tryz.prog 29 #[.slice pa ps.length c1,.slice pb ps.length c2] w fun e w'=>e=.returned (.bool true)∧Below w.heap.size w w':=by
 have H1:=Ad5 h1;have H2:=Ad5 h2;clear h1 h2;go_enter Tryz.func29,Tryz.ntmps29;go_wp2_with fail
 go_loopw [13] (fun i wr=>∃ j:Nat,j≤ps.length∧i=.int .i64 j∧Below w.heap.size w wr) (fun i _=>ps.length - (intOf i).toNat)
 case atStart=>exact ⟨0,by omega,rfl,Aeh _ _⟩
 case round=>
  obtain ⟨j,hj,rfl,hb⟩:=hrel;have HB:=Ad5 hb;clear hb;by_cases hlt:j < ps.length
  ·have hji:(j:Int) < (ps.length:Int):=by omega
   have hy0:(0:Int)≤(j:Int):=by omega
   obtain ⟨hmx,q1,rfl,_,k1⟩:=(H1.out.below HB.out) (by omega);have Wj:IntKind.i64.wrap ((j:Int)+1)=(j:Int)+1:=Aej _ (by unfold maxLen at hmx;omega);obtain ⟨_,q2,rfl,_,k2⟩:=(H2.out.below HB.out) (by omega);obtain ⟨e1,e2⟩:=Xy ps j hlt;have a1:=k1 _ _ e1;have a2:=k1 _ _ e2;have b1:=k2 _ _ e1;have b2:=k2 _ _ e2;generalize txt ps[j].2=S at a2 b2;generalize ps[j].1=N at a1 b1;clear k1 k2 e1 e2;go_upto_region 6 with fail
   go_quiet (fail)
   generalize nq=n1;have HB2:=Ad5 (below_drewN HB.out n1);clear a1 a2 b1 b2;go_wp2_with fail
   go_roundw
   case rel=>exact ⟨j+1,by omega,by go_num,HB2.out⟩
   case measure=>simp [intOf];omega
  ·obtain rfl:j=ps.length:=by omega
   go_wp2_with fail
   go_ret;exact ⟨rfl,HB.out⟩
theorem Xz {F:Nat→Prop} {w:World}:∀ {t:Option Nd} {v:Value},TrO F w t v→NdX F w (t.getD .empty) v
 | none,_,h=>⟨1,.inr h⟩
 | some _,_,h=>h
theorem Aai {w:World} {b:Nat} {T:TypeId} {v0 v1 v2 v3 v4 v5 v6:Value} (h:Blk w b #[v0,v1,v2,v3,v4,v5,v6] T) :
  (w.cell? ⟨b,1,none⟩=some v1∧w.cell? ⟨b,2,none⟩=some v2∧w.cell? ⟨b,3,none⟩=some v3∧w.cell? ⟨b,4,none⟩=some v4∧w.cell? ⟨b,5,none⟩=some v5∧w.cell? ⟨b,6,none⟩=some v6)∧b < w.heap.size:=
 ⟨⟨(h.cell 1).trans rfl,(h.cell 2).trans rfl,(h.cell 3).trans rfl,(h.cell 4).trans rfl,(h.cell 5).trans rfl,(h.cell 6).trans rfl⟩,h.lt⟩
theorem X0 (b:Sb) (ts tu:Value) (pa pb:Option Addr) (c1 c2:Nat) (w:World) (hts:TrO (fun b=>b < w.heap.size) w b.tree ts) (htu:TrO (fun b=>b < w.heap.size) w b.tree tu) (hf:Aw (b.tree.getD .empty)≤4000000) (h1:KX w pa b.parts) (h2:KX w pb b.parts) :
  Calls Tryz.prog 20 #[.agg #[.string (txt b.text),ts,.slice pa b.parts.length c1,.int .i64 (b.nth:Int),.bool b.all,.bool b.prt,.string (txt b.file)],.agg #[.string (txt b.text),tu,.slice pb b.parts.length c2,.int .i64 (b.nth:Int),.bool b.all,.bool b.prt,.string (txt b.file)]] w fun e w'=>e=.returned (.bool true)∧Below w.heap.size w w':=by
 have hE:=fun W (hb:Below w.heap.size w W)=>ZF b.parts pa pb c1 c2 W (h1.below hb) (h2.below hb)
 have hS:=fun W (hb:Below w.heap.size w W)=>LQ (b.tree.getD .empty) (b.tree.getD .empty) ts tu W (Xz (DE hb hts)) (Xz (DE hb htu)) hf
 rw [DX] at hS;have s1:=hts.shape;have s2:=htu.shape;clear hts htu hf h1 h2;generalize txt b.text=T at hE hS ⊢;generalize txt b.file=U at hE hS ⊢;generalize b.parts.length=n at hE ⊢;generalize (b.nth:Int)=k;generalize b.all=x1;generalize b.prt=x2;rcases s1 with ⟨T8,q8,rfl⟩ | rfl <;> rcases s2 with ⟨T9,q9,rfl⟩ | rfl
 all_goals
  go_enter Tryz.func20,Tryz.ntmps20;go_upto_region 1 with fail;generalize hW1:w.alloc _=W1;generalize hW2:W1.alloc _=W2;have hX:=(Ae hW1).below (Ac hW2) (Ae hW1).lt;have hY:=Ae hW2;have B2:=Ad5 ((Ac hW1).trans ((Ac hW2).mono (Ac hW1).size));have hp:W1.heap.size=w.heap.size+1:=by rw [←hW1];exact World.size_alloc _ _
  rw [hp] at hY;clear hp;generalize w.heap.size+1=p at hY ⊢;obtain ⟨⟨x1',x2',x3',x4',x5',x6'⟩,hxl⟩:=Aai hX;obtain ⟨⟨y1',y2',y3',y4',y5',y6'⟩,hyl⟩:=Aai hY;have HX:=Ad5 hX;have HY:=Ad5 hY;clear hX hY hW1 hW2;go_wp2_with (first
   | (go_at_call 28;refine (hS _ B2.out).mono ?_;rintro e w3 ⟨rfl,b3⟩;have B3:=Ad5 (B2.out.trans (b3.mono B2.out.size));(have u2:=(b3.cell (p:=⟨w.heap.size,2,none⟩) hxl).trans x2');(have v2:=(b3.cell (p:=⟨p,2,none⟩) hyl).trans y2');clear b3 hS)
   | (go_at_call 29;refine (hE _ B3.out).mono ?_;rintro e w4 ⟨rfl,b4⟩))
  go_ret;exact ⟨rfl,B3.out.trans (b4.mono B3.out.size)⟩
structure CV where
 c:Cmd
 ta:Value
 tb:Value
 ts:Value
 pa:Option Addr
 pc:Nat
def CV.cells (v:CV):Array Value:=ED v.c v.ta v.tb v.ts (.slice v.pa v.c.sub.parts.length v.pc)
structure CV.ok (F:Nat→Prop) (w:World) (v:CV):Prop where
 a:TrO F w v.c.g.a.tree v.ta
 b:TrO F w v.c.g.b.tree v.tb
 s:TrO F w v.c.sub.tree v.ts
 p:0 < v.c.sub.parts.length→v.c.sub.parts.length≤maxLen∧∃ q,v.pa=some ⟨q,0,none⟩∧F q∧q < w.heap.size∧∀ j u,(cpC v.c.sub.parts)[j]?=some u→w.cell? ⟨q,j,none⟩=some u
theorem CV.ok.keep {F G:Nat→Prop} {w w':World} {v:CV} (h:v.ok F w) (hz:w.heap.size≤w'.heap.size) (hk:∀ b,F b→b < w.heap.size→G b∧w'.heap[b]?=w.heap[b]?):v.ok G w':=by
 have ht:∀ {t:Option Nd} {x:Value},TrO F w t x→TrO G w' t x:=fun k=>TrO.keep hz (fun b hb hl=>⟨(hk b hb hl).1,fun o=>Aek (w:=w) (a:=⟨b,o,none⟩) (hk b hb hl).2⟩) k
 refine ⟨ht h.a,ht h.b,ht h.s,fun h0=>?_⟩;obtain ⟨hm,q,ha,hf,hl,hc⟩:=h.p h0;exact ⟨hm,q,ha,(hk q hf hl).1,Aef hl hz,fun j u hj=>(Aek (w:=w) (a:=⟨q,j,none⟩) (hk q hf hl).2).trans (hc j u hj)⟩
theorem CV.ok.prow {F:Nat→Prop} {w:World} {v:CV} (h:v.ok F w):KX w v.pa v.c.sub.parts:=fun h0=>by
 obtain ⟨hm,q,ha,_,hl,hc⟩:=h.p h0;exact ⟨hm,q,ha,hl,hc⟩
def opC (l:List Nat):List Value:=l.map fun (n:Nat)=>.int .i64 (n:Int)
structure RV where
 st:SS
 ls:List (List UInt8)
 vs:List CV
 ca:Option Addr
 cc:Nat
 ma:Option Addr
 mc:Nat
 oa:Option Addr
 oc:Nat
abbrev RV.cv (r:RV):Value:=.slice r.ca r.vs.length r.cc
abbrev RV.mv (r:RV):Value:=.slice r.ma r.st.ms.length r.mc
abbrev RV.ov (r:RV):Value:=.slice r.oa r.st.op.length r.oc
def RV.own (r:RV) (p mp:Nat):List (Option Nat):=[some p,some mp,r.cv.ownBlock,r.mv.ownBlock,r.ov.ownBlock]
def Apart (l:List (Option Nat)):Prop:=l.Pairwise fun a b=>a=none∨a≠b
def RV.fr (r:RV) (B p mp b:Nat):Prop:=B≤b∧some b ∉ r.own p mp
theorem Apart.put {l k:List (Option Nat)} {x y:Option Nat} (h:Apart (l++x :: k)) (n:Nat) (hy:y=x∨y=some n) (hn:∀ b,some b∈l++k→b < n):Apart (l++y :: k):=by
 rcases hy with rfl | rfl
 ·exact h
 unfold Apart at h ⊢;rw [List.pairwise_append,List.pairwise_cons] at h ⊢;obtain ⟨h1,⟨h2,h3⟩,h4⟩:=h;refine ⟨h1,⟨fun b hb=>.inr fun e=>?_,h3⟩,fun a ha b hb=>?_⟩
 ·have:=hn n (by rw [e];exact List.mem_append_right _ hb);omega
 ·rcases Ael.1 hb with rfl | hb
  ·cases a with
   | none=>exact .inl rfl
   | some a=>exact .inr fun e=>by injection e with e;have:=hn a (List.mem_append_left _ ha);omega
  ·exact h4 a ha b (List.mem_cons_of_mem _ hb)
def LabAt (w:World) (b:Nat) (ls:List (List UInt8)):Prop:=∃ (n:Nat) (D:DataW Unit),n≤ls.length∧w.ownsMap Tryz.prog 9 (plainElem Tryz.prog 3) b n D∧∀ x:List UInt8,D.atKey (.string x) (.lit (.int .i64 0))=.lit (.int .i64 (if x∈ls then 1 else 0))
theorem LabAt.same {w w':World} {b:Nat} {ls:List (List UInt8)} (h:LabAt w b ls) (hs:w'.heap[b]?=w.heap[b]?):LabAt w' b ls:=by
 obtain ⟨n,D,hn,⟨es,clock,hb,F,hz,hD⟩,ha⟩:=h;exact ⟨n,D,hn,⟨es,clock,hs.trans hb,F,hz,hD⟩,ha⟩
theorem LabAt.put {w':World} {b n:Nat} {ls:List (List UInt8)} {D:DataW Unit} {x:List UInt8} (hn:n≤ls.length) (hD:Go.Maps.IsMap D) (ha:∀ x:List UInt8,D.atKey (.string x) (.lit (.int .i64 0))=.lit (.int .i64 (if x∈ls then 1 else 0))) (h:w'.ownsMap Tryz.prog 9 (plainElem Tryz.prog 3) b (n+1) (D.put (.string x) (.lit (.int .i64 1)))):LabAt w' b (ls++[x]):=by
 refine ⟨n+1,_,by simp;omega,h,fun y=>?_⟩;by_cases e:y=x
 ·subst e;rw [Maps.atKey_put_same hD (by simp [WideAt.IsKeyLit])];simp
 ·rw [Maps.atKey_put_other (by intro h;injection h with h;exact e h),ha y];simp [e]
structure ScR (W:World) (p mp:Nat) (r:RV) (w:World):Prop where
 b0:Below W.heap.size W w
 pB:W.heap.size≤p
 mB:W.heap.size≤mp
 pl:p < w.heap.size
 ap:Apart (r.own p mp)
 cs:r.vs.map (·.c)=r.st.cs
 cr:w.ownsRow W.heap.size 47 20 r.cv r.vs.length (r.vs.flatMap fun v=>v.cells.toList)
 mr:w.ownsRow W.heap.size 33 2 r.mv r.st.ms.length (wmC r.st.ms)
 or:w.ownsRow W.heap.size 3 1 r.ov r.st.op.length (opC r.st.op)
 la:LabAt w mp r.ls
 ok:∀ v∈r.vs,v.ok (r.fr W.heap.size p mp) w
variable {W w w':World} {p mp:Nat} {r r':RV}
theorem ScR.lt (h:ScR W p mp r w) {b:Nat} (hb:some b∈r.own p mp):W.heap.size≤b∧b < w.heap.size:=by
 simp only [RV.own,Ael,Option.some.injEq,List.not_mem_nil,or_false] at hb;rcases hb with rfl | rfl | hb | hb | hb
 ·exact ⟨h.pB,h.pl⟩
 ·exact ⟨h.mB,by obtain ⟨n,D,_,h1,_⟩:=h.la;exact h1.lt⟩
 ·exact ⟨AL h.cr _ hb.symm,AB h.cr _ hb.symm⟩
 ·exact ⟨AL h.mr _ hb.symm,AB h.mr _ hb.symm⟩
 ·exact ⟨AL h.or _ hb.symm,AB h.or _ hb.symm⟩
theorem ScR.turn (h:ScR W p mp r w) {x:Option Nat} (hg:w.grownBy w' x) (hx:∀ b,x=some b→some b∈r.own p mp) (ap:Apart (r'.own p mp)) (hn:∀ b,some b∈r'.own p mp→some b∈r.own p mp∨w.heap.size≤b)
  (cs:r'.vs.map (·.c)=r'.st.cs) (cr:w'.ownsRow W.heap.size 47 20 r'.cv r'.vs.length (r'.vs.flatMap fun v=>v.cells.toList)) (mr:w'.ownsRow W.heap.size 33 2 r'.mv r'.st.ms.length (wmC r'.st.ms))
  (or:w'.ownsRow W.heap.size 3 1 r'.ov r'.st.op.length (opC r'.st.op)) (la:LabAt w' mp r'.ls) (ok:∀ v∈r'.vs,v∈r.vs∨v.ok (r.fr W.heap.size p mp) w):ScR W p mp r' w':=by
 refine ⟨h.b0.grown hg h.b0.size fun b hb=>(h.lt (hx b hb)).1,h.pB,h.mB,Aef h.pl hg.size,ap,cs,cr,mr,or,la,fun v hv=>?_⟩;have hk:v.ok (r.fr W.heap.size p mp) w:=(ok v hv).elim (h.ok v) id;exact hk.keep hg.size fun b hb hl=>⟨⟨hb.1,fun hm=>(hn b hm).elim hb.2 fun e=>by omega⟩,hg.block b hl fun e=>hb.2 (hx b e.symm)⟩
theorem ZG {a b:Nat} {c d e:Option Nat} (h:Apart [some a,some b,c,d,e]):a≠b∧(c≠some a∧d≠some a∧e≠some a)∧(c≠some b∧d≠some b∧e≠some b)∧(∀ x,c=some x→d≠some x∧e≠some x)∧∀ x,d=some x→e≠some x:=by
 simp only [Apart,List.pairwise_cons,Ael,List.not_mem_nil,or_false,forall_eq_or_imp,forall_eq,reduceCtorEq,false_or] at h;obtain ⟨⟨h1,h2,h3,h4⟩,⟨h5,h6,h7⟩,⟨h8,h9⟩,h10,_⟩:=h;refine ⟨fun e=>h1 (by rw [e]),⟨fun e=>h2 e.symm,fun e=>h3 e.symm,fun e=>h4 e.symm⟩,⟨fun e=>h5 e.symm,fun e=>h6 e.symm,fun e=>h7 e.symm⟩,fun x e=>?_,fun x e f=>?_⟩
 ·subst e;simp at h8 h9;exact ⟨fun e=>h8 e.symm,fun e=>h9 e.symm⟩
 ·subst e f;simp at h10
theorem Rf (hb:Below w.heap.size w w'):w.grownBy w' none:=⟨hb.os,hb.tape,hb.output,hb.size,fun i hi _=>hb.block i hi⟩
theorem Ux (w:World) (p j:Nat) (v:Value):w.grownBy (w.setCell ⟨p,j,none⟩ v) (some p):=⟨rfl,rfl,rfl,by simp [World.setCell],fun i _ hi=>Aei _ _ _ _ fun e=>hi (by rw [e])⟩
theorem BU {B:Nat} {e:TypeId} {size n:Nat} {v:Value} {us:List Value} {x:Option Nat} (h:w.ownsRow B e size v n us) (hg:w.grownBy w' x) (hx:∀ b,v.ownBlock=some b→x≠some b):w'.ownsRow B e size v n us:=
 Aa h fun b hb=>hg.block b (AB h b hb) fun e=>hx b hb e.symm
theorem ScR.step (h:ScR W p mp r w) (hb:Below w.heap.size w w'):ScR W p mp r w':=
 h.turn (Rf hb) (fun _ e=>by cases e) h.ap (fun _ hb=>.inl hb) h.cs (Ag h.cr hb) (Ag h.mr hb) (Ag h.or hb) (h.la.same (hb.block mp (h.lt (by simp [RV.own])).2)) fun v hv=>.inl hv
theorem ScR.setp (h:ScR W p mp r w) (j:Nat) (v:Value):ScR W p mp r (w.setCell ⟨p,j,none⟩ v):=by
 obtain ⟨a1,⟨a2,a3,a4⟩,_⟩:=ZG h.ap;have hg:=Ux w p j v;refine h.turn hg (fun _ e=>by rw [←e];simp [RV.own]) h.ap (fun _ hb=>.inl hb) h.cs (BU h.cr hg fun b hb e=>a2 (hb.trans e.symm)) (BU h.mr hg fun b hb e=>a3 (hb.trans e.symm)) (BU h.or hg fun b hb e=>a4 (hb.trans e.symm)) (h.la.same (hg.block mp (h.lt (by simp [RV.own])).2 fun e=>a1 (by injection e with e;exact e.symm))) fun v hv=>.inl hv
theorem ScR.open (h:ScR W p mp r w) {n:Nat} {oa:Option Addr} {oc:Nat} (hg:w.grownBy w' r.ov.ownBlock) (ho:w'.ownsRow W.heap.size 3 1 (.slice oa (r.st.op.length+1) oc) (r.st.op.length+1) (opC r.st.op++[.int .i64 (n:Int)])) (hat:(Value.slice oa (r.st.op.length+1) oc).ownBlock=r.ov.ownBlock∨(Value.slice oa (r.st.op.length+1) oc).ownBlock=some w.heap.size) :
  ScR W p mp { r with st:={ r.st with op:=r.st.op++[n] },oa:=oa,oc:=oc } w':=by
 obtain ⟨_,⟨_,_,a4⟩,⟨_,_,b4⟩,c1,d1⟩:=ZG h.ap;have hl:(r.st.op++[n]).length=r.st.op.length+1:=by simp
 have ha:Apart (RV.own { r with st:={ r.st with op:=r.st.op++[n] },oa:=oa,oc:=oc } p mp):=by
  unfold RV.own;simp only [RV.cv,RV.mv,RV.ov];rw [hl];exact Apart.put (l:=[some p,some mp,r.cv.ownBlock,r.mv.ownBlock]) (k:=[]) h.ap w.heap.size hat fun b hb=>(h.lt (by rw [List.append_nil] at hb;exact List.mem_append_left [r.ov.ownBlock] hb)).2
 refine h.turn hg (fun b e=>by simp [RV.own,e]) ha (fun b hb=>?_) h.cs (BU h.cr hg fun b hb e=>(c1 b hb).2 e) (BU h.mr hg fun b hb e=>d1 b hb e) ?_ (h.la.same (hg.block mp (h.lt (by simp [RV.own])).2 fun e=>b4 e.symm)) fun v hv=>.inl hv
 ·simp only [RV.own,RV.cv,RV.mv,RV.ov,hl,Ael,List.not_mem_nil,or_false] at hb ⊢;rcases hb with hb | hb | hb | hb | hb
  ·exact .inl (.inl hb)
  ·exact .inl (.inr (.inl hb))
  ·exact .inl (.inr (.inr (.inl hb)))
  ·exact .inl (.inr (.inr (.inr (.inl hb))))
  ·rcases hat with e | e
   ·exact .inl (.inr (.inr (.inr (.inr (hb.trans e)))))
   ·rw [e] at hb;injection hb with hb;exact .inr (by omega)
 ·show World.ownsRow _ _ _ 1 (.slice oa (r.st.op++[n]).length oc) (r.st.op++[n]).length (opC (r.st.op++[n]));rw [hl,opC,List.map_append];exact ho
theorem ZH {B:Nat} {e:TypeId} {a:Option Addr} {n c k:Nat} {us:List Value} (h:w.ownsRow B e 1 (.slice a n c) n us) (hk:k≤n):w.ownsRow B e 1 (.slice a k c) k (us.take k):=by
 obtain ⟨h1,h2⟩:=h;refine ⟨by rw [List.length_take];omega,?_⟩;rcases h2 with ⟨h2,h3⟩ | ⟨g,cap,cur,h2,h3,h4,h5,h6,h7,h8⟩
 ·injection h2 with e1 e2 e3;subst e1 e3;exact .inl ⟨by rw [show k=0 by omega],by omega⟩
 ·injection h2 with e1 e2 e3;subst e1 e3;exact .inr ⟨g,c,cur,rfl,h3,h4,by omega,h6,h7,by rw [←h8,List.take_take];congr 1;omega⟩
theorem ScR.pop (h:ScR W p mp r w):ScR W p mp { r with st:={ r.st with op:=r.st.op.dropLast } } w:=by
 have ho:RV.own { r with st:={ r.st with op:=r.st.op.dropLast } } p mp=r.own p mp:=by
  unfold RV.own;simp only [RV.cv,RV.mv,RV.ov];cases r.oa <;> rfl
 refine h.turn (x:=none) ⟨rfl,rfl,rfl,Aec _,fun _ _ _=>rfl⟩ (fun _ e=>by cases e) (by rw [ho];exact h.ap) (fun b hb=>.inl (by rw [ho] at hb;exact hb)) h.cs h.cr h.mr ?_ h.la fun v hv=>.inl hv
 have h9:=ZH h.or (k:=r.st.op.dropLast.length) (by rw [List.length_dropLast];omega);rw [opC,←List.map_take,show r.st.op.take r.st.op.dropLast.length=r.st.op.dropLast by rw [List.length_dropLast,List.dropLast_eq_take]] at h9;exact h9
theorem ScR.label (h:ScR W p mp r w) {ls:List (List UInt8)} (hg:w.grownBy w' (some mp)) (hl:LabAt w' mp ls):ScR W p mp { r with ls:=ls } w':=by
 obtain ⟨_,_,⟨b2,b3,b4⟩,_⟩:=ZG h.ap;exact h.turn hg (fun _ e=>by rw [←e];simp [RV.own]) h.ap (fun _ hb=>.inl hb) h.cs (BU h.cr hg fun b hb e=>b2 (hb.trans e.symm)) (BU h.mr hg fun b hb e=>b3 (hb.trans e.symm)) (BU h.or hg fun b hb e=>b4 (hb.trans e.symm)) hl fun v hv=>.inl hv
theorem ScR.cmd (h:ScR W p mp r w) {v:CV} {ca:Option Addr} {cc:Nat} (hg:w.grownBy w' r.cv.ownBlock) (ho:w'.ownsRow W.heap.size 47 20 (.slice ca (r.vs.length+1) cc) (r.vs.length+1) ((r.vs.flatMap fun v=>v.cells.toList)++v.cells.toList)) (hat:(Value.slice ca (r.vs.length+1) cc).ownBlock=r.cv.ownBlock∨(Value.slice ca (r.vs.length+1) cc).ownBlock=some w.heap.size) (hv:v.ok (r.fr W.heap.size p mp) w) :
  ScR W p mp { r with st:={ r.st with cs:=r.st.cs++[v.c] },vs:=r.vs++[v],ca:=ca,cc:=cc } w':=by
 obtain ⟨_,⟨a2,_,_⟩,⟨b2,_,_⟩,c1,d1⟩:=ZG h.ap;have hl:(r.vs++[v]).length=r.vs.length+1:=by simp
 have ha:Apart (RV.own { r with st:={ r.st with cs:=r.st.cs++[v.c] },vs:=r.vs++[v],ca:=ca,cc:=cc } p mp):=by
  unfold RV.own;simp only [RV.cv,RV.mv,RV.ov];rw [hl];exact Apart.put (l:=[some p,some mp]) (k:=[r.mv.ownBlock,r.ov.ownBlock]) h.ap w.heap.size hat fun b hb=>(h.lt (by simp only [RV.own,List.cons_append,List.nil_append,Ael] at hb ⊢;rcases hb with hb | hb | hb | hb | hb;exact .inl hb;exact .inr (.inl hb);exact .inr (.inr (.inr (.inl hb)));exact .inr (.inr (.inr (.inr (.inl hb))));cases hb)).2
 refine h.turn hg (fun b e=>by simp [RV.own,e]) ha (fun b hb=>?_) ?_ ?_ (BU h.mr hg fun b hb e=>(c1 b e).1 hb) (BU h.or hg fun b hb e=>(c1 b e).2 hb) (h.la.same (hg.block mp (h.lt (by simp [RV.own])).2 fun e=>b2 e.symm)) fun u hu=>?_
 ·simp only [RV.own,RV.cv,RV.mv,RV.ov,hl,Ael,List.not_mem_nil,or_false] at hb ⊢;rcases hb with hb | hb | hb | hb | hb
  ·exact .inl (.inl hb)
  ·exact .inl (.inr (.inl hb))
  ·rcases hat with e | e
   ·exact .inl (.inr (.inr (.inl (hb.trans e))))
   ·rw [e] at hb;injection hb with hb;exact .inr (by omega)
  ·exact .inl (.inr (.inr (.inr (.inl hb))))
  ·exact .inl (.inr (.inr (.inr (.inr hb))))
 ·simp [h.cs]
 ·show World.ownsRow _ _ _ 20 (.slice ca (r.vs++[v]).length cc) (r.vs++[v]).length _;rw [hl,List.flatMap_append];simpa using ho
 ·rcases Aem.1 hu with hu | hu
  ·exact .inl hu
  ·rw [List.mem_singleton.1 hu];exact .inr hv
theorem ScR.mark (h:ScR W p mp r w) {ms:List Wm} {n:Nat} (hn:ms.length=n) {ma:Option Addr} {mc:Nat} (hg:w.grownBy w' r.mv.ownBlock) (ho:w'.ownsRow W.heap.size 33 2 (.slice ma (r.st.ms.length+n) mc) (r.st.ms.length+n) (wmC r.st.ms++wmC ms)) (hat:(Value.slice ma (r.st.ms.length+n) mc).ownBlock=r.mv.ownBlock∨(Value.slice ma (r.st.ms.length+n) mc).ownBlock=some w.heap.size) :
  ScR W p mp { r with st:={ r.st with ms:=r.st.ms++ms },ma:=ma,mc:=mc } w':=by
 subst hn;obtain ⟨_,⟨_,a3,_⟩,⟨_,b3,_⟩,c1,d1⟩:=ZG h.ap;have hl:(r.st.ms++ms).length=r.st.ms.length+ms.length:=Aee;have ha:Apart (RV.own { r with st:={ r.st with ms:=r.st.ms++ms },ma:=ma,mc:=mc } p mp):=by
  unfold RV.own;simp only [RV.cv,RV.mv,RV.ov];rw [hl];exact Apart.put (l:=[some p,some mp,r.cv.ownBlock]) (k:=[r.ov.ownBlock]) h.ap w.heap.size hat fun b hb=>(h.lt (by simp only [RV.own,List.cons_append,List.nil_append,Ael] at hb ⊢;rcases hb with hb | hb | hb | hb | hb;exact .inl hb;exact .inr (.inl hb);exact .inr (.inr (.inl hb));exact .inr (.inr (.inr (.inr (.inl hb))));cases hb)).2
 refine h.turn hg (fun b e=>by simp [RV.own,e]) ha (fun b hb=>?_) h.cs (BU h.cr hg fun b hb e=>(c1 b hb).1 e) ?_ (BU h.or hg fun b hb e=>d1 b e hb) (h.la.same (hg.block mp (h.lt (by simp [RV.own])).2 fun e=>b3 e.symm)) fun v hv=>.inl hv
 ·simp only [RV.own,RV.cv,RV.mv,RV.ov,hl,Ael,List.not_mem_nil,or_false] at hb ⊢;rcases hb with hb | hb | hb | hb | hb
  ·exact .inl (.inl hb)
  ·exact .inl (.inr (.inl hb))
  ·exact .inl (.inr (.inr (.inl hb)))
  ·rcases hat with e | e
   ·exact .inl (.inr (.inr (.inr (.inl (hb.trans e)))))
   ·rw [e] at hb;injection hb with hb;exact .inr (by omega)
  ·exact .inl (.inr (.inr (.inr (.inr hb))))
 ·show World.ownsRow _ _ _ 2 (.slice ma (r.st.ms++ms).length mc) (r.st.ms++ms).length _;rw [hl,MK];exact ho
def RV.go (r:RV) (k:Nat):RV:={ r with st:=r.st.go k }
structure ScS (W:World) (p mp:Nat) (q:Bool) (s:ByteArray) (ext:Bool) (r:RV) (w:World):Prop where
 h:ScR W p mp r w
 b:Blk w p (scC q r.cv s ext r.st.k r.mv r.ov (.map (some mp))) 53
section
variable {W w w':World} {p mp:Nat} {q:Bool} {s:ByteArray} {ext:Bool} {r:RV}
theorem ScR.go (h:ScR W p mp r w) (k:Nat):ScR W p mp (r.go k) w:=⟨h.b0,h.pB,h.mB,h.pl,h.ap,h.cs,h.cr,h.mr,h.or,h.la,h.ok⟩
theorem ScS.step (h:ScS W p mp q s ext r w) (hb:Below w.heap.size w w'):ScS W p mp q s ext r w':=⟨h.h.step hb,h.b.below hb h.b.lt⟩
theorem ScS.drew (h:ScS W p mp q s ext r w):ScS W p mp q s ext r w.drew:=h.step (Aeh _ _).drew
theorem ScS.drewN (h:ScS W p mp q s ext r w) (n:Nat):ScS W p mp q s ext r (w.drewN n):=h.step (below_drewN (Aeh _ _) n)
theorem ScS.go (h:ScS W p mp q s ext r w) (k:Nat):ScS W p mp q s ext (r.go k) (w.setCell ⟨p,4,none⟩ (.int .i64 (k:Int))):=⟨(h.h.setp 4 _).go k,h.b.set 4 _⟩
theorem ScS.gl (h:ScS W p mp q s ext r w) (hG:Gl W):Gl w:=hG.up h.h.b0
theorem ScS.t (h:ScS W p mp q s ext r w):w.cell? ⟨p,2,none⟩=some (.string s):=(h.b.cell 2).trans rfl
theorem ScS.k (h:ScS W p mp q s ext r w):w.cell? ⟨p,4,none⟩=some (.int .i64 (r.st.k:Int)):=(h.b.cell 4).trans rfl
end
theorem Aaj (s:ByteArray) (k:Nat) (hs:s.size≤4000) (hk:k≤s.size) (w:World):Calls Tryz.prog 22 #[.string s,.int .i64 (k:Int)] w fun e w'=>e=.returned (.int .i64 (C4 s.data.toList k:Int))∧Below w.heap.size w w':=by
 have e:=Pl s k w (by omega);rw [D4 _ _ _ (by rw [←Ad];exact hk)] at e;exact e
theorem Rg (W:World) (p mp:Nat) (q:Bool) (s:ByteArray) (ext:Bool) (r:RV) (w:World) (h:ScS W p mp q s ext r w) (hs:s.size≤4000) (hk:r.st.k≤s.size) (hG:Gl W) :
  Calls Tryz.prog 16 #[.pointer (some ⟨p,0,none⟩)] w fun e w'=>e=.returned (.tuple #[])∧ScS W p mp q s ext (r.go (Aq s.data.toList r.st.k)) w':=by
 have hB:=Aaj s r.st.k hs hk;have hsp:=Ms (L:=s.data.toList) (k:=r.st.k) (by simpa using hk);obtain ⟨R,hR⟩:∃ R,Aq s.data.toList r.st.k=R:=⟨_,rfl⟩;rw [hR];unfold Aq at hR;obtain ⟨K,hK⟩:∃ K,C4 s.data.toList r.st.k=K:=⟨_,rfl⟩;rw [hK] at hB hR hsp;rw [←Ad] at hsp hR;have HH:=Ad5 h;have HR:=Ad5 hR;have k2:=h.t;have k4:=h.k;clear h hK hk hR;go_enter Tryz.func16,Tryz.ntmps16;go_upto_region 0 with fail;go_cut [] (fun wx=>ScS W p mp q s ext (r.go K) wx)
 case first=>
  go_region_law (first | (go_simp;go_at_call 22;refine (hB _).mono ?_;rintro e w1 ⟨rfl,b1⟩;have H1:=Ad5 (by first | exact HH.out.step b1 | exact HH.out.drew.step b1:ScS W p mp q s ext r w1);have f4:=H1.out.b.frozen 4;have g4:=H1.out.k;clear b1))
  all_goals
   (try go_wp2_with fail)
   go_meet;exact H1.out.go K
 case rest=>
  have H2:=Ad5 hcut;clear hcut k2 k4 hB HH;go_wp2_with fail
  go_loopg [] (s.size+1) (fun gk wr=>∃ k,ScS W p mp q s ext (r.go k) wr∧BC s.data.toList gk k=R∧s.size - k < gk∧k≤s.size)
  case atStart=>exact ⟨K,H2.out,HR.out,by omega,hsp⟩
  case round=>
   obtain ⟨k,hc,hf,hgk,hk⟩:=hrel;obtain ⟨m,rfl⟩:∃ m,gk=m+1:=⟨gk - 1,by omega⟩;clear HR H2 hsp;rw [ER] at hf;have hpf:=fun w=>MZ s k 35 w
   have k2:=hc.t;have k4:wr.cell? ⟨p,4,none⟩=some (.int .i64 (k:Int)):=hc.k;have h0:(0:Int)≤(k:Int):=by omega
   have h1:(k:Int)≤(s.size:Int):=by omega
   have HC:=Ad5 hc;clear hc;by_cases hh:(s.data.toList.drop k).head?=some 35
   ·rw [if_pos hh] at hf;rw [decide_eq_true hh] at hpf;have Hf:=Ad5 hf;have hln:=fun w1 (H:ScS W p mp q s ext (r.go k) w1)=>Lw s k p w1 hs hk (H.gl hG) H.b.lt H.t H.k
    have hle:=Mt (L:=s.data.toList) (k:=k) (by simpa using hk);have hsp:=Ms (L:=s.data.toList) hle;have hadv:=(P2 hh).1;have hge:=Lo s.data.toList (k+Dv s.data.toList k);rw [←Ad] at hle hsp;have hlz:(txt ((s.data.toList.drop k).take (Dv s.data.toList k))).size=Dv s.data.toList k:=by
     rw [CR,List.length_take,List.length_drop,←Ad];omega
    generalize txt ((s.data.toList.drop k).take (Dv s.data.toList k))=T at hln hlz;generalize Dv s.data.toList k=n at *;have Wn:IntKind.i64.wrap ((k:Int)+(T.size:Int))=((k+n:Nat):Int):=by rw [Aej _ (by omega)];omega
    have hB:=Aaj s (k+n) hs hle;generalize C4 s.data.toList (k+n)=K2 at *;clear hf hh hlz;go_upto_region 1 with fail;go_cut [23] (fun s23 wx=>s23=.bool true∧ScS W p mp q s ext (r.go k) wx)
    case first=>
     go_region_law (first | (go_simp;go_at_call 23;refine (hpf _).mono ?_;rintro e w1 ⟨rfl,hw⟩;have hw2:=hw.symm;subst hw2))
     all_goals
      (try go_wp2_with fail)
      go_meet;exact ⟨rfl,by first | exact HC.out.drew | exact HC.out⟩
    case rest=>
     obtain ⟨rfl,hx⟩:=hcut;have HX:=Ad5 hx;have k2:=hx.t;have k4:wc.cell? ⟨p,4,none⟩=some (.int .i64 (k:Int)):=hx.k;have hln2:=hln _ hx.drew;clear hx hpf hln HC;go_upto_region 2 with fail
     go_region_law (first
      | (go_simp;go_at_call 15;refine hln2.mono ?_;clear hln2;rintro e w1 ⟨rfl,b1⟩;have H1:=Ad5 (HX.out.drew.step b1);have y2:=H1.out.t;have y4:w1.cell? ⟨p,4,none⟩=some (.int .i64 (k:Int)):=H1.out.k;clear b1)
      | (go_simp;go_at_call 22;refine (hB _).mono ?_;rintro e w2 ⟨rfl,b2⟩;have H2:=Ad5 (H1.out.step b2);have f4:=H2.out.b.frozen 4;have g4:w2.cell? ⟨p,4,none⟩=some (.int .i64 (k:Int)):=H2.out.k;clear b2))
     all_goals
      (try go_wp2_with fail)
      go_roundg m
      case rel=>exact ⟨K2,H2.out.go K2,Hf.out,by omega,by omega⟩
      case measure=>omega
   ·rw [if_neg hh] at hf;rw [decide_eq_false hh] at hpf;subst hf;go_upto_region 1 with fail
    go_region_law (first | (go_simp;go_at_call 23;refine (hpf _).mono ?_;rintro e w1 ⟨rfl,hw⟩;have hw2:=hw.symm;subst hw2))
    all_goals
     go_wp2_with fail
     go_end0;exact ⟨rfl,by first | exact HC.out.drew | exact HC.out⟩
end
section
open Go Go.RowKit
theorem FW {a b:UInt8} (h:a≠b):((a.toNat:Int) == (b.toNat:Int))=false:=by
 have:¬ (a.toNat:Int)=(b.toNat:Int):=fun e=>h (UInt8.toNat_inj.1 (by omega))
 simpa using this
theorem GJ {w:World} {b:Nat} {T:TypeId} {c:Cmd} {ta tb ts pv:Value} (h:Blk w b (ED c ta tb ts pv) T) :
  w.cell? ⟨b,0,none⟩=some (.int .i64 (c.pl:Int))∧w.cell? ⟨b,10,none⟩=some (.int .u8 c.name.toNat)∧w.cell? ⟨b,11,none⟩=some (.string (txt c.arg)):=
 ⟨(h.cell 0).trans rfl,(h.cell 10).trans rfl,(h.cell 11).trans rfl⟩
theorem X1:∃ i,Tryz.prog.info? 3=some i∧i.zero=some (.int .i64 0)∧i.size=1∧i.bytes=8:=by
 have h:(Tryz.prog.info? 3).map (fun i=>(i.zero,i.size,i.bytes))=some (some (.int .i64 0),1,8):=by kernel_rfl
 obtain ⟨i,hi,he⟩:=Option.map_eq_some_iff.1 h;injection he with h1 h2;injection h2 with h2 h3;exact ⟨i,hi,h1,h2,h3⟩
def RV.fit (r:RV) (c:Cmd) (oa:Option Addr) (oc:Nat):RV:={ r with st:={ r.st with op:=(AH r.st c).2 },oa:=oa,oc:=oc,ls:=if c.name=58 then r.ls++[c.arg] else r.ls }
def Ik (W:World) (p mp:Nat) (q:Bool) (s:ByteArray) (ext:Bool) (r:RV) (c:Cmd) (w:World) (e:Ending) (w':World):Prop:=
 e=.returned (.int .i64 ((AH r.st c).1:Int))∧Below W.heap.size W w'∧(w.heap.size≤w'.heap.size∧((AH r.st c).1≠0→Below w.heap.size w w'))∧((AH r.st c).1=0→∃ oa oc,ScS W p mp q s ext (r.fit c oa oc) w'∧∀ b,W.heap.size≤b→b < w.heap.size→some b ∉ r.own p mp→w'.heap[b]?=w.heap[b]?∧some b ∉ (r.fit c oa oc).own p mp)
theorem Ik.bad {W w w':World} {p mp:Nat} {q:Bool} {s:ByteArray} {ext:Bool} {r:RV} {c:Cmd} {n:Nat} {l:List Nat} (hF:AH r.st c=(n,l)) (hn:n≠0) (hb:Below W.heap.size W w') (hz:Below w.heap.size w w'):Ik W p mp q s ext r c w (.returned (.int .i64 (n:Int))) w':=by
 unfold Ik;rw [hF];exact ⟨rfl,hb,⟨hz.size,fun _=>hz⟩,fun e=>absurd e hn⟩
theorem Ik.fine {W w w':World} {p mp:Nat} {q:Bool} {s:ByteArray} {ext:Bool} {r r':RV} {c:Cmd} {l:List Nat} {oa:Option Addr} {oc:Nat} (hF:AH r.st c=(0,l)) (hr:r.fit c oa oc=r') (h:ScS W p mp q s ext r' w') (hz:w.heap.size≤w'.heap.size) (hk:∀ b,W.heap.size≤b→b < w.heap.size→some b ∉ r.own p mp→w'.heap[b]?=w.heap[b]?∧some b ∉ r'.own p mp):Ik W p mp q s ext r c w (.returned (.int .i64 0)) w':=by
 subst hr;unfold Ik;rw [hF];exact ⟨rfl,h.h.b0,⟨hz,fun e=>absurd rfl e⟩,fun _=>⟨oa,oc,h,hk⟩⟩
theorem X2 {w wx w6:World} {r r':RV} {p mp n oc:Nat} {oa:Option Addr} (hb:Below w.heap.size w wx) (hg:wx.grownBy w6 r.ov.ownBlock) (hat:(Value.slice oa n oc).ownBlock=r.ov.ownBlock∨(Value.slice oa n oc).ownBlock=some wx.heap.size) (e1:r'.cv.ownBlock=r.cv.ownBlock) (e2:r'.mv.ownBlock=r.mv.ownBlock) (e3:r'.ov.ownBlock=(Value.slice oa n oc).ownBlock) (v:Value) :
  w.heap.size≤(w6.setCell ⟨p,6,none⟩ v).heap.size∧∀ b,b < w.heap.size→some b ∉ r.own p mp→(w6.setCell ⟨p,6,none⟩ v).heap[b]?=w.heap[b]?∧some b ∉ r'.own p mp:=by
 have hz:=hb.size;have hz6:=hg.size;refine ⟨by rw [show (w6.setCell ⟨p,6,none⟩ v).heap.size=w6.heap.size by simp [World.setCell]];omega,fun b hl h=>?_⟩;unfold RV.own at h ⊢;simp only [Ael,List.not_mem_nil,or_false,not_or] at h ⊢;obtain ⟨h1,h2,h3,h4,h5⟩:=h;refine ⟨?_,h1,h2,by rw [e1];exact h3,by rw [e2];exact h4,?_⟩
 ·rw [Aei _ _ _ _ (show b≠p from fun e=>h1 (by rw [e])),hg.block b (by omega) (fun e=>h5 e),hb.block b hl]
 ·rw [e3];rcases hat with e | e
  ·rw [e];exact h5
  ·rw [e];intro e;injection e with e;omega
theorem Sm (x:List UInt8) (h:x.length≤40):keyOf Tryz.prog 9 (.string (txt x))=some (.string x):=by
 have:=WideMaps.keyOf_string_mk (P:=Tryz.prog) (k:=9) Tryz.underlying9 (s:=txt x) (by rw [CR];unfold maxLen;omega);exact this
theorem KC (w:World):(zeroValue 3).run Tryz.prog w=.ok (.int .i64 0) w:=by kernel_rfl
theorem Uy (W:World) (p mp:Nat) (q:Bool) (s:ByteArray) (ext:Bool) (r:RV) (w:World) (c:Cmd) (ta tb ts pv:Value) (h:ScS W p mp q s ext r w) (hop:r.st.op.length≤12) (hls:r.ls=scLabels r.st.cs) (hcs:r.st.cs.length≤100) (har:c.name=58→c.arg.length≤40) :
  Calls Tryz.prog 25 #[.pointer (some ⟨p,0,none⟩),.agg (ED c ta tb ts pv)] w (Ik W p mp q s ext r c w):=by
 unfold ED;have hk6:=fun W1 (H:ScS W p mp q s ext r W1)=>((H.b.cell 6).trans rfl:World.cell? W1 ⟨p,6,none⟩=some (.slice r.oa r.st.op.length r.oc))
 have hk7:=fun W1 (H:ScS W p mp q s ext r W1)=>((H.b.cell 7).trans rfl:World.cell? W1 ⟨p,7,none⟩=some (.map (some mp)))
 have hf6:=fun W1 (H:ScS W p mp q s ext r W1)=>H.b.frozen 6
 have H0:=Ad5 h;clear h;go_enter Tryz.func25,Tryz.ntmps25;go_upto_region 1 with fail;generalize hW1:w.alloc _=W1;have b1:=Ac hW1;obtain ⟨x0,x10,x11⟩:=GJ (c:=c) (ta:=ta) (tb:=tb) (ts:=ts) (pv:=pv) (Ae hW1);have H1:=Ad5 (H0.out.step b1);have B1:=Ad5 b1;have k6:=hk6 W1 H1.out;have k7:=hk7 W1 H1.out;have f6:=hf6 W1 H1.out;obtain ⟨g,hg⟩:∃ g,w.heap.size=g:=⟨_,rfl⟩;rw [hg] at x0 x10 x11 ⊢;have HG:=Ad5 hg;have HL:=Ad5 hls;have HA:=Ad5 har;clear hW1 b1 hk6 hk7 hf6 hg hls har;have BB:=Ad5 (H1.out.h.b0);have HZ:=Ad5 B1.out.size;by_cases h123:c.name=123
 ·have q1:((c.name.toNat:Int) == 123)=true:=by rw [h123];rfl
  by_cases h12:r.st.op.length=12
  ·have q2:((r.st.op.length:Int) == 12)=true:=by rw [h12];rfl
   have HFF:=Ad5 (show AH r.st c=(4,r.st.op) by unfold AH;rw [if_pos h123,if_pos h12]);clear h12 h123;go_wp2_with fail
   go_ret;exact Ik.bad HFF.out (by decide) BB.out B1.out
  ·have hF:AH r.st c=(0,r.st.op++[c.pl]):=by unfold AH;rw [if_pos h123,if_neg h12]
   have q2:((r.st.op.length:Int) == 12)=false:=beq_eq_false_iff_ne.2 (by omega);obtain ⟨i0,hi,hz0,hz1,hz2⟩:=X1;have hm1:r.st.op.length+1≤maxLen:=by unfold maxLen;omega
   have hm2:(r.st.op.length+1) * 8≤140737488355328:=by omega
   have hlo:W.heap.size≤W1.heap.size:=BB.out.size;have hplt:=H1.out.b.lt;have H58:=Ad5 (show ¬ c.name=58 by rw [h123];decide);have HFF:=Ad5 hF;clear h12 hF h123 hcs hop;go_upto_region 5 with fail
   go_region_law (first
    | (refine Av rfl _ _ 51 rfl W.heap.size 3 i0 (.int .i64 0) 1 8 Tryz.underlying51 hi hz0 hz1 hz2 rfl (by decide) (.slice r.oa r.st.op.length r.oc) r.st.op.length (opC r.st.op) rfl (Ag H1.out.h.or (by repeat (first | (with_reducible exact Aeh _ _) | refine Below.drew ?_ | refine Below.alloc ?_ (Aec _) _))) (some ⟨W1.heap.size,0,none⟩) 1 1 [.int .i64 (c.pl:Int)] rfl rfl (fun _=>⟨_,rfl,cell_one_new _ _ _⟩) (fun u hu=>by rw [List.mem_singleton.1 hu];rfl) hm1 hm2 (by simp;omega) ?_;intro v6 w6 hown6 hgrow6 hat6;obtain ⟨a6,c6,rfl⟩:=A6 hown6;have hb6:Below W1.heap.size W1 (W1.drew.alloc (.cells #[.int .i64 (c.pl:Int)] 3)):=(Aeh _ _).drew.alloc (Aec _) _;have HP:=Ad5 ((H1.out.h.step hb6).open hgrow6 hown6 hat6);have HQ:=Ad5 (AG (H1.out.b.below hb6 H1.out.b.lt) hgrow6 (ZG H1.out.h.ap).2.1.2.2);have HK:=Ad5 (X2 (p:=p) (mp:=mp) (r':={ r with st:={ r.st with op:=r.st.op++[c.pl] },oa:=a6,oc:=c6 }) hb6 hgrow6 hat6 rfl rfl (by cases a6 <;> rfl) (.slice a6 (r.st.op.length+1) c6));have f6:=HQ.out.frozen 6;have g6:w6.cell? ⟨p,6,none⟩=some (.slice r.oa r.st.op.length r.oc):=(HQ.out.cell 6).trans rfl;clear hown6 hgrow6 hat6 hb6))
   all_goals
    (try go_wp2_with fail)
    go_ret;refine Ik.fine (oa:=a6) (oc:=c6) HFF.out (show _={ r with st:={ r.st with op:=r.st.op++[c.pl] },oa:=a6,oc:=c6 } by unfold RV.fit;rw [HFF.out,if_neg H58.out]) ⟨HP.out.setp 6 _,?_⟩ (Aed HZ.out HK.out.1) fun b _ hl hb=>?_
    ·have h9:=HQ.out.set 6 (.slice a6 (r.st.op.length+1) c6);show Blk _ p (scC q r.cv s ext r.st.k r.mv (.slice a6 (r.st.op++[c.pl]).length c6) (.map (some mp))) _;rw [show (r.st.op++[c.pl]).length=r.st.op.length+1 by simp];exact h9
    ·obtain ⟨y1,y2⟩:=HK.out.2 b (Aef hl HZ.out) hb;exact ⟨y1.trans (B1.out.block b hl),y2⟩
 have q1:((c.name.toNat:Int) == 123)=false:=FW (b:=123) h123;by_cases h125:c.name=125
 ·have q2:((c.name.toNat:Int) == 125)=true:=by rw [h125];rfl
  by_cases h0:r.st.op.length=0
  ·have q3:((r.st.op.length:Int) == 0)=true:=by rw [h0];rfl
   have HFF:=Ad5 (show AH r.st c=(16,r.st.op) by unfold AH;rw [if_neg h123,if_pos h125,if_pos h0]);clear h0 h123 h125;go_wp2_with fail
   go_ret;exact Ik.bad HFF.out (by decide) BB.out B1.out
  ·have hF:AH r.st c=(0,r.st.op.dropLast):=by unfold AH;rw [if_neg h123,if_pos h125,if_neg h0]
   have q3:((r.st.op.length:Int) == 0)=false:=beq_eq_false_iff_ne.2 (by omega);have hd:r.st.op.dropLast.length=r.st.op.length - 1:=List.length_dropLast;obtain ⟨n,hn⟩:∃ n,r.st.op.dropLast.length=n:=⟨_,rfl⟩;have Wn:IntKind.i64.wrap ((r.st.op.length:Int) - 1)=(n:Int):=by rw [Aej _ (by omega)];omega
   have hcap:r.st.op.length≤r.oc:=by
    rcases H1.out.h.or.2 with ⟨e1,e2⟩ | ⟨g,cap,cur,e1,_,_,e2,_⟩
    ·omega
    ·injection e1 with _ _ e3;omega
   have hn2:n≤r.oc:=by omega
   have H58:=Ad5 (show ¬ c.name=58 by rw [h125];decide);have HFF:=Ad5 hF;have HN:=Ad5 hn;clear hF h123 h125 hd hn hcs hop;go_upto_region 9 with fail
   go_region_law (fail)
   all_goals
    (try go_wp2_with fail)
    go_ret;refine Ik.fine (oa:=r.oa) (oc:=r.oc) HFF.out (show _={ r with st:={ r.st with op:=r.st.op.dropLast } } by unfold RV.fit;rw [HFF.out,if_neg H58.out]) ⟨(H1.out.drew.h.pop).setp 6 _,?_⟩ (by simp [World.setCell];exact HZ.out) fun b _ hl hb=>⟨?_,?_⟩
    ·have h9:=H1.out.drew.b.set 6 (.slice r.oa n r.oc);rw [←HN.out] at h9 ⊢;exact h9
    ·exact (Aei _ _ _ _ (show b≠p from fun e=>hb (by rw [e];simp [RV.own]))).trans (B1.out.block b hl)
    ·simp only [RV.own,RV.cv,RV.mv,RV.ov] at hb ⊢;cases hoa:r.oa <;> (rw [hoa] at hb;exact hb)
 have q2:((c.name.toNat:Int) == 125)=false:=FW (b:=125) h125;by_cases h58:c.name=58
 ·have q3:((c.name.toNat:Int) == 58)=true:=by rw [h58];rfl
  obtain ⟨n,D,hn,hown,hat⟩:=H1.out.h.la;have hkey:=Sm c.arg (HA.out h58);obtain ⟨cc,hrun,hcc,_⟩:=hown.drew.lookup_int (Go.Maps.string_keyed Tryz.underlying9) Tryz.underlying50 Tryz.underlying3 (KC _) hkey;rw [hat c.arg] at hcc;injection hcc with hcc;injection hcc with _ hcc;by_cases hin:c.arg∈r.ls
  ·rw [if_pos hin] at hcc;have HFF:=Ad5 (show AH r.st c=(15,r.st.op) by unfold AH;rw [if_neg h123,if_neg h125,if_pos h58,if_pos (by rw [←HL.out];exact hin)]);subst hcc;clear hat hkey hown h123 h125 h58 hin;go_upto_region 11 with fail
   go_region_law (fail)
   all_goals
    (try go_wp2_with fail)
    go_ret;exact Ik.bad HFF.out (by decide) BB.out.drew B1.out.drew
  ·rw [if_neg hin] at hcc;have HFF:=Ad5 (show AH r.st c=(0,r.st.op) by unfold AH;rw [if_neg h123,if_neg h125,if_pos h58,if_neg (by rw [←HL.out];exact hin)]);subst hcc;obtain ⟨c2,hrun2,hcc2,_⟩:=hown.drew.drew.lookup_int (Go.Maps.string_keyed Tryz.underlying9) Tryz.underlying50 Tryz.underlying3 (KC _) hkey;rw [hat c.arg,if_neg hin] at hcc2;injection hcc2 with hcc2;injection hcc2 with _ hcc2;subst hcc2;have hn98:r.ls.length≤100:=by rw [HL.out];unfold scLabels;rw [List.length_map];exact Aed (List.length_filter_le _ _) hcs
   have hn99:n < maxLen:=by unfold maxLen;omega
   obtain ⟨w6,hup,hown6,hg6⟩:=hown.drew.drew.update (val:=.int .i64 1) (Go.Maps.string_keyed Tryz.underlying9) Tryz.underlying50 hn99 hkey (plainElem_int Tryz.underlying3 (by decide));have W01:IntKind.i64.wrap 1=1:=by decide
   have HLa:=Ad5 (LabAt.put hn hown.isMap hat hown6);have H6:=Ad5 hg6;have H58:=Ad5 h58;clear hat hkey hown h123 h125 h58 hin hn hn98 hn99 hown6 hg6;go_upto_region 11 with fail
   go_region_law (fail)
   all_goals
    go_upto_region 13 with fail
    go_region_law (fail)
   all_goals
    (try go_wp2_with fail)
    go_ret;have hx:=H1.out.drew.drew;refine Ik.fine (oa:=r.oa) (oc:=r.oc) HFF.out (show _={ r with ls:=r.ls++[c.arg] } by unfold RV.fit;rw [HFF.out,if_pos H58.out]) ⟨hx.h.label H6.out HLa.out,AG hx.b H6.out (fun e=>(ZG hx.h.ap).1 (by injection e with e;exact e.symm))⟩ (Aed HZ.out H6.out.size) fun b _ hl hb=>⟨?_,hb⟩
    exact (H6.out.block b (Aef hl HZ.out) (fun e=>hb (by rw [e];simp [RV.own]))).trans (B1.out.block b hl)
 have q3:((c.name.toNat:Int) == 58)=false:=FW (b:=58) h58;have hF:AH r.st c=(0,r.st.op):=by unfold AH;rw [if_neg h123,if_neg h125,if_neg h58]
 have H58:=Ad5 h58;have HFF:=Ad5 hF;clear hF h123 h125 h58;go_wp2_with fail
 go_ret;exact Ik.fine (oa:=r.oa) (oc:=r.oc) HFF.out (by unfold RV.fit;rw [HFF.out,if_neg H58.out]) H1.out HZ.out fun b _ hl hb=>⟨B1.out.block b hl,hb⟩
end
section
set_option linter.unusedVariables false
def kept (st:CS):UInt8 × Grd:=(st.c.name,st.c.g)
def GK (n:Nat) (st:CS) (r:CO):Prop:=r.1=0→r.2.ms.length≤st.ms.length+n∧kept r.2=kept st
theorem GK.of {st:CS} {r:CO} (h:r.2.ms=st.ms∧kept r.2=kept st):GK 0 st r:=fun _=>⟨by rw [h.1];exact Aec _,h.2⟩
theorem GK.then {n m:Nat} {st:CS} {r:CO} {f:CS→CO} (h:GK n st r) (k:r.1=0→GK m r.2 (f r.2)):GK (n+m) st (r.then f):=fun h0=>by
 unfold CO.then at h0 ⊢
 by_cases h1:r.1=0
 ·rw [if_pos h1] at h0 ⊢;obtain ⟨a,b⟩:=h h1;obtain ⟨c,d⟩:=k h1 h0;exact ⟨by omega,d.trans b⟩
 ·rw [if_neg h1] at h0;exact absurd h0 h1
theorem GK.mono {n m:Nat} {st:CS} {r:CO} (h:GK n st r) (hn:n≤m):GK m st r:=fun h0=>⟨by have:=(h h0).1;omega,(h h0).2⟩
theorem X4 (L:List UInt8) (st:CS):GK 1 st (Cf L st):=fun _=>by
 unfold Cf
 repeat' split
 all_goals simp [CS.go,CS.mark,kept]
theorem Acq {L:List UInt8} {b:UInt8} {st:CS} {r:CO} (h:AK L b st=some r):r.2.ms=st.ms∧kept r.2=kept st:=by
 unfold AK Dl Dm Dc CB at h
 repeat' split at h
 all_goals first | (injection h with h;subst h;exact ⟨rfl,rfl⟩) | cases h
theorem Sn (L:List UInt8):∀ (n:Nat) (st:CS),GK 1 st (AA L n st)
 | 0,st=>fun _=>⟨Nat.le_add_right _ _,rfl⟩
 | n+1,st=>by
  unfold AA;cases L.drop st.k with
  | nil=>exact fun _=>⟨Nat.le_add_right _ _,rfl⟩
  | cons b t=>
   simp only;cases hf:AK L b st with
   | some r=>
    have e:=Acq hf;simp only;split
    ·intro h0;obtain ⟨a,b⟩:=Sn L n r.2 h0;rw [e.1] at a;exact ⟨a,b.trans e.2⟩
    ·exact (GK.of e).mono (Nat.zero_le _)
   | none=>
    simp only;split
    ·unfold B9;split <;> exact (GK.of ⟨rfl,rfl⟩).mono (Nat.zero_le _)
    ·exact X4 L st
theorem Aak (L:List UInt8) (st:CS):kept (A8 L st).2.2=kept st:=by
 unfold A8
 repeat' split
 all_goals rfl
theorem Adl {ext:Bool} {L:List UInt8} {st:CS} (hk:st.k≤L.length):GK 251 st (C8 ext L st):=by
 unfold C8;refine (GK.then (n:=0) (m:=251) (GK.of ⟨Hj L st,Aak L st⟩) fun h0=>GK.then (n:=250) (m:=1) (fun h1=>⟨(Aag (Fi hk) h1).2.1,?_⟩) fun h1=>(GK.then (n:=0) (m:=1) (GK.of ⟨V8 L _ _,?_⟩) fun _=>Sn L _ _).mono (Aec 1)).mono (by omega)
 ·unfold DL Mm;split <;> rfl
 ·unfold CL DM
  repeat' split
  all_goals rfl
theorem Adm (L:List UInt8) (st:CS):GK 1 st (Cy L st):=by
 unfold Cy;refine (GK.then (n:=0) (m:=1) (GK.of ⟨Hj L st,Aak L st⟩) fun _=>?_).mono (by omega);unfold FI FH
 repeat' split
 all_goals first | exact (GK.of ⟨rfl,rfl⟩).mono (Nat.zero_le _) | exact X4 L _
theorem ZI {ext:Bool} {L:List UInt8} {st:CS} (hk:st.k≤L.length):GK 251 st (BA ext L st):=by
 unfold BA;simp only;split
 ·exact (GK.of ⟨rfl,rfl⟩).mono (Nat.zero_le _)
 split
 ·exact (GK.of ⟨rfl,rfl⟩).mono (Nat.zero_le _)
 split
 ·unfold Dk;split <;> exact (GK.of ⟨rfl,rfl⟩).mono (Nat.zero_le _)
 split
 ·unfold C3;split
  ·exact (GK.of ⟨rfl,rfl⟩).mono (Nat.zero_le _)
  ·split
   ·exact (GK.of ⟨rfl,rfl⟩).mono (Nat.zero_le _)
   ·split
    ·exact (GK.of ⟨rfl,rfl⟩).mono (Nat.zero_le _)
    ·exact fun _=>⟨by
      show (st.ms++[_]).length≤_;simp,rfl⟩
 split
 ·unfold BH;split <;> exact (GK.of ⟨rfl,rfl⟩).mono (Nat.zero_le _)
 split
 ·exact Adl hk
 split
 ·exact (Adm L st).mono (by omega)
 ·exact (X4 L st).mono (by omega)
def X5 (b:UInt8):Prop:=b=58∨b=98∨b=116∨b=84
theorem ZJ (L:List UInt8) (k:Nat):(Bo L k true).1.length≤40:=by
 unfold Bo Ef
 repeat' split
 ·simp
 ·simp
 ·rename_i h1 h2;exact Nat.le_of_not_lt h2
theorem Adn {ext:Bool} {L:List UInt8} {st:CS} (h:X5 st.c.name):(BA ext L st).2.c.arg.length≤40:=by
 have h9:=ZJ L st.k;unfold BA;simp only;rcases h with h | h
 ·rw [h,if_neg (by decide),if_pos rfl];exact h9
 ·rw [if_neg (by rcases h with h | h | h <;> rw [h] <;> decide),if_neg (by rcases h with h | h | h <;> rw [h] <;> decide),if_pos h];unfold Dk;split <;> exact h9
theorem Acr (L:List UInt8) (st:CS):(Bg L st).2.c.g=st.c.g:=by
 unfold Bg;split
 ·rfl
 ·unfold BG
  repeat' split
  all_goals rfl
theorem Ado {ext:Bool} (s:ByteArray) {k:Nat} {q:Cmd × List Wm × Nat} (hk:k≤s.size) (h:Mn ext s.data.toList k=.ok q):(q.2.2≤s.size∧q.2.1.length≤900)∧(X5 q.1.name→q.1.arg.length≤40)∧Bq q.1.g.a∧Bq q.1.g.b:=by
 have hp:q.2.2≤s.size:=by
  obtain ⟨c,ms,p⟩:=q;obtain ⟨_,_,_,h3⟩:=Aaa [] (L:=s.data.toList) (by simpa using hk) (fun _ _ _ h=>DT h) h;simpa using h3
 unfold Mn at h;cases hG:Jd ext s.data.toList k with
 | error q=>rw [hG] at h;cases h
 | ok g=>
  obtain ⟨g1,g2⟩:=Xx s hk hG;rw [hG] at h;unfold UZ FJ at h;simp only at h;split at h
  ·rename_i h0;injection h with h;subst h;simp only at hp ⊢;unfold AO at h0 ⊢;unfold CO.then at h0 ⊢
   by_cases h1:(Bg s.data.toList (Bd g.1 g.2.1 g.2.2)).1=0
   ·rw [if_pos h1] at h0;rw [if_pos h1];obtain ⟨n1,n2,n3⟩:=Sk h1;obtain ⟨t1,t2⟩:=ZI (by rw [n1];exact n2) h0;have e:(Bd g.1 g.2.1 g.2.2).ms=g.2.1:=rfl;rw [e] at n3;refine ⟨⟨?_,by omega⟩,fun hl=>Adn (by rw [show (BA ext s.data.toList _).2.c.name=_ from congrArg Prod.fst t2] at hl;exact hl),?_⟩
    ·unfold AO CO.then at hp
     rw [if_pos h1] at hp;exact hp
    ·rw [show (BA ext s.data.toList _).2.c.g=_ from congrArg Prod.snd t2];show Bq (Bg s.data.toList _).2.c.g.a∧Bq (Bg s.data.toList _).2.c.g.b;rw [Acr];exact Xo hG
   ·rw [if_neg h1] at h0;exact absurd h0 h1
  ·cases h
def CFine (c:Cmd):Prop:=Aw (c.sub.tree.getD .empty)≤4000000∧Bq c.g.a∧Bq c.g.b∧(X5 c.name→c.arg.length≤40)
def Ft (st r:CS):Prop:=r.c.sub.tree=st.c.sub.tree
theorem Ft.refl (st:CS):Ft st st:=rfl
theorem Ft.trans {a b c:CS} (h:Ft a b) (k:Ft b c):Ft a c:=Eq.trans k h
theorem ZK {st:CS} {r:CO} {f:CS→CO} (h:Ft st r.2) (hf:Ft r.2 (f r.2).2):Ft st (r.then f).2:=by
 unfold CO.then
 split
 ·exact h.trans hf
 ·exact h
theorem OO (L:List UInt8) (st:CS):Ft st (B0 L st).2:=rfl
theorem Acs (L:List UInt8) (st:CS):Ft st (Dk L st).2:=by
 unfold Dk;split
 ·exact rfl
 ·exact OO L st
theorem ZL (L:List UInt8) (st:CS):Ft st (C3 L st).2:=by
 unfold C3;split
 ·exact rfl
 ·split
  ·exact rfl
  ·split <;> exact rfl
theorem X6 (L:List UInt8) (st:CS):Ft st (BH L st).2:=by
 unfold BH;split <;> exact rfl
theorem X7 (L:List UInt8) (st:CS):Ft st (B9 L st).2:=by
 unfold B9;split <;> exact rfl
theorem X8 (L:List UInt8) (st:CS):Ft st (A8 L st).2.2:=by
 unfold A8;split
 ·exact rfl
 ·split <;> exact rfl
theorem Rh (L:List UInt8) (st:CS):Ft st (Cf L st).2:=by
 unfold Cf;split
 ·exact rfl
 ·split
  ·exact rfl
  ·split <;> exact rfl
theorem Acu (L:List UInt8) (d:UInt8) (st:CS):Ft st (CL L d st).2:=by
 unfold CL DM;split
 ·split <;> exact rfl
 ·exact rfl
theorem So {L:List UInt8} {b:UInt8} {st:CS} {r:CO} (h:AK L b st=some r):Ft st r.2:=by
 unfold AK at h;split at h
 ·injection h with h;subst h;unfold Dl;split <;> exact rfl
 ·split at h
  ·injection h with h;subst h;unfold Dm;split <;> exact rfl
  ·split at h
   ·injection h with h;subst h;unfold Dc CB;split
    ·split
     ·split <;> exact rfl
     ·exact rfl
    ·exact rfl
   ·cases h
theorem OP (L:List UInt8):∀ (n:Nat) (st:CS),Ft st (AA L n st).2
 | 0,st=>Ft.refl st
 | n+1,st=>by
  unfold AA;split
  ·exact Ft.refl st
  ·split
   ·rename_i hf;split
    ·exact (So hf).trans (OP L n _)
    ·exact So hf
   ·split
    ·exact Ft.trans (b:=st.go (st.k+1)) rfl (X7 L _)
    ·exact Rh L st
theorem Acv (L:List UInt8) (st:CS):Ft st (Cy L st).2:=by
 unfold Cy;refine ZK (X8 L st) ?_;unfold FI;split
 ·unfold FH;split
  ·split
   ·exact Ft.trans (b:=(A8 L st).2.2.table _ _) rfl (Rh L _)
   ·exact rfl
  ·exact rfl
 ·exact rfl
def Uz (st:CS):Prop:=Aw (st.c.sub.tree.getD .empty)≤4000000
theorem Uz.ft {a b:CS} (h:Uz a) (k:Ft a b):Uz b:=by unfold Uz;rw [k];exact h
theorem Adp {ext:Bool} {L:List UInt8} {d:UInt8} {st:CS}:Uz (DL ext L d st).2:=by
 unfold DL;cases hR:Ar ext L st.k d with
 | error q=>show Aw .empty≤_;decide
 | ok q=>exact GI hR
theorem Jr {r:CO} {f:CS→CO} (h:Uz r.2) (hf:Uz r.2→Uz (f r.2).2):Uz (r.then f).2:=by
 unfold CO.then
 split
 ·exact hf h
 ·exact h
theorem X9 {ext:Bool} {L:List UInt8} {st:CS} (h:Uz st):Uz (BA ext L st).2:=by
 unfold BA;simp only;split
 ·exact h
 ·split
  ·exact h.ft (OO L st)
  ·split
   ·exact h.ft (Acs L st)
   ·split
    ·exact h.ft (ZL L st)
    ·split
     ·exact h.ft (X6 L st)
     ·split
      ·unfold C8;exact Jr (h.ft (X8 L st)) fun _=>Jr Adp fun h2=>Jr (h2.ft (Acu L _ _)) fun h3=>h3.ft (OP L _ _)
      ·split
       ·exact h.ft (Acv L st)
       ·exact h.ft (Rh L st)
theorem ZM {ext:Bool} {L:List UInt8} {k:Nat} {c:Cmd} {ms:List Wm} {p:Nat} (h:Mn ext L k=.ok (c,ms,p)):Aw (c.sub.tree.getD .empty)≤4000000:=by
 unfold Mn at h;cases hG:Jd ext L k with
 | error q=>rw [hG] at h;cases h
 | ok q=>
  rw [hG] at h;unfold UZ FJ at h;simp only at h;split at h
  ·injection h with h;injection h with h1 h2;rw [←h1];show Uz _;unfold AO;refine Jr ?_ fun h=>X9 h
   have h0:Uz (Bd q.1 q.2.1 q.2.2):=by show Aw .empty≤_;decide
   refine h0.ft ?_;unfold Bg;split
   ·rfl
   ·unfold BG;split
    ·rfl
    ·split
     ·rfl
     ·show (CS.name _ _).c.sub.tree=_;split <;> rfl
  ·cases h
theorem XA {ext:Bool} {L:List UInt8} {k:Nat} {q:Nat × Nat} (h:Mn ext L k=.error q):q.1≠0:=by
 unfold Mn at h;cases hG:Jd ext L k with
 | error r=>
  rw [hG] at h;injection h with h;rw [←h];exact Si hG
 | ok r=>
  rw [hG] at h;unfold UZ FJ at h;simp only at h;split at h
  ·cases h
  ·rename_i h1;injection h with h;rw [←h];exact h1
end
section
open Go Go.RowKit
theorem IA {w:World} {b:Nat} {T:TypeId} {v0 v1 v2 v3 v4 v5 v6 v7 v8 v9 v10 v11 v12 v13 v14 v15 v16 v17 v18 v19:Value} (h:Blk w b #[v0,v1,v2,v3,v4,v5,v6,v7,v8,v9,v10,v11,v12,v13,v14,v15,v16,v17,v18,v19] T):(w.cell? ⟨b,0,none⟩=some v0∧w.cell? ⟨b,1,none⟩=some v1∧w.cell? ⟨b,2,none⟩=some v2∧w.cell? ⟨b,3,none⟩=some v3∧w.cell? ⟨b,4,none⟩=some v4∧w.cell? ⟨b,5,none⟩=some v5∧w.cell? ⟨b,6,none⟩=some v6∧w.cell? ⟨b,7,none⟩=some v7∧w.cell? ⟨b,8,none⟩=some v8∧w.cell? ⟨b,9,none⟩=some v9∧w.cell? ⟨b,10,none⟩=some v10∧w.cell? ⟨b,11,none⟩=some v11∧w.cell? ⟨b,12,none⟩=some v12∧w.cell? ⟨b,13,none⟩=some v13∧w.cell? ⟨b,14,none⟩=some v14∧w.cell? ⟨b,15,none⟩=some v15∧w.cell? ⟨b,16,none⟩=some v16∧w.cell? ⟨b,17,none⟩=some v17∧w.cell? ⟨b,18,none⟩=some v18∧w.cell? ⟨b,19,none⟩=some v19)∧b < w.heap.size:=
 ⟨⟨(h.cell 0).trans rfl,(h.cell 1).trans rfl,(h.cell 2).trans rfl,(h.cell 3).trans rfl,(h.cell 4).trans rfl,(h.cell 5).trans rfl,(h.cell 6).trans rfl,(h.cell 7).trans rfl,(h.cell 8).trans rfl,(h.cell 9).trans rfl,(h.cell 10).trans rfl,(h.cell 11).trans rfl,(h.cell 12).trans rfl,(h.cell 13).trans rfl,(h.cell 14).trans rfl,(h.cell 15).trans rfl,(h.cell 16).trans rfl,(h.cell 17).trans rfl,(h.cell 18).trans rfl,(h.cell 19).trans rfl⟩,h.lt⟩
theorem XB (c:Cmd) (pl:Nat) (ta tb ts ua ub tu:Value) (pa pb:Option Addr) (c1 c2:Nat) (w:World) (ka:Bq c.g.a) (kb:Bq c.g.b) (hta:TrO (fun b=>b < w.heap.size) w c.g.a.tree ta) (htb:TrO (fun b=>b < w.heap.size) w c.g.b.tree tb) (hua:TrO (fun b=>b < w.heap.size) w c.g.a.tree ua) (hub:TrO (fun b=>b < w.heap.size) w c.g.b.tree ub) (hts:TrO (fun b=>b < w.heap.size) w c.sub.tree ts) (htu:TrO (fun b=>b < w.heap.size) w c.sub.tree tu) (hf:Aw (c.sub.tree.getD .empty)≤4000000) (h1:KX w pa c.sub.parts) (h2:KX w pb c.sub.parts) :
  Calls Tryz.prog 12 #[.agg (ED c ta tb ts (.slice pa c.sub.parts.length c1)),.agg (ED { c with pl:=pl } ua ub tu (.slice pb c.sub.parts.length c2))] w fun e w'=>e=.returned (.bool true)∧Below w.heap.size w w':=by
 have hS:=fun W (hB:Below w.heap.size w W)=>X0 c.sub ts tu pa pb c1 c2 W (DE hB hts) (DE hB htu) hf (h1.below hB) (h2.below hB)
 have hG:=fun W (hB:Below w.heap.size w W)=>Rb c.g c.g ta tb ua ub W ⟨DE hB hta,DE hB htb,DE hB hua,DE hB hub⟩ ka kb ka kb
 rw [show QY c.g c.g=true by unfold QY;rw [IT,IT];simp] at hG;have o1:=AN hta.shape;have o2:=AN htb.shape;have o3:=AN hts.shape;have o4:=AN hua.shape;have o5:=AN hub.shape;have o6:=AN htu.shape;clear hta htb hua hub hts htu hf h1 h2 ka kb;unfold ED;simp only;all_goals
  go_enter Tryz.func12,Tryz.ntmps12;go_upto_region 1 with fail;generalize hW1:w.alloc _=W1;generalize hW2:W1.alloc _=W2;have hX:=(Ae hW1).below (Ac hW2) (Ae hW1).lt;have hY:=Ae hW2;have B2:=Ad5 ((Ac hW1).trans ((Ac hW2).mono (Ac hW1).size));have hp:W1.heap.size=w.heap.size+1:=by rw [←hW1];exact World.size_alloc _ _
  rw [hp] at hY;clear hp;generalize w.heap.size+1=p at hY ⊢;have HX:=Ad5 hX;have HY:=Ad5 hY;obtain ⟨⟨x0,x1,x2,x3,x4,x5,x6,x7,x8,x9,x10,x11,x12,x13,x14,x15,x16,x17,x18,x19⟩,hxl⟩:=IA hX;obtain ⟨⟨y0,y1,y2,y3,y4,y5,y6,y7,y8,y9,y10,y11,y12,y13,y14,y15,y16,y17,y18,y19⟩,hyl⟩:=IA hY;clear hX hY hW1 hW2;go_wp2_with (first
   | (go_at_call 19;refine (hG _ B2.out).mono ?_;rintro e w3 ⟨rfl,b3⟩;have B3:=Ad5 (B2.out.trans (b3.mono B2.out.size));have HX3:=Ad5 (HX.out.below b3 hxl);have HY3:=Ad5 (HY.out.below b3 hyl);clear b3 hG x0 x1 x2 x3 x4 x5 x6 x7 x8 x9 x10 x11 x12 x13 x14 x15 x16 x17 x18 x19 hxl y0 y1 y2 y3 y4 y5 y6 y7 y8 y9 y10 y11 y12 y13 y14 y15 y16 y17 y18 y19 hyl;obtain ⟨⟨x0,x1,x2,x3,x4,x5,x6,x7,x8,x9,x10,x11,x12,x13,x14,x15,x16,x17,x18,x19⟩,hxl⟩:=IA HX3.out;obtain ⟨⟨y0,y1,y2,y3,y4,y5,y6,y7,y8,y9,y10,y11,y12,y13,y14,y15,y16,y17,y18,y19⟩,hyl⟩:=IA HY3.out)
   | (go_at_call 20;refine (hS _ B3.out).mono ?_;rintro e w4 ⟨rfl,b4⟩;have HX4:=Ad5 (HX3.out.below b4 hxl);have HY4:=Ad5 (HY3.out.below b4 hyl);have B4:=Ad5 (B3.out.trans (b4.mono B3.out.size));clear b4 hS x0 x1 x2 x3 x4 x5 x6 x7 x8 x9 x10 x11 x12 x13 x14 x15 x16 x17 x18 x19 hxl y0 y1 y2 y3 y4 y5 y6 y7 y8 y9 y10 y11 y12 y13 y14 y15 y16 y17 y18 y19 hyl;obtain ⟨⟨x0,x1,x2,x3,x4,x5,x6,x7,x8,x9,x10,x11,x12,x13,x14,x15,x16,x17,x18,x19⟩,hxl⟩:=IA HX4.out;obtain ⟨⟨y0,y1,y2,y3,y4,y5,y6,y7,y8,y9,y10,y11,y12,y13,y14,y15,y16,y17,y18,y19⟩,hyl⟩:=IA HY4.out))
  go_ret;exact ⟨rfl,B4.out⟩
theorem CV.len (v:CV):v.cells.toList.length=20:=rfl
theorem CV.one {F:Nat→Prop} {w:World} {v:CV} (h:v.ok F w):v.cells.all (·.oneCell')=true:=Nm _ _ _ _ _ (AN h.a.shape) (AN h.b.shape) (AN h.s.shape) rfl
def CRow (w:World) (a:Option Addr) (vs:List CV):Prop:=0 < vs.length→∃ g,a=some ⟨g,0,none⟩∧g < w.heap.size∧∀ i (h:i < vs.length),w.rangeAt g (i * 20) vs[i].cells.toList
theorem CRow.below {w w':World} {a:Option Addr} {vs:List CV} (h:CRow w a vs) (hb:Below w.heap.size w w'):CRow w' a vs:=fun h0=>by
 obtain ⟨g,ha,hl,hc⟩:=h h0;exact ⟨g,ha,Aef hl hb.size,fun i hi j v hj=>(hb.cell (p:=⟨g,i * 20+j,none⟩) hl).trans (hc i hi j v hj)⟩
theorem XC:∀ (vs:List CV) (i:Nat) (h:i < vs.length) (j:Nat) (v:Value),vs[i].cells.toList[j]?=some v→(vs.flatMap fun v=>v.cells.toList)[i * 20+j]?=some v
 | x :: vs,0,h,j,v,hj=>by
  rw [List.flatMap_cons,List.getElem?_append_left (by rw [Nat.zero_mul,Nat.zero_add];exact (List.getElem?_eq_some_iff.1 hj).1),Nat.zero_mul,Nat.zero_add];exact hj
 | x :: vs,i+1,h,j,v,hj=>by
  rw [List.flatMap_cons,List.getElem?_append_right (by rw [x.len];omega),x.len,show (i+1) * 20+j - 20=i * 20+j by omega];exact XC vs i (by simpa using h) j v hj
theorem KD {w:World} {B:Nat} {T:TypeId} {a:Option Addr} {c:Nat} {vs:List CV} (h:w.ownsRow B T 20 (.slice a vs.length c) vs.length (vs.flatMap fun v=>v.cells.toList)):CRow w a vs:=fun h0=>by
 rcases h.2 with ⟨_,h2⟩ | ⟨g,cap,cur,h1,_,hg,_,_,_,ht⟩
 ·omega
 ·injection h1 with h1 _ _;refine ⟨g,h1,(Array.getElem?_eq_some_iff.1 hg).1,fun i hi j v hj=>?_⟩;have h9:=XC vs i hi j v hj;rw [←ht,List.getElem?_take] at h9;split at h9
  ·simp only [World.cell?,hg];rw [Array.getElem?_toList] at h9;simpa using h9
  ·cases h9
def Sp (c d:Cmd):Prop:=∃ pl,d={ c with pl:=pl }
theorem OQ {w w':World} (hb:Below w.heap.size w w') {v:CV} (h:v.ok (fun b=>b < w.heap.size) w):v.ok (fun b=>b < w'.heap.size) w':=h.keep hb.size fun b hl _=>⟨Aef hl hb.size,hb.block b hl⟩
theorem ZN {va vb:CV} {w:World} (hl:Sp va.c vb.c) (hf:CFine va.c) (ha:va.ok (fun b=>b < w.heap.size) w) (hb:vb.ok (fun b=>b < w.heap.size) w):Calls Tryz.prog 12 #[.agg va.cells,.agg vb.cells] w fun e w'=>e=.returned (.bool true)∧Below w.heap.size w w':=by
 obtain ⟨c,ta,tb,ts,pa,pc⟩:=va;obtain ⟨d,ua,ub,us,qa,qc⟩:=vb;obtain ⟨pl,e⟩:=hl;simp only at e;subst e;exact XB c pl ta tb ts ua ub us pa qa pc qc w hf.2.1 hf.2.2.1 ha.a ha.b hb.a hb.b ha.s hb.s hf.1 ha.prow hb.prow
theorem XD (va vb:List CV) (ca cb:Option Addr) (oa ob:Nat) (w:World) (hlen:va.length=vb.length) (hn:va.length≤1000) (hc:∀ i (h:i < va.length) (h2:i < vb.length),Sp va[i].c vb[i].c) (hf:∀ v∈va,CFine v.c) (ka:∀ v∈va,v.ok (fun b=>b < w.heap.size) w) (kb:∀ v∈vb,v.ok (fun b=>b < w.heap.size) w) (ra:CRow w ca va) (rb:CRow w cb vb) :
  Calls Tryz.prog 11 #[.slice ca va.length oa,.slice cb vb.length ob,.func (.func 12) #[] #[]] w fun e w'=>e=.returned (.bool true)∧Below w.heap.size w w':=by
 rw [←hlen];obtain ⟨n,hv⟩:∃ n,va.length=n:=⟨_,rfl⟩;have hS:=fun (i:Nat) (h:i < va.length) (h2:i < vb.length) W (hB:Below w.heap.size w W)=>ZN (hc i h h2) (hf _ (List.getElem_mem h)) (OQ hB (ka _ (List.getElem_mem h))) (OQ hB (kb _ (List.getElem_mem h2)))
 have hone:=fun (i:Nat) (h:i < va.length) (h2:i < vb.length)=>And.intro (CV.one (ka _ (List.getElem_mem h))) (CV.one (kb _ (List.getElem_mem h2)))
 have HS:=Ad5 hS;have HO:=Ad5 hone;have RA:=Ad5 ra;have RB:=Ad5 rb;have HL:=Ad5 hlen;have HV:=Ad5 hv;rw [hv] at hn ⊢;clear hS hone hc hf ka kb ra rb hlen hv;go_enter Tryz.func11,Tryz.ntmps11;go_upto_region 4 with fail;go_loopw [17] (fun i wr=>∃ j:Nat,j≤n∧i=.int .i64 j∧Below w.heap.size w wr) (fun i _=>n - (intOf i).toNat)
 case atStart=>exact ⟨0,by omega,rfl,Aeh _ _⟩
 case round=>
  obtain ⟨j,hj,rfl,hb⟩:=hrel;have HB:=Ad5 hb;clear hb;by_cases hlt:j < n
  ·have hji:(j:Int) < (n:Int):=by omega
   have hy0:(0:Int)≤(j:Int):=by omega
   have Wj:IntKind.i64.wrap ((j:Int)+1)=(j:Int)+1:=Aej _ (by omega);have j1:j < va.length:=by rw [HV.out];exact hlt
   have j2:j < vb.length:=by rw [←HL.out];exact j1
   obtain ⟨g1,rfl,_,hc1⟩:=(RA.out.below HB.out) (by omega);obtain ⟨g2,rfl,hg2,hc2⟩:=(RB.out.below HB.out) (by omega);have r1:=hc1 j j1;have r2:=hc2 j j2;have hS:=HS.out j j1 j2;obtain ⟨o1,o2⟩:=HO.out j j1 j2;clear hc1 hc2;generalize va[j]=x at r1 hS o1;generalize vb[j]=y at r2 hS o2;go_upto_region 5 with fail;refine wp_region_list ?_
   iterate 2 (refine wpList_plain rfl (fun K hK=>?_);go_simp;refine hK _ _ ?_;clear hK K;(try simp only [Ad9,Ad8,Ad7,Act.put,Ad6,Aea,Aeb]))
   refine wpList_load_mid rfl 47 _ rfl g1 (j * 20) (by simp [Act.eval]) x.cells.toList _ r1 Tryz.underlying47 rfl (by kernel_rfl) ?_;rw [Array.toArray_toList]
   (try simp only [Ad9,Ad8,Ad7,Act.put,Ad6,Aea,Aeb])
   refine wpList_plain rfl (fun K hK=>?_);go_simp;generalize hA:(wr).alloc _=wy;refine hK _ _ ?_;clear hK K;(try simp only [Ad9,Ad8,Ad7,Act.put,Ad6,Aea,Aeb]);refine wpList_plain rfl (fun K hK=>?_);go_simp;refine hK _ _ ?_;clear hK K;(try simp only [Ad9,Ad8,Ad7,Act.put,Ad6,Aea,Aeb]);refine wpList_store_row rfl 47 _ _ rfl (World.heap wr).size (x.cells) rfl rfl 47 Dg (Ae hA) (by kernel_rfl) rfl (o1) ?_;(try simp only [Ad9,Ad8,Ad7,Act.put,Ad6,Aea,Aeb]);have hbx:=Sl (cs:=x.cells) hA;generalize wy.setRow (World.heap wr).size _=w1 at hbx ⊢;clear hA;refine wpList_nil ?_;obtain ⟨b1,q1⟩:=hbx;have B1:=Ad5 (HB.out.trans (b1.mono HB.out.size));have s2:w1.rangeAt g2 (j * 20) y.cells.toList:=fun i v hv=>(b1.cell (p:=⟨g2,j * 20+i,none⟩) hg2).trans (r2 i v hv)
   obtain ⟨c1,hc1⟩:∃ c1,wr.heap.size=c1:=⟨_,rfl⟩;rw [hc1] at q1 ⊢;have Q1:=Ad5 q1;clear b1 q1 hc1 r1 r2;go_upto_region 6 with fail;refine wp_region_list ?_
   iterate 3 (refine wpList_plain rfl (fun K hK=>?_);go_simp;refine hK _ _ ?_;clear hK K;(try simp only [Ad9,Ad8,Ad7,Act.put,Ad6,Aea,Aeb]))
   refine wpList_load_mid rfl 47 _ rfl g2 (j * 20) (by simp [Act.eval]) y.cells.toList _ s2 Tryz.underlying47 rfl (by kernel_rfl) ?_;rw [Array.toArray_toList]
   (try simp only [Ad9,Ad8,Ad7,Act.put,Ad6,Aea,Aeb])
   refine wpList_plain rfl (fun K hK=>?_);go_simp;generalize hA:(w1).alloc _=wy;refine hK _ _ ?_;clear hK K;(try simp only [Ad9,Ad8,Ad7,Act.put,Ad6,Aea,Aeb]);refine wpList_store_row rfl 47 _ _ rfl (World.heap w1).size (y.cells) rfl rfl 47 Dg (Ae hA) (by kernel_rfl) rfl (o2) ?_;(try simp only [Ad9,Ad8,Ad7,Act.put,Ad6,Aea,Aeb]);have hbx:=Sl (cs:=y.cells) hA;generalize wy.setRow (World.heap w1).size _=w2 at hbx ⊢;clear hA;refine wpList_nil ?_;obtain ⟨b2,q2⟩:=hbx;have B2:=Ad5 (B1.out.trans (b2.mono B1.out.size));have Q1':=Ad5 (Q1.out.below b2 Q1.out.lt);obtain ⟨c2,hc2⟩:∃ c2,w1.heap.size=c2:=⟨_,rfl⟩;rw [hc2] at q2 ⊢;have Q2:=Ad5 q2;have hS2:=hS w2 B2.out;clear b2 q2 hc2 s2 hS;go_upto_region 7 with fail;refine wp_region_list ?_;refine wpList_plain rfl (fun K hK=>?_);go_simp;refine hK _ _ ?_;clear hK K;(try simp only [Ad9,Ad8,Ad7,Act.put,Ad6,Aea,Aeb]);refine wpList_load_row rfl 47 _ rfl c1 rfl 47 x.cells _ _ Q1'.out Tryz.underlying47 rfl (by kernel_rfl) ?_
   (try simp only [Ad9,Ad8,Ad7,Act.put,Ad6,Aea,Aeb])
   refine wpList_load_row rfl 47 _ rfl c2 rfl 47 y.cells _ _ Q2.out Tryz.underlying47 rfl (by kernel_rfl) ?_
   (try simp only [Ad9,Ad8,Ad7,Act.put,Ad6,Aea,Aeb])
   refine wpList_plain rfl (fun K hK=>?_);go_simp
   go_at_call 12
   refine hS2.mono ?_;clear hS2;rintro e w3 ⟨rfl,b3⟩;refine hK _ _ ?_;clear hK K
   (try simp only [Ad9,Ad8,Ad7,Act.put,Ad6,Aea,Aeb])
   refine wpList_plain rfl (fun K hK=>?_);go_simp;refine hK _ _ ?_;clear hK K;(try simp only [Ad9,Ad8,Ad7,Act.put,Ad6,Aea,Aeb]);refine wpList_nil ?_;have B3:=Ad5 (B2.out.trans (b3.mono B2.out.size));clear b3;go_wp2_with fail
   go_roundw
   case rel=>exact ⟨j+1,by omega,by go_num,B3.out⟩
   case measure=>simp [intOf];omega
  ·obtain rfl:j=n:=by omega
   go_wp2_with fail
   go_ret;exact ⟨rfl,HB.out⟩
structure PaH (w:World) (g:Nat) (q:Cmd × List Wm × Nat) (v:CV) (ma:Option Addr) (mc:Nat) (wx:World):Prop where
 b:Below w.heap.size w wx
 x:Blk wx g v.cells 47
 gb:w.heap.size≤g
 c:v.c=q.1
 ok:v.ok (fun b=>w.heap.size≤b∧b≠g) wx
 r:wx.ownsRow w.heap.size 33 2 (.slice ma q.2.1.length mc) q.2.1.length (wmC q.2.1)
 rg:(Value.slice ma q.2.1.length mc).ownBlock≠some g
structure BoxH (w:World) (g:Nat) (w0 w1:World) (cells:Array Value) (wf:World):Prop where
 b0:Below w.heap.size w w0
 b:Below w.heap.size w wf
 gb:w.heap.size≤g
 gg:w1.heap.size≤g∨g < w0.heap.size
 x:Blk wf g cells 47
 z:w1.heap.size≤wf.heap.size
 s:∀ b,b < w1.heap.size→b≠g→wf.heap[b]?=w1.heap[b]?
theorem LU {w w':World} {R:BK Cmd} {e:Ending} (h:Uw w R e w'):∃ cells sl P E,e=.returned (.tuple #[.agg cells,sl,.int .i64 P,.int .i64 E])∧cells.all (·.oneCell')=true∧cells.size=20:=by
 obtain ⟨_,h⟩:=h;cases R with
 | error q=>exact ⟨_,_,_,_,h,by kernel_rfl,rfl⟩
 | ok q=>
  obtain ⟨ta,tb,ts,pa,pc,ma,mc,h,ha,hb,hs,_⟩:=h;exact ⟨_,_,_,_,h,Nm _ _ _ _ _ (AN ha.shape) (AN hb.shape) (AN hs.shape) rfl,rfl⟩
theorem BoxH.pa {w w0 w1 wf:World} {g:Nat} {q:Cmd × List Wm × Nat} {v:CV} {ma:Option Addr} {mc:Nat} (h:BoxH w g w0 w1 v.cells wf) (hc:v.c=q.1) (hk:v.ok (fun b=>w0.heap.size≤b) w1) (hr:w1.ownsRow w0.heap.size 33 2 (.slice ma q.2.1.length mc) q.2.1.length (wmC q.2.1)):PaH w g q v ma mc wf:=by
 have hne:∀ b,w0.heap.size≤b→b < w1.heap.size→b≠g:=fun b h1 h2 e=>by rcases h.gg with h | h <;> omega
 refine ⟨h.b,h.x,h.gb,hc,hk.keep h.z (fun b hb hl=>⟨⟨Aed h.b0.size hb,hne b hb hl⟩,h.s b hl (hne b hb hl)⟩),BS h.b0.size (Aa hr fun b e=>?_),fun e=>?_⟩
 ·have h1:=AL hr b e;have h2:=AB hr b e;exact h.s b h2 (hne b h1 h2)
 ·exact hne g (AL hr g e) (AB hr g e) rfl
theorem CV.ok_of {w w':World} {c:Cmd} {ta tb ts:Value} {pa:Option Addr} {pc:Nat} (ha:TrO (fun b=>w.heap.size≤b) w' c.g.a.tree ta) (hb:TrO (fun b=>w.heap.size≤b) w' c.g.b.tree tb) (hs:TrO (fun b=>w.heap.size≤b) w' c.sub.tree ts) (hp:w'.ownsRow w.heap.size 74 2 (.slice pa c.sub.parts.length pc) c.sub.parts.length (cpC c.sub.parts)):CV.ok (fun b=>w.heap.size≤b) w' ⟨c,ta,tb,ts,pa,pc⟩:=⟨ha,hb,hs,fun h0=>by
 obtain ⟨q,e,h1,h2,h3⟩:=ZD hp h0;exact ⟨ZE hp h0,q,e,h1,h2,h3⟩⟩
theorem OR (cs:List Cmd) (c:Cmd):scLabels (cs++[c])=if c.name=58 then scLabels cs++[c.arg] else scLabels cs:=by
 unfold scLabels;rw [List.filter_append];by_cases h:c.name=58
 ·rw [if_pos h];simp [h]
 ·rw [if_neg h];simp [h]
theorem XE {w:World} {g:Nat} {cs:Array Value} {T:TypeId} (h:Blk w g cs T):∀ j u,cs.toList[j]?=some u→w.cell? ((⟨g,0,none⟩:Addr).add j)=some u:=fun j u hj=>by
 have:=h.cell j;rw [←Array.getElem?_toList,hj] at this;by_cases h0:j=0
 ·subst h0;simpa [Addr.add] using this
 ·simpa [Addr.add,h0] using this
theorem OS:∃ i,Tryz.prog.info? 47=some i∧i.zero=some (.agg Dg)∧i.size=20∧i.bytes=240:=by
 have h:(Tryz.prog.info? 47).map (fun i=>(i.zero,i.size,i.bytes))=some (some (.agg Dg),20,240):=by kernel_rfl
 obtain ⟨i,hi,he⟩:=Option.map_eq_some_iff.1 h;injection he with h1 h2;injection h2 with h2 h3;exact ⟨i,hi,h1,h2,h3⟩
theorem LV {cs:Array Value} (h:cs.all (·.oneCell')=true):∀ u∈cs.toList,u.oneCell'=true:=fun u hu=>by
 rw [Array.all_eq_true_iff_forall_mem] at h;exact h u (by simpa using hu)
theorem OT (v:CV) (w:World):(Instr.buildSlice 23 1 #[(0,.agg v.cells)]).run Tryz.prog w=.ok (.slice (some ⟨w.heap.size,0,none⟩) 1 1) (w.alloc (.cells v.cells 47)):=by
 unfold CV.cells ED
 kernel_rfl
theorem U0 {ops:Array Oper} {o:Oper} {a:Act} {w:World} {K:Act→World→Prop} {Q:Exit→Act→World→Prop} {E:Prop} (v:CV) (hgd:o.guard=none) (x:Operand) (ho:o.op=.buildSlice 23 1 #[(0,x)]) (hx:a.eval x=.agg v.cells) (h:K (a.put o.dst (.slice (some ⟨w.heap.size,0,none⟩) 1 1)) (w.alloc (.cells v.cells 47))):if Region.wanted o (yielded ops a.tmps)=true then Oper.wp Tryz.prog o a w K Q else E:=by
 rw [if_pos (by simp [Region.wanted,hgd])];have hr:=OT v w;unfold Oper.wp execOp;simp only [ho,List.map_toArray,List.map_cons,List.map_nil,hx];simp [hr,Result.andThen];exact h
theorem Sq {a b c d a' b' c' d':Value} (h:Ending.returned (.tuple #[a,b,c,d])=.returned (.tuple #[a',b',c',d'])):a=a'∧b=b'∧c=c'∧d=d':=by
 iterate 2 (injection h with h)
 simpa using h
structure ScI (r:RV) (n:Nat):Prop where
 ls:r.ls=scLabels r.st.cs
 cs:r.st.cs.length≤100
 ms:r.st.ms.length≤900 * r.st.cs.length
 op:r.st.op.length≤12
 k:r.st.k≤n
 fi:∀ c∈r.st.cs,CFine c
theorem ScI.next {r r':RV} {n:Nat} (h:ScI r n) {c:Cmd} {ms:List Wm} {k:Nat} (hf:(AH r.st c).1=0) (h1:¬ r.st.cs.length=100) (hm:ms.length≤900) (hk:k≤n) (hF:CFine c) (e1:r'.st=⟨k,r.st.cs++[c],r.st.ms++ms,(AH r.st c).2⟩) (e2:r'.ls=if c.name=58 then r.ls++[c.arg] else r.ls):ScI r' n:=by
 have h2:=h.cs;have h3:=h.ms;have h4:=h.op;refine ⟨by rw [e1,e2,OR,h.ls],by rw [e1];simp;omega,by rw [e1];simp;omega,?_,by rw [e1];exact hk,?_⟩
 ·rw [e1];simp only;unfold AH at hf ⊢;split
  ·rename_i ha;rw [if_pos ha] at hf;split
   ·exact h4
   ·rename_i hb;simp;omega
  ·split
   ·split
    ·exact h4
    ·simp;omega
   ·split
    ·split <;> exact h4
    ·exact h4
 ·rw [e1];intro d hd;rcases Aem.1 hd with hd | hd
  ·exact h.fi d hd
  ·rw [List.mem_singleton.1 hd];exact hF
def XF (W:World) (p mp:Nat) (q:Bool) (s:ByteArray) (ext:Bool) (R:Except (Nat × Nat) SS) (e:Ending) (w':World):Prop:=
 Below W.heap.size W w'∧match R with
 | .error x=>e=.returned (.tuple #[.int .i64 (x.2:Int),.int .i64 (x.1:Int)])
 | .ok st=>e=.returned (.tuple #[.int .i64 0,.int .i64 0])∧∃ r',r'.st=st∧ScI r' s.size∧ScS W p mp q s ext r' w'
theorem U1 (W:World) (p mp:Nat) (q:Bool) (s:ByteArray) (ext:Bool) (r:RV) (w:World) (h:ScS W p mp q s ext r w) (hs:s.size≤4000) (hI:ScI r s.size) (hG:Gl W) (hP:GP W) :
  Calls Tryz.prog 17 #[.pointer (some ⟨p,0,none⟩)] w (XF W p mp q s ext (Cn ext s.data.toList r.st)):=by
 have hvl:r.vs.length=r.st.cs.length:=by rw [←h.h.cs,List.length_map]
 have k1:w.cell? ⟨p,1,none⟩=some (.slice r.ca r.vs.length r.cc):=(h.b.cell 1).trans rfl;have HH:=Ad5 h;have HI:=Ad5 hI;have hC:=fun w1 (b1:Below w.heap.size w w1)=>Re ext s r.st.k w1 hs hI.k ((hG.up h.h.b0).up b1) ((hP.up h.h.b0).up b1)
 have k2:=h.t;have k3:w.cell? ⟨p,3,none⟩=some (.bool ext):=(h.b.cell 3).trans rfl;have k4:=h.k;unfold Cn;by_cases h100:r.st.cs.length=100
 ·rw [if_pos h100];have q1:((r.vs.length:Int) == 100)=true:=by rw [hvl,h100];rfl
  clear hC h100 hvl hG hP hI;go_enter Tryz.func17,Tryz.ntmps17;go_upto_region 2 with fail;go_wp2_with fail
  go_ret2
  exact ⟨h.h.b0,rfl⟩
 rw [if_neg h100];have q1:((r.vs.length:Int) == 100)=false:=by rw [hvl];simp;omega
 clear h hG hP hI;have hms:=fun x h=>Ado (ext:=ext) (q:=x) s HI.out.k h
 obtain ⟨R,hR⟩:∃ R,Mn ext s.data.toList r.st.k=R:=⟨_,rfl⟩;rw [hR] at hC hms ⊢;have HR:=Ad5 hR;clear hR;have hmix:Tryz.prog.follows .mixedOrders=true:=by kernel_rfl
 have hplt:=HH.out.b.lt;have hS0:∀ W':World,Below w.heap.size w W'→(fun W':World=>W'.cell? ⟨p,2,none⟩=some (.string s)∧W'.cell? ⟨p,3,none⟩=some (.bool ext)∧W'.cell? ⟨p,4,none⟩=some (.int .i64 (r.st.k:Int))) W':=fun W' hW=>⟨(hW.cell (p:=⟨p,2,none⟩) hplt).trans k2,(hW.cell (p:=⟨p,3,none⟩) hplt).trans k3,(hW.cell (p:=⟨p,4,none⟩) hplt).trans k4⟩
 clear k2 k3 k4 hplt;go_enter Tryz.func17,Tryz.ntmps17;go_upto_region 3 with fail;go_cut [4,5,6,7] (fun s4 s5 s6 s7 wx=>∃ g cells sl P E w0 w1,s4=.pointer (some ⟨g,0,none⟩)∧s5=sl∧s6=.int .i64 P∧s7=.int .i64 E∧Uw w0 R (.returned (.tuple #[.agg cells,sl,.int .i64 P,.int .i64 E])) w1∧BoxH w g w0 w1 cells wx)
 case first=>
  refine wp_region_held_drew (S:=fun W':World=>W'.cell? ⟨p,2,none⟩=some (.string s)∧W'.cell? ⟨p,3,none⟩=some (.bool ext)∧W'.cell? ⟨p,4,none⟩=some (.int .i64 (r.st.k:Int))) hmix (hS0 _ (Below.drew (Aeh _ _))) (fun hHeld=>?_);refine AE 0 ?_ rfl (by assumption) (Or.inl ⟨by rfl,?_⟩) ?_;rotate_left;(focus (intro W' hSw;obtain ⟨c2,c3,c4⟩:=hSw;(try go_simp);try with_reducible rfl));(try simp only [Ad9,Ad8,Ad7,Act.put,Ad6,Aea,Aeb]);refine AE 1 ?_ rfl (by assumption) (Or.inl ⟨by rfl,?_⟩) ?_;rotate_left;(focus (intro W' hSw;obtain ⟨c2,c3,c4⟩:=hSw;(try go_simp);try with_reducible rfl));(try simp only [Ad9,Ad8,Ad7,Act.put,Ad6,Aea,Aeb]);refine AE 2 ?_ rfl (by assumption) (Or.inl ⟨by rfl,?_⟩) ?_;rotate_left;(focus (intro W' hSw;obtain ⟨c2,c3,c4⟩:=hSw;(try go_simp);try with_reducible rfl));(try simp only [Ad9,Ad8,Ad7,Act.put,Ad6,Aea,Aeb]);refine AE 3 ?_ rfl (by assumption) (Or.inl ⟨by rfl,?_⟩) ?_;rotate_left;(focus (intro W' hSw;obtain ⟨c2,c3,c4⟩:=hSw;(try go_simp);try with_reducible rfl));(try simp only [Ad9,Ad8,Ad7,Act.put,Ad6,Aea,Aeb]);refine AE 4 ?_ rfl (by assumption) (Or.inl ⟨by rfl,?_⟩) ?_;rotate_left;(focus (intro W' hSw;obtain ⟨c2,c3,c4⟩:=hSw;(try go_simp);try with_reducible rfl));(try simp only [Ad9,Ad8,Ad7,Act.put,Ad6,Aea,Aeb]);refine AE 5 ?_ rfl (by assumption) (Or.inl ⟨by rfl,?_⟩) ?_;rotate_left;(focus (intro W' hSw;obtain ⟨c2,c3,c4⟩:=hSw;(try go_simp);try with_reducible rfl));(try simp only [Ad9,Ad8,Ad7,Act.put,Ad6,Aea,Aeb]);refine AE 6 ?_ rfl (by assumption) (Or.inl ⟨by rfl,?_⟩) ?_;rotate_left;(focus (intro W' hSw;obtain ⟨c2,c3,c4⟩:=hSw;(try go_simp);try with_reducible rfl));(try simp only [Ad9,Ad8,Ad7,Act.put,Ad6,Aea,Aeb]);refine AE 7 ?_ rfl (by assumption) (Or.inl ⟨by rfl,?_⟩) ?_;rotate_left;(focus (intro W' hSw;obtain ⟨c2,c3,c4⟩:=hSw;(try go_simp);try with_reducible rfl));(try simp only [Ad9,Ad8,Ad7,Act.put,Ad6,Aea,Aeb]);refine AE 8 ?_ rfl (by assumption) (Or.inl ⟨by rfl,?_⟩) ?_;rotate_left;(focus (intro W' hSw;obtain ⟨c2,c3,c4⟩:=hSw;(try go_simp);try with_reducible rfl));(try simp only [Ad9,Ad8,Ad7,Act.put,Ad6,Aea,Aeb]);refine AE 9 ?_ rfl (by assumption) (Or.inl ⟨by rfl,?_⟩) ?_;rotate_left;(focus (intro W' hSw;obtain ⟨c2,c3,c4⟩:=hSw;(try go_simp);try with_reducible rfl));(try simp only [Ad9,Ad8,Ad7,Act.put,Ad6,Aea,Aeb]);refine AE 10 ?_ rfl (by assumption) (Or.inl ⟨by rfl,?_⟩) ?_;rotate_left;(focus (intro W' hSw;obtain ⟨c2,c3,c4⟩:=hSw;(try go_simp);try with_reducible rfl));(try simp only [Ad9,Ad8,Ad7,Act.put,Ad6,Aea,Aeb]);refine AE 11 ?_ rfl (by assumption) (Or.inl ⟨by rfl,?_⟩) ?_;rotate_left;(focus (intro W' hSw;obtain ⟨c2,c3,c4⟩:=hSw;(try go_simp);try with_reducible rfl));(try simp only [Ad9,Ad8,Ad7,Act.put,Ad6,Aea,Aeb]);generalize hv0:w.drew=v0 at hHeld ⊢;have hb0:Below w.heap.size w v0:=by rw [←hv0];exact (Aeh _ _).drew
  clear hv0;refine wpAnyH_ready (rs:=[12,18]) (by kernel_rfl) (by simp) ?_;refine AllReadyH.cons rfl (fun K hK=>?_) ?_
  ·skip
   go_simp;go_wp2_with (go_at_call 24;refine (hC v0 hb0).mono ?_;rintro e v1 hA;obtain ⟨cells,sl,P,E,rfl,hone,hsz⟩:=LU hA)
   have b1:=hA.1;have B1:Below w.heap.size w v1:=hb0.trans (b1.mono hb0.size);refine hK.out _ _ (hS0 _ B1) (fun hHeld=>?_);clear hK K
   (try simp only [Ad9,Ad8,Ad7,Act.put,Ad6,Aea,Aeb])
   refine AE 13 ?_ rfl (by assumption) (Or.inl ⟨by rfl,?_⟩) ?_;rotate_left;(focus (intro W' hSw;(try go_simp);try with_reducible rfl));(try simp only [Ad9,Ad8,Ad7,Act.put,Ad6,Aea,Aeb]);refine AE 14 ?_ rfl (by assumption) (Or.inl ⟨by rfl,?_⟩) ?_;rotate_left;(focus (intro W' hSw;(try go_simp);try with_reducible rfl));(try simp only [Ad9,Ad8,Ad7,Act.put,Ad6,Aea,Aeb]);refine AE 15 ?_ rfl (by assumption) (Or.inl ⟨by rfl,?_⟩) ?_;rotate_left;(focus (intro W' hSw;(try go_simp);try with_reducible rfl));(try simp only [Ad9,Ad8,Ad7,Act.put,Ad6,Aea,Aeb]);refine AE 16 ?_ rfl (by assumption) (Or.inl ⟨by rfl,?_⟩) ?_;rotate_left;(focus (intro W' hSw;(try go_simp);try with_reducible rfl));(try simp only [Ad9,Ad8,Ad7,Act.put,Ad6,Aea,Aeb]);refine AE 17 ?_ rfl (by assumption) (Or.inl ⟨by rfl,?_⟩) ?_;rotate_left;(focus (intro W' hSw;(try go_simp);try with_reducible rfl));(try simp only [Ad9,Ad8,Ad7,Act.put,Ad6,Aea,Aeb]);refine wpAnyH_ready (rs:=[18]) (by kernel_rfl) (by simp) ?_;refine AllReadyH.cons rfl (fun K hK=>?_) AllReadyH.nil;go_simp;generalize hB:v1.alloc _=v2;have ba:=Ac hB;have qa:=Ae hB;have B2:Below w.heap.size w v2:=B1.trans (ba.mono B1.size);refine hK.out _ _ (hS0 _ B2) (fun hHeld=>?_);clear hK K hB
   (try simp only [Ad9,Ad8,Ad7,Act.put,Ad6,Aea,Aeb])
   obtain ⟨g,hg⟩:∃ g,v1.heap.size=g:=⟨_,rfl⟩;rw [hg] at qa ⊢;have hgb:w.heap.size≤g:=by have:=B1.size;omega
   have hgp:p≠g:=by have:=B1.size;have:=HH.out.b.lt;omega
   refine wpAnyH_ready (rs:=[19]) (by kernel_rfl) (by simp) ?_;refine AllReadyH.cons rfl (fun K hK=>?_) AllReadyH.nil;rw [if_pos (by rfl)];refine wp_store_row 47 _ _ rfl g cells rfl rfl 47 Dg qa (by rw [hsz];kernel_rfl) (by rw [hsz];rfl) hone ?_;have B3:Below w.heap.size w (v2.setRow g cells):=below_setRow B2 hgb _;refine hK.out _ _ (hS0 _ B3) (fun hHeld=>?_);clear hK K
   (try simp only [Ad9,Ad8,Ad7,Act.put,Ad6,Aea,Aeb])
   refine AE 20 ?_ rfl (by assumption) (Or.inl ⟨by rfl,?_⟩) ?_;rotate_left;(focus (intro W' hSw;(try go_simp);try with_reducible rfl));(try simp only [Ad9,Ad8,Ad7,Act.put,Ad6,Aea,Aeb]);refine AE 21 ?_ rfl (by assumption) (Or.inl ⟨by rfl,?_⟩) ?_;rotate_left;(focus (intro W' hSw;(try go_simp);try with_reducible rfl));(try simp only [Ad9,Ad8,Ad7,Act.put,Ad6,Aea,Aeb]);refine AE 22 ?_ rfl (by assumption) (Or.inl ⟨by rfl,?_⟩) ?_;rotate_left;(focus (intro W' hSw;(try go_simp);try with_reducible rfl));(try simp only [Ad9,Ad8,Ad7,Act.put,Ad6,Aea,Aeb]);refine wpAnyH_done (by kernel_rfl) ?_ _
   (try go_wp2_with fail)
   go_meet;exact ⟨g,cells,sl,P,E,v0,v1,rfl,rfl,rfl,rfl,hA,hb0,B3,hgb,.inl (Nat.le_of_eq hg),setRow_heap v2 g _ _ _ _ qa,by simp;exact ba.size,fun b hl hb=>(setRow_other v2 g b _ hb).trans (ba.block b hl)⟩
  refine AllReadyH.cons rfl (fun K hK=>?_) AllReadyH.nil
  ·skip
   go_simp;generalize hB:v0.alloc _=v1;have ba:=Ac hB;have qa:=Ae hB;have B1:Below w.heap.size w v1:=hb0.trans (ba.mono hb0.size);refine hK.out _ _ (hS0 _ B1) (fun hHeld=>?_);clear hK K hB
   (try simp only [Ad9,Ad8,Ad7,Act.put,Ad6,Aea,Aeb])
   obtain ⟨g,hg⟩:∃ g,v0.heap.size=g:=⟨_,rfl⟩;rw [hg] at qa ⊢;have hgb:w.heap.size≤g:=by have:=hb0.size;omega
   refine wpAnyH_ready (rs:=[12]) (by kernel_rfl) (by simp) ?_;refine AllReadyH.cons rfl (fun K hK=>?_) AllReadyH.nil;go_simp;go_wp2_with (go_at_call 24;refine (hC v1 B1).mono ?_;rintro e v2 hA;obtain ⟨cells,sl,P,E,rfl,hone,hsz⟩:=LU hA)
   have b2:=hA.1;have B2:Below w.heap.size w v2:=B1.trans (b2.mono B1.size);have qb:=qa.below b2 qa.lt;refine hK.out _ _ (hS0 _ B2) (fun hHeld=>?_);clear hK K
   (try simp only [Ad9,Ad8,Ad7,Act.put,Ad6,Aea,Aeb])
   refine AE 13 ?_ rfl (by assumption) (Or.inl ⟨by rfl,?_⟩) ?_;rotate_left;(focus (intro W' hSw;(try go_simp);try with_reducible rfl));(try simp only [Ad9,Ad8,Ad7,Act.put,Ad6,Aea,Aeb]);refine AE 14 ?_ rfl (by assumption) (Or.inl ⟨by rfl,?_⟩) ?_;rotate_left;(focus (intro W' hSw;(try go_simp);try with_reducible rfl));(try simp only [Ad9,Ad8,Ad7,Act.put,Ad6,Aea,Aeb]);refine AE 15 ?_ rfl (by assumption) (Or.inl ⟨by rfl,?_⟩) ?_;rotate_left;(focus (intro W' hSw;(try go_simp);try with_reducible rfl));(try simp only [Ad9,Ad8,Ad7,Act.put,Ad6,Aea,Aeb]);refine AE 16 ?_ rfl (by assumption) (Or.inl ⟨by rfl,?_⟩) ?_;rotate_left;(focus (intro W' hSw;(try go_simp);try with_reducible rfl));(try simp only [Ad9,Ad8,Ad7,Act.put,Ad6,Aea,Aeb]);refine AE 17 ?_ rfl (by assumption) (Or.inl ⟨by rfl,?_⟩) ?_;rotate_left;(focus (intro W' hSw;(try go_simp);try with_reducible rfl));(try simp only [Ad9,Ad8,Ad7,Act.put,Ad6,Aea,Aeb]);refine wpAnyH_ready (rs:=[19]) (by kernel_rfl) (by simp) ?_;refine AllReadyH.cons rfl (fun K hK=>?_) AllReadyH.nil;rw [if_pos (by rfl)];refine wp_store_row 47 _ _ rfl g cells rfl rfl 47 Dg qb (by rw [hsz];kernel_rfl) (by rw [hsz];rfl) hone ?_;have B3:Below w.heap.size w (v2.setRow g cells):=below_setRow B2 hgb _;refine hK.out _ _ (hS0 _ B3) (fun hHeld=>?_);clear hK K
   (try simp only [Ad9,Ad8,Ad7,Act.put,Ad6,Aea,Aeb])
   refine AE 20 ?_ rfl (by assumption) (Or.inl ⟨by rfl,?_⟩) ?_;rotate_left;(focus (intro W' hSw;(try go_simp);try with_reducible rfl));(try simp only [Ad9,Ad8,Ad7,Act.put,Ad6,Aea,Aeb]);refine AE 21 ?_ rfl (by assumption) (Or.inl ⟨by rfl,?_⟩) ?_;rotate_left;(focus (intro W' hSw;(try go_simp);try with_reducible rfl));(try simp only [Ad9,Ad8,Ad7,Act.put,Ad6,Aea,Aeb]);refine AE 22 ?_ rfl (by assumption) (Or.inl ⟨by rfl,?_⟩) ?_;rotate_left;(focus (intro W' hSw;(try go_simp);try with_reducible rfl));(try simp only [Ad9,Ad8,Ad7,Act.put,Ad6,Aea,Aeb]);refine wpAnyH_done (by kernel_rfl) ?_ _
   (try go_wp2_with fail)
   go_meet;exact ⟨g,cells,sl,P,E,v1,v2,rfl,rfl,rfl,rfl,hA,B1,B3,hgb,.inr qa.lt,setRow_heap v2 g _ _ _ _ qb,by simp,fun b hl hb=>setRow_other v2 g b _ hb⟩
 case rest=>
  obtain ⟨g,cells,sl,P,E,w0,w1,rfl,rfl,rfl,rfl,hA,hX⟩:=hcut;clear hC hS0 q1;cases R with
  | error x=>
   obtain ⟨b1,he⟩:=hA;obtain ⟨_,_,e3,e4⟩:=Sq he;injection e3 with _ e3;injection e4 with _ e4;subst e3 e4;have ce:((x.1:Int) != 0)=true:=by simpa using XA HR.out
   have HB:=Ad5 (HH.out.h.b0.trans (hX.b.mono HH.out.h.b0.size));clear hX b1 he hms;go_upto_region 5 with fail;go_wp2_with fail
   go_ret2
   exact ⟨HB.out,rfl⟩
  | ok x=>
   obtain ⟨b1,ta,tb,ts,pa,pc,ma,mc,he,hta,htb,hts,hpr,hmr⟩:=hA;obtain ⟨e1,e2,e3,e4⟩:=Sq he;injection e1 with e1;injection e3 with _ e3;injection e4 with _ e4;subst e1 e2 e3 e4;obtain ⟨v,hv⟩:∃ v:CV,v=⟨x.1,ta,tb,ts,pa,pc⟩:=⟨_,rfl⟩;have hvc:v.c=x.1:=by rw [hv]
   rw [show ED x.1 ta tb ts (.slice pa x.1.sub.parts.length pc)=v.cells by rw [hv];rfl] at hX;have hP:=hX.pa hvc (by rw [hv];exact CV.ok_of hta htb hts hpr) hmr;obtain ⟨hm1,hm2,hm3⟩:=hms x rfl;have hone:=CV.one hP.ok;have HF:=Ad5 (show CFine x.1 from ⟨ZM (k:=r.st.k) (ms:=x.2.1) (p:=x.2.2) HR.out,hm3.1,hm3.2,hm2⟩);have hfit:=Uy W p mp q s ext r wc v.c v.ta v.tb v.ts (.slice v.pa v.c.sub.parts.length v.pc) (HH.out.step hP.b) HI.out.op HI.out.ls HI.out.cs (fun h=>by rw [hvc];exact hm2 (.inl (by rw [←hvc];exact h)));have HP:=Ad5 hP;have HM:=Ad5 hm1;have HV:=Ad5 hvc;clear hta htb hts hpr hmr b1 he hX hP hv hm1 hm2 hm3 hms hvc;go_upto_region 6 with fail;refine wp_region_list ?_;refine wpList_plain rfl (fun K hK=>?_);go_simp;refine hK _ _ ?_;clear hK K;(try simp only [Ad9,Ad8,Ad7,Act.put,Ad6,Aea,Aeb]);refine wpList_load_row rfl 47 _ rfl g rfl 47 v.cells _ _ HP.out.x Tryz.underlying47 rfl (by kernel_rfl) ?_
   (try simp only [Ad9,Ad8,Ad7,Act.put,Ad6,Aea,Aeb])
   refine wpList_plain rfl (fun K hK=>?_);go_simp
   go_at_call 25
   refine hfit.mono ?_;clear hfit;rintro e w3 ⟨rfl,hb3,⟨hz3,hbad⟩,hgood⟩;refine hK _ _ ?_;clear hK K
   (try simp only [Ad9,Ad8,Ad7,Act.put,Ad6,Aea,Aeb])
   refine wpList_plain rfl (fun K hK=>?_);go_simp;refine hK _ _ ?_;clear hK K;(try simp only [Ad9,Ad8,Ad7,Act.put,Ad6,Aea,Aeb]);refine wpList_nil ?_;have HB:=Ad5 (HH.out.h.b0.trans (HP.out.b.mono HH.out.h.b0.size));have HB3:=Ad5 hb3;by_cases h0:(AH r.st v.c).1=0
   ·rw [h0];obtain ⟨oa,oc,h3,hk3⟩:=hgood h0;have hlt:∀ b,w.heap.size≤b→some b ∉ r.own p mp:=fun b hb hm=>by have:=(HH.out.h.lt hm).2;omega
    have hbw:=HH.out.h.b0.size;have hks:∀ b,w.heap.size≤b→b < wc.heap.size→w3.heap[b]?=wc.heap[b]?∧some b ∉ (r.fit v.c oa oc).own p mp:=fun b hb hl=>hk3 b (by omega) hl (hlt b hb)
    have q3:Blk w3 g v.cells 47:=Er HP.out.x (hks g HP.out.gb HP.out.x.lt).1;have hv3:v.ok ((r.fit v.c oa oc).fr W.heap.size p mp) w3:=HP.out.ok.keep hz3 fun b hb hl=>⟨⟨by have:=hb.1;omega,(hks b hb.1 hl).2⟩,(hks b hb.1 hl).1⟩
    have hm3:=Aa HP.out.r fun b hb=>(hks b (AL HP.out.r b hb) (AB HP.out.r b hb)).1
    have hmo:∀ b,(Value.slice ma x.2.1.length mc).ownBlock=some b→some b ∉ (r.fit v.c oa oc).own p mp:=fun b hb=>(hks b (AL HP.out.r b hb) (AB HP.out.r b hb)).2
    have HE:=Ad5 (show E5 r.st (.ok x)=.ok ⟨x.2.2,r.st.cs++[x.1],r.st.ms++x.2.1,(AH r.st x.1).2⟩ by show Gv r.st x (AH r.st x.1)=_;unfold Gv;rw [if_pos (by rw [←HV.out];exact h0)]);have HI2:=fun r' e1 e2=>HI.out.next (r':=r') (c:=x.1) (k:=x.2.2) (ms:=x.2.1) (by rw [←HV.out];exact h0) h100 HM.out.2 HM.out.1 HF.out e1 e2
    have hgo:some g ∉ (r.fit v.c oa oc).own p mp:=(hks g HP.out.gb HP.out.x.lt).2;have hvl2:(r.fit v.c oa oc).vs.length≤100:=by show r.vs.length≤100;rw [hvl];exact HI.out.cs
    have hml2:(r.fit v.c oa oc).st.ms.length≤90000:=by show r.st.ms.length≤_;have:=HI.out.ms;have:=HI.out.cs;omega
    have hst2:(r.fit v.c oa oc).st={ r.st with op:=(AH r.st x.1).2 }:=by rw [←HV.out];rfl
    have hls2:(r.fit v.c oa oc).ls=if x.1.name=58 then r.ls++[x.1.arg] else r.ls:=by rw [←HV.out];rfl
    generalize r.fit v.c oa oc=r2 at *;obtain ⟨i0,hi,hz0,hz1,hz2⟩:=OS;obtain ⟨i1,ji,jz0,jz1,jz2⟩:=Cx;have hbs:=OT v;have c1:w3.cell? ⟨p,1,none⟩=some (.slice r2.ca r2.vs.length r2.cc):=(h3.b.cell 1).trans rfl;have c5:w3.cell? ⟨p,5,none⟩=some (.slice r2.ma r2.st.ms.length r2.mc):=(h3.b.cell 5).trans rfl;have hplt:=h3.b.lt;have hgl:=q3.lt;have hlo:W.heap.size≤w3.heap.size:=h3.h.b0.size;have hmn:=HM.out.2;have hm1:r2.vs.length+1≤maxLen:=by unfold maxLen;omega
    have hm2:(r2.vs.length+1) * 240≤140737488355328:=by omega
    have hm4:r2.st.ms.length+x.2.1.length≤maxLen:=by unfold maxLen;omega
    have hm5:(r2.st.ms.length+x.2.1.length) * 24≤140737488355328:=by omega
    have H3:=Ad5 h3;have HV3:=Ad5 hv3;have HM3:=Ad5 hm3;have HMO:=Ad5 hmo;have HGO:=Ad5 hgo;have HONE:=Ad5 hone;have HST:=Ad5 hst2;have HLS:=Ad5 hls2;clear h0 hgood hbad hk3 hlt hks hbw h3 hv3 hm3 hmo hone hst2 hls2 hvl2 hml2 hmn hvl k1 hgo;go_upto_region 9 with fail;refine wp_region_held_drew (S:=fun W':World=>Blk W' g v.cells 47) hmix q3 (fun hHeld=>?_);refine AE 0 ?_ rfl (by assumption) (Or.inl ⟨by rfl,?_⟩) ?_;rotate_left;(focus (intro W' hSw;(try go_simp);try with_reducible rfl));(try simp only [Ad9,Ad8,Ad7,Act.put,Ad6,Aea,Aeb]);refine AE 1 ?_ rfl (by assumption) (Or.inl ⟨by rfl,?_⟩) ?_;rotate_left;(focus (intro W' hSw;(try go_simp);try with_reducible rfl));(try simp only [Ad9,Ad8,Ad7,Act.put,Ad6,Aea,Aeb]);refine AE 2 ?_ rfl (by assumption) (Or.inl ⟨by rfl,?_⟩) ?_;rotate_left;(focus (intro W' hSw;(try go_simp);try with_reducible rfl));(try simp only [Ad9,Ad8,Ad7,Act.put,Ad6,Aea,Aeb]);refine AE 3 ?_ rfl (by assumption) (Or.inl ⟨by rfl,?_⟩) ?_;rotate_left;(focus (intro W' hSw;(try go_simp);try with_reducible rfl));(try simp only [Ad9,Ad8,Ad7,Act.put,Ad6,Aea,Aeb]);refine AE 4 ?_ rfl (by assumption) (Or.inl ⟨by rfl,?_⟩) ?_;rotate_left;(focus (intro W' hSw;(try go_simp);try with_reducible rfl));(try simp only [Ad9,Ad8,Ad7,Act.put,Ad6,Aea,Aeb]);refine AE 5 ?_ rfl (by assumption) (Or.inl ⟨by rfl,?_⟩) ?_;rotate_left;(focus (intro W' hSw;(try go_simp);try with_reducible rfl));(try simp only [Ad9,Ad8,Ad7,Act.put,Ad6,Aea,Aeb]);refine AE 6 ?_ rfl (by assumption) (Or.inl ⟨by rfl,?_⟩) ?_;rotate_left;(focus (intro W' hSw;(try go_simp);try with_reducible rfl));(try simp only [Ad9,Ad8,Ad7,Act.put,Ad6,Aea,Aeb]);refine AE 8 (.agg v.cells) rfl hHeld (Or.inl ⟨by rfl,fun W' hSw=>Gx 47 _ rfl g rfl hSw Tryz.underlying47 (by kernel_rfl)⟩) ?_
    (try simp only [Ad9,Ad8,Ad7,Act.put,Ad6,Aea,Aeb])
    refine AE 11 ?_ rfl (by assumption) (Or.inl ⟨by rfl,?_⟩) ?_;rotate_left;(focus (intro W' hSw;(try go_simp);try with_reducible rfl));(try simp only [Ad9,Ad8,Ad7,Act.put,Ad6,Aea,Aeb]);refine AE 12 ?_ rfl (by assumption) (Or.inl ⟨by rfl,?_⟩) ?_;rotate_left;(focus (intro W' hSw;(try go_simp);try with_reducible rfl));(try simp only [Ad9,Ad8,Ad7,Act.put,Ad6,Aea,Aeb]);refine AE 13 ?_ rfl (by assumption) (Or.inl ⟨by rfl,?_⟩) ?_;rotate_left;(focus (intro W' hSw;(try go_simp);try with_reducible rfl));(try simp only [Ad9,Ad8,Ad7,Act.put,Ad6,Aea,Aeb]);refine AE 15 ?_ rfl (by assumption) (Or.inl ⟨by rfl,?_⟩) ?_;rotate_left;(focus (intro W' hSw;(try go_simp);try with_reducible rfl));(try simp only [Ad9,Ad8,Ad7,Act.put,Ad6,Aea,Aeb]);refine AE 17 ?_ rfl (by assumption) (Or.inl ⟨by rfl,?_⟩) ?_;rotate_left;(focus (intro W' hSw;(try go_simp);try with_reducible rfl));(try simp only [Ad9,Ad8,Ad7,Act.put,Ad6,Aea,Aeb]);have hb0:Below w3.heap.size w3 w3.drew:=(Aeh _ _).drew;have c1:w3.drew.cell? ⟨p,1,none⟩=some (.slice r2.ca r2.vs.length r2.cc):=c1;have c5:w3.drew.cell? ⟨p,5,none⟩=some (.slice r2.ma r2.st.ms.length r2.mc):=c5;have hp0:p < w3.drew.heap.size:=hplt;generalize w3.drew=v0 at hHeld hb0 c1 c5 hp0 ⊢
    iterate 5 (all_goals ((first | refine wpAnyH_ready (rs:=[7,9,14]) (by decide +kernel) (by simp) (AllReadyH.cons rfl (fun K hK=>?_) (AllReadyH.cons rfl (fun K hK=>?_) (AllReadyH.cons rfl (fun K hK=>?_) AllReadyH.nil))) | refine wpAnyH_ready (rs:=[9,14]) (by decide +kernel) (by simp) (AllReadyH.cons rfl (fun K hK=>?_) (AllReadyH.cons rfl (fun K hK=>?_) AllReadyH.nil)) | refine wpAnyH_ready (rs:=[7,14]) (by decide +kernel) (by simp) (AllReadyH.cons rfl (fun K hK=>?_) (AllReadyH.cons rfl (fun K hK=>?_) AllReadyH.nil)) | refine wpAnyH_ready (rs:=[7,9]) (by decide +kernel) (by simp) (AllReadyH.cons rfl (fun K hK=>?_) (AllReadyH.cons rfl (fun K hK=>?_) AllReadyH.nil)) | refine wpAnyH_ready (rs:=[10,14]) (by decide +kernel) (by simp) (AllReadyH.cons rfl (fun K hK=>?_) (AllReadyH.cons rfl (fun K hK=>?_) AllReadyH.nil)) | refine wpAnyH_ready (rs:=[9]) (by decide +kernel) (by simp) (AllReadyH.cons rfl (fun K hK=>?_) AllReadyH.nil) | refine wpAnyH_ready (rs:=[7]) (by decide +kernel) (by simp) (AllReadyH.cons rfl (fun K hK=>?_) AllReadyH.nil) | refine wpAnyH_ready (rs:=[10]) (by decide +kernel) (by simp) (AllReadyH.cons rfl (fun K hK=>?_) AllReadyH.nil) | refine wpAnyH_ready (rs:=[14]) (by decide +kernel) (by simp) (AllReadyH.cons rfl (fun K hK=>?_) AllReadyH.nil) | refine wpAnyH_ready (rs:=[16]) (by decide +kernel) (by simp) (AllReadyH.cons rfl (fun K hK=>?_) AllReadyH.nil)) <;> first | (refine Av rfl _ _ 23 rfl W.heap.size 47 i0 (.agg Dg) 20 240 Tryz.underlying23 hi hz0 hz1 hz2 rfl (by decide) (.slice r2.ca r2.vs.length r2.cc) r2.vs.length (r2.vs.flatMap fun v=>v.cells.toList) rfl (H3.out.h.step HB1.out).cr (some ⟨v0.heap.size,0,none⟩) 1 1 v.cells.toList rfl rfl (fun _=>⟨_,rfl,XE HX.out⟩) (LV HONE.out) hm1 hm2 (Aed hlo HB1.out.size) ?_;intro v6 w6 hown6 hgrow6 hat6;obtain ⟨a6,c6,rfl⟩:=A6 hown6;have HR6:=Ad5 ((H3.out.h.step HB1.out).cmd hgrow6 hown6 hat6 (HV3.out.keep HB1.out.size fun b hb hl=>⟨hb,HB1.out.block b hl⟩));have HQ6:=Ad5 (AG (H3.out.b.below HB1.out H3.out.b.lt) hgrow6 (fun e=>(ZG H3.out.h.ap).2.1.1 e));have HM6:=Ad5 (BU (Ag HM3.out HB1.out) hgrow6 (fun b hb e=>HMO.out b hb (by rw [←e];simp [RV.own])));have c5:w6.cell? ⟨p,5,none⟩=some (.slice r2.ma r2.st.ms.length r2.mc):=(HQ6.out.cell 5).trans rfl;have hS6:Blk w6 g v.cells 47:=AG hHeld hgrow6 (fun e=>HGO.out (by rw [←e];simp [RV.own]));refine hK.out _ _ hS6 (fun hHeld=>?_);clear hK K hown6 hgrow6 hat6;(try simp only [Ad9,Ad8,Ad7,Act.put,Ad6,Aea,Aeb])) | (refine Av rfl _ _ 26 rfl W.heap.size 33 i1 (.agg #[.int .i64 0,.string ⟨#[]⟩]) 2 24 Tryz.underlying26 ji jz0 jz1 jz2 rfl (by decide) (.slice r2.ma r2.st.ms.length r2.mc) r2.st.ms.length (wmC r2.st.ms) rfl HR6.out.mr ma x.2.1.length mc (wmC x.2.1) rfl (ML _) (QC HM6.out) (MM _) hm4 hm5 HR6.out.b0.size ?_;intro v7 w7 hown7 hgrow7 hat7;obtain ⟨a7,c7,rfl⟩:=A6 hown7;have HR7:=Ad5 (HR6.out.mark (n:=x.2.1.length) rfl hgrow7 hown7 hat7);have hQ7:=AG HQ6.out hgrow7 (fun e=>(ZG HR6.out.ap).2.1.2.1 e);have HQ7:=Ad5 hQ7;have f1:=hQ7.frozen 1;have f4:=hQ7.frozen 4;have f5:=hQ7.frozen 5;have g1:w7.cell? ⟨p,1,none⟩=some (.slice r2.ca r2.vs.length r2.cc):=(hQ7.cell 1).trans rfl;have g5:w7.cell? ⟨p,5,none⟩=some (.slice r2.ma r2.st.ms.length r2.mc):=(hQ7.cell 5).trans rfl;have g4:w7.cell? ⟨p,4,none⟩=some (.int .i64 (r2.st.k:Int)):=(hQ7.cell 4).trans rfl;have hS7:Blk w7 g v.cells 47:=AG hHeld hgrow7 (fun e=>HGO.out (by simp only [RV.own,Ael];exact .inr (.inr (.inr (.inl e.symm)))));refine hK.out _ _ hS7 (fun hHeld=>?_);clear hK K hown7 hgrow7 hat7 hQ7;(try simp only [Ad9,Ad8,Ad7,Act.put,Ad6,Aea,Aeb])) | (refine U0 v rfl _ rfl rfl ?_;generalize hB:World.alloc v0 _=v1;have ba:=Ac hB;have HX:=Ad5 (Ae hB);have c1:=(ba.cell (p:=⟨p,1,none⟩) hp0).trans c1;have c5:=(ba.cell (p:=⟨p,5,none⟩) hp0).trans c5;have HB1:=Ad5 (hb0.trans (ba.mono hb0.size));refine hK.out _ _ (Blk.below hHeld ba hHeld.lt) (fun hHeld=>?_);clear hK K hB ba;(try simp only [Ad9,Ad8,Ad7,Act.put,Ad6,Aea,Aeb])) | (go_simp;refine hK.out _ _ (by assumption) (fun hHeld=>?_);clear hK K;(try simp only [Ad9,Ad8,Ad7,Act.put,Ad6,Aea,Aeb]))))
    all_goals
     have hpg:p≠g:=fun e=>HGO.out (by rw [←e];simp [RV.own])
     refine AE 18 ?_ rfl (by assumption) (Or.inl ⟨by rfl,?_⟩) ?_;rotate_left;(focus (intro W' hSw;(try go_simp);try with_reducible rfl));(try simp only [Ad9,Ad8,Ad7,Act.put,Ad6,Aea,Aeb]);refine AE 19 ?_ rfl (by assumption) (Or.inl ⟨by rfl,?_⟩) ?_;rotate_left;(focus (intro W' hSw;(try go_simp);try with_reducible rfl));(try simp only [Ad9,Ad8,Ad7,Act.put,Ad6,Aea,Aeb]);refine AE 20 ?_ rfl (by assumption) (Or.inl ⟨by rfl,?_⟩) ?_;rotate_left;(focus (intro W' hSw;(try go_simp);try with_reducible rfl));(try simp only [Ad9,Ad8,Ad7,Act.put,Ad6,Aea,Aeb]);refine wpAnyH_ready (rs:=[21]) (by kernel_rfl) (by simp) (AllReadyH.cons rfl (fun K hK=>?_) AllReadyH.nil);go_simp;refine hK.out _ _ (Blk.set_other hHeld ⟨p,1,none⟩ hpg _) (fun hHeld=>?_);clear hK K
     (try simp only [Ad9,Ad8,Ad7,Act.put,Ad6,Aea,Aeb])
     refine AE 22 ?_ rfl (by assumption) (Or.inl ⟨by rfl,?_⟩) ?_;rotate_left;(focus (intro W' hSw;(try go_simp);try with_reducible rfl));(try simp only [Ad9,Ad8,Ad7,Act.put,Ad6,Aea,Aeb]);refine AE 23 ?_ rfl (by assumption) (Or.inl ⟨by rfl,?_⟩) ?_;rotate_left;(focus (intro W' hSw;(try go_simp);try with_reducible rfl));(try simp only [Ad9,Ad8,Ad7,Act.put,Ad6,Aea,Aeb]);refine wpAnyH_ready (rs:=[24]) (by kernel_rfl) (by simp) (AllReadyH.cons rfl (fun K hK=>?_) AllReadyH.nil);go_simp;refine hK.out _ _ (Blk.set_other hHeld ⟨p,5,none⟩ hpg _) (fun hHeld=>?_);clear hK K
     (try simp only [Ad9,Ad8,Ad7,Act.put,Ad6,Aea,Aeb])
     refine AE 25 ?_ rfl (by assumption) (Or.inl ⟨by rfl,?_⟩) ?_;rotate_left;(focus (intro W' hSw;(try go_simp);try with_reducible rfl));(try simp only [Ad9,Ad8,Ad7,Act.put,Ad6,Aea,Aeb]);refine AE 26 ?_ rfl (by assumption) (Or.inl ⟨by rfl,?_⟩) ?_;rotate_left;(focus (intro W' hSw;(try go_simp);try with_reducible rfl));(try simp only [Ad9,Ad8,Ad7,Act.put,Ad6,Aea,Aeb]);refine wpAnyH_ready (rs:=[27]) (by kernel_rfl) (by simp) (AllReadyH.cons rfl (fun K hK=>?_) AllReadyH.nil);go_simp;refine hK.out _ _ (Blk.set_other hHeld ⟨p,4,none⟩ hpg _) (fun hHeld=>?_);clear hK K
     (try simp only [Ad9,Ad8,Ad7,Act.put,Ad6,Aea,Aeb])
     refine wpAnyH_done (by kernel_rfl) ?_ _
     (try go_wp2_with fail)
     go_ret2
     rw [HE.out];have est:(⟨x.2.2,r2.st.cs++[v.c],r2.st.ms++x.2.1,r2.st.op⟩:SS)=⟨x.2.2,r.st.cs++[x.1],r.st.ms++x.2.1,(AH r.st x.1).2⟩:=by rw [HST.out,HV.out]
     have hfin:ScS W p mp q s ext ⟨⟨x.2.2,r2.st.cs++[v.c],r2.st.ms++x.2.1,r2.st.op⟩,r2.ls,r2.vs++[v],a6,c6,a7,c7,r2.oa,r2.oc⟩ (((w7.setCell ⟨p,1,none⟩ (.slice a6 (r2.vs.length+1) c6)).setCell ⟨p,5,none⟩ (.slice a7 (r2.st.ms.length+x.2.1.length) c7)).setCell ⟨p,4,none⟩ (.int .i64 (x.2.2:Int))):=by
      refine ⟨(((HR7.out.setp 1 _).setp 5 _).setp 4 _).go x.2.2,?_⟩;have h9:=((HQ7.out.set 1 (.slice a6 (r2.vs.length+1) c6)).set 5 (.slice a7 (r2.st.ms.length+x.2.1.length) c7)).set 4 (.int .i64 (x.2.2:Int));show Blk _ p (scC q (.slice a6 (r2.vs++[v]).length c6) s ext x.2.2 (.slice a7 (r2.st.ms++x.2.1).length c7) r2.ov (.map (some mp))) _;rw [Aee,Aee];exact h9
     exact ⟨hfin.h.b0,rfl,⟨⟨x.2.2,r2.st.cs++[v.c],r2.st.ms++x.2.1,r2.st.op⟩,r2.ls,r2.vs++[v],a6,c6,a7,c7,r2.oa,r2.oc⟩,est,HI2 _ est HLS.out,hfin⟩
   ·have ce:(((AH r.st v.c).1:Int) != 0)=true:=by simpa using h0
    have q3:=HP.out.x.below (hbad h0) HP.out.x.lt;have k0:w3.cell? ⟨g,0,none⟩=some (.int .i64 (v.c.pl:Int)):=(q3.cell 0).trans rfl;have HE:=Ad5 (show E5 r.st (.ok x)=.error ((AH r.st v.c).1,v.c.pl) by show Gv r.st x (AH r.st x.1)=_;rw [HV.out];unfold Gv;rw [if_neg (by rw [←HV.out];exact h0)]);generalize (AH r.st v.c).1=E at *;clear h0 hgood hbad;go_upto_region 8 with fail;go_wp2_with fail
    go_ret2
    rw [HE.out];exact ⟨HB3.out,rfl⟩
end
end Go.Proofs.YteilldmmihiijaaGreatDoor
