/- Texts. -/
import Derived.Test.YteilldmmihiijaaGreatDoorTw08
import Derived.Deep.RegionHeld
import Derived.Laws.Rows
import Derived.Deep.MidRow
import Derived.Laws.Tables
import Derived.Laws.CopyOwn
import Derived.Laws.Runes
import Derived.Shelf.Small.Utf8
import Derived.WalkMore
set_option linter.unusedSimpArgs false
set_option linter.unusedVariables false
set_option maxHeartbeats 8000000
set_option maxRecDepth 1000000
namespace Go.Proofs.YteilldmmihiijaaGreatDoor
open Go.Lib renaming hid→Ad5
open List renaming setIfInBounds_toArray→Ad6,getElem_cons_zero→Ad7,getElem_cons_succ→Ad8,getElem_toArray→Ad9,set_cons_zero→Aea,set_cons_succ→Aeb,length_append→Aee,mem_cons→Ael
open Nat renaming le_refl→Aec,le_trans→Aed,le_of_lt→Aeg
open Go.RowKit.Below renaming refl→Aeh,heap_setCell→Aei
open Go.IntWalk renaming i64_in→Aej
open Go.World renaming cell?_of_block→Aek
section
open Go Go.RowKit
abbrev gdZ:Array Value:=#[.int .i64 0,.int .i64 0,.string ⟨#[]⟩,.nilIface,.int .i64 0,.int .i64 0,.string ⟨#[]⟩,.nilIface,.bool false]
def GdA (w:World) (r:BK Grd) (e:Ending) (w':World):Prop:=Below w.heap.size w w'∧match r with
 | .error q=>e=.returned (.tuple #[.agg gdZ,.slice none 0 0,.int .i64 (q.2:Int),.int .i64 (q.1:Int)])
 | .ok q=>∃ ta tb ma mc,e=.returned (.tuple #[.agg #[.int .i64 (q.1.a.kind:Int),.int .i64 (q.1.a.line:Int),.string (txt q.1.a.text),ta,.int .i64 (q.1.b.kind:Int),.int .i64 (q.1.b.line:Int),.string (txt q.1.b.text),tb,.bool q.1.no],.slice ma q.2.1.length mc,.int .i64 (q.2.2:Int),.int .i64 0])∧
  TrO (fun b=>w.heap.size < b∧(Value.slice ma q.2.1.length mc).ownBlock≠some b) w' q.1.a.tree ta∧TrO (fun b=>w.heap.size < b∧(Value.slice ma q.2.1.length mc).ownBlock≠some b) w' q.1.b.tree tb∧w'.ownsRow (w.heap.size+1) 33 2 (.slice ma q.2.1.length mc) q.2.1.length (wmC q.2.1)
theorem BT {w:World} {b:Nat} {T:TypeId} {v0 v1 v2 v3 v4 v5 v6 v7 v8:Value} (h:Blk w b #[v0,v1,v2,v3,v4,v5,v6,v7,v8] T) :
  (w.cell? ⟨b,0,none⟩=some v0∧w.cell? ⟨b,1,none⟩=some v1∧w.cell? ⟨b,2,none⟩=some v2∧w.cell? ⟨b,3,none⟩=some v3∧w.cell? ⟨b,4,none⟩=some v4∧w.cell? ⟨b,5,none⟩=some v5∧w.cell? ⟨b,6,none⟩=some v6∧w.cell? ⟨b,7,none⟩=some v7∧w.cell? ⟨b,8,none⟩=some v8)∧
  (w.frozen? ⟨b,0,none⟩=false∧w.frozen? ⟨b,1,none⟩=false∧w.frozen? ⟨b,2,none⟩=false∧w.frozen? ⟨b,3,none⟩=false∧w.frozen? ⟨b,4,none⟩=false∧w.frozen? ⟨b,5,none⟩=false∧w.frozen? ⟨b,6,none⟩=false∧w.frozen? ⟨b,7,none⟩=false∧w.frozen? ⟨b,8,none⟩=false∧b < w.heap.size):=
 ⟨⟨(h.cell 0).trans rfl,(h.cell 1).trans rfl,(h.cell 2).trans rfl,(h.cell 3).trans rfl,(h.cell 4).trans rfl,(h.cell 5).trans rfl,(h.cell 6).trans rfl,(h.cell 7).trans rfl,(h.cell 8).trans rfl⟩,h.frozen 0,h.frozen 1,h.frozen 2,h.frozen 3,h.frozen 4,h.frozen 5,h.frozen 6,h.frozen 7,h.frozen 8,h.lt⟩
theorem I5 {P:Program} {fn:Func} {Q:Ending→World→Prop} {e:Exit} {act:Act} {w0 w:World} {p:Nat} {T:TypeId} {u0 u1 u2 u3 u4 u5 u6 u7 u8:Value} (hb:Below w0.heap.size w0 w) (h:Blk w p #[u0,u1,u2,u3,u4,u5,u6,u7,u8] T) (hp:w0.heap.size≤p) {v0 v1 v2 v3 v4 v5 v6 v7 v8:Value}
  (H:∀ w',Below w0.heap.size w0 w'→Blk w' p #[v0,v1,v2,v3,v4,v5,v6,v7,v8] T→(∀ b,b≠p→w'.heap[b]?=w.heap[b]?)→w'.heap.size=w.heap.size→bodyPost P fn Q e act w') :
  bodyPost P fn Q e act (((((((((w.setCell ⟨p,0,none⟩ v0).setCell ⟨p,1,none⟩ v1).setCell ⟨p,2,none⟩ v2).setCell ⟨p,3,none⟩ v3).setCell ⟨p,4,none⟩ v4).setCell ⟨p,5,none⟩ v5).setCell ⟨p,6,none⟩ v6).setCell ⟨p,7,none⟩ v7).setCell ⟨p,8,none⟩ v8):=by
 have h9:=((((((((h.set 0 v0).set 1 v1).set 2 v2).set 3 v3).set 4 v4).set 5 v5).set 6 v6).set 7 v7).set 8 v8;have hcs:((((((((((#[u0,u1,u2,u3,u4,u5,u6,u7,u8]:Array Value).setIfInBounds 0 v0).setIfInBounds 1 v1).setIfInBounds 2 v2).setIfInBounds 3 v3).setIfInBounds 4 v4).setIfInBounds 5 v5).setIfInBounds 6 v6).setIfInBounds 7 v7).setIfInBounds 8 v8)=#[v0,v1,v2,v3,v4,v5,v6,v7,v8]:=by
  simp
 rw [hcs] at h9;clear hcs h;have o1:∀ (w:World) (j:Nat) (v:Value) b,b≠p→(w.setCell ⟨p,j,none⟩ v).heap[b]?=w.heap[b]?:=fun w j v b hb=>Aei _ _ _ _ (fun e=>hb e)
 have s1:∀ (w:World) (j:Nat) (v:Value),(w.setCell ⟨p,j,none⟩ v).heap.size=w.heap.size:=fun w j v=>by simp [World.setCell]
 refine H _ ?_ h9 (fun b hb=>?_) ?_
 ·exact ((((((((hb.setCell (p:=⟨p,0,none⟩) hp v0).setCell (p:=⟨p,1,none⟩) hp v1).setCell (p:=⟨p,2,none⟩) hp v2).setCell (p:=⟨p,3,none⟩) hp v3).setCell (p:=⟨p,4,none⟩) hp v4).setCell (p:=⟨p,5,none⟩) hp v5).setCell (p:=⟨p,6,none⟩) hp v6).setCell (p:=⟨p,7,none⟩) hp v7).setCell (p:=⟨p,8,none⟩) hp v8
 ·exact (o1 _ 8 v8 b hb).trans ((o1 _ 7 v7 b hb).trans ((o1 _ 6 v6 b hb).trans ((o1 _ 5 v5 b hb).trans ((o1 _ 4 v4 b hb).trans ((o1 _ 3 v3 b hb).trans ((o1 _ 2 v2 b hb).trans ((o1 _ 1 v1 b hb).trans (o1 _ 0 v0 b hb))))))))
 ·exact (s1 _ 8 v8).trans ((s1 _ 7 v7).trans ((s1 _ 6 v6).trans ((s1 _ 5 v5).trans ((s1 _ 4 v4).trans ((s1 _ 3 v3).trans ((s1 _ 2 v2).trans ((s1 _ 1 v1).trans (s1 _ 0 v0))))))))
structure GdSt (w:World) (g:Nat) (a b:Adr) (ta tb:Value) (no:Value) (ms:List Wm) (ma:Option Addr) (mc:Nat) (W:World):Prop where
 b0:Below w.heap.size w W
 p:Blk W w.heap.size gdZ 42
 q:Blk W g #[.int .i64 (a.kind:Int),.int .i64 (a.line:Int),.string (txt a.text),ta,.int .i64 (b.kind:Int),.int .i64 (b.line:Int),.string (txt b.text),tb,no] 42
 pg:w.heap.size < g
 ha:TrO (fun b=>w.heap.size < b∧b≠g∧(Value.slice ma ms.length mc).ownBlock≠some b) W a.tree ta
 hb:TrO (fun b=>w.heap.size < b∧b≠g∧(Value.slice ma ms.length mc).ownBlock≠some b) W b.tree tb
 r:W.ownsRow (w.heap.size+1) 33 2 (.slice ma ms.length mc) ms.length (wmC ms)
 rg:(Value.slice ma ms.length mc).ownBlock≠some g
theorem GdSt.step {w:World} {g:Nat} {a b:Adr} {ta tb no:Value} {ms:List Wm} {ma:Option Addr} {mc:Nat} {W W':World} (h:GdSt w g a b ta tb no ms ma mc W) (hb:Below W.heap.size W W'):GdSt w g a b ta tb no ms ma mc W':=
 ⟨h.b0.trans (hb.mono h.b0.size),h.p.below hb h.p.lt,h.q.below hb h.q.lt,h.pg,h.ha.below hb,h.hb.below hb,Ag h.r hb,h.rg⟩
theorem GdSt.not {w:World} {g:Nat} {a b:Adr} {ta tb no:Value} {ms:List Wm} {ma:Option Addr} {mc:Nat} {W:World} (h:GdSt w g a b ta tb no ms ma mc W) (n:Value):GdSt w g a b ta tb n ms ma mc (W.setCell ⟨g,8,none⟩ n):=by
 have hpg:=h.pg;have o1:∀ b,b≠g→(W.setCell ⟨g,8,none⟩ n).heap[b]?=W.heap[b]?:=fun b hb=>Aei _ _ _ _ (fun e=>hb e)
 have hsz:(W.setCell ⟨g,8,none⟩ n).heap.size=W.heap.size:=by simp [World.setCell]
 have hk:∀ {t v},TrO (fun b=>w.heap.size < b∧b≠g∧(Value.slice ma ms.length mc).ownBlock≠some b) W t v→TrO (fun b=>w.heap.size < b∧b≠g∧(Value.slice ma ms.length mc).ownBlock≠some b) (W.setCell ⟨g,8,none⟩ n) t v:=fun hk=>TrO.keep (by omega) (fun b hb _=>⟨hb,fun o=>Aek (w:=W) (a:=⟨b,o,none⟩) (o1 b hb.2.1)⟩) hk
 exact ⟨h.b0.setCell (p:=⟨g,8,none⟩) (Aeg hpg) n,Er h.p (o1 _ (by omega)),h.q.set 8 n,hpg,hk h.ha,hk h.hb,Aa h.r fun b hb=>o1 b fun e=>h.rg (by rw [hb,e]),h.rg⟩
theorem GdSt.end {w:World} {g:Nat} {a b:Adr} {ta tb:Value} {no:Bool} {ms:List Wm} {ma:Option Addr} {mc:Nat} {W W':World} (h:GdSt w g a b ta tb (.bool no) ms ma mc W) (h1:Below w.heap.size w W') (hs:∀ b,b≠w.heap.size→W'.heap[b]?=W.heap[b]?) (hz:W'.heap.size=W.heap.size) (p:Nat) :
  GdA w (.ok (⟨a,b,no⟩,ms,p)) (.returned (.tuple #[.agg #[.int .i64 (a.kind:Int),.int .i64 (a.line:Int),.string (txt a.text),ta,.int .i64 (b.kind:Int),.int .i64 (b.line:Int),.string (txt b.text),tb,.bool no],.slice ma ms.length mc,.int .i64 (p:Int),.int .i64 0])) W':=by
 have hk:∀ {t v},TrO (fun b=>w.heap.size < b∧b≠g∧(Value.slice ma ms.length mc).ownBlock≠some b) W t v→TrO (fun b=>w.heap.size < b∧(Value.slice ma ms.length mc).ownBlock≠some b) W' t v:=fun hk=>TrO.keep (by omega) (fun b hb _=>⟨⟨hb.1,hb.2.2⟩,fun o=>Aek (w:=W) (a:=⟨b,o,none⟩) (hs b (by have:=hb.1;omega))⟩) hk
 exact ⟨h1,ta,tb,ma,mc,rfl,hk h.ha,hk h.hb,Aa h.r fun b hb=>hs b (by have:=AL h.r b hb;omega)⟩
theorem Gp {L:List UInt8} {k:Nat} {q:Nat × Nat} (h:C7 L k=.error q):q.1≠0:=by
 unfold C7 at h;split at h
 ·split at h
  ·injection h with h;rw [←h];exact Nat.succ_ne_zero _
  ·cases h
 ·cases h
theorem QC {w:World} {B:Nat} {T:TypeId} {a:Option Addr} {n c:Nat} {xs:List Value} {size:Nat} (h:w.ownsRow B T size (.slice a n c) n xs):0 < n→∃ ad,a=some ad∧∀ j u,xs[j]?=some u→w.cell? (ad.add j)=some u:=fun h0=>by
 have h2:=h;rcases h.2 with ⟨_,h3⟩ | ⟨q,cap,cur,e,_⟩
 ·omega
 ·injection e with e1 _ e2;subst e1 e2;exact ⟨_,rfl,h2.cells rfl⟩
theorem GdSt.sec {w:World} {g:Nat} {a:Adr} {ta:Value} {ms:List Wm} {ma:Option Addr} {mc:Nat} {W:World} (h:GdSt w g a GA ta .nilIface (.bool false) ms ma mc W) {b:Adr} {tb:Value} {ms2:List Wm} {mb:Option Addr} {mcb B2:Nat} (hg:g < B2) (hq:∀ q,(Value.slice ma ms.length mc).ownBlock=some q→q < B2)
  (hb2:TrO (fun x=>B2≤x∧(Value.slice mb ms2.length mcb).ownBlock≠some x) W b.tree tb) {W9:World} {m9:Option Addr} {c9:Nat} (e0:Below w.heap.size w W9) (hsz:W.heap.size≤W9.heap.size)
  (hp9:∀ x,x < W.heap.size→x≠g→(Value.slice ma ms.length mc).ownBlock≠some x→W9.heap[x]?=W.heap[x]?)
  (hq9:Blk W9 g #[.int .i64 (a.kind:Int),.int .i64 (a.line:Int),.string (txt a.text),ta,.int .i64 (b.kind:Int),.int .i64 (b.line:Int),.string (txt b.text),tb,.bool false] 42)
  (hr9:W9.ownsRow (w.heap.size+1) 33 2 (.slice m9 (ms.length+ms2.length) c9) (ms.length+ms2.length) (wmC ms++wmC ms2)) (hat:(Value.slice m9 (ms.length+ms2.length) c9).ownBlock=(Value.slice ma ms.length mc).ownBlock∨∃ x,(Value.slice m9 (ms.length+ms2.length) c9).ownBlock=some x∧W.heap.size≤x) :
  GdSt w g a b ta tb (.bool false) (ms++ms2) m9 c9 W9:=by
 have hpg:=h.pg;have hgl:=h.q.lt;have hn:∀ x,x < W.heap.size→(Value.slice ma ms.length mc).ownBlock≠some x→(Value.slice m9 (ms.length+ms2.length) c9).ownBlock≠some x:=fun x hx h1 e=>by
  rcases hat with h2 | ⟨y,h2,hy⟩
  ·exact h1 (h2.symm.trans e)
  ·rw [h2] at e;injection e with e;omega
 have hl:(ms++ms2).length=ms.length+ms2.length:=Aee;refine ⟨e0,Er h.p (hp9 _ (by omega) (by omega) fun e=>by have:=AL h.r _ e;omega),hq9,hpg,?_,?_,?_,?_⟩
 ·rw [hl];exact TrO.keep hsz (fun x hx hl=>⟨⟨hx.1,hx.2.1,hn x hl hx.2.2⟩,fun o=>Aek (w:=W) (a:=⟨x,o,none⟩) (hp9 x hl hx.2.1 hx.2.2)⟩) h.ha
 ·rw [hl];refine TrO.keep hsz (fun x hx hl=>?_) hb2;have h1:(Value.slice ma ms.length mc).ownBlock≠some x:=fun e=>by have:=hq x e;have:=hx.1;omega
  have h2:x≠g:=by have:=hx.1;omega
  exact ⟨⟨by have:=hx.1;omega,h2,hn x hl h1⟩,fun o=>Aek (w:=W) (a:=⟨x,o,none⟩) (hp9 x hl h2 h1)⟩
 ·rw [hl,MK];exact hr9
 ·rw [hl];exact hn g hgl h.rg
theorem Ace {W:World} {g:Nat} {T:TypeId} {u0 u1 u2 u3 u4 u5 u6 u7 u8:Value} (h:Blk W g #[u0,u1,u2,u3,u4,u5,u6,u7,u8] T) (v4 v5 v6 v7:Value) (w':World)
  (hw:((((W.setCell ⟨g,4,none⟩ v4).setCell ⟨g,5,none⟩ v5).setCell ⟨g,6,none⟩ v6).setCell ⟨g,7,none⟩ v7)=w') :
  Blk w' g #[u0,u1,u2,u3,v4,v5,v6,v7,u8] T∧(∀ b,b≠g→w'.heap[b]?=W.heap[b]?)∧w'.heap.size=W.heap.size∧(∀ B,B≤g→Below B W w'):=by
 subst hw;have o1:∀ (w:World) (j:Nat) (v:Value) b,b≠g→(w.setCell ⟨g,j,none⟩ v).heap[b]?=w.heap[b]?:=fun w j v b hb=>Aei _ _ _ _ (fun e=>hb e)
 refine ⟨(((h.set 4 v4).set 5 v5).set 6 v6).set 7 v7,fun b hb=>?_,by simp [World.setCell],fun B hB=>?_⟩
 ·rw [o1 _ _ _ _ hb,o1 _ _ _ _ hb,o1 _ _ _ _ hb,o1 _ _ _ _ hb]
 ·exact (((((Aeh _ _).setCell (p:=⟨g,4,none⟩) hB v4).setCell (p:=⟨g,5,none⟩) hB v5).setCell (p:=⟨g,6,none⟩) hB v6).setCell (p:=⟨g,7,none⟩) hB v7)
theorem Ug (ext:Bool) (s:ByteArray) (k:Nat) (w:World) (hs:s.size≤4000000) (hk:k≤s.size) (hG:Gl w) (hP:GP w) :
  Calls Tryz.prog 33 #[.string s,.int .i64 (k:Int),.bool ext] w (GdA w (Jd ext s.data.toList k)):=by
 have hA:=(Aeh w.heap.size w).alloc (Aec _) (.cells gdZ 42);have hR0:=Blk.new w gdZ 42 w.heap.size rfl;obtain ⟨W,hW⟩:∃ W,w.alloc (.cells gdZ 42)=W:=⟨_,rfl⟩;rw [hW] at hA hR0;have hGW:=hG.up hA;have hPW:=hP.up hA;have hAd:=Sa ext false s k W hs hk hGW hPW;unfold Jd;have hwe:∀ q,EY ext false s.data.toList k=.error q→q.1≠0:=fun q h=>Jn h
 have hle:∀ q,EY ext false s.data.toList k=.ok q→q.2.2≤s.size∧q.2.1.length≤251:=fun q h=>Na s (by omega) h
 generalize EY ext false s.data.toList k=R at hAd hwe hle ⊢;obtain ⟨A,hans⟩:∃ A,GB s.data.toList (Eo ext s.data.toList R)=A:=⟨_,rfl⟩;rw [hans];have HAN:=Ad5 hans;have HA:=Ad5 hA;have HR0:=Ad5 hR0;have HG:=Ad5 hGW;have HP:=Ad5 hPW;clear hans hA hR0 hG hP hGW hPW;cases R with
 | error q=>
  obtain ⟨n,p⟩:=q;have hn:n≠0:=hwe _ rfl;have hnn:((n:Int) != 0)=true:=by simp;omega
  have HAE:=Ad5 (show (.error (n,p):BK Grd)=A from HAN.out);clear hwe hn hle;go_enter Tryz.func33,Tryz.ntmps33;go_upto_region 2 with (go_at_call 40;refine hAd.mono ?_;clear hAd;rintro e w1 ⟨b1,rfl⟩;have B1:=Ad5 (HA.out.trans (b1.mono HA.out.size));have K1:=Ad5 (HR0.out.below b1 HR0.out.lt);clear b1)
  have hlt1:=K1.out.lt;generalize hW2:w1.alloc _=w2;have hb2:=Ac hW2;have B2:=Ad5 (B1.out.trans (hb2.mono B1.out.size));have K2:=Ad5 (K1.out.below hb2 hlt1);clear hb2 hW2;obtain ⟨⟨z0,z1,z2,z3,z4,z5,z6,z7,z8⟩,v0,v1,v2,v3,v4,v5,v6,v7,v8,hz⟩:=BT K2.out;go_wp2_with fail
  first
   | (with_reducible refine I5 B2.out K2.out (Aec _) ?_;intro w9 hB9 hk9 hs9 hz9)
   | (have hB9:=B2.out;have hk9:=K2.out;generalize w2=w9 at *)
  clear z0 z1 z2 z3 z4 z5 z6 z7 z8 v0 v1 v2 v3 v4 v5 v6 v7 v8 hz;obtain ⟨⟨z0,z1,z2,z3,z4,z5,z6,z7,z8⟩,_⟩:=BT hk9;refine bodyPost_ret (v:=.tuple #[.agg gdZ,.slice none 0 0,.int .i64 (p:Int),.int .i64 (n:Int)]) (by simp [results,Tryz.results33,go_sem,z0,z1,z2,z3,z4,z5,z6,z7,z8]) rfl ?_;rw [←HAE.out];exact ⟨hB9,rfl⟩
 | ok q=>
  obtain ⟨a,ms,p⟩:=q;clear hwe;obtain ⟨hpl,hml⟩:=hle _ rfl;simp only at hpl hml;clear hle;have hAd:Calls Tryz.prog 40 #[.string s,.int .i64 (k:Int),.bool ext,.bool false] W fun e w'=>IR W (.ok (a,ms,p)) e w':=hAd
  simp only [IR] at hAd;go_enter Tryz.func33,Tryz.ntmps33;go_upto_region 2 with (go_at_call 40;refine hAd.mono ?_;clear hAd;rintro e w1 ⟨b1,ta,ma,mc,rfl,hta,hm⟩;have HT1:=Ad5 hta;have HM1:=Ad5 hm;have hsh:=hta.shape;have B1:=Ad5 (HA.out.trans (b1.mono HA.out.size));have C1:=Ad5 b1;have K1:=Ad5 (HR0.out.below b1 HR0.out.lt);clear b1 hta hm;rcases hsh with ⟨T9,q9,rfl⟩ | rfl)
  all_goals
   have hlt1:=K1.out.lt;generalize hW2:w1.alloc _=w2;have hb2:=Ac hW2;have hX:=Ae hW2;obtain ⟨x0,x1,x2,x3,_,_,_,_,hxl⟩:=Be hX;have B2:=Ad5 hb2;clear hX;go_upto_region 5 with fail;generalize hW3:w2.alloc _=w3;have hb3:=Ac hW3;have hY:=Ae hW3;have hW0:=HR0.out.lt;have hg:w.heap.size < w2.heap.size:=by have:=hb2.size;omega
   have hb13:=(B2.out.trans (hb3.mono B2.out.size))
   have S3:=Ad5 (show GdSt w w2.heap.size a GA _ .nilIface (.bool false) ms ma mc w3 from
    ⟨B1.out.trans (hb13.mono B1.out.size),K1.out.below hb13 hlt1,hY,hg,
     TrO.keep (F:=fun b=>W.heap.size≤b∧(Value.slice ma ms.length mc).ownBlock≠some b) hb13.size (fun b hb hl=>⟨⟨by have:=hb.1;omega,by have:=B2.out.size;omega,hb.2⟩,fun o=>hb13.cell (p:=⟨b,o,none⟩) hl⟩) HT1.out,rfl,
     BS (by omega) (Ag HM1.out hb13),fun e=>by have:=Kw HM1.out _ e;have:=hb2.size;omega⟩)
   have D3:=Ad5 (C1.out.trans (hb13.mono C1.out.size));obtain ⟨g,hgq⟩:∃ g,w2.heap.size=g:=⟨_,rfl⟩;rw [hgq] at S3 ⊢;have hxl3:w1.heap.size < w3.heap.size:=by have:=hb13.size;have:=hb3.size;omega
   replace x0:=(hb3.cell (p:=⟨w1.heap.size,0,none⟩) hxl).trans x0;replace x1:=(hb3.cell (p:=⟨w1.heap.size,1,none⟩) hxl).trans x1;replace x2:=(hb3.cell (p:=⟨w1.heap.size,2,none⟩) hxl).trans x2;replace x3:=(hb3.cell (p:=⟨w1.heap.size,3,none⟩) hxl).trans x3;clear hb2 hb3 hY hb13 hg hlt1 hW2 hW3 hW0 hgq;obtain ⟨kd,hkd⟩:∃ kd,a.kind=kd:=⟨_,rfl⟩;rw [hkd] at x0;have Hkd:=Ad5 hkd;by_cases hk0:kd=0
   ·subst hk0;have HAE:=Ad5 (show FF a GA ms (C7 s.data.toList p)=A from by
     rw [←HAN.out];show _=GB s.data.toList (if a.kind=0 then _ else _);rw [if_pos Hkd.out];rfl)
    clear hkd;go_upto_region 10 with fail
    (try clear x0);(try clear x1);(try clear x2);(try clear x3)
    have hnt:=O6 s p w3 hs hpl;have hne9:∀ q,C7 s.data.toList p=.error q→q.1≠0:=fun q h=>Gp h
    generalize C7 s.data.toList p=N at hnt hne9 HAE;obtain ⟨⟨y0,y1,y2,y3,y4,y5,y6,y7,y8⟩,f0,f1,f2,f3,f4,f5,f6,f7,f8,hyl⟩:=BT S3.out.q;cases N with
    | error q=>
     obtain ⟨n2,p2⟩:=q;have hn:n2≠0:=hne9 _ rfl;have hnn:((n2:Int) != 0)=true:=by simp;omega
     clear hne9 hn;go_upto_region 11 with (go_at_call 42;refine hnt.mono ?_;clear hnt;rintro e w8 ⟨b8,rfl⟩;have S8:=Ad5 (S3.out.step b8);clear b8 y0 y1 y2 y3 y4 y5 y6 y7 y8 f0 f1 f2 f3 f4 f5 f6 f7 f8 hyl;obtain ⟨⟨y0,y1,y2,y3,y4,y5,y6,y7,y8⟩,f0,f1,f2,f3,f4,f5,f6,f7,f8,hyl⟩:=BT S8.out.q)
     have S9:=Ad5 (S8.out.not (.bool false));clear y0 y1 y2 y3 y4 y5 y6 y7 y8 f0 f1 f2 f3 f4 f5 f6 f7 f8 hyl;first
      | generalize w8.setCell ⟨g,8,none⟩ (.bool false)=w9 at *
      | (replace S9:=S8;generalize w8=w9 at *)
     obtain ⟨⟨z0,z1,z2,z3,z4,z5,z6,z7,z8⟩,v0,v1,v2,v3,v4,v5,v6,v7,v8,hz⟩:=BT S9.out.p;go_wp2_with fail
     first
      | (with_reducible refine I5 S9.out.b0 S9.out.p (Aec _) ?_;intro w10 hB9 hk9 hs9 hz9)
      | (have hB9:=S9.out.b0;have hk9:=S9.out.p;generalize w9=w10 at *)
     clear z0 z1 z2 z3 z4 z5 z6 z7 z8 v0 v1 v2 v3 v4 v5 v6 v7 v8 hz;obtain ⟨⟨z0,z1,z2,z3,z4,z5,z6,z7,z8⟩,_⟩:=BT hk9;refine bodyPost_ret (v:=.tuple #[.agg gdZ,.slice none 0 0,.int .i64 (p2:Int),.int .i64 (n2:Int)]) (by simp [results,Tryz.results33,go_sem,z0,z1,z2,z3,z4,z5,z6,z7,z8]) rfl ?_;rw [←HAE.out];exact ⟨hB9,rfl⟩
    | ok q=>
     obtain ⟨no,p2⟩:=q;clear hne9;go_upto_region 11 with (go_at_call 42;refine hnt.mono ?_;clear hnt;rintro e w8 ⟨b8,rfl⟩;have S8:=Ad5 (S3.out.step b8);clear b8 y0 y1 y2 y3 y4 y5 y6 y7 y8 f0 f1 f2 f3 f4 f5 f6 f7 f8 hyl;obtain ⟨⟨y0,y1,y2,y3,y4,y5,y6,y7,y8⟩,f0,f1,f2,f3,f4,f5,f6,f7,f8,hyl⟩:=BT S8.out.q)
     have S9:=Ad5 (S8.out.not (.bool no));clear y0 y1 y2 y3 y4 y5 y6 y7 y8 f0 f1 f2 f3 f4 f5 f6 f7 f8 hyl;generalize w8.setCell ⟨g,8,none⟩ (.bool no)=w9 at *;obtain ⟨⟨y0,y1,y2,y3,y4,y5,y6,y7,y8⟩,f0,f1,f2,f3,f4,f5,f6,f7,f8,hyl⟩:=BT S9.out.q;obtain ⟨⟨z0,z1,z2,z3,z4,z5,z6,z7,z8⟩,v0,v1,v2,v3,v4,v5,v6,v7,v8,hz⟩:=BT S9.out.p;have hwg:=S9.out.pg;go_wp2_with fail
     with_reducible refine I5 S9.out.b0 S9.out.p (Aec _) ?_
     intro w10 hB9 hk9 hs9 hz9;clear z0 z1 z2 z3 z4 z5 z6 z7 z8 v0 v1 v2 v3 v4 v5 v6 v7 v8 hz y0 y1 y2 y3 y4 y5 y6 y7 y8 f0 f1 f2 f3 f4 f5 f6 f7 f8 hyl;obtain ⟨⟨z0,z1,z2,z3,z4,z5,z6,z7,z8⟩,_⟩:=BT hk9;have hfin:=S9.out.end hB9 hs9 hz9 p2;rw [show (.ok (⟨_,_,no⟩,_,p2):BK Grd)=A from HAE.out] at hfin;exact bodyPost_ret (by simp [results,Tryz.results33,go_sem,z0,z1,z2,z3,z4,z5,z6,z7,z8]) rfl hfin
   ·have hkk:((kd:Int) != 0)=true:=by simp;omega
    have HAE:=Ad5 (show GB s.data.toList (FE a ms (Ce ext s.data.toList p))=A from by
     rw [←HAN.out];show _=GB s.data.toList (if a.kind=0 then _ else _);rw [if_neg (by rw [Hkd.out];exact hk0)])
    have hsc:=WQ ext s p w3 hs hpl (HG.out.up D3.out) (HP.out.up D3.out);have hne:∀ q,Ce ext s.data.toList p=.error q→q.1≠0:=fun q h=>LE h
    have hle2:∀ q,Ce ext s.data.toList p=.ok q→q.2.2≤s.size∧q.2.1.length≤251:=fun q h=>WP s hpl h
    generalize Ce ext s.data.toList p=R2 at hsc hne hle2 HAE;clear hkd hk0;go_upto_region 6 with fail;clear x0 x1 x2 x3;cases R2 with
    | error q=>
     obtain ⟨n2,p2⟩:=q;have hn:n2≠0:=hne _ rfl;have hnn:((n2:Int) != 0)=true:=by simp;omega
     clear hne hle2 hn;go_upto_region 7 with (go_at_call 41;refine hsc.mono ?_;clear hsc;rintro e w5 ⟨b5,rfl⟩;have S5:=Ad5 (S3.out.step b5);clear b5)
     generalize hW6:w5.alloc _=w6;have S6:=Ad5 (S5.out.step (Ac hW6));clear hW6;obtain ⟨⟨z0,z1,z2,z3,z4,z5,z6,z7,z8⟩,v0,v1,v2,v3,v4,v5,v6,v7,v8,hz⟩:=BT S6.out.p;go_wp2_with fail
     first
      | (with_reducible refine I5 S6.out.b0 S6.out.p (Aec _) ?_;intro w10 hB9 hk9 hs9 hz9)
      | (have hB9:=S6.out.b0;have hk9:=S6.out.p;generalize w6=w10 at *)
     clear z0 z1 z2 z3 z4 z5 z6 z7 z8 v0 v1 v2 v3 v4 v5 v6 v7 v8 hz;obtain ⟨⟨z0,z1,z2,z3,z4,z5,z6,z7,z8⟩,_⟩:=BT hk9;refine bodyPost_ret (v:=.tuple #[.agg gdZ,.slice none 0 0,.int .i64 (p2:Int),.int .i64 (n2:Int)]) (by simp [results,Tryz.results33,go_sem,z0,z1,z2,z3,z4,z5,z6,z7,z8]) rfl ?_;rw [←HAE.out];exact ⟨hB9,rfl⟩
    | ok q=>
     obtain ⟨b,ms2,p2⟩:=q;clear hne;obtain ⟨hpl2,hml2⟩:=hle2 _ rfl;simp only at hpl2 hml2;clear hle2;replace HAE:=Ad5 (show FF a b (ms++ms2) (C7 s.data.toList p2)=A from HAE.out);have hsc:Calls Tryz.prog 41 #[.string s,.int .i64 (p:Int),.bool ext] w3 fun e w'=>IR w3 (.ok (b,ms2,p2)) e w':=hsc
     simp only [IR] at hsc;go_upto_region 7 with (go_at_call 41;refine hsc.mono ?_;clear hsc;rintro e w5 ⟨b5,tb,mb,mcb,rfl,htb,hmb⟩;have S5:=Ad5 (S3.out.step b5);have T5:=Ad5 htb;have M5:=Ad5 hmb;have Z5:=Ad5 b5.size;have hsh2:=htb.shape;clear b5 htb hmb;rcases hsh2 with ⟨T8,q8,rfl⟩ | rfl)
     all_goals
      generalize hW6:w5.alloc _=w6;have hb6:=Ac hW6;have hX:=Ae hW6;have S6:=Ad5 (S5.out.step hb6);have T6:=Ad5 (TrO.below hb6 T5.out);have M6:=Ad5 (Ag M5.out hb6);have HX:=Ad5 hX;have Hg3:=Ad5 S3.out.q.lt;have Hq3:=Ad5 (fun q (e:(Value.slice ma ms.length mc).ownBlock=some q)=>Kw S3.out.r q e);have Hx5:=Ad5 (show w3.heap.size≤w5.heap.size from Z5.out);obtain ⟨x,hx⟩:∃ x,w5.heap.size=x:=⟨_,rfl⟩;have Hxl:=Ad5 (show x < w6.heap.size by rw [←hx];exact hX.lt);rw [hx] at HX Hx5 ⊢;clear hb6 hX hW6 hx;obtain ⟨x0,x1,x2,x3,_,_,_,_,hxl⟩:=Be HX.out;obtain ⟨⟨y0,y1,y2,y3,y4,y5,y6,y7,y8⟩,f0,f1,f2,f3,f4,f5,f6,f7,f8,hyl⟩:=BT S6.out.q;obtain ⟨i0,hi,hz0,hz1,hz2⟩:=Cx;have hm1:ms.length+ms2.length≤maxLen:=by unfold maxLen;omega
      have hm2:(ms.length+ms2.length) * 24≤140737488355328:=by omega
      have hbs:w.heap.size+1≤w6.heap.size:=by have:=S6.out.pg;omega
      have hxo:(Value.slice ma ms.length mc).ownBlock≠some x:=fun e=>by have:=Hq3.out x e;have:=Hx5.out;omega
      have HXO:=Ad5 hxo;clear hxo;go_upto_region 9 with fail
      go_region_law (first
       | (refine Av rfl _ _ 26 rfl (w.heap.size+1) 33 i0 (.agg #[.int .i64 0,.string ⟨#[]⟩]) 2 24 Tryz.underlying26 hi hz0 hz1 hz2 rfl (by decide) (.slice ma ms.length mc) ms.length (wmC ms) rfl S6.out.r mb ms2.length mcb (wmC ms2) rfl (ML ms2) (QC M6.out) (MM ms2) hm1 hm2 hbs ?_;intro v7 w7 hown7 hgr7 hat7;obtain ⟨m7,c7,rfl⟩:=A6 hown7;have HO7:=Ad5 hown7;have HG7:=Ad5 hgr7;have HA7:=Ad5 hat7;have HX7:=Ad5 (AG HX.out.drew hgr7 HXO.out);have HY7:=Ad5 (AG S6.out.q.drew hgr7 S6.out.rg);clear hown7 hgr7 hat7 x0 x1 x2 x3 hxl y0 y1 y2 y3 y4 y5 y6 y7 y8 f0 f1 f2 f3 f4 f5 f6 f7 f8 hyl;obtain ⟨x0,x1,x2,x3,_,_,_,_,hxl⟩:=Be HX7.out;obtain ⟨⟨y0,y1,y2,y3,y4,y5,y6,y7,y8⟩,f0,f1,f2,f3,f4,f5,f6,f7,f8,hyl⟩:=BT HY7.out))
      all_goals
       have hS7:=HG7.out.size;generalize hW8:((((w7.setCell ⟨g,4,none⟩ _).setCell ⟨g,5,none⟩ _).setCell ⟨g,6,none⟩ _).setCell ⟨g,7,none⟩ _)=w8;obtain ⟨k1,k2,k3,k4⟩:=Ace HY7.out _ _ _ _ w8 hW8;have hgl:=S6.out.q.lt;have hpg:=S6.out.pg;have hng:∀ q,(Value.slice m7 (ms.length+ms2.length) c7).ownBlock=some q→q≠g:=fun q e e2=>by
        subst e2;rcases HA7.out with h | h
        ·exact S6.out.rg (h.symm.trans e)
        ·rw [h] at e;injection e with e;have:w6.heap.size=q:=e;omega
       have S9:=Ad5 (GdSt.sec S6.out Hg3.out Hq3.out T6.out (((S6.out.b0.drew).grown HG7.out S6.out.b0.size (fun q e=>Nat.le_of_succ_le (AL S6.out.r q e))).trans (k4 _ (Aeg hpg))) (by have:w6.heap.size≤w7.heap.size:=hS7;omega)
        (fun y hy h1 h2=>(k2 y h1).trans (HG7.out.block y hy fun e=>h2 e.symm)) k1 (Aa HO7.out fun q e=>k2 q (hng q e)) (HA7.out.imp id fun e=>⟨_,e,Aec _⟩))
       have Hm7:=Ad5 (show (ms++ms2).length=ms.length+ms2.length from Aee);clear k1 k2 k3 k4 hgl hpg hng hS7 hW8 x0 x1 x2 x3 hxl y0 y1 y2 y3 y4 y5 y6 y7 y8 f0 f1 f2 f3 f4 f5 f6 f7 f8 hyl;go_upto_region 10 with fail;have hnt:=O6 s p2 w8 hs hpl2;have hne9:∀ q,C7 s.data.toList p2=.error q→q.1≠0:=fun q h=>Gp h
       generalize C7 s.data.toList p2=N at hnt hne9 HAE;obtain ⟨⟨y0,y1,y2,y3,y4,y5,y6,y7,y8⟩,f0,f1,f2,f3,f4,f5,f6,f7,f8,hyl⟩:=BT S9.out.q;cases N with
       | error q=>
        obtain ⟨n2,p2⟩:=q;have hn:n2≠0:=hne9 _ rfl;have hnn:((n2:Int) != 0)=true:=by simp;omega
        clear hne9 hn;go_upto_region 11 with (go_at_call 42;refine hnt.mono ?_;clear hnt;rintro e w8 ⟨b8,rfl⟩;have S8:=Ad5 (S9.out.step b8);clear b8 y0 y1 y2 y3 y4 y5 y6 y7 y8 f0 f1 f2 f3 f4 f5 f6 f7 f8 hyl;obtain ⟨⟨y0,y1,y2,y3,y4,y5,y6,y7,y8⟩,f0,f1,f2,f3,f4,f5,f6,f7,f8,hyl⟩:=BT S8.out.q)
        have S9:=Ad5 (S8.out.not (.bool false));clear y0 y1 y2 y3 y4 y5 y6 y7 y8 f0 f1 f2 f3 f4 f5 f6 f7 f8 hyl;first
         | generalize w8.setCell ⟨g,8,none⟩ (.bool false)=w9 at *
         | (replace S9:=S8;generalize w8=w9 at *)
        obtain ⟨⟨z0,z1,z2,z3,z4,z5,z6,z7,z8⟩,v0,v1,v2,v3,v4,v5,v6,v7,v8,hz⟩:=BT S9.out.p;go_wp2_with fail
        first
         | (with_reducible refine I5 S9.out.b0 S9.out.p (Aec _) ?_;intro w10 hB9 hk9 hs9 hz9)
         | (have hB9:=S9.out.b0;have hk9:=S9.out.p;generalize w9=w10 at *)
        clear z0 z1 z2 z3 z4 z5 z6 z7 z8 v0 v1 v2 v3 v4 v5 v6 v7 v8 hz;obtain ⟨⟨z0,z1,z2,z3,z4,z5,z6,z7,z8⟩,_⟩:=BT hk9;refine bodyPost_ret (v:=.tuple #[.agg gdZ,.slice none 0 0,.int .i64 (p2:Int),.int .i64 (n2:Int)]) (by simp [results,Tryz.results33,go_sem,z0,z1,z2,z3,z4,z5,z6,z7,z8]) rfl ?_;rw [←HAE.out];exact ⟨hB9,rfl⟩
       | ok q=>
        obtain ⟨no,p2⟩:=q;clear hne9;go_upto_region 11 with (go_at_call 42;refine hnt.mono ?_;clear hnt;rintro e w8 ⟨b8,rfl⟩;have S8:=Ad5 (S9.out.step b8);clear b8 y0 y1 y2 y3 y4 y5 y6 y7 y8 f0 f1 f2 f3 f4 f5 f6 f7 f8 hyl;obtain ⟨⟨y0,y1,y2,y3,y4,y5,y6,y7,y8⟩,f0,f1,f2,f3,f4,f5,f6,f7,f8,hyl⟩:=BT S8.out.q)
        have S9:=Ad5 (S8.out.not (.bool no));clear y0 y1 y2 y3 y4 y5 y6 y7 y8 f0 f1 f2 f3 f4 f5 f6 f7 f8 hyl;generalize w8.setCell ⟨g,8,none⟩ (.bool no)=w9 at *;obtain ⟨⟨y0,y1,y2,y3,y4,y5,y6,y7,y8⟩,f0,f1,f2,f3,f4,f5,f6,f7,f8,hyl⟩:=BT S9.out.q;obtain ⟨⟨z0,z1,z2,z3,z4,z5,z6,z7,z8⟩,v0,v1,v2,v3,v4,v5,v6,v7,v8,hz⟩:=BT S9.out.p;have hwg:=S9.out.pg;go_wp2_with fail
        with_reducible refine I5 S9.out.b0 S9.out.p (Aec _) ?_
        intro w10 hB9 hk9 hs9 hz9;clear z0 z1 z2 z3 z4 z5 z6 z7 z8 v0 v1 v2 v3 v4 v5 v6 v7 v8 hz y0 y1 y2 y3 y4 y5 y6 y7 y8 f0 f1 f2 f3 f4 f5 f6 f7 f8 hyl;obtain ⟨⟨z0,z1,z2,z3,z4,z5,z6,z7,z8⟩,_⟩:=BT hk9;have hfin:=S9.out.end hB9 hs9 hz9 p2;rw [show (.ok (⟨_,_,no⟩,_,p2):BK Grd)=A from HAE.out] at hfin;exact bodyPost_ret (by simp [results,Tryz.results33,go_sem,z0,z1,z2,z3,z4,z5,z6,z7,z8]) rfl hfin
theorem AE {P:Program} {md:Region.Mode} {ops:Array Oper} {Q:Exit→Act→World→Prop} {S:World→Prop} (i:Nat) {oi:Oper} (v:Value) {fuel:Nat} {listed:Array Bool} {a:Act} {w:World} (hi:ops[i]?=some oi) (hS:S w) (hy:YieldsIf P ops S oi v a) (h:wpAnyH P md ops Q S fuel (listed.setIfInBounds i true) (a.put oi.dst v) w)
  (hs:Region.noSelect ops=true:=by kernel_rfl) (hf:Region.free md ops listed i=true:=by kernel_rfl) (hr:(Region.ready md ops listed).contains i=true:=by kernel_rfl) (hQ:∀ c a w,Q (.panic c) (a.put oi.dst v) w→Q (.panic c) a w:=by exact fun _ _ _ h=>h):wpAnyH P md ops Q S (fuel+1) listed a w:=
 wpAnyH_take hi hs hf hr hQ hy hS h
theorem Acf {w:World} {b:Nat} {T:TypeId} {v0 v1 v2 v3 v4 v5 v6 v7 v8 v9 v10 v11 v12 v13 v14 v15 v16 v17 v18 v19 v20 v21 v22 v23:Value} (h:Blk w b #[v0,v1,v2,v3,v4,v5,v6,v7,v8,v9,v10,v11,v12,v13,v14,v15,v16,v17,v18,v19,v20,v21,v22,v23] T) :
  (w.cell? ⟨b,0,none⟩=some v0∧w.cell? ⟨b,1,none⟩=some v1∧w.cell? ⟨b,2,none⟩=some v2)∧(w.cell? ⟨b,3,none⟩=some v3∧w.cell? ⟨b,4,none⟩=some v4∧w.cell? ⟨b,5,none⟩=some v5∧w.cell? ⟨b,6,none⟩=some v6∧w.cell? ⟨b,7,none⟩=some v7∧w.cell? ⟨b,8,none⟩=some v8∧w.cell? ⟨b,9,none⟩=some v9∧w.cell? ⟨b,10,none⟩=some v10∧w.cell? ⟨b,11,none⟩=some v11∧w.cell? ⟨b,12,none⟩=some v12)∧(w.cell? ⟨b,13,none⟩=some v13∧w.cell? ⟨b,14,none⟩=some v14∧w.cell? ⟨b,15,none⟩=some v15∧w.cell? ⟨b,16,none⟩=some v16∧w.cell? ⟨b,17,none⟩=some v17∧w.cell? ⟨b,18,none⟩=some v18∧w.cell? ⟨b,19,none⟩=some v19∧w.cell? ⟨b,20,none⟩=some v20∧w.cell? ⟨b,21,none⟩=some v21∧w.cell? ⟨b,22,none⟩=some v22∧w.cell? ⟨b,23,none⟩=some v23)∧b < w.heap.size:=
 ⟨⟨(h.cell 0).trans rfl,(h.cell 1).trans rfl,(h.cell 2).trans rfl⟩,⟨(h.cell 3).trans rfl,(h.cell 4).trans rfl,(h.cell 5).trans rfl,(h.cell 6).trans rfl,(h.cell 7).trans rfl,(h.cell 8).trans rfl,(h.cell 9).trans rfl,(h.cell 10).trans rfl,(h.cell 11).trans rfl,(h.cell 12).trans rfl⟩,⟨(h.cell 13).trans rfl,(h.cell 14).trans rfl,(h.cell 15).trans rfl,(h.cell 16).trans rfl,(h.cell 17).trans rfl,(h.cell 18).trans rfl,(h.cell 19).trans rfl,(h.cell 20).trans rfl,(h.cell 21).trans rfl,(h.cell 22).trans rfl,(h.cell 23).trans rfl⟩,h.lt⟩
def cpC (l:List Cp):List Value:=l.flatMap fun c=>[.int .i64 c.1,.string (txt c.2)]
theorem O8 (l:List Cp) (c:Cp):cpC (l++[c])=cpC l++[.int .i64 c.1,.string (txt c.2)]:=by simp [cpC]
def cmC (s:ByteArray) (ext:Bool) (st:CS) (ta tb ts pv mv:Value):Array Value:=
 #[.string s,.bool ext,.int .i64 (st.k:Int),.int .i64 (st.c.pl:Int),.int .i64 (st.c.g.a.kind:Int),.int .i64 (st.c.g.a.line:Int),.string (txt st.c.g.a.text),ta,.int .i64 (st.c.g.b.kind:Int),.int .i64 (st.c.g.b.line:Int),.string (txt st.c.g.b.text),tb,.bool st.c.g.no,.int .u8 st.c.name.toNat,.string (txt st.c.arg),.string (txt st.c.sub.text),ts,pv,.int .i64 (st.c.sub.nth:Int),.bool st.c.sub.all,.bool st.c.sub.prt,.string (txt st.c.sub.file),.string (txt st.c.table),mv]
structure CmSt (w:World) (p:Nat) (s:ByteArray) (ext:Bool) (st:CS) (ta tb ts:Value) (pa:Option Addr) (pc:Nat) (ma:Option Addr) (mc:Nat) (W:World):Prop where
 b0:Below w.heap.size w W
 q:Blk W p (cmC s ext st ta tb ts (.slice pa st.c.sub.parts.length pc) (.slice ma st.ms.length mc)) 79
 pg:w.heap.size≤p
 ha:TrO (fun b=>w.heap.size≤b∧b≠p∧(Value.slice ma st.ms.length mc).ownBlock≠some b) W st.c.g.a.tree ta
 hb:TrO (fun b=>w.heap.size≤b∧b≠p∧(Value.slice ma st.ms.length mc).ownBlock≠some b) W st.c.g.b.tree tb
 hs:TrO (fun b=>w.heap.size≤b∧b≠p∧(Value.slice ma st.ms.length mc).ownBlock≠some b) W st.c.sub.tree ts
 r:W.ownsRow w.heap.size 33 2 (.slice ma st.ms.length mc) st.ms.length (wmC st.ms)
 rg:(Value.slice ma st.ms.length mc).ownBlock≠some p
 pr:W.ownsRow w.heap.size 74 2 (.slice pa st.c.sub.parts.length pc) st.c.sub.parts.length (cpC st.c.sub.parts)
 pp:∀ b,(Value.slice pa st.c.sub.parts.length pc).ownBlock=some b→b≠p∧(Value.slice ma st.ms.length mc).ownBlock≠some b
def Do (w:World) (p:Nat) (s:ByteArray) (ext:Bool) (st:CS) (W:World):Prop:=∃ ta tb ts pa pc ma mc,CmSt w p s ext st ta tb ts pa pc ma mc W
theorem CmSt.step {w:World} {p:Nat} {s:ByteArray} {ext:Bool} {st:CS} {ta tb ts:Value} {pa:Option Addr} {pc:Nat} {ma:Option Addr} {mc:Nat} {W W':World} (h:CmSt w p s ext st ta tb ts pa pc ma mc W) (hb:Below W.heap.size W W'):CmSt w p s ext st ta tb ts pa pc ma mc W':=
 ⟨h.b0.trans (hb.mono h.b0.size),h.q.below hb h.q.lt,h.pg,h.ha.below hb,h.hb.below hb,h.hs.below hb,Ag h.r hb,h.rg,Ag h.pr hb,h.pp⟩
theorem Do.step {w:World} {p:Nat} {s:ByteArray} {ext:Bool} {st:CS} {W W':World} (h:Do w p s ext st W) (hb:Below W.heap.size W W'):Do w p s ext st W':=by
 obtain ⟨ta,tb,ts,pa,pc,ma,mc,h⟩:=h;exact ⟨ta,tb,ts,pa,pc,ma,mc,h.step hb⟩
theorem CmSt.put {w:World} {p:Nat} {s:ByteArray} {ext:Bool} {st:CS} {ta tb ts:Value} {pa:Option Addr} {pc:Nat} {ma:Option Addr} {mc:Nat} {W:World} (h:CmSt w p s ext st ta tb ts pa pc ma mc W) (j:Nat) (v:Value) (st':CS) (hg:st'.c.g=st.c.g) (ht:st'.c.sub.tree=st.c.sub.tree) (hp:st'.c.sub.parts=st.c.sub.parts) (hm:st'.ms=st.ms)
  (e:∀ pv mv,(cmC s ext st ta tb ts pv mv).setIfInBounds j v=cmC s ext st' ta tb ts pv mv):CmSt w p s ext st' ta tb ts pa pc ma mc (W.setCell ⟨p,j,none⟩ v):=by
 have o1:∀ b,b≠p→(W.setCell ⟨p,j,none⟩ v).heap[b]?=W.heap[b]?:=fun b hb=>Aei _ _ _ _ (fun e=>hb e)
 have hsz:(W.setCell ⟨p,j,none⟩ v).heap.size=W.heap.size:=by simp [World.setCell]
 have hk:∀ {t x},TrO (fun b=>w.heap.size≤b∧b≠p∧(Value.slice ma st.ms.length mc).ownBlock≠some b) W t x→TrO (fun b=>w.heap.size≤b∧b≠p∧(Value.slice ma st.ms.length mc).ownBlock≠some b) (W.setCell ⟨p,j,none⟩ v) t x:=fun hk=>TrO.keep (by omega) (fun b hb _=>⟨hb,fun o=>Aek (w:=W) (a:=⟨b,o,none⟩) (o1 b hb.2.1)⟩) hk
 refine ⟨h.b0.setCell (p:=⟨p,j,none⟩) h.pg v,?_,h.pg,?_,?_,?_,?_,?_,?_,?_⟩
 ·have h9:=h.q.set j v;rw [e] at h9;rw [hp,hm];exact h9
 ·rw [hg,hm];exact hk h.ha
 ·rw [hg,hm];exact hk h.hb
 ·rw [ht,hm];exact hk h.hs
 ·rw [hm];exact Aa h.r fun b hb=>o1 b fun e=>h.rg (by rw [hb,e])
 ·rw [hm];exact h.rg
 ·rw [hp];exact Aa h.pr fun b hb=>o1 b (h.pp b hb).1
 ·rw [hp,hm];exact h.pp
theorem CmSt.go {w:World} {p:Nat} {s:ByteArray} {ext:Bool} {st:CS} {ta tb ts:Value} {pa:Option Addr} {pc:Nat} {ma:Option Addr} {mc:Nat} {W:World} (h:CmSt w p s ext st ta tb ts pa pc ma mc W) (k:Nat):CmSt w p s ext (st.go k) ta tb ts pa pc ma mc (W.setCell ⟨p,2,none⟩ (.int .i64 (k:Int))):=
 h.put 2 _ (st.go k) rfl rfl rfl rfl fun _ _=>rfl
theorem CmSt.push {w:World} {p:Nat} {s:ByteArray} {ext:Bool} {st:CS} {ta tb ts:Value} {pa:Option Addr} {pc:Nat} {ma:Option Addr} {mc:Nat} {W:World} (h:CmSt w p s ext st ta tb ts pa pc ma mc W) {W1 W6:World} (hb:Below W.heap.size W W1) {n:Nat} {ms2:List Wm} (hn:ms2.length=n) {a6:Option Addr} {c6:Nat}
  (hg:W1.grownBy W6 (Value.slice ma st.ms.length mc).ownBlock) (ho:W6.ownsRow w.heap.size 33 2 (.slice a6 (st.ms.length+n) c6) (st.ms.length+n) (wmC st.ms++wmC ms2))
  (hat:(Value.slice a6 (st.ms.length+n) c6).ownBlock=(Value.slice ma st.ms.length mc).ownBlock∨(Value.slice a6 (st.ms.length+n) c6).ownBlock=some W1.heap.size) :
  CmSt w p s ext { st with ms:=st.ms++ms2 } ta tb ts pa pc a6 c6 (W6.setCell ⟨p,23,none⟩ (.slice a6 (st.ms.length+n) c6)):=by
 subst hn;have hl:(st.ms++ms2).length=st.ms.length+ms2.length:=Aee;have hs1:=hb.size;have hs6:=hg.size;have hp1:=h.q.lt;have o1:∀ b,b≠p→(W6.setCell ⟨p,23,none⟩ (.slice a6 (st.ms.length+ms2.length) c6)).heap[b]?=W6.heap[b]?:=fun b hb=>Aei _ _ _ _ (fun e=>hb e)
 have hsz:(W6.setCell ⟨p,23,none⟩ (.slice a6 (st.ms.length+ms2.length) c6)).heap.size=W6.heap.size:=by simp [World.setCell]
 have hnew:∀ b,b < W.heap.size→(Value.slice ma st.ms.length mc).ownBlock≠some b→(Value.slice a6 (st.ms.length+ms2.length) c6).ownBlock≠some b:=fun b hl h1 e=>by
  rcases hat with h2 | h2
  ·exact h1 (h2.symm.trans e)
  ·rw [h2] at e;injection e with e;omega
 have hkb:∀ b,b < W.heap.size→b≠p→(Value.slice ma st.ms.length mc).ownBlock≠some b→(W6.setCell ⟨p,23,none⟩ (.slice a6 (st.ms.length+ms2.length) c6)).heap[b]?=W.heap[b]?:=fun b hl h1 h2=>by
  rw [o1 b h1,hg.block b (by omega) (fun e=>h2 e.symm),hb.block b hl]
 have hk:∀ {t x},TrO (fun b=>w.heap.size≤b∧b≠p∧(Value.slice ma st.ms.length mc).ownBlock≠some b) W t x→TrO (fun b=>w.heap.size≤b∧b≠p∧(Value.slice a6 (st.ms.length+ms2.length) c6).ownBlock≠some b) (W6.setCell ⟨p,23,none⟩ (.slice a6 (st.ms.length+ms2.length) c6)) t x:=fun hk=>TrO.keep (by omega) (fun b hb hl=>⟨⟨hb.1,hb.2.1,hnew b hl hb.2.2⟩,fun o=>Aek (w:=W) (a:=⟨b,o,none⟩) (hkb b hl hb.2.1 hb.2.2)⟩) hk
 have hb0:Below w.heap.size w (W6.setCell ⟨p,23,none⟩ (.slice a6 (st.ms.length+ms2.length) c6)):=by
  have h0:=h.b0;have hs0:=h0.size;refine ⟨hg.os.trans (hb.os.trans h0.os),hg.tape.trans (hb.tape.trans h0.tape),hg.output.trans (hb.output.trans h0.output),by omega,fun b hl=>?_⟩;have:=h.pg;rw [hkb b (by omega) (by omega) (fun e=>by have:=AL h.r b e;omega),h0.block b hl]
 refine ⟨hb0,?_,h.pg,?_,?_,?_,?_,?_,?_,?_⟩
 ·have h9:=(AG (h.q.below hb h.q.lt) hg h.rg).set 23 (.slice a6 (st.ms.length+ms2.length) c6);show Blk _ p (cmC s ext { st with ms:=st.ms++ms2 } ta tb ts (.slice pa st.c.sub.parts.length pc) (.slice a6 (st.ms++ms2).length c6)) _;rw [hl];exact h9
 ·show TrO (fun b=>w.heap.size≤b∧b≠p∧(Value.slice a6 (st.ms++ms2).length c6).ownBlock≠some b) _ _ _;rw [hl];exact hk h.ha
 ·show TrO (fun b=>w.heap.size≤b∧b≠p∧(Value.slice a6 (st.ms++ms2).length c6).ownBlock≠some b) _ _ _;rw [hl];exact hk h.hb
 ·show TrO (fun b=>w.heap.size≤b∧b≠p∧(Value.slice a6 (st.ms++ms2).length c6).ownBlock≠some b) _ _ _;rw [hl];exact hk h.hs
 ·show World.ownsRow _ w.heap.size _ 2 (.slice a6 (st.ms++ms2).length c6) (st.ms++ms2).length (wmC (st.ms++ms2));rw [hl,MK];exact Aa ho fun b hb=>o1 b fun e=>hnew p hp1 h.rg (by rw [hb,e])
 ·show (Value.slice a6 (st.ms++ms2).length c6).ownBlock≠some p;rw [hl];exact hnew p hp1 h.rg
 ·exact Aa h.pr fun b hb=>hkb b (AB h.pr b hb) (h.pp b hb).1 (h.pp b hb).2
 ·intro b hb;show b≠p∧(Value.slice a6 (st.ms++ms2).length c6).ownBlock≠some b;rw [hl];exact ⟨(h.pp b hb).1,hnew b (AB h.pr b hb) (h.pp b hb).2⟩
theorem LF (w:World) (p:Nat) (s:ByteArray) (ext:Bool) (st:CS) (ta tb ts:Value) (pa:Option Addr) (pc:Nat) (ma:Option Addr) (mc:Nat) (wd:ByteArray) (W:World) (h:CmSt w p s ext st ta tb ts pa pc ma mc W) (hl:st.ms.length≤100000) :
  Calls Tryz.prog 69 #[.pointer (some ⟨p,0,none⟩),.string wd] W fun e W'=>e=.returned (.tuple #[])∧∃ a6 c6,CmSt w p s ext (st.mark st.k wd.data.toList) ta tb ts pa pc a6 c6 W':=by
 obtain ⟨i0,hi,hz0,hz1,hz2⟩:=Cx;have HH:=Ad5 h;have hplt:=h.q.lt;have k2:W.cell? ⟨p,2,none⟩=some (.int .i64 (st.k:Int)):=(h.q.cell 2).trans rfl;have k23:W.cell? ⟨p,23,none⟩=some (.slice ma st.ms.length mc):=(h.q.cell 23).trans rfl;have hm1:st.ms.length+1≤maxLen:=by unfold maxLen;omega
 have hm2:(st.ms.length+1) * 24≤140737488355328:=by omega
 have hlo:w.heap.size≤W.heap.size:=h.b0.size;have Hl:=Ad5 hlo;clear h;go_enter Tryz.func69,Tryz.ntmps69
 go_region_law (first
  | (refine Av rfl _ _ 26 rfl w.heap.size 33 i0 (.agg #[.int .i64 0,.string ⟨#[]⟩]) 2 24 Tryz.underlying26 hi hz0 hz1 hz2 rfl (by decide) (.slice ma st.ms.length mc) st.ms.length (wmC st.ms) rfl (Ag HH.out.r (by repeat (first | (with_reducible exact Aeh _ _) | refine Below.drew ?_ | refine Below.alloc ?_ (Aec _) _))) (some ⟨W.heap.size,0,none⟩) 1 1 (JS ((st.k:Int),wd)) rfl rfl (fun _=>⟨_,rfl,JT W ((st.k:Int),wd) _⟩) (Ia _) hm1 hm2 (by simp;omega) ?_;intro v6 w6 hown6 hgrow6 hat6;obtain ⟨a6,c6,rfl⟩:=A6 hown6;have HP:=Ad5 (HH.out.push (n:=1) (ms2:=[((st.k:Int),wd)]) (((Aeh W.heap.size W).alloc (Aec _) _).drew) rfl hgrow6 (by simpa [wmC] using hown6) hat6);have f23:=(AG (HH.out.q.below (((Aeh W.heap.size W).alloc (Aec _) _).drew) HH.out.q.lt) hgrow6 HH.out.rg).frozen 23;have g23:w6.cell? ⟨p,23,none⟩=some (.slice ma st.ms.length mc):=((AG (HH.out.q.below (((Aeh W.heap.size W).alloc (Aec _) _).drew) HH.out.q.lt) hgrow6 HH.out.rg).cell 23).trans rfl;clear hown6 hgrow6 hat6))
 all_goals go_wp2_with fail
 all_goals go_end0
 all_goals exact ⟨rfl,_,_,HP.out⟩
theorem CmSt.drewN {w:World} {p:Nat} {s:ByteArray} {ext:Bool} {st:CS} {ta tb ts:Value} {pa:Option Addr} {pc:Nat} {ma:Option Addr} {mc:Nat} {W:World} (h:CmSt w p s ext st ta tb ts pa pc ma mc W) (n:Nat):CmSt w p s ext st ta tb ts pa pc ma mc (W.drewN n):=h.step (below_drewN (Aeh _ _) n)
theorem CmSt.drew {w:World} {p:Nat} {s:ByteArray} {ext:Bool} {st:CS} {ta tb ts:Value} {pa:Option Addr} {pc:Nat} {ma:Option Addr} {mc:Nat} {W:World} (h:CmSt w p s ext st ta tb ts pa pc ma mc W):CmSt w p s ext st ta tb ts pa pc ma mc W.drew:=h.step (Aeh _ _).drew
theorem CmSt.R {w:World} {p:Nat} {s:ByteArray} {ext:Bool} {st:CS} {ta tb ts:Value} {pa:Option Addr} {pc:Nat} {ma:Option Addr} {mc:Nat} {W:World} (h:CmSt w p s ext st ta tb ts pa pc ma mc W):Do w p s ext st W:=⟨_,_,_,_,_,_,_,h⟩
theorem Ig (s:ByteArray) (k:Nat) (hs:s.size≤4000000) (hk:k≤s.size) (w:World):Calls Tryz.prog 66 #[.string s,.int .i64 (k:Int)] w fun e w'=>e=.returned (.int .i64 (Ak s.data.toList k:Int))∧Below w.heap.size w w':=by
 have e:=IH s k w hs;rw [D4 _ _ _ (by rw [←Ad];exact hk)] at e;exact e
theorem Kx (w:World) (p:Nat) (s:ByteArray) (ext:Bool) (st:CS) (W:World) (h:Do w p s ext st W) (hs:s.size≤4000000) (hk:st.k≤s.size) (hl:st.ms.length≤100000) :
  Calls Tryz.prog 50 #[.pointer (some ⟨p,0,none⟩)] W fun e W'=>e=.returned (.int .i64 ((Cf s.data.toList st).1:Int))∧Do w p s ext (Cf s.data.toList st).2 W':=by
 obtain ⟨ta,tb,ts,pa,pc,ma,mc,h⟩:=h;have hB:=Ig s st.k hs hk;obtain ⟨K,hK⟩:∃ K,Ak s.data.toList st.k=K:=⟨_,rfl⟩;have hKl:K≤s.size:=by rw [←hK,Ad];exact (FG _ _ (by rw [←Ad];exact hk)).2
 unfold Cf;rw [hK] at hB ⊢;have HH:=Ad5 h;have k0:W.cell? ⟨p,0,none⟩=some (.string s):=(h.q.cell 0).trans rfl;have k2:W.cell? ⟨p,2,none⟩=some (.int .i64 (st.k:Int)):=(h.q.cell 2).trans rfl;have Hl:=Ad5 hl;clear h hK hk hl;by_cases hz:K=s.size
 ·rw [Bn s K (by omega)];have hE:((K:Int) == (s.size:Int))=true:=by simp [hz]
  clear hz;simp only;go_enter Tryz.func50,Tryz.ntmps50;go_upto_region 1 with fail;go_cut [] (fun wx=>CmSt w p s ext (st.go K) ta tb ts pa pc ma mc wx);(case first=>((go_region_law (first | (go_simp;go_at_call 66;refine (hB _).mono ?_;rintro e w1 ⟨rfl,b1⟩;have H1:=Ad5 (by first | exact HH.out.step b1 | exact HH.out.drew.step b1:CmSt w p s ext st ta tb ts pa pc ma mc w1);have f2:=H1.out.q.frozen 2;have g2:w1.cell? ⟨p,2,none⟩=some (.int .i64 (st.k:Int)):=(H1.out.q.cell 2).trans rfl;clear b1)));all_goals ((try go_wp2_with fail);go_meet;exact H1.out.go K)));have H2:=Ad5 hcut;clear hcut k0 k2;have k0:World.cell? wc ⟨p,0,none⟩=some (.string s):=(H2.out.q.cell 0).trans rfl;have k2:World.cell? wc ⟨p,2,none⟩=some (.int .i64 (K:Int)):=(H2.out.q.cell 2).trans rfl;go_upto_region 2 with fail;go_quiet (fail);generalize nq=n1;go_wp2_with fail
  go_ret;exact ⟨rfl,(H2.out.drewN n1).R⟩
 ·have hlt:K < s.size:=by omega
  rw [Bi s K hlt];have hE:((K:Int) == (s.size:Int))=false:=by simp;omega
  have hy0:(0:Int)≤(K:Int):=by omega
  have hy1:(K:Int) < (s.size:Int):=by omega
  clear hz;simp only;by_cases h1:s[K]=59∨s[K]=10∨s[K]=35
  ·rw [if_pos h1];rcases h1 with h1 | h1 | h1
   all_goals
    have e1:s[K].toNat=_:=congrArg UInt8.toNat h1;clear h1;go_enter Tryz.func50,Tryz.ntmps50;go_upto_region 1 with fail;go_cut [] (fun wx=>CmSt w p s ext (st.go K) ta tb ts pa pc ma mc wx);(case first=>((go_region_law (first | (go_simp;go_at_call 66;refine (hB _).mono ?_;rintro e w1 ⟨rfl,b1⟩;have H1:=Ad5 (by first | exact HH.out.step b1 | exact HH.out.drew.step b1:CmSt w p s ext st ta tb ts pa pc ma mc w1);have f2:=H1.out.q.frozen 2;have g2:w1.cell? ⟨p,2,none⟩=some (.int .i64 (st.k:Int)):=(H1.out.q.cell 2).trans rfl;clear b1)));all_goals ((try go_wp2_with fail);go_meet;exact H1.out.go K)));have H2:=Ad5 hcut;clear hcut k0 k2;have k0:World.cell? wc ⟨p,0,none⟩=some (.string s):=(H2.out.q.cell 0).trans rfl;have k2:World.cell? wc ⟨p,2,none⟩=some (.int .i64 (K:Int)):=(H2.out.q.cell 2).trans rfl;go_upto_region 2 with fail;go_quiet (fail);generalize nq=n1;go_upto_region 4 with fail;go_quiet (fail);have H4:=Ad5 (H2.out.drewN (n1+nq));go_wp2_with fail
    go_ret;exact ⟨rfl,H4.out.R⟩
  ·rw [if_neg h1];have n1:¬ s[K]=59:=fun e=>h1 (.inl e)
   have n2:¬ s[K]=10:=fun e=>h1 (.inr (.inl e))
   have n3:¬ s[K]=35:=fun e=>h1 (.inr (.inr e))
   have m1:¬ (s[K].toNat:Int)=59:=fun e=>n1 (UInt8.toNat_inj.1 (by show s[K].toNat=59;omega))
   have m2:¬ (s[K].toNat:Int)=10:=fun e=>n2 (UInt8.toNat_inj.1 (by show s[K].toNat=10;omega))
   have m3:¬ (s[K].toNat:Int)=35:=fun e=>n3 (UInt8.toNat_inj.1 (by show s[K].toNat=35;omega))
   have c1:((s[K].toNat:Int) == 59)=false:=by simpa using m1
   have c2:((s[K].toNat:Int) == 10)=false:=by simpa using m2
   have c3:((s[K].toNat:Int) == 35)=false:=by simpa using m3
   clear h1 n1 n2 n3 m1 m2 m3;by_cases h2:s[K]=125
   ·rw [if_pos h2];have c4:((s[K].toNat:Int) == 125)=true:=by rw [h2];rfl
    clear h2;go_enter Tryz.func50,Tryz.ntmps50;go_upto_region 1 with fail;go_cut [] (fun wx=>CmSt w p s ext (st.go K) ta tb ts pa pc ma mc wx);(case first=>((go_region_law (first | (go_simp;go_at_call 66;refine (hB _).mono ?_;rintro e w1 ⟨rfl,b1⟩;have H1:=Ad5 (by first | exact HH.out.step b1 | exact HH.out.drew.step b1:CmSt w p s ext st ta tb ts pa pc ma mc w1);have f2:=H1.out.q.frozen 2;have g2:w1.cell? ⟨p,2,none⟩=some (.int .i64 (st.k:Int)):=(H1.out.q.cell 2).trans rfl;clear b1)));all_goals ((try go_wp2_with fail);go_meet;exact H1.out.go K)));have H2:=Ad5 hcut;clear hcut k0 k2;have k0:World.cell? wc ⟨p,0,none⟩=some (.string s):=(H2.out.q.cell 0).trans rfl;have k2:World.cell? wc ⟨p,2,none⟩=some (.int .i64 (K:Int)):=(H2.out.q.cell 2).trans rfl;go_upto_region 2 with fail;go_quiet (fail);generalize nq=n1;go_upto_region 4 with fail;go_quiet (fail);have H4:=Ad5 (H2.out.drewN (n1+nq));have hM:=LF w p s ext (st.go K) ta tb ts pa pc ma mc ⟨#[125]⟩ _ H4.out Hl.out;clear H4;go_wp2_with (go_at_call 69;refine hM.mono ?_;clear hM;rintro e w5 ⟨rfl,a6,c6,h5⟩)
    go_ret;exact ⟨rfl,h5.R⟩
   ·rw [if_neg h2];have c4:((s[K].toNat:Int) == 125)=false:=by
     have m4:¬ (s[K].toNat:Int)=125:=fun e=>h2 (UInt8.toNat_inj.1 (by show s[K].toNat=125;omega))
     simpa using m4
    clear h2;go_enter Tryz.func50,Tryz.ntmps50;go_upto_region 1 with fail;go_cut [] (fun wx=>CmSt w p s ext (st.go K) ta tb ts pa pc ma mc wx);(case first=>((go_region_law (first | (go_simp;go_at_call 66;refine (hB _).mono ?_;rintro e w1 ⟨rfl,b1⟩;have H1:=Ad5 (by first | exact HH.out.step b1 | exact HH.out.drew.step b1:CmSt w p s ext st ta tb ts pa pc ma mc w1);have f2:=H1.out.q.frozen 2;have g2:w1.cell? ⟨p,2,none⟩=some (.int .i64 (st.k:Int)):=(H1.out.q.cell 2).trans rfl;clear b1)));all_goals ((try go_wp2_with fail);go_meet;exact H1.out.go K)));have H2:=Ad5 hcut;clear hcut k0 k2;have k0:World.cell? wc ⟨p,0,none⟩=some (.string s):=(H2.out.q.cell 0).trans rfl;have k2:World.cell? wc ⟨p,2,none⟩=some (.int .i64 (K:Int)):=(H2.out.q.cell 2).trans rfl;go_upto_region 2 with fail;go_quiet (fail);generalize nq=n1;go_upto_region 4 with fail;go_quiet (fail);have H4:=Ad5 (H2.out.drewN (n1+nq));go_wp2_with fail
    go_ret;exact ⟨rfl,H4.out.R⟩
abbrev RxR:=BK (List UInt8 × Nd)
def dT (R:RxR):List UInt8:=match R with | .ok q=>q.1.1 | .error _=>[]
def dN (R:RxR):Option Nd:=match R with | .ok q=>some q.1.2 | .error _=>none
def dMs (R:RxR):List Wm:=match R with | .ok q=>q.2.1 | .error _=>[]
def dP (R:RxR):Nat:=match R with | .ok q=>q.2.2 | .error q=>q.2
def dE (R:RxR):Nat:=match R with | .ok _=>0 | .error q=>q.1
theorem Adi (st:CS) (R:RxR):Mm st R=(dE R,st.rx (dT R) (dN R) (dMs R) (dP R)):=by cases R <;> rfl
theorem WR {W:World} {R:RxR} {e:Ending} {w':World} (h:Ub W R e w'):∃ tv na nc,e=.returned (.tuple #[.agg #[.string (txt (dT R)),tv,.slice na (dMs R).length nc],.int .i64 (dP R:Int),.int .i64 (dE R:Int)])∧
  TrO (fun b=>W.heap.size≤b∧(Value.slice na (dMs R).length nc).ownBlock≠some b) w' (dN R) tv∧w'.ownsRow W.heap.size 33 2 (.slice na (dMs R).length nc) (dMs R).length (wmC (dMs R))∧Below W.heap.size W w':=by
 obtain ⟨hb,h⟩:=h;cases R with
 | error q=>exact ⟨.nilIface,none,0,h,rfl,World.ownsRow_nil _ _ _ _,hb⟩
 | ok q=>
  obtain ⟨tv,mv,he,ht,hr⟩:=h;obtain ⟨na,nc,rfl⟩:=A6 hr;exact ⟨tv,na,nc,he,ht,hr,hb⟩
structure RxH (w:World) (p:Nat) (s:ByteArray) (ext:Bool) (st:CS) (ta tb ts:Value) (pa:Option Addr) (pc:Nat) (ma:Option Addr) (mc:Nat) (B g:Nat) (R:RxR) (tv:Value) (na:Option Addr) (nc:Nat) (W:World):Prop where
 c:CmSt w p s ext st ta tb ts pa pc ma mc W
 x:Blk W g #[.string (txt (dT R)),tv,.slice na (dMs R).length nc] 160
 gb:B≤g
 t:TrO (fun b=>B≤b∧b≠g∧(Value.slice na (dMs R).length nc).ownBlock≠some b) W (dN R) tv
 r:W.ownsRow B 33 2 (.slice na (dMs R).length nc) (dMs R).length (wmC (dMs R))
def CS.rxn (st:CS) (t:List UInt8) (d:Option Nd) (k:Nat):CS:={ st with k:=k,c:={ st.c with sub:={ st.c.sub with text:=t,tree:=d } } }
theorem CmSt.treeS {w:World} {p:Nat} {s:ByteArray} {ext:Bool} {st:CS} {ta tb ts:Value} {pa:Option Addr} {pc:Nat} {ma:Option Addr} {mc:Nat} {W:World} (h:CmSt w p s ext st ta tb ts pa pc ma mc W) (t:List UInt8) {d:Option Nd} {tv:Value} (ht:TrO (fun b=>w.heap.size≤b∧b≠p∧(Value.slice ma st.ms.length mc).ownBlock≠some b) W d tv) :
  CmSt w p s ext (st.rxn t d st.k) ta tb tv pa pc ma mc ((W.setCell ⟨p,15,none⟩ (.string (txt t))).setCell ⟨p,16,none⟩ tv):=by
 have h1:=h.put 15 (.string (txt t)) { st with c:={ st.c with sub:={ st.c.sub with text:=t } } } rfl rfl rfl rfl fun _ _=>rfl
 have ht1:TrO (fun b=>w.heap.size≤b∧b≠p∧(Value.slice ma st.ms.length mc).ownBlock≠some b) (W.setCell ⟨p,15,none⟩ (.string (txt t))) d tv:=TrO.keep (by simp [World.setCell]) (fun b hb _=>⟨hb,fun o=>Aek (w:=W) (a:=⟨b,o,none⟩) (Aei _ _ _ _ (fun e=>hb.2.1 e))⟩) ht;generalize W.setCell ⟨p,15,none⟩ (.string (txt t))=W1 at h1 ht1 ⊢;have o1:∀ b,b≠p→(W1.setCell ⟨p,16,none⟩ tv).heap[b]?=W1.heap[b]?:=fun b hb=>Aei _ _ _ _ (fun e=>hb e)
 have hk:∀ {t x},TrO (fun b=>w.heap.size≤b∧b≠p∧(Value.slice ma st.ms.length mc).ownBlock≠some b) W1 t x→TrO (fun b=>w.heap.size≤b∧b≠p∧(Value.slice ma st.ms.length mc).ownBlock≠some b) (W1.setCell ⟨p,16,none⟩ tv) t x:=fun hk=>TrO.keep (by simp [World.setCell]) (fun b hb _=>⟨hb,fun o=>Aek (w:=W1) (a:=⟨b,o,none⟩) (o1 b hb.2.1)⟩) hk
 exact ⟨h1.b0.setCell (p:=⟨p,16,none⟩) h1.pg _,h1.q.set 16 _,h1.pg,hk h1.ha,hk h1.hb,hk ht1,Aa h1.r fun b hb=>o1 b fun e=>h1.rg (hb.trans (congrArg some e)),h1.rg,Aa h1.pr fun b hb=>o1 b (h1.pp b hb).1,h1.pp⟩
theorem RxH.go {w:World} {p:Nat} {s:ByteArray} {ext:Bool} {st:CS} {ta tb ts:Value} {pa:Option Addr} {pc:Nat} {ma:Option Addr} {mc B g:Nat} {R:RxR} {tv:Value} {na:Option Addr} {nc:Nat} {W:World} (h:RxH w p s ext st ta tb ts pa pc ma mc B g R tv na nc W) (hp:p < B) (k:Nat):RxH w p s ext (st.go k) ta tb ts pa pc ma mc B g R tv na nc (W.setCell ⟨p,2,none⟩ (.int .i64 (k:Int))):=by
 have hgb:=h.gb;have o1:∀ b,b≠p→(W.setCell ⟨p,2,none⟩ (.int .i64 (k:Int))).heap[b]?=W.heap[b]?:=fun b hb=>Aei _ _ _ _ (fun e=>hb e)
 exact ⟨h.c.go k,Er h.x (o1 g (by omega)),hgb,TrO.keep (by simp [World.setCell]) (fun b hb _=>⟨hb,fun o=>Aek (w:=W) (a:=⟨b,o,none⟩) (o1 b (by have:=hb.1;omega))⟩) h.t,Aa h.r fun b hb=>o1 b (by have:=AL h.r b hb;omega)⟩
theorem RxH.drew {w:World} {p:Nat} {s:ByteArray} {ext:Bool} {st:CS} {ta tb ts:Value} {pa:Option Addr} {pc:Nat} {ma:Option Addr} {mc B g:Nat} {R:RxR} {tv:Value} {na:Option Addr} {nc:Nat} {W:World} (h:RxH w p s ext st ta tb ts pa pc ma mc B g R tv na nc W):RxH w p s ext st ta tb ts pa pc ma mc B g R tv na nc W.drew:=
 ⟨h.c.step (Aeh _ _).drew,h.x,h.gb,h.t.below (Aeh _ _).drew,Ag h.r (Aeh _ _).drew⟩
theorem RxH.tree {w:World} {p:Nat} {s:ByteArray} {ext:Bool} {st:CS} {ta tb ts:Value} {pa:Option Addr} {pc:Nat} {ma:Option Addr} {mc B g:Nat} {R:RxR} {tv:Value} {na:Option Addr} {nc:Nat} {W:World} (h:RxH w p s ext st ta tb ts pa pc ma mc B g R tv na nc W) (hp:p < B) (hB:w.heap.size≤B) (hm:∀ q,(Value.slice ma st.ms.length mc).ownBlock=some q→q < B) :
  RxH w p s ext (st.rxn (dT R) (dN R) st.k) ta tb tv pa pc ma mc B g R tv na nc ((W.setCell ⟨p,15,none⟩ (.string (txt (dT R)))).setCell ⟨p,16,none⟩ tv):=by
 have hgb:=h.gb;have o1:∀ b,b≠p→((W.setCell ⟨p,15,none⟩ (.string (txt (dT R)))).setCell ⟨p,16,none⟩ tv).heap[b]?=W.heap[b]?:=fun b hb=>(Aei _ _ _ _ (fun e=>hb e)).trans (Aei _ _ _ _ (fun e=>hb e))
 exact ⟨h.c.treeS (dT R) (TrO.keep (Aec _) (fun b hb _=>⟨⟨Aed hB hb.1,by have:=hb.1;omega,fun e=>by have:=hm b e;have:=hb.1;omega⟩,fun _=>rfl⟩) h.t),Er h.x (o1 g (by omega)),hgb,TrO.keep (by simp [World.setCell]) (fun b hb _=>⟨hb,fun o=>Aek (w:=W) (a:=⟨b,o,none⟩) (o1 b (by have:=hb.1;omega))⟩) h.t,Aa h.r fun b hb=>o1 b (by have:=AL h.r b hb;omega)⟩
theorem WS {T tv:Value} {sv:Value} (hT:T.oneCell'=true) (htv:tv.oneCell'=true) (hs:sv.oneCell'=true):(#[T,tv,sv]:Array Value).all (·.oneCell')=true:=by
 simp [hT,htv,hs]
theorem Zz (w:World) (p:Nat) (s:ByteArray) (ext:Bool) (st:CS) (d:UInt8) (W:World) (h:Do w p s ext st W) (hs:s.size≤4000000) (hk:st.k≤s.size) (hl:st.ms.length≤90000) (hG:Gl w) (hP:GP w) :
  Calls Tryz.prog 73 #[.pointer (some ⟨p,0,none⟩),.int .u8 (d.toNat:Int)] W fun e W'=>e=.returned (.int .i64 ((DL ext s.data.toList d st).1:Int))∧Do w p s ext (DL ext s.data.toList d st).2 W':=by
 obtain ⟨ta,tb,ts,pa,pc,ma,mc,h⟩:=h;have hN:=fun w1 (hb:Below W.heap.size W w1)=>(Kt ext s st.k d w1 hs hk ((hG.up h.b0).up hb) ((hP.up h.b0).up hb)).mono fun _ _ k=>WR k
 have hRl:∀ q,Ar ext s.data.toList st.k d=.ok q→q.2.1.length≤250:=fun q h=>(Kv (by rw [←Ad];exact hk) h).2
 unfold DL;rw [Adi];generalize Ar ext s.data.toList st.k d=R at hN hRl ⊢;have hml:(dMs R).length≤250:=by
  cases R with
  | error q=>exact Nat.zero_le _
  | ok q=>exact hRl q rfl
 have HML:=Ad5 hml;have HL:=Ad5 hl;have HH:=Ad5 h;have hlt:=h.q.lt;have k0:W.cell? ⟨p,0,none⟩=some (.string s):=(h.q.cell 0).trans rfl;have k1:W.cell? ⟨p,1,none⟩=some (.bool ext):=(h.q.cell 1).trans rfl;have k2:W.cell? ⟨p,2,none⟩=some (.int .i64 (st.k:Int)):=(h.q.cell 2).trans rfl;have hmix:Tryz.prog.follows .mixedOrders=true:=by kernel_rfl
 have hS0:∀ W':World,Below W.heap.size W W'→(fun W':World=>W'.cell? ⟨p,0,none⟩=some (.string s)∧W'.cell? ⟨p,1,none⟩=some (.bool ext)∧W'.cell? ⟨p,2,none⟩=some (.int .i64 (st.k:Int))) W':=fun W' hW=>⟨(hW.cell (p:=⟨p,0,none⟩) hlt).trans k0,(hW.cell (p:=⟨p,1,none⟩) hlt).trans k1,(hW.cell (p:=⟨p,2,none⟩) hlt).trans k2⟩
 clear h hG hP hml hl hRl hlt k0 k1 k2;go_enter Tryz.func73,Tryz.ntmps73;go_upto_region 1 with fail;go_cut [5,6,7] (fun s5 s6 s7 wx=>∃ g tv na nc,s5=.pointer (some ⟨g,0,none⟩)∧s6=.int .i64 (dP R:Int)∧s7=.int .i64 (dE R:Int)∧RxH w p s ext st ta tb ts pa pc ma mc W.heap.size g R tv na nc wx)
 case first=>
  refine wp_region_held_drew (S:=fun W':World=>W'.cell? ⟨p,0,none⟩=some (.string s)∧W'.cell? ⟨p,1,none⟩=some (.bool ext)∧W'.cell? ⟨p,2,none⟩=some (.int .i64 (st.k:Int))) hmix (hS0 _ (Below.drew (Aeh _ _))) (fun hHeld=>?_);refine AE 0 ?_ rfl (by assumption) (Or.inl ⟨by rfl,?_⟩) ?_
  rotate_left
  ·intro W' hSw;obtain ⟨c0,c1,c2⟩:=hSw;(try go_simp);try with_reducible rfl
  try simp only [Ad9,Ad8,Ad7,Act.put,Ad6,Aea,Aeb]
  refine AE 1 ?_ rfl (by assumption) (Or.inl ⟨by rfl,?_⟩) ?_
  rotate_left
  ·intro W' hSw;obtain ⟨c0,c1,c2⟩:=hSw;(try go_simp);try with_reducible rfl
  try simp only [Ad9,Ad8,Ad7,Act.put,Ad6,Aea,Aeb]
  refine AE 2 ?_ rfl (by assumption) (Or.inl ⟨by rfl,?_⟩) ?_
  rotate_left
  ·intro W' hSw;obtain ⟨c0,c1,c2⟩:=hSw;(try go_simp);try with_reducible rfl
  try simp only [Ad9,Ad8,Ad7,Act.put,Ad6,Aea,Aeb]
  refine AE 3 ?_ rfl (by assumption) (Or.inl ⟨by rfl,?_⟩) ?_
  rotate_left
  ·intro W' hSw;obtain ⟨c0,c1,c2⟩:=hSw;(try go_simp);try with_reducible rfl
  try simp only [Ad9,Ad8,Ad7,Act.put,Ad6,Aea,Aeb]
  refine AE 4 ?_ rfl (by assumption) (Or.inl ⟨by rfl,?_⟩) ?_
  rotate_left
  ·intro W' hSw;obtain ⟨c0,c1,c2⟩:=hSw;(try go_simp);try with_reducible rfl
  try simp only [Ad9,Ad8,Ad7,Act.put,Ad6,Aea,Aeb]
  refine AE 5 ?_ rfl (by assumption) (Or.inl ⟨by rfl,?_⟩) ?_
  rotate_left
  ·intro W' hSw;obtain ⟨c0,c1,c2⟩:=hSw;(try go_simp);try with_reducible rfl
  try simp only [Ad9,Ad8,Ad7,Act.put,Ad6,Aea,Aeb]
  refine AE 6 ?_ rfl (by assumption) (Or.inl ⟨by rfl,?_⟩) ?_
  rotate_left
  ·intro W' hSw;obtain ⟨c0,c1,c2⟩:=hSw;(try go_simp);try with_reducible rfl
  try simp only [Ad9,Ad8,Ad7,Act.put,Ad6,Aea,Aeb]
  refine AE 7 ?_ rfl (by assumption) (Or.inl ⟨by rfl,?_⟩) ?_
  rotate_left
  ·intro W' hSw;obtain ⟨c0,c1,c2⟩:=hSw;(try go_simp);try with_reducible rfl
  try simp only [Ad9,Ad8,Ad7,Act.put,Ad6,Aea,Aeb]
  refine AE 8 ?_ rfl (by assumption) (Or.inl ⟨by rfl,?_⟩) ?_
  rotate_left
  ·intro W' hSw;obtain ⟨c0,c1,c2⟩:=hSw;(try go_simp);try with_reducible rfl
  try simp only [Ad9,Ad8,Ad7,Act.put,Ad6,Aea,Aeb]
  refine AE 9 ?_ rfl (by assumption) (Or.inl ⟨by rfl,?_⟩) ?_
  rotate_left
  ·intro W' hSw;obtain ⟨c0,c1,c2⟩:=hSw;(try go_simp);try with_reducible rfl
  try simp only [Ad9,Ad8,Ad7,Act.put,Ad6,Aea,Aeb]
  refine AE 10 ?_ rfl (by assumption) (Or.inl ⟨by rfl,?_⟩) ?_
  rotate_left
  ·intro W' hSw;obtain ⟨c0,c1,c2⟩:=hSw;(try go_simp);try with_reducible rfl
  try simp only [Ad9,Ad8,Ad7,Act.put,Ad6,Aea,Aeb]
  refine AE 11 ?_ rfl (by assumption) (Or.inl ⟨by rfl,?_⟩) ?_
  rotate_left
  ·intro W' hSw;obtain ⟨c0,c1,c2⟩:=hSw;(try go_simp);try with_reducible rfl
  try simp only [Ad9,Ad8,Ad7,Act.put,Ad6,Aea,Aeb]
  refine AE 12 ?_ rfl (by assumption) (Or.inl ⟨by rfl,?_⟩) ?_
  rotate_left
  ·intro W' hSw;obtain ⟨c0,c1,c2⟩:=hSw;(try go_simp);try with_reducible rfl
  try simp only [Ad9,Ad8,Ad7,Act.put,Ad6,Aea,Aeb]
  generalize hv0:W.drew=v0 at hHeld ⊢;have hb0:Below W.heap.size W v0:=by rw [←hv0];exact (Aeh _ _).drew
  clear hv0;refine wpAnyH_ready (rs:=[13,18]) (by kernel_rfl) (by simp) ?_;refine AllReadyH.cons rfl (fun K hK=>?_) ?_
  ·skip
   go_simp;go_wp2_with (go_at_call 84;refine (hN v0 hb0).mono ?_;rintro e v1 ⟨tv,na,nc,rfl,ht,hr,b1⟩)
   have hb1:Below W.heap.size W v1:=hb0.trans (b1.mono hb0.size);refine hK.out _ _ (hS0 _ hb1) (fun hHeld=>?_);clear hK K;try simp only [Ad9,Ad8,Ad7,Act.put,Ad6,Aea,Aeb]
   have hg1:W.heap.size≤v0.heap.size:=hb0.size;have ht1:TrO (fun b=>W.heap.size≤b∧b < v1.heap.size∧(Value.slice na (dMs R).length nc).ownBlock≠some b) v1 (dN R) tv:=TrO.keep (Aec _) (fun b hb hl=>⟨⟨Aed hg1 hb.1,hl,hb.2⟩,fun _=>rfl⟩) ht;have hr1:=BS hg1 hr;clear hg1;refine AE 14 ?_ rfl (by assumption) (Or.inl ⟨by rfl,?_⟩) ?_
   rotate_left
   ·intro W' hSw;(try go_simp);try with_reducible rfl
   try simp only [Ad9,Ad8,Ad7,Act.put,Ad6,Aea,Aeb]
   refine AE 15 ?_ rfl (by assumption) (Or.inl ⟨by rfl,?_⟩) ?_
   rotate_left
   ·intro W' hSw;(try go_simp);try with_reducible rfl
   try simp only [Ad9,Ad8,Ad7,Act.put,Ad6,Aea,Aeb]
   refine AE 16 ?_ rfl (by assumption) (Or.inl ⟨by rfl,?_⟩) ?_
   rotate_left
   ·intro W' hSw;(try go_simp);try with_reducible rfl
   try simp only [Ad9,Ad8,Ad7,Act.put,Ad6,Aea,Aeb]
   refine AE 17 ?_ rfl (by assumption) (Or.inl ⟨by rfl,?_⟩) ?_
   rotate_left
   ·intro W' hSw;(try go_simp);try with_reducible rfl
   try simp only [Ad9,Ad8,Ad7,Act.put,Ad6,Aea,Aeb]
   refine wpAnyH_ready (rs:=[18]) (by kernel_rfl) (by simp) ?_;refine AllReadyH.cons rfl (fun K hK=>?_) AllReadyH.nil;go_simp;generalize hA:v1.alloc _=v2;have ba:=Ac hA;have qa:=Ae hA;have hb2:Below W.heap.size W v2:=hb1.trans (ba.mono hb1.size);refine hK.out _ _ (hS0 _ hb2) (fun hHeld=>?_);clear hK K hA;try simp only [Ad9,Ad8,Ad7,Act.put,Ad6,Aea,Aeb]
   have ht2:TrO (fun b=>W.heap.size≤b∧b≠v1.heap.size∧(Value.slice na (dMs R).length nc).ownBlock≠some b) v2 (dN R) tv:=TrO.keep (G:=fun b=>W.heap.size≤b∧b≠v1.heap.size∧(Value.slice na (dMs R).length nc).ownBlock≠some b) ba.size (fun b hb hl=>⟨⟨hb.1,Nat.ne_of_lt hb.2.1,hb.2.2⟩,fun o=>ba.cell (p:=⟨b,o,none⟩) hl⟩) ht1;have hr2:=Ag hr1 ba;have hno:∀ q,(Value.slice na (dMs R).length nc).ownBlock=some q→q≠v1.heap.size:=fun q e=>Nat.ne_of_lt (AB hr1 q e)
   have hgb:W.heap.size≤v1.heap.size:=hb1.size;generalize v1.heap.size=g at qa ht2 hno hgb ⊢;have hv1:tv.oneCell'=true:=(by rcases ht2.shape with ⟨T,q,rfl⟩ | rfl <;> rfl)
   refine wpAnyH_ready (rs:=[19]) (by kernel_rfl) (by simp) ?_;refine AllReadyH.cons rfl (fun K hK=>?_) AllReadyH.nil;rw [if_pos (by rfl)];refine wp_store_row 160 _ _ rfl g #[.string (txt (dT R)),tv,.slice na (dMs R).length nc] rfl rfl 160 #[.string ⟨#[]⟩,.nilIface,.slice none 0 0] qa (by kernel_rfl) rfl (WS rfl hv1 rfl) ?_;have hb3:Below W.heap.size W (v2.setRow g #[.string (txt (dT R)),tv,.slice na (dMs R).length nc]):=below_setRow hb2 hgb _;refine hK.out _ _ (hS0 _ hb3) (fun hHeld=>?_);clear hK K;try simp only [Ad9,Ad8,Ad7,Act.put,Ad6,Aea,Aeb]
   refine AE 20 ?_ rfl (by assumption) (Or.inl ⟨by rfl,?_⟩) ?_
   rotate_left
   ·intro W' hSw;(try go_simp);try with_reducible rfl
   try simp only [Ad9,Ad8,Ad7,Act.put,Ad6,Aea,Aeb]
   refine AE 21 ?_ rfl (by assumption) (Or.inl ⟨by rfl,?_⟩) ?_
   rotate_left
   ·intro W' hSw;(try go_simp);try with_reducible rfl
   try simp only [Ad9,Ad8,Ad7,Act.put,Ad6,Aea,Aeb]
   refine wpAnyH_done (by kernel_rfl) ?_ _
   (try go_wp2_with fail)
   go_meet;refine ⟨g,tv,na,nc,rfl,rfl,rfl,HH.out.step hb3,setRow_heap v2 g _ _ _ _ qa,hgb,TrO.keep (by simp) (fun b hb _=>⟨hb,fun o=>Aek (w:=v2) (a:=⟨b,o,none⟩) (setRow_other v2 g b _ hb.2.1)⟩) ht2,Aa hr2 fun b hb=>setRow_other v2 g b _ (hno b hb)⟩
  refine AllReadyH.cons rfl (fun K hK=>?_) AllReadyH.nil
  ·skip
   go_simp;generalize hA:v0.alloc _=v1;have ba:=Ac hA;have qa:=Ae hA;have hb1:Below W.heap.size W v1:=hb0.trans (ba.mono hb0.size);refine hK.out _ _ (hS0 _ hb1) (fun hHeld=>?_);clear hK K hA;try simp only [Ad9,Ad8,Ad7,Act.put,Ad6,Aea,Aeb]
   have hgb:W.heap.size≤v0.heap.size:=hb0.size;have hgl:v0.heap.size < v1.heap.size:=qa.lt;generalize v0.heap.size=g at qa hgb hgl ⊢;refine wpAnyH_ready (rs:=[13]) (by kernel_rfl) (by simp) ?_;refine AllReadyH.cons rfl (fun K hK=>?_) AllReadyH.nil;go_simp;go_wp2_with (go_at_call 84;refine (hN v1 hb1).mono ?_;rintro e v2 ⟨tv,na,nc,rfl,ht,hr,b1⟩)
   have hb2:Below W.heap.size W v2:=hb1.trans (b1.mono hb1.size);refine hK.out _ _ (hS0 _ hb2) (fun hHeld=>?_);clear hK K;try simp only [Ad9,Ad8,Ad7,Act.put,Ad6,Aea,Aeb]
   replace qa:=qa.below b1 hgl;have hg1:W.heap.size≤v1.heap.size:=hb1.size;have ht2:TrO (fun b=>W.heap.size≤b∧b≠g∧(Value.slice na (dMs R).length nc).ownBlock≠some b) v2 (dN R) tv:=TrO.keep (Aec _) (fun b hb _=>⟨⟨Aed hg1 hb.1,by have:=hb.1;omega,hb.2⟩,fun _=>rfl⟩) ht;have hr2:=BS hg1 hr;have hno:∀ q,(Value.slice na (dMs R).length nc).ownBlock=some q→q≠g:=fun q e=>by have:=AL hr q e;omega
   refine AE 14 ?_ rfl (by assumption) (Or.inl ⟨by rfl,?_⟩) ?_
   rotate_left
   ·intro W' hSw;(try go_simp);try with_reducible rfl
   try simp only [Ad9,Ad8,Ad7,Act.put,Ad6,Aea,Aeb]
   refine AE 15 ?_ rfl (by assumption) (Or.inl ⟨by rfl,?_⟩) ?_
   rotate_left
   ·intro W' hSw;(try go_simp);try with_reducible rfl
   try simp only [Ad9,Ad8,Ad7,Act.put,Ad6,Aea,Aeb]
   refine AE 16 ?_ rfl (by assumption) (Or.inl ⟨by rfl,?_⟩) ?_
   rotate_left
   ·intro W' hSw;(try go_simp);try with_reducible rfl
   try simp only [Ad9,Ad8,Ad7,Act.put,Ad6,Aea,Aeb]
   refine AE 17 ?_ rfl (by assumption) (Or.inl ⟨by rfl,?_⟩) ?_
   rotate_left
   ·intro W' hSw;(try go_simp);try with_reducible rfl
   try simp only [Ad9,Ad8,Ad7,Act.put,Ad6,Aea,Aeb]
   have hv1:tv.oneCell'=true:=(by rcases ht2.shape with ⟨T,q,rfl⟩ | rfl <;> rfl)
   refine wpAnyH_ready (rs:=[19]) (by kernel_rfl) (by simp) ?_;refine AllReadyH.cons rfl (fun K hK=>?_) AllReadyH.nil;rw [if_pos (by rfl)];refine wp_store_row 160 _ _ rfl g #[.string (txt (dT R)),tv,.slice na (dMs R).length nc] rfl rfl 160 #[.string ⟨#[]⟩,.nilIface,.slice none 0 0] qa (by kernel_rfl) rfl (WS rfl hv1 rfl) ?_;have hb3:Below W.heap.size W (v2.setRow g #[.string (txt (dT R)),tv,.slice na (dMs R).length nc]):=below_setRow hb2 hgb _;refine hK.out _ _ (hS0 _ hb3) (fun hHeld=>?_);clear hK K;try simp only [Ad9,Ad8,Ad7,Act.put,Ad6,Aea,Aeb]
   refine AE 20 ?_ rfl (by assumption) (Or.inl ⟨by rfl,?_⟩) ?_
   rotate_left
   ·intro W' hSw;(try go_simp);try with_reducible rfl
   try simp only [Ad9,Ad8,Ad7,Act.put,Ad6,Aea,Aeb]
   refine AE 21 ?_ rfl (by assumption) (Or.inl ⟨by rfl,?_⟩) ?_
   rotate_left
   ·intro W' hSw;(try go_simp);try with_reducible rfl
   try simp only [Ad9,Ad8,Ad7,Act.put,Ad6,Aea,Aeb]
   refine wpAnyH_done (by kernel_rfl) ?_ _
   (try go_wp2_with fail)
   go_meet;refine ⟨g,tv,na,nc,rfl,rfl,rfl,HH.out.step hb3,setRow_heap v2 g _ _ _ _ qa,hgb,TrO.keep (by simp) (fun b hb _=>⟨hb,fun o=>Aek (w:=v2) (a:=⟨b,o,none⟩) (setRow_other v2 g b _ hb.2.1)⟩) ht2,Aa hr2 fun b hb=>setRow_other v2 g b _ (hno b hb)⟩
 case rest=>
  obtain ⟨g,tv,na,nc,rfl,rfl,rfl,hx⟩:=hcut;have HX:=Ad5 hx;have hgb:=hx.gb;have hpl:=HH.out.q.lt;have hgp:g≠p:=by omega
  clear hx hS0 hN;have c2:World.cell? wc ⟨p,2,none⟩=some (.int .i64 (st.k:Int)):=(HX.out.c.q.cell 2).trans rfl;have f2:=HX.out.c.q.frozen 2;go_upto_region 3 with fail;have HY:=Ad5 (HX.out.go hpl (dP R));clear c2 f2 HX;generalize wc.setCell ⟨p,2,none⟩ (.int .i64 (dP R:Int))=wy at HY ⊢;have c15:wy.cell? ⟨p,15,none⟩=some (.string (txt st.c.sub.text)):=(HY.out.c.q.cell 15).trans rfl;have c16:wy.cell? ⟨p,16,none⟩=some ts:=(HY.out.c.q.cell 16).trans rfl;have f15:=HY.out.c.q.frozen 15;have f16:=HY.out.c.q.frozen 16;obtain ⟨x0,x1,x2,_,_,_,hxl⟩:=Gr HY.out.x;have hsh:=HY.out.t.shape;go_cut [] (fun wx=>RxH w p s ext (st.rxn (dT R) (dN R) (dP R)) ta tb tv pa pc ma mc W.heap.size g R tv na nc wx)
  case first=>
   have HM:=Ad5 (fun q hq=>AB HH.out.r q hq);have HZ:=Ad5 (HY.out.tree hpl HH.out.b0.size HM.out);rcases hsh with ⟨T8,q8,rfl⟩ | rfl
   all_goals
    go_region_law (first | fail)
    all_goals
     (try go_wp2_with fail)
     go_meet;exact HZ.out.drew
  case rest=>
   have HX:=Ad5 hcut;clear hcut c15 c16 f15 f16 x0 x1 x2 hxl hsh HY;generalize hst5:st.rxn (dT R) (dN R) (dP R)=st5 at HX;have hms:st5.ms=st.ms:=by rw [←hst5];rfl
   have hl5:st5.ms.length≤90000:=by rw [hms];exact HL.out
   have c23:World.cell? wc ⟨p,23,none⟩=some (.slice ma st5.ms.length mc):=(HX.out.c.q.cell 23).trans rfl;obtain ⟨x0,x1,x2,_,_,_,hxl⟩:=Gr HX.out.x;have hml:=HML.out;obtain ⟨i0,hi,hz0,hz1,hz2⟩:=Cx;have hm1:st5.ms.length+(dMs R).length≤maxLen:=by unfold maxLen;omega
   have hm2:(st5.ms.length+(dMs R).length) * 24≤140737488355328:=by omega
   have hbs:w.heap.size≤(World.heap wc).size:=HX.out.c.b0.size;have Hst:=Ad5 hst5;have Hl5:=Ad5 hl5;clear hst5 hms hl5 hml hgb hpl hgp;go_upto_region 4 with fail
   go_region_law (first
    | (refine Av rfl _ _ 26 rfl w.heap.size 33 i0 (.agg #[.int .i64 0,.string ⟨#[]⟩]) 2 24 Tryz.underlying26 hi hz0 hz1 hz2 rfl (by decide) (.slice ma st5.ms.length mc) st5.ms.length (wmC st5.ms) rfl (Ag HX.out.c.r (by first | exact Aeh _ _ | exact (Aeh _ _).drew)) na (dMs R).length nc (wmC (dMs R)) rfl (ML _) (QC HX.out.r) (MM _) hm1 hm2 hbs ?_;intro v6 w6 hown6 hgrow6 hat6;obtain ⟨a6,c6,rfl⟩:=A6 hown6;have HP:=Ad5 (HX.out.c.push (n:=(dMs R).length) (ms2:=dMs R) (Aeh _ _).drew rfl hgrow6 hown6 hat6);have f23:=(AG (HX.out.c.q.below (Aeh _ _).drew HX.out.c.q.lt) hgrow6 HX.out.c.rg).frozen 23;have g23:w6.cell? ⟨p,23,none⟩=some (.slice ma st5.ms.length mc):=((AG (HX.out.c.q.below (Aeh _ _).drew HX.out.c.q.lt) hgrow6 HX.out.c.rg).cell 23).trans rfl;clear hown6 hgrow6 hat6))
   all_goals
    have hst:=Hst.out;subst hst
    (try go_wp2_with fail)
    go_ret;exact ⟨rfl,HP.out.R⟩
theorem An {b c:UInt8} (h:¬ b=c):((b.toNat:Int) == (c.toNat:Int))=false:=by
 have:¬ (b.toNat:Int)=(c.toNat:Int):=fun e=>h (UInt8.toNat_inj.1 (by omega))
 simpa using this
theorem O9 (w:World) (p:Nat) (s:ByteArray) (ext:Bool) (st:CS) (W:World) (h:Do w p s ext st W) (hs:s.size≤4000000) (hk:st.k≤s.size) :
  Calls Tryz.prog 72 #[.pointer (some ⟨p,0,none⟩)] W fun e W'=>e=.returned (.tuple #[.int .u8 ((A8 s.data.toList st).1.toNat:Int),.int .i64 ((A8 s.data.toList st).2.1:Int)])∧Do w p s ext (A8 s.data.toList st).2.2 W':=by
 obtain ⟨ta,tb,ts,pa,pc,ma,mc,h⟩:=h;unfold A8;have HH:=Ad5 h;have k0:W.cell? ⟨p,0,none⟩=some (.string s):=(h.q.cell 0).trans rfl;have k2:W.cell? ⟨p,2,none⟩=some (.int .i64 (st.k:Int)):=(h.q.cell 2).trans rfl;have f2:=h.q.frozen 2;clear h;by_cases hz:st.k=s.size
 ·rw [Bn s st.k (by omega)];have hE:((st.k:Int) == (s.size:Int))=true:=by simp [hz]
  clear hz;simp only;go_enter Tryz.func72,Tryz.ntmps72;go_upto_region 1 with fail
  go_quiet (fail)
  generalize nq=n1;go_wp2_with fail
  go_ret2
  exact ⟨rfl,(HH.out.drewN n1).R⟩
 ·have hlt:st.k < s.size:=by omega
  rw [Bi s st.k hlt];have hE:((st.k:Int) == (s.size:Int))=false:=by simp;omega
  have hy0:(0:Int)≤(st.k:Int):=by omega
  have hy1:(st.k:Int) < (s.size:Int):=by omega
  clear hz;simp only;by_cases h1:s[st.k]=92∨s[st.k]=10
  ·rw [if_pos h1];rcases h1 with h1 | h1
   all_goals
    have e1:s[st.k].toNat=_:=congrArg UInt8.toNat h1;clear h1;go_enter Tryz.func72,Tryz.ntmps72;go_upto_region 1 with fail;go_quiet (fail);generalize nq=n1;go_upto_region 3 with fail;go_quiet (fail);have H4:=Ad5 (HH.out.drewN (n1+nq));generalize nq=n2 at H4 ⊢;go_wp2_with fail
    go_ret2
    exact ⟨rfl,H4.out.R⟩
  ·rw [if_neg h1];have c1:((s[st.k].toNat:Int) == 92)=false:=An (c:=92) fun e=>h1 (.inl e)
   have c2:((s[st.k].toNat:Int) == 10)=false:=An (c:=10) fun e=>h1 (.inr e)
   have Wk:IntKind.i64.wrap ((st.k:Int)+1)=((st.k+1:Nat):Int):=by rw [Aej _ (by omega)];omega
   clear h1;go_enter Tryz.func72,Tryz.ntmps72;go_upto_region 1 with fail;go_quiet (fail);generalize nq=n1;go_upto_region 3 with fail;go_quiet (fail);have H4:=Ad5 (HH.out.drewN (n1+nq));generalize nq=n2 at H4 ⊢;have H5:=Ad5 (H4.out.go (st.k+1));clear H4;go_wp2_with fail
   go_ret2
   exact ⟨rfl,H5.out.R⟩
theorem CmSt.all {w:World} {p:Nat} {s:ByteArray} {ext:Bool} {st:CS} {ta tb ts:Value} {pa:Option Addr} {pc:Nat} {ma:Option Addr} {mc:Nat} {W:World} (h:CmSt w p s ext st ta tb ts pa pc ma mc W):CmSt w p s ext st.all ta tb ts pa pc ma mc ((W.setCell ⟨p,19,none⟩ (.bool true)).setCell ⟨p,2,none⟩ (.int .i64 ((st.k+1:Nat):Int))):=
 (h.put 19 (.bool true) { st with c:={ st.c with sub:={ st.c.sub with all:=true } } } rfl rfl rfl rfl fun _ _=>rfl).go (st.k+1)
theorem CmSt.prt {w:World} {p:Nat} {s:ByteArray} {ext:Bool} {st:CS} {ta tb ts:Value} {pa:Option Addr} {pc:Nat} {ma:Option Addr} {mc:Nat} {W:World} (h:CmSt w p s ext st ta tb ts pa pc ma mc W):CmSt w p s ext st.prt ta tb ts pa pc ma mc ((W.setCell ⟨p,20,none⟩ (.bool true)).setCell ⟨p,2,none⟩ (.int .i64 ((st.k+1:Nat):Int))):=
 (h.put 20 (.bool true) { st with c:={ st.c with sub:={ st.c.sub with prt:=true } } } rfl rfl rfl rfl fun _ _=>rfl).go (st.k+1)
theorem WT (w:World) (p:Nat) (s:ByteArray) (ext:Bool) (st:CS) (W:World) (h:Do w p s ext st W) (hs:s.size≤4000000) (hk:st.k≤s.size) :
  Calls Tryz.prog 91 #[.pointer (some ⟨p,0,none⟩),.pointer (some ⟨p,19,none⟩)] W fun e W'=>e=.returned (.int .i64 ((Dl st).1:Int))∧Do w p s ext (Dl st).2 W':=by
 obtain ⟨ta,tb,ts,pa,pc,ma,mc,h⟩:=h;unfold Dl;have HH:=Ad5 h;have k2:W.cell? ⟨p,2,none⟩=some (.int .i64 (st.k:Int)):=(h.q.cell 2).trans rfl;have kf:W.cell? ⟨p,19,none⟩=some (.bool st.c.sub.all):=(h.q.cell 19).trans rfl;have f2:=h.q.frozen 2;have ff:=h.q.frozen 19;have Wk:IntKind.i64.wrap ((st.k:Int)+1)=((st.k+1:Nat):Int):=by rw [Aej _ (by omega)];omega
 clear h;obtain ⟨b,hb⟩:∃ b,st.c.sub.all=b:=⟨_,rfl⟩;rw [hb] at kf ⊢;clear hb;cases b
 ·rw [if_neg (by decide)];have H5:=Ad5 HH.out.all;go_enter Tryz.func91,Tryz.ntmps91;go_wp2_with fail
  go_ret;exact ⟨rfl,H5.out.R⟩
 ·rw [if_pos rfl];go_enter Tryz.func91,Tryz.ntmps91;go_wp2_with fail
  go_ret;exact ⟨rfl,HH.out.R⟩
theorem WU (w:World) (p:Nat) (s:ByteArray) (ext:Bool) (st:CS) (W:World) (h:Do w p s ext st W) (hs:s.size≤4000000) (hk:st.k≤s.size) :
  Calls Tryz.prog 91 #[.pointer (some ⟨p,0,none⟩),.pointer (some ⟨p,20,none⟩)] W fun e W'=>e=.returned (.int .i64 ((Dm st).1:Int))∧Do w p s ext (Dm st).2 W':=by
 obtain ⟨ta,tb,ts,pa,pc,ma,mc,h⟩:=h;unfold Dm;have HH:=Ad5 h;have k2:W.cell? ⟨p,2,none⟩=some (.int .i64 (st.k:Int)):=(h.q.cell 2).trans rfl;have kf:W.cell? ⟨p,20,none⟩=some (.bool st.c.sub.prt):=(h.q.cell 20).trans rfl;have f2:=h.q.frozen 2;have ff:=h.q.frozen 20;have Wk:IntKind.i64.wrap ((st.k:Int)+1)=((st.k+1:Nat):Int):=by rw [Aej _ (by omega)];omega
 clear h;obtain ⟨b,hb⟩:∃ b,st.c.sub.prt=b:=⟨_,rfl⟩;rw [hb] at kf ⊢;clear hb;cases b
 ·rw [if_neg (by decide)];have H5:=Ad5 HH.out.prt;go_enter Tryz.func91,Tryz.ntmps91;go_wp2_with fail
  go_ret;exact ⟨rfl,H5.out.R⟩
 ·rw [if_pos rfl];go_enter Tryz.func91,Tryz.ntmps91;go_wp2_with fail
  go_ret;exact ⟨rfl,HH.out.R⟩
theorem AT (b:UInt8) (w:World):Calls Tryz.prog 92 #[.int .u8 (b.toNat:Int)] w fun e w'=>e=.returned (.bool (A4.contains b))∧w'=w:=by
 rw [DH];by_cases h1:48≤b.toNat
 ·have d1:(48:Int)≤(b.toNat:Int):=by omega
  rw [decide_eq_true h1,Bool.true_and];by_cases h2:b.toNat≤57
  ·have d2:(b.toNat:Int)≤57:=by omega
   rw [decide_eq_true h2];go_enter Tryz.func92,Tryz.ntmps92;go_wp2_with fail
   go_ret;exact ⟨rfl,rfl⟩
  ·have d2:¬ (b.toNat:Int)≤57:=by omega
   rw [decide_eq_false h2];go_enter Tryz.func92,Tryz.ntmps92;go_wp2_with fail
   go_ret;exact ⟨rfl,rfl⟩
 ·have d1:¬ (48:Int)≤(b.toNat:Int):=by omega
  rw [decide_eq_false h1,Bool.false_and];go_enter Tryz.func92,Tryz.ntmps92;go_wp2_with fail
  go_ret;exact ⟨rfl,rfl⟩
def Z0 (m:Option Nat):Value:=match m with
 | some n=>.tuple #[.int .i64 (n:Int),.bool true]
 | none=>.tuple #[.int .i64 0,.bool false]
theorem Uh (b:UInt8) (w:World):Calls Tryz.prog 67 #[.int .u8 (b.toNat:Int)] w fun e w'=>e=.returned (Z0 (E9 b))∧w'=w:=by
 by_cases h:b∈[125,58,61,113,81,97,105,114,123,100,68,103,71,104,72,108,110,78,112,80,120,122,98,116,84,99,119,115,121]
 ·simp only [Ael,List.not_mem_nil,or_false] at h;rcases h with rfl | rfl | rfl | rfl | rfl | rfl | rfl | rfl | rfl | rfl | rfl | rfl | rfl | rfl | rfl | rfl | rfl | rfl | rfl | rfl | rfl | rfl | rfl | rfl | rfl | rfl | rfl | rfl | rfl
  all_goals
   go_enter Tryz.func67,Tryz.ntmps67;go_wp2_with fail
   go_ret2
   exact ⟨rfl,rfl⟩
 ·simp only [Ael,List.not_mem_nil,or_false,not_or] at h;obtain ⟨q125,q58,q61,q113,q81,q97,q105,q114,q123,q100,q68,q103,q71,q104,q72,q108,q110,q78,q112,q80,q120,q122,q98,q116,q84,q99,q119,q115,q121⟩:=h;have c125:((b.toNat:Int) == 125)=false:=An (c:=125) q125;have c58:((b.toNat:Int) == 58)=false:=An (c:=58) q58;have c61:((b.toNat:Int) == 61)=false:=An (c:=61) q61;have c113:((b.toNat:Int) == 113)=false:=An (c:=113) q113;have c81:((b.toNat:Int) == 81)=false:=An (c:=81) q81;have c97:((b.toNat:Int) == 97)=false:=An (c:=97) q97;have c105:((b.toNat:Int) == 105)=false:=An (c:=105) q105;have c114:((b.toNat:Int) == 114)=false:=An (c:=114) q114;have c123:((b.toNat:Int) == 123)=false:=An (c:=123) q123;have c100:((b.toNat:Int) == 100)=false:=An (c:=100) q100;have c68:((b.toNat:Int) == 68)=false:=An (c:=68) q68;have c103:((b.toNat:Int) == 103)=false:=An (c:=103) q103;have c71:((b.toNat:Int) == 71)=false:=An (c:=71) q71;have c104:((b.toNat:Int) == 104)=false:=An (c:=104) q104;have c72:((b.toNat:Int) == 72)=false:=An (c:=72) q72;have c108:((b.toNat:Int) == 108)=false:=An (c:=108) q108;have c110:((b.toNat:Int) == 110)=false:=An (c:=110) q110;have c78:((b.toNat:Int) == 78)=false:=An (c:=78) q78;have c112:((b.toNat:Int) == 112)=false:=An (c:=112) q112;have c80:((b.toNat:Int) == 80)=false:=An (c:=80) q80;have c120:((b.toNat:Int) == 120)=false:=An (c:=120) q120;have c122:((b.toNat:Int) == 122)=false:=An (c:=122) q122;have c98:((b.toNat:Int) == 98)=false:=An (c:=98) q98;have c116:((b.toNat:Int) == 116)=false:=An (c:=116) q116;have c84:((b.toNat:Int) == 84)=false:=An (c:=84) q84;have c99:((b.toNat:Int) == 99)=false:=An (c:=99) q99;have c119:((b.toNat:Int) == 119)=false:=An (c:=119) q119;have c115:((b.toNat:Int) == 115)=false:=An (c:=115) q115;have c121:((b.toNat:Int) == 121)=false:=An (c:=121) q121;have hm:E9 b=none:=by
   unfold E9;rw [if_neg (by simp [q125,q58]),if_neg (by simp [q61,q113,q81,q97,q105,q114]),if_neg (by simp [q123,q100,q68,q103,q71,q104,q72,q108,q110,q78,q112,q80,q120,q122,q98,q116,q84,q99,q119,q115,q121])]
  rw [hm];clear hm q125 q58 q61 q113 q81 q97 q105 q114 q123 q100 q68 q103 q71 q104 q72 q108 q110 q78 q112 q80 q120 q122 q98 q116 q84 q99 q119 q115 q121;go_enter Tryz.func67,Tryz.ntmps67;go_wp2_with fail
  go_ret2
  exact ⟨rfl,rfl⟩
theorem Ui (g:Grd) (la lb:Int) (sa sb:ByteArray) (ta tb:Value) (w:World) (hx:(∃ T q,ta=.iface T q)∨ta=.nilIface) (hy:(∃ T q,tb=.iface T q)∨tb=.nilIface):Calls Tryz.prog 68 #[.agg #[.int .i64 (g.a.kind:Int),.int .i64 la,.string sa,ta,.int .i64 (g.b.kind:Int),.int .i64 lb,.string sb,tb,.bool g.no]] w fun e w'=>e=.returned (.int .i64 (Ir g:Int))∧Below w.heap.size w w':=by
 obtain ⟨W1,hW1⟩:∃ W1,w.alloc (.cells #[.int .i64 (g.a.kind:Int),.int .i64 la,.string sa,ta,.int .i64 (g.b.kind:Int),.int .i64 lb,.string sb,tb,.bool g.no] 42)=W1:=⟨_,rfl⟩;have hb1:=Ac hW1;obtain ⟨⟨x0,x1,x2,x3,x4,x5,x6,x7,x8⟩,_,_,_,_,_,_,_,_,_,hxl⟩:=BT (Ae hW1);unfold Ir;by_cases h1:g.a.kind=0
 ·rw [if_pos h1];have c1:((g.a.kind:Int) == 0)=true:=by simp [h1]
  clear h1;rcases hx with ⟨T8,q8,rfl⟩ | rfl <;> rcases hy with ⟨T9,q9,rfl⟩ | rfl
  all_goals
   go_enter Tryz.func68,Tryz.ntmps68;go_wp2_with fail
   go_ret;exact ⟨rfl,hb1⟩
 ·rw [if_neg h1];have c1:((g.a.kind:Int) == 0)=false:=by simpa using h1
  clear h1;by_cases h2:g.b.kind=0
  ·rw [if_pos h2];have c2:((g.b.kind:Int) == 0)=true:=by simp [h2]
   clear h2;rcases hx with ⟨T8,q8,rfl⟩ | rfl <;> rcases hy with ⟨T9,q9,rfl⟩ | rfl
   all_goals
    go_enter Tryz.func68,Tryz.ntmps68;go_wp2_with fail
    go_ret;exact ⟨rfl,hb1⟩
  ·rw [if_neg h2];have c2:((g.b.kind:Int) == 0)=false:=by simpa using h2
   clear h2;rcases hx with ⟨T8,q8,rfl⟩ | rfl <;> rcases hy with ⟨T9,q9,rfl⟩ | rfl
   all_goals
    go_enter Tryz.func68,Tryz.ntmps68;go_wp2_with fail
    go_ret;exact ⟨rfl,hb1⟩
theorem CmSt.nth {w:World} {p:Nat} {s:ByteArray} {ext:Bool} {st:CS} {ta tb ts:Value} {pa:Option Addr} {pc:Nat} {ma:Option Addr} {mc:Nat} {W:World} (h:CmSt w p s ext st ta tb ts pa pc ma mc W) (n k:Nat):CmSt w p s ext (st.nth n k) ta tb ts pa pc ma mc ((W.setCell ⟨p,18,none⟩ (.int .i64 (n:Int))).setCell ⟨p,2,none⟩ (.int .i64 (k:Int))):=
 (h.put 18 (.int .i64 (n:Int)) { st with c:={ st.c with sub:={ st.c.sub with nth:=n } } } rfl rfl rfl rfl fun _ _=>rfl).go k
theorem WV (w:World) (p:Nat) (s:ByteArray) (ext:Bool) (st:CS) (W:World) (h:Do w p s ext st W) (hs:s.size≤4000000) (hk:st.k≤s.size) :
  Calls Tryz.prog 93 #[.pointer (some ⟨p,0,none⟩)] W fun e W'=>e=.returned (.int .i64 ((Dc s.data.toList st).1:Int))∧Do w p s ext (Dc s.data.toList st).2 W':=by
 obtain ⟨ta,tb,ts,pa,pc,ma,mc,h⟩:=h;have hN:=fun w1=>G4 s st.k w1 hs hk
 unfold Dc;obtain ⟨⟨n,q,e0⟩,hR⟩:∃ R,Bx s.data.toList st.k=R:=⟨_,rfl⟩;rw [hR] at hN ⊢;have hN:∀ w1,Calls Tryz.prog 83 #[.string s,.int .i64 (st.k:Int)] w1 fun e w'=>e=.returned (.tuple #[.int .i64 (n:Int),.int .i64 (q:Int),.int .i64 (e0:Int)])∧Below w1.heap.size w1 w':=hN
 have HH:=Ad5 h;have k0:W.cell? ⟨p,0,none⟩=some (.string s):=(h.q.cell 0).trans rfl;have k2:W.cell? ⟨p,2,none⟩=some (.int .i64 (st.k:Int)):=(h.q.cell 2).trans rfl;clear h hR;obtain ⟨Z,hZ⟩:∃ Z,CB st (n,q,e0)=Z:=⟨_,rfl⟩;rw [hZ];have HZ:=Ad5 hZ;clear hZ;go_enter Tryz.func93,Tryz.ntmps93;go_upto_region 1 with fail;go_cut [3,4,5] (fun s3 s4 s5 wx=>s3=.int .i64 (n:Int)∧s4=.int .i64 (q:Int)∧s5=.int .i64 (e0:Int)∧CmSt w p s ext st ta tb ts pa pc ma mc wx)
 case first=>
  go_region_held3 (fun w'=>w'.cell? ⟨p,0,none⟩=some (.string s)∧w'.cell? ⟨p,2,none⟩=some (.int .i64 (st.k:Int))) (first | exact ⟨k0,k2⟩ | (refine ⟨?_,?_⟩ <;> assumption)) (first | (go_at_call 83;refine (hN _).mono ?_;rintro e w1 ⟨rfl,b1⟩;have H1:=Ad5 (by first | exact HH.out.step b1 | exact HH.out.drew.step b1:CmSt w p s ext st ta tb ts pa pc ma mc w1);have m0:w1.cell? ⟨p,0,none⟩=some (.string s):=(H1.out.q.cell 0).trans rfl;have m2:w1.cell? ⟨p,2,none⟩=some (.int .i64 (st.k:Int)):=(H1.out.q.cell 2).trans rfl;clear b1))
  all_goals ((try go_wp2_with fail);go_meet;exact ⟨rfl,rfl,rfl,H1.out⟩)
 case rest=>
  obtain ⟨rfl,rfl,rfl,h2⟩:=hcut;have H2:=Ad5 h2;clear h2 k0 k2;have k2:World.cell? wc ⟨p,2,none⟩=some (.int .i64 (st.k:Int)):=(H2.out.q.cell 2).trans rfl;have k18:World.cell? wc ⟨p,18,none⟩=some (.int .i64 (st.c.sub.nth:Int)):=(H2.out.q.cell 18).trans rfl;have f2:=H2.out.q.frozen 2;have f18:=H2.out.q.frozen 18;by_cases he:e0=0
  ·subst he;by_cases h18:st.c.sub.nth=0
   ·have c18:((st.c.sub.nth:Int) != 0)=false:=by simp [h18]
    by_cases hn:n=0
    ·subst hn;obtain rfl:(1,st)=Z:=by rw [←HZ.out];unfold CB;simp [h18]
     clear h18;go_wp2_with fail
     go_ret;exact ⟨rfl,H2.out.R⟩
    ·obtain rfl:(0,st.nth n q)=Z:=by rw [←HZ.out];unfold CB;simp [h18,hn]
     have cn:((n:Int) == 0)=false:=by simpa using hn
     have H3:=Ad5 (H2.out.nth n q);clear h18 hn;go_wp2_with fail
     go_ret;exact ⟨rfl,H3.out.R⟩
   ·obtain rfl:(15,st)=Z:=by rw [←HZ.out];unfold CB;simp [h18]
    have c18:((st.c.sub.nth:Int) != 0)=true:=by simpa using h18
    clear h18;go_wp2_with fail
    go_ret;exact ⟨rfl,H2.out.R⟩
  ·obtain rfl:(e0,st)=Z:=by rw [←HZ.out];unfold CB;simp [he]
   have ce:((e0:Int) != 0)=true:=by simpa using he
   clear he;go_wp2_with fail
   go_ret;exact ⟨rfl,H2.out.R⟩
theorem CmSt.name {w:World} {p:Nat} {s:ByteArray} {ext:Bool} {st:CS} {ta tb ts:Value} {pa:Option Addr} {pc:Nat} {ma:Option Addr} {mc:Nat} {W:World} (h:CmSt w p s ext st ta tb ts pa pc ma mc W) (b:UInt8) {k1:Nat} (hk:st.k+1=k1):CmSt w p s ext (st.name b) ta tb ts pa pc ma mc ((W.setCell ⟨p,13,none⟩ (.int .u8 (b.toNat:Int))).setCell ⟨p,2,none⟩ (.int .i64 (k1:Int))):=by
 subst hk;exact (h.put 13 (.int .u8 (b.toNat:Int)) { st with c:={ st.c with name:=b } } rfl rfl rfl rfl fun _ _=>rfl).go (st.k+1)
theorem WW (s:ByteArray) (k:Nat) (h:k < s.size):(s.extract k (k+1)).data.toList=[s[k]]:=by
 rw [ByteArray.data_extract,Array.toList_extract,List.extract_eq_take_drop,Bi s k h];rw [show k+1 - k=1 by omega];rfl
theorem QD {b:UInt8} (h:GC b=false):¬ b=81∧¬ b=84∧¬ b=122:=by
 simpa [GC,and_assoc] using h
theorem QE {b:UInt8} (h:GC b=true):b=81∨b=84∨b=122:=by
 simpa [GC,or_assoc] using h
theorem Uj (w:World) (p:Nat) (s:ByteArray) (ext:Bool) (st:CS) (W:World) (h:Do w p s ext st W) (hs:s.size≤4000000) (hk:st.k≤s.size) (hl:st.ms.length≤100000) :
  Calls Tryz.prog 43 #[.pointer (some ⟨p,0,none⟩)] W fun e W'=>e=.returned (.int .i64 ((Bg s.data.toList st).1:Int))∧Do w p s ext (Bg s.data.toList st).2 W':=by
 obtain ⟨ta,tb,ts,pa,pc,ma,mc,h⟩:=h;unfold Bg;have HH:=Ad5 h;have Hl:=Ad5 hl;have k0:W.cell? ⟨p,0,none⟩=some (.string s):=(h.q.cell 0).trans rfl;have k2:W.cell? ⟨p,2,none⟩=some (.int .i64 (st.k:Int)):=(h.q.cell 2).trans rfl;clear h hl;by_cases hz:st.k=s.size
 ·rw [Bn s st.k (by omega)];have hE:((st.k:Int) == (s.size:Int))=true:=by simp [hz]
  clear hz;simp only;go_enter Tryz.func43,Tryz.ntmps43;go_upto_region 1 with fail
  go_quiet (fail)
  generalize nq=n1;go_wp2_with fail
  go_ret;exact ⟨rfl,(HH.out.drewN n1).R⟩
 ·have hlt:st.k < s.size:=by omega
  rw [Bi s st.k hlt];have hE:((st.k:Int) == (s.size:Int))=false:=by simp;omega
  have hy0:(0:Int)≤(st.k:Int):=by omega
  have hy1:(st.k:Int) < (s.size:Int):=by omega
  obtain ⟨K1,hK1⟩:∃ K1,st.k+1=K1:=⟨_,rfl⟩;have Wk:IntKind.i64.wrap ((st.k:Int)+1)=(K1:Int):=by rw [Aej _ (by omega)];omega
  have hs1:(st.k:Int)≤(K1:Int):=by omega
  have hs2:(K1:Int)≤(s.size:Int):=by omega
  have hs3:st.k≤K1:=by omega
  have hs4:K1≤s.size:=by omega
  have HK1:=Ad5 hK1;clear hz;simp only;have hMo:=fun w1=>Uh s[st.k] w1
  have hO:=WW s st.k hlt;rw [hK1] at hO;clear hK1;obtain ⟨b,hb⟩:∃ b,s[st.k]=b:=⟨_,rfl⟩;rw [hb] at hMo hO ⊢;have hsx:s[st.k]'hlt=b:=hb;obtain ⟨M,hM⟩:∃ M,E9 b=M:=⟨_,rfl⟩;rw [hM] at hMo ⊢;clear hM hb;obtain ⟨Z,hZ⟩:∃ Z,BG st b M=Z:=⟨_,rfl⟩;rw [hZ];have HZ:=Ad5 hZ;clear hZ;have hA:=fun w1=>Ui st.c.g (st.c.g.a.line:Int) (st.c.g.b.line:Int) (txt st.c.g.a.text) (txt st.c.g.b.text) ta tb w1 HH.out.ha.shape HH.out.hb.shape
  have hsa:=HH.out.ha.shape;have hsb:=HH.out.hb.shape;go_enter Tryz.func43,Tryz.ntmps43;go_upto_region 1 with fail
  go_quiet (fail)
  generalize nq=n1;go_upto_region 3 with fail
  go_quiet (fail)
  have H4:=Ad5 (HH.out.drewN (n1+nq));generalize nq=n2 at H4 ⊢;cases M with
  | none=>
   have hMo:∀ w1,Calls Tryz.prog 67 #[.int .u8 (b.toNat:Int)] w1 fun e w'=>e=.returned (.tuple #[.int .i64 0,.bool false])∧w'=w1:=hMo
   obtain rfl:(13,st)=Z:=HZ.out;go_wp2_with (go_at_call 67;refine (hMo _).mono ?_;rintro e w4 ⟨rfl,rfl⟩)
   go_ret;exact ⟨rfl,H4.out.R⟩
  | some n=>
   have hMo:∀ w1,Calls Tryz.prog 67 #[.int .u8 (b.toNat:Int)] w1 fun e w'=>e=.returned (.tuple #[.int .i64 (n:Int),.bool true])∧w'=w1:=hMo
   obtain ⟨_,⟨k3,k4,k5,k6,k7,k8,k9,k10,k11,k12⟩,_,hpl⟩:=Acf HH.out.q;obtain ⟨m,hm⟩:∃ m,Ir st.c.g=m:=⟨_,rfl⟩;rw [hm] at hA;by_cases hx:n < m
   ·obtain rfl:(19,st)=Z:=by rw [←HZ.out];unfold BG;simp [hm,hx]
    have hxi:(n:Int) < (m:Int):=by omega
    clear hx hm;go_wp2_with (first
     | (go_at_call 67;refine (hMo _).mono ?_;rintro e w4 ⟨rfl,rfl⟩)
     | (go_at_call 68;refine (hA _).mono ?_;clear hA;rintro e w5 ⟨rfl,b5⟩))
    go_ret;exact ⟨rfl,(H4.out.step b5).R⟩
   ·have hxi:¬ (n:Int) < (m:Int):=by omega
    go_upto_region 9 with (first
     | (go_at_call 67;refine (hMo _).mono ?_;rintro e w4 ⟨rfl,rfl⟩)
     | (go_at_call 68;refine (hA _).mono ?_;rintro e w5 ⟨rfl,b5⟩))
    have H5:=Ad5 (H4.out.step b5);clear H4 b5 k0 k2 k3 k4 k5 k6 k7 k8 k9 k10 k11 k12 hpl hA hMo;have k0:w5.cell? ⟨p,0,none⟩=some (.string s):=(H5.out.q.cell 0).trans rfl;have k2:w5.cell? ⟨p,2,none⟩=some (.int .i64 (st.k:Int)):=(H5.out.q.cell 2).trans rfl;have k13:w5.cell? ⟨p,13,none⟩=some (.int .u8 (st.c.name.toNat:Int)):=(H5.out.q.cell 13).trans rfl;have f2:=H5.out.q.frozen 2;have f13:=H5.out.q.frozen 13;obtain ⟨T,hT⟩:∃ T,GC b=T:=⟨_,rfl⟩;cases T with
    | false=>
     obtain rfl:(0,st.name b)=Z:=by rw [←HZ.out];unfold BG;simp [hm,hx,hT]
     obtain ⟨q1,q2,q3⟩:=QD hT;have c1:((b.toNat:Int) == 81)=false:=An (c:=81) q1;have c2:((b.toNat:Int) == 84)=false:=An (c:=84) q2;have c3:((b.toNat:Int) == 122)=false:=An (c:=122) q3;have H6:=Ad5 (H5.out.name b HK1.out);clear q1 q2 q3 hT hm hx;go_wp2_with fail
     go_ret;exact ⟨rfl,H6.out.R⟩
    | true=>
     obtain rfl:(0,(st.mark st.k [b]).name b)=Z:=by rw [←HZ.out];unfold BG;simp [hm,hx,hT]
     have hMk:=fun w1 (h1:CmSt w p s ext st ta tb ts pa pc ma mc w1)=>LF w p s ext st ta tb ts pa pc ma mc (s.extract st.k K1) w1 h1 Hl.out
     rw [hO] at hMk;rcases QE hT with rfl | rfl | rfl
     all_goals
      clear hT hm hx;go_upto_region 13 with fail
      go_region_held3 (fun w'=>w'.cell? ⟨p,0,none⟩=some (.string s)∧w'.cell? ⟨p,2,none⟩=some (.int .i64 (st.k:Int))) (first | exact ⟨k0,k2⟩ | (refine ⟨?_,?_⟩ <;> assumption)) (first | (go_at_call 69;refine (hMk _ (by first | exact H5.out | exact H5.out.drew)).mono ?_;rintro e w6 ⟨rfl,a6,c6,h6⟩;have H6:=Ad5 h6;have m0:w6.cell? ⟨p,0,none⟩=some (.string s):=(h6.q.cell 0).trans rfl;have m2:w6.cell? ⟨p,2,none⟩=some (.int .i64 (st.k:Int)):=(h6.q.cell 2).trans rfl;clear h6))
      all_goals
       clear k0 k2 k13 f2 f13;have k13:w6.cell? ⟨p,13,none⟩=some (.int .u8 (st.c.name.toNat:Int)):=(H6.out.q.cell 13).trans rfl;have f2:=H6.out.q.frozen 2;have f13:=H6.out.q.frozen 13;have H7:=Ad5 (fun b=>H6.out.name b HK1.out);go_wp2_with fail
       go_ret;exact ⟨rfl,(H7.out _).R⟩
end
section
open Go.RowKit
/-- The rune that is no rune: none of the two. -/
theorem KV (t:ByteArray) (ht:t.size=2) (ha:∀ i (h:i < t.size),t[i].toNat < 128) (w:World) :
  Calls Tryz.prog 98 #[.string t,.int .i32 65533] w fun e w'=>e=.returned (.int .i64 (-1))∧Below w.heap.size w w':=by
 go_enter Tryz.func98,Tryz.ntmps98;have HA:=Ad5 ha;clear ha
 go_wp2
 go_loopg [5,6] 2 (fun g _ _ wx=>∃ i:Nat,i+g=2∧wx=w.iter t i)
 case atStart=>exact ⟨0,by omega,rfl⟩
 case round=>
  obtain ⟨i,hig,rfl⟩:=hrel;cases gk with
  | zero=>
   obtain rfl:i=2:=by omega
   have hnx:=fun ty=>run_next_end (P:=Tryz.prog) w t 2 ty (by omega)
   go_wp2
   go_ret;exact ⟨rfl,(Aeh _ w).alloc (Aec _) _⟩
  | succ g=>
   have hi:i < t.size:=by omega
   have h128:=HA.out i hi;have hnx:=fun ty=>run_next_ascii (P:=Tryz.prog) w t i ty hi h128
   have hq:((t[i].toNat:Int) == 65533)=false:=beq_eq_false_iff_ne.2 (by omega)
   go_wp2
   go_roundg g
   case measure=>omega
   case rel=>exact ⟨i+1,by omega,rfl⟩
/-- Any other rune beyond ASCII. -/
theorem Nb (t:ByteArray) (ht:t.size=2) (ha:∀ i (h:i < t.size),t[i].toNat < 128) (r:Int) (hv:Utf8.valid r=true) (h128:128≤r) (hm:r≤1114111) (hne:¬ r=65533) (w:World) :
  Calls Tryz.prog 98 #[.string t,.int .i32 r] w fun e w'=>e=.returned (.int .i64 (-1))∧Below w.heap.size w w':=by
 obtain ⟨e2,e4,elast⟩:=encode_facts r hv h128;have hq:(r == 65533)=false:=beq_eq_false_iff_ne.2 hne;have hV:Calls Tryz.prog 113 #[.int .i32 r] w fun e w'=>e=.returned (.bool true)∧w'=w:=by
  have:=Any.utf8_ValidRune (P:=Tryz.prog) (ρ:=Rt) { Ru with } r w;rw [show Lib.validRune r=true from by rw [←hv,validRune_eq];rfl] at this;exact this
 generalize hE:Utf8.encode r=E at e2 e4 elast;have hc1:(r < 128)=False:=eq_false (by omega);have h0:(0:Int)≤r:=by omega
 have hL1:IntKind.i64.wrap ((E.size:Int) - 1)=(E.size:Int) - 1:=Aej _ (by omega);clear hne hv;have hcv:∀ w,(convert 21 9 (.int .i32 r)).run Tryz.prog w=.ok (.string E) w:=fun w=>by
  rw [←hE];exact run_convert_int_string w 21 9 .i32 r (by rw [Tryz.underlying21];rfl) Tryz.underlying9
 go_enter Tryz.func98,Tryz.ntmps98;by_cases hs2:E.size=2
 ·have hlast:=elast (by omega);have hL2:IntKind.i64.wrap ((E.size:Int) - 1)=1:=by rw [hL1];omega
  have h1a:=ha 1 (by omega);have hq59:((t[1]'(by omega)).toNat:Int) != (E[1]'(by omega)).toNat:=bne_iff_ne.2 (by
   have:(E[E.size - 1]'(by omega))=E[1]'(by omega):=by congr 1;omega
   rw [this] at hlast;omega)
  have hlt1:(1:Int) < (E.size:Int):=by omega
  have htt:(t.size:Int)=2:=by omega
  have hw2:IntKind.i64.wrap 2=2:=by decide
  have hle2:(2:Int)≤(t.size:Int):=by omega
  have hIB:∀ (c:UInt8) w,Calls Tryz.prog 112 #[.string ByteArray.empty,.int .u8 c.toNat] w fun e w'=>e=.returned (.int .i64 (-1))∧w'=w:=fun c w=>
   F5 ByteArray.empty c w
  clear hlast elast hE ha h1a;go_wp2_with (go_at_call 113;refine hV.mono ?_;rintro e w' ⟨rfl,rfl⟩)
  go_step3
  go_wp2
  refine wp_loop_rounds 1 ?_;rw [rounds_succ]
  go_wp2
  go_step3
  go_wp2
  go_quiet (fail)
  generalize hW1:w'.drewN _=W1
  go_wp2
  go_quiet (first | (go_at_call 112;exact Calls.quiet_of_same (hIB _ _)))
  go_wp2
  simp only [Exit.inBlock,Exit.then,Exit.noGoto];go_ret;refine ⟨rfl,below_drewN ?_ _⟩;rw [←hW1];exact below_drewN (Aeh _ _) _
 ·have hge:¬ ((E.size:Int) - 1 < (t.size:Int)):=by omega
  clear elast hE ha;go_wp2_with (go_at_call 113;refine hV.mono ?_;rintro e w' ⟨rfl,rfl⟩)
  go_step3
  go_wp2
  refine wp_loop_rounds 1 ?_;rw [rounds_succ]
  go_wp2
  try rw [Exit.noGoto_ret]
  go_ret;exact ⟨rfl,Aeh _ _⟩
theorem OD (n b c d e:Nat) (hn:1≤n) (h:¬ b < 128) (hb:b < 256) :
  128≤(Lib.decodeN n b c d e).1∧(Lib.decodeN n b c d e).1≤1114111∧((Lib.decodeN n b c d e).1 < 55296∨57343 < (Lib.decodeN n b c d e).1)∧1≤(Lib.decodeN n b c d e).2∧(Lib.decodeN n b c d e).2≤n∧(Lib.decodeN n b c d e).2≤4∧
   (2≤(Lib.decodeN n b c d e).2→128≤c)∧(3≤(Lib.decodeN n b c d e).2→128≤d)∧(4≤(Lib.decodeN n b c d e).2→128≤e):=by
 unfold Lib.decodeN;rw [if_neg h]
 repeat' split
 all_goals (simp only;omega)
theorem QF (s:ByteArray) (pos:Nat) (hp:pos < s.size) (h:¬ s[pos].toNat < 128) :
  128≤(Utf8.decode s pos).1∧(Utf8.decode s pos).1≤1114111∧Utf8.valid ((Utf8.decode s pos).1:Int)=true∧1≤(Utf8.decode s pos).2∧pos+(Utf8.decode s pos).2≤s.size∧
   ∀ (j:Nat) b,pos≤j→j < pos+(Utf8.decode s pos).2→s.data.toList[j]?=some b→128≤b.toNat:=by
 have hx:s.data.toList[pos]?=some s[pos]:=Lib.data_getElem? s pos hp;have h0:(s.data.toList.getD pos 0)=s[pos]:=by rw [List.getD_eq_getElem?_getD,hx];rfl
 have H:=OD (s.data.toList.length - pos) (s.data.toList.getD pos 0).toNat (s.data.toList.getD (pos+1) 0).toNat (s.data.toList.getD (pos+2) 0).toNat (s.data.toList.getD (pos+3) 0).toNat (by rw [←Ad];omega) (by rw [h0];exact h) (UInt8.toNat_lt _)
 rw [←E0] at H;obtain ⟨h1,h2,h3,h4,h5,h6,h7,h8,h9⟩:=H;rw [←Ad] at h5;refine ⟨h1,h2,?_,h4,by omega,fun j b hj1 hj2 hb=>?_⟩
 ·simp only [Utf8.valid,Bool.or_eq_true,Bool.and_eq_true,decide_eq_true_eq];omega
 ·have hg:∀ k,j=k→(s.data.toList.getD k 0)=b:=fun k hk=>by rw [List.getD_eq_getElem?_getD,←hk,hb];rfl
  by_cases c0:j=pos
  ·rw [←hg pos c0,h0];omega
  by_cases c1:j=pos+1
  ·rw [←hg (pos+1) c1];exact h7 (by omega)
  by_cases c2:j=pos+2
  ·rw [←hg (pos+2) c2];exact h8 (by omega)
  ·rw [←hg (pos+3) (by omega)];exact h9 (by omega)
theorem Sd:∀ i (h:i < (⟨#[10,59]⟩:ByteArray).size),(⟨#[10,59]⟩:ByteArray)[i].toNat < 128:=fun i h=>by
 match i,h with
 | 0,_=>exact of_decide_eq_true rfl
 | 1,_=>exact of_decide_eq_true rfl
theorem WX:∀ (j:Nat) b,(⟨#[10,59]⟩:ByteArray).data.toList[j]?=some b→b.toNat < 128:=ascii_of_all (by decide)
theorem WY:∀ (j:Nat) b,(⟨#[10]⟩:ByteArray).data.toList[j]?=some b→b.toNat < 128:=ascii_of_all (by decide)
theorem Ky (s:ByteArray) (w:World) (h8:s.size≤8) :
  Calls Tryz.prog 102 #[.string s,.string ⟨#[10,59]⟩] w fun e w'=>e=.returned (.int .i64 (Lib.indexAny s.data.toList [10,59]))∧Below w.heap.size w w':=by
 have h8z:decide ((8:Int) < (s.size:Int))=false:=decide_eq_false (by omega);have hU:=Any.strings_shouldUseASCIISet (P:=Tryz.prog) (ρ:=Ja) { Jb with } (s.size:Int) w;rw [h8z] at hU;have hA:∀ (x:UInt8) w,x.toNat < 128→Calls Tryz.prog 98 #[.string ⟨#[10,59]⟩,.int .i32 x.toNat] w fun e w'=>e=.returned (.int .i64 (Lib.indexByte [10,59] x))∧w'=w:=fun x w h=>by
  have:=Any.strings_IndexRune_ascii (P:=Tryz.prog) (ρ:=Ja) { Jb with } ⟨#[10,59]⟩ (x.toNat:Int) w (by omega) (by omega);rw [Lib.byte_back'] at this;exact this
 have hH:∀ (r:Int) w,Utf8.valid r=true→128≤r→r≤1114111→Calls Tryz.prog 98 #[.string ⟨#[10,59]⟩,.int .i32 r] w fun e w'=>e=.returned (.int .i64 (-1))∧Below w.heap.size w w':=fun r w hv h1 h2=>by
  by_cases h:r=65533
  ·rw [h];exact KV ⟨#[10,59]⟩ rfl Sd w
  ·exact Nb ⟨#[10,59]⟩ rfl Sd r hv h1 h2 h w
 go_enter Tryz.func102,Tryz.ntmps102;go_wp2_with (go_at_call 119;refine hU.mono ?_;rintro e w' ⟨rfl,rfl⟩)
 go_loopw [9,10] (fun _ _ wr=>∃ pos:Nat,wr.heap[w'.heap.size]?=some (.stringIter s pos)∧Below w'.heap.size w' wr∧pos≤s.size∧Lib.NoAny s.data.toList [10,59] pos) (fun _ _ wr=>s.size - wr.iterPos w'.heap.size)
 case atStart=>
  refine ⟨0,?_,(Aeh _ w').alloc (Aec _) _,by omega,Lib.NoAny.zero _ _⟩;have:=World.iter_heap w' s 0;simpa using this
 case round=>
  obtain ⟨pos,hit,hbw,hple,hno⟩:=hrel;have HN:=Ad5 hno;clear hno;have hsz:w'.heap.size < wr.heap.size:=(Array.getElem?_eq_some_iff.1 hit).1;by_cases hp:pos < s.size
  ·obtain ⟨x,hx⟩:∃ x,s[pos]=x:=⟨_,rfl⟩;have hxl:s.data.toList[pos]?=some x:=by rw [←hx];exact Lib.data_getElem? s pos hp
   by_cases h128:x.toNat < 128
   ·have hnx:∀ ty,(Instr.next (.pointer (some ⟨w'.heap.size,0,none⟩)) true ty).run Tryz.prog wr=_:=fun ty=>Lib.run_next_ascii_at wr w'.heap.size s pos ty hit hp (by rw [hx];exact h128)
    rw [hx] at hnx;have Hx:=Ad5 hxl;have hA1:=hA x (wr.iterAt w'.heap.size s (pos+1)) h128;have hit2:=Lib.iterAt_heap wr w'.heap.size s pos (pos+1) hit;have hbw2:=Lib.below_iterAt hbw (k:=w'.heap.size) (by omega) s (pos+1);clear hxl hx hA hH;cases hin:([10,59]:List UInt8).contains x with
    | true=>
     have hge:(0:Int)≤Lib.indexByte [10,59] x:=of_decide_eq_true ((Lib.contains_iff_indexByte _ _).symm.trans hin);have Hin:=Ad5 hin;clear hin;generalize Lib.indexByte [10,59] x=ix at *;go_wp2_with (go_at_call 98;refine hA1.mono ?_;rintro e w' ⟨rfl,rfl⟩)
     go_ret;exact ⟨by rw [Lib.indexAny_hit HN.out Hx.out Hin.out];rfl,hbw2⟩
    | false=>
     have hlt:¬ (0:Int)≤Lib.indexByte [10,59] x:=of_decide_eq_false ((Lib.contains_iff_indexByte _ _).symm.trans hin);have Hin:=Ad5 hin;clear hin;generalize Lib.indexByte [10,59] x=ix at *;go_wp2_with (go_at_call 98;refine hA1.mono ?_;rintro e w' ⟨rfl,rfl⟩)
     go_roundw
     case rel=>exact ⟨pos+1,hit2,hbw2,by omega,HN.out.succ Hx.out Hin.out⟩
     case measure=>simp only [World.iterPos,hit2,hit];omega
   ·have hnx:∀ ty,(Instr.next (.pointer (some ⟨w'.heap.size,0,none⟩)) true ty).run Tryz.prog wr=_:=fun ty=>Lib.run_next_any_at wr w'.heap.size s pos ty hit hp
    obtain ⟨d1,d2,d3,d4,d5,d6⟩:=QF s pos hp (by rw [hx];exact h128);have hH1:=hH ((Utf8.decode s pos).1:Int) (wr.iterAt w'.heap.size s (pos+(Utf8.decode s pos).2)) d3 (by omega) (by omega);have hit2:=Lib.iterAt_heap wr w'.heap.size s pos (pos+(Utf8.decode s pos).2) hit;have hbw2:=Lib.below_iterAt hbw (k:=w'.heap.size) (by omega) s (pos+(Utf8.decode s pos).2);have hsz2:w'.heap.size < (wr.iterAt w'.heap.size s (pos+(Utf8.decode s pos).2)).heap.size:=by rw [Lib.iterAt_size];exact hsz
    have Hno:=Ad5 (show Lib.NoAny s.data.toList [10,59] (pos+(Utf8.decode s pos).2) from fun j b hj hb=>by
     by_cases hjp:j < pos
     ·exact HN.out j b hjp hb
     ·have:=d6 j b (by omega) hj hb;cases hc:([10,59]:List UInt8).contains b with
      | false=>rfl
      | true=>
       simp at hc;rcases hc with rfl | rfl <;> simp at this)
    clear d1 d2 d3 d6 hxl hx hA hH h128 HN;generalize (Utf8.decode s pos).1=dr at *;generalize (Utf8.decode s pos).2=dn at *;go_wp2_with (go_at_call 98;refine hH1.mono ?_;rintro e w1 ⟨rfl,hb1⟩)
    have hit3:w1.heap[w'.heap.size]?=some (.stringIter s (pos+dn)):=by rw [hb1.block _ hsz2];exact hit2
    go_roundw
    case rel=>exact ⟨pos+dn,hit3,hbw2.trans (hb1.mono (by omega)),d5,Hno.out⟩
    case measure=>simp only [World.iterPos,hit3,hit];omega
  ·have hnx:∀ ty,(Instr.next (.pointer (some ⟨w'.heap.size,0,none⟩)) true ty).run Tryz.prog wr=_:=fun ty=>Lib.run_next_end_at wr w'.heap.size s pos ty hit hp
   clear hA hH
   go_wp2
   go_ret;refine ⟨?_,hbw⟩;rw [Lib.indexAny_none (by rw [←Lib.size_eq,show s.size=pos by omega];exact HN.out)];rfl
theorem Nc (s:ByteArray) (label:Bool) (w:World) (hs:s.size≤4000000) :
  Calls Tryz.prog 102 #[.string s,.string (if label then ⟨#[10,59]⟩ else ⟨#[10]⟩)] w fun e w'=>e=.returned (.int .i64 (Lib.indexAny s.data.toList (if label then [10,59] else [10])))∧Below w.heap.size w w':=by
 cases label with
 | false=>exact (Mb s ⟨#[10]⟩ w rfl WY).mono fun e w' ⟨h1,h2⟩=>⟨h1,h2▸Aeh _ _⟩
 | true=>
  by_cases h8:s.size≤8
  ·exact Ky s w h8
  ·exact KI s ⟨#[10,59]⟩ w (by decide) (by omega) (by omega) (by decide) WX
theorem QG (label:Bool) (b:UInt8):(if label then [10,59] else [10]:List UInt8).contains b=Fb label b:=by
 cases label with
 | false=>
  show List.elem b [10]=(b == 10 || (false && b == 59))
  cases h:(b == 10) <;> simp only [List.elem,h,Bool.false_and,Bool.or_false]
 | true=>
  show List.elem b [10,59]=(b == 10 || (true && b == 59))
  cases h:(b == 10) <;> cases h2:(b == 59) <;> simp only [List.elem,h,h2,Bool.true_and,Bool.or_false,Bool.or_true]
theorem OE (s:ByteArray) (k:Nat) (label:Bool) (w:World) (hs:s.size≤4000000) (hk:k≤s.size) :
  Calls Tryz.prog 85 #[.string s,.int .i64 k,.bool label] w fun e w'=>e=.returned (.int .i64 ((k+Ee label (s.data.toList.drop k):Nat):Int))∧Below w.heap.size w w':=by
 have hI:=Nc (s.extract k s.size) label w (by simp;omega);rw [Cd,GT] at hI;have hf:(fun b=>!(if label then [10,59] else [10]:List UInt8).contains b)=fun b=>!Fb label b:=funext fun b=>by rw [QG]
 rw [hf] at hI;have hle:=Bw (fun b=>!Fb label b) (s.data.toList.drop k);rw [List.length_drop,←Ad] at hI hle;unfold Ee;generalize AF (fun b=>!Fb label b) (s.data.toList.drop k)=m at hI hle ⊢;clear hf;by_cases hm:m < s.size - k
 ·rw [if_pos hm] at hI;have h0:(0:Int)≤(m:Int):=by omega
  have hW:IntKind.i64.wrap ((k:Int)+(m:Int))=((k+m:Nat):Int):=by rw [Aej _ (by omega)];omega
  go_enter Tryz.func85,Tryz.ntmps85;cases label
  ·go_wp2_with (go_at_call 102;refine hI.mono ?_;rintro e w1 ⟨rfl,hb⟩)
   go_ret;exact ⟨by go_num,hb⟩
  ·go_wp2_with (go_at_call 102;refine hI.mono ?_;rintro e w1 ⟨rfl,hb⟩)
   go_ret;exact ⟨by go_num,hb⟩
 ·rw [if_neg hm] at hI;have hE:((k+m:Nat):Int)=(s.size:Int):=by omega
  rw [hE];go_enter Tryz.func85,Tryz.ntmps85;cases label
  ·go_wp2_with (go_at_call 102;refine hI.mono ?_;rintro e w1 ⟨rfl,hb⟩)
   go_ret;exact ⟨rfl,hb⟩
  ·go_wp2_with (go_at_call 102;refine hI.mono ?_;rintro e w1 ⟨rfl,hb⟩)
   go_ret;exact ⟨rfl,hb⟩
theorem Kz (s:ByteArray) (k:Nat) (label:Bool) (w:World) (hs:s.size≤4000000) (hk:k≤s.size) :
  Calls Tryz.prog 70 #[.string s,.int .i64 k,.bool label] w fun e w'=>e=pcA (Bo s.data.toList k label)∧Below w.heap.size w w':=by
 have hP:=EL s k w hk;have hE:=OE s k label w hs hk;have hle:=GR (fun b=>!Fb label b) s k hk;have hR:Bo s.data.toList k label=Ef (Lib.trimS ((s.data.toList.drop k).take (Ee label (s.data.toList.drop k))) [32,9]) k (k+Ee label (s.data.toList.drop k)):=rfl;rw [hR];clear hR;have hle':k+Ee label (s.data.toList.drop k)≤s.size:=hle;clear hle;generalize Ee label (s.data.toList.drop k)=m at hE hle' ⊢;have hT:=fun w=>Aat (s.extract k (k+m)) ⟨#[32,9]⟩ w (by simp;omega) (by decide) J6
 rw [Ci,show k+m - k=m by omega] at hT;rw [show (⟨#[32,9]⟩:ByteArray).data.toList=[32,9] from rfl] at hT;generalize Lib.trimS ((s.data.toList.drop k).take m) [32,9]=n at hT ⊢;have hns:=CR n;obtain ⟨E,hEE⟩:∃ E:Nat,k+m=E:=⟨_,rfl⟩;rw [hEE] at hE hT hle' ⊢;have hE0:(k:Int)≤(E:Int):=by omega
 have hE1:(E:Int)≤(s.size:Int):=by omega
 have hE2:k≤E:=by omega
 obtain ⟨R,hRR⟩:∃ R,Ef n k E=R:=⟨_,rfl⟩;rw [hRR];unfold Ef at hRR;have HR:=Ad5 hRR;clear hRR hEE;have hb0:((txt n).toList == [])=n.isEmpty:=by rw [ByteArray.toList_eq,DY];cases n <;> rfl
 have hb1:(txt n).toList.isEmpty=n.isEmpty:=by rw [ByteArray.toList_eq,DY]
 obtain ⟨r,hr⟩:∃ r,txt n=r:=⟨_,rfl⟩;rw [hr] at hT hns hb0 hb1;have Hr:=Ad5 hr;clear hr;go_enter Tryz.func70,Tryz.ntmps70;by_cases hn:n=[]
 ·have c0:(r.toList == [])=true:=by rw [hb0,hn];rfl
  have c1:r.toList.isEmpty=true:=by rw [hb1,hn];rfl
  have c2:r.toList=[]:=List.isEmpty_iff.1 c1;have Hn:=Ad5 hn;clear hb0 hb1 hn;go_wp2_with (first
   | (go_at_call 38;refine hP.mono ?_;rintro e w' ⟨rfl,rfl⟩)
   | (go_at_call 85;refine hE.mono ?_;rintro e w1 ⟨rfl,hb⟩)
   | (go_at_call 86;refine (hT _).mono ?_;rintro e w2 ⟨rfl,hb2⟩))
  go_ret3
  refine ⟨?_,hb.trans (hb2.mono hb.size)⟩;rw [←HR.out,if_pos Hn.out];rfl
 ·have c1:r.toList.isEmpty=false:=by rw [hb1];cases n <;> simp_all
  have c0:(r.toList == [])=false:=by rw [hb0,←hb1];exact c1
  have c2:¬ r.toList=[]:=fun h=>by rw [h] at c1;cases c1
  have Hn:=Ad5 hn;clear hb0 hb1 hn;by_cases h40:40 < n.length
  ·have h40':(40:Int) < (r.size:Int):=by omega
   go_wp2_with (first
    | (go_at_call 38;refine hP.mono ?_;rintro e w' ⟨rfl,rfl⟩)
    | (go_at_call 85;refine hE.mono ?_;rintro e w1 ⟨rfl,hb⟩)
    | (go_at_call 86;refine (hT _).mono ?_;rintro e w2 ⟨rfl,hb2⟩))
   go_ret3
   refine ⟨?_,hb.trans (hb2.mono hb.size)⟩;rw [←HR.out,if_neg Hn.out,if_pos h40];rfl
  ·have h40':¬ (40:Int) < (r.size:Int):=by omega
   go_wp2_with (first
    | (go_at_call 38;refine hP.mono ?_;rintro e w' ⟨rfl,rfl⟩)
    | (go_at_call 85;refine hE.mono ?_;rintro e w1 ⟨rfl,hb⟩)
    | (go_at_call 86;refine (hT _).mono ?_;rintro e w2 ⟨rfl,hb2⟩))
   go_ret3
   refine ⟨?_,hb.trans (hb2.mono hb.size)⟩;rw [←HR.out,if_neg Hn.out,if_neg h40];exact CT Hr.out.symm rfl rfl
end
section
open Go Go.RowKit
theorem CmSt.arg {w:World} {p:Nat} {s:ByteArray} {ext:Bool} {st:CS} {ta tb ts:Value} {pa:Option Addr} {pc:Nat} {ma:Option Addr} {mc:Nat} {W:World} (h:CmSt w p s ext st ta tb ts pa pc ma mc W) (t:List UInt8) (k:Nat):CmSt w p s ext (st.arg t k) ta tb ts pa pc ma mc ((W.setCell ⟨p,14,none⟩ (.string (txt t))).setCell ⟨p,2,none⟩ (.int .i64 (k:Int))):=
 (h.put 14 (.string (txt t)) { st with c:={ st.c with arg:=t } } rfl rfl rfl rfl fun _ _=>rfl).go k
theorem CmSt.file {w:World} {p:Nat} {s:ByteArray} {ext:Bool} {st:CS} {ta tb ts:Value} {pa:Option Addr} {pc:Nat} {ma:Option Addr} {mc:Nat} {W:World} (h:CmSt w p s ext st ta tb ts pa pc ma mc W) (t:List UInt8) (k:Nat):CmSt w p s ext (st.file t k) ta tb ts pa pc ma mc ((W.setCell ⟨p,21,none⟩ (.string (txt t))).setCell ⟨p,2,none⟩ (.int .i64 (k:Int))):=
 (h.put 21 (.string (txt t)) { st with c:={ st.c with sub:={ st.c.sub with file:=t } } } rfl rfl rfl rfl fun _ _=>rfl).go k
theorem K0 (w:World) (p:Nat) (s:ByteArray) (ext:Bool) (st:CS) (W:World) (h:Do w p s ext st W) (hs:s.size≤4000000) (hk:st.k≤s.size) :
  Calls Tryz.prog 44 #[.pointer (some ⟨p,0,none⟩)] W fun e W'=>e=.returned (.int .i64 ((B0 s.data.toList st).1:Int))∧Do w p s ext (B0 s.data.toList st).2 W':=by
 obtain ⟨ta,tb,ts,pa,pc,ma,mc,h⟩:=h;have hN:=fun w1=>Kz s st.k true w1 hs hk
 unfold B0;obtain ⟨⟨t,q,e0⟩,hR⟩:∃ R,Bo s.data.toList st.k true=R:=⟨_,rfl⟩;rw [hR] at hN ⊢;have hN:∀ w1,Calls Tryz.prog 70 #[.string s,.int .i64 (st.k:Int),.bool true] w1 fun e w'=>e=.returned (.tuple #[.string (txt t),.int .i64 (q:Int),.int .i64 (e0:Int)])∧Below w1.heap.size w1 w':=hN
 have HH:=Ad5 h;have k0:W.cell? ⟨p,0,none⟩=some (.string s):=(h.q.cell 0).trans rfl;have k2:W.cell? ⟨p,2,none⟩=some (.int .i64 (st.k:Int)):=(h.q.cell 2).trans rfl;clear h hR;simp only;go_enter Tryz.func44,Tryz.ntmps44;go_upto_region 1 with fail
 go_region_held3 (fun w'=>w'.cell? ⟨p,0,none⟩=some (.string s)∧w'.cell? ⟨p,2,none⟩=some (.int .i64 (st.k:Int))) (first | exact ⟨k0,k2⟩ | (refine ⟨?_,?_⟩ <;> assumption)) (first | (go_at_call 70;refine (hN _).mono ?_;rintro e w1 ⟨rfl,b1⟩;have H1:=Ad5 (by first | exact HH.out.step b1 | exact HH.out.drew.step b1:CmSt w p s ext st ta tb ts pa pc ma mc w1);have m0:(w1).cell? ⟨p,0,none⟩=some (.string s):=(H1.out.q.cell 0).trans rfl;have m2:(w1).cell? ⟨p,2,none⟩=some (.int .i64 (st.k:Int)):=(H1.out.q.cell 2).trans rfl;clear b1))
 all_goals
  clear k0 k2 m0;have k14:w1.cell? ⟨p,14,none⟩=some (.string (txt st.c.arg)):=(H1.out.q.cell 14).trans rfl;have f2:=H1.out.q.frozen 2;have f14:=H1.out.q.frozen 14;have H2:=Ad5 (H1.out.arg t q);go_wp2_with fail
  go_ret;exact ⟨rfl,H2.out.R⟩
theorem K6 (w:World) (p:Nat) (s:ByteArray) (ext:Bool) (st:CS) (W:World) (h:Do w p s ext st W) (hs:s.size≤4000000) (hk:st.k≤s.size) :
  Calls Tryz.prog 45 #[.pointer (some ⟨p,0,none⟩)] W fun e W'=>e=.returned (.int .i64 ((Dk s.data.toList st).1:Int))∧Do w p s ext (Dk s.data.toList st).2 W':=by
 have hL:=K0 w p s ext st W h hs hk;have hB:=Ig s st.k hs hk;obtain ⟨ta,tb,ts,pa,pc,ma,mc,h⟩:=h;have k2:W.cell? ⟨p,2,none⟩=some (.int .i64 (st.k:Int)):=(h.q.cell 2).trans rfl;unfold Dk;obtain ⟨⟨e0,st1⟩,hR⟩:∃ R,B0 s.data.toList st=R:=⟨_,rfl⟩;rw [hR] at hL ⊢;obtain ⟨K,hK⟩:∃ K,Ak s.data.toList st.k=K:=⟨_,rfl⟩;rw [hK] at hB ⊢;clear h hR hK;simp only at hL ⊢;by_cases he:e0=14
 ·rw [if_pos he];have ce:((e0:Int) == 14)=true:=by simp [he]
  clear he;go_enter Tryz.func45,Tryz.ntmps45;go_upto_region 4 with (go_at_call 44;refine hL.mono ?_;clear hL;rintro e w1 ⟨rfl,h1⟩)
  obtain ⟨ta,tb,ts,pa,pc,ma,mc,h1⟩:=h1;have H1:=Ad5 h1;have j0:w1.cell? ⟨p,0,none⟩=some (.string s):=(h1.q.cell 0).trans rfl;clear k2 h1;go_wp2_with (go_at_call 66;refine (hB _).mono ?_;rintro e w2 ⟨rfl,b2⟩;have H2:=Ad5 (H1.out.step b2);have j2:w2.cell? ⟨p,2,none⟩=some (.int .i64 (st1.k:Int)):=(H2.out.q.cell 2).trans rfl;have f2:=H2.out.q.frozen 2;have H3:=Ad5 (H2.out.go K);clear b2)
  go_ret;exact ⟨rfl,H3.out.R⟩
 ·rw [if_neg he];have ce:((e0:Int) == 14)=false:=by simp;omega
  clear he;go_enter Tryz.func45,Tryz.ntmps45;go_wp2_with (go_at_call 44;refine hL.mono ?_;clear hL;rintro e w1 ⟨rfl,h1⟩)
  go_ret;exact ⟨rfl,h1⟩
theorem K7 (w:World) (p:Nat) (s:ByteArray) (ext:Bool) (st:CS) (W:World) (h:Do w p s ext st W) (hs:s.size≤4000000) (hk:st.k≤s.size) :
  Calls Tryz.prog 47 #[.pointer (some ⟨p,0,none⟩),.pointer (some ⟨p,14,none⟩)] W fun e W'=>e=.returned (.int .i64 ((BH s.data.toList st).1:Int))∧Do w p s ext (BH s.data.toList st).2 W':=by
 obtain ⟨ta,tb,ts,pa,pc,ma,mc,h⟩:=h;have hN:=fun w1=>Kz s st.k false w1 hs hk
 have hB:=Ig s st.k hs hk;unfold BH;obtain ⟨⟨t,q,e0⟩,hR⟩:∃ R,Bo s.data.toList st.k false=R:=⟨_,rfl⟩;rw [hR] at hN ⊢;obtain ⟨K,hK⟩:∃ K,Ak s.data.toList st.k=K:=⟨_,rfl⟩;rw [hK] at hB ⊢;have hN:∀ w1,Calls Tryz.prog 70 #[.string s,.int .i64 (st.k:Int),.bool false] w1 fun e w'=>e=.returned (.tuple #[.string (txt t),.int .i64 (q:Int),.int .i64 (e0:Int)])∧Below w1.heap.size w1 w':=hN
 have HH:=Ad5 h;have k0:W.cell? ⟨p,0,none⟩=some (.string s):=(h.q.cell 0).trans rfl;have k2:W.cell? ⟨p,2,none⟩=some (.int .i64 (st.k:Int)):=(h.q.cell 2).trans rfl;clear h hR hK;simp only;by_cases he:K=st.k
 ·rw [if_pos he];have ce:((K:Int) == (st.k:Int))=true:=by simp [he]
  clear he;go_enter Tryz.func47,Tryz.ntmps47;go_upto_region 1 with fail
  go_region_held3 (fun w'=>w'.cell? ⟨p,0,none⟩=some (.string s)∧w'.cell? ⟨p,2,none⟩=some (.int .i64 (st.k:Int))) (first | exact ⟨k0,k2⟩ | (refine ⟨?_,?_⟩ <;> assumption)) (first | (go_at_call 66;refine (hB _).mono ?_;rintro e w1 ⟨rfl,b1⟩;have H1:=Ad5 (by first | exact HH.out.step b1 | exact HH.out.drew.step b1:CmSt w p s ext st ta tb ts pa pc ma mc w1);have m0:(w1).cell? ⟨p,0,none⟩=some (.string s):=(H1.out.q.cell 0).trans rfl;have m2:(w1).cell? ⟨p,2,none⟩=some (.int .i64 (st.k:Int)):=(H1.out.q.cell 2).trans rfl;clear b1))
  all_goals
   go_wp2_with fail
   go_ret;exact ⟨rfl,H1.out.R⟩
 ·rw [if_neg he];have ce:((K:Int) == (st.k:Int))=false:=by simp;omega
  clear he;go_enter Tryz.func47,Tryz.ntmps47;go_upto_region 1 with fail
  go_region_held3 (fun w'=>w'.cell? ⟨p,0,none⟩=some (.string s)∧w'.cell? ⟨p,2,none⟩=some (.int .i64 (st.k:Int))) (first | exact ⟨k0,k2⟩ | (refine ⟨?_,?_⟩ <;> assumption)) (first | (go_at_call 66;refine (hB _).mono ?_;rintro e w1 ⟨rfl,b1⟩;have H1:=Ad5 (by first | exact HH.out.step b1 | exact HH.out.drew.step b1:CmSt w p s ext st ta tb ts pa pc ma mc w1);have m0:(w1).cell? ⟨p,0,none⟩=some (.string s):=(H1.out.q.cell 0).trans rfl;have m2:(w1).cell? ⟨p,2,none⟩=some (.int .i64 (st.k:Int)):=(H1.out.q.cell 2).trans rfl;clear b1))
  all_goals
   go_upto_region 3 with fail;clear k0 k2;have k0:=m0;have k2:=m2;clear m0 m2
   go_region_held3 (fun w'=>w'.cell? ⟨p,0,none⟩=some (.string s)∧w'.cell? ⟨p,2,none⟩=some (.int .i64 (st.k:Int))) (first | exact ⟨k0,k2⟩ | (refine ⟨?_,?_⟩ <;> assumption)) (first | (go_at_call 70;refine (hN _).mono ?_;rintro e w2 ⟨rfl,b1⟩;have H2:=Ad5 (by first | exact H1.out.step b1 | exact H1.out.drew.step b1:CmSt w p s ext st ta tb ts pa pc ma mc w2);have m0:(w2).cell? ⟨p,0,none⟩=some (.string s):=(H2.out.q.cell 0).trans rfl;have m2:(w2).cell? ⟨p,2,none⟩=some (.int .i64 (st.k:Int)):=(H2.out.q.cell 2).trans rfl;clear b1))
   all_goals
    clear k0 k2 m0;have k14:w2.cell? ⟨p,14,none⟩=some (.string (txt st.c.arg)):=(H2.out.q.cell 14).trans rfl;have f2:=H2.out.q.frozen 2;have f14:=H2.out.q.frozen 14;have H3:=Ad5 (H2.out.arg t q);go_wp2_with fail
    go_ret;exact ⟨rfl,H3.out.R⟩
theorem QH (w:World) (p:Nat) (s:ByteArray) (ext:Bool) (st:CS) (W:World) (h:Do w p s ext st W) (hs:s.size≤4000000) (hk:st.k≤s.size) :
  Calls Tryz.prog 47 #[.pointer (some ⟨p,0,none⟩),.pointer (some ⟨p,21,none⟩)] W fun e W'=>e=.returned (.int .i64 ((B9 s.data.toList st).1:Int))∧Do w p s ext (B9 s.data.toList st).2 W':=by
 obtain ⟨ta,tb,ts,pa,pc,ma,mc,h⟩:=h;have hN:=fun w1=>Kz s st.k false w1 hs hk
 have hB:=Ig s st.k hs hk;unfold B9;obtain ⟨⟨t,q,e0⟩,hR⟩:∃ R,Bo s.data.toList st.k false=R:=⟨_,rfl⟩;rw [hR] at hN ⊢;obtain ⟨K,hK⟩:∃ K,Ak s.data.toList st.k=K:=⟨_,rfl⟩;rw [hK] at hB ⊢;have hN:∀ w1,Calls Tryz.prog 70 #[.string s,.int .i64 (st.k:Int),.bool false] w1 fun e w'=>e=.returned (.tuple #[.string (txt t),.int .i64 (q:Int),.int .i64 (e0:Int)])∧Below w1.heap.size w1 w':=hN
 have HH:=Ad5 h;have k0:W.cell? ⟨p,0,none⟩=some (.string s):=(h.q.cell 0).trans rfl;have k2:W.cell? ⟨p,2,none⟩=some (.int .i64 (st.k:Int)):=(h.q.cell 2).trans rfl;clear h hR hK;simp only;by_cases he:K=st.k
 ·rw [if_pos he];have ce:((K:Int) == (st.k:Int))=true:=by simp [he]
  clear he;go_enter Tryz.func47,Tryz.ntmps47;go_upto_region 1 with fail
  go_region_held3 (fun w'=>w'.cell? ⟨p,0,none⟩=some (.string s)∧w'.cell? ⟨p,2,none⟩=some (.int .i64 (st.k:Int))) (first | exact ⟨k0,k2⟩ | (refine ⟨?_,?_⟩ <;> assumption)) (first | (go_at_call 66;refine (hB _).mono ?_;rintro e w1 ⟨rfl,b1⟩;have H1:=Ad5 (by first | exact HH.out.step b1 | exact HH.out.drew.step b1:CmSt w p s ext st ta tb ts pa pc ma mc w1);have m0:(w1).cell? ⟨p,0,none⟩=some (.string s):=(H1.out.q.cell 0).trans rfl;have m2:(w1).cell? ⟨p,2,none⟩=some (.int .i64 (st.k:Int)):=(H1.out.q.cell 2).trans rfl;clear b1))
  all_goals
   go_wp2_with fail
   go_ret;exact ⟨rfl,H1.out.R⟩
 ·rw [if_neg he];have ce:((K:Int) == (st.k:Int))=false:=by simp;omega
  clear he;go_enter Tryz.func47,Tryz.ntmps47;go_upto_region 1 with fail
  go_region_held3 (fun w'=>w'.cell? ⟨p,0,none⟩=some (.string s)∧w'.cell? ⟨p,2,none⟩=some (.int .i64 (st.k:Int))) (first | exact ⟨k0,k2⟩ | (refine ⟨?_,?_⟩ <;> assumption)) (first | (go_at_call 66;refine (hB _).mono ?_;rintro e w1 ⟨rfl,b1⟩;have H1:=Ad5 (by first | exact HH.out.step b1 | exact HH.out.drew.step b1:CmSt w p s ext st ta tb ts pa pc ma mc w1);have m0:(w1).cell? ⟨p,0,none⟩=some (.string s):=(H1.out.q.cell 0).trans rfl;have m2:(w1).cell? ⟨p,2,none⟩=some (.int .i64 (st.k:Int)):=(H1.out.q.cell 2).trans rfl;clear b1))
  all_goals
   go_upto_region 3 with fail;clear k0 k2;have k0:=m0;have k2:=m2;clear m0 m2
   go_region_held3 (fun w'=>w'.cell? ⟨p,0,none⟩=some (.string s)∧w'.cell? ⟨p,2,none⟩=some (.int .i64 (st.k:Int))) (first | exact ⟨k0,k2⟩ | (refine ⟨?_,?_⟩ <;> assumption)) (first | (go_at_call 70;refine (hN _).mono ?_;rintro e w2 ⟨rfl,b1⟩;have H2:=Ad5 (by first | exact H1.out.step b1 | exact H1.out.drew.step b1:CmSt w p s ext st ta tb ts pa pc ma mc w2);have m0:(w2).cell? ⟨p,0,none⟩=some (.string s):=(H2.out.q.cell 0).trans rfl;have m2:(w2).cell? ⟨p,2,none⟩=some (.int .i64 (st.k:Int)):=(H2.out.q.cell 2).trans rfl;clear b1))
   all_goals
    clear k0 k2 m0;have k14:w2.cell? ⟨p,21,none⟩=some (.string (txt st.c.sub.file)):=(H2.out.q.cell 21).trans rfl;have f2:=H2.out.q.frozen 2;have f14:=H2.out.q.frozen 21;have H3:=Ad5 (H2.out.file t q);go_wp2_with fail
    go_ret;exact ⟨rfl,H3.out.R⟩
theorem WZ {L:List UInt8} {k:Nat} (h:(Bx L k).2.2=0):k < (Bx L k).2.1:=by
 unfold Bx at h ⊢;simp only at h ⊢;split at h
 ·cases h
 ·split at h
  ·cases h
  ·rename_i h1 h2;rw [if_neg h1,if_neg h2];simp only;omega
theorem Uk {L:List UInt8} {n:Nat} {st:CS} (h:L.drop st.k=[]):AA L (n+1) st=(0,st):=by
 rw [AA,h]
theorem I6 {L t:List UInt8} {n:Nat} {st:CS} {b:UInt8} {r:CO} (h:L.drop st.k=b :: t) (hf:AK L b st=some r):AA L (n+1) st=if r.1=0 then AA L n r.2 else r:=by
 rw [AA,h];simp only [hf]
theorem Xa {L t:List UInt8} {n:Nat} {st:CS} {b:UInt8} (h:L.drop st.k=b :: t) (hf:AK L b st=none):AA L (n+1) st=if b=119 then B9 L (st.go (st.k+1)) else Cf L st:=by
 rw [AA,h];simp only [hf]
theorem QI (w:World) (p:Nat) (s:ByteArray) (ext:Bool) (st:CS) (W:World) (h:Do w p s ext st W) (hs:s.size≤4000000) (hk:st.k≤s.size) (hl:st.ms.length≤100000) :
  Calls Tryz.prog 75 #[.pointer (some ⟨p,0,none⟩)] W fun e W'=>e=.returned (.int .i64 ((AA s.data.toList (s.size+1) st).1:Int))∧Do w p s ext (AA s.data.toList (s.size+1) st).2 W':=by
 obtain ⟨R,hR⟩:∃ R,AA s.data.toList (s.size+1) st=R:=⟨_,rfl⟩;rw [hR];have HR:=Ad5 hR;have H0:=Ad5 h;clear hR h;go_enter Tryz.func75,Tryz.ntmps75;go_wp2_with fail
 go_loopg [] (s.size+1) (fun gk wr=>∃ st':CS,Do w p s ext st' wr∧AA s.data.toList gk st'=R∧s.size - st'.k < gk∧st'.k≤s.size∧st'.ms.length≤100000)
 case atStart=>exact ⟨st,H0.out,HR.out,by omega,hk,hl⟩
 case round=>
  obtain ⟨st',hc,hf,hgk,hk',hl'⟩:=hrel;clear HR H0;obtain ⟨m,rfl⟩:∃ m,gk=m+1:=⟨gk - 1,by omega⟩;have HC:=Ad5 hc;obtain ⟨ta,tb,ts,pa,pc,ma,mc,h1⟩:=hc;have HH:=Ad5 h1;have k0:wr.cell? ⟨p,0,none⟩=some (.string s):=(h1.q.cell 0).trans rfl;have k2:wr.cell? ⟨p,2,none⟩=some (.int .i64 (st'.k:Int)):=(h1.q.cell 2).trans rfl;clear h1;by_cases hz:st'.k=s.size
  ·rw [Uk (Bn s st'.k (by omega))] at hf;have hE:¬ (st'.k:Int) < (s.size:Int):=by omega
   have HF:=Ad5 hf;clear hz hf;go_upto_region 2 with fail
   go_quiet (fail)
   generalize nq=n1;go_wp2_with fail
   go_ret;rw [←HF.out];exact ⟨rfl,(HH.out.drewN n1).R⟩
  ·have hlt:st'.k < s.size:=by omega
   have hE:(st'.k:Int) < (s.size:Int):=by omega
   have hy0:(0:Int)≤(st'.k:Int):=by omega
   have hd:=Bi s st'.k hlt;obtain ⟨b,hb⟩:∃ b,s[st'.k]=b:=⟨_,rfl⟩;have hsx:s[st'.k]'hlt=b:=hb;rw [hb] at hd;have Hd:=Ad5 hd;clear hz hd hb;go_upto_region 2 with fail
   go_quiet (fail)
   generalize nq=n1;go_upto_region 4 with fail
   go_quiet (fail)
   have H4:=Ad5 (HH.out.drewN (n1+nq));generalize nq=n2 at H4 ⊢;by_cases h103:b=103
   ·have q103:((b.toNat:Int) == 103)=true:=by rw [h103];rfl
    have hX:=WT w p s ext st' _ H4.out.R hs hk';rw [I6 Hd.out (show AK s.data.toList b st'=some (Dl st') by unfold AK;rw [if_pos h103])] at hf;have hg:(Dl st').1=0→st'.k < (Dl st').2.k∧(Dl st').2.k≤s.size∧(Dl st').2.ms=st'.ms:=fun h=>by
     unfold Dl at h ⊢;split at h
     ·cases h
     ·rename_i h1;rw [if_neg h1];exact ⟨Nat.lt_succ_self _,by show st'.k+1≤s.size;omega,rfl⟩
    have hdc:A4.contains b=false:=by rw [h103];rfl
    clear h103;obtain ⟨⟨e1,s1⟩,hr⟩:∃ r,Dl st'=r:=⟨_,rfl⟩;rw [hr] at hX hf hg;simp only at hX hf hg;by_cases he:e1=0
    ·subst he;rw [if_pos rfl] at hf;obtain ⟨g1,g2,g3⟩:=hg rfl;have HF:=Ad5 hf;have HG:=Ad5 (And.intro g1 (And.intro g2 g3));clear hf hg hr g1 g2 g3;go_wp2_with (first | (go_at_call 92;refine (AT _ _).mono ?_;rintro e w5 ⟨rfl,hw5⟩;have hw5':=hw5.symm;subst hw5';rw [hdc]) | (go_at_call 91;refine hX.mono ?_;clear hX;rintro e w6 ⟨rfl,h6⟩))
     go_roundg m
     case rel=>exact ⟨s1,h6,HF.out,by have:=HG.out;omega,HG.out.2.1,by rw [HG.out.2.2];exact hl'⟩
     case measure=>omega
    ·rw [if_neg he] at hf;have ce:((e1:Int) != 0)=true:=by simpa using he
     have HF:=Ad5 hf;clear hf hg hr he;go_wp2_with (first | (go_at_call 92;refine (AT _ _).mono ?_;rintro e w5 ⟨rfl,hw5⟩;have hw5':=hw5.symm;subst hw5';rw [hdc]) | (go_at_call 91;refine hX.mono ?_;clear hX;rintro e w6 ⟨rfl,h6⟩))
     go_ret;rw [←HF.out];exact ⟨rfl,h6⟩
   ·have q103:((b.toNat:Int) == 103)=false:=An (c:=103) h103;by_cases h112:b=112
    ·have q112:((b.toNat:Int) == 112)=true:=by rw [h112];rfl
     have hX:=WU w p s ext st' _ H4.out.R hs hk';rw [I6 Hd.out (show AK s.data.toList b st'=some (Dm st') by unfold AK;rw [if_neg h103,if_pos h112])] at hf;have hg:(Dm st').1=0→st'.k < (Dm st').2.k∧(Dm st').2.k≤s.size∧(Dm st').2.ms=st'.ms:=fun h=>by
      unfold Dm at h ⊢;split at h
      ·cases h
      ·rename_i h1;rw [if_neg h1];exact ⟨Nat.lt_succ_self _,by show st'.k+1≤s.size;omega,rfl⟩
     have hdc:A4.contains b=false:=by rw [h112];rfl
     clear h103 h112;obtain ⟨⟨e1,s1⟩,hr⟩:∃ r,Dm st'=r:=⟨_,rfl⟩;rw [hr] at hX hf hg;simp only at hX hf hg;by_cases he:e1=0
     ·subst he;rw [if_pos rfl] at hf;obtain ⟨g1,g2,g3⟩:=hg rfl;have HF:=Ad5 hf;have HG:=Ad5 (And.intro g1 (And.intro g2 g3));clear hf hg hr g1 g2 g3;go_wp2_with (first | (go_at_call 92;refine (AT _ _).mono ?_;rintro e w5 ⟨rfl,hw5⟩;have hw5':=hw5.symm;subst hw5';rw [hdc]) | (go_at_call 91;refine hX.mono ?_;clear hX;rintro e w6 ⟨rfl,h6⟩))
      go_roundg m
      case rel=>exact ⟨s1,h6,HF.out,by have:=HG.out;omega,HG.out.2.1,by rw [HG.out.2.2];exact hl'⟩
      case measure=>omega
     ·rw [if_neg he] at hf;have ce:((e1:Int) != 0)=true:=by simpa using he
      have HF:=Ad5 hf;clear hf hg hr he;go_wp2_with (first | (go_at_call 92;refine (AT _ _).mono ?_;rintro e w5 ⟨rfl,hw5⟩;have hw5':=hw5.symm;subst hw5';rw [hdc]) | (go_at_call 91;refine hX.mono ?_;clear hX;rintro e w6 ⟨rfl,h6⟩))
      go_ret;rw [←HF.out];exact ⟨rfl,h6⟩
    ·have q112:((b.toNat:Int) == 112)=false:=An (c:=112) h112;by_cases hdg:A4.contains b=true
     ·have hdc:=hdg;have hX:=WV w p s ext st' _ H4.out.R hs hk';rw [I6 Hd.out (show AK s.data.toList b st'=some (Dc s.data.toList st') by unfold AK;rw [if_neg h103,if_neg h112,if_pos hdg])] at hf;have hg:(Dc s.data.toList st').1=0→st'.k < (Dc s.data.toList st').2.k∧(Dc s.data.toList st').2.k≤s.size∧(Dc s.data.toList st').2.ms=st'.ms:=fun h=>by
       have hle:=EQ s.data.toList st'.k (by rw [←Ad];exact hk');have hgt:=WZ (L:=s.data.toList) (k:=st'.k);unfold Dc CB at h ⊢;split at h
       ·rename_i h1;rw [if_pos h1];split at h
        ·rename_i h2;rw [if_pos h2];split at h
         ·cases h
         ·rename_i h3;rw [if_neg h3];exact ⟨hgt h1,by rw [Ad];exact hle.2,rfl⟩
        ·cases h
       ·rename_i h1;exact absurd h h1
      clear h103 h112 hdg;obtain ⟨⟨e1,s1⟩,hr⟩:∃ r,Dc s.data.toList st'=r:=⟨_,rfl⟩;rw [hr] at hX hf hg;simp only at hX hf hg;by_cases he:e1=0
      ·subst he;rw [if_pos rfl] at hf;obtain ⟨g1,g2,g3⟩:=hg rfl;have HF:=Ad5 hf;have HG:=Ad5 (And.intro g1 (And.intro g2 g3));clear hf hg hr g1 g2 g3;go_wp2_with (first | (go_at_call 92;refine (AT _ _).mono ?_;rintro e w5 ⟨rfl,hw5⟩;have hw5':=hw5.symm;subst hw5';rw [hdc]) | (go_at_call 93;refine hX.mono ?_;clear hX;rintro e w6 ⟨rfl,h6⟩))
       go_roundg m
       case rel=>exact ⟨s1,h6,HF.out,by have:=HG.out;omega,HG.out.2.1,by rw [HG.out.2.2];exact hl'⟩
       case measure=>omega
      ·rw [if_neg he] at hf;have ce:((e1:Int) != 0)=true:=by simpa using he
       have HF:=Ad5 hf;clear hf hg hr he;go_wp2_with (first | (go_at_call 92;refine (AT _ _).mono ?_;rintro e w5 ⟨rfl,hw5⟩;have hw5':=hw5.symm;subst hw5';rw [hdc]) | (go_at_call 93;refine hX.mono ?_;clear hX;rintro e w6 ⟨rfl,h6⟩))
       go_ret;rw [←HF.out];exact ⟨rfl,h6⟩
     ·have hdc:A4.contains b=false:=by simpa using hdg
      rw [Xa Hd.out (show AK s.data.toList b st'=none by unfold AK;rw [if_neg h103,if_neg h112,if_neg hdg])] at hf;by_cases h119:b=119
      ·have q119:((b.toNat:Int) == 119)=true:=by rw [h119];rfl
       rw [if_pos h119] at hf;have Wk:IntKind.i64.wrap ((st'.k:Int)+1)=((st'.k+1:Nat):Int):=by rw [Aej _ (by omega)];omega
       have f2:=HH.out.q.frozen 2;have hX:=QH w p s ext (st'.go (st'.k+1)) _ (H4.out.go (st'.k+1)).R hs (by show st'.k+1≤s.size;omega);have HF:=Ad5 hf;clear h103 h112 hdg h119 hf;go_wp2_with (first | (go_at_call 92;refine (AT _ _).mono ?_;rintro e w5 ⟨rfl,hw5⟩;have hw5':=hw5.symm;subst hw5';rw [hdc]) | (go_at_call 47;refine hX.mono ?_;clear hX;rintro e w6 ⟨rfl,h6⟩))
       go_ret;rw [←HF.out];exact ⟨rfl,h6⟩
      ·have q119:((b.toNat:Int) == 119)=false:=An (c:=119) h119;rw [if_neg h119] at hf;have hX:=Kx w p s ext st' _ H4.out.R hs hk' hl';have HF:=Ad5 hf;clear h103 h112 hdg h119 hf;go_wp2_with (first | (go_at_call 92;refine (AT _ _).mono ?_;rintro e w5 ⟨rfl,hw5⟩;have hw5':=hw5.symm;subst hw5';rw [hdc]) | (go_at_call 50;refine hX.mono ?_;clear hX;rintro e w6 ⟨rfl,h6⟩))
       go_ret;rw [←HF.out];exact ⟨rfl,h6⟩
structure MkS (B b:Nat) (ps:List Cp) (t:List UInt8) (pv av bv:Value) (W:World):Prop where
 q:Blk W b #[pv,av,bv] 188
 bb:B≤b
 a:av=.pointer none∨av=.pointer (some ⟨b,1,none⟩)
 pr:W.ownsRow B 74 2 pv ps.length (cpC ps)
 br:W.ownsRowF B 5 1 bv t.length (Lib.byteCells t)
theorem Gq {w w':World} {base:Nat} {e:TypeId} {size n:Nat} {v:Value} {xs:List Value} (h:w.ownsRowF base e size v n xs) (hb:∀ g,v.ownBlock=some g→w'.heap[g]?=w.heap[g]?):w'.ownsRowF base e size v n xs:=by
 refine ⟨h.1,?_⟩;rcases h.2 with hn | ⟨g,cap,cur,fz,rfl,hb0,hg,rest⟩
 ·exact .inl hn
 ·exact .inr ⟨g,cap,cur,fz,rfl,hb0,(hb g rfl).trans hg,rest⟩
theorem Nf {w:World} {B:Nat} {e T:TypeId} {v:Value} {size n:Nat} {xs:List Value} {b:Nat} {cs:Array Value} {fr:Nat × Nat} (hown:w.ownsRow B e size v n xs) (hb:w.heap[b]?=some (.cells cs T fr)) (hTe:T≠e):v.ownBlock≠some b:=by
 rcases hown.2 with ⟨rfl,_⟩ | ⟨g,cap,cur,rfl,_,hg,_⟩
 ·simp [Value.ownBlock]
 ·intro h;simp only [Value.ownBlock,Option.some.injEq] at h;subst h;rw [hg] at hb;simp only [Option.some.injEq,Obj.cells.injEq] at hb;exact hTe hb.2.1.symm
theorem MkS.np {B b:Nat} {ps:List Cp} {t:List UInt8} {pv av bv:Value} {W:World} (h:MkS B b ps t pv av bv W):pv.ownBlock≠some b:=Nf h.pr h.q (by decide)
theorem MkS.nb {B b:Nat} {ps:List Cp} {t:List UInt8} {pv av bv:Value} {W:World} (h:MkS B b ps t pv av bv W):bv.ownBlock≠some b:=Lib.ownBlock_neF h.br h.q (by decide)
theorem MkS.npb {B b:Nat} {ps:List Cp} {t:List UInt8} {pv av bv:Value} {W:World} (h:MkS B b ps t pv av bv W):∀ g,pv.ownBlock=some g→bv.ownBlock≠some g:=fun g hg=>by
 rcases h.pr.2 with ⟨h1,_⟩ | ⟨g',cap,cur,h1,_,hg',_⟩
 ·rw [h1] at hg;simp [Value.ownBlock] at hg
 ·rw [h1] at hg;simp only [Value.ownBlock,Option.some.injEq] at hg;subst hg;exact Lib.ownBlock_neF h.br hg' (by decide)
theorem MkS.own {B b:Nat} {ps:List Cp} {t:List UInt8} {pv av bv:Value} {W W':World} (h:MkS B b ps t pv av bv W) {av':Value} (ha:av'=.pointer none∨av'=.pointer (some ⟨b,1,none⟩)) (hq:Blk W' b #[pv,av',bv] 188) (hk:∀ k,k≠b→W'.heap[k]?=W.heap[k]?):MkS B b ps t pv av' bv W':=
 ⟨hq,h.bb,ha,Aa h.pr fun g hg=>hk g fun e=>h.np (by rw [hg,e]),Gq h.br fun g hg=>hk g fun e=>h.nb (by rw [hg,e])⟩
theorem KW:(Tryz.prog.info? 167).map (·.size)=some 2:=by kernel_rfl
theorem QJ:liesAt Tryz.prog Tryz.prog.depth 188 (3 / Tryz.prog.cellsOf 188) 1 167 1=true:=by kernel_rfl
theorem QK {w:World} {b:Nat} {T:TypeId} {v0 v1 v2:Value} (h:Blk w b #[v0,v1,v2] T):w.shape? b=some (T,3):=by
 unfold Blk at h;simp [World.shape?,h]
theorem E7 (W:World) (b j:Nat) (v:Value):∀ k,k≠b→(W.setCell ⟨b,j,none⟩ v).heap[k]?=W.heap[k]?:=fun _ hk=>Aei _ _ _ _ (fun e=>hk e)
theorem Ul {B b:Nat} {ps:List Cp} {t:List UInt8} {pv av bv:Value} {W:World} (h:MkS B b ps t pv av bv W) :
  Calls Tryz.prog 106 #[.pointer (some ⟨b,1,none⟩)] W fun e W'=>e=.returned (.tuple #[])∧MkS B b ps t pv (.pointer (some ⟨b,1,none⟩)) bv W'∧Below B W W'∧W'.heap.size=W.heap.size:=by
 obtain ⟨j,hj,hjs⟩:=Option.map_eq_some_iff.1 KW;have hf:=h.q.frozen 1;have hsh:=QK h.q;rcases h.a with rfl | rfl
 ·have h0:W.cell? ⟨b,1,none⟩=some (.pointer none):=(h.q.cell 1).trans rfl;have hF:=Ad5 (h.own (W':=W.setCell ⟨b,1,none⟩ (.pointer (some ⟨b,1,none⟩))) (.inr rfl) (h.q.set 1 _) (E7 _ _ _ _));have hB:=Ad5 ((Aeh B W).setCell (p:=⟨b,1,none⟩) h.bb (.pointer (some ⟨b,1,none⟩)));clear h;go_enter Tryz.func106,Tryz.ntmps106
  go_wp2
  rw [Lib.run_to_unsafe W ⟨b,1,none⟩ Tryz.underlying164 Tryz.underlying213 hj (by rw [hjs];decide) hsh (Nat.succ_lt_succ (Nat.zero_lt_succ 1))];simp only [Result.andThen];rw [Oper.upon_value]
  go_wp2
  rw [run_callFunc_extern Tryz.func121 (by kernel_rfl) (by kernel_rfl) (by kernel_rfl) (e:=Extern.AbiNoEscape.same) (by kernel_rfl)];rw [Lib.run_noEscape];simp only [Result.andThen];rw [Oper.upon_value]
  go_wp2
  rw [Lib.run_from_unsafe W ⟨b,1,none⟩ Tryz.underlying213 Tryz.underlying164 hj hsh QJ];simp only [Result.andThen];rw [Oper.upon_value]
  go_wp2
  go_end0;exact ⟨rfl,hF.out,hB.out,by simp [World.setCell]⟩
 ·have h0:W.cell? ⟨b,1,none⟩=some (.pointer (some ⟨b,1,none⟩)):=(h.q.cell 1).trans rfl;have hF:=Ad5 h;clear h;go_enter Tryz.func106,Tryz.ntmps106
  go_wp2
  rw [Lib.run_neq_ptr_same W _ Tryz.underlying164 hj]
  go_wp2
  go_end0;exact ⟨rfl,hF.out,Aeh B _,rfl⟩
theorem OF:∃ i,Tryz.prog.info? 5=some i∧i.zero=some (.int .u8 0)∧i.size=1∧i.bytes=1:=by
 have h:(Tryz.prog.info? 5).map (fun i=>(i.zero,i.size,i.bytes))=some (some (.int .u8 0),1,1):=by kernel_rfl
 obtain ⟨i,hi,he⟩:=Option.map_eq_some_iff.1 h;injection he with h1 h2;injection h2 with h2 h3;exact ⟨i,hi,h1,h2,h3⟩
theorem Jo (w:World) (v:Value) (t:TypeId):∀ j u,[v][j]?=some u→(w.alloc (.cells #[v] t)).cell? ((⟨w.heap.size,0,none⟩:Addr).add j)=some u:=by
 intro j u hu;cases j with
 | zero=>
  have e:v=u:=by simpa using hu
  subst e;rw [Go.WideShapes.add_plain,Nat.add_zero];have hb:=Blk.new w #[v] t w.heap.size rfl;exact (hb.cell 0).trans rfl
 | succ j=>simp at hu
theorem Df (t:List UInt8) (c:UInt8):Lib.byteCells (t++[c])=Lib.byteCells t++[.int .u8 (c.toNat:Int)]:=by simp [Lib.byteCells]
/-- A byte is written. -/
theorem GH {B b:Nat} {ps:List Cp} {t:List UInt8} {pv av bv:Value} {W:World} (c:UInt8) (h:MkS B b ps t pv av bv W) (hl:t.length≤4000000) (hBw:B≤W.heap.size) :
  Calls Tryz.prog 87 #[.pointer (some ⟨b,1,none⟩),.int .u8 (c.toNat:Int)] W fun e W'=>e=.returned .nilIface∧(∃ bv',MkS B b ps (t++[c]) pv (.pointer (some ⟨b,1,none⟩)) bv' W')∧Below B W W':=by
 obtain ⟨i0,hi,hz0,hz1,hz2⟩:=OF;have hcp:=Ul h;clear h;go_enter Tryz.func87,Tryz.ntmps87;go_wp2_with fail
 refine hcp.mono ?_;rintro e w1 ⟨rfl,h1,hb1,hs1⟩;have H1:=Ad5 h1;have HB1:=Ad5 hb1;have hbs:B≤w1.heap.size:=by omega
 clear hs1;have hlt:=h1.q.lt;have c2:w1.cell? ⟨b,2,none⟩=some bv:=(h1.q.cell 2).trans rfl;have hm1:t.length+1≤maxLen:=by unfold maxLen;omega
 have hnw:∀ j u,[Value.int .u8 (c.toNat:Int)][j]?=some u→(w1.alloc (.cells #[.int .u8 (c.toNat:Int)] 5)).cell? ((⟨w1.heap.size,0,none⟩:Addr).add j)=some u:=Jo w1 _ _;have hbl:=(Aeh w1.heap.size w1).alloc (Aec _) (.cells #[.int .u8 (c.toNat:Int)] 5);have hbr:=Gq h1.br (fun g hg=>hbl.block g (h1.br.lt g hg).2);have HBL:=Ad5 hbl;clear h1 hb1 hcp hbl;go_wp2_with (at_builtin;refine wpList_append_ownF _ rfl _ _ 165 rfl B 5 i0 (.int .u8 0) 1 1 Tryz.underlying165 hi hz0 hz1 hz2 rfl (by decide) _ _ _ rfl hbr ⟨w1.heap.size,0,none⟩ 1 1 [.int .u8 (c.toNat:Int)] rfl rfl hnw (by intro u hu;simp at hu;subst hu;rfl) hm1 (by omega) (by simp;omega) ?_)
 intro v' w2 hown' hgrow _;have hne:=H1.out.nb;have hq2:=AG (H1.out.q.below HBL.out H1.out.q.lt) hgrow hne;have d2:w2.cell? ⟨b,2,none⟩=some bv:=(hq2.cell 2).trans rfl;have f2:=hq2.frozen 2;obtain ⟨g,cap,rfl⟩:∃ g cap,v'=.slice (some ⟨g,0,none⟩) (t.length+1) cap:=by
  rcases hown'.2 with ⟨_,h0⟩ | ⟨g,cap,cur,fz,hv,_⟩
  ·omega
  ·exact ⟨g,cap,hv⟩
 have hpr2:w2.ownsRow B 74 2 pv ps.length (cpC ps):=Aa H1.out.pr (fun k hk=>(hgrow.block k (by have:=AB H1.out.pr k hk;have:=HBL.out.size;omega) (fun e=>H1.out.npb k hk e.symm)).trans (HBL.out.block k (AB H1.out.pr k hk)));have hnp:=H1.out.np;have hB2:Below B W w2:=(HB1.out.trans (HBL.out.mono (by omega))).grown hgrow (by simp;omega) (fun k hk=>(H1.out.br.lt k hk).1);have hnb':(Value.slice (some ⟨g,0,none⟩) (t.length+1) cap).ownBlock≠some b:=Lib.ownBlock_neF hown' hq2 (by decide);have HF:=Ad5 (show MkS B b ps (t++[c]) pv (.pointer (some ⟨b,1,none⟩)) (.slice (some ⟨g,0,none⟩) (t.length+1) cap) (w2.setCell ⟨b,2,none⟩ (.slice (some ⟨g,0,none⟩) (t.length+1) cap)) from
  ⟨hq2.set 2 _,H1.out.bb,.inr rfl,Aa hpr2 fun k hk=>E7 _ _ _ _ k fun e=>hnp (by rw [hk,e]),by
   rw [Df,Aee];exact Gq hown' fun k hk=>E7 _ _ _ _ k fun e=>hnb' (by rw [hk,e])⟩)
 have HB2:=Ad5 (hB2.setCell (p:=⟨b,2,none⟩) H1.out.bb (.slice (some ⟨g,0,none⟩) (t.length+1) cap));clear hown' hgrow hq2 hpr2 hB2
 go_wp2
 go_ret;exact ⟨rfl,⟨_,HF.out⟩,HB2.out⟩
theorem Xb {B b:Nat} {ps:List Cp} {t:List UInt8} {pv av bv:Value} {W:World} (h:MkS B b ps t pv av bv W) :
  Calls Tryz.prog 122 #[.pointer (some ⟨b,1,none⟩)] W fun e W'=>e=.returned (.int .i64 (t.length:Int))∧W'=W:=by
 have c2:W.cell? ⟨b,2,none⟩=some bv:=(h.q.cell 2).trans rfl;obtain ⟨a,k,rfl⟩:∃ a k,bv=.slice a t.length k:=by
  rcases h.br.2 with ⟨rfl,h0⟩ | ⟨g,cap,cur,fz,hv,_⟩
  ·exact ⟨none,0,by rw [h0]⟩
  ·exact ⟨_,cap,hv⟩
 clear h;go_enter Tryz.func122,Tryz.ntmps122;go_wp2_with fail
 go_ret;exact ⟨rfl,rfl⟩
theorem QL {B b:Nat} {ps:List Cp} {pv av bv:Value} {W:World} (hq:Blk W b #[pv,av,bv] 188) (hb:B≤b) (hp:W.ownsRow B 74 2 pv ps.length (cpC ps)) :
  Calls Tryz.prog 123 #[.pointer (some ⟨b,1,none⟩)] W fun e W'=>e=.returned (.tuple #[])∧MkS B b ps [] pv (.pointer none) (.slice none 0 0) W'∧Below B W W':=by
 have c1:W.cell? ⟨b,1,none⟩=some av:=(hq.cell 1).trans rfl;have c2:W.cell? ⟨b,2,none⟩=some bv:=(hq.cell 2).trans rfl;have f1:=hq.frozen 1;have f2:=hq.frozen 2;have hnp:=Nf hp hq (by decide);have HF:=Ad5 (show MkS B b ps [] pv (.pointer none) (.slice none 0 0) ((W.setCell ⟨b,1,none⟩ (.pointer none)).setCell ⟨b,2,none⟩ (.slice none 0 0)) from
  ⟨(hq.set 1 _).set 2 _,hb,.inl rfl,Aa hp fun k hk=>(E7 _ _ _ _ k fun e=>hnp (by rw [hk,e])).trans (E7 _ _ _ _ k fun e=>hnp (by rw [hk,e])),World.ownsRowF_nil _ _ _ _⟩)
 have HB:=Ad5 (((Aeh B W).setCell (p:=⟨b,1,none⟩) hb (.pointer none)).setCell (p:=⟨b,2,none⟩) hb (.slice none 0 0));clear hq hp hnp;go_enter Tryz.func123,Tryz.ntmps123;go_wp2_with fail
 go_end0;exact ⟨rfl,HF.out,HB.out⟩
theorem QM (W:World) (g n k:Nat) (h:k≠g):(W.freeze ⟨g,0,none⟩ n).heap[k]?=W.heap[k]?:=by
 unfold World.freeze;split
 ·rfl
 ·simp [Array.getElem?_modify,Ne.symm h]
theorem OG (W:World) (a:Addr) (n:Nat):(W.freeze a n).heap.size=W.heap.size:=by
 unfold World.freeze;split
 ·rfl
 ·simp
/-- What was written, as a string. -/
theorem OH {B b:Nat} {ps:List Cp} {t:List UInt8} {pv av bv:Value} {W:World} (h:MkS B b ps t pv av bv W) (h0:t≠[]) (hl:t.length≤4000000) :
  Calls Tryz.prog 88 #[.pointer (some ⟨b,1,none⟩)] W fun e W'=>e=.returned (.string ⟨t.toArray⟩)∧(∀ k,bv.ownBlock≠some k→W'.heap[k]?=W.heap[k]?)∧Below B W W'∧W'.heap.size=W.heap.size:=by
 have hown:=h.br;have hbk:=h.q;have hl0:t.length≠0:=by simpa using h0
 rcases hown.2 with ⟨_,hz⟩ | ⟨g,cap,cur,fz,rfl,hbg,hg,hfz,hnc,hcm,hcs,htk⟩
 ·exact absurd hz hl0
 ·have c1:W.drew.cell? ⟨b,2,none⟩=some (.slice (some ⟨g,0,none⟩) t.length cap):=(hbk.cell 2).trans rfl;have hSD:(Builtin.unsafeSliceData_ #[165] 186 #[.slice (some ⟨g,0,none⟩) t.length cap]).run Tryz.prog W.drew=.ok (.pointer (some ⟨g,0,none⟩)) W.drew:=Lib.run_unsafeSliceData_row _ _ _ _ _ _ (by omega);have hUS:(Builtin.unsafeString_ #[186,3] 9 #[.pointer (some ⟨g,0,none⟩),.int .i64 t.length]).run Tryz.prog W.drew=.ok (.string ⟨t.toArray⟩) (W.drew.freeze ⟨g,0,none⟩ t.length):=by
   refine Lib.run_unsafeString_row W.drew 186 3 9 5 Tryz.underlying186 (by kernel_rfl) g cur.size (by have hg':W.drew.heap[g]?=some (.cells cur 5 fz):=hg;simp [World.shape?,hg']) t h0 (by omega) (by unfold maxLen at hcm;omega) ?_;intro j x hx;exact hown.cells (g:=g) rfl j (.int .u8 x.toNat) (by simp [Lib.byteCells,hx])
  clear h hown hbk;go_enter Tryz.func88,Tryz.ntmps88
  go_wp2
  go_region
  all_goals
   go_wp2
   go_ret;refine ⟨rfl,fun k hk=>?_,Lib.below_freeze (Below.drew (Aeh B W)) (p:=⟨g,0,none⟩) hbg _,OG _ _ _⟩;exact QM W.drew g _ k (fun e=>hk (by rw [e];rfl))
theorem LG:∃ i,Tryz.prog.info? 74=some i∧i.zero=some (.agg #[.int .i64 0,.string ⟨#[]⟩])∧i.size=2∧i.bytes=24:=by
 have h:(Tryz.prog.info? 74).map (fun i=>(i.zero,i.size,i.bytes))=some (some (.agg #[.int .i64 0,.string ⟨#[]⟩]),2,24):=by kernel_rfl
 obtain ⟨i,hi,he⟩:=Option.map_eq_some_iff.1 h;injection he with h1 h2;injection h2 with h2 h3;exact ⟨i,hi,h1,h2,h3⟩
theorem Se (w:World) (u v:Value) (t:TypeId):∀ j x,[u,v][j]?=some x→(w.alloc (.cells #[u,v] t)).cell? ((⟨w.heap.size,0,none⟩:Addr).add j)=some x:=by
 have hb:=Blk.new w #[u,v] t w.heap.size rfl;intro j x hx;rw [Go.WideShapes.add_plain,Nat.zero_add,hb.cell j,←Array.getElem?_toList];exact hx
theorem MkS.part {B b:Nat} {ps:List Cp} {t:List UInt8} {pv av bv:Value} {W W1 w6:World} (h:MkS B b ps t pv av bv W) (hb:Below W.heap.size W W1) (c:Cp) {v6:Value} (hg:W1.grownBy w6 pv.ownBlock) (ho:w6.ownsRow B 74 2 v6 (ps.length+1) (cpC ps++[.int .i64 c.1,.string (txt c.2)])) :
  MkS B b (ps++[c]) t v6 av bv (w6.setCell ⟨b,0,none⟩ v6):=by
 have hs1:=hb.size;have hq6:=AG (h.q.below hb h.q.lt) hg h.np;have hn6:v6.ownBlock≠some b:=Nf ho hq6 (by decide);refine ⟨hq6.set 0 _,h.bb,h.a,?_,?_⟩
 ·rw [O8,Aee];exact Aa ho fun k hk=>E7 _ _ _ _ k fun e=>hn6 (by rw [hk,e])
 ·refine Gq h.br fun k hk=>?_
  rw [E7 _ _ _ _ k fun e=>h.nb (by rw [hk,e]),hg.block k (by have:=(h.br.lt k hk).2;omega) (fun e=>h.npb k e.symm hk),hb.block k (h.br.lt k hk).2]
/-- The text is ended. -/
theorem LH {B b:Nat} {ps:List Cp} {t:List UInt8} {pv av bv:Value} {W:World} (h:MkS B b ps t pv av bv W) (hl:t.length≤4000000) (hp:ps.length≤4000000) (hBw:B≤W.heap.size) :
  Calls Tryz.prog 108 #[.pointer (some ⟨b,0,none⟩)] W fun e W'=>e=.returned (.tuple #[])∧(∃ pv' av' bv',MkS B b (DF ps t) [] pv' av' bv' W')∧Below B W W':=by
 have hL:=Xb h;unfold DF;by_cases ht:t=[]
 ·rw [if_pos ht];have hz:¬ (0:Int) < (t.length:Int):=by simp [ht]
  have HH:=Ad5 (show MkS B b ps [] pv av bv W by rw [←ht];exact h);clear h ht;go_enter Tryz.func108,Tryz.ntmps108;go_wp2_with (go_at_call 122;refine hL.mono ?_;rintro e w1 ⟨rfl,rfl⟩)
  go_end0;exact ⟨rfl,⟨_,_,_,HH.out⟩,Aeh _ _⟩
 ·rw [if_neg ht];have hz:(0:Int) < (t.length:Int):=by have:=List.length_pos_iff.2 ht;omega
  have hS:=fun (W1:World) (h1:MkS B b ps t pv av bv W1)=>OH h1 ht hl
  obtain ⟨i0,hi,hz0,hz1,hz2⟩:=LG;have hm1:ps.length+1≤maxLen:=by unfold maxLen;omega
  have hm2:(ps.length+1) * 24≤140737488355328:=by omega
  have c0:W.cell? ⟨b,0,none⟩=some pv:=(h.q.cell 0).trans rfl;obtain ⟨pa,pc,rfl⟩:=A6 h.pr;have hlt:=h.q.lt;have HH:=Ad5 h;have HB:=Ad5 hBw;have Ht:=Ad5 ht;clear h hBw ht;go_enter Tryz.func108,Tryz.ntmps108;go_upto_region 1 with (go_at_call 122;refine hL.mono ?_;rintro e w0 ⟨rfl,hw⟩;have hw':=hw.symm;subst hw')
  go_cut [] (fun wx=>∃ v6,Blk wx b #[v6,av,bv] 188∧wx.ownsRow B 74 2 v6 (ps.length+1) (cpC ps++[.int .i64 (-1),.string (txt t)])∧Below B W wx)
  case first=>
   go_region_law (first
    | (refine Av rfl _ _ 43 rfl B 74 i0 (.agg #[.int .i64 0,.string ⟨#[]⟩]) 2 24 Tryz.underlying43 hi hz0 hz1 hz2 rfl (by decide) (.slice pa ps.length pc) ps.length (cpC ps) rfl (Ag HR1.out (by repeat (first | (with_reducible exact Aeh _ _) | refine Below.drew ?_ | refine Below.alloc ?_ (Aec _) _))) (some ⟨w1.heap.size,0,none⟩) 1 1 [.int .i64 (-1),.string ⟨t.toArray⟩] rfl rfl (fun _=>⟨_,rfl,Se _ _ _ _⟩) (by intro u hu;simp at hu;rcases hu with rfl | rfl <;> rfl) hm1 hm2 (by simp;omega) ?_;intro v6 w6 hown6 hgrow6 hat6;obtain ⟨a6,c6,rfl⟩:=A6 hown6;have hbl:=(Aeh w1.heap.size w1).alloc (Aec _) (.cells #[.int .i64 (-1),.string ⟨t.toArray⟩] 74);have hq6:=AG (HQ1.out.below hbl HQ1.out.lt) hgrow6 HH.out.np;have HG:=Ad5 (show Blk w6 b #[_,av,bv] _∧World.ownsRow w6 B 74 2 (.slice a6 (ps.length+1) c6) (ps.length+1) (cpC ps++[.int .i64 (-1),.string (txt t)])∧Below B W w6 from ⟨hq6,hown6,(HB1.out.trans (hbl.mono hbs)).grown hgrow6 (by simp;omega) (fun k hk=>AL HH.out.pr k hk)⟩);have f0:=hq6.frozen 0;have g0:w6.cell? ⟨b,0,none⟩=some (.slice pa ps.length pc):=(hq6.cell 0).trans rfl;clear hown6 hgrow6 hat6 hq6 hbl)
    | (go_simp;go_at_call 88;refine (hS _ (by first | exact HH.out | exact (show MkS B b ps t _ av bv W.drew from ⟨HH.out.q,HH.out.bb,HH.out.a,HH.out.pr,HH.out.br⟩))).mono ?_;rintro e w1 ⟨rfl,k1,b1,s1⟩;have HB1:=Ad5 (by first | exact b1 | exact (Aeh B W).drew.trans b1:Below B W w1);have HQ1:=Ad5 (show Blk w1 b _ _ from (k1 b HH.out.nb).trans HH.out.q);have HR1:=Ad5 (Aa (w:=W) HH.out.pr fun g hg=>k1 g (HH.out.npb g hg));have hbs:B≤w1.heap.size:=Aed HB.out HB1.out.size;have d0:w1.cell? ⟨b,0,none⟩=some (.slice pa ps.length pc):=(HQ1.out.cell 0).trans rfl;have hlt1:b < w1.heap.size:=HQ1.out.lt;clear k1 b1 s1))
   all_goals
    (try go_wp2_with fail)
    go_meet;refine ⟨_,HG.out.1.set 0 _,Aa HG.out.2.1 fun k hk=>E7 _ _ _ _ k fun e=>Nf HG.out.2.1 HG.out.1 (by decide) (by rw [hk,e]),HG.out.2.2.setCell (p:=⟨b,0,none⟩) HH.out.bb _⟩
  case rest=>
   obtain ⟨v6,q6,r6,b6⟩:=hcut;have hR:=QL q6 HH.out.bb (ps:=ps++[(-1,t)]) (by rw [O8,Aee];exact r6);have HB6:=Ad5 b6;clear q6 r6 b6 hL hS c0;go_wp2_with (go_at_call 123;refine hR.mono ?_;rintro e w7 ⟨rfl,h7,b7⟩)
   go_end0;exact ⟨rfl,⟨_,_,_,h7⟩,HB6.out.trans b7⟩
/-- A group is put behind. -/
theorem LI {B b:Nat} {ps:List Cp} {t:List UInt8} {pv av bv:Value} {W:World} (n:Int) (h:MkS B b ps t pv av bv W) (hl:t.length≤4000000) (hp:ps.length≤3000000) (hBw:B≤W.heap.size) :
  Calls Tryz.prog 107 #[.pointer (some ⟨b,0,none⟩),.int .i64 n] W fun e W'=>e=.returned (.tuple #[])∧(∃ pv' av' bv',MkS B b (DF ps t++[(n,[])]) [] pv' av' bv' W')∧Below B W W':=by
 have hE:=LH h hl (by omega) hBw;have hpl:(DF ps t).length≤3000001:=by
  unfold DF;split
  ·omega
  ·simp;omega
 generalize DF ps t=qs at hE hpl ⊢;obtain ⟨i0,hi,hz0,hz1,hz2⟩:=LG;have HBw:=Ad5 hBw;clear h hBw;go_enter Tryz.func107,Tryz.ntmps107;go_upto_region 1 with (go_at_call 108;refine hE.mono ?_;clear hE;rintro e w1 ⟨rfl,⟨pv1,av1,bv1,h1⟩,b1⟩;have H1:=Ad5 h1;have HB1:=Ad5 b1;obtain ⟨pa,pc,rfl⟩:=A6 h1.pr;have hlt:=h1.q.lt;have c0:w1.cell? ⟨b,0,none⟩=some (.slice pa qs.length pc):=(h1.q.cell 0).trans rfl;clear h1 b1)
 have hm1:qs.length+1≤maxLen:=by unfold maxLen;omega
 have hm2:(qs.length+1) * 24≤140737488355328:=by omega
 have hbs:B≤w1.heap.size:=Aed HBw.out HB1.out.size;have hbl:=(Aeh w1.heap.size w1).alloc (Aec _) (.cells #[.int .i64 n,.string ⟨#[]⟩] 74);have hbs2:B≤(w1.alloc (.cells #[.int .i64 n,.string ⟨#[]⟩] 74)).heap.size:=by have:=hbl.size;omega
 have HBL:=Ad5 hbl;clear hbl;go_wp2_with (at_builtin;go_loud (refine wpList_append_own_at _ rfl _ _ 43 rfl B 74 i0 (.agg #[.int .i64 0,.string ⟨#[]⟩]) 2 24 Tryz.underlying43 hi hz0 hz1 hz2 rfl (by decide) (.slice pa qs.length pc) qs.length (cpC qs) rfl (Ag H1.out.pr HBL.out) ⟨w1.heap.size,0,none⟩ 1 1 [.int .i64 n,.string ⟨#[]⟩] rfl rfl (Se _ _ _ _) (by intro u hu;simp at hu;rcases hu with rfl | rfl <;> rfl) hm1 hm2 hbs2 ?_;intro v6 w6 hown6 hgr6 _ hat6;obtain ⟨a6,c6,rfl⟩:=A6 hown6;have HP:=Ad5 (H1.out.part HBL.out (n,[]) hgr6 hown6);have hq6:=AG (H1.out.q.below HBL.out H1.out.q.lt) hgr6 H1.out.np;have f0:=hq6.frozen 0;have g0:w6.cell? ⟨b,0,none⟩=some (.slice pa qs.length pc):=(hq6.cell 0).trans rfl;have HB6:=Ad5 (((HB1.out.trans (HBL.out.mono hbs)).grown hgr6 (by simp;omega) (fun k hk=>AL H1.out.pr k hk)).setCell (p:=⟨b,0,none⟩) H1.out.bb (.slice a6 (qs.length+1) c6));clear hown6 hgr6 hat6 hq6))
 go_end0;exact ⟨rfl,⟨_,_,_,HP.out⟩,HB6.out⟩
end
end Go.Proofs.YteilldmmihiijaaGreatDoor
