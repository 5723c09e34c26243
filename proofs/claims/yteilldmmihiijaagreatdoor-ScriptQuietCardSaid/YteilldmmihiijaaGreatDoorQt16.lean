/- Texts. -/
import Derived.Test.YteilldmmihiijaaGreatDoorQt15
import Derived.Deep.RegionHeld3
import Derived.Test.YteilldmmihiijaaGreatDoorQt04
import Derived.Deep.RegionHeld
import Derived.Test.YteilldmmihiijaaGreatDoorQt06
import Derived.Test.YteilldmmihiijaaGreatDoorQt01
import Derived.BigQuiet
import Derived.Deep.DeepCutAuto
import Derived.Laws.Rows
import Derived.Deep.MidRow
import Derived.Laws.Tables
import Derived.Laws.CopyOwn
set_option linter.unusedSimpArgs false
set_option linter.unusedVariables false
set_option maxHeartbeats 8000000
set_option maxRecDepth 1000000
namespace Go.Proofs.YteilldmmihiijaaGreatDoor
open Go.Lib renaming hid→Ac8
open List renaming setIfInBounds_toArray→Ac9,getElem_cons_zero→Ada,getElem_cons_succ→Adb,getElem_toArray→Adc,set_cons_zero→Zz0,set_cons_succ→Ade,length_append→Adh
open Nat renaming le_refl→Adf,le_trans→Adg,le_of_lt→Adj
open Go.RowKit.Below renaming refl→Adk,heap_setCell→Adl
open Go.World renaming cell?_of_block→Adn
section
open Go Go.RowKit
abbrev gdZ:Array Value:=#[.int .i64 0,.int .i64 0,.string ⟨#[]⟩,.nilIface,.int .i64 0,.int .i64 0,.string ⟨#[]⟩,.nilIface,.bool false]
def GdA (w:World) (r:BG Grd) (e:Ending) (w':World):Prop:=Below w.heap.size w w'∧match r with
 | .error q=>e=.returned (.tuple #[.agg gdZ,.slice none 0 0,.int .i64 (q.2:Int),.int .i64 (q.1:Int)])
 | .ok q=>∃ ta tb ma mc,e=.returned (.tuple #[.agg #[.int .i64 (q.1.a.kind:Int),.int .i64 (q.1.a.line:Int),.string (txt q.1.a.text),ta,.int .i64 (q.1.b.kind:Int),.int .i64 (q.1.b.line:Int),.string (txt q.1.b.text),tb,.bool q.1.no],.slice ma q.2.1.length mc,.int .i64 (q.2.2:Int),.int .i64 0])∧
  TrO (fun b=>w.heap.size < b∧(Value.slice ma q.2.1.length mc).ownBlock≠some b) w' q.1.a.tree ta∧TrO (fun b=>w.heap.size < b∧(Value.slice ma q.2.1.length mc).ownBlock≠some b) w' q.1.b.tree tb∧w'.ownsRow (w.heap.size+1) 33 2 (.slice ma q.2.1.length mc) q.2.1.length (wmC q.2.1)
theorem BO {w:World} {b:Nat} {T:TypeId} {v0 v1 v2 v3 v4 v5 v6 v7 v8:Value} (h:Blk w b #[v0,v1,v2,v3,v4,v5,v6,v7,v8] T) :
  (w.cell? ⟨b,0,none⟩=some v0∧w.cell? ⟨b,1,none⟩=some v1∧w.cell? ⟨b,2,none⟩=some v2∧w.cell? ⟨b,3,none⟩=some v3∧w.cell? ⟨b,4,none⟩=some v4∧w.cell? ⟨b,5,none⟩=some v5∧w.cell? ⟨b,6,none⟩=some v6∧w.cell? ⟨b,7,none⟩=some v7∧w.cell? ⟨b,8,none⟩=some v8)∧
  (w.frozen? ⟨b,0,none⟩=false∧w.frozen? ⟨b,1,none⟩=false∧w.frozen? ⟨b,2,none⟩=false∧w.frozen? ⟨b,3,none⟩=false∧w.frozen? ⟨b,4,none⟩=false∧w.frozen? ⟨b,5,none⟩=false∧w.frozen? ⟨b,6,none⟩=false∧w.frozen? ⟨b,7,none⟩=false∧w.frozen? ⟨b,8,none⟩=false∧b < w.heap.size):=
 ⟨⟨(h.cell 0).trans rfl,(h.cell 1).trans rfl,(h.cell 2).trans rfl,(h.cell 3).trans rfl,(h.cell 4).trans rfl,(h.cell 5).trans rfl,(h.cell 6).trans rfl,(h.cell 7).trans rfl,(h.cell 8).trans rfl⟩,h.frozen 0,h.frozen 1,h.frozen 2,h.frozen 3,h.frozen 4,h.frozen 5,h.frozen 6,h.frozen 7,h.frozen 8,h.lt⟩
theorem Iy {P:Program} {fn:Func} {Q:Ending→World→Prop} {e:Exit} {act:Act} {w0 w:World} {p:Nat} {T:TypeId} {u0 u1 u2 u3 u4 u5 u6 u7 u8:Value} (hb:Below w0.heap.size w0 w) (h:Blk w p #[u0,u1,u2,u3,u4,u5,u6,u7,u8] T) (hp:w0.heap.size≤p) {v0 v1 v2 v3 v4 v5 v6 v7 v8:Value}
  (H:∀ w',Below w0.heap.size w0 w'→Blk w' p #[v0,v1,v2,v3,v4,v5,v6,v7,v8] T→(∀ b,b≠p→w'.heap[b]?=w.heap[b]?)→w'.heap.size=w.heap.size→bodyPost P fn Q e act w') :
  bodyPost P fn Q e act (((((((((w.setCell ⟨p,0,none⟩ v0).setCell ⟨p,1,none⟩ v1).setCell ⟨p,2,none⟩ v2).setCell ⟨p,3,none⟩ v3).setCell ⟨p,4,none⟩ v4).setCell ⟨p,5,none⟩ v5).setCell ⟨p,6,none⟩ v6).setCell ⟨p,7,none⟩ v7).setCell ⟨p,8,none⟩ v8):=by
 have h9:=((((((((h.set 0 v0).set 1 v1).set 2 v2).set 3 v3).set 4 v4).set 5 v5).set 6 v6).set 7 v7).set 8 v8;have hcs:((((((((((#[u0,u1,u2,u3,u4,u5,u6,u7,u8]:Array Value).setIfInBounds 0 v0).setIfInBounds 1 v1).setIfInBounds 2 v2).setIfInBounds 3 v3).setIfInBounds 4 v4).setIfInBounds 5 v5).setIfInBounds 6 v6).setIfInBounds 7 v7).setIfInBounds 8 v8)=#[v0,v1,v2,v3,v4,v5,v6,v7,v8]:=by
  simp
 rw [hcs] at h9;clear hcs h;have o1:∀ (w:World) (j:Nat) (v:Value) b,b≠p→(w.setCell ⟨p,j,none⟩ v).heap[b]?=w.heap[b]?:=fun w j v b hb=>Adl _ _ _ _ (fun e=>hb e)
 have s1:∀ (w:World) (j:Nat) (v:Value),(w.setCell ⟨p,j,none⟩ v).heap.size=w.heap.size:=fun w j v=>by simp [World.setCell]
 refine H _ ?_ h9 (fun b hb=>?_) ?_
 ·exact ((((((((hb.setCell (p:=⟨p,0,none⟩) hp v0).setCell (p:=⟨p,1,none⟩) hp v1).setCell (p:=⟨p,2,none⟩) hp v2).setCell (p:=⟨p,3,none⟩) hp v3).setCell (p:=⟨p,4,none⟩) hp v4).setCell (p:=⟨p,5,none⟩) hp v5).setCell (p:=⟨p,6,none⟩) hp v6).setCell (p:=⟨p,7,none⟩) hp v7).setCell (p:=⟨p,8,none⟩) hp v8
 ·exact (o1 _ 8 v8 b hb).trans ((o1 _ 7 v7 b hb).trans ((o1 _ 6 v6 b hb).trans ((o1 _ 5 v5 b hb).trans ((o1 _ 4 v4 b hb).trans ((o1 _ 3 v3 b hb).trans ((o1 _ 2 v2 b hb).trans ((o1 _ 1 v1 b hb).trans (o1 _ 0 v0 b hb))))))))
 ·exact (s1 _ 8 v8).trans ((s1 _ 7 v7).trans ((s1 _ 6 v6).trans ((s1 _ 5 v5).trans ((s1 _ 4 v4).trans ((s1 _ 3 v3).trans ((s1 _ 2 v2).trans ((s1 _ 1 v1).trans (s1 _ 0 v0))))))))
structure GdSt (w:World) (g:Nat) (a b:Adr) (ta tb:Value) (no:Value) (ms:List Wm) (ma:Option Addr) (mc:Nat) (W:World):Prop where
 b0:Below w.heap.size w W
 p:Blk W w.heap.size gdZ 42
 q:Blk W g #[.int .i64 (a.kind:Int),.int .i64 (a.line:Int),.string (txt a.text),ta,.int .i64 (b.kind:Int),.int .i64 (b.line:Int),.string (txt b.text),tb,no] 42
 pg:w.heap.size < g
 ha:TrO (fun b=>w.heap.size < b∧b≠g∧(Value.slice ma ms.length mc).ownBlock≠some b) W a.tree ta
 hb:TrO (fun b=>w.heap.size < b∧b≠g∧(Value.slice ma ms.length mc).ownBlock≠some b) W b.tree tb
 r:W.ownsRow (w.heap.size+1) 33 2 (.slice ma ms.length mc) ms.length (wmC ms)
 rg:(Value.slice ma ms.length mc).ownBlock≠some g
theorem GdSt.step {w:World} {g:Nat} {a b:Adr} {ta tb no:Value} {ms:List Wm} {ma:Option Addr} {mc:Nat} {W W':World} (h:GdSt w g a b ta tb no ms ma mc W) (hb:Below W.heap.size W W'):GdSt w g a b ta tb no ms ma mc W':=
 ⟨h.b0.trans (hb.mono h.b0.size),h.p.below hb h.p.lt,h.q.below hb h.q.lt,h.pg,h.ha.below hb,h.hb.below hb,Ag h.r hb,h.rg⟩
theorem GdSt.not {w:World} {g:Nat} {a b:Adr} {ta tb no:Value} {ms:List Wm} {ma:Option Addr} {mc:Nat} {W:World} (h:GdSt w g a b ta tb no ms ma mc W) (n:Value):GdSt w g a b ta tb n ms ma mc (W.setCell ⟨g,8,none⟩ n):=by
 have hpg:=h.pg;have o1:∀ b,b≠g→(W.setCell ⟨g,8,none⟩ n).heap[b]?=W.heap[b]?:=fun b hb=>Adl _ _ _ _ (fun e=>hb e)
 have hsz:(W.setCell ⟨g,8,none⟩ n).heap.size=W.heap.size:=by simp [World.setCell]
 have hk:∀ {t v},TrO (fun b=>w.heap.size < b∧b≠g∧(Value.slice ma ms.length mc).ownBlock≠some b) W t v→TrO (fun b=>w.heap.size < b∧b≠g∧(Value.slice ma ms.length mc).ownBlock≠some b) (W.setCell ⟨g,8,none⟩ n) t v:=fun hk=>TrO.keep (by omega) (fun b hb _=>⟨hb,fun o=>Adn (w:=W) (a:=⟨b,o,none⟩) (o1 b hb.2.1)⟩) hk
 exact ⟨h.b0.setCell (p:=⟨g,8,none⟩) (Adj hpg) n,Eg h.p (o1 _ (by omega)),h.q.set 8 n,hpg,hk h.ha,hk h.hb,Aa h.r fun b hb=>o1 b fun e=>h.rg (by rw [hb,e]),h.rg⟩
theorem GdSt.end {w:World} {g:Nat} {a b:Adr} {ta tb:Value} {no:Bool} {ms:List Wm} {ma:Option Addr} {mc:Nat} {W W':World} (h:GdSt w g a b ta tb (.bool no) ms ma mc W) (h1:Below w.heap.size w W') (hs:∀ b,b≠w.heap.size→W'.heap[b]?=W.heap[b]?) (hz:W'.heap.size=W.heap.size) (p:Nat) :
  GdA w (.ok (⟨a,b,no⟩,ms,p)) (.returned (.tuple #[.agg #[.int .i64 (a.kind:Int),.int .i64 (a.line:Int),.string (txt a.text),ta,.int .i64 (b.kind:Int),.int .i64 (b.line:Int),.string (txt b.text),tb,.bool no],.slice ma ms.length mc,.int .i64 (p:Int),.int .i64 0])) W':=by
 have hk:∀ {t v},TrO (fun b=>w.heap.size < b∧b≠g∧(Value.slice ma ms.length mc).ownBlock≠some b) W t v→TrO (fun b=>w.heap.size < b∧(Value.slice ma ms.length mc).ownBlock≠some b) W' t v:=fun hk=>TrO.keep (by omega) (fun b hb _=>⟨⟨hb.1,hb.2.2⟩,fun o=>Adn (w:=W) (a:=⟨b,o,none⟩) (hs b (by have:=hb.1;omega))⟩) hk
 exact ⟨h1,ta,tb,ma,mc,rfl,hk h.ha,hk h.hb,Aa h.r fun b hb=>hs b (by have:=AN h.r b hb;omega)⟩
theorem Ge {L:List UInt8} {k:Nat} {q:Nat × Nat} (h:Cw L k=.error q):q.1≠0:=by
 unfold Cw at h;split at h
 ·split at h
  ·injection h with h;rw [←h];exact Nat.succ_ne_zero _
  ·cases h
 ·cases h
theorem Qf {w:World} {B:Nat} {T:TypeId} {a:Option Addr} {n c:Nat} {xs:List Value} {size:Nat} (h:w.ownsRow B T size (.slice a n c) n xs):0 < n→∃ ad,a=some ad∧∀ j u,xs[j]?=some u→w.cell? (ad.add j)=some u:=fun h0=>by
 have h2:=h;rcases h.2 with ⟨_,h3⟩ | ⟨q,cap,cur,e,_⟩
 ·omega
 ·injection e with e1 _ e2
  subst e1 e2;exact ⟨_,rfl,h2.cells rfl⟩
theorem GdSt.sec {w:World} {g:Nat} {a:Adr} {ta:Value} {ms:List Wm} {ma:Option Addr} {mc:Nat} {W:World} (h:GdSt w g a G1 ta .nilIface (.bool false) ms ma mc W) {b:Adr} {tb:Value} {ms2:List Wm} {mb:Option Addr} {mcb B2:Nat} (hg:g < B2) (hq:∀ q,(Value.slice ma ms.length mc).ownBlock=some q→q < B2)
  (hb2:TrO (fun x=>B2≤x∧(Value.slice mb ms2.length mcb).ownBlock≠some x) W b.tree tb) {W9:World} {m9:Option Addr} {c9:Nat} (e0:Below w.heap.size w W9) (hsz:W.heap.size≤W9.heap.size)
  (hp9:∀ x,x < W.heap.size→x≠g→(Value.slice ma ms.length mc).ownBlock≠some x→W9.heap[x]?=W.heap[x]?)
  (hq9:Blk W9 g #[.int .i64 (a.kind:Int),.int .i64 (a.line:Int),.string (txt a.text),ta,.int .i64 (b.kind:Int),.int .i64 (b.line:Int),.string (txt b.text),tb,.bool false] 42)
  (hr9:W9.ownsRow (w.heap.size+1) 33 2 (.slice m9 (ms.length+ms2.length) c9) (ms.length+ms2.length) (wmC ms++wmC ms2)) (hat:(Value.slice m9 (ms.length+ms2.length) c9).ownBlock=(Value.slice ma ms.length mc).ownBlock∨∃ x,(Value.slice m9 (ms.length+ms2.length) c9).ownBlock=some x∧W.heap.size≤x) :
  GdSt w g a b ta tb (.bool false) (ms++ms2) m9 c9 W9:=by
 have hpg:=h.pg;have hgl:=h.q.lt;have hn:∀ x,x < W.heap.size→(Value.slice ma ms.length mc).ownBlock≠some x→(Value.slice m9 (ms.length+ms2.length) c9).ownBlock≠some x:=fun x hx h1 e=>by
  rcases hat with h2 | ⟨y,h2,hy⟩
  ·exact h1 (h2.symm.trans e)
  ·rw [h2] at e;injection e with e;omega
 have hl:(ms++ms2).length=ms.length+ms2.length:=Adh;refine ⟨e0,Eg h.p (hp9 _ (by omega) (by omega) fun e=>by have:=AN h.r _ e;omega),hq9,hpg,?_,?_,?_,?_⟩
 ·rw [hl]
  exact TrO.keep hsz (fun x hx hl=>⟨⟨hx.1,hx.2.1,hn x hl hx.2.2⟩,fun o=>Adn (w:=W) (a:=⟨x,o,none⟩) (hp9 x hl hx.2.1 hx.2.2)⟩) h.ha
 ·rw [hl]
  refine TrO.keep hsz (fun x hx hl=>?_) hb2;have h1:(Value.slice ma ms.length mc).ownBlock≠some x:=fun e=>by have:=hq x e;have:=hx.1;omega
  have h2:x≠g:=by have:=hx.1;omega
  exact ⟨⟨by have:=hx.1;omega,h2,hn x hl h1⟩,fun o=>Adn (w:=W) (a:=⟨x,o,none⟩) (hp9 x hl h2 h1)⟩
 ·rw [hl,M0]
  exact hr9
 ·rw [hl]
  exact hn g hgl h.rg
theorem Abf {W:World} {g:Nat} {T:TypeId} {u0 u1 u2 u3 u4 u5 u6 u7 u8:Value} (h:Blk W g #[u0,u1,u2,u3,u4,u5,u6,u7,u8] T) (v4 v5 v6 v7:Value) (w':World)
  (hw:((((W.setCell ⟨g,4,none⟩ v4).setCell ⟨g,5,none⟩ v5).setCell ⟨g,6,none⟩ v6).setCell ⟨g,7,none⟩ v7)=w') :
  Blk w' g #[u0,u1,u2,u3,v4,v5,v6,v7,u8] T∧(∀ b,b≠g→w'.heap[b]?=W.heap[b]?)∧w'.heap.size=W.heap.size∧(∀ B,B≤g→Below B W w'):=by
 subst hw;have o1:∀ (w:World) (j:Nat) (v:Value) b,b≠g→(w.setCell ⟨g,j,none⟩ v).heap[b]?=w.heap[b]?:=fun w j v b hb=>Adl _ _ _ _ (fun e=>hb e)
 refine ⟨(((h.set 4 v4).set 5 v5).set 6 v6).set 7 v7,fun b hb=>?_,by simp [World.setCell],fun B hB=>?_⟩
 ·rw [o1 _ _ _ _ hb,o1 _ _ _ _ hb,o1 _ _ _ _ hb,o1 _ _ _ _ hb]
 ·exact (((((Adk _ _).setCell (p:=⟨g,4,none⟩) hB v4).setCell (p:=⟨g,5,none⟩) hB v5).setCell (p:=⟨g,6,none⟩) hB v6).setCell (p:=⟨g,7,none⟩) hB v7)
end
section
open Go Go.RowKit
theorem Ty (ext:Bool) (s:ByteArray) (k:Nat) (w:World) (hs:s.size≤4000000) (hk:k≤s.size) (hG:Gl w) (hP:GP w) :
  Calls Tryz.prog 33 #[.string s,.int .i64 (k:Int),.bool ext] w (GdA w (IW ext s.data.toList k)):=by
 have hA:=(Adk w.heap.size w).alloc (Adf _) (.cells gdZ 42);have hR0:=Blk.new w gdZ 42 w.heap.size rfl;obtain ⟨W,hW⟩:∃ W,w.alloc (.cells gdZ 42)=W:=⟨_,rfl⟩;rw [hW] at hA hR0;have hGW:=hG.up hA;have hPW:=hP.up hA;have hAd:=Rv ext false s k W hs hk hGW hPW;unfold IW;have hwe:∀ q,EN ext false s.data.toList k=.error q→q.1≠0:=fun q h=>Jg h
 have hle:∀ q,EN ext false s.data.toList k=.ok q→q.2.2≤s.size∧q.2.1.length≤251:=fun q h=>MI s (by omega) h
 generalize EN ext false s.data.toList k=R at hAd hwe hle ⊢;obtain ⟨A,hans⟩:∃ A,G2 s.data.toList (Ed ext s.data.toList R)=A:=⟨_,rfl⟩;rw [hans];have HAN:=Ac8 hans;have HA:=Ac8 hA;have HR0:=Ac8 hR0;have HG:=Ac8 hGW;have HP:=Ac8 hPW;clear hans hA hR0 hG hP hGW hPW;cases R with
 | error q=>
  obtain ⟨n,p⟩:=q;have hn:n≠0:=hwe _ rfl;have hnn:((n:Int) != 0)=true:=by simp;omega
  have HAE:=Ac8 (show (.error (n,p):BG Grd)=A from HAN.out);clear hwe hn hle;go_enter Tryz.func33,Tryz.ntmps33;go_upto_region 2 with (go_at_call 40;refine hAd.mono ?_;clear hAd;rintro e w1 ⟨b1,rfl⟩;have B1:=Ac8 (HA.out.trans (b1.mono HA.out.size));have K1:=Ac8 (HR0.out.below b1 HR0.out.lt);clear b1)
  have hlt1:=K1.out.lt;generalize hW2:w1.alloc _=w2;have hb2:=Ac hW2;have B2:=Ac8 (B1.out.trans (hb2.mono B1.out.size));have K2:=Ac8 (K1.out.below hb2 hlt1);clear hb2 hW2;obtain ⟨⟨z0,z1,z2,z3,z4,z5,z6,z7,z8⟩,v0,v1,v2,v3,v4,v5,v6,v7,v8,hz⟩:=BO K2.out;go_wp2_with fail
  first
   | (with_reducible refine Iy B2.out K2.out (Adf _) ?_;intro w9 hB9 hk9 hs9 hz9)
   | (have hB9:=B2.out;have hk9:=K2.out;generalize w2=w9 at *)
  clear z0 z1 z2 z3 z4 z5 z6 z7 z8 v0 v1 v2 v3 v4 v5 v6 v7 v8 hz;obtain ⟨⟨z0,z1,z2,z3,z4,z5,z6,z7,z8⟩,_⟩:=BO hk9;refine bodyPost_ret (v:=.tuple #[.agg gdZ,.slice none 0 0,.int .i64 (p:Int),.int .i64 (n:Int)]) (by simp [results,Tryz.results33,go_sem,z0,z1,z2,z3,z4,z5,z6,z7,z8]) rfl ?_;rw [←HAE.out];exact ⟨hB9,rfl⟩
 | ok q=>
  obtain ⟨a,ms,p⟩:=q;clear hwe;obtain ⟨hpl,hml⟩:=hle _ rfl;simp only at hpl hml;clear hle;have hAd:Calls Tryz.prog 40 #[.string s,.int .i64 (k:Int),.bool ext,.bool false] W fun e w'=>IJ W (.ok (a,ms,p)) e w':=hAd
  simp only [IJ] at hAd;go_enter Tryz.func33,Tryz.ntmps33;go_upto_region 2 with (go_at_call 40;refine hAd.mono ?_;clear hAd;rintro e w1 ⟨b1,ta,ma,mc,rfl,hta,hm⟩;have HT1:=Ac8 hta;have HM1:=Ac8 hm;have hsh:=hta.shape;have B1:=Ac8 (HA.out.trans (b1.mono HA.out.size));have C1:=Ac8 b1;have K1:=Ac8 (HR0.out.below b1 HR0.out.lt);clear b1 hta hm;rcases hsh with ⟨T9,q9,rfl⟩ | rfl)
  all_goals
   have hlt1:=K1.out.lt;generalize hW2:w1.alloc _=w2;have hb2:=Ac hW2;have hX:=Ae hW2;obtain ⟨x0,x1,x2,x3,_,_,_,_,hxl⟩:=Bd hX;have B2:=Ac8 hb2;clear hX;go_upto_region 5 with fail;generalize hW3:w2.alloc _=w3;have hb3:=Ac hW3;have hY:=Ae hW3;have hW0:=HR0.out.lt;have hg:w.heap.size < w2.heap.size:=by have:=hb2.size;omega
   have hb13:=(B2.out.trans (hb3.mono B2.out.size))
   have S3:=Ac8 (show GdSt w w2.heap.size a G1 _ .nilIface (.bool false) ms ma mc w3 from
    ⟨B1.out.trans (hb13.mono B1.out.size),K1.out.below hb13 hlt1,hY,hg,
     TrO.keep (F:=fun b=>W.heap.size≤b∧(Value.slice ma ms.length mc).ownBlock≠some b) hb13.size (fun b hb hl=>⟨⟨by have:=hb.1;omega,by have:=B2.out.size;omega,hb.2⟩,fun o=>hb13.cell (p:=⟨b,o,none⟩) hl⟩) HT1.out,rfl,
     BN (by omega) (Ag HM1.out hb13),fun e=>by have:=Kl HM1.out _ e;have:=hb2.size;omega⟩)
   have D3:=Ac8 (C1.out.trans (hb13.mono C1.out.size));obtain ⟨g,hgq⟩:∃ g,w2.heap.size=g:=⟨_,rfl⟩;rw [hgq] at S3 ⊢;have hxl3:w1.heap.size < w3.heap.size:=by have:=hb13.size;have:=hb3.size;omega
   replace x0:=(hb3.cell (p:=⟨w1.heap.size,0,none⟩) hxl).trans x0;replace x1:=(hb3.cell (p:=⟨w1.heap.size,1,none⟩) hxl).trans x1;replace x2:=(hb3.cell (p:=⟨w1.heap.size,2,none⟩) hxl).trans x2;replace x3:=(hb3.cell (p:=⟨w1.heap.size,3,none⟩) hxl).trans x3;clear hb2 hb3 hY hb13 hg hlt1 hW2 hW3 hW0 hgq;obtain ⟨kd,hkd⟩:∃ kd,a.kind=kd:=⟨_,rfl⟩;rw [hkd] at x0;have Hkd:=Ac8 hkd;by_cases hk0:kd=0
   ·subst hk0
    have HAE:=Ac8 (show F5 a G1 ms (Cw s.data.toList p)=A from by
     rw [←HAN.out];show _=G2 s.data.toList (if a.kind=0 then _ else _);rw [if_pos Hkd.out];rfl)
    clear hkd;go_upto_region 10 with fail
    (try clear x0);(try clear x1);(try clear x2);(try clear x3)
    have hnt:=Om s p w3 hs hpl;have hne9:∀ q,Cw s.data.toList p=.error q→q.1≠0:=fun q h=>Ge h
    generalize Cw s.data.toList p=N at hnt hne9 HAE;obtain ⟨⟨y0,y1,y2,y3,y4,y5,y6,y7,y8⟩,f0,f1,f2,f3,f4,f5,f6,f7,f8,hyl⟩:=BO S3.out.q;cases N with
    | error q=>
     obtain ⟨n2,p2⟩:=q;have hn:n2≠0:=hne9 _ rfl;have hnn:((n2:Int) != 0)=true:=by simp;omega
     clear hne9 hn;go_upto_region 11 with (go_at_call 42;refine hnt.mono ?_;clear hnt;rintro e w8 ⟨b8,rfl⟩;have S8:=Ac8 (S3.out.step b8);clear b8 y0 y1 y2 y3 y4 y5 y6 y7 y8 f0 f1 f2 f3 f4 f5 f6 f7 f8 hyl;obtain ⟨⟨y0,y1,y2,y3,y4,y5,y6,y7,y8⟩,f0,f1,f2,f3,f4,f5,f6,f7,f8,hyl⟩:=BO S8.out.q)
     have S9:=Ac8 (S8.out.not (.bool false));clear y0 y1 y2 y3 y4 y5 y6 y7 y8 f0 f1 f2 f3 f4 f5 f6 f7 f8 hyl;first
      | generalize w8.setCell ⟨g,8,none⟩ (.bool false)=w9 at *
      | (replace S9:=S8;generalize w8=w9 at *)
     obtain ⟨⟨z0,z1,z2,z3,z4,z5,z6,z7,z8⟩,v0,v1,v2,v3,v4,v5,v6,v7,v8,hz⟩:=BO S9.out.p;go_wp2_with fail
     first
      | (with_reducible refine Iy S9.out.b0 S9.out.p (Adf _) ?_;intro w10 hB9 hk9 hs9 hz9)
      | (have hB9:=S9.out.b0;have hk9:=S9.out.p;generalize w9=w10 at *)
     clear z0 z1 z2 z3 z4 z5 z6 z7 z8 v0 v1 v2 v3 v4 v5 v6 v7 v8 hz;obtain ⟨⟨z0,z1,z2,z3,z4,z5,z6,z7,z8⟩,_⟩:=BO hk9;refine bodyPost_ret (v:=.tuple #[.agg gdZ,.slice none 0 0,.int .i64 (p2:Int),.int .i64 (n2:Int)]) (by simp [results,Tryz.results33,go_sem,z0,z1,z2,z3,z4,z5,z6,z7,z8]) rfl ?_;rw [←HAE.out];exact ⟨hB9,rfl⟩
    | ok q=>
     obtain ⟨no,p2⟩:=q;clear hne9;go_upto_region 11 with (go_at_call 42;refine hnt.mono ?_;clear hnt;rintro e w8 ⟨b8,rfl⟩;have S8:=Ac8 (S3.out.step b8);clear b8 y0 y1 y2 y3 y4 y5 y6 y7 y8 f0 f1 f2 f3 f4 f5 f6 f7 f8 hyl;obtain ⟨⟨y0,y1,y2,y3,y4,y5,y6,y7,y8⟩,f0,f1,f2,f3,f4,f5,f6,f7,f8,hyl⟩:=BO S8.out.q)
     have S9:=Ac8 (S8.out.not (.bool no));clear y0 y1 y2 y3 y4 y5 y6 y7 y8 f0 f1 f2 f3 f4 f5 f6 f7 f8 hyl;generalize w8.setCell ⟨g,8,none⟩ (.bool no)=w9 at *;obtain ⟨⟨y0,y1,y2,y3,y4,y5,y6,y7,y8⟩,f0,f1,f2,f3,f4,f5,f6,f7,f8,hyl⟩:=BO S9.out.q;obtain ⟨⟨z0,z1,z2,z3,z4,z5,z6,z7,z8⟩,v0,v1,v2,v3,v4,v5,v6,v7,v8,hz⟩:=BO S9.out.p;have hwg:=S9.out.pg;go_wp2_with fail
     with_reducible refine Iy S9.out.b0 S9.out.p (Adf _) ?_
     intro w10 hB9 hk9 hs9 hz9;clear z0 z1 z2 z3 z4 z5 z6 z7 z8 v0 v1 v2 v3 v4 v5 v6 v7 v8 hz y0 y1 y2 y3 y4 y5 y6 y7 y8 f0 f1 f2 f3 f4 f5 f6 f7 f8 hyl;obtain ⟨⟨z0,z1,z2,z3,z4,z5,z6,z7,z8⟩,_⟩:=BO hk9;have hfin:=S9.out.end hB9 hs9 hz9 p2;rw [show (.ok (⟨_,_,no⟩,_,p2):BG Grd)=A from HAE.out] at hfin;exact bodyPost_ret (by simp [results,Tryz.results33,go_sem,z0,z1,z2,z3,z4,z5,z6,z7,z8]) rfl hfin
   ·have hkk:((kd:Int) != 0)=true:=by simp;omega
    have HAE:=Ac8 (show G2 s.data.toList (F4 a ms (BY ext s.data.toList p))=A from by
     rw [←HAN.out];show _=G2 s.data.toList (if a.kind=0 then _ else _);rw [if_neg (by rw [Hkd.out];exact hk0)])
    have hsc:=VV ext s p w3 hs hpl (HG.out.up D3.out) (HP.out.up D3.out);have hne:∀ q,BY ext s.data.toList p=.error q→q.1≠0:=fun q h=>L0 h
    have hle2:∀ q,BY ext s.data.toList p=.ok q→q.2.2≤s.size∧q.2.1.length≤251:=fun q h=>VU s hpl h
    generalize BY ext s.data.toList p=R2 at hsc hne hle2 HAE;clear hkd hk0;go_upto_region 6 with fail;clear x0 x1 x2 x3;cases R2 with
    | error q=>
     obtain ⟨n2,p2⟩:=q;have hn:n2≠0:=hne _ rfl;have hnn:((n2:Int) != 0)=true:=by simp;omega
     clear hne hle2 hn;go_upto_region 7 with (go_at_call 41;refine hsc.mono ?_;clear hsc;rintro e w5 ⟨b5,rfl⟩;have S5:=Ac8 (S3.out.step b5);clear b5)
     generalize hW6:w5.alloc _=w6;have S6:=Ac8 (S5.out.step (Ac hW6));clear hW6;obtain ⟨⟨z0,z1,z2,z3,z4,z5,z6,z7,z8⟩,v0,v1,v2,v3,v4,v5,v6,v7,v8,hz⟩:=BO S6.out.p;go_wp2_with fail
     first
      | (with_reducible refine Iy S6.out.b0 S6.out.p (Adf _) ?_;intro w10 hB9 hk9 hs9 hz9)
      | (have hB9:=S6.out.b0;have hk9:=S6.out.p;generalize w6=w10 at *)
     clear z0 z1 z2 z3 z4 z5 z6 z7 z8 v0 v1 v2 v3 v4 v5 v6 v7 v8 hz;obtain ⟨⟨z0,z1,z2,z3,z4,z5,z6,z7,z8⟩,_⟩:=BO hk9;refine bodyPost_ret (v:=.tuple #[.agg gdZ,.slice none 0 0,.int .i64 (p2:Int),.int .i64 (n2:Int)]) (by simp [results,Tryz.results33,go_sem,z0,z1,z2,z3,z4,z5,z6,z7,z8]) rfl ?_;rw [←HAE.out];exact ⟨hB9,rfl⟩
    | ok q=>
     obtain ⟨b,ms2,p2⟩:=q;clear hne;obtain ⟨hpl2,hml2⟩:=hle2 _ rfl;simp only at hpl2 hml2;clear hle2;replace HAE:=Ac8 (show F5 a b (ms++ms2) (Cw s.data.toList p2)=A from HAE.out);have hsc:Calls Tryz.prog 41 #[.string s,.int .i64 (p:Int),.bool ext] w3 fun e w'=>IJ w3 (.ok (b,ms2,p2)) e w':=hsc
     simp only [IJ] at hsc;go_upto_region 7 with (go_at_call 41;refine hsc.mono ?_;clear hsc;rintro e w5 ⟨b5,tb,mb,mcb,rfl,htb,hmb⟩;have S5:=Ac8 (S3.out.step b5);have T5:=Ac8 htb;have M5:=Ac8 hmb;have Z5:=Ac8 b5.size;have hsh2:=htb.shape;clear b5 htb hmb;rcases hsh2 with ⟨T8,q8,rfl⟩ | rfl)
     all_goals
      generalize hW6:w5.alloc _=w6;have hb6:=Ac hW6;have hX:=Ae hW6;have S6:=Ac8 (S5.out.step hb6);have T6:=Ac8 (TrO.below hb6 T5.out);have M6:=Ac8 (Ag M5.out hb6);have HX:=Ac8 hX;have Hg3:=Ac8 S3.out.q.lt;have Hq3:=Ac8 (fun q (e:(Value.slice ma ms.length mc).ownBlock=some q)=>Kl S3.out.r q e);have Hx5:=Ac8 (show w3.heap.size≤w5.heap.size from Z5.out);obtain ⟨x,hx⟩:∃ x,w5.heap.size=x:=⟨_,rfl⟩;have Hxl:=Ac8 (show x < w6.heap.size by rw [←hx];exact hX.lt);rw [hx] at HX Hx5 ⊢;clear hb6 hX hW6 hx;obtain ⟨x0,x1,x2,x3,_,_,_,_,hxl⟩:=Bd HX.out;obtain ⟨⟨y0,y1,y2,y3,y4,y5,y6,y7,y8⟩,f0,f1,f2,f3,f4,f5,f6,f7,f8,hyl⟩:=BO S6.out.q;obtain ⟨i0,hi,hz0,hz1,hz2⟩:=Co;have hm1:ms.length+ms2.length≤maxLen:=by unfold maxLen;omega
      have hm2:(ms.length+ms2.length) * 24≤140737488355328:=by omega
      have hbs:w.heap.size+1≤w6.heap.size:=by have:=S6.out.pg;omega
      have hxo:(Value.slice ma ms.length mc).ownBlock≠some x:=fun e=>by have:=Hq3.out x e;have:=Hx5.out;omega
      have HXO:=Ac8 hxo;clear hxo;go_upto_region 9 with fail
      go_region_law (first
       | (refine A1 rfl _ _ 26 rfl (w.heap.size+1) 33 i0 (.agg #[.int .i64 0,.string ⟨#[]⟩]) 2 24 Tryz.underlying26 hi hz0 hz1 hz2 rfl (by decide) (.slice ma ms.length mc) ms.length (wmC ms) rfl S6.out.r mb ms2.length mcb (wmC ms2) rfl (M1 ms2) (Qf M6.out) (M2 ms2) hm1 hm2 hbs ?_;intro v7 w7 hown7 hgr7 hat7;obtain ⟨m7,c7,rfl⟩:=A7 hown7;have HO7:=Ac8 hown7;have HG7:=Ac8 hgr7;have HA7:=Ac8 hat7;have HX7:=Ac8 (AE HX.out.drew hgr7 HXO.out);have HY7:=Ac8 (AE S6.out.q.drew hgr7 S6.out.rg);clear hown7 hgr7 hat7 x0 x1 x2 x3 hxl y0 y1 y2 y3 y4 y5 y6 y7 y8 f0 f1 f2 f3 f4 f5 f6 f7 f8 hyl;obtain ⟨x0,x1,x2,x3,_,_,_,_,hxl⟩:=Bd HX7.out;obtain ⟨⟨y0,y1,y2,y3,y4,y5,y6,y7,y8⟩,f0,f1,f2,f3,f4,f5,f6,f7,f8,hyl⟩:=BO HY7.out))
      all_goals
       have hS7:=HG7.out.size;generalize hW8:((((w7.setCell ⟨g,4,none⟩ _).setCell ⟨g,5,none⟩ _).setCell ⟨g,6,none⟩ _).setCell ⟨g,7,none⟩ _)=w8;obtain ⟨k1,k2,k3,k4⟩:=Abf HY7.out _ _ _ _ w8 hW8;have hgl:=S6.out.q.lt;have hpg:=S6.out.pg;have hng:∀ q,(Value.slice m7 (ms.length+ms2.length) c7).ownBlock=some q→q≠g:=fun q e e2=>by
        subst e2;rcases HA7.out with h | h
        ·exact S6.out.rg (h.symm.trans e)
        ·rw [h] at e;injection e with e;have:w6.heap.size=q:=e;omega
       have S9:=Ac8 (GdSt.sec S6.out Hg3.out Hq3.out T6.out (((S6.out.b0.drew).grown HG7.out S6.out.b0.size (fun q e=>Nat.le_of_succ_le (AN S6.out.r q e))).trans (k4 _ (Adj hpg))) (by have:w6.heap.size≤w7.heap.size:=hS7;omega)
        (fun y hy h1 h2=>(k2 y h1).trans (HG7.out.block y hy fun e=>h2 e.symm)) k1 (Aa HO7.out fun q e=>k2 q (hng q e)) (HA7.out.imp id fun e=>⟨_,e,Adf _⟩))
       have Hm7:=Ac8 (show (ms++ms2).length=ms.length+ms2.length from Adh);clear k1 k2 k3 k4 hgl hpg hng hS7 hW8 x0 x1 x2 x3 hxl y0 y1 y2 y3 y4 y5 y6 y7 y8 f0 f1 f2 f3 f4 f5 f6 f7 f8 hyl;go_upto_region 10 with fail;have hnt:=Om s p2 w8 hs hpl2;have hne9:∀ q,Cw s.data.toList p2=.error q→q.1≠0:=fun q h=>Ge h
       generalize Cw s.data.toList p2=N at hnt hne9 HAE;obtain ⟨⟨y0,y1,y2,y3,y4,y5,y6,y7,y8⟩,f0,f1,f2,f3,f4,f5,f6,f7,f8,hyl⟩:=BO S9.out.q;cases N with
       | error q=>
        obtain ⟨n2,p2⟩:=q;have hn:n2≠0:=hne9 _ rfl;have hnn:((n2:Int) != 0)=true:=by simp;omega
        clear hne9 hn;go_upto_region 11 with (go_at_call 42;refine hnt.mono ?_;clear hnt;rintro e w8 ⟨b8,rfl⟩;have S8:=Ac8 (S9.out.step b8);clear b8 y0 y1 y2 y3 y4 y5 y6 y7 y8 f0 f1 f2 f3 f4 f5 f6 f7 f8 hyl;obtain ⟨⟨y0,y1,y2,y3,y4,y5,y6,y7,y8⟩,f0,f1,f2,f3,f4,f5,f6,f7,f8,hyl⟩:=BO S8.out.q)
        have S9:=Ac8 (S8.out.not (.bool false));clear y0 y1 y2 y3 y4 y5 y6 y7 y8 f0 f1 f2 f3 f4 f5 f6 f7 f8 hyl;first
         | generalize w8.setCell ⟨g,8,none⟩ (.bool false)=w9 at *
         | (replace S9:=S8;generalize w8=w9 at *)
        obtain ⟨⟨z0,z1,z2,z3,z4,z5,z6,z7,z8⟩,v0,v1,v2,v3,v4,v5,v6,v7,v8,hz⟩:=BO S9.out.p;go_wp2_with fail
        first
         | (with_reducible refine Iy S9.out.b0 S9.out.p (Adf _) ?_;intro w10 hB9 hk9 hs9 hz9)
         | (have hB9:=S9.out.b0;have hk9:=S9.out.p;generalize w9=w10 at *)
        clear z0 z1 z2 z3 z4 z5 z6 z7 z8 v0 v1 v2 v3 v4 v5 v6 v7 v8 hz;obtain ⟨⟨z0,z1,z2,z3,z4,z5,z6,z7,z8⟩,_⟩:=BO hk9;refine bodyPost_ret (v:=.tuple #[.agg gdZ,.slice none 0 0,.int .i64 (p2:Int),.int .i64 (n2:Int)]) (by simp [results,Tryz.results33,go_sem,z0,z1,z2,z3,z4,z5,z6,z7,z8]) rfl ?_;rw [←HAE.out];exact ⟨hB9,rfl⟩
       | ok q=>
        obtain ⟨no,p2⟩:=q;clear hne9;go_upto_region 11 with (go_at_call 42;refine hnt.mono ?_;clear hnt;rintro e w8 ⟨b8,rfl⟩;have S8:=Ac8 (S9.out.step b8);clear b8 y0 y1 y2 y3 y4 y5 y6 y7 y8 f0 f1 f2 f3 f4 f5 f6 f7 f8 hyl;obtain ⟨⟨y0,y1,y2,y3,y4,y5,y6,y7,y8⟩,f0,f1,f2,f3,f4,f5,f6,f7,f8,hyl⟩:=BO S8.out.q)
        have S9:=Ac8 (S8.out.not (.bool no));clear y0 y1 y2 y3 y4 y5 y6 y7 y8 f0 f1 f2 f3 f4 f5 f6 f7 f8 hyl;generalize w8.setCell ⟨g,8,none⟩ (.bool no)=w9 at *;obtain ⟨⟨y0,y1,y2,y3,y4,y5,y6,y7,y8⟩,f0,f1,f2,f3,f4,f5,f6,f7,f8,hyl⟩:=BO S9.out.q;obtain ⟨⟨z0,z1,z2,z3,z4,z5,z6,z7,z8⟩,v0,v1,v2,v3,v4,v5,v6,v7,v8,hz⟩:=BO S9.out.p;have hwg:=S9.out.pg;go_wp2_with fail
        with_reducible refine Iy S9.out.b0 S9.out.p (Adf _) ?_
        intro w10 hB9 hk9 hs9 hz9;clear z0 z1 z2 z3 z4 z5 z6 z7 z8 v0 v1 v2 v3 v4 v5 v6 v7 v8 hz y0 y1 y2 y3 y4 y5 y6 y7 y8 f0 f1 f2 f3 f4 f5 f6 f7 f8 hyl;obtain ⟨⟨z0,z1,z2,z3,z4,z5,z6,z7,z8⟩,_⟩:=BO hk9;have hfin:=S9.out.end hB9 hs9 hz9 p2;rw [show (.ok (⟨_,_,no⟩,_,p2):BG Grd)=A from HAE.out] at hfin;exact bodyPost_ret (by simp [results,Tryz.results33,go_sem,z0,z1,z2,z3,z4,z5,z6,z7,z8]) rfl hfin
end
section
open Go Go.RowKit
theorem AD {P:Program} {md:Region.Mode} {ops:Array Oper} {Q:Exit→Act→World→Prop} {S:World→Prop} (i:Nat) {oi:Oper} (v:Value) {fuel:Nat} {listed:Array Bool} {a:Act} {w:World} (hi:ops[i]?=some oi) (hS:S w) (hy:YieldsIf P ops S oi v a) (h:wpAnyH P md ops Q S fuel (listed.setIfInBounds i true) (a.put oi.dst v) w)
  (hs:Region.noSelect ops=true:=by kernel_rfl) (hf:Region.free md ops listed i=true:=by kernel_rfl) (hr:(Region.ready md ops listed).contains i=true:=by kernel_rfl) (hQ:∀ c a w,Q (.panic c) (a.put oi.dst v) w→Q (.panic c) a w:=by exact fun _ _ _ h=>h):wpAnyH P md ops Q S (fuel+1) listed a w:=
 wpAnyH_take hi hs hf hr hQ hy hS h
theorem Abg {w:World} {b:Nat} {T:TypeId} {v0 v1 v2 v3 v4 v5 v6 v7 v8 v9 v10 v11 v12 v13 v14 v15 v16 v17 v18 v19 v20 v21 v22 v23:Value} (h:Blk w b #[v0,v1,v2,v3,v4,v5,v6,v7,v8,v9,v10,v11,v12,v13,v14,v15,v16,v17,v18,v19,v20,v21,v22,v23] T) :
  (w.cell? ⟨b,0,none⟩=some v0∧w.cell? ⟨b,1,none⟩=some v1∧w.cell? ⟨b,2,none⟩=some v2)∧(w.cell? ⟨b,3,none⟩=some v3∧w.cell? ⟨b,4,none⟩=some v4∧w.cell? ⟨b,5,none⟩=some v5∧w.cell? ⟨b,6,none⟩=some v6∧w.cell? ⟨b,7,none⟩=some v7∧w.cell? ⟨b,8,none⟩=some v8∧w.cell? ⟨b,9,none⟩=some v9∧w.cell? ⟨b,10,none⟩=some v10∧w.cell? ⟨b,11,none⟩=some v11∧w.cell? ⟨b,12,none⟩=some v12)∧(w.cell? ⟨b,13,none⟩=some v13∧w.cell? ⟨b,14,none⟩=some v14∧w.cell? ⟨b,15,none⟩=some v15∧w.cell? ⟨b,16,none⟩=some v16∧w.cell? ⟨b,17,none⟩=some v17∧w.cell? ⟨b,18,none⟩=some v18∧w.cell? ⟨b,19,none⟩=some v19∧w.cell? ⟨b,20,none⟩=some v20∧w.cell? ⟨b,21,none⟩=some v21∧w.cell? ⟨b,22,none⟩=some v22∧w.cell? ⟨b,23,none⟩=some v23)∧b < w.heap.size:=
 ⟨⟨(h.cell 0).trans rfl,(h.cell 1).trans rfl,(h.cell 2).trans rfl⟩,⟨(h.cell 3).trans rfl,(h.cell 4).trans rfl,(h.cell 5).trans rfl,(h.cell 6).trans rfl,(h.cell 7).trans rfl,(h.cell 8).trans rfl,(h.cell 9).trans rfl,(h.cell 10).trans rfl,(h.cell 11).trans rfl,(h.cell 12).trans rfl⟩,⟨(h.cell 13).trans rfl,(h.cell 14).trans rfl,(h.cell 15).trans rfl,(h.cell 16).trans rfl,(h.cell 17).trans rfl,(h.cell 18).trans rfl,(h.cell 19).trans rfl,(h.cell 20).trans rfl,(h.cell 21).trans rfl,(h.cell 22).trans rfl,(h.cell 23).trans rfl⟩,h.lt⟩
def cpC (l:List Cp):List Value:=l.flatMap fun c=>[.int .i64 c.1,.string (txt c.2)]
theorem Oo (l:List Cp) (c:Cp):cpC (l++[c])=cpC l++[.int .i64 c.1,.string (txt c.2)]:=by simp [cpC]
def cmC (s:ByteArray) (ext:Bool) (st:CS) (ta tb ts pv mv:Value):Array Value:=
 #[.string s,.bool ext,.int .i64 (st.k:Int),.int .i64 (st.c.pl:Int),.int .i64 (st.c.g.a.kind:Int),.int .i64 (st.c.g.a.line:Int),.string (txt st.c.g.a.text),ta,.int .i64 (st.c.g.b.kind:Int),.int .i64 (st.c.g.b.line:Int),.string (txt st.c.g.b.text),tb,.bool st.c.g.no,.int .u8 st.c.name.toNat,.string (txt st.c.arg),.string (txt st.c.sub.text),ts,pv,.int .i64 (st.c.sub.nth:Int),.bool st.c.sub.all,.bool st.c.sub.prt,.string (txt st.c.sub.file),.string (txt st.c.table),mv]
structure CmSt (w:World) (p:Nat) (s:ByteArray) (ext:Bool) (st:CS) (ta tb ts:Value) (pa:Option Addr) (pc:Nat) (ma:Option Addr) (mc:Nat) (W:World):Prop where
 b0:Below w.heap.size w W
 q:Blk W p (cmC s ext st ta tb ts (.slice pa st.c.sub.parts.length pc) (.slice ma st.ms.length mc)) 79
 pg:w.heap.size≤p
 ha:TrO (fun b=>w.heap.size≤b∧b≠p∧(Value.slice ma st.ms.length mc).ownBlock≠some b) W st.c.g.a.tree ta
 hb:TrO (fun b=>w.heap.size≤b∧b≠p∧(Value.slice ma st.ms.length mc).ownBlock≠some b) W st.c.g.b.tree tb
 hs:TrO (fun b=>w.heap.size≤b∧b≠p∧(Value.slice ma st.ms.length mc).ownBlock≠some b) W st.c.sub.tree ts
 r:W.ownsRow w.heap.size 33 2 (.slice ma st.ms.length mc) st.ms.length (wmC st.ms)
 rg:(Value.slice ma st.ms.length mc).ownBlock≠some p
 pr:W.ownsRow w.heap.size 74 2 (.slice pa st.c.sub.parts.length pc) st.c.sub.parts.length (cpC st.c.sub.parts)
 pp:∀ b,(Value.slice pa st.c.sub.parts.length pc).ownBlock=some b→b≠p∧(Value.slice ma st.ms.length mc).ownBlock≠some b
def Dg (w:World) (p:Nat) (s:ByteArray) (ext:Bool) (st:CS) (W:World):Prop:=∃ ta tb ts pa pc ma mc,CmSt w p s ext st ta tb ts pa pc ma mc W
theorem CmSt.step {w:World} {p:Nat} {s:ByteArray} {ext:Bool} {st:CS} {ta tb ts:Value} {pa:Option Addr} {pc:Nat} {ma:Option Addr} {mc:Nat} {W W':World} (h:CmSt w p s ext st ta tb ts pa pc ma mc W) (hb:Below W.heap.size W W'):CmSt w p s ext st ta tb ts pa pc ma mc W':=
 ⟨h.b0.trans (hb.mono h.b0.size),h.q.below hb h.q.lt,h.pg,h.ha.below hb,h.hb.below hb,h.hs.below hb,Ag h.r hb,h.rg,Ag h.pr hb,h.pp⟩
theorem Dg.step {w:World} {p:Nat} {s:ByteArray} {ext:Bool} {st:CS} {W W':World} (h:Dg w p s ext st W) (hb:Below W.heap.size W W'):Dg w p s ext st W':=by
 obtain ⟨ta,tb,ts,pa,pc,ma,mc,h⟩:=h;exact ⟨ta,tb,ts,pa,pc,ma,mc,h.step hb⟩
theorem CmSt.put {w:World} {p:Nat} {s:ByteArray} {ext:Bool} {st:CS} {ta tb ts:Value} {pa:Option Addr} {pc:Nat} {ma:Option Addr} {mc:Nat} {W:World} (h:CmSt w p s ext st ta tb ts pa pc ma mc W) (j:Nat) (v:Value) (st':CS) (hg:st'.c.g=st.c.g) (ht:st'.c.sub.tree=st.c.sub.tree) (hp:st'.c.sub.parts=st.c.sub.parts) (hm:st'.ms=st.ms)
  (e:∀ pv mv,(cmC s ext st ta tb ts pv mv).setIfInBounds j v=cmC s ext st' ta tb ts pv mv):CmSt w p s ext st' ta tb ts pa pc ma mc (W.setCell ⟨p,j,none⟩ v):=by
 have o1:∀ b,b≠p→(W.setCell ⟨p,j,none⟩ v).heap[b]?=W.heap[b]?:=fun b hb=>Adl _ _ _ _ (fun e=>hb e)
 have hsz:(W.setCell ⟨p,j,none⟩ v).heap.size=W.heap.size:=by simp [World.setCell]
 have hk:∀ {t x},TrO (fun b=>w.heap.size≤b∧b≠p∧(Value.slice ma st.ms.length mc).ownBlock≠some b) W t x→TrO (fun b=>w.heap.size≤b∧b≠p∧(Value.slice ma st.ms.length mc).ownBlock≠some b) (W.setCell ⟨p,j,none⟩ v) t x:=fun hk=>TrO.keep (by omega) (fun b hb _=>⟨hb,fun o=>Adn (w:=W) (a:=⟨b,o,none⟩) (o1 b hb.2.1)⟩) hk
 refine ⟨h.b0.setCell (p:=⟨p,j,none⟩) h.pg v,?_,h.pg,?_,?_,?_,?_,?_,?_,?_⟩
 ·have h9:=h.q.set j v
  rw [e] at h9;rw [hp,hm];exact h9
 ·rw [hg,hm];exact hk h.ha
 ·rw [hg,hm];exact hk h.hb
 ·rw [ht,hm];exact hk h.hs
 ·rw [hm];exact Aa h.r fun b hb=>o1 b fun e=>h.rg (by rw [hb,e])
 ·rw [hm];exact h.rg
 ·rw [hp];exact Aa h.pr fun b hb=>o1 b (h.pp b hb).1
 ·rw [hp,hm];exact h.pp
theorem CmSt.go {w:World} {p:Nat} {s:ByteArray} {ext:Bool} {st:CS} {ta tb ts:Value} {pa:Option Addr} {pc:Nat} {ma:Option Addr} {mc:Nat} {W:World} (h:CmSt w p s ext st ta tb ts pa pc ma mc W) (k:Nat):CmSt w p s ext (st.go k) ta tb ts pa pc ma mc (W.setCell ⟨p,2,none⟩ (.int .i64 (k:Int))):=
 h.put 2 _ (st.go k) rfl rfl rfl rfl fun _ _=>rfl
end
section
open Go Go.RowKit
theorem CmSt.push {w:World} {p:Nat} {s:ByteArray} {ext:Bool} {st:CS} {ta tb ts:Value} {pa:Option Addr} {pc:Nat} {ma:Option Addr} {mc:Nat} {W:World} (h:CmSt w p s ext st ta tb ts pa pc ma mc W) {W1 W6:World} (hb:Below W.heap.size W W1) {n:Nat} {ms2:List Wm} (hn:ms2.length=n) {a6:Option Addr} {c6:Nat}
  (hg:W1.grownBy W6 (Value.slice ma st.ms.length mc).ownBlock) (ho:W6.ownsRow w.heap.size 33 2 (.slice a6 (st.ms.length+n) c6) (st.ms.length+n) (wmC st.ms++wmC ms2))
  (hat:(Value.slice a6 (st.ms.length+n) c6).ownBlock=(Value.slice ma st.ms.length mc).ownBlock∨(Value.slice a6 (st.ms.length+n) c6).ownBlock=some W1.heap.size) :
  CmSt w p s ext { st with ms:=st.ms++ms2 } ta tb ts pa pc a6 c6 (W6.setCell ⟨p,23,none⟩ (.slice a6 (st.ms.length+n) c6)):=by
 subst hn;have hl:(st.ms++ms2).length=st.ms.length+ms2.length:=Adh;have hs1:=hb.size;have hs6:=hg.size;have hp1:=h.q.lt;have o1:∀ b,b≠p→(W6.setCell ⟨p,23,none⟩ (.slice a6 (st.ms.length+ms2.length) c6)).heap[b]?=W6.heap[b]?:=fun b hb=>Adl _ _ _ _ (fun e=>hb e)
 have hsz:(W6.setCell ⟨p,23,none⟩ (.slice a6 (st.ms.length+ms2.length) c6)).heap.size=W6.heap.size:=by simp [World.setCell]
 have hnew:∀ b,b < W.heap.size→(Value.slice ma st.ms.length mc).ownBlock≠some b→(Value.slice a6 (st.ms.length+ms2.length) c6).ownBlock≠some b:=fun b hl h1 e=>by
  rcases hat with h2 | h2
  ·exact h1 (h2.symm.trans e)
  ·rw [h2] at e;injection e with e;omega
 have hkb:∀ b,b < W.heap.size→b≠p→(Value.slice ma st.ms.length mc).ownBlock≠some b→(W6.setCell ⟨p,23,none⟩ (.slice a6 (st.ms.length+ms2.length) c6)).heap[b]?=W.heap[b]?:=fun b hl h1 h2=>by
  rw [o1 b h1,hg.block b (by omega) (fun e=>h2 e.symm),hb.block b hl]
 have hk:∀ {t x},TrO (fun b=>w.heap.size≤b∧b≠p∧(Value.slice ma st.ms.length mc).ownBlock≠some b) W t x→TrO (fun b=>w.heap.size≤b∧b≠p∧(Value.slice a6 (st.ms.length+ms2.length) c6).ownBlock≠some b) (W6.setCell ⟨p,23,none⟩ (.slice a6 (st.ms.length+ms2.length) c6)) t x:=fun hk=>TrO.keep (by omega) (fun b hb hl=>⟨⟨hb.1,hb.2.1,hnew b hl hb.2.2⟩,fun o=>Adn (w:=W) (a:=⟨b,o,none⟩) (hkb b hl hb.2.1 hb.2.2)⟩) hk
 have hb0:Below w.heap.size w (W6.setCell ⟨p,23,none⟩ (.slice a6 (st.ms.length+ms2.length) c6)):=by
  have h0:=h.b0;have hs0:=h0.size;refine ⟨hg.os.trans (hb.os.trans h0.os),hg.tape.trans (hb.tape.trans h0.tape),hg.output.trans (hb.output.trans h0.output),by omega,fun b hl=>?_⟩;have:=h.pg;rw [hkb b (by omega) (by omega) (fun e=>by have:=AN h.r b e;omega),h0.block b hl]
 refine ⟨hb0,?_,h.pg,?_,?_,?_,?_,?_,?_,?_⟩
 ·have h9:=(AE (h.q.below hb h.q.lt) hg h.rg).set 23 (.slice a6 (st.ms.length+ms2.length) c6)
  show Blk _ p (cmC s ext { st with ms:=st.ms++ms2 } ta tb ts (.slice pa st.c.sub.parts.length pc) (.slice a6 (st.ms++ms2).length c6)) _;rw [hl];exact h9
 ·show TrO (fun b=>w.heap.size≤b∧b≠p∧(Value.slice a6 (st.ms++ms2).length c6).ownBlock≠some b) _ _ _
  rw [hl];exact hk h.ha
 ·show TrO (fun b=>w.heap.size≤b∧b≠p∧(Value.slice a6 (st.ms++ms2).length c6).ownBlock≠some b) _ _ _
  rw [hl];exact hk h.hb
 ·show TrO (fun b=>w.heap.size≤b∧b≠p∧(Value.slice a6 (st.ms++ms2).length c6).ownBlock≠some b) _ _ _
  rw [hl];exact hk h.hs
 ·show World.ownsRow _ w.heap.size _ 2 (.slice a6 (st.ms++ms2).length c6) (st.ms++ms2).length (wmC (st.ms++ms2))
  rw [hl,M0];exact Aa ho fun b hb=>o1 b fun e=>hnew p hp1 h.rg (by rw [hb,e])
 ·show (Value.slice a6 (st.ms++ms2).length c6).ownBlock≠some p
  rw [hl];exact hnew p hp1 h.rg
 ·exact Aa h.pr fun b hb=>hkb b (AA h.pr b hb) (h.pp b hb).1 (h.pp b hb).2
 ·intro b hb
  show b≠p∧(Value.slice a6 (st.ms++ms2).length c6).ownBlock≠some b;rw [hl];exact ⟨(h.pp b hb).1,hnew b (AA h.pr b hb) (h.pp b hb).2⟩
theorem L1 (w:World) (p:Nat) (s:ByteArray) (ext:Bool) (st:CS) (ta tb ts:Value) (pa:Option Addr) (pc:Nat) (ma:Option Addr) (mc:Nat) (wd:ByteArray) (W:World) (h:CmSt w p s ext st ta tb ts pa pc ma mc W) (hl:st.ms.length≤100000) :
  Calls Tryz.prog 69 #[.pointer (some ⟨p,0,none⟩),.string wd] W fun e W'=>e=.returned (.tuple #[])∧∃ a6 c6,CmSt w p s ext (st.mark st.k wd.data.toList) ta tb ts pa pc a6 c6 W':=by
 obtain ⟨i0,hi,hz0,hz1,hz2⟩:=Co;have HH:=Ac8 h;have hplt:=h.q.lt;have k2:W.cell? ⟨p,2,none⟩=some (.int .i64 (st.k:Int)):=(h.q.cell 2).trans rfl;have k23:W.cell? ⟨p,23,none⟩=some (.slice ma st.ms.length mc):=(h.q.cell 23).trans rfl;have hm1:st.ms.length+1≤maxLen:=by unfold maxLen;omega
 have hm2:(st.ms.length+1) * 24≤140737488355328:=by omega
 have hlo:w.heap.size≤W.heap.size:=h.b0.size;have Hl:=Ac8 hlo;clear h;go_enter Tryz.func69,Tryz.ntmps69
 go_region_law (first
  | (refine A1 rfl _ _ 26 rfl w.heap.size 33 i0 (.agg #[.int .i64 0,.string ⟨#[]⟩]) 2 24 Tryz.underlying26 hi hz0 hz1 hz2 rfl (by decide) (.slice ma st.ms.length mc) st.ms.length (wmC st.ms) rfl (Ag HH.out.r (by repeat (first | (with_reducible exact Adk _ _) | refine Below.drew ?_ | refine Below.alloc ?_ (Adf _) _))) (some ⟨W.heap.size,0,none⟩) 1 1 (JI ((st.k:Int),wd)) rfl rfl (fun _=>⟨_,rfl,JJ W ((st.k:Int),wd) _⟩) (Ha _) hm1 hm2 (by simp;omega) ?_;intro v6 w6 hown6 hgrow6 hat6;obtain ⟨a6,c6,rfl⟩:=A7 hown6;have HP:=Ac8 (HH.out.push (n:=1) (ms2:=[((st.k:Int),wd)]) (((Adk W.heap.size W).alloc (Adf _) _).drew) rfl hgrow6 (by simpa [wmC] using hown6) hat6);have f23:=(AE (HH.out.q.below (((Adk W.heap.size W).alloc (Adf _) _).drew) HH.out.q.lt) hgrow6 HH.out.rg).frozen 23;have g23:w6.cell? ⟨p,23,none⟩=some (.slice ma st.ms.length mc):=((AE (HH.out.q.below (((Adk W.heap.size W).alloc (Adf _) _).drew) HH.out.q.lt) hgrow6 HH.out.rg).cell 23).trans rfl;clear hown6 hgrow6 hat6))
 all_goals go_wp2_with fail
 all_goals go_end0
 all_goals exact ⟨rfl,_,_,HP.out⟩
end
section
open Go Go.RowKit
theorem CmSt.drewN {w:World} {p:Nat} {s:ByteArray} {ext:Bool} {st:CS} {ta tb ts:Value} {pa:Option Addr} {pc:Nat} {ma:Option Addr} {mc:Nat} {W:World} (h:CmSt w p s ext st ta tb ts pa pc ma mc W) (n:Nat):CmSt w p s ext st ta tb ts pa pc ma mc (W.drewN n):=h.step (below_drewN (Adk _ _) n)
theorem CmSt.drew {w:World} {p:Nat} {s:ByteArray} {ext:Bool} {st:CS} {ta tb ts:Value} {pa:Option Addr} {pc:Nat} {ma:Option Addr} {mc:Nat} {W:World} (h:CmSt w p s ext st ta tb ts pa pc ma mc W):CmSt w p s ext st ta tb ts pa pc ma mc W.drew:=h.step (Adk _ _).drew
theorem CmSt.R {w:World} {p:Nat} {s:ByteArray} {ext:Bool} {st:CS} {ta tb ts:Value} {pa:Option Addr} {pc:Nat} {ma:Option Addr} {mc:Nat} {W:World} (h:CmSt w p s ext st ta tb ts pa pc ma mc W):Dg w p s ext st W:=⟨_,_,_,_,_,_,_,h⟩
theorem H9 (s:ByteArray) (k:Nat) (hs:s.size≤4000000) (hk:k≤s.size) (w:World):Calls Tryz.prog 66 #[.string s,.int .i64 (k:Int)] w fun e w'=>e=.returned (.int .i64 (Ak s.data.toList k:Int))∧Below w.heap.size w w':=by
 have e:=IA s k w hs;rw [Du _ _ _ (by rw [←Ad];exact hk)] at e;exact e
theorem Km (w:World) (p:Nat) (s:ByteArray) (ext:Bool) (st:CS) (W:World) (h:Dg w p s ext st W) (hs:s.size≤4000000) (hk:st.k≤s.size) (hl:st.ms.length≤100000) :
  Calls Tryz.prog 50 #[.pointer (some ⟨p,0,none⟩)] W fun e W'=>e=.returned (.int .i64 ((BZ s.data.toList st).1:Int))∧Dg w p s ext (BZ s.data.toList st).2 W':=by
 obtain ⟨ta,tb,ts,pa,pc,ma,mc,h⟩:=h;have hB:=H9 s st.k hs hk;obtain ⟨K,hK⟩:∃ K,Ak s.data.toList st.k=K:=⟨_,rfl⟩;have hKl:K≤s.size:=by rw [←hK,Ad];exact (F6 _ _ (by rw [←Ad];exact hk)).2
 unfold BZ;rw [hK] at hB ⊢;have HH:=Ac8 h;have k0:W.cell? ⟨p,0,none⟩=some (.string s):=(h.q.cell 0).trans rfl;have k2:W.cell? ⟨p,2,none⟩=some (.int .i64 (st.k:Int)):=(h.q.cell 2).trans rfl;have Hl:=Ac8 hl;clear h hK hk hl;by_cases hz:K=s.size
 ·rw [Bl s K (by omega)]
  have hE:((K:Int) == (s.size:Int))=true:=by simp [hz]
  clear hz;simp only;go_enter Tryz.func50,Tryz.ntmps50;go_upto_region 1 with fail;go_cut [] (fun wx=>CmSt w p s ext (st.go K) ta tb ts pa pc ma mc wx);(case first=>((go_region_law (first | (go_simp;go_at_call 66;refine (hB _).mono ?_;rintro e w1 ⟨rfl,b1⟩;have H1:=Ac8 (by first | exact HH.out.step b1 | exact HH.out.drew.step b1:CmSt w p s ext st ta tb ts pa pc ma mc w1);have f2:=H1.out.q.frozen 2;have g2:w1.cell? ⟨p,2,none⟩=some (.int .i64 (st.k:Int)):=(H1.out.q.cell 2).trans rfl;clear b1)));all_goals ((try go_wp2_with fail);go_meet;exact H1.out.go K)));have H2:=Ac8 hcut;clear hcut k0 k2;have k0:World.cell? wc ⟨p,0,none⟩=some (.string s):=(H2.out.q.cell 0).trans rfl;have k2:World.cell? wc ⟨p,2,none⟩=some (.int .i64 (K:Int)):=(H2.out.q.cell 2).trans rfl;go_upto_region 2 with fail;go_quiet (fail);generalize nq=n1;go_wp2_with fail
  go_ret;exact ⟨rfl,(H2.out.drewN n1).R⟩
 ·have hlt:K < s.size:=by omega
  rw [Bh s K hlt];have hE:((K:Int) == (s.size:Int))=false:=by simp;omega
  have hy0:(0:Int)≤(K:Int):=by omega
  have hy1:(K:Int) < (s.size:Int):=by omega
  clear hz;simp only;by_cases h1:s[K]=59∨s[K]=10∨s[K]=35
  ·rw [if_pos h1]
   rcases h1 with h1 | h1 | h1
   all_goals
    have e1:s[K].toNat=_:=congrArg UInt8.toNat h1;clear h1;go_enter Tryz.func50,Tryz.ntmps50;go_upto_region 1 with fail;go_cut [] (fun wx=>CmSt w p s ext (st.go K) ta tb ts pa pc ma mc wx);(case first=>((go_region_law (first | (go_simp;go_at_call 66;refine (hB _).mono ?_;rintro e w1 ⟨rfl,b1⟩;have H1:=Ac8 (by first | exact HH.out.step b1 | exact HH.out.drew.step b1:CmSt w p s ext st ta tb ts pa pc ma mc w1);have f2:=H1.out.q.frozen 2;have g2:w1.cell? ⟨p,2,none⟩=some (.int .i64 (st.k:Int)):=(H1.out.q.cell 2).trans rfl;clear b1)));all_goals ((try go_wp2_with fail);go_meet;exact H1.out.go K)));have H2:=Ac8 hcut;clear hcut k0 k2;have k0:World.cell? wc ⟨p,0,none⟩=some (.string s):=(H2.out.q.cell 0).trans rfl;have k2:World.cell? wc ⟨p,2,none⟩=some (.int .i64 (K:Int)):=(H2.out.q.cell 2).trans rfl;go_upto_region 2 with fail;go_quiet (fail);generalize nq=n1;go_upto_region 4 with fail;go_quiet (fail);have H4:=Ac8 (H2.out.drewN (n1+nq));go_wp2_with fail
    go_ret;exact ⟨rfl,H4.out.R⟩
  ·rw [if_neg h1]
   have n1:¬ s[K]=59:=fun e=>h1 (.inl e)
   have n2:¬ s[K]=10:=fun e=>h1 (.inr (.inl e))
   have n3:¬ s[K]=35:=fun e=>h1 (.inr (.inr e))
   have m1:¬ (s[K].toNat:Int)=59:=fun e=>n1 (UInt8.toNat_inj.1 (by show s[K].toNat=59;omega))
   have m2:¬ (s[K].toNat:Int)=10:=fun e=>n2 (UInt8.toNat_inj.1 (by show s[K].toNat=10;omega))
   have m3:¬ (s[K].toNat:Int)=35:=fun e=>n3 (UInt8.toNat_inj.1 (by show s[K].toNat=35;omega))
   have c1:((s[K].toNat:Int) == 59)=false:=by simpa using m1
   have c2:((s[K].toNat:Int) == 10)=false:=by simpa using m2
   have c3:((s[K].toNat:Int) == 35)=false:=by simpa using m3
   clear h1 n1 n2 n3 m1 m2 m3;by_cases h2:s[K]=125
   ·rw [if_pos h2]
    have c4:((s[K].toNat:Int) == 125)=true:=by rw [h2];rfl
    clear h2;go_enter Tryz.func50,Tryz.ntmps50;go_upto_region 1 with fail;go_cut [] (fun wx=>CmSt w p s ext (st.go K) ta tb ts pa pc ma mc wx);(case first=>((go_region_law (first | (go_simp;go_at_call 66;refine (hB _).mono ?_;rintro e w1 ⟨rfl,b1⟩;have H1:=Ac8 (by first | exact HH.out.step b1 | exact HH.out.drew.step b1:CmSt w p s ext st ta tb ts pa pc ma mc w1);have f2:=H1.out.q.frozen 2;have g2:w1.cell? ⟨p,2,none⟩=some (.int .i64 (st.k:Int)):=(H1.out.q.cell 2).trans rfl;clear b1)));all_goals ((try go_wp2_with fail);go_meet;exact H1.out.go K)));have H2:=Ac8 hcut;clear hcut k0 k2;have k0:World.cell? wc ⟨p,0,none⟩=some (.string s):=(H2.out.q.cell 0).trans rfl;have k2:World.cell? wc ⟨p,2,none⟩=some (.int .i64 (K:Int)):=(H2.out.q.cell 2).trans rfl;go_upto_region 2 with fail;go_quiet (fail);generalize nq=n1;go_upto_region 4 with fail;go_quiet (fail);have H4:=Ac8 (H2.out.drewN (n1+nq));have hM:=L1 w p s ext (st.go K) ta tb ts pa pc ma mc ⟨#[125]⟩ _ H4.out Hl.out;clear H4;go_wp2_with (go_at_call 69;refine hM.mono ?_;clear hM;rintro e w5 ⟨rfl,a6,c6,h5⟩)
    go_ret;exact ⟨rfl,h5.R⟩
   ·rw [if_neg h2]
    have c4:((s[K].toNat:Int) == 125)=false:=by
     have m4:¬ (s[K].toNat:Int)=125:=fun e=>h2 (UInt8.toNat_inj.1 (by show s[K].toNat=125;omega))
     simpa using m4
    clear h2;go_enter Tryz.func50,Tryz.ntmps50;go_upto_region 1 with fail;go_cut [] (fun wx=>CmSt w p s ext (st.go K) ta tb ts pa pc ma mc wx);(case first=>((go_region_law (first | (go_simp;go_at_call 66;refine (hB _).mono ?_;rintro e w1 ⟨rfl,b1⟩;have H1:=Ac8 (by first | exact HH.out.step b1 | exact HH.out.drew.step b1:CmSt w p s ext st ta tb ts pa pc ma mc w1);have f2:=H1.out.q.frozen 2;have g2:w1.cell? ⟨p,2,none⟩=some (.int .i64 (st.k:Int)):=(H1.out.q.cell 2).trans rfl;clear b1)));all_goals ((try go_wp2_with fail);go_meet;exact H1.out.go K)));have H2:=Ac8 hcut;clear hcut k0 k2;have k0:World.cell? wc ⟨p,0,none⟩=some (.string s):=(H2.out.q.cell 0).trans rfl;have k2:World.cell? wc ⟨p,2,none⟩=some (.int .i64 (K:Int)):=(H2.out.q.cell 2).trans rfl;go_upto_region 2 with fail;go_quiet (fail);generalize nq=n1;go_upto_region 4 with fail;go_quiet (fail);have H4:=Ac8 (H2.out.drewN (n1+nq));go_wp2_with fail
    go_ret;exact ⟨rfl,H4.out.R⟩
end
section
open Go Go.RowKit
abbrev RxR:=BG (List UInt8 × Nd)
def dT (R:RxR):List UInt8:=match R with | .ok q=>q.1.1 | .error _=>[]
def dN (R:RxR):Option Nd:=match R with | .ok q=>some q.1.2 | .error _=>none
def dMs (R:RxR):List Wm:=match R with | .ok q=>q.2.1 | .error _=>[]
def dP (R:RxR):Nat:=match R with | .ok q=>q.2.2 | .error q=>q.2
def dE (R:RxR):Nat:=match R with | .ok _=>0 | .error q=>q.1
theorem Acj (st:CS) (R:RxR):LW st R=(dE R,st.rx (dT R) (dN R) (dMs R) (dP R)):=by cases R <;> rfl
theorem VW {W:World} {R:RxR} {e:Ending} {w':World} (h:Tt W R e w'):∃ tv na nc,e=.returned (.tuple #[.agg #[.string (txt (dT R)),tv,.slice na (dMs R).length nc],.int .i64 (dP R:Int),.int .i64 (dE R:Int)])∧
  TrO (fun b=>W.heap.size≤b∧(Value.slice na (dMs R).length nc).ownBlock≠some b) w' (dN R) tv∧w'.ownsRow W.heap.size 33 2 (.slice na (dMs R).length nc) (dMs R).length (wmC (dMs R))∧Below W.heap.size W w':=by
 obtain ⟨hb,h⟩:=h;cases R with
 | error q=>exact ⟨.nilIface,none,0,h,rfl,World.ownsRow_nil _ _ _ _,hb⟩
 | ok q=>
  obtain ⟨tv,mv,he,ht,hr⟩:=h;obtain ⟨na,nc,rfl⟩:=A7 hr;exact ⟨tv,na,nc,he,ht,hr,hb⟩
structure RxH (w:World) (p:Nat) (s:ByteArray) (ext:Bool) (st:CS) (ta tb ts:Value) (pa:Option Addr) (pc:Nat) (ma:Option Addr) (mc:Nat) (B g:Nat) (R:RxR) (tv:Value) (na:Option Addr) (nc:Nat) (W:World):Prop where
 c:CmSt w p s ext st ta tb ts pa pc ma mc W
 x:Blk W g #[.string (txt (dT R)),tv,.slice na (dMs R).length nc] 160
 gb:B≤g
 t:TrO (fun b=>B≤b∧b≠g∧(Value.slice na (dMs R).length nc).ownBlock≠some b) W (dN R) tv
 r:W.ownsRow B 33 2 (.slice na (dMs R).length nc) (dMs R).length (wmC (dMs R))
def CS.rxn (st:CS) (t:List UInt8) (d:Option Nd) (k:Nat):CS:={ st with k:=k,c:={ st.c with sub:={ st.c.sub with text:=t,tree:=d } } }
theorem CmSt.treeS {w:World} {p:Nat} {s:ByteArray} {ext:Bool} {st:CS} {ta tb ts:Value} {pa:Option Addr} {pc:Nat} {ma:Option Addr} {mc:Nat} {W:World} (h:CmSt w p s ext st ta tb ts pa pc ma mc W) (t:List UInt8) {d:Option Nd} {tv:Value} (ht:TrO (fun b=>w.heap.size≤b∧b≠p∧(Value.slice ma st.ms.length mc).ownBlock≠some b) W d tv) :
  CmSt w p s ext (st.rxn t d st.k) ta tb tv pa pc ma mc ((W.setCell ⟨p,15,none⟩ (.string (txt t))).setCell ⟨p,16,none⟩ tv):=by
 have h1:=h.put 15 (.string (txt t)) { st with c:={ st.c with sub:={ st.c.sub with text:=t } } } rfl rfl rfl rfl fun _ _=>rfl
 have ht1:TrO (fun b=>w.heap.size≤b∧b≠p∧(Value.slice ma st.ms.length mc).ownBlock≠some b) (W.setCell ⟨p,15,none⟩ (.string (txt t))) d tv:=TrO.keep (by simp [World.setCell]) (fun b hb _=>⟨hb,fun o=>Adn (w:=W) (a:=⟨b,o,none⟩) (Adl _ _ _ _ (fun e=>hb.2.1 e))⟩) ht;generalize W.setCell ⟨p,15,none⟩ (.string (txt t))=W1 at h1 ht1 ⊢;have o1:∀ b,b≠p→(W1.setCell ⟨p,16,none⟩ tv).heap[b]?=W1.heap[b]?:=fun b hb=>Adl _ _ _ _ (fun e=>hb e)
 have hk:∀ {t x},TrO (fun b=>w.heap.size≤b∧b≠p∧(Value.slice ma st.ms.length mc).ownBlock≠some b) W1 t x→TrO (fun b=>w.heap.size≤b∧b≠p∧(Value.slice ma st.ms.length mc).ownBlock≠some b) (W1.setCell ⟨p,16,none⟩ tv) t x:=fun hk=>TrO.keep (by simp [World.setCell]) (fun b hb _=>⟨hb,fun o=>Adn (w:=W1) (a:=⟨b,o,none⟩) (o1 b hb.2.1)⟩) hk
 exact ⟨h1.b0.setCell (p:=⟨p,16,none⟩) h1.pg _,h1.q.set 16 _,h1.pg,hk h1.ha,hk h1.hb,hk ht1,Aa h1.r fun b hb=>o1 b fun e=>h1.rg (hb.trans (congrArg some e)),h1.rg,Aa h1.pr fun b hb=>o1 b (h1.pp b hb).1,h1.pp⟩
theorem RxH.go {w:World} {p:Nat} {s:ByteArray} {ext:Bool} {st:CS} {ta tb ts:Value} {pa:Option Addr} {pc:Nat} {ma:Option Addr} {mc B g:Nat} {R:RxR} {tv:Value} {na:Option Addr} {nc:Nat} {W:World} (h:RxH w p s ext st ta tb ts pa pc ma mc B g R tv na nc W) (hp:p < B) (k:Nat):RxH w p s ext (st.go k) ta tb ts pa pc ma mc B g R tv na nc (W.setCell ⟨p,2,none⟩ (.int .i64 (k:Int))):=by
 have hgb:=h.gb;have o1:∀ b,b≠p→(W.setCell ⟨p,2,none⟩ (.int .i64 (k:Int))).heap[b]?=W.heap[b]?:=fun b hb=>Adl _ _ _ _ (fun e=>hb e)
 exact ⟨h.c.go k,Eg h.x (o1 g (by omega)),hgb,TrO.keep (by simp [World.setCell]) (fun b hb _=>⟨hb,fun o=>Adn (w:=W) (a:=⟨b,o,none⟩) (o1 b (by have:=hb.1;omega))⟩) h.t,Aa h.r fun b hb=>o1 b (by have:=AN h.r b hb;omega)⟩
theorem RxH.drew {w:World} {p:Nat} {s:ByteArray} {ext:Bool} {st:CS} {ta tb ts:Value} {pa:Option Addr} {pc:Nat} {ma:Option Addr} {mc B g:Nat} {R:RxR} {tv:Value} {na:Option Addr} {nc:Nat} {W:World} (h:RxH w p s ext st ta tb ts pa pc ma mc B g R tv na nc W):RxH w p s ext st ta tb ts pa pc ma mc B g R tv na nc W.drew:=
 ⟨h.c.step (Adk _ _).drew,h.x,h.gb,h.t.below (Adk _ _).drew,Ag h.r (Adk _ _).drew⟩
theorem RxH.tree {w:World} {p:Nat} {s:ByteArray} {ext:Bool} {st:CS} {ta tb ts:Value} {pa:Option Addr} {pc:Nat} {ma:Option Addr} {mc B g:Nat} {R:RxR} {tv:Value} {na:Option Addr} {nc:Nat} {W:World} (h:RxH w p s ext st ta tb ts pa pc ma mc B g R tv na nc W) (hp:p < B) (hB:w.heap.size≤B) (hm:∀ q,(Value.slice ma st.ms.length mc).ownBlock=some q→q < B) :
  RxH w p s ext (st.rxn (dT R) (dN R) st.k) ta tb tv pa pc ma mc B g R tv na nc ((W.setCell ⟨p,15,none⟩ (.string (txt (dT R)))).setCell ⟨p,16,none⟩ tv):=by
 have hgb:=h.gb;have o1:∀ b,b≠p→((W.setCell ⟨p,15,none⟩ (.string (txt (dT R)))).setCell ⟨p,16,none⟩ tv).heap[b]?=W.heap[b]?:=fun b hb=>(Adl _ _ _ _ (fun e=>hb e)).trans (Adl _ _ _ _ (fun e=>hb e))
 exact ⟨h.c.treeS (dT R) (TrO.keep (Adf _) (fun b hb _=>⟨⟨Adg hB hb.1,by have:=hb.1;omega,fun e=>by have:=hm b e;have:=hb.1;omega⟩,fun _=>rfl⟩) h.t),Eg h.x (o1 g (by omega)),hgb,TrO.keep (by simp [World.setCell]) (fun b hb _=>⟨hb,fun o=>Adn (w:=W) (a:=⟨b,o,none⟩) (o1 b (by have:=hb.1;omega))⟩) h.t,Aa h.r fun b hb=>o1 b (by have:=AN h.r b hb;omega)⟩
theorem VX {T tv:Value} {sv:Value} (hT:T.oneCell'=true) (htv:tv.oneCell'=true) (hs:sv.oneCell'=true):(#[T,tv,sv]:Array Value).all (·.oneCell')=true:=by
 simp [hT,htv,hs]
theorem YS (w:World) (p:Nat) (s:ByteArray) (ext:Bool) (st:CS) (d:UInt8) (W:World) (h:Dg w p s ext st W) (hs:s.size≤4000000) (hk:st.k≤s.size) (hl:st.ms.length≤90000) (hG:Gl w) (hP:GP w) :
  Calls Tryz.prog 73 #[.pointer (some ⟨p,0,none⟩),.int .u8 (d.toNat:Int)] W fun e W'=>e=.returned (.int .i64 ((DF ext s.data.toList d st).1:Int))∧Dg w p s ext (DF ext s.data.toList d st).2 W':=by
 obtain ⟨ta,tb,ts,pa,pc,ma,mc,h⟩:=h;have hN:=fun w1 (hb:Below W.heap.size W w1)=>(Ki ext s st.k d w1 hs hk ((hG.up h.b0).up hb) ((hP.up h.b0).up hb)).mono fun _ _ k=>VW k
 have hRl:∀ q,At ext s.data.toList st.k d=.ok q→q.2.1.length≤250:=fun q h=>(Kk (by rw [←Ad];exact hk) h).2
 unfold DF;rw [Acj];generalize At ext s.data.toList st.k d=R at hN hRl ⊢;have hml:(dMs R).length≤250:=by
  cases R with
  | error q=>exact Nat.zero_le _
  | ok q=>exact hRl q rfl
 have HML:=Ac8 hml;have HL:=Ac8 hl;have HH:=Ac8 h;have hlt:=h.q.lt;have k0:W.cell? ⟨p,0,none⟩=some (.string s):=(h.q.cell 0).trans rfl;have k1:W.cell? ⟨p,1,none⟩=some (.bool ext):=(h.q.cell 1).trans rfl;have k2:W.cell? ⟨p,2,none⟩=some (.int .i64 (st.k:Int)):=(h.q.cell 2).trans rfl;have hmix:Tryz.prog.follows .mixedOrders=true:=by kernel_rfl
 have hS0:∀ W':World,Below W.heap.size W W'→(fun W':World=>W'.cell? ⟨p,0,none⟩=some (.string s)∧W'.cell? ⟨p,1,none⟩=some (.bool ext)∧W'.cell? ⟨p,2,none⟩=some (.int .i64 (st.k:Int))) W':=fun W' hW=>⟨(hW.cell (p:=⟨p,0,none⟩) hlt).trans k0,(hW.cell (p:=⟨p,1,none⟩) hlt).trans k1,(hW.cell (p:=⟨p,2,none⟩) hlt).trans k2⟩
 clear h hG hP hml hl hRl hlt k0 k1 k2;go_enter Tryz.func73,Tryz.ntmps73;go_upto_region 1 with fail;go_cut [5,6,7] (fun s5 s6 s7 wx=>∃ g tv na nc,s5=.pointer (some ⟨g,0,none⟩)∧s6=.int .i64 (dP R:Int)∧s7=.int .i64 (dE R:Int)∧RxH w p s ext st ta tb ts pa pc ma mc W.heap.size g R tv na nc wx)
 case first=>
  refine wp_region_held_drew (S:=fun W':World=>W'.cell? ⟨p,0,none⟩=some (.string s)∧W'.cell? ⟨p,1,none⟩=some (.bool ext)∧W'.cell? ⟨p,2,none⟩=some (.int .i64 (st.k:Int))) hmix (hS0 _ (Below.drew (Adk _ _))) (fun hHeld=>?_);refine AD 0 ?_ rfl (by assumption) (Or.inl ⟨by rfl,?_⟩) ?_
  rotate_left
  ·intro W' hSw;obtain ⟨c0,c1,c2⟩:=hSw;(try go_simp);try with_reducible rfl
  try simp only [Adc,Adb,Ada,Act.put,Ac9,Zz0,Ade]
  refine AD 1 ?_ rfl (by assumption) (Or.inl ⟨by rfl,?_⟩) ?_
  rotate_left
  ·intro W' hSw;obtain ⟨c0,c1,c2⟩:=hSw;(try go_simp);try with_reducible rfl
  try simp only [Adc,Adb,Ada,Act.put,Ac9,Zz0,Ade]
  refine AD 2 ?_ rfl (by assumption) (Or.inl ⟨by rfl,?_⟩) ?_
  rotate_left
  ·intro W' hSw;obtain ⟨c0,c1,c2⟩:=hSw;(try go_simp);try with_reducible rfl
  try simp only [Adc,Adb,Ada,Act.put,Ac9,Zz0,Ade]
  refine AD 3 ?_ rfl (by assumption) (Or.inl ⟨by rfl,?_⟩) ?_
  rotate_left
  ·intro W' hSw;obtain ⟨c0,c1,c2⟩:=hSw;(try go_simp);try with_reducible rfl
  try simp only [Adc,Adb,Ada,Act.put,Ac9,Zz0,Ade]
  refine AD 4 ?_ rfl (by assumption) (Or.inl ⟨by rfl,?_⟩) ?_
  rotate_left
  ·intro W' hSw;obtain ⟨c0,c1,c2⟩:=hSw;(try go_simp);try with_reducible rfl
  try simp only [Adc,Adb,Ada,Act.put,Ac9,Zz0,Ade]
  refine AD 5 ?_ rfl (by assumption) (Or.inl ⟨by rfl,?_⟩) ?_
  rotate_left
  ·intro W' hSw;obtain ⟨c0,c1,c2⟩:=hSw;(try go_simp);try with_reducible rfl
  try simp only [Adc,Adb,Ada,Act.put,Ac9,Zz0,Ade]
  refine AD 6 ?_ rfl (by assumption) (Or.inl ⟨by rfl,?_⟩) ?_
  rotate_left
  ·intro W' hSw;obtain ⟨c0,c1,c2⟩:=hSw;(try go_simp);try with_reducible rfl
  try simp only [Adc,Adb,Ada,Act.put,Ac9,Zz0,Ade]
  refine AD 7 ?_ rfl (by assumption) (Or.inl ⟨by rfl,?_⟩) ?_
  rotate_left
  ·intro W' hSw;obtain ⟨c0,c1,c2⟩:=hSw;(try go_simp);try with_reducible rfl
  try simp only [Adc,Adb,Ada,Act.put,Ac9,Zz0,Ade]
  refine AD 8 ?_ rfl (by assumption) (Or.inl ⟨by rfl,?_⟩) ?_
  rotate_left
  ·intro W' hSw;obtain ⟨c0,c1,c2⟩:=hSw;(try go_simp);try with_reducible rfl
  try simp only [Adc,Adb,Ada,Act.put,Ac9,Zz0,Ade]
  refine AD 9 ?_ rfl (by assumption) (Or.inl ⟨by rfl,?_⟩) ?_
  rotate_left
  ·intro W' hSw;obtain ⟨c0,c1,c2⟩:=hSw;(try go_simp);try with_reducible rfl
  try simp only [Adc,Adb,Ada,Act.put,Ac9,Zz0,Ade]
  refine AD 10 ?_ rfl (by assumption) (Or.inl ⟨by rfl,?_⟩) ?_
  rotate_left
  ·intro W' hSw;obtain ⟨c0,c1,c2⟩:=hSw;(try go_simp);try with_reducible rfl
  try simp only [Adc,Adb,Ada,Act.put,Ac9,Zz0,Ade]
  refine AD 11 ?_ rfl (by assumption) (Or.inl ⟨by rfl,?_⟩) ?_
  rotate_left
  ·intro W' hSw;obtain ⟨c0,c1,c2⟩:=hSw;(try go_simp);try with_reducible rfl
  try simp only [Adc,Adb,Ada,Act.put,Ac9,Zz0,Ade]
  refine AD 12 ?_ rfl (by assumption) (Or.inl ⟨by rfl,?_⟩) ?_
  rotate_left
  ·intro W' hSw;obtain ⟨c0,c1,c2⟩:=hSw;(try go_simp);try with_reducible rfl
  try simp only [Adc,Adb,Ada,Act.put,Ac9,Zz0,Ade]
  generalize hv0:W.drew=v0 at hHeld ⊢;have hb0:Below W.heap.size W v0:=by rw [←hv0];exact (Adk _ _).drew
  clear hv0;refine wpAnyH_ready (rs:=[13,18]) (by kernel_rfl) (by simp) ?_;refine AllReadyH.cons rfl (fun K hK=>?_) ?_
  ·skip
   go_simp;go_wp2_with (go_at_call 84;refine (hN v0 hb0).mono ?_;rintro e v1 ⟨tv,na,nc,rfl,ht,hr,b1⟩)
   have hb1:Below W.heap.size W v1:=hb0.trans (b1.mono hb0.size);refine hK.out _ _ (hS0 _ hb1) (fun hHeld=>?_);clear hK K;try simp only [Adc,Adb,Ada,Act.put,Ac9,Zz0,Ade]
   have hg1:W.heap.size≤v0.heap.size:=hb0.size;have ht1:TrO (fun b=>W.heap.size≤b∧b < v1.heap.size∧(Value.slice na (dMs R).length nc).ownBlock≠some b) v1 (dN R) tv:=TrO.keep (Adf _) (fun b hb hl=>⟨⟨Adg hg1 hb.1,hl,hb.2⟩,fun _=>rfl⟩) ht;have hr1:=BN hg1 hr;clear hg1;refine AD 14 ?_ rfl (by assumption) (Or.inl ⟨by rfl,?_⟩) ?_
   rotate_left
   ·intro W' hSw;(try go_simp);try with_reducible rfl
   try simp only [Adc,Adb,Ada,Act.put,Ac9,Zz0,Ade]
   refine AD 15 ?_ rfl (by assumption) (Or.inl ⟨by rfl,?_⟩) ?_
   rotate_left
   ·intro W' hSw;(try go_simp);try with_reducible rfl
   try simp only [Adc,Adb,Ada,Act.put,Ac9,Zz0,Ade]
   refine AD 16 ?_ rfl (by assumption) (Or.inl ⟨by rfl,?_⟩) ?_
   rotate_left
   ·intro W' hSw;(try go_simp);try with_reducible rfl
   try simp only [Adc,Adb,Ada,Act.put,Ac9,Zz0,Ade]
   refine AD 17 ?_ rfl (by assumption) (Or.inl ⟨by rfl,?_⟩) ?_
   rotate_left
   ·intro W' hSw;(try go_simp);try with_reducible rfl
   try simp only [Adc,Adb,Ada,Act.put,Ac9,Zz0,Ade]
   refine wpAnyH_ready (rs:=[18]) (by kernel_rfl) (by simp) ?_;refine AllReadyH.cons rfl (fun K hK=>?_) AllReadyH.nil;go_simp;generalize hA:v1.alloc _=v2;have ba:=Ac hA;have qa:=Ae hA;have hb2:Below W.heap.size W v2:=hb1.trans (ba.mono hb1.size);refine hK.out _ _ (hS0 _ hb2) (fun hHeld=>?_);clear hK K hA;try simp only [Adc,Adb,Ada,Act.put,Ac9,Zz0,Ade]
   have ht2:TrO (fun b=>W.heap.size≤b∧b≠v1.heap.size∧(Value.slice na (dMs R).length nc).ownBlock≠some b) v2 (dN R) tv:=TrO.keep (G:=fun b=>W.heap.size≤b∧b≠v1.heap.size∧(Value.slice na (dMs R).length nc).ownBlock≠some b) ba.size (fun b hb hl=>⟨⟨hb.1,Nat.ne_of_lt hb.2.1,hb.2.2⟩,fun o=>ba.cell (p:=⟨b,o,none⟩) hl⟩) ht1;have hr2:=Ag hr1 ba;have hno:∀ q,(Value.slice na (dMs R).length nc).ownBlock=some q→q≠v1.heap.size:=fun q e=>Nat.ne_of_lt (AA hr1 q e)
   have hgb:W.heap.size≤v1.heap.size:=hb1.size;generalize v1.heap.size=g at qa ht2 hno hgb ⊢;have hv1:tv.oneCell'=true:=(by rcases ht2.shape with ⟨T,q,rfl⟩ | rfl <;> rfl)
   refine wpAnyH_ready (rs:=[19]) (by kernel_rfl) (by simp) ?_;refine AllReadyH.cons rfl (fun K hK=>?_) AllReadyH.nil;rw [if_pos (by rfl)];refine wp_store_row 160 _ _ rfl g #[.string (txt (dT R)),tv,.slice na (dMs R).length nc] rfl rfl 160 #[.string ⟨#[]⟩,.nilIface,.slice none 0 0] qa (by kernel_rfl) rfl (VX rfl hv1 rfl) ?_;have hb3:Below W.heap.size W (v2.setRow g #[.string (txt (dT R)),tv,.slice na (dMs R).length nc]):=below_setRow hb2 hgb _;refine hK.out _ _ (hS0 _ hb3) (fun hHeld=>?_);clear hK K;try simp only [Adc,Adb,Ada,Act.put,Ac9,Zz0,Ade]
   refine AD 20 ?_ rfl (by assumption) (Or.inl ⟨by rfl,?_⟩) ?_
   rotate_left
   ·intro W' hSw;(try go_simp);try with_reducible rfl
   try simp only [Adc,Adb,Ada,Act.put,Ac9,Zz0,Ade]
   refine AD 21 ?_ rfl (by assumption) (Or.inl ⟨by rfl,?_⟩) ?_
   rotate_left
   ·intro W' hSw;(try go_simp);try with_reducible rfl
   try simp only [Adc,Adb,Ada,Act.put,Ac9,Zz0,Ade]
   refine wpAnyH_done (by kernel_rfl) ?_ _
   (try go_wp2_with fail)
   go_meet;refine ⟨g,tv,na,nc,rfl,rfl,rfl,HH.out.step hb3,setRow_heap v2 g _ _ _ _ qa,hgb,TrO.keep (by simp) (fun b hb _=>⟨hb,fun o=>Adn (w:=v2) (a:=⟨b,o,none⟩) (setRow_other v2 g b _ hb.2.1)⟩) ht2,Aa hr2 fun b hb=>setRow_other v2 g b _ (hno b hb)⟩
  refine AllReadyH.cons rfl (fun K hK=>?_) AllReadyH.nil
  ·skip
   go_simp;generalize hA:v0.alloc _=v1;have ba:=Ac hA;have qa:=Ae hA;have hb1:Below W.heap.size W v1:=hb0.trans (ba.mono hb0.size);refine hK.out _ _ (hS0 _ hb1) (fun hHeld=>?_);clear hK K hA;try simp only [Adc,Adb,Ada,Act.put,Ac9,Zz0,Ade]
   have hgb:W.heap.size≤v0.heap.size:=hb0.size;have hgl:v0.heap.size < v1.heap.size:=qa.lt;generalize v0.heap.size=g at qa hgb hgl ⊢;refine wpAnyH_ready (rs:=[13]) (by kernel_rfl) (by simp) ?_;refine AllReadyH.cons rfl (fun K hK=>?_) AllReadyH.nil;go_simp;go_wp2_with (go_at_call 84;refine (hN v1 hb1).mono ?_;rintro e v2 ⟨tv,na,nc,rfl,ht,hr,b1⟩)
   have hb2:Below W.heap.size W v2:=hb1.trans (b1.mono hb1.size);refine hK.out _ _ (hS0 _ hb2) (fun hHeld=>?_);clear hK K;try simp only [Adc,Adb,Ada,Act.put,Ac9,Zz0,Ade]
   replace qa:=qa.below b1 hgl;have hg1:W.heap.size≤v1.heap.size:=hb1.size;have ht2:TrO (fun b=>W.heap.size≤b∧b≠g∧(Value.slice na (dMs R).length nc).ownBlock≠some b) v2 (dN R) tv:=TrO.keep (Adf _) (fun b hb _=>⟨⟨Adg hg1 hb.1,by have:=hb.1;omega,hb.2⟩,fun _=>rfl⟩) ht;have hr2:=BN hg1 hr;have hno:∀ q,(Value.slice na (dMs R).length nc).ownBlock=some q→q≠g:=fun q e=>by have:=AN hr q e;omega
   refine AD 14 ?_ rfl (by assumption) (Or.inl ⟨by rfl,?_⟩) ?_
   rotate_left
   ·intro W' hSw;(try go_simp);try with_reducible rfl
   try simp only [Adc,Adb,Ada,Act.put,Ac9,Zz0,Ade]
   refine AD 15 ?_ rfl (by assumption) (Or.inl ⟨by rfl,?_⟩) ?_
   rotate_left
   ·intro W' hSw;(try go_simp);try with_reducible rfl
   try simp only [Adc,Adb,Ada,Act.put,Ac9,Zz0,Ade]
   refine AD 16 ?_ rfl (by assumption) (Or.inl ⟨by rfl,?_⟩) ?_
   rotate_left
   ·intro W' hSw;(try go_simp);try with_reducible rfl
   try simp only [Adc,Adb,Ada,Act.put,Ac9,Zz0,Ade]
   refine AD 17 ?_ rfl (by assumption) (Or.inl ⟨by rfl,?_⟩) ?_
   rotate_left
   ·intro W' hSw;(try go_simp);try with_reducible rfl
   try simp only [Adc,Adb,Ada,Act.put,Ac9,Zz0,Ade]
   have hv1:tv.oneCell'=true:=(by rcases ht2.shape with ⟨T,q,rfl⟩ | rfl <;> rfl)
   refine wpAnyH_ready (rs:=[19]) (by kernel_rfl) (by simp) ?_;refine AllReadyH.cons rfl (fun K hK=>?_) AllReadyH.nil;rw [if_pos (by rfl)];refine wp_store_row 160 _ _ rfl g #[.string (txt (dT R)),tv,.slice na (dMs R).length nc] rfl rfl 160 #[.string ⟨#[]⟩,.nilIface,.slice none 0 0] qa (by kernel_rfl) rfl (VX rfl hv1 rfl) ?_;have hb3:Below W.heap.size W (v2.setRow g #[.string (txt (dT R)),tv,.slice na (dMs R).length nc]):=below_setRow hb2 hgb _;refine hK.out _ _ (hS0 _ hb3) (fun hHeld=>?_);clear hK K;try simp only [Adc,Adb,Ada,Act.put,Ac9,Zz0,Ade]
   refine AD 20 ?_ rfl (by assumption) (Or.inl ⟨by rfl,?_⟩) ?_
   rotate_left
   ·intro W' hSw;(try go_simp);try with_reducible rfl
   try simp only [Adc,Adb,Ada,Act.put,Ac9,Zz0,Ade]
   refine AD 21 ?_ rfl (by assumption) (Or.inl ⟨by rfl,?_⟩) ?_
   rotate_left
   ·intro W' hSw;(try go_simp);try with_reducible rfl
   try simp only [Adc,Adb,Ada,Act.put,Ac9,Zz0,Ade]
   refine wpAnyH_done (by kernel_rfl) ?_ _
   (try go_wp2_with fail)
   go_meet;refine ⟨g,tv,na,nc,rfl,rfl,rfl,HH.out.step hb3,setRow_heap v2 g _ _ _ _ qa,hgb,TrO.keep (by simp) (fun b hb _=>⟨hb,fun o=>Adn (w:=v2) (a:=⟨b,o,none⟩) (setRow_other v2 g b _ hb.2.1)⟩) ht2,Aa hr2 fun b hb=>setRow_other v2 g b _ (hno b hb)⟩
 case rest=>
  obtain ⟨g,tv,na,nc,rfl,rfl,rfl,hx⟩:=hcut;have HX:=Ac8 hx;have hgb:=hx.gb;have hpl:=HH.out.q.lt;have hgp:g≠p:=by omega
  clear hx hS0 hN;have c2:World.cell? wc ⟨p,2,none⟩=some (.int .i64 (st.k:Int)):=(HX.out.c.q.cell 2).trans rfl;have f2:=HX.out.c.q.frozen 2;go_upto_region 3 with fail;have HY:=Ac8 (HX.out.go hpl (dP R));clear c2 f2 HX;generalize wc.setCell ⟨p,2,none⟩ (.int .i64 (dP R:Int))=wy at HY ⊢;have c15:wy.cell? ⟨p,15,none⟩=some (.string (txt st.c.sub.text)):=(HY.out.c.q.cell 15).trans rfl;have c16:wy.cell? ⟨p,16,none⟩=some ts:=(HY.out.c.q.cell 16).trans rfl;have f15:=HY.out.c.q.frozen 15;have f16:=HY.out.c.q.frozen 16;obtain ⟨x0,x1,x2,_,_,_,hxl⟩:=Gg HY.out.x;have hsh:=HY.out.t.shape;go_cut [] (fun wx=>RxH w p s ext (st.rxn (dT R) (dN R) (dP R)) ta tb tv pa pc ma mc W.heap.size g R tv na nc wx)
  case first=>
   have HM:=Ac8 (fun q hq=>AA HH.out.r q hq);have HZ:=Ac8 (HY.out.tree hpl HH.out.b0.size HM.out);rcases hsh with ⟨T8,q8,rfl⟩ | rfl
   all_goals
    go_region_law (first | fail)
    all_goals
     (try go_wp2_with fail)
     go_meet;exact HZ.out.drew
  case rest=>
   have HX:=Ac8 hcut;clear hcut c15 c16 f15 f16 x0 x1 x2 hxl hsh HY;generalize hst5:st.rxn (dT R) (dN R) (dP R)=st5 at HX;have hms:st5.ms=st.ms:=by rw [←hst5];rfl
   have hl5:st5.ms.length≤90000:=by rw [hms];exact HL.out
   have c23:World.cell? wc ⟨p,23,none⟩=some (.slice ma st5.ms.length mc):=(HX.out.c.q.cell 23).trans rfl;obtain ⟨x0,x1,x2,_,_,_,hxl⟩:=Gg HX.out.x;have hml:=HML.out;obtain ⟨i0,hi,hz0,hz1,hz2⟩:=Co;have hm1:st5.ms.length+(dMs R).length≤maxLen:=by unfold maxLen;omega
   have hm2:(st5.ms.length+(dMs R).length) * 24≤140737488355328:=by omega
   have hbs:w.heap.size≤(World.heap wc).size:=HX.out.c.b0.size;have Hst:=Ac8 hst5;have Hl5:=Ac8 hl5;clear hst5 hms hl5 hml hgb hpl hgp;go_upto_region 4 with fail
   go_region_law (first
    | (refine A1 rfl _ _ 26 rfl w.heap.size 33 i0 (.agg #[.int .i64 0,.string ⟨#[]⟩]) 2 24 Tryz.underlying26 hi hz0 hz1 hz2 rfl (by decide) (.slice ma st5.ms.length mc) st5.ms.length (wmC st5.ms) rfl (Ag HX.out.c.r (by first | exact Adk _ _ | exact (Adk _ _).drew)) na (dMs R).length nc (wmC (dMs R)) rfl (M1 _) (Qf HX.out.r) (M2 _) hm1 hm2 hbs ?_;intro v6 w6 hown6 hgrow6 hat6;obtain ⟨a6,c6,rfl⟩:=A7 hown6;have HP:=Ac8 (HX.out.c.push (n:=(dMs R).length) (ms2:=dMs R) (Adk _ _).drew rfl hgrow6 hown6 hat6);have f23:=(AE (HX.out.c.q.below (Adk _ _).drew HX.out.c.q.lt) hgrow6 HX.out.c.rg).frozen 23;have g23:w6.cell? ⟨p,23,none⟩=some (.slice ma st5.ms.length mc):=((AE (HX.out.c.q.below (Adk _ _).drew HX.out.c.q.lt) hgrow6 HX.out.c.rg).cell 23).trans rfl;clear hown6 hgrow6 hat6))
   all_goals
    have hst:=Hst.out;subst hst
    (try go_wp2_with fail)
    go_ret;exact ⟨rfl,HP.out.R⟩
end
end Go.Proofs.YteilldmmihiijaaGreatDoor
