/- The proof's texts CmWi, CmWd: what the claim reaches of them. -/
import Derived.Test.YtbgfankoojjejaaGreatDoorGd28
import Derived.Test.YtbgfankoojjejaaGreatDoorGd26
import Derived.Test.YtbgfankoojjejaaGreatDoorGd27
import Derived.Laws.Rows
import Derived.Deep.MidRow
import Derived.Laws.Tables
import Derived.Laws.CopyOwn
set_option linter.unusedSimpArgs false
set_option linter.unusedVariables false
set_option maxHeartbeats 8000000
set_option maxRecDepth 1000000
namespace Go.Proofs.YtbgfankoojjejaaGreatDoor
open Go Go.RowKit
abbrev RxR:=AdRd (List UInt8 × Nd)
def dT (R:RxR):List UInt8:=match R with | .ok q=>q.1.1 | .error _=>[]
def dN (R:RxR):Option Nd:=match R with | .ok q=>some q.1.2 | .error _=>none
def dMs (R:RxR):List Wm:=match R with | .ok q=>q.2.1 | .error _=>[]
def dP (R:RxR):Nat:=match R with | .ok q=>q.2.2 | .error q=>q.2
def dE (R:RxR):Nat:=match R with | .ok _=>0 | .error q=>q.1
theorem rx_of (st:CS) (R:RxR):cmRxOf st R=(dE R,st.rx (dT R) (dN R) (dMs R) (dP R)):=by cases R <;> rfl
theorem delA_one {W:World} {R:RxR} {e:Ending} {w':World} (h:DelA W R e w'):∃ tv na nc,e=.returned (.tuple #[.agg #[.string (txt (dT R)),tv,.slice na (dMs R).length nc],.int .i64 (dP R:Int),.int .i64 (dE R:Int)])∧
  TrO (fun b=>W.heap.size≤b∧(Value.slice na (dMs R).length nc).ownBlock≠some b) w' (dN R) tv∧w'.ownsRow W.heap.size 77 2 (.slice na (dMs R).length nc) (dMs R).length (wmC (dMs R))∧Below W.heap.size W w':=by
 obtain ⟨hb,h⟩:=h
 cases R with
 | error q=>exact ⟨.nilIface,none,0,h,rfl,World.ownsRow_nil _ _ _ _,hb⟩
 | ok q=>
  obtain ⟨tv,mv,he,ht,hr⟩:=h
  obtain ⟨na,nc,rfl⟩:=own_form' hr
  exact ⟨tv,na,nc,he,ht,hr,hb⟩
structure RxH (w:World) (p:Nat) (s:ByteArray) (ext:Bool) (st:CS) (ta tb ts:Value) (pa:Option Addr) (pc:Nat) (ma:Option Addr) (mc:Nat) (B g:Nat) (R:RxR) (tv:Value) (na:Option Addr) (nc:Nat) (W:World):Prop where
 c:CmSt w p s ext st ta tb ts pa pc ma mc W
 x:Blk W g #[.string (txt (dT R)),tv,.slice na (dMs R).length nc] 93
 gb:B≤g
 t:TrO (fun b=>B≤b∧b≠g∧(Value.slice na (dMs R).length nc).ownBlock≠some b) W (dN R) tv
 r:W.ownsRow B 77 2 (.slice na (dMs R).length nc) (dMs R).length (wmC (dMs R))
def CS.rxn (st:CS) (t:List UInt8) (d:Option Nd) (k:Nat):CS:={ st with k:=k,c:={ st.c with sub:={ st.c.sub with text:=t,tree:=d } } }
theorem CmSt.treeS {w:World} {p:Nat} {s:ByteArray} {ext:Bool} {st:CS} {ta tb ts:Value} {pa:Option Addr} {pc:Nat} {ma:Option Addr} {mc:Nat} {W:World} (h:CmSt w p s ext st ta tb ts pa pc ma mc W) (t:List UInt8) {d:Option Nd} {tv:Value} (ht:TrO (fun b=>w.heap.size≤b∧b≠p∧(Value.slice ma st.ms.length mc).ownBlock≠some b) W d tv) :
  CmSt w p s ext (st.rxn t d st.k) ta tb tv pa pc ma mc ((W.setCell ⟨p,15,none⟩ (.string (txt t))).setCell ⟨p,16,none⟩ tv):=by
 have h1:=h.put 15 (.string (txt t)) { st with c:={ st.c with sub:={ st.c.sub with text:=t } } } rfl rfl rfl rfl fun _ _=>rfl
 have ht1:TrO (fun b=>w.heap.size≤b∧b≠p∧(Value.slice ma st.ms.length mc).ownBlock≠some b) (W.setCell ⟨p,15,none⟩ (.string (txt t))) d tv:=TrO.keep (by simp [World.setCell]) (fun b hb _=>⟨hb,fun o=>World.cell?_of_block (w:=W) (a:=⟨b,o,none⟩) (Below.heap_setCell _ _ _ _ (fun e=>hb.2.1 e))⟩) ht
 generalize W.setCell ⟨p,15,none⟩ (.string (txt t))=W1 at h1 ht1 ⊢
 have o1:∀ b,b≠p→(W1.setCell ⟨p,16,none⟩ tv).heap[b]?=W1.heap[b]?:=fun b hb=>Below.heap_setCell _ _ _ _ (fun e=>hb e)
 have hk:∀ {t x},TrO (fun b=>w.heap.size≤b∧b≠p∧(Value.slice ma st.ms.length mc).ownBlock≠some b) W1 t x→TrO (fun b=>w.heap.size≤b∧b≠p∧(Value.slice ma st.ms.length mc).ownBlock≠some b) (W1.setCell ⟨p,16,none⟩ tv) t x:=fun hk=>TrO.keep (by simp [World.setCell]) (fun b hb _=>⟨hb,fun o=>World.cell?_of_block (w:=W1) (a:=⟨b,o,none⟩) (o1 b hb.2.1)⟩) hk
 exact ⟨h1.b0.setCell (p:=⟨p,16,none⟩) h1.pg _,h1.q.set 16 _,h1.pg,hk h1.ha,hk h1.hb,hk ht1,own_row_same h1.r fun b hb=>o1 b fun e=>h1.rg (hb.trans (congrArg some e)),h1.rg,own_row_same h1.pr fun b hb=>o1 b (h1.pp b hb).1,h1.pp⟩
theorem RxH.go {w:World} {p:Nat} {s:ByteArray} {ext:Bool} {st:CS} {ta tb ts:Value} {pa:Option Addr} {pc:Nat} {ma:Option Addr} {mc B g:Nat} {R:RxR} {tv:Value} {na:Option Addr} {nc:Nat} {W:World} (h:RxH w p s ext st ta tb ts pa pc ma mc B g R tv na nc W) (hp:p < B) (k:Nat):RxH w p s ext (st.go k) ta tb ts pa pc ma mc B g R tv na nc (W.setCell ⟨p,2,none⟩ (.int .i64 (k:Int))):=by
 have hgb:=h.gb
 have o1:∀ b,b≠p→(W.setCell ⟨p,2,none⟩ (.int .i64 (k:Int))).heap[b]?=W.heap[b]?:=fun b hb=>Below.heap_setCell _ _ _ _ (fun e=>hb e)
 exact ⟨h.c.go k,blk_like h.x (o1 g (by omega)),hgb,TrO.keep (by simp [World.setCell]) (fun b hb _=>⟨hb,fun o=>World.cell?_of_block (w:=W) (a:=⟨b,o,none⟩) (o1 b (by have:=hb.1;omega))⟩) h.t,own_row_same h.r fun b hb=>o1 b (by have:=own_of h.r b hb;omega)⟩
theorem RxH.drew {w:World} {p:Nat} {s:ByteArray} {ext:Bool} {st:CS} {ta tb ts:Value} {pa:Option Addr} {pc:Nat} {ma:Option Addr} {mc B g:Nat} {R:RxR} {tv:Value} {na:Option Addr} {nc:Nat} {W:World} (h:RxH w p s ext st ta tb ts pa pc ma mc B g R tv na nc W):RxH w p s ext st ta tb ts pa pc ma mc B g R tv na nc W.drew:=
 ⟨h.c.step (Below.refl _ _).drew,h.x,h.gb,h.t.below (Below.refl _ _).drew,nd_own_below h.r (Below.refl _ _).drew⟩
theorem RxH.tree {w:World} {p:Nat} {s:ByteArray} {ext:Bool} {st:CS} {ta tb ts:Value} {pa:Option Addr} {pc:Nat} {ma:Option Addr} {mc B g:Nat} {R:RxR} {tv:Value} {na:Option Addr} {nc:Nat} {W:World} (h:RxH w p s ext st ta tb ts pa pc ma mc B g R tv na nc W) (hp:p < B) (hB:w.heap.size≤B) (hm:∀ q,(Value.slice ma st.ms.length mc).ownBlock=some q→q < B) :
  RxH w p s ext (st.rxn (dT R) (dN R) st.k) ta tb tv pa pc ma mc B g R tv na nc ((W.setCell ⟨p,15,none⟩ (.string (txt (dT R)))).setCell ⟨p,16,none⟩ tv):=by
 have hgb:=h.gb
 have o1:∀ b,b≠p→((W.setCell ⟨p,15,none⟩ (.string (txt (dT R)))).setCell ⟨p,16,none⟩ tv).heap[b]?=W.heap[b]?:=fun b hb=>(Below.heap_setCell _ _ _ _ (fun e=>hb e)).trans (Below.heap_setCell _ _ _ _ (fun e=>hb e))
 exact ⟨h.c.treeS (dT R) (TrO.keep (Nat.le_refl _) (fun b hb _=>⟨⟨Nat.le_trans hB hb.1,by have:=hb.1;omega,fun e=>by have:=hm b e;have:=hb.1;omega⟩,fun _=>rfl⟩) h.t),blk_like h.x (o1 g (by omega)),hgb,TrO.keep (by simp [World.setCell]) (fun b hb _=>⟨hb,fun o=>World.cell?_of_block (w:=W) (a:=⟨b,o,none⟩) (o1 b (by have:=hb.1;omega))⟩) h.t,own_row_same h.r fun b hb=>o1 b (by have:=own_of h.r b hb;omega)⟩
theorem rx_row {T tv:Value} {sv:Value} (hT:T.oneCell'=true) (htv:tv.oneCell'=true) (hs:sv.oneCell'=true):(#[T,tv,sv]:Array Value).all (·.oneCell')=true:=by
 simp [hT,htv,hs]
theorem krx_any (w:World) (p:Nat) (s:ByteArray) (ext:Bool) (st:CS) (d:UInt8) (W:World) (h:CmR w p s ext st W) (hs:s.size≤4000000) (hk:st.k≤s.size) (hl:st.ms.length≤90000) (hG:Gl w) (hP:GP w) :
  Calls Tryz.prog 40 #[.pointer (some ⟨p,0,none⟩),.int .u8 (d.toNat:Int)] W fun e W'=>e=.returned (.int .i64 ((cmRx ext s.data.toList d st).1:Int))∧CmR w p s ext (cmRx ext s.data.toList d st).2 W':=by
 obtain ⟨ta,tb,ts,pa,pc,ma,mc,h⟩:=h
 have hN:=fun w1 (hb:Below W.heap.size W w1)=>(pdelim_any ext s st.k d w1 hs hk ((hG.up h.b0).up hb) ((hP.up h.b0).up hb)).mono fun _ _ k=>delA_one k
 have hRl:∀ q,delimM ext s.data.toList st.k d=.ok q→q.2.1.length≤250:=fun q h=>(delim_le (by rw [←size_list];exact hk) h).2
 unfold cmRx
 rw [rx_of]
 generalize delimM ext s.data.toList st.k d=R at hN hRl ⊢
 have hml:(dMs R).length≤250:=by
  cases R with
  | error q=>exact Nat.zero_le _
  | ok q=>exact hRl q rfl
 have HML:=Lib.hid hml
 have HL:=Lib.hid hl
 have HH:=Lib.hid h
 have hlt:=h.q.lt
 have k0:W.cell? ⟨p,0,none⟩=some (.string s):=(h.q.cell 0).trans rfl
 have k1:W.cell? ⟨p,1,none⟩=some (.bool ext):=(h.q.cell 1).trans rfl
 have k2:W.cell? ⟨p,2,none⟩=some (.int .i64 (st.k:Int)):=(h.q.cell 2).trans rfl
 have hmix:Tryz.prog.follows .mixedOrders=true:=by kernel_rfl
 have hS0:∀ W':World,Below W.heap.size W W'→(fun W':World=>W'.cell? ⟨p,0,none⟩=some (.string s)∧W'.cell? ⟨p,1,none⟩=some (.bool ext)∧W'.cell? ⟨p,2,none⟩=some (.int .i64 (st.k:Int))) W':=fun W' hW=>⟨(hW.cell (p:=⟨p,0,none⟩) hlt).trans k0,(hW.cell (p:=⟨p,1,none⟩) hlt).trans k1,(hW.cell (p:=⟨p,2,none⟩) hlt).trans k2⟩
 clear h hG hP hml hl hRl hlt k0 k1 k2
 go_enter Tryz.func40,Tryz.ntmps40
 go_upto_region 1 with fail
 go_cut [5,6,7] (fun s5 s6 s7 wx=>∃ g tv na nc,s5=.pointer (some ⟨g,0,none⟩)∧s6=.int .i64 (dP R:Int)∧s7=.int .i64 (dE R:Int)∧RxH w p s ext st ta tb ts pa pc ma mc W.heap.size g R tv na nc wx)
 case first=>
  refine wp_region_held_drew (S:=fun W':World=>W'.cell? ⟨p,0,none⟩=some (.string s)∧W'.cell? ⟨p,1,none⟩=some (.bool ext)∧W'.cell? ⟨p,2,none⟩=some (.int .i64 (st.k:Int))) hmix (hS0 _ (Below.drew (Below.refl _ _))) (fun hHeld=>?_)
  refine wpAnyH_take (i:=0) (v:=?_) rfl (by kernel_rfl) (by kernel_rfl) (by kernel_rfl) (fun _ _ _ h=>h) (Or.inl ⟨by rfl,?_⟩) (by assumption) ?_
  rotate_left
  ·intro W' hSw;obtain ⟨c0,c1,c2⟩:=hSw;(try go_simp);try with_reducible rfl
  try simp only [List.getElem_toArray,List.getElem_cons_succ,List.getElem_cons_zero,Act.put,List.setIfInBounds_toArray,List.set_cons_zero,List.set_cons_succ]
  refine wpAnyH_take (i:=1) (v:=?_) rfl (by kernel_rfl) (by kernel_rfl) (by kernel_rfl) (fun _ _ _ h=>h) (Or.inl ⟨by rfl,?_⟩) (by assumption) ?_
  rotate_left
  ·intro W' hSw;obtain ⟨c0,c1,c2⟩:=hSw;(try go_simp);try with_reducible rfl
  try simp only [List.getElem_toArray,List.getElem_cons_succ,List.getElem_cons_zero,Act.put,List.setIfInBounds_toArray,List.set_cons_zero,List.set_cons_succ]
  refine wpAnyH_take (i:=2) (v:=?_) rfl (by kernel_rfl) (by kernel_rfl) (by kernel_rfl) (fun _ _ _ h=>h) (Or.inl ⟨by rfl,?_⟩) (by assumption) ?_
  rotate_left
  ·intro W' hSw;obtain ⟨c0,c1,c2⟩:=hSw;(try go_simp);try with_reducible rfl
  try simp only [List.getElem_toArray,List.getElem_cons_succ,List.getElem_cons_zero,Act.put,List.setIfInBounds_toArray,List.set_cons_zero,List.set_cons_succ]
  refine wpAnyH_take (i:=3) (v:=?_) rfl (by kernel_rfl) (by kernel_rfl) (by kernel_rfl) (fun _ _ _ h=>h) (Or.inl ⟨by rfl,?_⟩) (by assumption) ?_
  rotate_left
  ·intro W' hSw;obtain ⟨c0,c1,c2⟩:=hSw;(try go_simp);try with_reducible rfl
  try simp only [List.getElem_toArray,List.getElem_cons_succ,List.getElem_cons_zero,Act.put,List.setIfInBounds_toArray,List.set_cons_zero,List.set_cons_succ]
  refine wpAnyH_take (i:=4) (v:=?_) rfl (by kernel_rfl) (by kernel_rfl) (by kernel_rfl) (fun _ _ _ h=>h) (Or.inl ⟨by rfl,?_⟩) (by assumption) ?_
  rotate_left
  ·intro W' hSw;obtain ⟨c0,c1,c2⟩:=hSw;(try go_simp);try with_reducible rfl
  try simp only [List.getElem_toArray,List.getElem_cons_succ,List.getElem_cons_zero,Act.put,List.setIfInBounds_toArray,List.set_cons_zero,List.set_cons_succ]
  refine wpAnyH_take (i:=5) (v:=?_) rfl (by kernel_rfl) (by kernel_rfl) (by kernel_rfl) (fun _ _ _ h=>h) (Or.inl ⟨by rfl,?_⟩) (by assumption) ?_
  rotate_left
  ·intro W' hSw;obtain ⟨c0,c1,c2⟩:=hSw;(try go_simp);try with_reducible rfl
  try simp only [List.getElem_toArray,List.getElem_cons_succ,List.getElem_cons_zero,Act.put,List.setIfInBounds_toArray,List.set_cons_zero,List.set_cons_succ]
  refine wpAnyH_take (i:=6) (v:=?_) rfl (by kernel_rfl) (by kernel_rfl) (by kernel_rfl) (fun _ _ _ h=>h) (Or.inl ⟨by rfl,?_⟩) (by assumption) ?_
  rotate_left
  ·intro W' hSw;obtain ⟨c0,c1,c2⟩:=hSw;(try go_simp);try with_reducible rfl
  try simp only [List.getElem_toArray,List.getElem_cons_succ,List.getElem_cons_zero,Act.put,List.setIfInBounds_toArray,List.set_cons_zero,List.set_cons_succ]
  refine wpAnyH_take (i:=7) (v:=?_) rfl (by kernel_rfl) (by kernel_rfl) (by kernel_rfl) (fun _ _ _ h=>h) (Or.inl ⟨by rfl,?_⟩) (by assumption) ?_
  rotate_left
  ·intro W' hSw;obtain ⟨c0,c1,c2⟩:=hSw;(try go_simp);try with_reducible rfl
  try simp only [List.getElem_toArray,List.getElem_cons_succ,List.getElem_cons_zero,Act.put,List.setIfInBounds_toArray,List.set_cons_zero,List.set_cons_succ]
  refine wpAnyH_take (i:=8) (v:=?_) rfl (by kernel_rfl) (by kernel_rfl) (by kernel_rfl) (fun _ _ _ h=>h) (Or.inl ⟨by rfl,?_⟩) (by assumption) ?_
  rotate_left
  ·intro W' hSw;obtain ⟨c0,c1,c2⟩:=hSw;(try go_simp);try with_reducible rfl
  try simp only [List.getElem_toArray,List.getElem_cons_succ,List.getElem_cons_zero,Act.put,List.setIfInBounds_toArray,List.set_cons_zero,List.set_cons_succ]
  refine wpAnyH_take (i:=9) (v:=?_) rfl (by kernel_rfl) (by kernel_rfl) (by kernel_rfl) (fun _ _ _ h=>h) (Or.inl ⟨by rfl,?_⟩) (by assumption) ?_
  rotate_left
  ·intro W' hSw;obtain ⟨c0,c1,c2⟩:=hSw;(try go_simp);try with_reducible rfl
  try simp only [List.getElem_toArray,List.getElem_cons_succ,List.getElem_cons_zero,Act.put,List.setIfInBounds_toArray,List.set_cons_zero,List.set_cons_succ]
  refine wpAnyH_take (i:=10) (v:=?_) rfl (by kernel_rfl) (by kernel_rfl) (by kernel_rfl) (fun _ _ _ h=>h) (Or.inl ⟨by rfl,?_⟩) (by assumption) ?_
  rotate_left
  ·intro W' hSw;obtain ⟨c0,c1,c2⟩:=hSw;(try go_simp);try with_reducible rfl
  try simp only [List.getElem_toArray,List.getElem_cons_succ,List.getElem_cons_zero,Act.put,List.setIfInBounds_toArray,List.set_cons_zero,List.set_cons_succ]
  refine wpAnyH_take (i:=11) (v:=?_) rfl (by kernel_rfl) (by kernel_rfl) (by kernel_rfl) (fun _ _ _ h=>h) (Or.inl ⟨by rfl,?_⟩) (by assumption) ?_
  rotate_left
  ·intro W' hSw;obtain ⟨c0,c1,c2⟩:=hSw;(try go_simp);try with_reducible rfl
  try simp only [List.getElem_toArray,List.getElem_cons_succ,List.getElem_cons_zero,Act.put,List.setIfInBounds_toArray,List.set_cons_zero,List.set_cons_succ]
  refine wpAnyH_take (i:=12) (v:=?_) rfl (by kernel_rfl) (by kernel_rfl) (by kernel_rfl) (fun _ _ _ h=>h) (Or.inl ⟨by rfl,?_⟩) (by assumption) ?_
  rotate_left
  ·intro W' hSw;obtain ⟨c0,c1,c2⟩:=hSw;(try go_simp);try with_reducible rfl
  try simp only [List.getElem_toArray,List.getElem_cons_succ,List.getElem_cons_zero,Act.put,List.setIfInBounds_toArray,List.set_cons_zero,List.set_cons_succ]
  generalize hv0:W.drew=v0 at hHeld ⊢
  have hb0:Below W.heap.size W v0:=by rw [←hv0];exact (Below.refl _ _).drew
  clear hv0
  refine wpAnyH_ready (rs:=[13,18]) (by kernel_rfl) (by simp) ?_
  refine AllReadyH.cons rfl (fun K hK=>?_) ?_
  ·skip
   go_simp
   go_wp2_with (go_at_call 48;refine (hN v0 hb0).mono ?_;rintro e v1 ⟨tv,na,nc,rfl,ht,hr,b1⟩)
   have hb1:Below W.heap.size W v1:=hb0.trans (b1.mono hb0.size)
   refine hK.out _ _ (hS0 _ hb1) (fun hHeld=>?_)
   clear hK K
   try simp only [List.getElem_toArray,List.getElem_cons_succ,List.getElem_cons_zero,Act.put,List.setIfInBounds_toArray,List.set_cons_zero,List.set_cons_succ]
   have hg1:W.heap.size≤v0.heap.size:=hb0.size
   have ht1:TrO (fun b=>W.heap.size≤b∧b < v1.heap.size∧(Value.slice na (dMs R).length nc).ownBlock≠some b) v1 (dN R) tv:=TrO.keep (Nat.le_refl _) (fun b hb hl=>⟨⟨Nat.le_trans hg1 hb.1,hl,hb.2⟩,fun _=>rfl⟩) ht
   have hr1:=own_less hg1 hr
   clear hg1
   refine wpAnyH_take (i:=14) (v:=?_) rfl (by kernel_rfl) (by kernel_rfl) (by kernel_rfl) (fun _ _ _ h=>h) (Or.inl ⟨by rfl,?_⟩) (by assumption) ?_
   rotate_left
   ·intro W' hSw;(try go_simp);try with_reducible rfl
   try simp only [List.getElem_toArray,List.getElem_cons_succ,List.getElem_cons_zero,Act.put,List.setIfInBounds_toArray,List.set_cons_zero,List.set_cons_succ]
   refine wpAnyH_take (i:=15) (v:=?_) rfl (by kernel_rfl) (by kernel_rfl) (by kernel_rfl) (fun _ _ _ h=>h) (Or.inl ⟨by rfl,?_⟩) (by assumption) ?_
   rotate_left
   ·intro W' hSw;(try go_simp);try with_reducible rfl
   try simp only [List.getElem_toArray,List.getElem_cons_succ,List.getElem_cons_zero,Act.put,List.setIfInBounds_toArray,List.set_cons_zero,List.set_cons_succ]
   refine wpAnyH_take (i:=16) (v:=?_) rfl (by kernel_rfl) (by kernel_rfl) (by kernel_rfl) (fun _ _ _ h=>h) (Or.inl ⟨by rfl,?_⟩) (by assumption) ?_
   rotate_left
   ·intro W' hSw;(try go_simp);try with_reducible rfl
   try simp only [List.getElem_toArray,List.getElem_cons_succ,List.getElem_cons_zero,Act.put,List.setIfInBounds_toArray,List.set_cons_zero,List.set_cons_succ]
   refine wpAnyH_take (i:=17) (v:=?_) rfl (by kernel_rfl) (by kernel_rfl) (by kernel_rfl) (fun _ _ _ h=>h) (Or.inl ⟨by rfl,?_⟩) (by assumption) ?_
   rotate_left
   ·intro W' hSw;(try go_simp);try with_reducible rfl
   try simp only [List.getElem_toArray,List.getElem_cons_succ,List.getElem_cons_zero,Act.put,List.setIfInBounds_toArray,List.set_cons_zero,List.set_cons_succ]
   refine wpAnyH_ready (rs:=[18]) (by kernel_rfl) (by simp) ?_
   refine AllReadyH.cons rfl (fun K hK=>?_) AllReadyH.nil
   go_simp
   generalize hA:v1.alloc _=v2
   have ba:=belowOfAlloc hA
   have qa:=blkOfAlloc hA
   have hb2:Below W.heap.size W v2:=hb1.trans (ba.mono hb1.size)
   refine hK.out _ _ (hS0 _ hb2) (fun hHeld=>?_)
   clear hK K hA
   try simp only [List.getElem_toArray,List.getElem_cons_succ,List.getElem_cons_zero,Act.put,List.setIfInBounds_toArray,List.set_cons_zero,List.set_cons_succ]
   have ht2:TrO (fun b=>W.heap.size≤b∧b≠v1.heap.size∧(Value.slice na (dMs R).length nc).ownBlock≠some b) v2 (dN R) tv:=TrO.keep (G:=fun b=>W.heap.size≤b∧b≠v1.heap.size∧(Value.slice na (dMs R).length nc).ownBlock≠some b) ba.size (fun b hb hl=>⟨⟨hb.1,Nat.ne_of_lt hb.2.1,hb.2.2⟩,fun o=>ba.cell (p:=⟨b,o,none⟩) hl⟩) ht1
   have hr2:=nd_own_below hr1 ba
   have hno:∀ q,(Value.slice na (dMs R).length nc).ownBlock=some q→q≠v1.heap.size:=fun q e=>Nat.ne_of_lt (own_lt' hr1 q e)
   have hgb:W.heap.size≤v1.heap.size:=hb1.size
   generalize v1.heap.size=g at qa ht2 hno hgb ⊢
   have hv1:tv.oneCell'=true:=(by rcases ht2.shape with ⟨T,q,rfl⟩ | rfl <;> rfl)
   refine wpAnyH_ready (rs:=[19]) (by kernel_rfl) (by simp) ?_
   refine AllReadyH.cons rfl (fun K hK=>?_) AllReadyH.nil
   rw [if_pos (by rfl)]
   refine wp_store_row 93 _ _ rfl g #[.string (txt (dT R)),tv,.slice na (dMs R).length nc] rfl rfl 93 #[.string ⟨#[]⟩,.nilIface,.slice none 0 0] qa (by kernel_rfl) rfl (rx_row rfl hv1 rfl) ?_
   have hb3:Below W.heap.size W (v2.setRow g #[.string (txt (dT R)),tv,.slice na (dMs R).length nc]):=below_setRow hb2 hgb _
   refine hK.out _ _ (hS0 _ hb3) (fun hHeld=>?_)
   clear hK K
   try simp only [List.getElem_toArray,List.getElem_cons_succ,List.getElem_cons_zero,Act.put,List.setIfInBounds_toArray,List.set_cons_zero,List.set_cons_succ]
   refine wpAnyH_take (i:=20) (v:=?_) rfl (by kernel_rfl) (by kernel_rfl) (by kernel_rfl) (fun _ _ _ h=>h) (Or.inl ⟨by rfl,?_⟩) (by assumption) ?_
   rotate_left
   ·intro W' hSw;(try go_simp);try with_reducible rfl
   try simp only [List.getElem_toArray,List.getElem_cons_succ,List.getElem_cons_zero,Act.put,List.setIfInBounds_toArray,List.set_cons_zero,List.set_cons_succ]
   refine wpAnyH_take (i:=21) (v:=?_) rfl (by kernel_rfl) (by kernel_rfl) (by kernel_rfl) (fun _ _ _ h=>h) (Or.inl ⟨by rfl,?_⟩) (by assumption) ?_
   rotate_left
   ·intro W' hSw;(try go_simp);try with_reducible rfl
   try simp only [List.getElem_toArray,List.getElem_cons_succ,List.getElem_cons_zero,Act.put,List.setIfInBounds_toArray,List.set_cons_zero,List.set_cons_succ]
   refine wpAnyH_done (by kernel_rfl) ?_ _
   (try go_wp2_with fail)
   go_meet
   refine ⟨g,tv,na,nc,rfl,rfl,rfl,HH.out.step hb3,setRow_heap v2 g _ _ _ _ qa,hgb,TrO.keep (by simp) (fun b hb _=>⟨hb,fun o=>World.cell?_of_block (w:=v2) (a:=⟨b,o,none⟩) (setRow_other v2 g b _ hb.2.1)⟩) ht2,own_row_same hr2 fun b hb=>setRow_other v2 g b _ (hno b hb)⟩
  refine AllReadyH.cons rfl (fun K hK=>?_) AllReadyH.nil
  ·skip
   go_simp
   generalize hA:v0.alloc _=v1
   have ba:=belowOfAlloc hA
   have qa:=blkOfAlloc hA
   have hb1:Below W.heap.size W v1:=hb0.trans (ba.mono hb0.size)
   refine hK.out _ _ (hS0 _ hb1) (fun hHeld=>?_)
   clear hK K hA
   try simp only [List.getElem_toArray,List.getElem_cons_succ,List.getElem_cons_zero,Act.put,List.setIfInBounds_toArray,List.set_cons_zero,List.set_cons_succ]
   have hgb:W.heap.size≤v0.heap.size:=hb0.size
   have hgl:v0.heap.size < v1.heap.size:=qa.lt
   generalize v0.heap.size=g at qa hgb hgl ⊢
   refine wpAnyH_ready (rs:=[13]) (by kernel_rfl) (by simp) ?_
   refine AllReadyH.cons rfl (fun K hK=>?_) AllReadyH.nil
   go_simp
   go_wp2_with (go_at_call 48;refine (hN v1 hb1).mono ?_;rintro e v2 ⟨tv,na,nc,rfl,ht,hr,b1⟩)
   have hb2:Below W.heap.size W v2:=hb1.trans (b1.mono hb1.size)
   refine hK.out _ _ (hS0 _ hb2) (fun hHeld=>?_)
   clear hK K
   try simp only [List.getElem_toArray,List.getElem_cons_succ,List.getElem_cons_zero,Act.put,List.setIfInBounds_toArray,List.set_cons_zero,List.set_cons_succ]
   replace qa:=qa.below b1 hgl
   have hg1:W.heap.size≤v1.heap.size:=hb1.size
   have ht2:TrO (fun b=>W.heap.size≤b∧b≠g∧(Value.slice na (dMs R).length nc).ownBlock≠some b) v2 (dN R) tv:=TrO.keep (Nat.le_refl _) (fun b hb _=>⟨⟨Nat.le_trans hg1 hb.1,by have:=hb.1;omega,hb.2⟩,fun _=>rfl⟩) ht
   have hr2:=own_less hg1 hr
   have hno:∀ q,(Value.slice na (dMs R).length nc).ownBlock=some q→q≠g:=fun q e=>by have:=own_of hr q e;omega
   refine wpAnyH_take (i:=14) (v:=?_) rfl (by kernel_rfl) (by kernel_rfl) (by kernel_rfl) (fun _ _ _ h=>h) (Or.inl ⟨by rfl,?_⟩) (by assumption) ?_
   rotate_left
   ·intro W' hSw;(try go_simp);try with_reducible rfl
   try simp only [List.getElem_toArray,List.getElem_cons_succ,List.getElem_cons_zero,Act.put,List.setIfInBounds_toArray,List.set_cons_zero,List.set_cons_succ]
   refine wpAnyH_take (i:=15) (v:=?_) rfl (by kernel_rfl) (by kernel_rfl) (by kernel_rfl) (fun _ _ _ h=>h) (Or.inl ⟨by rfl,?_⟩) (by assumption) ?_
   rotate_left
   ·intro W' hSw;(try go_simp);try with_reducible rfl
   try simp only [List.getElem_toArray,List.getElem_cons_succ,List.getElem_cons_zero,Act.put,List.setIfInBounds_toArray,List.set_cons_zero,List.set_cons_succ]
   refine wpAnyH_take (i:=16) (v:=?_) rfl (by kernel_rfl) (by kernel_rfl) (by kernel_rfl) (fun _ _ _ h=>h) (Or.inl ⟨by rfl,?_⟩) (by assumption) ?_
   rotate_left
   ·intro W' hSw;(try go_simp);try with_reducible rfl
   try simp only [List.getElem_toArray,List.getElem_cons_succ,List.getElem_cons_zero,Act.put,List.setIfInBounds_toArray,List.set_cons_zero,List.set_cons_succ]
   refine wpAnyH_take (i:=17) (v:=?_) rfl (by kernel_rfl) (by kernel_rfl) (by kernel_rfl) (fun _ _ _ h=>h) (Or.inl ⟨by rfl,?_⟩) (by assumption) ?_
   rotate_left
   ·intro W' hSw;(try go_simp);try with_reducible rfl
   try simp only [List.getElem_toArray,List.getElem_cons_succ,List.getElem_cons_zero,Act.put,List.setIfInBounds_toArray,List.set_cons_zero,List.set_cons_succ]
   have hv1:tv.oneCell'=true:=(by rcases ht2.shape with ⟨T,q,rfl⟩ | rfl <;> rfl)
   refine wpAnyH_ready (rs:=[19]) (by kernel_rfl) (by simp) ?_
   refine AllReadyH.cons rfl (fun K hK=>?_) AllReadyH.nil
   rw [if_pos (by rfl)]
   refine wp_store_row 93 _ _ rfl g #[.string (txt (dT R)),tv,.slice na (dMs R).length nc] rfl rfl 93 #[.string ⟨#[]⟩,.nilIface,.slice none 0 0] qa (by kernel_rfl) rfl (rx_row rfl hv1 rfl) ?_
   have hb3:Below W.heap.size W (v2.setRow g #[.string (txt (dT R)),tv,.slice na (dMs R).length nc]):=below_setRow hb2 hgb _
   refine hK.out _ _ (hS0 _ hb3) (fun hHeld=>?_)
   clear hK K
   try simp only [List.getElem_toArray,List.getElem_cons_succ,List.getElem_cons_zero,Act.put,List.setIfInBounds_toArray,List.set_cons_zero,List.set_cons_succ]
   refine wpAnyH_take (i:=20) (v:=?_) rfl (by kernel_rfl) (by kernel_rfl) (by kernel_rfl) (fun _ _ _ h=>h) (Or.inl ⟨by rfl,?_⟩) (by assumption) ?_
   rotate_left
   ·intro W' hSw;(try go_simp);try with_reducible rfl
   try simp only [List.getElem_toArray,List.getElem_cons_succ,List.getElem_cons_zero,Act.put,List.setIfInBounds_toArray,List.set_cons_zero,List.set_cons_succ]
   refine wpAnyH_take (i:=21) (v:=?_) rfl (by kernel_rfl) (by kernel_rfl) (by kernel_rfl) (fun _ _ _ h=>h) (Or.inl ⟨by rfl,?_⟩) (by assumption) ?_
   rotate_left
   ·intro W' hSw;(try go_simp);try with_reducible rfl
   try simp only [List.getElem_toArray,List.getElem_cons_succ,List.getElem_cons_zero,Act.put,List.setIfInBounds_toArray,List.set_cons_zero,List.set_cons_succ]
   refine wpAnyH_done (by kernel_rfl) ?_ _
   (try go_wp2_with fail)
   go_meet
   refine ⟨g,tv,na,nc,rfl,rfl,rfl,HH.out.step hb3,setRow_heap v2 g _ _ _ _ qa,hgb,TrO.keep (by simp) (fun b hb _=>⟨hb,fun o=>World.cell?_of_block (w:=v2) (a:=⟨b,o,none⟩) (setRow_other v2 g b _ hb.2.1)⟩) ht2,own_row_same hr2 fun b hb=>setRow_other v2 g b _ (hno b hb)⟩
 case rest=>
  obtain ⟨g,tv,na,nc,rfl,rfl,rfl,hx⟩:=hcut
  have HX:=Lib.hid hx
  have hgb:=hx.gb
  have hpl:=HH.out.q.lt
  have hgp:g≠p:=by omega
  clear hx hS0 hN
  have c2:World.cell? wc ⟨p,2,none⟩=some (.int .i64 (st.k:Int)):=(HX.out.c.q.cell 2).trans rfl
  have f2:=HX.out.c.q.frozen 2
  go_upto_region 3 with fail
  have HY:=Lib.hid (HX.out.go hpl (dP R))
  clear c2 f2 HX
  generalize wc.setCell ⟨p,2,none⟩ (.int .i64 (dP R:Int))=wy at HY ⊢
  have c15:wy.cell? ⟨p,15,none⟩=some (.string (txt st.c.sub.text)):=(HY.out.c.q.cell 15).trans rfl
  have c16:wy.cell? ⟨p,16,none⟩=some ts:=(HY.out.c.q.cell 16).trans rfl
  have f15:=HY.out.c.q.frozen 15
  have f16:=HY.out.c.q.frozen 16
  obtain ⟨x0,x1,x2,_,_,_,hxl⟩:=blk3 HY.out.x
  have hsh:=HY.out.t.shape
  go_cut [] (fun wx=>RxH w p s ext (st.rxn (dT R) (dN R) (dP R)) ta tb tv pa pc ma mc W.heap.size g R tv na nc wx)
  case first=>
   have HM:=Lib.hid (fun q hq=>own_lt' HH.out.r q hq)
   have HZ:=Lib.hid (HY.out.tree hpl HH.out.b0.size HM.out)
   rcases hsh with ⟨T8,q8,rfl⟩ | rfl
   all_goals
    go_region_law (first | fail)
    all_goals
     (try go_wp2_with fail)
     go_meet
     exact HZ.out.drew
  case rest=>
   have HX:=Lib.hid hcut
   clear hcut c15 c16 f15 f16 x0 x1 x2 hxl hsh HY
   generalize hst5:st.rxn (dT R) (dN R) (dP R)=st5 at HX
   have hms:st5.ms=st.ms:=by rw [←hst5];rfl
   have hl5:st5.ms.length≤90000:=by rw [hms];exact HL.out
   have c23:World.cell? wc ⟨p,23,none⟩=some (.slice ma st5.ms.length mc):=(HX.out.c.q.cell 23).trans rfl
   obtain ⟨x0,x1,x2,_,_,_,hxl⟩:=blk3 HX.out.x
   have hml:=HML.out
   obtain ⟨i0,hi,hz0,hz1,hz2⟩:=mark_info
   have hm1:st5.ms.length+(dMs R).length≤maxLen:=by unfold maxLen;omega
   have hm2:(st5.ms.length+(dMs R).length) * 24≤140737488355328:=by omega
   have hbs:w.heap.size≤(World.heap wc).size:=HX.out.c.b0.size
   have Hst:=Lib.hid hst5
   have Hl5:=Lib.hid hl5
   clear hst5 hms hl5 hml hgb hpl hgp
   go_upto_region 4 with fail
   go_region_law (first
    | (refine step_append_any rfl _ _ 36 rfl w.heap.size 77 i0 (.agg #[.int .i64 0,.string ⟨#[]⟩]) 2 24 Tryz.underlying36 hi hz0 hz1 hz2 rfl (by decide) (.slice ma st5.ms.length mc) st5.ms.length (wmC st5.ms) rfl (nd_own_below HX.out.c.r (by first | exact Below.refl _ _ | exact (Below.refl _ _).drew)) na (dMs R).length nc (wmC (dMs R)) rfl (wmC_len _) (newsOf HX.out.r) (wmC_one _) hm1 hm2 hbs ?_;intro v6 w6 hown6 hgrow6 hat6;obtain ⟨a6,c6,rfl⟩:=own_form' hown6;have HP:=Lib.hid (HX.out.c.push (n:=(dMs R).length) (ms2:=dMs R) (Below.refl _ _).drew rfl hgrow6 hown6 hat6);have f23:=(blkGrownR (HX.out.c.q.below (Below.refl _ _).drew HX.out.c.q.lt) hgrow6 HX.out.c.rg).frozen 23;have g23:w6.cell? ⟨p,23,none⟩=some (.slice ma st5.ms.length mc):=((blkGrownR (HX.out.c.q.below (Below.refl _ _).drew HX.out.c.q.lt) hgrow6 HX.out.c.rg).cell 23).trans rfl;clear hown6 hgrow6 hat6))
   all_goals
    have hst:=Hst.out
    subst hst
    (try go_wp2_with fail)
    go_ret
    exact ⟨rfl,HP.out.R⟩
end Go.Proofs.YtbgfankoojjejaaGreatDoor
namespace Go.Proofs.YtbgfankoojjejaaGreatDoor
open Go Go.RowKit
theorem cmu_ne {b c:UInt8} (h:¬ b=c):((b.toNat:Int) == (c.toNat:Int))=false:=by
 have:¬ (b.toNat:Int)=(c.toNat:Int):=fun e=>h (UInt8.toNat_inj.1 (by omega))
 simpa using this
theorem kdel_any (w:World) (p:Nat) (s:ByteArray) (ext:Bool) (st:CS) (W:World) (h:CmR w p s ext st W) (hs:s.size≤4000000) (hk:st.k≤s.size) :
  Calls Tryz.prog 39 #[.pointer (some ⟨p,0,none⟩)] W fun e W'=>e=.returned (.tuple #[.int .u8 ((cmDel s.data.toList st).1.toNat:Int),.int .i64 ((cmDel s.data.toList st).2.1:Int)])∧CmR w p s ext (cmDel s.data.toList st).2.2 W':=by
 obtain ⟨ta,tb,ts,pa,pc,ma,mc,h⟩:=h
 unfold cmDel
 have HH:=Lib.hid h
 have k0:W.cell? ⟨p,0,none⟩=some (.string s):=(h.q.cell 0).trans rfl
 have k2:W.cell? ⟨p,2,none⟩=some (.int .i64 (st.k:Int)):=(h.q.cell 2).trans rfl
 have f2:=h.q.frozen 2
 clear h
 by_cases hz:st.k=s.size
 ·rw [drop_end s st.k (by omega)]
  have hE:((st.k:Int) == (s.size:Int))=true:=by simp [hz]
  clear hz
  simp only
  go_enter Tryz.func39,Tryz.ntmps39
  go_upto_region 1 with fail
  go_quiet (fail)
  generalize nq=n1
  go_wp2_with fail
  go_ret2
  exact ⟨rfl,(HH.out.drewN n1).R⟩
 ·have hlt:st.k < s.size:=by omega
  rw [drop_at s st.k hlt]
  have hE:((st.k:Int) == (s.size:Int))=false:=by simp;omega
  have hy0:(0:Int)≤(st.k:Int):=by omega
  have hy1:(st.k:Int) < (s.size:Int):=by omega
  clear hz
  simp only
  by_cases h1:s[st.k]=92∨s[st.k]=10
  ·rw [if_pos h1]
   rcases h1 with h1 | h1
   all_goals
    have e1:s[st.k].toNat=_:=congrArg UInt8.toNat h1
    clear h1
    go_enter Tryz.func39,Tryz.ntmps39;go_upto_region 1 with fail;go_quiet (fail);generalize nq=n1;go_upto_region 3 with fail;go_quiet (fail);have H4:=Lib.hid (HH.out.drewN (n1+nq));generalize nq=n2 at H4 ⊢
    go_wp2_with fail
    go_ret2
    exact ⟨rfl,H4.out.R⟩
  ·rw [if_neg h1]
   have c1:((s[st.k].toNat:Int) == 92)=false:=cmu_ne (c:=92) fun e=>h1 (.inl e)
   have c2:((s[st.k].toNat:Int) == 10)=false:=cmu_ne (c:=10) fun e=>h1 (.inr e)
   have Wk:IntKind.i64.wrap ((st.k:Int)+1)=((st.k+1:Nat):Int):=by rw [IntWalk.i64_in _ (by omega)];omega
   clear h1
   go_enter Tryz.func39,Tryz.ntmps39;go_upto_region 1 with fail;go_quiet (fail);generalize nq=n1;go_upto_region 3 with fail;go_quiet (fail);have H4:=Lib.hid (HH.out.drewN (n1+nq));generalize nq=n2 at H4 ⊢
   have H5:=Lib.hid (H4.out.go (st.k+1))
   clear H4
   go_wp2_with fail
   go_ret2
   exact ⟨rfl,H5.out.R⟩
theorem CmSt.all {w:World} {p:Nat} {s:ByteArray} {ext:Bool} {st:CS} {ta tb ts:Value} {pa:Option Addr} {pc:Nat} {ma:Option Addr} {mc:Nat} {W:World} (h:CmSt w p s ext st ta tb ts pa pc ma mc W):CmSt w p s ext st.all ta tb ts pa pc ma mc ((W.setCell ⟨p,19,none⟩ (.bool true)).setCell ⟨p,2,none⟩ (.int .i64 ((st.k+1:Nat):Int))):=
 (h.put 19 (.bool true) { st with c:={ st.c with sub:={ st.c.sub with all:=true } } } rfl rfl rfl rfl fun _ _=>rfl).go (st.k+1)
theorem CmSt.prt {w:World} {p:Nat} {s:ByteArray} {ext:Bool} {st:CS} {ta tb ts:Value} {pa:Option Addr} {pc:Nat} {ma:Option Addr} {mc:Nat} {W:World} (h:CmSt w p s ext st ta tb ts pa pc ma mc W):CmSt w p s ext st.prt ta tb ts pa pc ma mc ((W.setCell ⟨p,20,none⟩ (.bool true)).setCell ⟨p,2,none⟩ (.int .i64 ((st.k+1:Nat):Int))):=
 (h.put 20 (.bool true) { st with c:={ st.c with sub:={ st.c.sub with prt:=true } } } rfl rfl rfl rfl fun _ _=>rfl).go (st.k+1)
theorem kall_any (w:World) (p:Nat) (s:ByteArray) (ext:Bool) (st:CS) (W:World) (h:CmR w p s ext st W) (hs:s.size≤4000000) (hk:st.k≤s.size) :
  Calls Tryz.prog 58 #[.pointer (some ⟨p,0,none⟩),.pointer (some ⟨p,19,none⟩)] W fun e W'=>e=.returned (.int .i64 ((cmAll st).1:Int))∧CmR w p s ext (cmAll st).2 W':=by
 obtain ⟨ta,tb,ts,pa,pc,ma,mc,h⟩:=h
 unfold cmAll
 have HH:=Lib.hid h
 have k2:W.cell? ⟨p,2,none⟩=some (.int .i64 (st.k:Int)):=(h.q.cell 2).trans rfl
 have kf:W.cell? ⟨p,19,none⟩=some (.bool st.c.sub.all):=(h.q.cell 19).trans rfl
 have f2:=h.q.frozen 2
 have ff:=h.q.frozen 19
 have Wk:IntKind.i64.wrap ((st.k:Int)+1)=((st.k+1:Nat):Int):=by rw [IntWalk.i64_in _ (by omega)];omega
 clear h
 obtain ⟨b,hb⟩:∃ b,st.c.sub.all=b:=⟨_,rfl⟩
 rw [hb] at kf ⊢
 clear hb
 cases b
 ·rw [if_neg (by decide)]
  have H5:=Lib.hid HH.out.all
  go_enter Tryz.func58,Tryz.ntmps58
  go_wp2_with fail
  go_ret
  exact ⟨rfl,H5.out.R⟩
 ·rw [if_pos rfl]
  go_enter Tryz.func58,Tryz.ntmps58
  go_wp2_with fail
  go_ret
  exact ⟨rfl,HH.out.R⟩
theorem kprt_any (w:World) (p:Nat) (s:ByteArray) (ext:Bool) (st:CS) (W:World) (h:CmR w p s ext st W) (hs:s.size≤4000000) (hk:st.k≤s.size) :
  Calls Tryz.prog 58 #[.pointer (some ⟨p,0,none⟩),.pointer (some ⟨p,20,none⟩)] W fun e W'=>e=.returned (.int .i64 ((cmPrt st).1:Int))∧CmR w p s ext (cmPrt st).2 W':=by
 obtain ⟨ta,tb,ts,pa,pc,ma,mc,h⟩:=h
 unfold cmPrt
 have HH:=Lib.hid h
 have k2:W.cell? ⟨p,2,none⟩=some (.int .i64 (st.k:Int)):=(h.q.cell 2).trans rfl
 have kf:W.cell? ⟨p,20,none⟩=some (.bool st.c.sub.prt):=(h.q.cell 20).trans rfl
 have f2:=h.q.frozen 2
 have ff:=h.q.frozen 20
 have Wk:IntKind.i64.wrap ((st.k:Int)+1)=((st.k+1:Nat):Int):=by rw [IntWalk.i64_in _ (by omega)];omega
 clear h
 obtain ⟨b,hb⟩:∃ b,st.c.sub.prt=b:=⟨_,rfl⟩
 rw [hb] at kf ⊢
 clear hb
 cases b
 ·rw [if_neg (by decide)]
  have H5:=Lib.hid HH.out.prt
  go_enter Tryz.func58,Tryz.ntmps58
  go_wp2_with fail
  go_ret
  exact ⟨rfl,H5.out.R⟩
 ·rw [if_pos rfl]
  go_enter Tryz.func58,Tryz.ntmps58
  go_wp2_with fail
  go_ret
  exact ⟨rfl,HH.out.R⟩
theorem kdigit_any (b:UInt8) (w:World):Calls Tryz.prog 59 #[.int .u8 (b.toNat:Int)] w fun e w'=>e=.returned (.bool (pcDigits.contains b))∧w'=w:=by
 rw [pcDigits_iff]
 by_cases h1:48≤b.toNat
 ·have d1:(48:Int)≤(b.toNat:Int):=by omega
  rw [decide_eq_true h1,Bool.true_and]
  by_cases h2:b.toNat≤57
  ·have d2:(b.toNat:Int)≤57:=by omega
   rw [decide_eq_true h2]
   go_enter Tryz.func59,Tryz.ntmps59
   go_wp2_with fail
   go_ret
   exact ⟨rfl,rfl⟩
  ·have d2:¬ (b.toNat:Int)≤57:=by omega
   rw [decide_eq_false h2]
   go_enter Tryz.func59,Tryz.ntmps59
   go_wp2_with fail
   go_ret
   exact ⟨rfl,rfl⟩
 ·have d1:¬ (48:Int)≤(b.toNat:Int):=by omega
  rw [decide_eq_false h1,Bool.false_and]
  go_enter Tryz.func59,Tryz.ntmps59
  go_wp2_with fail
  go_ret
  exact ⟨rfl,rfl⟩
def cmMostV (m:Option Nat):Value:=match m with
 | some n=>.tuple #[.int .i64 (n:Int),.bool true]
 | none=>.tuple #[.int .i64 0,.bool false]
theorem kmost_any (b:UInt8) (w:World):Calls Tryz.prog 34 #[.int .u8 (b.toNat:Int)] w fun e w'=>e=.returned (cmMostV (cmMost b))∧w'=w:=by
 by_cases h:b∈[125,58,61,113,81,97,105,114,123,100,68,103,71,104,72,108,110,78,112,80,120,122,98,116,84,99,119,115,121]
 ·simp only [List.mem_cons,List.not_mem_nil,or_false] at h
  rcases h with rfl | rfl | rfl | rfl | rfl | rfl | rfl | rfl | rfl | rfl | rfl | rfl | rfl | rfl | rfl | rfl | rfl | rfl | rfl | rfl | rfl | rfl | rfl | rfl | rfl | rfl | rfl | rfl | rfl
  all_goals
   go_enter Tryz.func34,Tryz.ntmps34
   go_wp2_with fail
   go_ret2
   exact ⟨rfl,rfl⟩
 ·simp only [List.mem_cons,List.not_mem_nil,or_false,not_or] at h
  obtain ⟨q125,q58,q61,q113,q81,q97,q105,q114,q123,q100,q68,q103,q71,q104,q72,q108,q110,q78,q112,q80,q120,q122,q98,q116,q84,q99,q119,q115,q121⟩:=h
  have c125:((b.toNat:Int) == 125)=false:=cmu_ne (c:=125) q125
  have c58:((b.toNat:Int) == 58)=false:=cmu_ne (c:=58) q58
  have c61:((b.toNat:Int) == 61)=false:=cmu_ne (c:=61) q61
  have c113:((b.toNat:Int) == 113)=false:=cmu_ne (c:=113) q113
  have c81:((b.toNat:Int) == 81)=false:=cmu_ne (c:=81) q81
  have c97:((b.toNat:Int) == 97)=false:=cmu_ne (c:=97) q97
  have c105:((b.toNat:Int) == 105)=false:=cmu_ne (c:=105) q105
  have c114:((b.toNat:Int) == 114)=false:=cmu_ne (c:=114) q114
  have c123:((b.toNat:Int) == 123)=false:=cmu_ne (c:=123) q123
  have c100:((b.toNat:Int) == 100)=false:=cmu_ne (c:=100) q100
  have c68:((b.toNat:Int) == 68)=false:=cmu_ne (c:=68) q68
  have c103:((b.toNat:Int) == 103)=false:=cmu_ne (c:=103) q103
  have c71:((b.toNat:Int) == 71)=false:=cmu_ne (c:=71) q71
  have c104:((b.toNat:Int) == 104)=false:=cmu_ne (c:=104) q104
  have c72:((b.toNat:Int) == 72)=false:=cmu_ne (c:=72) q72
  have c108:((b.toNat:Int) == 108)=false:=cmu_ne (c:=108) q108
  have c110:((b.toNat:Int) == 110)=false:=cmu_ne (c:=110) q110
  have c78:((b.toNat:Int) == 78)=false:=cmu_ne (c:=78) q78
  have c112:((b.toNat:Int) == 112)=false:=cmu_ne (c:=112) q112
  have c80:((b.toNat:Int) == 80)=false:=cmu_ne (c:=80) q80
  have c120:((b.toNat:Int) == 120)=false:=cmu_ne (c:=120) q120
  have c122:((b.toNat:Int) == 122)=false:=cmu_ne (c:=122) q122
  have c98:((b.toNat:Int) == 98)=false:=cmu_ne (c:=98) q98
  have c116:((b.toNat:Int) == 116)=false:=cmu_ne (c:=116) q116
  have c84:((b.toNat:Int) == 84)=false:=cmu_ne (c:=84) q84
  have c99:((b.toNat:Int) == 99)=false:=cmu_ne (c:=99) q99
  have c119:((b.toNat:Int) == 119)=false:=cmu_ne (c:=119) q119
  have c115:((b.toNat:Int) == 115)=false:=cmu_ne (c:=115) q115
  have c121:((b.toNat:Int) == 121)=false:=cmu_ne (c:=121) q121
  have hm:cmMost b=none:=by
   unfold cmMost
   rw [if_neg (by simp [q125,q58]),if_neg (by simp [q61,q113,q81,q97,q105,q114]),if_neg (by simp [q123,q100,q68,q103,q71,q104,q72,q108,q110,q78,q112,q80,q120,q122,q98,q116,q84,q99,q119,q115,q121])]
  rw [hm]
  clear hm q125 q58 q61 q113 q81 q97 q105 q114 q123 q100 q68 q103 q71 q104 q72 q108 q110 q78 q112 q80 q120 q122 q98 q116 q84 q99 q119 q115 q121
  go_enter Tryz.func34,Tryz.ntmps34
  go_wp2_with fail
  go_ret2
  exact ⟨rfl,rfl⟩
theorem kadds_any (g:Grd) (la lb:Int) (sa sb:ByteArray) (ta tb:Value) (w:World) (hx:(∃ T q,ta=.iface T q)∨ta=.nilIface) (hy:(∃ T q,tb=.iface T q)∨tb=.nilIface):Calls Tryz.prog 35 #[.agg #[.int .i64 (g.a.kind:Int),.int .i64 la,.string sa,ta,.int .i64 (g.b.kind:Int),.int .i64 lb,.string sb,tb,.bool g.no]] w fun e w'=>e=.returned (.int .i64 (cmAdds g:Int))∧Below w.heap.size w w':=by
 obtain ⟨W1,hW1⟩:∃ W1,w.alloc (.cells #[.int .i64 (g.a.kind:Int),.int .i64 la,.string sa,ta,.int .i64 (g.b.kind:Int),.int .i64 lb,.string sb,tb,.bool g.no] 30)=W1:=⟨_,rfl⟩
 have hb1:=belowOfAlloc hW1
 obtain ⟨⟨x0,x1,x2,x3,x4,x5,x6,x7,x8⟩,_,_,_,_,_,_,_,_,_,hxl⟩:=blk9v (blkOfAlloc hW1)
 unfold cmAdds
 by_cases h1:g.a.kind=0
 ·rw [if_pos h1]
  have c1:((g.a.kind:Int) == 0)=true:=by simp [h1]
  clear h1
  rcases hx with ⟨T8,q8,rfl⟩ | rfl <;> rcases hy with ⟨T9,q9,rfl⟩ | rfl
  all_goals
   go_enter Tryz.func35,Tryz.ntmps35
   go_wp2_with fail
   go_ret
   exact ⟨rfl,hb1⟩
 ·rw [if_neg h1]
  have c1:((g.a.kind:Int) == 0)=false:=by simpa using h1
  clear h1
  by_cases h2:g.b.kind=0
  ·rw [if_pos h2]
   have c2:((g.b.kind:Int) == 0)=true:=by simp [h2]
   clear h2
   rcases hx with ⟨T8,q8,rfl⟩ | rfl <;> rcases hy with ⟨T9,q9,rfl⟩ | rfl
   all_goals
    go_enter Tryz.func35,Tryz.ntmps35
    go_wp2_with fail
    go_ret
    exact ⟨rfl,hb1⟩
  ·rw [if_neg h2]
   have c2:((g.b.kind:Int) == 0)=false:=by simpa using h2
   clear h2
   rcases hx with ⟨T8,q8,rfl⟩ | rfl <;> rcases hy with ⟨T9,q9,rfl⟩ | rfl
   all_goals
    go_enter Tryz.func35,Tryz.ntmps35
    go_wp2_with fail
    go_ret
    exact ⟨rfl,hb1⟩
end Go.Proofs.YtbgfankoojjejaaGreatDoor
