/- The proof's texts NdInner, NdStk, Gen, Cmn, AdWa, Idx: what the claim reaches of them. -/
import Derived.Test.YtbgfankoojjejaaGreatDoorGd05
import Derived.Lib.Hide
import Derived.Test.YtbgfankoojjejaaGreatDoorGd01
import Derived.Test.YtbgfankoojjejaaGreatDoorGd02
import Derived.RangeFuncBox
import Derived.Maps.AppendAt
import Derived.WalkSmall
import Derived.Laws.ResultCell
import Derived.Test.YtbgfankoojjejaaGreatDoorGd04
import Derived.Test.YtbgfankoojjejaaGreatDoorGd03
import Derived.Shelf.Strings.Search3
import Derived.Shelf.Strings.Prefix
import Derived.Lib.IndexMore
import Derived.Laws.BytesArg
set_option linter.unusedSimpArgs false
set_option linter.unusedVariables false
set_option maxHeartbeats 8000000
set_option maxRecDepth 1000000
namespace Go.Proofs.YtbgfankoojjejaaGreatDoor
open Go.RowKit
def NdX (F:Nat→Prop) (w:World) (d:Nd) (v:Value):Prop:=∃ n,NdAt F n w d v
def NdRw (F:Nat→Prop) (w:World) (l:List Nd) (a:Option Addr) (cap:Nat):Prop:=
 l.length≤cap∧cap≤maxLen∧(0 < l.length→∃ b o,a=some ⟨b,o,none⟩∧F b∧b < w.heap.size∧∀ i (h:i < l.length),∃ u,w.cell? ⟨b,o+i,none⟩=some u∧NdX F w l[i] u)
theorem NdX.keep {F G:Nat→Prop} {w w':World} (hs:w.heap.size≤w'.heap.size) (hF:∀ b,F b→b < w.heap.size→G b∧∀ o,w'.cell? ⟨b,o,none⟩=w.cell? ⟨b,o,none⟩) {d:Nd} {v:Value} (h:NdX F w d v):NdX G w' d v:=by
 obtain ⟨n,h⟩:=h
 exact ⟨n,NdAt.keep hs hF n d v h⟩
theorem NdRw.keep {F G:Nat→Prop} {w w':World} (hs:w.heap.size≤w'.heap.size) (hF:∀ b,F b→b < w.heap.size→G b∧∀ o,w'.cell? ⟨b,o,none⟩=w.cell? ⟨b,o,none⟩) {l:List Nd} {a:Option Addr} {cap:Nat} (h:NdRw F w l a cap):NdRw G w' l a cap:=by
 refine ⟨h.1,h.2.1,fun h0=>?_⟩
 obtain ⟨b,o,rfl,hf,hb,hx⟩:=h.2.2 h0
 refine ⟨b,o,rfl,(hF b hf hb).1,Nat.lt_of_lt_of_le hb hs,fun i hi=>?_⟩
 obtain ⟨u,hu,hr⟩:=hx i hi
 exact ⟨u,((hF b hf hb).2 _).trans hu,hr.keep hs hF⟩
theorem NdX.below {F:Nat→Prop} {w w':World} (hb:Below w.heap.size w w') {d:Nd} {v:Value} (h:NdX F w d v):NdX F w' d v:=
 h.keep hb.size (fun b hf hlt=>⟨hf,fun o=>hb.cell (p:=⟨b,o,none⟩) hlt⟩)
theorem NdRw.below {F:Nat→Prop} {w w':World} (hb:Below w.heap.size w w') {l:List Nd} {a:Option Addr} {cap:Nat} (h:NdRw F w l a cap):NdRw F w' l a cap:=
 h.keep hb.size (fun b hf hlt=>⟨hf,fun o=>hb.cell (p:=⟨b,o,none⟩) hlt⟩)
theorem NdX.drew {F:Nat→Prop} {w:World} {d:Nd} {v:Value} (h:NdX F w d v):NdX F w.drew d v:=h.below (Below.drew (Below.refl _ _))
theorem NdRw.drew {F:Nat→Prop} {w:World} {l:List Nd} {a:Option Addr} {cap:Nat} (h:NdRw F w l a cap):NdRw F w.drew l a cap:=h.below (Below.drew (Below.refl _ _))
theorem NdRw.nil (F:Nat→Prop) (w:World) (a:Option Addr) (cap:Nat) (h:cap≤maxLen):NdRw F w [] a cap:=⟨Nat.zero_le _,h,fun h=>absurd h (by simp)⟩
theorem NdRw.of {F:Nat→Prop} {n:Nat} {w:World} {l:List Nd} {a:Option Addr} {cap:Nat} (h:NdRow F n w l a cap):NdRw F w l a cap:=by
 refine ⟨h.1,h.2.1,fun h0=>?_⟩
 obtain ⟨b,o,rfl,hf,hb,hx⟩:=h.2.2 h0
 refine ⟨b,o,rfl,hf,hb,fun i hi=>?_⟩
 obtain ⟨u,hu,hr⟩:=hx i hi
 exact ⟨u,hu,n,hr⟩
theorem NdRw.tail {F:Nat→Prop} {w:World} {d:Nd} {l:List Nd} {a:Option Addr} {cap:Nat} (h:NdRw F w (d :: l) a cap) :
  ∃ b o u,a=some ⟨b,o,none⟩∧F b∧b < w.heap.size∧1≤cap∧w.cell? ⟨b,o,none⟩=some u∧NdX F w d u∧NdRw F w l (some ⟨b,o+1,none⟩) (cap - 1):=by
 obtain ⟨b,o,rfl,hf,hb,hx⟩:=h.2.2 (by simp)
 obtain ⟨u,hu,hr⟩:=hx 0 (by simp)
 have h1:=h.1
 have h2:=h.2.1
 simp at h1
 refine ⟨b,o,u,rfl,hf,hb,by omega,hu,hr,by omega,by omega,fun _=>⟨b,o+1,rfl,hf,hb,fun i hi=>?_⟩⟩
 obtain ⟨u',hu',hr'⟩:=hx (i+1) (by simpa using hi)
 exact ⟨u',by rw [←hu',Nat.add_assoc,Nat.add_comm 1 i],by simpa using hr'⟩
theorem ndrw_one {F G:Nat→Prop} {w:World} {d:Nd} {u:Value} {T:TypeId} {k:Nat} (hk:w.heap.size=k) (h:NdX F w d u) (hG:∀ b,F b→b < w.heap.size→G b) (hn:G w.heap.size):NdRw G (w.alloc (.cells #[u] T)) [d] (some ⟨k,0,none⟩) 1:=by
 subst hk
 have hb:=Blk.new w #[u] T _ rfl
 refine ⟨Nat.le_refl _,by decide,fun _=>⟨w.heap.size,0,rfl,hn,hb.lt,fun i hi=>?_⟩⟩
 obtain rfl:i=0:=by simp at hi;exact hi
 have hB:=(Below.refl w.heap.size w).alloc (Nat.le_refl _) (.cells #[u] T)
 exact ⟨u,(hb.cell 0).trans rfl,h.keep hB.size (fun b hf hlt=>⟨hG b hf hlt,fun o=>hB.cell (p:=⟨b,o,none⟩) hlt⟩)⟩
theorem inner_any {F:Nat→Prop} (d:Nd) (v:Value) (w:World) (h:NdX F w d v) :
  Calls Tryz.prog 45 #[v] w fun e w'=>∃ a cap,e=.returned (.slice a (nkids d).length cap)∧NdRw (fun b=>F b∨w.heap.size≤b) w' (nkids d) a cap∧Below w.heap.size w w':=by
 obtain ⟨n,h⟩:=h
 cases n with
 | zero=>exact h.elim
 | succ n=>
  cases d with
  | empty=>
   rcases h with rfl | rfl
   ·go_enter Tryz.func45,Tryz.ntmps45
    go_wp2_with fail
    go_ret
    exact ⟨none,0,rfl,NdRw.nil _ _ _ _ (by decide),Below.refl _ _⟩
   ·go_enter Tryz.func45,Tryz.ntmps45
    go_wp2_with fail
    go_ret
    exact ⟨none,0,rfl,NdRw.nil _ _ _ _ (by decide),Below.refl _ _⟩
  | one s=>
   obtain rfl:=h
   go_enter Tryz.func45,Tryz.ntmps45
   go_wp2_with fail
   go_ret
   exact ⟨none,0,rfl,NdRw.nil _ _ _ _ (by decide),Below.refl _ _⟩
  | back num=>
   obtain rfl:=h
   go_enter Tryz.func45,Tryz.ntmps45
   go_wp2_with fail
   go_ret
   exact ⟨none,0,rfl,NdRw.nil _ _ _ _ (by decide),Below.refl _ _⟩
  | start=>
   obtain rfl:=h
   go_enter Tryz.func45,Tryz.ntmps45
   go_wp2_with fail
   go_ret
   exact ⟨none,0,rfl,NdRw.nil _ _ _ _ (by decide),Below.refl _ _⟩
  | fin=>
   obtain rfl:=h
   go_enter Tryz.func45,Tryz.ntmps45
   go_wp2_with fail
   go_ret
   exact ⟨none,0,rfl,NdRw.nil _ _ _ _ (by decide),Below.refl _ _⟩
  | cat l=>
   obtain ⟨a,cap,rfl,hx⟩:=h
   have hR:NdRw F w l a cap:=NdRw.of (n:=n) hx
   clear hx
   go_enter Tryz.func45,Tryz.ntmps45
   go_wp2_with fail
   go_ret
   have hB:=(Below.refl w.heap.size w).alloc (Nat.le_refl _) (.cells #[.slice a l.length cap] 121)
   exact ⟨a,cap,rfl,hR.keep hB.size (fun b hf hlt=>⟨.inl hf,fun o=>hB.cell (p:=⟨b,o,none⟩) hlt⟩),hB⟩
  | alt l=>
   obtain ⟨a,cap,rfl,hx⟩:=h
   have hR:NdRw F w l a cap:=NdRw.of (n:=n) hx
   clear hx
   go_enter Tryz.func45,Tryz.ntmps45
   go_wp2_with fail
   go_ret
   have hB:=(Below.refl w.heap.size w).alloc (Nat.le_refl _) (.cells #[.slice a l.length cap] 122)
   exact ⟨a,cap,rfl,hR.keep hB.size (fun b hf hlt=>⟨.inl hf,fun o=>hB.cell (p:=⟨b,o,none⟩) hlt⟩),hB⟩
  | rep d mn mx=>
   obtain ⟨u,rfl,hu⟩:=h
   have hX:NdX F w d u:=⟨n,hu⟩
   rcases nd_shape hu with ⟨T,q,rfl⟩ | rfl
   ·clear hu
    go_enter Tryz.func45,Tryz.ntmps45
    go_wp2_with fail
    go_ret
    have hB:=(Below.refl w.heap.size w).alloc (Nat.le_refl _) (.cells #[.iface T q,.int .i64 mn,.int .i64 mx] 124)
    refine ⟨_,_,rfl,ndrw_one (G:=fun b=>F b∨w.heap.size≤b) (by simp) (hX.below hB) (fun b hf _=>.inl hf) (.inr hB.size),hB.alloc hB.size _⟩
   ·clear hu
    go_enter Tryz.func45,Tryz.ntmps45
    go_wp2_with fail
    go_ret
    have hB:=(Below.refl w.heap.size w).alloc (Nat.le_refl _) (.cells #[.nilIface,.int .i64 mn,.int .i64 mx] 124)
    refine ⟨_,_,rfl,ndrw_one (G:=fun b=>F b∨w.heap.size≤b) (by simp) (hX.below hB) (fun b hf _=>.inl hf) (.inr hB.size),hB.alloc hB.size _⟩
  | group num d=>
   obtain ⟨u,rfl,hu⟩:=h
   have hX:NdX F w d u:=⟨n,hu⟩
   rcases nd_shape hu with ⟨T,q,rfl⟩ | rfl
   ·clear hu
    go_enter Tryz.func45,Tryz.ntmps45
    go_wp2_with fail
    go_ret
    have hB:=(Below.refl w.heap.size w).alloc (Nat.le_refl _) (.cells #[.int .i64 num,.iface T q] 126)
    refine ⟨_,_,rfl,ndrw_one (G:=fun b=>F b∨w.heap.size≤b) (by simp) (hX.below hB) (fun b hf _=>.inl hf) (.inr hB.size),hB.alloc hB.size _⟩
   ·clear hu
    go_enter Tryz.func45,Tryz.ntmps45
    go_wp2_with fail
    go_ret
    have hB:=(Below.refl w.heap.size w).alloc (Nat.le_refl _) (.cells #[.int .i64 num,.nilIface] 126)
    refine ⟨_,_,rfl,ndrw_one (G:=fun b=>F b∨w.heap.size≤b) (by simp) (hX.below hB) (fun b hf _=>.inl hf) (.inr hB.size),hB.alloc hB.size _⟩
end Go.Proofs.YtbgfankoojjejaaGreatDoor
namespace Go.Proofs.YtbgfankoojjejaaGreatDoor
open Go Go.RowKit
theorem Boxed.ne_of {W:World} {A B:Nat} {t u:TypeId} {v x:Value} (h:Boxed W A t v) (k:Boxed W B u x) (htu:t≠u):A≠B:=by
 intro e
 subst e
 have:=(show W.heap[A]?=_ from h).symm.trans k
 simp at this
 exact htu this.2
theorem Boxed.same {W W':World} {B:Nat} {t:TypeId} {v:Value} (h:Boxed W B t v) (k:W'.heap[B]?=W.heap[B]?):Boxed W' B t v:=k.trans h
theorem own_row_same {w w':World} {base:Nat} {e:TypeId} {size:Nat} {v:Value} {n:Nat} {xs:List Value} (h:w.ownsRow base e size v n xs) (hb:∀ g,v.ownBlock=some g→w'.heap[g]?=w.heap[g]?):w'.ownsRow base e size v n xs:=by
 obtain ⟨h1,h2⟩:=h
 refine ⟨h1,?_⟩
 rcases h2 with h2 | ⟨g,cap,cur,rfl,b,c,d⟩
 ·exact .inl h2
 ·exact .inr ⟨g,cap,cur,rfl,b,(hb g rfl).trans c,d⟩
theorem row_cap {w:World} {base:Nat} {e:TypeId} {size g n cap m:Nat} {xs:List Value} (h:w.ownsRow base e size (.slice (some ⟨g,0,none⟩) n cap) m xs):n≤cap:=by
 rcases h.2 with ⟨e,_⟩ | ⟨g5,cap5,cur5,e,_,_,h5,_⟩
 ·cases e
 ·simp only [Value.slice.injEq] at e
  omega
def StkC (G:Nat→Prop) (W:World):List (Nd × List Nd)→List Value→Prop
 | [],us=>us=[]
 | x :: s,us=>∃ v a cap us',us=v :: .slice a x.2.length cap :: us'∧NdX G W x.1 v∧NdRw G W x.2 a cap∧StkC G W s us'
theorem StkC.len {G:Nat→Prop} {W:World}:∀ {s:List (Nd × List Nd)} {us:List Value},StkC G W s us→us.length=s.length * 2
 | [],us,h=>by rw [show us=[] from h];rfl
 | x :: s,us,⟨v,a,cap,us',h,_,_,h4⟩=>by rw [h];have:=StkC.len h4;simp [this];omega
theorem StkC.keep {F G:Nat→Prop} {W W':World} (hs:W.heap.size≤W'.heap.size) (hF:∀ b,F b→b < W.heap.size→G b∧∀ o,W'.cell? ⟨b,o,none⟩=W.cell? ⟨b,o,none⟩) :
  ∀ {s:List (Nd × List Nd)} {us:List Value},StkC F W s us→StkC G W' s us
 | [],_,h=>h
 | _ :: _,_,⟨v,a,cap,us',h,h2,h3,h4⟩=>⟨v,a,cap,us',h,h2.keep hs hF,h3.keep hs hF,StkC.keep hs hF h4⟩
theorem StkC.snoc {G:Nat→Prop} {W:World} {d:Nd} {r:List Nd} {v:Value} {a:Option Addr} {cap:Nat} (hd:NdX G W d v) (hr:NdRw G W r a cap) :
  ∀ {s:List (Nd × List Nd)} {us:List Value},StkC G W s us→StkC G W (s++[(d,r)]) (us++[v,.slice a r.length cap])
 | [],us,h=>by obtain rfl:us=[]:=h;exact ⟨v,a,cap,[],rfl,hd,hr,rfl⟩
 | _ :: _,_,⟨v',a',cap',us',h,h2,h3,h4⟩=>⟨v',a',cap',_,by rw [h];rfl,h2,h3,StkC.snoc hd hr h4⟩
theorem StkC.last {G:Nat→Prop} {W:World} {d:Nd} {r:List Nd} :
  ∀ {s:List (Nd × List Nd)} {us:List Value},StkC G W (s++[(d,r)]) us→∃ us' v a cap,us=us'++[v,.slice a r.length cap]∧NdX G W d v∧NdRw G W r a cap∧StkC G W s us'
 | [],us,⟨v,a,cap,us',h,h2,h3,h4⟩=>by obtain rfl:us'=[]:=h4;exact ⟨[],v,a,cap,h,h2,h3,rfl⟩
 | x :: s,us,⟨v',a',cap',us',h,h2,h3,h4⟩=>by
  obtain ⟨us2,v,a,cap,e,g2,g3,g4⟩:=StkC.last h4
  exact ⟨v' :: .slice a' x.2.length cap' :: us2,v,a,cap,by rw [h,e];rfl,g2,g3,v',a',cap',us2,rfl,h2,h3,g4⟩
def Lies (n₀ base:Nat) (C:Nat→Prop) (S:Nat) (sv:Value) (b:Nat):Prop:=b < n₀∨(base≤b∧¬ C b∧b≠S∧sv.ownBlock≠some b)
theorem ndx_lies {n₀ base:Nat} {C:Nat→Prop} {S:Nat} {sv:Value} {W:World} {d:Nd} {v:Value} (h:NdX (Lies n₀ base C S sv) W d v):NdX (fun k=>k < n₀∨(base≤k∧¬ C k)) W d v:=
 h.keep (Nat.le_refl _) (fun _ hb _=>⟨Or.elim hb .inl (fun h=>.inr ⟨h.1,h.2.1⟩),fun _=>rfl⟩)
structure Stk (n₀ base S Y l:Nat) (C:Nat→Prop) (W:World) (s:List (Nd × List Nd)) (sv:Value) (us:List Value):Prop where
 box:Boxed W S 193 sv
 yld:Boxed W Y 192 (.func (.yield l) #[] #[])
 bS:base≤S
 bY:base≤Y
 bn:n₀≤base
 cS:¬ C S
 cY:¬ C Y
 cC:∀ k,C k→base≤k
 row:W.ownsRow base 195 2 sv s.length us
 cR:∀ g,sv.ownBlock=some g→¬ C g
 cells:StkC (Lies n₀ base C S sv) W s us
theorem Stk.lS {n₀ base S Y l:Nat} {C:Nat→Prop} {W:World} {s:List (Nd × List Nd)} {sv:Value} {us:List Value} (h:Stk n₀ base S Y l C W s sv us):S < W.heap.size:=h.box.lt
theorem Stk.neSY {n₀ base S Y l:Nat} {C:Nat→Prop} {W:World} {s:List (Nd × List Nd)} {sv:Value} {us:List Value} (h:Stk n₀ base S Y l C W s sv us):S≠Y:=Boxed.ne_of h.box h.yld (by decide)
theorem Stk.nr {n₀ base S Y l:Nat} {C:Nat→Prop} {W:World} {s:List (Nd × List Nd)} {sv:Value} {us:List Value} (h:Stk n₀ base S Y l C W s sv us):∀ g,sv.ownBlock=some g→base≤g∧g < W.heap.size∧g≠S∧g≠Y∧¬ C g:=fun g hg=>
 ⟨(h.row.lt g hg).1,(h.row.lt g hg).2,fun e=>Boxed.not_row h.box (by decide) h.row (by rw [hg,e]),fun e=>Boxed.not_row h.yld (by decide) h.row (by rw [hg,e]),h.cR g hg⟩
theorem stk_apart {n₀ base S Y l:Nat} {C:Nat→Prop} {W:World} {s:List (Nd × List Nd)} {g n cap:Nat} {us:List Value} (h:Stk n₀ base S Y l C W s (.slice (some ⟨g,0,none⟩) n cap) us) {k:Nat} (hk:Lies n₀ base C S (.slice (some ⟨g,0,none⟩) n cap) k):k≠g:=by
 rcases hk with h1 | h1
 ·have:=h.bn
  have:=(h.nr g rfl).1
  omega
 ·intro e
  exact h1.2.2.2 (congrArg some e.symm)
theorem Stk.round {n₀ base S Y l:Nat} {C C':Nat→Prop} {W W':World} {s:List (Nd × List Nd)} {sv:Value} {us:List Value} (h:Stk n₀ base S Y l C W s sv us) (hr:Rdn n₀ base C C' W W') (hC:∀ k,C' k→base≤k):Stk n₀ base S Y l C' W' s sv us:=by
 have hnew:∀ b,b < W.heap.size→¬ C b→¬ C' b:=fun b hb hc hc'=>(hr.new b hc').elim hc (fun h=>by omega)
 refine ⟨Boxed.same h.box (hr.block _ h.box.lt (.inr ⟨h.bS,h.cS⟩)),Boxed.same h.yld (hr.block _ h.yld.lt (.inr ⟨h.bY,h.cY⟩)),h.bS,h.bY,h.bn,hnew _ h.box.lt h.cS,hnew _ h.yld.lt h.cY,hC,
  own_row_same h.row (fun g hg=>hr.block _ (h.nr g hg).2.1 (.inr ⟨(h.nr g hg).1,(h.nr g hg).2.2.2.2⟩)),fun g hg=>hnew g (h.nr g hg).2.1 (h.nr g hg).2.2.2.2,?_⟩
 refine h.cells.keep hr.size (fun b hf hb=>⟨?_,fun o=>World.cell?_of_block (w:=W) (a:=⟨b,o,none⟩) (hr.block b hb ?_)⟩)
 ·rcases hf with hf | ⟨h1,h2,h3,h4⟩
  ·exact .inl hf
  ·exact .inr ⟨h1,hnew b hb h2,h3,h4⟩
 ·rcases hf with hf | ⟨h1,h2,h3,h4⟩
  ·exact .inl hf
  ·exact .inr ⟨h1,h2⟩
theorem Stk.below {n₀ base S Y l:Nat} {C:Nat→Prop} {W W':World} {s:List (Nd × List Nd)} {sv:Value} {us:List Value} (h:Stk n₀ base S Y l C W s sv us) (hb:Below W.heap.size W W'):Stk n₀ base S Y l C W' s sv us:=
 h.round ⟨hb.size,fun k hk _=>hb.block k hk,fun _ hk=>.inl hk⟩ h.cC
theorem lies_push {n₀ base S:Nat} {C:Nat→Prop} {W:World} {sv v':Value} {b:Nat} (hb:Lies n₀ base C S sv b) (hlt:b < W.heap.size) (hat:v'.ownBlock=sv.ownBlock∨v'.ownBlock=some W.heap.size):Lies n₀ base C S v' b:=by
 rcases hb with hb | ⟨h1,h2,h3,h4⟩
 ·exact .inl hb
 ·refine .inr ⟨h1,h2,h3,?_⟩
  rcases hat with e | e
  ·rw [e];exact h4
  ·rw [e];intro e2;injection e2 with e2;omega
theorem Stk.push {n₀ base S Y l:Nat} {C:Nat→Prop} {W w2 w3:World} {s:List (Nd × List Nd)} {sv v' v:Value} {us:List Value} {d:Nd} {r:List Nd} {a:Option Addr} {cap:Nat}
  (h:Stk n₀ base S Y l C W s sv us) (hb:Below W.heap.size W w2) (hd:NdX (Lies n₀ base C S sv) W d v) (hr:NdRw (fun b=>Lies n₀ base C S sv b∨W.heap.size≤b) w2 r a cap) (hC:∀ k,C k→k < W.heap.size)
  (hown:w3.ownsRow base 195 2 v' (s.length+1) (us++[v,.slice a r.length cap])) (hg:w2.grownBy w3 sv.ownBlock) (hat:v'.ownBlock=sv.ownBlock∨v'.ownBlock=some w2.heap.size) :
  Boxed w3 S 193 sv∧Stk n₀ base S Y l C (w3.setCell ⟨S,0,none⟩ v') (s++[(d,r)]) v' (us++[v,.slice a r.length cap])∧Other base C W (w3.setCell ⟨S,0,none⟩ v')∧NdX (Lies n₀ base C S v') (w3.setCell ⟨S,0,none⟩ v') d v:=by
 have h2:=h.below hb
 have hS3:Boxed w3 S 193 sv:=h2.box.kept hg (fun e=>(h2.nr S e.symm).2.2.1 rfl)
 have hY3:Boxed w3 Y 192 (.func (.yield l) #[] #[]):=h2.yld.kept hg (fun e=>(h2.nr Y e.symm).2.2.2.1 rfl)
 have hbs:base≤w2.heap.size:=Nat.le_of_lt (Nat.lt_of_le_of_lt h2.bS h2.box.lt)
 have hlt3:=hown.lt
 have hCv:∀ g,v'.ownBlock=some g→¬ C g:=fun g hg' hc=>by
  rcases hat with e | e
  ·rw [e] at hg';exact h2.cR g hg' hc
  ·rw [e] at hg';injection hg' with hg';have:=hC g hc;have:=hb.size;omega
 have hnS:∀ g,v'.ownBlock=some g→g≠S∧g≠Y:=fun g hg'=>by
  rcases hat with e | e
  ·rw [e] at hg';exact ⟨(h2.nr g hg').2.2.1,(h2.nr g hg').2.2.2.1⟩
  ·rw [e] at hg';injection hg' with hg';have:=h2.box.lt;have:=h2.yld.lt;omega
 have hblk:∀ k,k < w2.heap.size→sv.ownBlock≠some k→k≠S→(w3.setCell ⟨S,0,none⟩ v').heap[k]?=w2.heap[k]?:=fun k hk h1 h3=>
  (Below.heap_setCell _ _ _ _ h3).trans (hg.block k hk (fun e=>h1 e.symm))
 have hsz:w2.heap.size≤(w3.setCell ⟨S,0,none⟩ v').heap.size:=by have:=hg.size;simpa [World.setCell] using this
 have hkeep:∀ b,Lies n₀ base C S sv b∨(W.heap.size≤b∧b < w2.heap.size)→b < w2.heap.size→Lies n₀ base C S v' b∧∀ o,(w3.setCell ⟨S,0,none⟩ v').cell? ⟨b,o,none⟩=w2.cell? ⟨b,o,none⟩:=by
  intro b hf hlt
  have hf2:Lies n₀ base C S sv b:=by
   rcases hf with hf | ⟨hf,_⟩
   ·exact hf
   ·refine .inr ⟨by have:=h.bS;have:=h.box.lt;omega,fun hc=>by have:=hC b hc;omega,fun e=>by have:=h.box.lt;omega,fun e=>by have:=(h.nr b e).2.1;omega⟩
  refine ⟨lies_push hf2 hlt hat,fun o=>World.cell?_of_block (w:=w2) (a:=⟨b,o,none⟩) (hblk b hlt ?_ ?_)⟩
  ·rcases hf2 with h1 | h1
   ·intro e;have:=(h2.nr b e).1;have:=h.bn;omega
   ·exact h1.2.2.2
  ·rcases hf2 with h1 | h1
   ·have:=h.bn;have:=h.bS;omega
   ·exact h1.2.2.1
 refine ⟨hS3,⟨hS3.set v',?_,h.bS,h.bY,h.bn,h.cS,h.cY,h.cC,?_,hCv,?_⟩,?_⟩
 ·exact Boxed.same hY3 (Below.heap_setCell _ _ _ _ (Ne.symm h.neSY))
 ·rw [List.length_append]
  exact own_row_same hown (fun g hg'=>Below.heap_setCell _ _ _ _ (hnS g hg').1)
 ·refine StkC.snoc ?_ ?_ ?_
  ·exact (hd.below hb).keep hsz (fun b hf hlt=>hkeep b (.inl hf) hlt)
  ·exact hr.keep hsz (fun b hf hlt=>hkeep b (hf.elim .inl (fun h=>.inr ⟨h,hlt⟩)) hlt)
  ·exact h2.cells.keep hsz (fun b hf hlt=>hkeep b (.inl hf) hlt)
 ·exact ⟨(((Other.of_below hb).trans (Other.refl base C w2)).grown hg (fun k hk=>⟨(h2.nr k hk).1,(h2.nr k hk).2.2.2.2⟩)).setCell (p:=⟨S,0,none⟩) h.bS h.cS v',(hd.below hb).keep hsz (fun b hf hlt=>hkeep b (.inl hf) hlt)⟩
theorem Stk.top {n₀ base S Y l:Nat} {C:Nat→Prop} {W:World} {s:List (Nd × List Nd)} {sv:Value} {us:List Value} {d:Nd} {r:List Nd} (h:Stk n₀ base S Y l C W (s++[(d,r)]) sv us) :
  ∃ g cap us' v a cap',sv=.slice (some ⟨g,0,none⟩) (s.length+1) cap∧us=us'++[v,.slice a r.length cap']∧us'.length=s.length * 2∧W.cell? ⟨g,s.length * 2,none⟩=some v∧W.cell? ⟨g,s.length * 2+1,none⟩=some (.slice a r.length cap')∧W.frozen? ⟨g,s.length * 2+1,none⟩=false∧
   NdX (Lies n₀ base C S sv) W d v∧NdRw (Lies n₀ base C S sv) W r a cap':=by
 have hrow:=h.row
 rw [List.length_append] at hrow
 obtain ⟨g,cap,rfl⟩:=ownsRow_succ hrow
 obtain ⟨us',v,a,cap',rfl,h1,h2,h3⟩:=h.cells.last
 have hl:=h3.len
 refine ⟨g,cap,us',v,a,cap',rfl,rfl,hl,?_,?_,hrow.frozenAt _,h1,h2⟩
 ·rw [hrow.cellAt (s.length * 2) (show s.length * 2 < (s.length+1) * 2 by omega),←hl,List.getElem?_append_right (Nat.le_refl _)]
  simp
 ·rw [hrow.cellAt (s.length * 2+1) (show s.length * 2+1 < (s.length+1) * 2 by omega),←hl,List.getElem?_append_right (by omega)]
  rw [show us'.length+1 - us'.length=1 by omega]
  rfl
theorem Stk.pop {n₀ base S Y l:Nat} {C:Nat→Prop} {W:World} {s:List (Nd × List Nd)} {g cap:Nat} {us:List Value} {d:Nd} {r:List Nd} (h:Stk n₀ base S Y l C W (s++[(d,r)]) (.slice (some ⟨g,0,none⟩) (s.length+1) cap) us) :
  ∃ us',Stk n₀ base S Y l C (W.setCell ⟨S,0,none⟩ (.slice (some ⟨g,0,none⟩) s.length cap)) s (.slice (some ⟨g,0,none⟩) s.length cap) us'∧Other base C W (W.setCell ⟨S,0,none⟩ (.slice (some ⟨g,0,none⟩) s.length cap)):=by
 have hrow:=h.row
 rw [List.length_append] at hrow
 obtain ⟨us',v,a,cap',rfl,h1,h2,h3⟩:=h.cells.last
 have hp:=ownsRow_pop h3.len hrow
 have hng:=h.nr g rfl
 refine ⟨us',⟨h.box.set _,?_,h.bS,h.bY,h.bn,h.cS,h.cY,h.cC,?_,fun g' hg'=>h.cR g' hg',?_⟩,(Other.refl base C W).setCell (p:=⟨S,0,none⟩) h.bS h.cS _⟩
 ·exact Boxed.same h.yld (Below.heap_setCell _ _ _ _ (Ne.symm h.neSY))
 ·exact own_row_same hp (fun g' hg'=>Below.heap_setCell _ _ _ _ (by simp [Value.ownBlock] at hg';subst hg';exact hng.2.2.1))
 ·refine h3.keep (by simp [World.setCell]) (fun b hf hlt=>⟨hf,fun o=>World.cell?_of_block (w:=W) (a:=⟨b,o,none⟩) (Below.heap_setCell _ _ _ _ ?_)⟩)
  rcases hf with h1 | h1
  ·have:=h.bn;have:=h.bS;simp;omega
  ·exact h1.2.2.1
theorem Stk.shift {n₀ base S Y l:Nat} {C:Nat→Prop} {W:World} {s:List (Nd × List Nd)} {g cap cap':Nat} {a:Option Addr} {us:List Value} {d:Nd} {r r':List Nd} (h:Stk n₀ base S Y l C W (s++[(d,r)]) (.slice (some ⟨g,0,none⟩) (s.length+1) cap) us)
  (hr:NdRw (Lies n₀ base C S (.slice (some ⟨g,0,none⟩) (s.length+1) cap)) W r' a cap') :
  ∃ us',Stk n₀ base S Y l C (W.setCell ⟨g,s.length * 2+1,none⟩ (.slice a r'.length cap')) (s++[(d,r')]) (.slice (some ⟨g,0,none⟩) (s.length+1) cap) us'∧Other base C W (W.setCell ⟨g,s.length * 2+1,none⟩ (.slice a r'.length cap')):=by
 have hrow:=h.row
 rw [List.length_append] at hrow
 obtain ⟨us',v,a2,cap2,rfl,h1,h2,h3⟩:=h.cells.last
 have hl:=h3.len
 have hng:=h.nr g rfl
 have hst:=(hrow.stored (s.length * 2+1) (.slice a r'.length cap')).1
 rw [←hl,List.set_append_right _ _ (by omega)] at hst
 simp at hst
 rw [hl] at hst
 have hk:∀ b,Lies n₀ base C S (.slice (some ⟨g,0,none⟩) (s.length+1) cap) b→b < W.heap.size→Lies n₀ base C S (.slice (some ⟨g,0,none⟩) (s.length+1) cap) b∧∀ o,(W.setCell ⟨g,s.length * 2+1,none⟩ (.slice a r'.length cap')).cell? ⟨b,o,none⟩=W.cell? ⟨b,o,none⟩:=fun b hf hlt=>
  ⟨hf,fun o=>World.cell?_of_block (w:=W) (a:=⟨b,o,none⟩) (Below.heap_setCell _ _ _ _ (by
   rcases hf with h1 | h1
   ·have:=h.bn;simp;omega
   ·intro e;exact h1.2.2.2 (congrArg some e.symm)))⟩
 have hsz:W.heap.size≤(W.setCell ⟨g,s.length * 2+1,none⟩ (.slice a r'.length cap')).heap.size:=by simp [World.setCell]
 refine ⟨us'++[v,.slice a r'.length cap'],⟨?_,?_,h.bS,h.bY,h.bn,h.cS,h.cY,h.cC,?_,fun g' hg'=>h.cR g' hg',?_⟩,(Other.refl base C W).setCell (p:=⟨g,_,none⟩) hng.1 hng.2.2.2.2 _⟩
 ·exact Boxed.same h.box (Below.heap_setCell _ _ _ _ (Ne.symm hng.2.2.1))
 ·exact Boxed.same h.yld (Below.heap_setCell _ _ _ _ (Ne.symm hng.2.2.2.1))
 ·rw [List.length_append]
  exact hst
 ·exact StkC.snoc (h1.keep hsz hk) (hr.keep hsz hk) (h3.keep hsz hk)
end Go.Proofs.YtbgfankoojjejaaGreatDoor
namespace Go.Proofs.YtbgfankoojjejaaGreatDoor
open Go Go.RowKit
theorem blk4 {w:World} {b:Nat} {T:TypeId} {v0 v1 v2 v3:Value} (h:Blk w b #[v0,v1,v2,v3] T) :
  w.cell? ⟨b,0,none⟩=some v0∧w.cell? ⟨b,1,none⟩=some v1∧w.cell? ⟨b,2,none⟩=some v2∧w.cell? ⟨b,3,none⟩=some v3∧
  w.frozen? ⟨b,0,none⟩=false∧w.frozen? ⟨b,1,none⟩=false∧w.frozen? ⟨b,2,none⟩=false∧w.frozen? ⟨b,3,none⟩=false∧b < w.heap.size:=
 ⟨(h.cell 0).trans rfl,(h.cell 1).trans rfl,(h.cell 2).trans rfl,(h.cell 3).trans rfl,h.frozen 0,h.frozen 1,h.frozen 2,h.frozen 3,h.lt⟩
theorem blk_like {w w':World} {p:Nat} {cs:Array Value} {T:TypeId} (h:Blk w p cs T) (e:w'.heap[p]?=w.heap[p]?):Blk w' p cs T:=by
 unfold Blk at h ⊢
 rw [e,h]
theorem put4s {w0 w:World} {p:Nat} {T:TypeId} {u0 u1 u2 u3:Value} (hb:Below w0.heap.size w0 w) (hp:w0.heap.size≤p) (h:Blk w p #[u0,u1,u2,u3] T) (v0 v1 v2 v3:Value) (w':World)
  (hw:((((w.setCell ⟨p,0,none⟩ v0).setCell ⟨p,1,none⟩ v1).setCell ⟨p,2,none⟩ v2).setCell ⟨p,3,none⟩ v3)=w') :
  Below w0.heap.size w0 w'∧Blk w' p #[v0,v1,v2,v3] T∧(∀ b,b≠p→w'.heap[b]?=w.heap[b]?)∧w'.heap.size=w.heap.size:=by
 subst hw
 have h9:=(((h.set 0 v0).set 1 v1).set 2 v2).set 3 v3
 have o1:∀ (w:World) (j:Nat) (v:Value) b,b≠p→(w.setCell ⟨p,j,none⟩ v).heap[b]?=w.heap[b]?:=fun w j v b hb=>Below.heap_setCell _ _ _ _ (fun e=>hb e)
 refine ⟨?_,h9,fun b hb=>?_,by simp [World.setCell]⟩
 ·exact (((hb.setCell (p:=⟨p,0,none⟩) hp v0).setCell (p:=⟨p,1,none⟩) hp v1).setCell (p:=⟨p,2,none⟩) hp v2).setCell (p:=⟨p,3,none⟩) hp v3
 ·rw [o1 _ _ _ _ hb,o1 _ _ _ _ hb,o1 _ _ _ _ hb,o1 _ _ _ _ hb]
theorem post4 {P:Program} {fn:Func} {Q:Ending→World→Prop} {e:Exit} {act:Act} {w0 w:World} {p:Nat} {T:TypeId} {u0 u1 u2 u3:Value} (hb:Below w0.heap.size w0 w) (h:Blk w p #[u0,u1,u2,u3] T) (hp:w0.heap.size≤p) {v0 v1 v2 v3:Value}
  (H:∀ w',Below w0.heap.size w0 w'→Blk w' p #[v0,v1,v2,v3] T→(∀ b,b≠p→w'.heap[b]?=w.heap[b]?)→w'.heap.size=w.heap.size→bodyPost P fn Q e act w') :
  bodyPost P fn Q e act ((((w.setCell ⟨p,0,none⟩ v0).setCell ⟨p,1,none⟩ v1).setCell ⟨p,2,none⟩ v2).setCell ⟨p,3,none⟩ v3):=by
 obtain ⟨h1,h2,h3,h4⟩:=put4s hb hp h v0 v1 v2 v3 _ rfl
 exact H _ h1 h2 h3 h4
theorem post4d {P:Program} {fn:Func} {Q:Ending→World→Prop} {e:Exit} {act:Act} {w0 w:World} {p:Nat} {T:TypeId} {u0 u1 u2 u3:Value} (hb:Below w0.heap.size w0 w) (h:Blk w p #[u0,u1,u2,u3] T) (hp:w0.heap.size≤p) {v0 v1 v2 v3:Value}
  (H:∀ w',Below w0.heap.size w0 w'→Blk w' p #[v0,v1,v2,v3] T→(∀ b,b≠p→w'.heap[b]?=w.heap[b]?)→w'.heap.size=w.heap.size→bodyPost P fn Q e act w') :
  bodyPost P fn Q e act ((((w.setCell ⟨p,0,none⟩ v0).setCell ⟨p,1,none⟩ v1).setCell ⟨p,2,none⟩ v2).setCell ⟨p,3,none⟩ v3).drew:=by
 obtain ⟨h1,h2,h3,h4⟩:=put4s hb hp h v0 v1 v2 v3 _ rfl
 exact H _ h1.drew h2 h3 h4
theorem own_less {w:World} {B C:Nat} (h:B≤C) {e:TypeId} {size n:Nat} {v:Value} {xs:List Value} (k:w.ownsRow C e size v n xs):w.ownsRow B e size v n xs:=by
 obtain ⟨h1,h2⟩:=k
 refine ⟨h1,?_⟩
 rcases h2 with h2 | ⟨g,cap,cur,a,b,c⟩
 ·exact .inl h2
 ·exact .inr ⟨g,cap,cur,a,by omega,c⟩
theorem blkGrownR {w w':World} {p:Nat} {r:Option Nat} {cs:Array Value} {T:TypeId} (h:Blk w p cs T) (hg:w.grownBy w' r) (hne:r≠some p):Blk w' p cs T:=by
 have hl:=h.lt
 unfold Blk at h ⊢
 rw [hg.block p hl (fun e=>hne e.symm)]
 exact h
theorem blk3 {w:World} {b:Nat} {T:TypeId} {v0 v1 v2:Value} (h:Blk w b #[v0,v1,v2] T) :
  w.cell? ⟨b,0,none⟩=some v0∧w.cell? ⟨b,1,none⟩=some v1∧w.cell? ⟨b,2,none⟩=some v2∧
  w.frozen? ⟨b,0,none⟩=false∧w.frozen? ⟨b,1,none⟩=false∧w.frozen? ⟨b,2,none⟩=false∧b < w.heap.size:=
 ⟨(h.cell 0).trans rfl,(h.cell 1).trans rfl,(h.cell 2).trans rfl,h.frozen 0,h.frozen 1,h.frozen 2,h.lt⟩
theorem post3 {P:Program} {fn:Func} {Q:Ending→World→Prop} {e:Exit} {act:Act} {w0 w:World} {p:Nat} {T:TypeId} {u0 u1 u2:Value} (hb:Below w0.heap.size w0 w) (h:Blk w p #[u0,u1,u2] T) (hp:w0.heap.size≤p) {v0 v1 v2:Value}
  (H:∀ w',Below w0.heap.size w0 w'→Blk w' p #[v0,v1,v2] T→(∀ b,b≠p→w'.heap[b]?=w.heap[b]?)→w'.heap.size=w.heap.size→bodyPost P fn Q e act w') :
  bodyPost P fn Q e act (((w.setCell ⟨p,0,none⟩ v0).setCell ⟨p,1,none⟩ v1).setCell ⟨p,2,none⟩ v2):=by
 have o1:∀ (w:World) (j:Nat) (v:Value) b,b≠p→(w.setCell ⟨p,j,none⟩ v).heap[b]?=w.heap[b]?:=fun w j v b hb=>Below.heap_setCell _ _ _ _ (fun e=>hb e)
 refine H _ ?_ (((h.set 0 v0).set 1 v1).set 2 v2) (fun b hb=>?_) (by simp [World.setCell])
 ·exact ((hb.setCell (p:=⟨p,0,none⟩) hp v0).setCell (p:=⟨p,1,none⟩) hp v1).setCell (p:=⟨p,2,none⟩) hp v2
 ·rw [o1 _ _ _ _ hb,o1 _ _ _ _ hb,o1 _ _ _ _ hb]
theorem blkOfAlloc {w w2:World} {cs:Array Value} {T:TypeId} (h:w.alloc (.cells cs T)=w2):Blk w2 w.heap.size cs T:=by
 subst h
 exact Blk.new w cs T _ rfl
theorem belowOfAlloc {w w2:World} {o:Obj} (h:w.alloc o=w2):Below w.heap.size w w2:=by
 subst h
 exact (Below.refl _ _).alloc (Nat.le_refl _) _
end Go.Proofs.YtbgfankoojjejaaGreatDoor
namespace Go.Proofs.YtbgfankoojjejaaGreatDoor
open Go Go.RowKit
def markC (m:Nat × Nat):List Value:=[.int .i64 (m.1:Int),.string ⟨#[92,UInt8.ofNat m.2]⟩]
def marksC (l:List (Nat × Nat)):List Value:=l.flatMap markC
theorem marksC_snoc (l:List (Nat × Nat)) (m:Nat × Nat):marksC (l++[m])=marksC l++markC m:=by unfold marksC;rw [List.flatMap_append];simp
theorem mark_info:∃ i,Tryz.prog.info? 77=some i∧i.zero=some (.agg #[.int .i64 0,.string ⟨#[]⟩])∧i.size=2∧i.bytes=24:=by
 have h:(Tryz.prog.info? 77).map (fun i=>(i.zero,i.size,i.bytes))=some (some (.agg #[.int .i64 0,.string ⟨#[]⟩]),2,24):=by kernel_rfl
 obtain ⟨i,hi,he⟩:=Option.map_eq_some_iff.1 h
 injection he with h1 h2
 injection h2 with h2 h3
 exact ⟨i,hi,h1,h2,h3⟩
theorem own_lt' {B:Nat} {w:World} {e:TypeId} {size n:Nat} {v:Value} {us:List Value} (h:w.ownsRow B e size v n us) (g:Nat) (hg:v.ownBlock=some g):g < w.heap.size:=by
 rcases h.2 with ⟨rfl,_⟩ | ⟨g',cap,cur,rfl,_,hh,_⟩
 ·simp [Value.ownBlock] at hg
 ·simp [Value.ownBlock] at hg
  subst hg
  exact (Array.getElem?_eq_some_iff.1 hh).1
structure AtSet (w0:World) (a:Nat) (t:OSet) (wx:World):Prop where
 b:Below w0.heap.size w0 wx
 s:Blk wx a #[.int .u64 (ow t 0),.int .u64 (ow t 1),.int .u64 (ow t 2),.int .u64 (ow t 3)] 132
 lo:w0.heap.size≤a
theorem blk_four {w:World} {a:Nat} {x y z u:Value} {T:TypeId} (h:Blk w a #[x,y,z,u] T):w.cell? ⟨a,0,none⟩=some x∧w.cell? ⟨a,1,none⟩=some y∧w.cell? ⟨a,2,none⟩=some z∧w.cell? ⟨a,3,none⟩=some u∧
  w.frozen? ⟨a,0,none⟩=false∧w.frozen? ⟨a,1,none⟩=false∧w.frozen? ⟨a,2,none⟩=false∧w.frozen? ⟨a,3,none⟩=false∧a < w.heap.size:=
 ⟨(h.cell 0).trans rfl,(h.cell 1).trans rfl,(h.cell 2).trans rfl,(h.cell 3).trans rfl,h.frozen 0,h.frozen 1,h.frozen 2,h.frozen 3,h.lt⟩
theorem xi_len (cl L:List UInt8) (q:Int × Int × Nat) (h0:cl≠[]) (h:ivl cl L=some q):q.2.2≤L.length:=by
 unfold ivl at h
 split at h
 ·rename_i hc
  injection h with h
  subst h
  rw [Bool.and_eq_true] at hc
  exact word_len _ _ _ hc.2 h0
 ·cases h
theorem own_form' {w:World} {B:Nat} {e:TypeId} {size n:Nat} {v:Value} {us:List Value} (h:w.ownsRow B e size v n us):∃ a c,v=.slice a n c:=by
 rcases h.2 with ⟨rfl,h0⟩ | ⟨g,cap,cur,rfl,_⟩
 ·exact ⟨none,0,by rw [h0]⟩
 ·exact ⟨_,_,rfl⟩
def PAns (r:ReRes (ReSt × Nd)) (w:World) (e:Ending) (w':World):Prop:=Below w.heap.size w w'∧match r with
 | .error q=>e=.returned (.tuple #[.nilIface,.slice none 0 0,.int .i64 (q.2:Int),.int .i64 (q.1:Int)])
 | .ok q=>∃ v mv,e=.returned (.tuple #[v,mv,.int .i64 0,.int .i64 0])∧NdX (fun b=>w.heap.size≤b) w' q.2 v∧w'.ownsRow w.heap.size 77 2 mv q.1.marks.length (marksC q.1.marks)
theorem rep_none {s:List UInt8} {k:Nat} (h0:chAt s k 42=false) (h1:esAt s k 43=false) (h2:esAt s k 63=false) (h:esAt s k 123=false):repAt false s k=.none:=by unfold repAt;simp [h0,h1,h2,opAt,h]
theorem rep_star {s:List UInt8} {k:Nat} (h:chAt s k 42=true):repAt false s k=.some 0 (-1) 0 (k+1):=by unfold repAt;rw [if_pos h]
theorem rep_plus {s:List UInt8} {k:Nat} (h0:chAt s k 42=false) (h:esAt s k 43=true):repAt false s k=.some 1 (-1) 43 (k+2):=by unfold repAt;simp [h0,opAt,opLen,h]
theorem rep_ask {s:List UInt8} {k:Nat} (h0:chAt s k 42=false) (h1:esAt s k 43=false) (h:esAt s k 63=true):repAt false s k=.some 0 1 63 (k+2):=by unfold repAt;simp [h0,h1,opAt,opLen,h]
theorem rep_intv {s:List UInt8} {k:Nat} {m n:Int} {j:Nat} (h0:chAt s k 42=false) (h1:esAt s k 43=false) (h2:esAt s k 63=false) (h:esAt s k 123=true) (hi:intv false s (k+2)=some (m,n,j)):repAt false s k=.some m n 0 j:=by unfold repAt;simp [h0,h1,h2,opAt,opLen,h,hi]
theorem rep_bad {s:List UInt8} {k:Nat} (h0:chAt s k 42=false) (h1:esAt s k 43=false) (h2:esAt s k 63=false) (h:esAt s k 123=true) (hi:intv false s (k+2)=none):repAt false s k=.bad:=by unfold repAt;simp [h0,h1,h2,opAt,opLen,h,hi]
theorem not_oz:(~~~oz:OSet)=oSpan 0 255:=by decide +kernel
end Go.Proofs.YtbgfankoojjejaaGreatDoor
namespace Go.Proofs.YtbgfankoojjejaaGreatDoor
open Go Go.RowKit
def wmC1 (m:Wm):List Value:=[.int .i64 m.1,.string m.2]
def wmC (l:List Wm):List Value:=l.flatMap wmC1
theorem wmC_snoc (l:List Wm) (m:Wm):wmC (l++[m])=wmC l++wmC1 m:=by simp [wmC]
theorem wmC_cons (m:Wm) (l:List Wm):wmC (m :: l)=wmC1 m++wmC l:=by simp [wmC]
theorem wmC_app (l k:List Wm):wmC (l++k)=wmC l++wmC k:=by simp [wmC]
theorem wmC_len (l:List Wm):(wmC l).length=l.length * 2:=by
 induction l with
 | nil=>rfl
 | cons m l ih=>rw [wmC_cons,List.length_append,ih];simp [wmC1];omega
theorem marksC_wm (l:List (Nat × Nat)):marksC l=wmC (l.map wmOf):=by
 induction l with
 | nil=>rfl
 | cons m l ih=>
  rw [List.map_cons,wmC_cons,←ih]
  rfl
theorem wmC_at:∀ (l:List Wm) (j:Nat) (h:j < l.length),(wmC l)[j * 2]?=some (.int .i64 l[j].1)∧(wmC l)[j * 2+1]?=some (.string l[j].2)
 | [],j,h=>by simp at h
 | m :: l,0,h=>by rw [wmC_cons];exact ⟨rfl,rfl⟩
 | m :: l,j+1,h=>by
  have ih:=wmC_at l j (by simpa using h)
  rw [wmC_cons,show (j+1) * 2=j * 2+1+1 by omega,show j * 2+1+1+1=j * 2+1+1+1 from rfl]
  simpa [wmC1] using ih
theorem wmC1_one (m:Wm):∀ u∈wmC1 m,u.oneCell'=true:=fun u hu=>by
 simp only [wmC1,List.mem_cons,List.not_mem_nil,or_false] at hu
 rcases hu with rfl | rfl <;> rfl
theorem wmC_one (l:List Wm):∀ u∈wmC l,u.oneCell'=true:=fun u hu=>by
 unfold wmC at hu
 obtain ⟨m,_,h⟩:=List.mem_flatMap.1 hu
 exact wmC1_one m u h
theorem wmC1_new (w:World) (m:Wm) (T:TypeId):∀ n u,(wmC1 m)[n]?=some u→(w.alloc (.cells #[.int .i64 m.1,.string m.2] T)).cell? ((⟨w.heap.size,0,none⟩:Addr).add n)=some u:=by
 have hb:=Blk.new w #[.int .i64 m.1,.string m.2] T w.heap.size rfl
 intro n u hu
 rw [Go.WideShapes.add_plain,Nat.zero_add,hb.cell n,←Array.getElem?_toList]
 exact hu
theorem wm_cells {w:World} {B:Nat} {T:TypeId} {a:Option Addr} {c:Nat} {l:List Wm} (h:w.ownsRow B T 2 (.slice a l.length c) l.length (wmC l)) (h0:0 < l.length) :
  ∃ q,a=some ⟨q,0,none⟩∧q < w.heap.size∧l.length≤c∧c≤maxLen∧∀ j (hj:j < l.length),w.cell? ⟨q,j * 2,none⟩=some (.int .i64 l[j].1)∧w.cell? ⟨q,j * 2+1,none⟩=some (.string l[j].2):=by
 obtain ⟨h1,h2⟩:=h
 rcases h2 with ⟨_,h3⟩ | ⟨q,cap,cur,e,hB,hh,hn,hcap,hcs,htk⟩
 ·omega
 ·injection e with e1 _ e2
  subst e1 e2
  refine ⟨q,rfl,(Array.getElem?_eq_some_iff.1 hh).1,hn,hcap,fun j hj=>?_⟩
  have hc:∀ i,i < l.length * 2→w.cell? ⟨q,i,none⟩=(wmC l)[i]?:=fun i hi=>by
   have h4:w.cell? ⟨q,i,none⟩=cur[i]?:=by simp [World.cell?,hh]
   rw [h4,←htk,List.getElem?_take_of_lt hi,Array.getElem?_toList]
  have h5:=wmC_at l j hj
  exact ⟨(hc _ (by omega)).trans h5.1,(hc _ (by omega)).trans h5.2⟩
theorem pmoved_any (l:List Wm) (a:Option Addr) (cap:Nat) (k:Int) (B:Nat) (w:World) (h:w.ownsRow B 77 2 (.slice a l.length cap) l.length (wmC l)) (hl:l.length≤100000) :
  Calls Tryz.prog 69 #[.slice a l.length cap,.int .i64 k] w fun e w'=>∃ v,e=.returned v∧Below w.heap.size w w'∧w'.ownsRow w.heap.size 77 2 v l.length (wmC (wmMove k l)):=by
 have Hc:=Lib.hid fun h0=>wm_cells h h0
 clear h
 obtain ⟨n,hn⟩:∃ n,l.length=n:=⟨_,rfl⟩
 rw [hn] at hl ⊢
 have Hn:=Lib.hid hn
 obtain ⟨i0,hi,hz0,hz1,hz2⟩:=mark_info
 clear hn
 go_enter Tryz.func69,Tryz.ntmps69
 go_wp2_with fail
 go_loopw [5,10] (fun vv i wr=>∃ (j:Nat),j≤n∧i=.int .i64 j∧wr.ownsRow w.heap.size 77 2 vv j (wmC (wmMove k (l.take j)))∧Below w.heap.size w wr) (fun _ i _=>n - (intOf i).toNat)
 case atStart=>exact ⟨0,by omega,rfl,World.ownsRow_nil _ _ _ _,Below.refl _ _⟩
 case round=>
  obtain ⟨j,hj,rfl,hrow,hb⟩:=hrel
  have Hb:=Lib.hid hb
  have Hrow:=Lib.hid hrow
  obtain ⟨va,vc,rfl⟩:=own_form' hrow
  clear hb hrow
  by_cases hlt:j < n
  ·obtain ⟨q,rfl,hq,hc1,hc2,hcell⟩:=Hc.out (by rw [Hn.out];omega)
   rw [Hn.out] at hc1
   have hjl:j < l.length:=by rw [Hn.out];omega
   obtain ⟨e0,e1⟩:=hcell j hjl
   have htk:wmMove k (l.take (j+1))=wmMove k (l.take j)++[(IntKind.i64.wrap (l[j].1+k),l[j].2)]:=by
    rw [show l.take (j+1)=l.take j++[l[j]] by simp];unfold wmMove;rw [List.map_append];rfl
   have Htk:=Lib.hid htk
   clear htk hcell
   generalize l[j]=m at e0 e1 Htk
   obtain ⟨mp,mw⟩:=m
   simp only at e0 e1 Htk
   replace e0:=(Hb.out.cell (p:=⟨q,j * 2,none⟩) hq).trans e0
   replace e1:=(Hb.out.cell (p:=⟨q,j * 2+1,none⟩) hq).trans e1
   have hji:(j:Int) < (n:Int):=by omega
   have Wj:IntKind.i64.wrap ((j:Int)+1)=(j:Int)+1:=IntWalk.i64_in _ (by omega)
   obtain ⟨y,hy⟩:∃ y,IntKind.i64.wrap (mp+k)=y:=⟨_,rfl⟩
   rw [hy] at Htk
   have hm1:j+1≤maxLen:=by unfold maxLen;omega
   have hm2:(j+1) * 24≤140737488355328:=by omega
   have hA1:=(Below.refl wr.heap.size wr).alloc (Nat.le_refl _) (.cells #[.int .i64 mp,.string mw] 77)
   have hX:=Blk.new wr #[.int .i64 mp,.string mw] 77 _ rfl
   have hr1:=nd_own_below Hrow.out hA1
   have hb1:=Hb.out.trans (hA1.mono Hb.out.size)
   obtain ⟨W1,hW1⟩:∃ W1,wr.alloc (.cells #[.int .i64 mp,.string mw] 77)=W1:=⟨_,rfl⟩
   rw [hW1] at hX hr1 hb1
   have x0:=(hX.cell 0).trans rfl
   have x1:=(hX.cell 1).trans rfl
   have hxl:=hX.lt
   have Hr1:=Lib.hid hr1
   have Hb1:=Lib.hid hb1
   have hbs:w.heap.size≤(W1.alloc (.cells #[.int .i64 y,.string mw] 77)).heap.size:=by have:=hb1.size;simp;omega
   clear hX hr1 hb1 hA1
   go_wp2_with (at_builtin;go_loud (refine wpList_append_own_at _ rfl _ _ 36 rfl w.heap.size 77 i0 (.agg #[.int .i64 0,.string ⟨#[]⟩]) 2 24 Tryz.underlying36 hi hz0 hz1 hz2 rfl (by decide) (.slice va j vc) j (wmC (wmMove k (l.take j))) rfl (nd_own_below Hr1.out ((Below.refl _ W1).alloc (Nat.le_refl _) _)) ⟨W1.heap.size,0,none⟩ 1 1 (wmC1 (y,mw)) rfl rfl (wmC1_new W1 (y,mw) _) (wmC1_one _) hm1 hm2 hbs ?_;intro v6 w6 hown6 hgr6 _ hat6))
   have HF:=Lib.hid (show w6.ownsRow w.heap.size 77 2 v6 (j+1) (wmC (wmMove k (l.take (j+1))))∧Below w.heap.size w w6 from by
    refine ⟨by rw [Htk.out,wmC_snoc];exact hown6,(Hb1.out.alloc Hb1.out.size _).grown hgr6 hbs (fun b hb=>own_of Hrow.out b hb)⟩)
   obtain ⟨v6a,v6c,rfl⟩:=own_form' hown6
   clear hown6 hgr6 hat6
   go_roundw
   case rel=>exact ⟨j+1,by omega,by go_num,HF.out.1,HF.out.2⟩
   case measure=>simp [intOf];omega
  ·obtain rfl:n=j:=by omega
   have HF:=Lib.hid (And.intro Hb.out Hrow.out)
   rw [show l.take n=l by rw [←Hn.out,List.take_length]] at HF
   clear Hb Hrow
   go_wp2_with fail
   go_ret
   exact ⟨_,rfl,HF.out.1,HF.out.2⟩
theorem wmMove_len (k:Int) (l:List Wm):(wmMove k l).length=l.length:=by simp [wmMove]
theorem pmoved' {l:List Wm} {n:Nat} (hn:l.length=n) (a:Option Addr) (cap:Nat) (k:Int) (B:Nat) (w:World) (h:w.ownsRow B 77 2 (.slice a n cap) n (wmC l)) (hl:n≤100000) :
  Calls Tryz.prog 69 #[.slice a n cap,.int .i64 k] w fun e w'=>∃ a' c',e=.returned (.slice a' n c')∧Below w.heap.size w w'∧w'.ownsRow w.heap.size 77 2 (.slice a' n c') n (wmC (wmMove k l)):=by
 subst hn
 refine (pmoved_any l a cap k B w h hl).mono ?_
 rintro e w' ⟨v,rfl,h1,h2⟩
 obtain ⟨a',c',rfl⟩:=own_form' h2
 exact ⟨a',c',rfl,h1,h2⟩
end Go.Proofs.YtbgfankoojjejaaGreatDoor
namespace Go.Proofs.YtbgfankoojjejaaGreatDoor
open Go.RowKit Go.Shelf
theorem pconv2 (W:World) (x y:Int):(convert 22 9 (.slice (some ⟨W.heap.size,0,none⟩) 2 2)).run Tryz.prog (W.alloc (.cells #[.int .u8 x,.int .u8 y] 5))=.ok (.string (strOfNums [x,y])) (W.alloc (.cells #[.int .u8 x,.int .u8 y] 5)):=
 run_convert_bytes_arg _ 22 5 Tryz.underlying22 Tryz.underlying5 _ 0 2 2 [x,y] rfl (fun i hi=>by
  rw [(Blk.new W _ _ _ rfl).cell]
  match i,hi with
  | 0,_=>rfl
  | 1,_=>rfl) _ Tryz.underlying9
theorem pconv2d (W:World) (x y:Int):(convert 22 9 (.slice (some ⟨W.heap.size,0,none⟩) 2 2)).run Tryz.prog (W.alloc (.cells #[.int .u8 x,.int .u8 y] 5)).drew=.ok (.string (strOfNums [x,y])) (W.alloc (.cells #[.int .u8 x,.int .u8 y] 5)).drew:=pconv2 W.drew x y
theorem nums_two (x y:Nat):(strOfNums [(x:Int),(y:Int)]).data.toList=[UInt8.ofNat x,UInt8.ofNat y]:=rfl
theorem ext_list (s:ByteArray) (k:Nat):(s.extract k s.size).data.toList=s.data.toList.drop k:=by
 rw [ByteArray.data_extract,Array.toList_extract,List.extract_eq_take_drop]
 rw [List.take_of_length_le]
 simp
def iren:Go.Shelf.Ren:=⟨fun | 143=>170 | 217=>102 | 219=>171 | 224=>117 | 225=>118 | 266=>121 | 267=>172 | 314=>173 | n=>n,fun | 3=>3 | 4=>4 | 5=>5 | 9=>9 | 46=>210 | 51=>236 | 146=>257 | n=>n,fun | 1=>1 | n=>n⟩
theorem ilays:Go.Proofs.Lays.n143 Tryz.prog iren:={
 mixed:=by kernel_rfl
 f143:=Tryz.func170.trans (congrArg some (by kernel_rfl))
 f217:=Tryz.func102.trans (congrArg some (by kernel_rfl))
 f219:=Tryz.func171.trans (congrArg some (by kernel_rfl))
 f224:=Tryz.func117.trans (congrArg some (by kernel_rfl))
 f225:=Tryz.func118.trans (congrArg some (by kernel_rfl))
 f266:=Tryz.func121.trans (congrArg some (by kernel_rfl))
 f267:=Tryz.func172.trans (congrArg some (by kernel_rfl))
 f314:=Tryz.func173.trans (congrArg some (by kernel_rfl))
 t3:=Tryz.underlying3
 a3:=Tryz.isAgg3
 z3:=Tryz.sizeOf3
 v3:=Tryz.zeroValue3
 t4:=Tryz.underlying4
 a4:=Tryz.isAgg4
 z4:=Tryz.sizeOf4
 v4:=Tryz.zeroValue4
 t5:=Tryz.underlying5
 a5:=Tryz.isAgg5
 z5:=Tryz.sizeOf5
 v5:=Tryz.zeroValue5
 t9:=Tryz.underlying9
 a9:=Tryz.isAgg9
 z9:=Tryz.sizeOf9
 v9:=Tryz.zeroValue9
 t46:=Tryz.underlying210
 a46:=Tryz.isAgg210
 z46:=Tryz.sizeOf210
 v46:=Tryz.zeroValue210
 t51:=Tryz.underlying236
 a51:=Tryz.isAgg236
 z51:=Tryz.sizeOf236
 v51:=Tryz.zeroValue236
 t146:=Tryz.underlying257
 a146:=Tryz.isAgg257
 z146:=Tryz.sizeOf257
 v146:=Tryz.zeroValue257
 g1:=by kernel_rfl }
theorem index_any (s t:ByteArray) (m:Int) (w:World) (hs:s.size < 4294967281) (hm:w.cell? ⟨1,0,none⟩=some (.int .i64 m)) :
  Calls Tryz.prog 170 #[.string s,.string t] w fun e w'=>e=.returned (.int .i64 (Lib.index s.data.toList t.data.toList))∧w=w':=
 (Any.strings_Index ilays s t m w hs hm).mono fun _ _ ⟨h1,h2⟩=>⟨h1,h2.symm⟩
def pren:Go.Shelf.Ren:=⟨fun | 99=>33 | 206=>50 | n=>n,fun | 3=>3 | 4=>4 | 9=>9 | n=>n,fun n=>n⟩
theorem play0:Go.Proofs.Lays.n99 Tryz.prog pren:={
 mixed:=by kernel_rfl
 f99:=Tryz.func33.trans (congrArg some (by kernel_rfl))
 f206:=Tryz.func50.trans (congrArg some (by kernel_rfl))
 t3:=Tryz.underlying3
 a3:=Tryz.isAgg3
 z3:=Tryz.sizeOf3
 v3:=Tryz.zeroValue3
 t4:=Tryz.underlying4
 a4:=Tryz.isAgg4
 z4:=Tryz.sizeOf4
 v4:=Tryz.zeroValue4
 t9:=Tryz.underlying9
 a9:=Tryz.isAgg9
 z9:=Tryz.sizeOf9
 v9:=Tryz.zeroValue9 }
theorem prefix_any (s t:ByteArray) (w:World) :
  Calls Tryz.prog 33 #[.string s,.string t] w fun e w'=>e=.returned (.bool (Lib.hasPrefix s.data.toList t.data.toList))∧w=w':=
 (Any.strings_HasPrefix play0 s t w).mono fun _ _ ⟨h1,h2⟩=>⟨h1,h2.symm⟩
end Go.Proofs.YtbgfankoojjejaaGreatDoor
