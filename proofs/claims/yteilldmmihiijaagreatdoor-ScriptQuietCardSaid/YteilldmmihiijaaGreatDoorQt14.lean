/- Texts. -/
import Derived.Test.YteilldmmihiijaaGreatDoorQt13
set_option linter.unusedSimpArgs false
set_option linter.unusedVariables false
set_option maxHeartbeats 8000000
set_option maxRecDepth 1000000
namespace Go.Proofs.YteilldmmihiijaaGreatDoor
open Go.Lib renaming hid→Ac8
open Nat renaming le_refl→Adf,le_trans→Adg,lt_of_lt_of_le→Adi,le_of_lt→Adj
open List renaming length_append→Adh,mem_cons→Ado
open Go.RowKit.Below renaming refl→Adk
open Go.IntWalk renaming i64_in→Adm
section
open Go Go.RowKit
def Iv (s:List UInt8) (e:ES) (c:Nat):Except (Nat × Nat) ES:=
 if c=124 then .ok (e.lv (e.st.to (e.pos+1)) (e.inner.brs++[Bs e.inner.pcs]) [])
 else if c=40 then (if e.outer.length=12 then .error (4,e.pos) else .ok { e with pos:=e.pos+1,groups:=e.groups+1,outer:=e.outer++[e.inner],inner:=⟨e.pos,e.groups+1,[],[]⟩ })
 else if c=41 then C5 { e with pos:=e.pos+1 } e.pos
 else if c=94 then .ok (e.add (e.pos+1) .start)
 else if c=36 then .ok (e.add (e.pos+1) .fin)
 else if c=42∨c=43∨c=63∨c=123 then AC s { e with pos:=e.pos+1 } e.pos
 else if c=91 then (if (Fo s ((e.pos:Int)+1)).2.2=0 then .ok (e.at (e.st.to (Fo s ((e.pos:Int)+1)).2.1.toNat) (e.inner.pcs++[.one (Fo s ((e.pos:Int)+1)).1])) else .error ((Fo s ((e.pos:Int)+1)).2.2,(Fo s ((e.pos:Int)+1)).2.1.toNat))
 else if c=46 then .ok (e.add (e.pos+1) (.one (Ab 0 255)))
 else if c=92 then B8 s { e with pos:=e.pos+1 } e.pos
 else .ok (e.add (e.pos+1) (.one (Ab c c)))
theorem Bo (s:List UInt8) (e:ES) (c:Nat) (hl:e.pos < s.length) (hc:byt s e.pos=c):Am s e=Iv s e c:=by
 have hch:∀ b,chAt s e.pos b=decide (c=b):=fun b=>by unfold chAt;rw [hc,decide_eq_true hl];rfl
 unfold Am Iv;simp only [hch,decide_eq_true_eq];split
 ·rfl
 split
 ·rfl
 split
 ·unfold C5
  cases e.outer.getLast? <;> rfl
 split
 ·rfl
 split
 ·rfl
 have hr:BU s e.pos=decide (c=42∨c=43∨c=63∨c=123):=by
  unfold BU;simp only [hch];by_cases h1:c=42 <;> by_cases h2:c=43 <;> by_cases h3:c=63 <;> by_cases h4:c=123 <;> simp [h1,h2,h3,h4]
 rw [hr];simp only [decide_eq_true_eq];split
 ·unfold AC
  show (if Ay e.inner.pcs=true then _ else _)=(if Ay e.inner.pcs=true then _ else _)
  split
  ·rfl
  ·cases repAt true s e.pos <;> rfl
 ·rename_i k124 k40 k41 k94 k36 krep
  unfold Bb;show (match (if A0 true s e.pos 40=true then _ else _:ReRes (ReSt × Nd)) with | .error q=>_ | .ok (st,d)=>_)=_;simp only [A0,if_true,show e.st.pos=e.pos from rfl,hch,decide_eq_true_eq];rw [if_neg k40,if_neg k41];by_cases h91:c=91
  ·rw [if_pos h91,if_pos h91]
   by_cases h0:(Fo s ((e.pos:Int)+1)).2.2=0
   ·rw [if_pos h0,if_pos h0]
   ·rw [if_neg h0,if_neg h0]
  ·rw [if_neg h91,if_neg h91]
   by_cases h46:c=46
   ·rw [if_pos h46,if_pos h46]
    rfl
   ·rw [if_neg h46,if_neg h46]
    by_cases h92:c=92
    ·rw [if_pos h92,if_pos h92]
     unfold B8;by_cases hlt:e.pos+1 < s.length
     ·rw [if_pos hlt,if_pos hlt]
      show (match Dk true e.st (byt s (e.pos+1)) with | .error q=>_ | .ok (st,d)=>_)=(match Dk true e.st (byt s (e.pos+1)) with | .error q=>_ | .ok (st,d)=>_)
      cases Dk true e.st (byt s (e.pos+1)) <;> rfl
     ·rw [if_neg hlt,if_neg hlt]
    ·rw [if_neg h92,if_neg h92,hc]
     rfl
theorem Tc {s:List UInt8} {k:Nat} (hl:k < s.length) (h:byt s k=42):repAt true s k=.some 0 (-1) 0 (k+1):=by unfold repAt;rw [Fe hl h];rfl
theorem Td {s:List UInt8} {k:Nat} (hl:k < s.length) (hb:byt s k=43):repAt true s k=.some 1 (-1) 0 (k+1):=by unfold repAt;rw [B7 (b:=42) (by rw [hb];decide)];simp only [A0,if_true,Bool.false_eq_true,if_false];rw [Fe hl hb];rfl
theorem VK {s:List UInt8} {k:Nat} (hl:k < s.length) (hb:byt s k=63):repAt true s k=.some 0 1 0 (k+1):=by unfold repAt;rw [B7 (b:=42) (by rw [hb];decide)];simp only [A0,if_true,Bool.false_eq_true,if_false];rw [B7 (b:=43) (by rw [hb];decide)];simp only [Bool.false_eq_true,if_false];rw [Fe hl hb];rfl
theorem Ke {l:List Nd} {n:Nat} (h:l.all inCat=true) (hn:l.length≤n) (h2:n≤4000000):(AF l).length≤4000000:=by rw [ED l h];omega
theorem Oh {l:List Nd} {n:Nat} (h:l.all inAlt=true) (hn:l.length≤n) (h2:n≤4000000):(AG l).length≤4000000:=by rw [Ij l h];omega
theorem YO (x:Int) (h0:0≤x) (h1:x≤255) (W:World) :
  Calls Tryz.prog 138 #[.slice (some ⟨W.heap.size,0,none⟩) 1 1] (W.alloc (.cells #[.int .u8 x] 5)).drew fun e w'=>e=.returned (.agg #[.int .u64 (ow (Dt [x]) 0),.int .u64 (ow (Dt [x]) 1),.int .u64 (ow (Dt [x]) 2),.int .u64 (ow (Dt [x]) 3)])∧Below W.heap.size W w':=by
 refine (OO [x] W.heap.size 0 1 _ (by show W.heap.size < (W.alloc _).heap.size;simp) (by simp [maxLen]) (fun i hi=>?_) (fun i=>?_)).mono ?_
 ·show (W.alloc (.cells #[.int .u8 x] 5)).cell? _=_
  rw [(Blk.new W _ _ _ rfl).cell]
  match i,hi with
  | 0,_=>rfl
 ·match i with
  | 0=>exact ⟨h0,h1⟩
  | _+1=>simp
 ·rintro e w' ⟨rfl,hb⟩
  exact ⟨rfl,(((Adk _ _).alloc (Adf _) _).drew).trans (hb.mono (by show W.heap.size≤(W.alloc _).heap.size;simp))⟩
theorem Ba {lo p mp:Nat} {s:ByteArray} {w w':World} {x:Ending} {R:Except (Nat × Nat) ES} (h:AU lo p mp s w x w' R):(∃ q:Nat × Nat,R=.error (q.1,q.2)∧Below lo w w'∧x=.returned (.tuple #[.int .i64 (q.2:Int),.int .i64 (q.1:Int)]))∨(∃ e',R=.ok e'∧Below lo w w'∧x=.returned (.tuple #[.int .i64 0,.int .i64 0])∧CG lo p mp w' s e'):=by
 cases R with
 | error q=>exact .inl ⟨q,rfl,h.1,h.2⟩
 | ok e'=>exact .inr ⟨e',rfl,h.1,h.2.1,h.2.2⟩
theorem VL (lo p mp:Nat) (w:World) (s:ByteArray) (e:ES) (k:Nat) (h:CG lo p mp w s e) (hs:s.size≤250) (hk:e.pos=k) (hl:k < s.size) (hc:byt s.data.toList k=94):Calls Tryz.prog 117 #[.pointer (some ⟨p,0,none⟩)] w fun x w'=>AU lo p mp s w x w' (Am s.data.toList e):=by
 obtain ⟨own,sv,mv,bv,pv,ov,rows,h⟩:=h;obtain ⟨sa,sc,rfl,e2,e3⟩:=h.sg;obtain ⟨g,rfl,hg,hgl,hcell⟩:=e3 (by omega);have kc:=hcell k hl;rw [hc] at kc;have hll:e.pos < s.data.toList.length:=(by rw [hk];simpa using hl);have HS0:=Bo s.data.toList e 94 hll (by rw [hk];exact hc);have k1:w.cell? ⟨p,1,none⟩=some (.slice (some ⟨g,0,none⟩) s.size sc):=(h.blk.cell 1).trans rfl;have k2:w.cell? ⟨p,2,none⟩=some (.int .i64 (k:Int)):=(by rw [←hk];exact (h.blk.cell 2).trans rfl);have i1:(k:Int) < (s.size:Int):=(by omega);obtain ⟨k1n,hk1⟩:∃ j,j=k+1:=⟨_,rfl⟩;have W1:IntKind.i64.wrap ((k:Int)+1)=(k1n:Int):=(by rw [Adm _ (by omega)];omega);have f2:=h.blk.frozen 2;have hplt:=h.blk.lt;have hgp:g≠p:=(fun x=>hg (x▸h.pown));have hpg:p≠g:=(fun x=>hgp x.symm);have hE:=h.goto k1n (h.ok.goto (by omega) (by simp;omega));have hB:=(Adk lo w).setCell (p:=⟨p,2,none⟩) h.lop (.int .i64 (k1n:Int));have HOK:=Ac8 (fun e' he=>AR s.data.toList e e' h.ok hll he);have HLV:=Ac8 h.ok;obtain ⟨e1,he1⟩:∃ e1:ES,e1={ e with pos:=k1n }:=⟨_,rfl⟩;rw [←he1] at hE;have HE:=Ac8 hE;have HB:=Ac8 hB;have HE1:=Ac8 he1;have HK1:=Ac8 hk1;have HK:=Ac8 hk;have HC:=Ac8 hc;have HX:Hid (CG lo p mp (w.setCell ⟨p,2,none⟩ (.int .i64 (k1n:Int))) s e1):=Ac8 ⟨_,_,_,_,_,_,_,hE⟩;have HLL:=Ac8 hll;clear e3 hcell hgl hg hE hB he1 hk1 h hc hll hk;have hR:Am s.data.toList e=.ok (e1.at e1.st (e1.inner.pcs++[.start])):=by rw [HS0,HE1.out,HK1.out,←HK.out];rfl
 have hadd:=Ez HE.out .start (.iface 119 (.agg #[])) ⟨1,rfl⟩ rfl hs (HOK.out _ hR);have HR:=Ac8 hR;clear HS0 hR;go_enter Tryz.func117,Tryz.ntmps117;go_wp2_with fail
 refine hadd.mono ?_;rintro x w2 ⟨rfl,hx2,b2⟩;have HX2:=Ac8 hx2;clear hadd hx2;go_wp2_with fail
 go_ret2
 exact Aw HR.out (HB.out.trans b2) HX2.out
theorem VM (lo p mp:Nat) (w:World) (s:ByteArray) (e:ES) (k:Nat) (h:CG lo p mp w s e) (hs:s.size≤250) (hk:e.pos=k) (hl:k < s.size) (hc:byt s.data.toList k=36):Calls Tryz.prog 117 #[.pointer (some ⟨p,0,none⟩)] w fun x w'=>AU lo p mp s w x w' (Am s.data.toList e):=by
 obtain ⟨own,sv,mv,bv,pv,ov,rows,h⟩:=h;obtain ⟨sa,sc,rfl,e2,e3⟩:=h.sg;obtain ⟨g,rfl,hg,hgl,hcell⟩:=e3 (by omega);have kc:=hcell k hl;rw [hc] at kc;have hll:e.pos < s.data.toList.length:=(by rw [hk];simpa using hl);have HS0:=Bo s.data.toList e 36 hll (by rw [hk];exact hc);have k1:w.cell? ⟨p,1,none⟩=some (.slice (some ⟨g,0,none⟩) s.size sc):=(h.blk.cell 1).trans rfl;have k2:w.cell? ⟨p,2,none⟩=some (.int .i64 (k:Int)):=(by rw [←hk];exact (h.blk.cell 2).trans rfl);have i1:(k:Int) < (s.size:Int):=(by omega);obtain ⟨k1n,hk1⟩:∃ j,j=k+1:=⟨_,rfl⟩;have W1:IntKind.i64.wrap ((k:Int)+1)=(k1n:Int):=(by rw [Adm _ (by omega)];omega);have f2:=h.blk.frozen 2;have hplt:=h.blk.lt;have hgp:g≠p:=(fun x=>hg (x▸h.pown));have hpg:p≠g:=(fun x=>hgp x.symm);have hE:=h.goto k1n (h.ok.goto (by omega) (by simp;omega));have hB:=(Adk lo w).setCell (p:=⟨p,2,none⟩) h.lop (.int .i64 (k1n:Int));have HOK:=Ac8 (fun e' he=>AR s.data.toList e e' h.ok hll he);have HLV:=Ac8 h.ok;obtain ⟨e1,he1⟩:∃ e1:ES,e1={ e with pos:=k1n }:=⟨_,rfl⟩;rw [←he1] at hE;have HE:=Ac8 hE;have HB:=Ac8 hB;have HE1:=Ac8 he1;have HK1:=Ac8 hk1;have HK:=Ac8 hk;have HC:=Ac8 hc;have HX:Hid (CG lo p mp (w.setCell ⟨p,2,none⟩ (.int .i64 (k1n:Int))) s e1):=Ac8 ⟨_,_,_,_,_,_,_,hE⟩;have HLL:=Ac8 hll;clear e3 hcell hgl hg hE hB he1 hk1 h hc hll hk;have hR:Am s.data.toList e=.ok (e1.at e1.st (e1.inner.pcs++[.fin])):=by rw [HS0,HE1.out,HK1.out,←HK.out];rfl
 have hadd:=Ez HE.out .fin (.iface 121 (.agg #[])) ⟨1,rfl⟩ rfl hs (HOK.out _ hR);have HR:=Ac8 hR;clear HS0 hR;go_enter Tryz.func117,Tryz.ntmps117;go_wp2_with fail
 refine hadd.mono ?_;rintro x w2 ⟨rfl,hx2,b2⟩;have HX2:=Ac8 hx2;clear hadd hx2;go_wp2_with fail
 go_ret2
 exact Aw HR.out (HB.out.trans b2) HX2.out
theorem Te (lo p mp:Nat) (w:World) (s:ByteArray) (e:ES) (k:Nat) (h:CG lo p mp w s e) (hs:s.size≤250) (hk:e.pos=k) (hl:k < s.size) (hc:byt s.data.toList k=124):Calls Tryz.prog 117 #[.pointer (some ⟨p,0,none⟩)] w fun x w'=>AU lo p mp s w x w' (Am s.data.toList e):=by
 obtain ⟨own,sv,mv,bv,pv,ov,rows,h⟩:=h;obtain ⟨sa,sc,rfl,e2,e3⟩:=h.sg;obtain ⟨g,rfl,hg,hgl,hcell⟩:=e3 (by omega);have kc:=hcell k hl;rw [hc] at kc;have hll:e.pos < s.data.toList.length:=(by rw [hk];simpa using hl);have HS0:=Bo s.data.toList e 124 hll (by rw [hk];exact hc);have k1:w.cell? ⟨p,1,none⟩=some (.slice (some ⟨g,0,none⟩) s.size sc):=(h.blk.cell 1).trans rfl;have k2:w.cell? ⟨p,2,none⟩=some (.int .i64 (k:Int)):=(by rw [←hk];exact (h.blk.cell 2).trans rfl);have i1:(k:Int) < (s.size:Int):=(by omega);obtain ⟨k1n,hk1⟩:∃ j,j=k+1:=⟨_,rfl⟩;have W1:IntKind.i64.wrap ((k:Int)+1)=(k1n:Int):=(by rw [Adm _ (by omega)];omega);have f2:=h.blk.frozen 2;have hplt:=h.blk.lt;have hgp:g≠p:=(fun x=>hg (x▸h.pown));have hpg:p≠g:=(fun x=>hgp x.symm);have hE:=h.goto k1n (h.ok.goto (by omega) (by simp;omega));have hB:=(Adk lo w).setCell (p:=⟨p,2,none⟩) h.lop (.int .i64 (k1n:Int));have HOK:=Ac8 (fun e' he=>AR s.data.toList e e' h.ok hll he);have HLV:=Ac8 h.ok;obtain ⟨e1,he1⟩:∃ e1:ES,e1={ e with pos:=k1n }:=⟨_,rfl⟩;rw [←he1] at hE;have HE:=Ac8 hE;have HB:=Ac8 hB;have HE1:=Ac8 he1;have HK1:=Ac8 hk1;have HK:=Ac8 hk;have HC:=Ac8 hc;have HX:Hid (CG lo p mp (w.setCell ⟨p,2,none⟩ (.int .i64 (k1n:Int))) s e1):=Ac8 ⟨_,_,_,_,_,_,_,hE⟩;have HLL:=Ac8 hll;clear e3 hcell hgl hg hE hB he1 hk1 h hc hll hk;have hR:Am s.data.toList e=.ok (e1.lv e1.st (e1.inner.brs++[Bs e1.inner.pcs]) []):=by rw [HS0,HE1.out,HK1.out,←HK.out];rfl
 have hi:=HE.out.ok.inner;have hps:=HE.out.ok.pos;have hsl:s.data.toList.length=s.size:=by simp
 have hend:=Od lo p own _ _ _ _ _ _ bv pv _ _ _ e1.inner.brs e1.inner.pcs _ HE.out.lop HE.out.blk HE.out.bn HE.out.pn (fun hx=>(HE.out.inown bv (by simp [allV]) p hx).2.1 rfl) HE.out.pown HE.out.ownlt (fun q hq=>(HE.out.inown bv (by simp [allV]) q hq).1) (Adg hi.2.2.2.1 (by omega)) (Ke hi.1 hi.2.2.1 (by omega));have HR:=Ac8 hR;have HO:=Ac8 (HOK.out _ hR);have HEND:=Ac8 hend;clear HS0 hR hi hps hend hsl;go_enter Tryz.func117,Tryz.ntmps117;go_wp2_with fail
 refine HEND.out.mono ?_;rintro x w2 ⟨bv',rfl,hN,hB2,hT,hF⟩;have hX:=Em.branched HE.out hT hF rfl hN hB2 HO.out;have HX2:=Ac8 hX;have HB2:=Ac8 (HB.out.trans (HE.out.low HE.out.bn.lt hT));clear hN hB2 hT hF hX;go_wp2_with fail
 go_ret2
 exact Aw HR.out HB2.out ⟨_,_,_,_,_,_,_,HX2.out⟩
theorem Tf (lo p mp:Nat) (w:World) (s:ByteArray) (e:ES) (k:Nat) (h:CG lo p mp w s e) (hs:s.size≤250) (hk:e.pos=k) (hl:k < s.size) (hc:byt s.data.toList k=40) (hd:e.outer.length=12):Calls Tryz.prog 117 #[.pointer (some ⟨p,0,none⟩)] w fun x w'=>AU lo p mp s w x w' (Am s.data.toList e):=by
 obtain ⟨own,sv,mv,bv,pv,ov,rows,h⟩:=h;obtain ⟨sa,sc,rfl,e2,e3⟩:=h.sg;obtain ⟨g,rfl,hg,hgl,hcell⟩:=e3 (by omega);have kc:=hcell k hl;rw [hc] at kc;have hll:e.pos < s.data.toList.length:=(by rw [hk];simpa using hl);have HS0:=Bo s.data.toList e 40 hll (by rw [hk];exact hc);have k1:w.cell? ⟨p,1,none⟩=some (.slice (some ⟨g,0,none⟩) s.size sc):=(h.blk.cell 1).trans rfl;have k2:w.cell? ⟨p,2,none⟩=some (.int .i64 (k:Int)):=(by rw [←hk];exact (h.blk.cell 2).trans rfl);have i1:(k:Int) < (s.size:Int):=(by omega);obtain ⟨k1n,hk1⟩:∃ j,j=k+1:=⟨_,rfl⟩;have W1:IntKind.i64.wrap ((k:Int)+1)=(k1n:Int):=(by rw [Adm _ (by omega)];omega);have f2:=h.blk.frozen 2;have hplt:=h.blk.lt;have hgp:g≠p:=(fun x=>hg (x▸h.pown));have hpg:p≠g:=(fun x=>hgp x.symm);have hE:=h.goto k1n (h.ok.goto (by omega) (by simp;omega));have hB:=(Adk lo w).setCell (p:=⟨p,2,none⟩) h.lop (.int .i64 (k1n:Int));have HOK:=Ac8 (fun e' he=>AR s.data.toList e e' h.ok hll he);have HLV:=Ac8 h.ok;obtain ⟨e1,he1⟩:∃ e1:ES,e1={ e with pos:=k1n }:=⟨_,rfl⟩;rw [←he1] at hE;have HE:=Ac8 hE;have HB:=Ac8 hB;have HE1:=Ac8 he1;have HK1:=Ac8 hk1;have HK:=Ac8 hk;have HC:=Ac8 hc;have HX:Hid (CG lo p mp (w.setCell ⟨p,2,none⟩ (.int .i64 (k1n:Int))) s e1):=Ac8 ⟨_,_,_,_,_,_,_,hE⟩;have HLL:=Ac8 hll;clear e3 hcell hgl hg hE hB he1 hk1 h hc hll hk;have hR:Am s.data.toList e=.error (4,k):=by rw [HS0];unfold Iv;rw [if_neg (by decide),if_pos rfl,if_pos hd,HK.out]
 have hop:=PR lo p mp own _ s e1 _ mv bv pv ov rows HE.out k (by rw [HE1.out];exact hd);have HR:=Ac8 hR;have HOP:=Ac8 hop;clear HS0 hR hop hd;go_enter Tryz.func117,Tryz.ntmps117;go_wp2_with fail
 refine HOP.out.mono ?_;rintro x w2 ⟨rfl,rfl⟩;go_wp2_with fail
 go_ret2
 exact A8 HR.out HB.out
theorem VN (lo p mp:Nat) (w:World) (s:ByteArray) (e:ES) (k:Nat) (h:CG lo p mp w s e) (hs:s.size≤250) (hk:e.pos=k) (hl:k < s.size) (hc:byt s.data.toList k=40) (hd:e.outer.length < 12):Calls Tryz.prog 117 #[.pointer (some ⟨p,0,none⟩)] w fun x w'=>AU lo p mp s w x w' (Am s.data.toList e):=by
 obtain ⟨own,sv,mv,bv,pv,ov,rows,h⟩:=h;obtain ⟨sa,sc,rfl,e2,e3⟩:=h.sg;obtain ⟨g,rfl,hg,hgl,hcell⟩:=e3 (by omega);have kc:=hcell k hl;rw [hc] at kc;have hll:e.pos < s.data.toList.length:=(by rw [hk];simpa using hl);have HS0:=Bo s.data.toList e 40 hll (by rw [hk];exact hc);have k1:w.cell? ⟨p,1,none⟩=some (.slice (some ⟨g,0,none⟩) s.size sc):=(h.blk.cell 1).trans rfl;have k2:w.cell? ⟨p,2,none⟩=some (.int .i64 (k:Int)):=(by rw [←hk];exact (h.blk.cell 2).trans rfl);have i1:(k:Int) < (s.size:Int):=(by omega);obtain ⟨k1n,hk1⟩:∃ j,j=k+1:=⟨_,rfl⟩;have W1:IntKind.i64.wrap ((k:Int)+1)=(k1n:Int):=(by rw [Adm _ (by omega)];omega);have f2:=h.blk.frozen 2;have hplt:=h.blk.lt;have hgp:g≠p:=(fun x=>hg (x▸h.pown));have hpg:p≠g:=(fun x=>hgp x.symm);have hE:=h.goto k1n (h.ok.goto (by omega) (by simp;omega));have hB:=(Adk lo w).setCell (p:=⟨p,2,none⟩) h.lop (.int .i64 (k1n:Int));have HOK:=Ac8 (fun e' he=>AR s.data.toList e e' h.ok hll he);have HLV:=Ac8 h.ok;obtain ⟨e1,he1⟩:∃ e1:ES,e1={ e with pos:=k1n }:=⟨_,rfl⟩;rw [←he1] at hE;have HE:=Ac8 hE;have HB:=Ac8 hB;have HE1:=Ac8 he1;have HK1:=Ac8 hk1;have HK:=Ac8 hk;have HC:=Ac8 hc;have HX:Hid (CG lo p mp (w.setCell ⟨p,2,none⟩ (.int .i64 (k1n:Int))) s e1):=Ac8 ⟨_,_,_,_,_,_,_,hE⟩;have HLL:=Ac8 hll;clear e3 hcell hgl hg hE hB he1 hk1 h hc hll hk;have hR:Am s.data.toList e=.ok { e1 with groups:=e1.groups+1,outer:=e1.outer++[e1.inner],inner:=⟨k,e1.groups+1,[],[]⟩ }:=by rw [HS0];unfold Iv;rw [if_neg (by decide),if_pos rfl,if_neg (by omega),HE1.out,HK1.out,←HK.out]
 have hgr:e1.groups≤250:=by rw [HE1.out];show e.groups≤250;have:=HLV.out.groups;have:=HK.out;omega
 have hop:=SR lo p mp own _ s e1 _ mv bv pv ov rows HE.out k (by rw [HE1.out];exact hd) hgr (HOK.out _ hR);have HR:=Ac8 hR;have HOP:=Ac8 hop;clear HS0 hR hop hd hgr;go_enter Tryz.func117,Tryz.ntmps117;go_wp2_with fail
 refine HOP.out.mono ?_;rintro x w2 ⟨rfl,own',ov',hx2,_,hT⟩;have HX2:=Ac8 hx2;have HB2:=Ac8 (HB.out.trans (HE.out.low HE.out.on.lt hT));clear hx2 hT;go_wp2_with fail
 go_ret2
 exact Aw HR.out HB2.out ⟨_,_,_,_,_,_,_,HX2.out⟩
theorem Tg (lo p mp:Nat) (w:World) (s:ByteArray) (e:ES) (k:Nat) (h:CG lo p mp w s e) (hs:s.size≤250) (hk:e.pos=k) (hl:k < s.size) (hc:byt s.data.toList k=41) (ho:e.outer=[]):Calls Tryz.prog 117 #[.pointer (some ⟨p,0,none⟩)] w fun x w'=>AU lo p mp s w x w' (Am s.data.toList e):=by
 obtain ⟨own,sv,mv,bv,pv,ov,rows,h⟩:=h;obtain ⟨sa,sc,rfl,e2,e3⟩:=h.sg;obtain ⟨g,rfl,hg,hgl,hcell⟩:=e3 (by omega);have kc:=hcell k hl;rw [hc] at kc;have hll:e.pos < s.data.toList.length:=(by rw [hk];simpa using hl);have HS0:=Bo s.data.toList e 41 hll (by rw [hk];exact hc);have k1:w.cell? ⟨p,1,none⟩=some (.slice (some ⟨g,0,none⟩) s.size sc):=(h.blk.cell 1).trans rfl;have k2:w.cell? ⟨p,2,none⟩=some (.int .i64 (k:Int)):=(by rw [←hk];exact (h.blk.cell 2).trans rfl);have i1:(k:Int) < (s.size:Int):=(by omega);obtain ⟨k1n,hk1⟩:∃ j,j=k+1:=⟨_,rfl⟩;have W1:IntKind.i64.wrap ((k:Int)+1)=(k1n:Int):=(by rw [Adm _ (by omega)];omega);have f2:=h.blk.frozen 2;have hplt:=h.blk.lt;have hgp:g≠p:=(fun x=>hg (x▸h.pown));have hpg:p≠g:=(fun x=>hgp x.symm);have hE:=h.goto k1n (h.ok.goto (by omega) (by simp;omega));have hB:=(Adk lo w).setCell (p:=⟨p,2,none⟩) h.lop (.int .i64 (k1n:Int));have HOK:=Ac8 (fun e' he=>AR s.data.toList e e' h.ok hll he);have HLV:=Ac8 h.ok;obtain ⟨e1,he1⟩:∃ e1:ES,e1={ e with pos:=k1n }:=⟨_,rfl⟩;rw [←he1] at hE;have HE:=Ac8 hE;have HB:=Ac8 hB;have HE1:=Ac8 he1;have HK1:=Ac8 hk1;have HK:=Ac8 hk;have HC:=Ac8 hc;have HX:Hid (CG lo p mp (w.setCell ⟨p,2,none⟩ (.int .i64 (k1n:Int))) s e1):=Ac8 ⟨_,_,_,_,_,_,_,hE⟩;have HLL:=Ac8 hll;clear e3 hcell hgl hg hE hB he1 hk1 h hc hll hk;have hR:Am s.data.toList e=C5 e1 k:=by rw [HS0,HE1.out,HK1.out,←HK.out];rfl
 have hcall:=Oe lo p mp _ s e1 HX.out k (by rw [HE1.out];exact ho);have HC0:=Ac8 hcall;have HR:=Ac8 hR;clear HS0 hR hcall;(obtain ⟨RR,hRR⟩:∃ RR,RR=Am s.data.toList e:=⟨_,rfl⟩);rw [←hRR];have HRR:=Ac8 hRR;clear hRR;clear ho;go_enter Tryz.func117,Tryz.ntmps117;go_wp2_with fail
 refine HC0.out.mono ?_;intro x w2 hx2;rcases Ba hx2 with ⟨q,hq,hb3,rfl⟩ | ⟨e',hq,hb3,rfl,hx4⟩
 ·have HQ:=Ac8 (HRR.out.trans (HR.out.trans hq))
  clear hx2 hq;go_wp2_with fail
  go_ret2
  exact A8 HQ.out (HB.out.trans hb3)
 ·have HQ:=Ac8 (HRR.out.trans (HR.out.trans hq))
  have HX4:=Ac8 hx4;clear hx2 hq hx4;go_wp2_with fail
  go_ret2
  exact Aw HQ.out (HB.out.trans hb3) HX4.out
theorem VO (lo p mp:Nat) (w:World) (s:ByteArray) (e:ES) (k:Nat) (h:CG lo p mp w s e) (hs:s.size≤250) (hk:e.pos=k) (hl:k < s.size) (hc:byt s.data.toList k=41) (L:List Lv) (v:Lv) (ho:e.outer=L++[v]):Calls Tryz.prog 117 #[.pointer (some ⟨p,0,none⟩)] w fun x w'=>AU lo p mp s w x w' (Am s.data.toList e):=by
 obtain ⟨own,sv,mv,bv,pv,ov,rows,h⟩:=h;obtain ⟨sa,sc,rfl,e2,e3⟩:=h.sg;obtain ⟨g,rfl,hg,hgl,hcell⟩:=e3 (by omega);have kc:=hcell k hl;rw [hc] at kc;have hll:e.pos < s.data.toList.length:=(by rw [hk];simpa using hl);have HS0:=Bo s.data.toList e 41 hll (by rw [hk];exact hc);have k1:w.cell? ⟨p,1,none⟩=some (.slice (some ⟨g,0,none⟩) s.size sc):=(h.blk.cell 1).trans rfl;have k2:w.cell? ⟨p,2,none⟩=some (.int .i64 (k:Int)):=(by rw [←hk];exact (h.blk.cell 2).trans rfl);have i1:(k:Int) < (s.size:Int):=(by omega);obtain ⟨k1n,hk1⟩:∃ j,j=k+1:=⟨_,rfl⟩;have W1:IntKind.i64.wrap ((k:Int)+1)=(k1n:Int):=(by rw [Adm _ (by omega)];omega);have f2:=h.blk.frozen 2;have hplt:=h.blk.lt;have hgp:g≠p:=(fun x=>hg (x▸h.pown));have hpg:p≠g:=(fun x=>hgp x.symm);have hE:=h.goto k1n (h.ok.goto (by omega) (by simp;omega));have hB:=(Adk lo w).setCell (p:=⟨p,2,none⟩) h.lop (.int .i64 (k1n:Int));have HOK:=Ac8 (fun e' he=>AR s.data.toList e e' h.ok hll he);have HLV:=Ac8 h.ok;obtain ⟨e1,he1⟩:∃ e1:ES,e1={ e with pos:=k1n }:=⟨_,rfl⟩;rw [←he1] at hE;have HE:=Ac8 hE;have HB:=Ac8 hB;have HE1:=Ac8 he1;have HK1:=Ac8 hk1;have HK:=Ac8 hk;have HC:=Ac8 hc;have HX:Hid (CG lo p mp (w.setCell ⟨p,2,none⟩ (.int .i64 (k1n:Int))) s e1):=Ac8 ⟨_,_,_,_,_,_,_,hE⟩;have HLL:=Ac8 hll;clear e3 hcell hgl hg hE hB he1 hk1 h hc hll hk;have hR:Am s.data.toList e=C5 e1 k:=by rw [HS0,HE1.out,HK1.out,←HK.out];rfl
 have hi:=HE.out.ok.inner;have hps:=HE.out.ok.pos;have hsl:s.data.toList.length=s.size:=by simp
 have ho1:e1.outer=L++[v]:=by rw [HE1.out];exact ho
 have hst:C5 e1 k=.ok { e1 with closed:=e1.closed++[(e1.inner.num:Int)],outer:=L,inner:={ v with pcs:=v.pcs++[.group (e1.inner.num:Int) e1.inner.whole] } }:=by unfold C5;rw [ho1,List.getLast?_concat,List.dropLast_concat]
 have hbl:(e1.inner.brs++[Bs e1.inner.pcs]).length≤251:=by rw [Adh];have:=hi.2.2.2.1;simp;omega
 have hcl1:e1.closed.length < e1.pos:=by rw [HE1.out];show e.closed.length < k1n;have:=HLV.out.closed;rw [HK1.out];have:=HK.out;omega
 have hcall:=PU lo p mp _ s e1 HX.out k hs L v ho1 ⟨HE.out.ok.pos,HE.out.ok.outer v (by rw [ho1];simp),fun u hu=>HE.out.ok.outer u (by rw [ho1];exact List.mem_append_left _ hu),HE.out.ok.marks,HE.out.ok.groups,(by have:=HE.out.ok.deep;rw [ho1,Adh] at this;show L.length≤12;omega),(by show (e1.closed++[(e1.inner.num:Int)]).length≤e1.pos;rw [Adh];simp;omega)⟩ (HOK.out _ (hR.trans hst)) (Ke hi.1 hi.2.2.1 (by omega)) (Oh (BK hi.2.1 (Ka _ hi.1)) hbl (by omega));have HC0:=Ac8 hcall;have HR:=Ac8 hR;clear HS0 hR hcall;(obtain ⟨RR,hRR⟩:∃ RR,RR=Am s.data.toList e:=⟨_,rfl⟩);rw [←hRR];have HRR:=Ac8 hRR;clear hRR;clear ho hi hps hst hbl ho1 hcl1 hsl;go_enter Tryz.func117,Tryz.ntmps117;go_wp2_with fail
 refine HC0.out.mono ?_;intro x w2 hx2;rcases Ba hx2 with ⟨q,hq,hb3,rfl⟩ | ⟨e',hq,hb3,rfl,hx4⟩
 ·have HQ:=Ac8 (HRR.out.trans (HR.out.trans hq))
  clear hx2 hq;go_wp2_with fail
  go_ret2
  exact A8 HQ.out (HB.out.trans hb3)
 ·have HQ:=Ac8 (HRR.out.trans (HR.out.trans hq))
  have HX4:=Ac8 hx4;clear hx2 hq hx4;go_wp2_with fail
  go_ret2
  exact Aw HQ.out (HB.out.trans hb3) HX4.out
theorem Th (lo p mp:Nat) (w:World) (s:ByteArray) (e:ES) (k:Nat) (h:CG lo p mp w s e) (hs:s.size≤250) (hk:e.pos=k) (hl:k < s.size) (hc:byt s.data.toList k=42) (hf:Ay e.inner.pcs=true):Calls Tryz.prog 117 #[.pointer (some ⟨p,0,none⟩)] w fun x w'=>AU lo p mp s w x w' (Am s.data.toList e):=by
 obtain ⟨own,sv,mv,bv,pv,ov,rows,h⟩:=h;obtain ⟨sa,sc,rfl,e2,e3⟩:=h.sg;obtain ⟨g,rfl,hg,hgl,hcell⟩:=e3 (by omega);have kc:=hcell k hl;rw [hc] at kc;have hll:e.pos < s.data.toList.length:=(by rw [hk];simpa using hl);have HS0:=Bo s.data.toList e 42 hll (by rw [hk];exact hc);have k1:w.cell? ⟨p,1,none⟩=some (.slice (some ⟨g,0,none⟩) s.size sc):=(h.blk.cell 1).trans rfl;have k2:w.cell? ⟨p,2,none⟩=some (.int .i64 (k:Int)):=(by rw [←hk];exact (h.blk.cell 2).trans rfl);have i1:(k:Int) < (s.size:Int):=(by omega);obtain ⟨k1n,hk1⟩:∃ j,j=k+1:=⟨_,rfl⟩;have W1:IntKind.i64.wrap ((k:Int)+1)=(k1n:Int):=(by rw [Adm _ (by omega)];omega);have f2:=h.blk.frozen 2;have hplt:=h.blk.lt;have hgp:g≠p:=(fun x=>hg (x▸h.pown));have hpg:p≠g:=(fun x=>hgp x.symm);have hE:=h.goto k1n (h.ok.goto (by omega) (by simp;omega));have hB:=(Adk lo w).setCell (p:=⟨p,2,none⟩) h.lop (.int .i64 (k1n:Int));have HOK:=Ac8 (fun e' he=>AR s.data.toList e e' h.ok hll he);have HLV:=Ac8 h.ok;obtain ⟨e1,he1⟩:∃ e1:ES,e1={ e with pos:=k1n }:=⟨_,rfl⟩;rw [←he1] at hE;have HE:=Ac8 hE;have HB:=Ac8 hB;have HE1:=Ac8 he1;have HK1:=Ac8 hk1;have HK:=Ac8 hk;have HC:=Ac8 hc;have HX:Hid (CG lo p mp (w.setCell ⟨p,2,none⟩ (.int .i64 (k1n:Int))) s e1):=Ac8 ⟨_,_,_,_,_,_,_,hE⟩;have HLL:=Ac8 hll;clear e3 hcell hgl hg hE hB he1 hk1 h hc hll hk;have hR:Am s.data.toList e=AC s.data.toList e1 k:=by rw [HS0,HE1.out,HK1.out,←HK.out];rfl
 have hf1:Ay e1.inner.pcs=true:=by rw [HE1.out];exact hf
 have hp1:e1.pos=k+1:=by rw [HE1.out];exact HK1.out
 have hcall:=Ff lo p mp _ s e1 k HX.out hs hf1;have HC0:=Ac8 hcall;have HR:=Ac8 hR;clear HS0 hR hcall;(obtain ⟨RR,hRR⟩:∃ RR,RR=Am s.data.toList e:=⟨_,rfl⟩);rw [←hRR];have HRR:=Ac8 hRR;clear hRR;clear hf hf1 hp1;go_enter Tryz.func117,Tryz.ntmps117;go_wp2_with fail
 refine HC0.out.mono ?_;intro x w2 hx2;rcases Ba hx2 with ⟨q,hq,hb3,rfl⟩ | ⟨e',hq,hb3,rfl,hx4⟩
 ·have HQ:=Ac8 (HRR.out.trans (HR.out.trans hq))
  clear hx2 hq;go_wp2_with fail
  go_ret2
  exact A8 HQ.out (HB.out.trans hb3)
 ·have HQ:=Ac8 (HRR.out.trans (HR.out.trans hq))
  have HX4:=Ac8 hx4;clear hx2 hq hx4;go_wp2_with fail
  go_ret2
  exact Aw HQ.out (HB.out.trans hb3) HX4.out
theorem Ti (lo p mp:Nat) (w:World) (s:ByteArray) (e:ES) (k:Nat) (h:CG lo p mp w s e) (hs:s.size≤250) (hk:e.pos=k) (hl:k < s.size) (hc:byt s.data.toList k=43) (hf:Ay e.inner.pcs=true):Calls Tryz.prog 117 #[.pointer (some ⟨p,0,none⟩)] w fun x w'=>AU lo p mp s w x w' (Am s.data.toList e):=by
 obtain ⟨own,sv,mv,bv,pv,ov,rows,h⟩:=h;obtain ⟨sa,sc,rfl,e2,e3⟩:=h.sg;obtain ⟨g,rfl,hg,hgl,hcell⟩:=e3 (by omega);have kc:=hcell k hl;rw [hc] at kc;have hll:e.pos < s.data.toList.length:=(by rw [hk];simpa using hl);have HS0:=Bo s.data.toList e 43 hll (by rw [hk];exact hc);have k1:w.cell? ⟨p,1,none⟩=some (.slice (some ⟨g,0,none⟩) s.size sc):=(h.blk.cell 1).trans rfl;have k2:w.cell? ⟨p,2,none⟩=some (.int .i64 (k:Int)):=(by rw [←hk];exact (h.blk.cell 2).trans rfl);have i1:(k:Int) < (s.size:Int):=(by omega);obtain ⟨k1n,hk1⟩:∃ j,j=k+1:=⟨_,rfl⟩;have W1:IntKind.i64.wrap ((k:Int)+1)=(k1n:Int):=(by rw [Adm _ (by omega)];omega);have f2:=h.blk.frozen 2;have hplt:=h.blk.lt;have hgp:g≠p:=(fun x=>hg (x▸h.pown));have hpg:p≠g:=(fun x=>hgp x.symm);have hE:=h.goto k1n (h.ok.goto (by omega) (by simp;omega));have hB:=(Adk lo w).setCell (p:=⟨p,2,none⟩) h.lop (.int .i64 (k1n:Int));have HOK:=Ac8 (fun e' he=>AR s.data.toList e e' h.ok hll he);have HLV:=Ac8 h.ok;obtain ⟨e1,he1⟩:∃ e1:ES,e1={ e with pos:=k1n }:=⟨_,rfl⟩;rw [←he1] at hE;have HE:=Ac8 hE;have HB:=Ac8 hB;have HE1:=Ac8 he1;have HK1:=Ac8 hk1;have HK:=Ac8 hk;have HC:=Ac8 hc;have HX:Hid (CG lo p mp (w.setCell ⟨p,2,none⟩ (.int .i64 (k1n:Int))) s e1):=Ac8 ⟨_,_,_,_,_,_,_,hE⟩;have HLL:=Ac8 hll;clear e3 hcell hgl hg hE hB he1 hk1 h hc hll hk;have hR:Am s.data.toList e=AC s.data.toList e1 k:=by rw [HS0,HE1.out,HK1.out,←HK.out];rfl
 have hf1:Ay e1.inner.pcs=true:=by rw [HE1.out];exact hf
 have hp1:e1.pos=k+1:=by rw [HE1.out];exact HK1.out
 have hcall:=Ff lo p mp _ s e1 k HX.out hs hf1;have HC0:=Ac8 hcall;have HR:=Ac8 hR;clear HS0 hR hcall;(obtain ⟨RR,hRR⟩:∃ RR,RR=Am s.data.toList e:=⟨_,rfl⟩);rw [←hRR];have HRR:=Ac8 hRR;clear hRR;clear hf hf1 hp1;go_enter Tryz.func117,Tryz.ntmps117;go_wp2_with fail
 refine HC0.out.mono ?_;intro x w2 hx2;rcases Ba hx2 with ⟨q,hq,hb3,rfl⟩ | ⟨e',hq,hb3,rfl,hx4⟩
 ·have HQ:=Ac8 (HRR.out.trans (HR.out.trans hq))
  clear hx2 hq;go_wp2_with fail
  go_ret2
  exact A8 HQ.out (HB.out.trans hb3)
 ·have HQ:=Ac8 (HRR.out.trans (HR.out.trans hq))
  have HX4:=Ac8 hx4;clear hx2 hq hx4;go_wp2_with fail
  go_ret2
  exact Aw HQ.out (HB.out.trans hb3) HX4.out
theorem Tj (lo p mp:Nat) (w:World) (s:ByteArray) (e:ES) (k:Nat) (h:CG lo p mp w s e) (hs:s.size≤250) (hk:e.pos=k) (hl:k < s.size) (hc:byt s.data.toList k=63) (hf:Ay e.inner.pcs=true):Calls Tryz.prog 117 #[.pointer (some ⟨p,0,none⟩)] w fun x w'=>AU lo p mp s w x w' (Am s.data.toList e):=by
 obtain ⟨own,sv,mv,bv,pv,ov,rows,h⟩:=h;obtain ⟨sa,sc,rfl,e2,e3⟩:=h.sg;obtain ⟨g,rfl,hg,hgl,hcell⟩:=e3 (by omega);have kc:=hcell k hl;rw [hc] at kc;have hll:e.pos < s.data.toList.length:=(by rw [hk];simpa using hl);have HS0:=Bo s.data.toList e 63 hll (by rw [hk];exact hc);have k1:w.cell? ⟨p,1,none⟩=some (.slice (some ⟨g,0,none⟩) s.size sc):=(h.blk.cell 1).trans rfl;have k2:w.cell? ⟨p,2,none⟩=some (.int .i64 (k:Int)):=(by rw [←hk];exact (h.blk.cell 2).trans rfl);have i1:(k:Int) < (s.size:Int):=(by omega);obtain ⟨k1n,hk1⟩:∃ j,j=k+1:=⟨_,rfl⟩;have W1:IntKind.i64.wrap ((k:Int)+1)=(k1n:Int):=(by rw [Adm _ (by omega)];omega);have f2:=h.blk.frozen 2;have hplt:=h.blk.lt;have hgp:g≠p:=(fun x=>hg (x▸h.pown));have hpg:p≠g:=(fun x=>hgp x.symm);have hE:=h.goto k1n (h.ok.goto (by omega) (by simp;omega));have hB:=(Adk lo w).setCell (p:=⟨p,2,none⟩) h.lop (.int .i64 (k1n:Int));have HOK:=Ac8 (fun e' he=>AR s.data.toList e e' h.ok hll he);have HLV:=Ac8 h.ok;obtain ⟨e1,he1⟩:∃ e1:ES,e1={ e with pos:=k1n }:=⟨_,rfl⟩;rw [←he1] at hE;have HE:=Ac8 hE;have HB:=Ac8 hB;have HE1:=Ac8 he1;have HK1:=Ac8 hk1;have HK:=Ac8 hk;have HC:=Ac8 hc;have HX:Hid (CG lo p mp (w.setCell ⟨p,2,none⟩ (.int .i64 (k1n:Int))) s e1):=Ac8 ⟨_,_,_,_,_,_,_,hE⟩;have HLL:=Ac8 hll;clear e3 hcell hgl hg hE hB he1 hk1 h hc hll hk;have hR:Am s.data.toList e=AC s.data.toList e1 k:=by rw [HS0,HE1.out,HK1.out,←HK.out];rfl
 have hf1:Ay e1.inner.pcs=true:=by rw [HE1.out];exact hf
 have hp1:e1.pos=k+1:=by rw [HE1.out];exact HK1.out
 have hcall:=Ff lo p mp _ s e1 k HX.out hs hf1;have HC0:=Ac8 hcall;have HR:=Ac8 hR;clear HS0 hR hcall;(obtain ⟨RR,hRR⟩:∃ RR,RR=Am s.data.toList e:=⟨_,rfl⟩);rw [←hRR];have HRR:=Ac8 hRR;clear hRR;clear hf hf1 hp1;go_enter Tryz.func117,Tryz.ntmps117;go_wp2_with fail
 refine HC0.out.mono ?_;intro x w2 hx2;rcases Ba hx2 with ⟨q,hq,hb3,rfl⟩ | ⟨e',hq,hb3,rfl,hx4⟩
 ·have HQ:=Ac8 (HRR.out.trans (HR.out.trans hq))
  clear hx2 hq;go_wp2_with fail
  go_ret2
  exact A8 HQ.out (HB.out.trans hb3)
 ·have HQ:=Ac8 (HRR.out.trans (HR.out.trans hq))
  have HX4:=Ac8 hx4;clear hx2 hq hx4;go_wp2_with fail
  go_ret2
  exact Aw HQ.out (HB.out.trans hb3) HX4.out
theorem PX (lo p mp:Nat) (w:World) (s:ByteArray) (e:ES) (k:Nat) (h:CG lo p mp w s e) (hs:s.size≤250) (hk:e.pos=k) (hl:k < s.size) (hc:byt s.data.toList k=123) (hf:Ay e.inner.pcs=true):Calls Tryz.prog 117 #[.pointer (some ⟨p,0,none⟩)] w fun x w'=>AU lo p mp s w x w' (Am s.data.toList e):=by
 obtain ⟨own,sv,mv,bv,pv,ov,rows,h⟩:=h;obtain ⟨sa,sc,rfl,e2,e3⟩:=h.sg;obtain ⟨g,rfl,hg,hgl,hcell⟩:=e3 (by omega);have kc:=hcell k hl;rw [hc] at kc;have hll:e.pos < s.data.toList.length:=(by rw [hk];simpa using hl);have HS0:=Bo s.data.toList e 123 hll (by rw [hk];exact hc);have k1:w.cell? ⟨p,1,none⟩=some (.slice (some ⟨g,0,none⟩) s.size sc):=(h.blk.cell 1).trans rfl;have k2:w.cell? ⟨p,2,none⟩=some (.int .i64 (k:Int)):=(by rw [←hk];exact (h.blk.cell 2).trans rfl);have i1:(k:Int) < (s.size:Int):=(by omega);obtain ⟨k1n,hk1⟩:∃ j,j=k+1:=⟨_,rfl⟩;have W1:IntKind.i64.wrap ((k:Int)+1)=(k1n:Int):=(by rw [Adm _ (by omega)];omega);have f2:=h.blk.frozen 2;have hplt:=h.blk.lt;have hgp:g≠p:=(fun x=>hg (x▸h.pown));have hpg:p≠g:=(fun x=>hgp x.symm);have hE:=h.goto k1n (h.ok.goto (by omega) (by simp;omega));have hB:=(Adk lo w).setCell (p:=⟨p,2,none⟩) h.lop (.int .i64 (k1n:Int));have HOK:=Ac8 (fun e' he=>AR s.data.toList e e' h.ok hll he);have HLV:=Ac8 h.ok;obtain ⟨e1,he1⟩:∃ e1:ES,e1={ e with pos:=k1n }:=⟨_,rfl⟩;rw [←he1] at hE;have HE:=Ac8 hE;have HB:=Ac8 hB;have HE1:=Ac8 he1;have HK1:=Ac8 hk1;have HK:=Ac8 hk;have HC:=Ac8 hc;have HX:Hid (CG lo p mp (w.setCell ⟨p,2,none⟩ (.int .i64 (k1n:Int))) s e1):=Ac8 ⟨_,_,_,_,_,_,_,hE⟩;have HLL:=Ac8 hll;clear e3 hcell hgl hg hE hB he1 hk1 h hc hll hk;have hR:Am s.data.toList e=AC s.data.toList e1 k:=by rw [HS0,HE1.out,HK1.out,←HK.out];rfl
 have hf1:Ay e1.inner.pcs=true:=by rw [HE1.out];exact hf
 have hp1:e1.pos=k+1:=by rw [HE1.out];exact HK1.out
 have hcall:=Ff lo p mp _ s e1 k HX.out hs hf1;have HC0:=Ac8 hcall;have HR:=Ac8 hR;clear HS0 hR hcall;(obtain ⟨RR,hRR⟩:∃ RR,RR=Am s.data.toList e:=⟨_,rfl⟩);rw [←hRR];have HRR:=Ac8 hRR;clear hRR;clear hf hf1 hp1;go_enter Tryz.func117,Tryz.ntmps117;go_wp2_with fail
 refine HC0.out.mono ?_;intro x w2 hx2;rcases Ba hx2 with ⟨q,hq,hb3,rfl⟩ | ⟨e',hq,hb3,rfl,hx4⟩
 ·have HQ:=Ac8 (HRR.out.trans (HR.out.trans hq))
  clear hx2 hq;go_wp2_with fail
  go_ret2
  exact A8 HQ.out (HB.out.trans hb3)
 ·have HQ:=Ac8 (HRR.out.trans (HR.out.trans hq))
  have HX4:=Ac8 hx4;clear hx2 hq hx4;go_wp2_with fail
  go_ret2
  exact Aw HQ.out (HB.out.trans hb3) HX4.out
theorem Tk (lo p mp:Nat) (w:World) (s:ByteArray) (e:ES) (k:Nat) (h:CG lo p mp w s e) (hs:s.size≤250) (hk:e.pos=k) (hl:k < s.size) (hc:byt s.data.toList k=42) (hf:Ay e.inner.pcs=false):Calls Tryz.prog 117 #[.pointer (some ⟨p,0,none⟩)] w fun x w'=>AU lo p mp s w x w' (Am s.data.toList e):=by
 obtain ⟨own,sv,mv,bv,pv,ov,rows,h⟩:=h;obtain ⟨sa,sc,rfl,e2,e3⟩:=h.sg;obtain ⟨g,rfl,hg,hgl,hcell⟩:=e3 (by omega);have kc:=hcell k hl;rw [hc] at kc;have hll:e.pos < s.data.toList.length:=(by rw [hk];simpa using hl);have HS0:=Bo s.data.toList e 42 hll (by rw [hk];exact hc);have k1:w.cell? ⟨p,1,none⟩=some (.slice (some ⟨g,0,none⟩) s.size sc):=(h.blk.cell 1).trans rfl;have k2:w.cell? ⟨p,2,none⟩=some (.int .i64 (k:Int)):=(by rw [←hk];exact (h.blk.cell 2).trans rfl);have i1:(k:Int) < (s.size:Int):=(by omega);obtain ⟨k1n,hk1⟩:∃ j,j=k+1:=⟨_,rfl⟩;have W1:IntKind.i64.wrap ((k:Int)+1)=(k1n:Int):=(by rw [Adm _ (by omega)];omega);have f2:=h.blk.frozen 2;have hplt:=h.blk.lt;have hgp:g≠p:=(fun x=>hg (x▸h.pown));have hpg:p≠g:=(fun x=>hgp x.symm);have hE:=h.goto k1n (h.ok.goto (by omega) (by simp;omega));have hB:=(Adk lo w).setCell (p:=⟨p,2,none⟩) h.lop (.int .i64 (k1n:Int));have HOK:=Ac8 (fun e' he=>AR s.data.toList e e' h.ok hll he);have HLV:=Ac8 h.ok;obtain ⟨e1,he1⟩:∃ e1:ES,e1={ e with pos:=k1n }:=⟨_,rfl⟩;rw [←he1] at hE;have HE:=Ac8 hE;have HB:=Ac8 hB;have HE1:=Ac8 he1;have HK1:=Ac8 hk1;have HK:=Ac8 hk;have HC:=Ac8 hc;have HX:Hid (CG lo p mp (w.setCell ⟨p,2,none⟩ (.int .i64 (k1n:Int))) s e1):=Ac8 ⟨_,_,_,_,_,_,_,hE⟩;have HLL:=Ac8 hll;clear e3 hcell hgl hg hE hB he1 hk1 h hc hll hk;have hR:Am s.data.toList e=AC s.data.toList e1 k:=by rw [HS0,HE1.out,HK1.out,←HK.out];rfl
 have hf1:Ay e1.inner.pcs=false:=by rw [HE1.out];exact hf
 have hp1:e1.pos=k+1:=by rw [HE1.out];exact HK1.out
 have hrep:repAt true s.data.toList k=.some 0 (-1) 0 (k+1):=Tc (by rw [←HK.out];exact HLL.out) HC.out;have hst:AC s.data.toList e1 k=.ok (e1.at e1.st (e1.inner.pcs.dropLast++[.rep (e1.inner.pcs.getLastD .empty) 0 (-1)])):=by unfold AC;rw [hf1,hrep];show Except.ok (e1.at (e1.st.to (k+1)) _)=_;rw [←hp1];rfl
 have hcall:=SV lo p mp _ s e1 k HX.out hs hp1 hf1 HC.out (HOK.out _ (hR.trans hst));have HC0:=Ac8 hcall;have HR:=Ac8 hR;clear HS0 hR hcall;(obtain ⟨RR,hRR⟩:∃ RR,RR=Am s.data.toList e:=⟨_,rfl⟩);rw [←hRR];have HRR:=Ac8 hRR;clear hRR;clear hf hf1 hp1 hrep hst;go_enter Tryz.func117,Tryz.ntmps117;go_wp2_with fail
 refine HC0.out.mono ?_;intro x w2 hx2;rcases Ba hx2 with ⟨q,hq,hb3,rfl⟩ | ⟨e',hq,hb3,rfl,hx4⟩
 ·have HQ:=Ac8 (HRR.out.trans (HR.out.trans hq))
  clear hx2 hq;go_wp2_with fail
  go_ret2
  exact A8 HQ.out (HB.out.trans hb3)
 ·have HQ:=Ac8 (HRR.out.trans (HR.out.trans hq))
  have HX4:=Ac8 hx4;clear hx2 hq hx4;go_wp2_with fail
  go_ret2
  exact Aw HQ.out (HB.out.trans hb3) HX4.out
theorem Tm (lo p mp:Nat) (w:World) (s:ByteArray) (e:ES) (k:Nat) (h:CG lo p mp w s e) (hs:s.size≤250) (hk:e.pos=k) (hl:k < s.size) (hc:byt s.data.toList k=43) (hf:Ay e.inner.pcs=false):Calls Tryz.prog 117 #[.pointer (some ⟨p,0,none⟩)] w fun x w'=>AU lo p mp s w x w' (Am s.data.toList e):=by
 obtain ⟨own,sv,mv,bv,pv,ov,rows,h⟩:=h;obtain ⟨sa,sc,rfl,e2,e3⟩:=h.sg;obtain ⟨g,rfl,hg,hgl,hcell⟩:=e3 (by omega);have kc:=hcell k hl;rw [hc] at kc;have hll:e.pos < s.data.toList.length:=(by rw [hk];simpa using hl);have HS0:=Bo s.data.toList e 43 hll (by rw [hk];exact hc);have k1:w.cell? ⟨p,1,none⟩=some (.slice (some ⟨g,0,none⟩) s.size sc):=(h.blk.cell 1).trans rfl;have k2:w.cell? ⟨p,2,none⟩=some (.int .i64 (k:Int)):=(by rw [←hk];exact (h.blk.cell 2).trans rfl);have i1:(k:Int) < (s.size:Int):=(by omega);obtain ⟨k1n,hk1⟩:∃ j,j=k+1:=⟨_,rfl⟩;have W1:IntKind.i64.wrap ((k:Int)+1)=(k1n:Int):=(by rw [Adm _ (by omega)];omega);have f2:=h.blk.frozen 2;have hplt:=h.blk.lt;have hgp:g≠p:=(fun x=>hg (x▸h.pown));have hpg:p≠g:=(fun x=>hgp x.symm);have hE:=h.goto k1n (h.ok.goto (by omega) (by simp;omega));have hB:=(Adk lo w).setCell (p:=⟨p,2,none⟩) h.lop (.int .i64 (k1n:Int));have HOK:=Ac8 (fun e' he=>AR s.data.toList e e' h.ok hll he);have HLV:=Ac8 h.ok;obtain ⟨e1,he1⟩:∃ e1:ES,e1={ e with pos:=k1n }:=⟨_,rfl⟩;rw [←he1] at hE;have HE:=Ac8 hE;have HB:=Ac8 hB;have HE1:=Ac8 he1;have HK1:=Ac8 hk1;have HK:=Ac8 hk;have HC:=Ac8 hc;have HX:Hid (CG lo p mp (w.setCell ⟨p,2,none⟩ (.int .i64 (k1n:Int))) s e1):=Ac8 ⟨_,_,_,_,_,_,_,hE⟩;have HLL:=Ac8 hll;clear e3 hcell hgl hg hE hB he1 hk1 h hc hll hk;have hR:Am s.data.toList e=AC s.data.toList e1 k:=by rw [HS0,HE1.out,HK1.out,←HK.out];rfl
 have hf1:Ay e1.inner.pcs=false:=by rw [HE1.out];exact hf
 have hp1:e1.pos=k+1:=by rw [HE1.out];exact HK1.out
 have hrep:repAt true s.data.toList k=.some 1 (-1) 0 (k+1):=Td (by rw [←HK.out];exact HLL.out) HC.out;have hst:AC s.data.toList e1 k=.ok (e1.at e1.st (e1.inner.pcs.dropLast++[.rep (e1.inner.pcs.getLastD .empty) 1 (-1)])):=by unfold AC;rw [hf1,hrep];show Except.ok (e1.at (e1.st.to (k+1)) _)=_;rw [←hp1];rfl
 have hcall:=SW lo p mp _ s e1 k HX.out hs hp1 hf1 HC.out (HOK.out _ (hR.trans hst));have HC0:=Ac8 hcall;have HR:=Ac8 hR;clear HS0 hR hcall;(obtain ⟨RR,hRR⟩:∃ RR,RR=Am s.data.toList e:=⟨_,rfl⟩);rw [←hRR];have HRR:=Ac8 hRR;clear hRR;clear hf hf1 hp1 hrep hst;go_enter Tryz.func117,Tryz.ntmps117;go_wp2_with fail
 refine HC0.out.mono ?_;intro x w2 hx2;rcases Ba hx2 with ⟨q,hq,hb3,rfl⟩ | ⟨e',hq,hb3,rfl,hx4⟩
 ·have HQ:=Ac8 (HRR.out.trans (HR.out.trans hq))
  clear hx2 hq;go_wp2_with fail
  go_ret2
  exact A8 HQ.out (HB.out.trans hb3)
 ·have HQ:=Ac8 (HRR.out.trans (HR.out.trans hq))
  have HX4:=Ac8 hx4;clear hx2 hq hx4;go_wp2_with fail
  go_ret2
  exact Aw HQ.out (HB.out.trans hb3) HX4.out
theorem Tn (lo p mp:Nat) (w:World) (s:ByteArray) (e:ES) (k:Nat) (h:CG lo p mp w s e) (hs:s.size≤250) (hk:e.pos=k) (hl:k < s.size) (hc:byt s.data.toList k=63) (hf:Ay e.inner.pcs=false):Calls Tryz.prog 117 #[.pointer (some ⟨p,0,none⟩)] w fun x w'=>AU lo p mp s w x w' (Am s.data.toList e):=by
 obtain ⟨own,sv,mv,bv,pv,ov,rows,h⟩:=h;obtain ⟨sa,sc,rfl,e2,e3⟩:=h.sg;obtain ⟨g,rfl,hg,hgl,hcell⟩:=e3 (by omega);have kc:=hcell k hl;rw [hc] at kc;have hll:e.pos < s.data.toList.length:=(by rw [hk];simpa using hl);have HS0:=Bo s.data.toList e 63 hll (by rw [hk];exact hc);have k1:w.cell? ⟨p,1,none⟩=some (.slice (some ⟨g,0,none⟩) s.size sc):=(h.blk.cell 1).trans rfl;have k2:w.cell? ⟨p,2,none⟩=some (.int .i64 (k:Int)):=(by rw [←hk];exact (h.blk.cell 2).trans rfl);have i1:(k:Int) < (s.size:Int):=(by omega);obtain ⟨k1n,hk1⟩:∃ j,j=k+1:=⟨_,rfl⟩;have W1:IntKind.i64.wrap ((k:Int)+1)=(k1n:Int):=(by rw [Adm _ (by omega)];omega);have f2:=h.blk.frozen 2;have hplt:=h.blk.lt;have hgp:g≠p:=(fun x=>hg (x▸h.pown));have hpg:p≠g:=(fun x=>hgp x.symm);have hE:=h.goto k1n (h.ok.goto (by omega) (by simp;omega));have hB:=(Adk lo w).setCell (p:=⟨p,2,none⟩) h.lop (.int .i64 (k1n:Int));have HOK:=Ac8 (fun e' he=>AR s.data.toList e e' h.ok hll he);have HLV:=Ac8 h.ok;obtain ⟨e1,he1⟩:∃ e1:ES,e1={ e with pos:=k1n }:=⟨_,rfl⟩;rw [←he1] at hE;have HE:=Ac8 hE;have HB:=Ac8 hB;have HE1:=Ac8 he1;have HK1:=Ac8 hk1;have HK:=Ac8 hk;have HC:=Ac8 hc;have HX:Hid (CG lo p mp (w.setCell ⟨p,2,none⟩ (.int .i64 (k1n:Int))) s e1):=Ac8 ⟨_,_,_,_,_,_,_,hE⟩;have HLL:=Ac8 hll;clear e3 hcell hgl hg hE hB he1 hk1 h hc hll hk;have hR:Am s.data.toList e=AC s.data.toList e1 k:=by rw [HS0,HE1.out,HK1.out,←HK.out];rfl
 have hf1:Ay e1.inner.pcs=false:=by rw [HE1.out];exact hf
 have hp1:e1.pos=k+1:=by rw [HE1.out];exact HK1.out
 have hrep:repAt true s.data.toList k=.some 0 1 0 (k+1):=VK (by rw [←HK.out];exact HLL.out) HC.out;have hst:AC s.data.toList e1 k=.ok (e1.at e1.st (e1.inner.pcs.dropLast++[.rep (e1.inner.pcs.getLastD .empty) 0 1])):=by unfold AC;rw [hf1,hrep];show Except.ok (e1.at (e1.st.to (k+1)) _)=_;rw [←hp1];rfl
 have hcall:=VH lo p mp _ s e1 k HX.out hs hp1 hf1 HC.out (HOK.out _ (hR.trans hst));have HC0:=Ac8 hcall;have HR:=Ac8 hR;clear HS0 hR hcall;(obtain ⟨RR,hRR⟩:∃ RR,RR=Am s.data.toList e:=⟨_,rfl⟩);rw [←hRR];have HRR:=Ac8 hRR;clear hRR;clear hf hf1 hp1 hrep hst;go_enter Tryz.func117,Tryz.ntmps117;go_wp2_with fail
 refine HC0.out.mono ?_;intro x w2 hx2;rcases Ba hx2 with ⟨q,hq,hb3,rfl⟩ | ⟨e',hq,hb3,rfl,hx4⟩
 ·have HQ:=Ac8 (HRR.out.trans (HR.out.trans hq))
  clear hx2 hq;go_wp2_with fail
  go_ret2
  exact A8 HQ.out (HB.out.trans hb3)
 ·have HQ:=Ac8 (HRR.out.trans (HR.out.trans hq))
  have HX4:=Ac8 hx4;clear hx2 hq hx4;go_wp2_with fail
  go_ret2
  exact Aw HQ.out (HB.out.trans hb3) HX4.out
theorem PY (lo p mp:Nat) (w:World) (s:ByteArray) (e:ES) (k:Nat) (h:CG lo p mp w s e) (hs:s.size≤250) (hk:e.pos=k) (hl:k < s.size) (hc:byt s.data.toList k=123) (hf:Ay e.inner.pcs=false):Calls Tryz.prog 117 #[.pointer (some ⟨p,0,none⟩)] w fun x w'=>AU lo p mp s w x w' (Am s.data.toList e):=by
 obtain ⟨own,sv,mv,bv,pv,ov,rows,h⟩:=h;obtain ⟨sa,sc,rfl,e2,e3⟩:=h.sg;obtain ⟨g,rfl,hg,hgl,hcell⟩:=e3 (by omega);have kc:=hcell k hl;rw [hc] at kc;have hll:e.pos < s.data.toList.length:=(by rw [hk];simpa using hl);have HS0:=Bo s.data.toList e 123 hll (by rw [hk];exact hc);have k1:w.cell? ⟨p,1,none⟩=some (.slice (some ⟨g,0,none⟩) s.size sc):=(h.blk.cell 1).trans rfl;have k2:w.cell? ⟨p,2,none⟩=some (.int .i64 (k:Int)):=(by rw [←hk];exact (h.blk.cell 2).trans rfl);have i1:(k:Int) < (s.size:Int):=(by omega);obtain ⟨k1n,hk1⟩:∃ j,j=k+1:=⟨_,rfl⟩;have W1:IntKind.i64.wrap ((k:Int)+1)=(k1n:Int):=(by rw [Adm _ (by omega)];omega);have f2:=h.blk.frozen 2;have hplt:=h.blk.lt;have hgp:g≠p:=(fun x=>hg (x▸h.pown));have hpg:p≠g:=(fun x=>hgp x.symm);have hE:=h.goto k1n (h.ok.goto (by omega) (by simp;omega));have hB:=(Adk lo w).setCell (p:=⟨p,2,none⟩) h.lop (.int .i64 (k1n:Int));have HOK:=Ac8 (fun e' he=>AR s.data.toList e e' h.ok hll he);have HLV:=Ac8 h.ok;obtain ⟨e1,he1⟩:∃ e1:ES,e1={ e with pos:=k1n }:=⟨_,rfl⟩;rw [←he1] at hE;have HE:=Ac8 hE;have HB:=Ac8 hB;have HE1:=Ac8 he1;have HK1:=Ac8 hk1;have HK:=Ac8 hk;have HC:=Ac8 hc;have HX:Hid (CG lo p mp (w.setCell ⟨p,2,none⟩ (.int .i64 (k1n:Int))) s e1):=Ac8 ⟨_,_,_,_,_,_,_,hE⟩;have HLL:=Ac8 hll;clear e3 hcell hgl hg hE hB he1 hk1 h hc hll hk;have hR:Am s.data.toList e=AC s.data.toList e1 k:=by rw [HS0,HE1.out,HK1.out,←HK.out];rfl
 have hf1:Ay e1.inner.pcs=false:=by rw [HE1.out];exact hf
 have hp1:e1.pos=k+1:=by rw [HE1.out];exact HK1.out
 have hst:∀ m n j,repAt true s.data.toList k=.some m n 0 j→AC s.data.toList e1 k=.ok (e1.at (e1.st.to j) (e1.inner.pcs.dropLast++[.rep (e1.inner.pcs.getLastD .empty) m n])):=fun m n j hrep=>by unfold AC;rw [hf1,hrep];rfl
 have hcall:=PT lo p mp _ s e1 k HX.out hs hp1 hf1 HC.out (fun m n j hrep=>HE.out.ok.goto (by rw [hp1];exact (F2 _ _ _ _ _ _ _ hrep).1) (F2 _ _ _ _ _ _ _ hrep).2) (fun m n j hrep=>HOK.out _ (hR.trans (hst m n j hrep)));have HC0:=Ac8 hcall;have HR:=Ac8 hR;clear HS0 hR hcall;(obtain ⟨RR,hRR⟩:∃ RR,RR=Am s.data.toList e:=⟨_,rfl⟩);rw [←hRR];have HRR:=Ac8 hRR;clear hRR;clear hf hf1 hp1 hst;go_enter Tryz.func117,Tryz.ntmps117;go_wp2_with fail
 refine HC0.out.mono ?_;intro x w2 hx2;rcases Ba hx2 with ⟨q,hq,hb3,rfl⟩ | ⟨e',hq,hb3,rfl,hx4⟩
 ·have HQ:=Ac8 (HRR.out.trans (HR.out.trans hq))
  clear hx2 hq;go_wp2_with fail
  go_ret2
  exact A8 HQ.out (HB.out.trans hb3)
 ·have HQ:=Ac8 (HRR.out.trans (HR.out.trans hq))
  have HX4:=Ac8 hx4;clear hx2 hq hx4;go_wp2_with fail
  go_ret2
  exact Aw HQ.out (HB.out.trans hb3) HX4.out
theorem VP (lo p mp:Nat) (w:World) (s:ByteArray) (e:ES) (k:Nat) (h:CG lo p mp w s e) (hs:s.size≤250) (hk:e.pos=k) (hl:k < s.size) (hc:byt s.data.toList k=91) (hG:Gl w) (hlo3:glN≤lo):Calls Tryz.prog 117 #[.pointer (some ⟨p,0,none⟩)] w fun x w'=>AU lo p mp s w x w' (Am s.data.toList e):=by
 obtain ⟨own,sv,mv,bv,pv,ov,rows,h⟩:=h;obtain ⟨sa,sc,rfl,e2,e3⟩:=h.sg;obtain ⟨g,rfl,hg,hgl,hcell⟩:=e3 (by omega);have kc:=hcell k hl;rw [hc] at kc;have hll:e.pos < s.data.toList.length:=(by rw [hk];simpa using hl);have HS0:=Bo s.data.toList e 91 hll (by rw [hk];exact hc);have k1:w.cell? ⟨p,1,none⟩=some (.slice (some ⟨g,0,none⟩) s.size sc):=(h.blk.cell 1).trans rfl;have k2:w.cell? ⟨p,2,none⟩=some (.int .i64 (k:Int)):=(by rw [←hk];exact (h.blk.cell 2).trans rfl);have i1:(k:Int) < (s.size:Int):=(by omega);obtain ⟨k1n,hk1⟩:∃ j,j=k+1:=⟨_,rfl⟩;have W1:IntKind.i64.wrap ((k:Int)+1)=(k1n:Int):=(by rw [Adm _ (by omega)];omega);have f2:=h.blk.frozen 2;have hplt:=h.blk.lt;have hgp:g≠p:=(fun x=>hg (x▸h.pown));have hpg:p≠g:=(fun x=>hgp x.symm);have hE:=h.goto k1n (h.ok.goto (by omega) (by simp;omega));have hB:=(Adk lo w).setCell (p:=⟨p,2,none⟩) h.lop (.int .i64 (k1n:Int));have HOK:=Ac8 (fun e' he=>AR s.data.toList e e' h.ok hll he);have HLV:=Ac8 h.ok;obtain ⟨e1,he1⟩:∃ e1:ES,e1={ e with pos:=k1n }:=⟨_,rfl⟩;rw [←he1] at hE;have HE:=Ac8 hE;have HB:=Ac8 hB;have HE1:=Ac8 he1;have HK1:=Ac8 hk1;have HK:=Ac8 hk;have HC:=Ac8 hc;have HX:Hid (CG lo p mp (w.setCell ⟨p,2,none⟩ (.int .i64 (k1n:Int))) s e1):=Ac8 ⟨_,_,_,_,_,_,_,hE⟩;have HLL:=Ac8 hll;clear e3 hcell hgl hg hE hB he1 hk1 h hc hll hk;obtain ⟨t,j,er,hprs,hj⟩:=J4 s.data.toList k1n (by rw [HK1.out];have:=HLL.out;have:=HK.out;omega);have hkk:((e.pos:Int)+1)=(k1n:Int):=by rw [HK1.out,HK.out];omega
 have hp1:e1.pos=k1n:=by rw [HE1.out]
 have hR:Am s.data.toList e=(if er=0 then .ok (({ e1 with pos:=j }:ES).at ({ e1 with pos:=j }:ES).st (e1.inner.pcs++[.one t])) else .error (er,j)):=by
  rw [HS0];unfold Iv;rw [if_neg (by decide),if_neg (by decide),if_neg (by decide),if_neg (by decide),if_neg (by decide),if_neg (by decide),if_pos rfl,hkk,hprs,HE1.out];simp only [Int.toNat_natCast];rfl
 have hcall:=MD lo p mp _ s e1 HX.out (hG.below HB.out hlo3) hs t j er (by rw [hp1];exact hprs) (fun h0=>HE.out.ok.goto (by rw [hp1];exact Adj (hj h0).1) (hj h0).2) (fun h0=>HOK.out _ (hR.trans (if_pos h0)));have HC0:=Ac8 hcall;have HR:=Ac8 hR;clear HS0 hR hcall;(obtain ⟨RR,hRR⟩:∃ RR,RR=Am s.data.toList e:=⟨_,rfl⟩);rw [←hRR];have HRR:=Ac8 hRR;clear hRR;clear hp1 hkk hj hprs hG;go_enter Tryz.func117,Tryz.ntmps117;go_wp2_with fail
 refine HC0.out.mono ?_;intro x w2 hx2;rcases Ba hx2 with ⟨q,hq,hb3,rfl⟩ | ⟨e',hq,hb3,rfl,hx4⟩
 ·have HQ:=Ac8 (HRR.out.trans (HR.out.trans hq))
  clear hx2 hq;go_wp2_with fail
  go_ret2
  exact A8 HQ.out (HB.out.trans hb3)
 ·have HQ:=Ac8 (HRR.out.trans (HR.out.trans hq))
  have HX4:=Ac8 hx4;clear hx2 hq hx4;go_wp2_with fail
  go_ret2
  exact Aw HQ.out (HB.out.trans hb3) HX4.out
theorem VQ (lo p mp:Nat) (w:World) (s:ByteArray) (e:ES) (k:Nat) (h:CG lo p mp w s e) (hs:s.size≤250) (hk:e.pos=k) (hl:k < s.size) (hc:byt s.data.toList k=92):Calls Tryz.prog 117 #[.pointer (some ⟨p,0,none⟩)] w fun x w'=>AU lo p mp s w x w' (Am s.data.toList e):=by
 obtain ⟨own,sv,mv,bv,pv,ov,rows,h⟩:=h;obtain ⟨sa,sc,rfl,e2,e3⟩:=h.sg;obtain ⟨g,rfl,hg,hgl,hcell⟩:=e3 (by omega);have kc:=hcell k hl;rw [hc] at kc;have hll:e.pos < s.data.toList.length:=(by rw [hk];simpa using hl);have HS0:=Bo s.data.toList e 92 hll (by rw [hk];exact hc);have k1:w.cell? ⟨p,1,none⟩=some (.slice (some ⟨g,0,none⟩) s.size sc):=(h.blk.cell 1).trans rfl;have k2:w.cell? ⟨p,2,none⟩=some (.int .i64 (k:Int)):=(by rw [←hk];exact (h.blk.cell 2).trans rfl);have i1:(k:Int) < (s.size:Int):=(by omega);obtain ⟨k1n,hk1⟩:∃ j,j=k+1:=⟨_,rfl⟩;have W1:IntKind.i64.wrap ((k:Int)+1)=(k1n:Int):=(by rw [Adm _ (by omega)];omega);have f2:=h.blk.frozen 2;have hplt:=h.blk.lt;have hgp:g≠p:=(fun x=>hg (x▸h.pown));have hpg:p≠g:=(fun x=>hgp x.symm);have hE:=h.goto k1n (h.ok.goto (by omega) (by simp;omega));have hB:=(Adk lo w).setCell (p:=⟨p,2,none⟩) h.lop (.int .i64 (k1n:Int));have HOK:=Ac8 (fun e' he=>AR s.data.toList e e' h.ok hll he);have HLV:=Ac8 h.ok;obtain ⟨e1,he1⟩:∃ e1:ES,e1={ e with pos:=k1n }:=⟨_,rfl⟩;rw [←he1] at hE;have HE:=Ac8 hE;have HB:=Ac8 hB;have HE1:=Ac8 he1;have HK1:=Ac8 hk1;have HK:=Ac8 hk;have HC:=Ac8 hc;have HX:Hid (CG lo p mp (w.setCell ⟨p,2,none⟩ (.int .i64 (k1n:Int))) s e1):=Ac8 ⟨_,_,_,_,_,_,_,hE⟩;have HLL:=Ac8 hll;clear e3 hcell hgl hg hE hB he1 hk1 h hc hll hk;have hR:Am s.data.toList e=B8 s.data.toList e1 k:=by rw [HS0,HE1.out,HK1.out,←HK.out];rfl
 have hp1:e1.pos=k+1:=by rw [HE1.out];exact HK1.out
 have hmk:e1.marks.length≤k:=by rw [HE1.out];show e.marks.length≤k;rw [←HK.out];exact HLV.out.marks
 have hpk:e1.inner.pcs.length≤k:=by rw [HE1.out];show e.inner.pcs.length≤k;rw [←HK.out];exact HLV.out.inner.2.2.1
 have hcall:Calls Tryz.prog 136 #[.pointer (some ⟨p,0,none⟩),.int .i64 (k:Int)] (w.setCell ⟨p,2,none⟩ (.int .i64 (k1n:Int))) fun x w'=>AU lo p mp s (w.setCell ⟨p,2,none⟩ (.int .i64 (k1n:Int))) x w' (B8 s.data.toList e1 k):=by
  by_cases hlt:k+1 < s.size
  ·by_cases hd:49≤byt s.data.toList (k+1)∧byt s.data.toList (k+1)≤57
   ·cases hcc:e1.closed.contains (((byt s.data.toList (k+1):Nat):Int) - 48) with
    | true=>exact SZ lo p mp _ s e1 k HX.out hs hp1 hlt HC.out _ rfl hd hcc hmk hpk
    | false=>exact VJ lo p mp _ s e1 k HX.out hs hp1 hlt _ rfl hd hcc
   ·cases hn:C9 (byt s.data.toList (k+1)) with
    | none=>exact Ta lo p mp _ s e1 k HX.out hs hp1 hlt _ rfl hd hn
    | some q=>
     obtain ⟨t,m⟩:=q;cases m with
     | true=>exact Tb lo p mp _ s e1 k HX.out hs hp1 hlt _ rfl hd t hn HC.out hmk hpk
     | false=>exact PW lo p mp _ s e1 k HX.out hs hp1 hlt _ rfl hd t hn hpk
  ·exact SY lo p mp _ s e1 k HX.out hp1 (by omega)
 have HC0:=Ac8 hcall;have HR:=Ac8 hR;clear HS0 hR hcall;(obtain ⟨RR,hRR⟩:∃ RR,RR=Am s.data.toList e:=⟨_,rfl⟩);rw [←hRR];have HRR:=Ac8 hRR;clear hRR;clear hp1 hmk hpk;go_enter Tryz.func117,Tryz.ntmps117;go_wp2_with fail
 refine HC0.out.mono ?_;intro x w2 hx2;rcases Ba hx2 with ⟨q,hq,hb3,rfl⟩ | ⟨e',hq,hb3,rfl,hx4⟩
 ·have HQ:=Ac8 (HRR.out.trans (HR.out.trans hq))
  clear hx2 hq;go_wp2_with fail
  go_ret2
  exact A8 HQ.out (HB.out.trans hb3)
 ·have HQ:=Ac8 (HRR.out.trans (HR.out.trans hq))
  have HX4:=Ac8 hx4;clear hx2 hq hx4;go_wp2_with fail
  go_ret2
  exact Aw HQ.out (HB.out.trans hb3) HX4.out
theorem VR (lo p mp:Nat) (w:World) (s:ByteArray) (e:ES) (k:Nat) (h:CG lo p mp w s e) (hs:s.size≤250) (hk:e.pos=k) (hl:k < s.size) (hc:byt s.data.toList k=46):Calls Tryz.prog 117 #[.pointer (some ⟨p,0,none⟩)] w fun x w'=>AU lo p mp s w x w' (Am s.data.toList e):=by
 obtain ⟨own,sv,mv,bv,pv,ov,rows,h⟩:=h;obtain ⟨sa,sc,rfl,e2,e3⟩:=h.sg;obtain ⟨g,rfl,hg,hgl,hcell⟩:=e3 (by omega);have kc:=hcell k hl;rw [hc] at kc;have hll:e.pos < s.data.toList.length:=(by rw [hk];simpa using hl);have HS0:=Bo s.data.toList e 46 hll (by rw [hk];exact hc);have k1:w.cell? ⟨p,1,none⟩=some (.slice (some ⟨g,0,none⟩) s.size sc):=(h.blk.cell 1).trans rfl;have k2:w.cell? ⟨p,2,none⟩=some (.int .i64 (k:Int)):=(by rw [←hk];exact (h.blk.cell 2).trans rfl);have i1:(k:Int) < (s.size:Int):=(by omega);obtain ⟨k1n,hk1⟩:∃ j,j=k+1:=⟨_,rfl⟩;have W1:IntKind.i64.wrap ((k:Int)+1)=(k1n:Int):=(by rw [Adm _ (by omega)];omega);have f2:=h.blk.frozen 2;have hplt:=h.blk.lt;have hgp:g≠p:=(fun x=>hg (x▸h.pown));have hpg:p≠g:=(fun x=>hgp x.symm);have hE:=h.goto k1n (h.ok.goto (by omega) (by simp;omega));have hB:=(Adk lo w).setCell (p:=⟨p,2,none⟩) h.lop (.int .i64 (k1n:Int));have HOK:=Ac8 (fun e' he=>AR s.data.toList e e' h.ok hll he);have HLV:=Ac8 h.ok;obtain ⟨e1,he1⟩:∃ e1:ES,e1={ e with pos:=k1n }:=⟨_,rfl⟩;rw [←he1] at hE;have HE:=Ac8 hE;have HB:=Ac8 hB;have HE1:=Ac8 he1;have HK1:=Ac8 hk1;have HK:=Ac8 hk;have HC:=Ac8 hc;have HX:Hid (CG lo p mp (w.setCell ⟨p,2,none⟩ (.int .i64 (k1n:Int))) s e1):=Ac8 ⟨_,_,_,_,_,_,_,hE⟩;have HLL:=Ac8 hll;clear e3 hcell hgl hg hE hB he1 hk1 h hc hll hk;have hR:Am s.data.toList e=.ok (e1.at e1.st (e1.inner.pcs++[.one (Ab 0 255)])):=by rw [HS0,HE1.out,HK1.out,←HK.out];rfl
 have HR:=Ac8 hR;clear HS0 hR;have hn:=fun w=>FR oz w
 rw [Vn,Al,Al,Al,Al] at hn;have HN:=Ac8 hn;clear hn;go_enter Tryz.func117,Tryz.ntmps117;go_wp2_with fail
 obtain ⟨V,hV⟩:∃ V,V=w.setCell ⟨p,2,none⟩ (.int .i64 (k1n:Int)):=⟨_,rfl⟩;rw [←hV];have hEV:=HE.out;have hBV:=HB.out;rw [←hV] at hEV hBV;have hadd:=fun (w':World) (hb:Below V.heap.size V w')=>Ez (hEV.below hb) (.one (Ab 0 255)) (.iface 111 (.agg #[.int .u64 (ow (Ab 0 255) 0),.int .u64 (ow (Ab 0 255) 1),.int .u64 (ow (Ab 0 255) 2),.int .u64 (ow (Ab 0 255) 3)])) ⟨1,rfl⟩ rfl hs (HOK.out _ HR.out)
 have HAdd:=Ac8 hadd;have HBV:=Ac8 hBV;have HLOV:=Ac8 (Adg hEV.lop (Adj hEV.blk.lt));clear hadd hEV hBV hV HE HB HX k1 k2 kc f2;go_upto_region 26 with fail
 go_region_law (first
  | (refine Bq rfl _ _ _ rfl 137 _ rfl (by rfl) (enters_of Tryz.func137 (by kernel_rfl) rfl) (HN.out _) ?_;rintro x w2 ⟨rfl,hb2⟩;refine ⟨_,rfl,?_⟩;have HB2:Hid (Below V.heap.size V w2):=Ac8 (by first | exact hb2 | exact (Below.drew (Adk _ _)).trans hb2);clear hb2)
  | (refine Bq rfl _ _ _ rfl 133 _ rfl (by rfl) (enters_of Tryz.func133 (by kernel_rfl) rfl) (HAdd.out _ HB2.out) ?_;rintro x w4 ⟨rfl,hx4,hb4⟩;refine ⟨_,rfl,?_⟩;have HX4:=Ac8 hx4;have HB4:Hid (Below lo V w4):=Ac8 ((HB2.out.mono HLOV.out).trans hb4);clear hx4 hb4))
 all_goals go_wp2_with fail
 all_goals go_ret2
 all_goals exact Aw HR.out (HBV.out.trans HB4.out) HX4.out
theorem PZ (lo p mp:Nat) (w:World) (s:ByteArray) (e:ES) (c k:Nat) (h:CG lo p mp w s e) (hs:s.size≤250) (hk:e.pos=k) (hl:k < s.size) (hc:byt s.data.toList k=c) (c1:c≠124) (c2:c≠40) (c3:c≠41) (c4:c≠94) (c5:c≠36) (c6:c≠42) (c7:c≠43) (c8:c≠63) (c9:c≠123) (c10:c≠91) (c11:c≠46) (c12:c≠92):Calls Tryz.prog 117 #[.pointer (some ⟨p,0,none⟩)] w fun x w'=>AU lo p mp s w x w' (Am s.data.toList e):=by
 have hc256:c < 256:=by rw [←hc];exact Gw _ _
 obtain ⟨own,sv,mv,bv,pv,ov,rows,h⟩:=h;obtain ⟨sa,sc,rfl,e2,e3⟩:=h.sg;obtain ⟨g,rfl,hg,hgl,hcell⟩:=e3 (by omega);have kc:=hcell k hl;rw [hc] at kc;have hll:e.pos < s.data.toList.length:=(by rw [hk];simpa using hl);have HS0:=Bo s.data.toList e c hll (by rw [hk];exact hc);have k1:w.cell? ⟨p,1,none⟩=some (.slice (some ⟨g,0,none⟩) s.size sc):=(h.blk.cell 1).trans rfl;have k2:w.cell? ⟨p,2,none⟩=some (.int .i64 (k:Int)):=(by rw [←hk];exact (h.blk.cell 2).trans rfl);have i1:(k:Int) < (s.size:Int):=(by omega);obtain ⟨k1n,hk1⟩:∃ j,j=k+1:=⟨_,rfl⟩;have W1:IntKind.i64.wrap ((k:Int)+1)=(k1n:Int):=(by rw [Adm _ (by omega)];omega);have f2:=h.blk.frozen 2;have hplt:=h.blk.lt;have hgp:g≠p:=(fun x=>hg (x▸h.pown));have hpg:p≠g:=(fun x=>hgp x.symm);have hE:=h.goto k1n (h.ok.goto (by omega) (by simp;omega));have hB:=(Adk lo w).setCell (p:=⟨p,2,none⟩) h.lop (.int .i64 (k1n:Int));have HOK:=Ac8 (fun e' he=>AR s.data.toList e e' h.ok hll he);have HLV:=Ac8 h.ok;obtain ⟨e1,he1⟩:∃ e1:ES,e1={ e with pos:=k1n }:=⟨_,rfl⟩;rw [←he1] at hE;have HE:=Ac8 hE;have HB:=Ac8 hB;have HE1:=Ac8 he1;have HK1:=Ac8 hk1;have HK:=Ac8 hk;have HC:=Ac8 hc;have HX:Hid (CG lo p mp (w.setCell ⟨p,2,none⟩ (.int .i64 (k1n:Int))) s e1):=Ac8 ⟨_,_,_,_,_,_,_,hE⟩;have HLL:=Ac8 hll;clear e3 hcell hgl hg hE hB he1 hk1 h hc hll hk;have hR:Am s.data.toList e=.ok (e1.at e1.st (e1.inner.pcs++[.one (Ab (c:Int) (c:Int))])):=by
  rw [HS0];unfold Iv;rw [if_neg c1,if_neg c2,if_neg c3,if_neg c4,if_neg c5,if_neg (by omega),if_neg c10,if_neg c11,if_neg c12,HE1.out,HK1.out,←HK.out];rfl
 have HR:=Ac8 hR;have hof:=fun (W:World)=>YO (c:Int) (by omega) (by omega) W
 rw [DE] at hof;have HOF:=Ac8 hof;clear HS0 hR hof;have W2:IntKind.u8.wrap (c:Int)=(c:Int):=IntWalk.u8_in _ (by omega);have d1:((c:Int) == 124)=false:=by rw [beq_eq_false_iff_ne];omega
 have d2:((c:Int) == 40)=false:=by rw [beq_eq_false_iff_ne];omega
 have d3:((c:Int) == 41)=false:=by rw [beq_eq_false_iff_ne];omega
 have d4:((c:Int) == 94)=false:=by rw [beq_eq_false_iff_ne];omega
 have d5:((c:Int) == 36)=false:=by rw [beq_eq_false_iff_ne];omega
 have d6:((c:Int) == 42)=false:=by rw [beq_eq_false_iff_ne];omega
 have d7:((c:Int) == 43)=false:=by rw [beq_eq_false_iff_ne];omega
 have d8:((c:Int) == 63)=false:=by rw [beq_eq_false_iff_ne];omega
 have d9:((c:Int) == 123)=false:=by rw [beq_eq_false_iff_ne];omega
 have d10:((c:Int) == 91)=false:=by rw [beq_eq_false_iff_ne];omega
 have d11:((c:Int) == 46)=false:=by rw [beq_eq_false_iff_ne];omega
 have d12:((c:Int) == 92)=false:=by rw [beq_eq_false_iff_ne];omega
 clear c1 c2 c3 c4 c5 c6 c7 c8 c9 c10 c11 c12;go_enter Tryz.func117,Tryz.ntmps117;go_wp2_with fail
 obtain ⟨V,hV⟩:∃ V,V=w.setCell ⟨p,2,none⟩ (.int .i64 (k1n:Int)):=⟨_,rfl⟩;rw [←hV];have hEV:=HE.out;have hBV:=HB.out;rw [←hV] at hEV hBV;have hadd:=fun (w':World) (hb:Below V.heap.size V w')=>Ez (hEV.below hb) (.one (Ab (c:Int) (c:Int))) (.iface 111 (.agg #[.int .u64 (ow (Ab (c:Int) (c:Int)) 0),.int .u64 (ow (Ab (c:Int) (c:Int)) 1),.int .u64 (ow (Ab (c:Int) (c:Int)) 2),.int .u64 (ow (Ab (c:Int) (c:Int)) 3)])) ⟨1,rfl⟩ rfl hs (HOK.out _ HR.out)
 have HAdd:=Ac8 hadd;have HBV:=Ac8 hBV;have HLOV:=Ac8 (Adg hEV.lop (Adj hEV.blk.lt));clear hadd hEV hBV hV HE HB HX k1 k2 kc f2;go_upto_region 5 with fail
 go_region_law (first
  | (refine Bq rfl _ _ _ rfl 133 _ rfl (by rfl) (enters_of Tryz.func133 (by kernel_rfl) rfl) (HAdd.out _ HB2.out) ?_;rintro x w4 ⟨rfl,hx4,hb4⟩;refine ⟨_,rfl,?_⟩;have HX4:=Ac8 hx4;have HB4:Hid (Below lo V w4):=Ac8 ((HB2.out.mono HLOV.out).trans hb4);clear hx4 hb4)
  | (refine Bq rfl _ _ _ rfl 138 _ rfl (by rfl) (enters_of Tryz.func138 (by kernel_rfl) rfl) (HOF.out _) ?_;rintro x w2 ⟨rfl,hb2⟩;refine ⟨_,rfl,?_⟩;have HB2:Hid (Below V.heap.size V w2):=Ac8 hb2;clear hb2))
 all_goals go_wp2_with fail
 all_goals go_ret2
 all_goals exact Aw HR.out (HBV.out.trans HB4.out) HX4.out
theorem Tp (lo p mp:Nat) (w:World) (s:ByteArray) (e:ES) (h:CG lo p mp w s e) (hs:s.size≤250) (hl:e.pos < s.size) (hG:Gl w) (hlo3:glN≤lo):Calls Tryz.prog 117 #[.pointer (some ⟨p,0,none⟩)] w fun x w'=>AU lo p mp s w x w' (Am s.data.toList e):=by
 obtain ⟨c,hc⟩:∃ c,byt s.data.toList e.pos=c:=⟨_,rfl⟩;by_cases c1:c=124
 ·exact Te lo p mp w s e e.pos h hs rfl hl (hc.trans c1)
 by_cases c2:c=40
 ·by_cases hd:e.outer.length=12
  ·exact Tf lo p mp w s e e.pos h hs rfl hl (hc.trans c2) hd
  ·exact VN lo p mp w s e e.pos h hs rfl hl (hc.trans c2) (by obtain ⟨_,_,_,_,_,_,_,h⟩:=h;have:=h.ok.deep;omega)
 by_cases c3:c=41
 ·rcases List.eq_nil_or_concat e.outer with ho | ⟨L,v,ho⟩
  ·exact Tg lo p mp w s e e.pos h hs rfl hl (hc.trans c3) ho
  ·exact VO lo p mp w s e e.pos h hs rfl hl (hc.trans c3) L v (by simpa using ho)
 by_cases c4:c=94
 ·exact VL lo p mp w s e e.pos h hs rfl hl (hc.trans c4)
 by_cases c5:c=36
 ·exact VM lo p mp w s e e.pos h hs rfl hl (hc.trans c5)
 by_cases c6:c=42
 ·cases hf:Ay e.inner.pcs with
  | true=>exact Th lo p mp w s e e.pos h hs rfl hl (hc.trans c6) hf
  | false=>exact Tk lo p mp w s e e.pos h hs rfl hl (hc.trans c6) hf
 by_cases c7:c=43
 ·cases hf:Ay e.inner.pcs with
  | true=>exact Ti lo p mp w s e e.pos h hs rfl hl (hc.trans c7) hf
  | false=>exact Tm lo p mp w s e e.pos h hs rfl hl (hc.trans c7) hf
 by_cases c8:c=63
 ·cases hf:Ay e.inner.pcs with
  | true=>exact Tj lo p mp w s e e.pos h hs rfl hl (hc.trans c8) hf
  | false=>exact Tn lo p mp w s e e.pos h hs rfl hl (hc.trans c8) hf
 by_cases c9:c=123
 ·cases hf:Ay e.inner.pcs with
  | true=>exact PX lo p mp w s e e.pos h hs rfl hl (hc.trans c9) hf
  | false=>exact PY lo p mp w s e e.pos h hs rfl hl (hc.trans c9) hf
 by_cases c10:c=91
 ·exact VP lo p mp w s e e.pos h hs rfl hl (hc.trans c10) hG hlo3
 by_cases c11:c=46
 ·exact VR lo p mp w s e e.pos h hs rfl hl (hc.trans c11)
 by_cases c12:c=92
 ·exact VQ lo p mp w s e e.pos h hs rfl hl (hc.trans c12)
 exact PZ lo p mp w s e c e.pos h hs rfl hl hc c1 c2 c3 c4 c5 c6 c7 c8 c9 c10 c11 c12
end
section
open Go Go.RowKit
theorem DJ {fn:Func} {t u v x:Tmp} (h:fn.results=#[.tmp t,.tmp u,.tmp v,.tmp x]) (tmps:Array Value) (P:Program) (w:World) :
  (results fn tmps).run P w=.ok (.tuple #[tmps.getD t undef,tmps.getD u undef,tmps.getD v undef,tmps.getD x undef]) w:=by
 simp [results,h]
theorem Oi (s:ByteArray) (w:World) (hs:250 < s.size):Calls Tryz.prog 100 #[.string s] w fun e w'=>P4 (.error (3,250)) w e w':=by
 have e1:decide ((250:Int) < (s.size:Int))=true:=by simp;omega
 clear hs;go_enter Tryz.func100,Tryz.ntmps100;go_wp2_with fail
 (try simp only [Exit.inBlock,Exit.then]);refine bodyPost_ret (DJ rfl _ _ _) rfl ?_
 exact ⟨Adk _ _,rfl⟩
theorem YP (lo p mp:Nat) (w1:World) (s:ByteArray) (sv:Value) (hlo:lo≤w1.heap.size) (hrow:w1.ownsRow lo 21 1 sv s.size (Gk s.data.toList)) (hmp:mp=w1.heap.size) (hp:p=w1.heap.size+1) :
  Em lo p mp [p,mp] ((w1.alloc (.map #[] 0)).alloc (.cells (EC (.string s) sv (.int .i64 0) (.slice none 0 0) (.int .i64 0) (.int .i64 0) (.slice none 0 0) (.slice none 0 0) (.slice none 0 0) (.int .i64 0) (.map (some mp))) 211)) s Fk sv (.slice none 0 0) (.slice none 0 0) (.slice none 0 0) (.slice none 0 0) []:=by
 have hnil:∀ b,(Value.slice none 0 0).ownBlock≠some b:=fun b h=>by simp [Value.ownBlock] at h
 have hsz:((w1.alloc (.map #[] 0)).alloc (.cells (EC (.string s) sv (.int .i64 0) (.slice none 0 0) (.int .i64 0) (.int .i64 0) (.slice none 0 0) (.slice none 0 0) (.slice none 0 0) (.int .i64 0) (.map (some mp))) 211)).heap.size=w1.heap.size+2:=by simp
 have hb1:Below w1.heap.size w1 ((w1.alloc (.map #[] 0)).alloc (.cells (EC (.string s) sv (.int .i64 0) (.slice none 0 0) (.int .i64 0) (.int .i64 0) (.slice none 0 0) (.slice none 0 0) (.slice none 0 0) (.int .i64 0) (.map (some mp))) 211)):=((Adk _ _).alloc (Adf _) _).alloc (by simp) _;refine ⟨Blk.new _ _ _ _ (by rw [hp];simp),by omega,by omega,?_,World.ownsRow_nil _ _ _ _,NR.nil _ _ _,NR.nil _ _ _,World.ownsRow_nil _ _ _ _,rfl,fun i h=>absurd h (Nat.not_lt_zero _),?_,?_,?_,by simp,by simp,by omega,fun b hb=>?_,YM _⟩
 ·obtain ⟨a,cap,rfl,hc,_,hx⟩:=FY hrow (by rw [Lt];simp)
  refine ⟨a,cap,rfl,hc,fun h0=>?_⟩;obtain ⟨g,rfl,_,hg,hcell⟩:=hx h0;refine ⟨g,rfl,by simp;omega,by rw [hsz];omega,fun i hi=>?_⟩;have h1:=hcell i (by rw [Lt];simpa using hi);rw [Nat.zero_add] at h1;rw [hb1.cell (p:=⟨g,i,none⟩) hg,h1];unfold Gk byt;simp only [List.getElem_map];rw [List.getD_eq_getElem?_getD,List.getElem?_eq_getElem (by simpa using hi),Option.getD_some]
 ·refine ⟨0,.map [],Adf _,?_,fun k=>rfl⟩
  have h:=World.ownsMap_made (H:=Unit) w1 Tryz.prog 3 unitElem;obtain ⟨es,clock,hb,r⟩:=h;rw [hmp];exact ⟨es,clock,(Below.heap_alloc _ _ _ (by simp)).trans hb,r⟩
 ·unfold allV
  simp only [List.flatMap_nil,List.pairwise_cons];exact ⟨fun v _ b hb=>absurd hb (hnil b),fun v _ b hb=>absurd hb (hnil b),fun v _ b hb=>absurd hb (hnil b),fun v _ b hb=>absurd hb (hnil b),List.Pairwise.nil⟩
 ·intro v hv b hb
  unfold allV at hv;simp only [List.flatMap_nil,Ado] at hv;rcases hv with rfl | rfl | rfl | rfl | hv
  ·exact absurd hb (hnil b)
  ·exact absurd hb (hnil b)
  ·exact absurd hb (hnil b)
  ·exact absurd hb (hnil b)
  ·cases hv
 ·rw [hsz]
  simp only [Ado] at hb;rcases hb with rfl | rfl | hb
  ·omega
  ·omega
  ·cases hb
def Qa (lo:Nat) (R:Except (Nat × Nat) ES) (w:World) (x:Ending) (w':World):Prop:=Below lo w w'∧match R with
 | .error q=>x=.returned (.tuple #[.nilIface,.slice none 0 0,.int .i64 (q.2:Int),.int .i64 (q.1:Int)])
 | .ok e=>∃ v mv,x=.returned (.tuple #[v,mv,.int .i64 0,.int .i64 0])∧NdX (fun b=>lo≤b) w' e.inner.whole v∧w'.ownsRow lo 33 2 mv e.marks.length (marksC e.marks)
theorem Kf {lo:Nat} {R:Except (Nat × Nat) ES} {w w':World} {n k:Nat} (hR:R=.error (n,k)) (hb:Below lo w w'):Qa lo R w (.returned (.tuple #[.nilIface,.slice none 0 0,.int .i64 (k:Int),.int .i64 (n:Int)])) w':=by subst hR;exact ⟨hb,rfl⟩
theorem Tq {lo:Nat} {R:Except (Nat × Nat) ES} {w w':World} {e:ES} {v mv:Value} (hR:R=.ok e) (hb:Below lo w w') (hn:NdX (fun b=>lo≤b) w' e.inner.whole v) (hm:w'.ownsRow lo 33 2 mv e.marks.length (marksC e.marks)):Qa lo R w (.returned (.tuple #[v,mv,.int .i64 0,.int .i64 0])) w':=by subst hR;exact ⟨hb,v,mv,rfl,hn,hm⟩
theorem Kg (s:ByteArray) (w:World) (hs:s.size≤250) (hG:Gl w) (R:Except (Nat × Nat) ES) (hR:D4 s.data.toList Fk=R) (hne:∀ q,R=.error q→q.1≠0):Calls Tryz.prog 100 #[.string s] w fun e w'=>Qa w.heap.size R w e w':=by
 have e1:decide ((250:Int) < (s.size:Int))=false:=by simp;omega
 have hmm:=@run_makeMap Tryz.prog;have hsg:=SQ s w hs;have HR:=Ac8 hR;have HNE:=Ac8 hne;have hsl:s.data.toList.length=s.size:=by simp
 have HSL:=Ac8 hsl;have HS:=Ac8 hs;clear hR hne hsl hs;go_enter Tryz.func100,Tryz.ntmps100;go_wp2_with fail
 refine hsg.mono ?_;rintro x w1 ⟨sv,rfl,hrow,b1⟩;obtain ⟨sa,sc,rfl⟩:=AZ hrow;have hz:=YP w.heap.size (w1.heap.size+1) w1.heap.size w1 s _ b1.size hrow rfl rfl;have hb0:=((b1.alloc b1.size (.map #[] 0)).alloc (by have:=b1.size;simp;omega) (.cells (EC (.string s) (.slice sa s.size sc) (.int .i64 0) (.slice none 0 0) (.int .i64 0) (.int .i64 0) (.slice none 0 0) (.slice none 0 0) (.slice none 0 0) (.int .i64 0) (.map (some w1.heap.size))) 211))
 have HZ:=Ac8 hz;have HB0:=Ac8 hb0;have HB1:=Ac8 b1.size;clear hsg hrow b1 hz hb0;go_wp2_with fail
 go_loopw [] (fun wr=>∃ e,CG w.heap.size (w1.heap.size+1) w1.heap.size wr s e∧D4 s.data.toList e=R∧Below w.heap.size w wr) (fun wr=>s.size - (intOf ((wr.cell? ⟨w1.heap.size+1,2,none⟩).getD undef)).toNat)
 case atStart=>exact ⟨Fk,⟨_,_,_,_,_,_,_,HZ.out⟩,HR.out,HB0.out⟩
 case round=>
  obtain ⟨e,hX,hres,hb⟩:=hrel;have HX:=Ac8 hX;obtain ⟨own,sv,mv,bv,pv,ov,rows,h⟩:=hX;obtain ⟨sa',sc',rfl,_,_⟩:=h.sg;obtain ⟨oa,oc,rfl⟩:=AZ h.on;have k1:wr.cell? ⟨w1.heap.size+1,1,none⟩=some (.slice sa' s.size sc'):=(h.blk.cell 1).trans rfl;have k2:wr.cell? ⟨w1.heap.size+1,2,none⟩=some (.int .i64 (e.pos:Int)):=(h.blk.cell 2).trans rfl;have K2:=Ac8 k2;have HRES:=Ac8 hres;have HB:=Ac8 hb;have H:=Ac8 h;have hG2:=hG.up hb;clear h hres hb;by_cases hlt:e.pos < s.size
  ·have d1:decide ((e.pos:Int) < (s.size:Int))=true:=by simp;omega
   have d1':decide (e.pos < s.size)=true:=decide_eq_true hlt;have hst:=Tp _ _ _ wr s e HX.out HS.out hlt hG2 hG.lt;have HLT:=Ac8 hlt;clear hlt hG2;go_wp2_with fail
   refine hst.mono ?_;intro x w3 hx;rcases Ba hx with ⟨q,hq,hb3,rfl⟩ | ⟨e',hq,hb3,rfl,hx4⟩
   ·have hRq:R=.error (q.1,q.2):=by rw [←HRES.out,B9 _ _ (by rw [HSL.out];exact HLT.out),hq]
    have hq0:=HNE.out _ hRq;have d2:((q.1:Int) != 0)=true:=by simp;omega
    have HRq:=Ac8 hRq;have HB3:=Ac8 (HB.out.trans hb3);clear hst hx hq hb3 hRq hq0;go_wp2_with fail
    (try simp only [Exit.inBlock,Exit.then]);refine bodyPost_ret (DJ rfl _ _ _) rfl ?_
    exact Kf HRq.out HB3.out
   ·have hR4:D4 s.data.toList e'=R:=by rw [←HRES.out,B9 s.data.toList e (by rw [HSL.out];exact HLT.out),hq]
    have hmv:=H8 _ _ _ (by rw [HSL.out];exact HLT.out) hq;have HR4:=Ac8 hR4;have HMV:=Ac8 hmv;have HB3:=Ac8 (HB.out.trans hb3);have HX4:=Ac8 hx4;clear hst hx hq hb3 hR4 hmv hx4;go_wp2_with fail
    go_roundw
    case rel=>exact ⟨e',HX4.out,HR4.out,HB3.out⟩
    case measure=>
     obtain ⟨own,sv,mv,bv,pv,ov,rows,h4⟩:=HX4.out;have k4:w3.cell? ⟨w1.heap.size+1,2,none⟩=some (.int .i64 (e'.pos:Int)):=(h4.blk.cell 2).trans rfl;rw [k4,K2.out];simp only [Option.getD_some,intOf,Int.toNat_natCast];have:=HMV.out;have:=HLT.out;omega
  ·have d1:decide ((e.pos:Int) < (s.size:Int))=false:=by simp;omega
   have d1':decide (e.pos < s.size)=false:=decide_eq_false hlt;have hend:=JW s.data.toList e (by rw [HSL.out];omega);rw [HRES.out] at hend;have k8:wr.cell? ⟨w1.heap.size+1,8,none⟩=some (.slice oa e.outer.length oc):=(H.out.blk.cell 8).trans rfl;have k4:wr.cell? ⟨w1.heap.size+1,4,none⟩=some (.int .i64 (e.inner.op:Int)):=(H.out.blk.cell 4).trans rfl;cases ho:e.outer with
   | cons v L=>
    rw [ho] at hend k8;have HF:=Ac8 (show R=.error (8,e.inner.op) from hend);obtain ⟨m,hm⟩:∃ m,m=(v :: L).length:=⟨_,rfl⟩;have d2:decide ((0:Int) < (m:Int))=true:=by rw [hm];simp
    have d3:decide (0 < m)=true:=by rw [hm];simp
    rw [←hm] at k8;clear hm hend ho hlt hG2;go_wp2_with fail
    go_quiet (fail)
    go_wp2_with fail
    (try simp only [Exit.inBlock,Exit.then]);refine bodyPost_ret (DJ rfl _ _ _) rfl ?_
    exact Kf HF.out (HB.out.trans (below_drewN (Adk _ _) _))
   | nil=>
    rw [ho] at hend k8;have HF:=Ac8 (show R=.ok e from hend);have k3:wr.cell? ⟨w1.heap.size+1,3,none⟩=some mv:=(H.out.blk.cell 3).trans rfl;have hi:=H.out.ok.inner;have hps:=H.out.ok.pos;rw [HSL.out] at hps;have hsz:=HS.out;have hbl:(e.inner.brs++[Bs e.inner.pcs]).length≤251:=by rw [Adh];have:=hi.2.2.2.1;simp;omega
    have hW:=fun (w':World) (hb:Below wr.heap.size wr w')=>G7 w.heap.size (w1.heap.size+1) own _ _ _ _ _ _ bv pv _ _ _ e.inner.brs e.inner.pcs w' H.out.lop (H.out.blk.below hb H.out.blk.lt) (H.out.below hb).bn (H.out.below hb).pn (fun hx=>(H.out.inown bv (by simp [allV]) _ hx).2.1 rfl) H.out.pown (fun b hx=>Adi (H.out.ownlt b hx) hb.size) (fun q hq=>(H.out.inown bv (by simp [allV]) q hq).1) (Adg hi.2.2.2.1 (by omega)) (Ke hi.1 hi.2.2.1 (by omega)) (Oh (BK hi.2.1 (Ka _ hi.1)) hbl (by omega))
    have HW:=Ac8 hW;have hpl:=H.out.blk.lt;have HMK:∀ w' w'',Below wr.heap.size wr w'→Touch (w1.heap.size+1) bv w' w''→w''.ownsRow w.heap.size 33 2 mv e.marks.length (marksC e.marks)∧Below w.heap.size w w'':=fun w' w'' hb hT=>by
     have hE:=H.out.below hb;refine ⟨Aa hE.mks (fun b hx=>hT.block b (hE.mks.lt b hx).2 (hE.inown mv (by simp [allV]) b hx).2.1 (fun hy=>?_)),(HB.out.trans (hb.mono HB.out.size)).trans (hE.low hE.bn.lt hT)⟩;have hap:=hE.apart;unfold allV at hap;simp only [List.pairwise_cons] at hap;exact hap.1 bv (by simp) b hx hy
    have HMK2:=Ac8 HMK;clear hend ho hlt hi hps hbl hW hsz hG2 HMK;go_wp2_with fail
    go_upto_region 10 with fail
    go_region_law (first
     | (refine Bq rfl _ _ _ rfl 118 _ rfl (by rfl) (enters_of Tryz.func118 (by kernel_rfl) rfl) (HW.out _ (by first | exact Adk _ _ | exact Below.drew (Adk _ _))) ?_;rintro x w4 ⟨v4,bv4,rfl,hx4,hB4,hT4,_⟩;refine ⟨_,rfl,?_⟩;have HX4:=Ac8 hx4;have hq4:w4.cell? ⟨w1.heap.size+1,3,none⟩=some mv:=(hB4.cell 3).trans rfl;have HMM:Hid (w4.ownsRow w.heap.size 33 2 mv e.marks.length (marksC e.marks)∧Below w.heap.size w w4):=Ac8 (by first | exact HMK2.out _ _ (Adk _ _) hT4 | exact HMK2.out _ _ (Below.drew (Adk _ _)) hT4);clear hx4 hB4 hT4))
    all_goals go_wp2_with fail
    all_goals ((try simp only [Exit.inBlock,Exit.then]);refine bodyPost_ret (DJ rfl _ _ _) rfl ?_)
    all_goals exact Tq (v:=v4) (mv:=mv) HF.out HMM.out.2 (HX4.out.keep (Adf _) (fun b hb _=>⟨hb.1,fun _=>rfl⟩)) HMM.out.1
theorem Qb (s:ByteArray) (w:World) (hG:Gl w):Calls Tryz.prog 100 #[.string s] w fun e w'=>P4 (AY true s.data.toList) w e w':=by
 have hsl:s.data.toList.length=s.size:=by simp
 by_cases hs:s.size≤250
 ·have hp:=SM s.data.toList (by omega)
  cases hm:AY true s.data.toList with
  | error q=>
   rw [hm] at hp;refine (Kg s w hs hG _ hp (fun q' h=>by injection h with h;subst h;exact In hm)).mono ?_;rintro e w' ⟨hb,rfl⟩;exact ⟨hb,rfl⟩
  | ok q=>
   obtain ⟨st,d⟩:=q;rw [hm] at hp;obtain ⟨e0,h1,h2,h3⟩:=hp;refine (Kg s w hs hG _ h1 (fun q' h=>by cases h)).mono ?_;rintro e w' ⟨hb,v,mv,rfl,hn,hmk⟩;rw [h2] at hn;rw [h3] at hmk;exact ⟨hb,v,mv,rfl,hn,hmk⟩
 ·have hm:AY true s.data.toList=.error (3,250):=by unfold AY;rw [if_pos (by omega)]
  rw [hm];exact Oi s w (by omega)
end
end Go.Proofs.YteilldmmihiijaaGreatDoor
