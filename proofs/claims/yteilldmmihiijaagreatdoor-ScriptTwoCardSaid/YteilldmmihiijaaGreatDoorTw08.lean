/- Texts. -/
import Derived.Test.YteilldmmihiijaaGreatDoorTw07
set_option linter.unusedSimpArgs false
set_option linter.unusedVariables false
set_option maxHeartbeats 8000000
set_option maxRecDepth 1000000
namespace Go.Proofs.YteilldmmihiijaaGreatDoor
open Go.Lib renaming hid→Ad5
open Nat renaming le_refl→Aec,le_trans→Aed,lt_of_lt_of_le→Aef,le_of_lt→Aeg
open List renaming length_append→Aee,mem_cons→Ael
open Go.RowKit.Below renaming refl→Aeh
open Go.IntWalk renaming i64_in→Aej
open Go.World renaming cell?_of_block→Aek
section
open Go Go.RowKit
def I3 (s:List UInt8) (e:ES) (c:Nat):Except (Nat × Nat) ES:=
 if c=124 then .ok (e.lv (e.st.to (e.pos+1)) (e.inner.brs++[Bu e.inner.pcs]) [])
 else if c=40 then (if e.outer.length=12 then .error (4,e.pos) else .ok { e with pos:=e.pos+1,groups:=e.groups+1,outer:=e.outer++[e.inner],inner:=⟨e.pos,e.groups+1,[],[]⟩ })
 else if c=41 then CC { e with pos:=e.pos+1 } e.pos
 else if c=94 then .ok (e.add (e.pos+1) .start)
 else if c=36 then .ok (e.add (e.pos+1) .fin)
 else if c=42∨c=43∨c=63∨c=123 then AD s { e with pos:=e.pos+1 } e.pos
 else if c=91 then (if (Fz s ((e.pos:Int)+1)).2.2=0 then .ok (e.at (e.st.to (Fz s ((e.pos:Int)+1)).2.1.toNat) (e.inner.pcs++[.one (Fz s ((e.pos:Int)+1)).1])) else .error ((Fz s ((e.pos:Int)+1)).2.2,(Fz s ((e.pos:Int)+1)).2.1.toNat))
 else if c=46 then .ok (e.add (e.pos+1) (.one (Ab 0 255)))
 else if c=92 then BE s { e with pos:=e.pos+1 } e.pos
 else .ok (e.add (e.pos+1) (.one (Ab c c)))
theorem Bp (s:List UInt8) (e:ES) (c:Nat) (hl:e.pos < s.length) (hc:byt s e.pos=c):Am s e=I3 s e c:=by
 have hch:∀ b,chAt s e.pos b=decide (c=b):=fun b=>by unfold chAt;rw [hc,decide_eq_true hl];rfl
 unfold Am I3;simp only [hch,decide_eq_true_eq];split
 ·rfl
 split
 ·rfl
 split
 ·unfold CC;cases e.outer.getLast? <;> rfl
 split
 ·rfl
 split
 ·rfl
 have hr:Ca s e.pos=decide (c=42∨c=43∨c=63∨c=123):=by
  unfold Ca;simp only [hch];by_cases h1:c=42 <;> by_cases h2:c=43 <;> by_cases h3:c=63 <;> by_cases h4:c=123 <;> simp [h1,h2,h3,h4]
 rw [hr];simp only [decide_eq_true_eq];split
 ·unfold AD;show (if A0 e.inner.pcs=true then _ else _)=(if A0 e.inner.pcs=true then _ else _)
  split
  ·rfl
  ·cases repAt true s e.pos <;> rfl
 ·rename_i k124 k40 k41 k94 k36 krep;unfold Bc;show (match (if A2 true s e.pos 40=true then _ else _:ReRes (ReSt × Nd)) with | .error q=>_ | .ok (st,d)=>_)=_;simp only [A2,if_true,show e.st.pos=e.pos from rfl,hch,decide_eq_true_eq];rw [if_neg k40,if_neg k41];by_cases h91:c=91
  ·rw [if_pos h91,if_pos h91];by_cases h0:(Fz s ((e.pos:Int)+1)).2.2=0
   ·rw [if_pos h0,if_pos h0]
   ·rw [if_neg h0,if_neg h0]
  ·rw [if_neg h91,if_neg h91];by_cases h46:c=46
   ·rw [if_pos h46,if_pos h46];rfl
   ·rw [if_neg h46,if_neg h46];by_cases h92:c=92
    ·rw [if_pos h92,if_pos h92];unfold BE;by_cases hlt:e.pos+1 < s.length
     ·rw [if_pos hlt,if_pos hlt];show (match Ds true e.st (byt s (e.pos+1)) with | .error q=>_ | .ok (st,d)=>_)=(match Ds true e.st (byt s (e.pos+1)) with | .error q=>_ | .ok (st,d)=>_)
      cases Ds true e.st (byt s (e.pos+1)) <;> rfl
     ·rw [if_neg hlt,if_neg hlt]
    ·rw [if_neg h92,if_neg h92,hc];rfl
theorem TN {s:List UInt8} {k:Nat} (hl:k < s.length) (h:byt s k=42):repAt true s k=.some 0 (-1) 0 (k+1):=by unfold repAt;rw [Fp hl h];rfl
theorem TO {s:List UInt8} {k:Nat} (hl:k < s.length) (hb:byt s k=43):repAt true s k=.some 1 (-1) 0 (k+1):=by unfold repAt;rw [BD (b:=42) (by rw [hb];decide)];simp only [A2,if_true,Bool.false_eq_true,if_false];rw [Fp hl hb];rfl
theorem WF {s:List UInt8} {k:Nat} (hl:k < s.length) (hb:byt s k=63):repAt true s k=.some 0 1 0 (k+1):=by unfold repAt;rw [BD (b:=42) (by rw [hb];decide)];simp only [A2,if_true,Bool.false_eq_true,if_false];rw [BD (b:=43) (by rw [hb];decide)];simp only [Bool.false_eq_true,if_false];rw [Fp hl hb];rfl
theorem Ko {l:List Nd} {n:Nat} (h:l.all inCat=true) (hn:l.length≤n) (h2:n≤4000000):(AI l).length≤4000000:=by rw [EO l h];omega
theorem O2 {l:List Nd} {n:Nat} (h:l.all inAlt=true) (hn:l.length≤n) (h2:n≤4000000):(AJ l).length≤4000000:=by rw [Ip l h];omega
theorem Zv (x:Int) (h0:0≤x) (h1:x≤255) (W:World) :
  Calls Tryz.prog 138 #[.slice (some ⟨W.heap.size,0,none⟩) 1 1] (W.alloc (.cells #[.int .u8 x] 5)).drew fun e w'=>e=.returned (.agg #[.int .u64 (ow (D2 [x]) 0),.int .u64 (ow (D2 [x]) 1),.int .u64 (ow (D2 [x]) 2),.int .u64 (ow (D2 [x]) 3)])∧Below W.heap.size W w':=by
 refine (Pm [x] W.heap.size 0 1 _ (by show W.heap.size < (W.alloc _).heap.size;simp) (by simp [maxLen]) (fun i hi=>?_) (fun i=>?_)).mono ?_
 ·show (W.alloc (.cells #[.int .u8 x] 5)).cell? _=_;rw [(Blk.new W _ _ _ rfl).cell]
  match i,hi with
  | 0,_=>rfl
 ·match i with
  | 0=>exact ⟨h0,h1⟩
  | _+1=>simp
 ·rintro e w' ⟨rfl,hb⟩;exact ⟨rfl,(((Aeh _ _).alloc (Aec _) _).drew).trans (hb.mono (by show W.heap.size≤(W.alloc _).heap.size;simp))⟩
theorem Bb {lo p mp:Nat} {s:ByteArray} {w w':World} {x:Ending} {R:Except (Nat × Nat) ES} (h:AU lo p mp s w x w' R):(∃ q:Nat × Nat,R=.error (q.1,q.2)∧Below lo w w'∧x=.returned (.tuple #[.int .i64 (q.2:Int),.int .i64 (q.1:Int)]))∨(∃ e',R=.ok e'∧Below lo w w'∧x=.returned (.tuple #[.int .i64 0,.int .i64 0])∧CN lo p mp w' s e'):=by
 cases R with
 | error q=>exact .inl ⟨q,rfl,h.1,h.2⟩
 | ok e'=>exact .inr ⟨e',rfl,h.1,h.2.1,h.2.2⟩
theorem WG (lo p mp:Nat) (w:World) (s:ByteArray) (e:ES) (k:Nat) (h:CN lo p mp w s e) (hs:s.size≤250) (hk:e.pos=k) (hl:k < s.size) (hc:byt s.data.toList k=94):Calls Tryz.prog 117 #[.pointer (some ⟨p,0,none⟩)] w fun x w'=>AU lo p mp s w x w' (Am s.data.toList e):=by
 obtain ⟨own,sv,mv,bv,pv,ov,rows,h⟩:=h;obtain ⟨sa,sc,rfl,e2,e3⟩:=h.sg;obtain ⟨g,rfl,hg,hgl,hcell⟩:=e3 (by omega);have kc:=hcell k hl;rw [hc] at kc;have hll:e.pos < s.data.toList.length:=(by rw [hk];simpa using hl);have HS0:=Bp s.data.toList e 94 hll (by rw [hk];exact hc);have k1:w.cell? ⟨p,1,none⟩=some (.slice (some ⟨g,0,none⟩) s.size sc):=(h.blk.cell 1).trans rfl;have k2:w.cell? ⟨p,2,none⟩=some (.int .i64 (k:Int)):=(by rw [←hk];exact (h.blk.cell 2).trans rfl);have i1:(k:Int) < (s.size:Int):=(by omega);obtain ⟨k1n,hk1⟩:∃ j,j=k+1:=⟨_,rfl⟩;have W1:IntKind.i64.wrap ((k:Int)+1)=(k1n:Int):=(by rw [Aej _ (by omega)];omega);have f2:=h.blk.frozen 2;have hplt:=h.blk.lt;have hgp:g≠p:=(fun x=>hg (x▸h.pown));have hpg:p≠g:=(fun x=>hgp x.symm);have hE:=h.goto k1n (h.ok.goto (by omega) (by simp;omega));have hB:=(Aeh lo w).setCell (p:=⟨p,2,none⟩) h.lop (.int .i64 (k1n:Int));have HOK:=Ad5 (fun e' he=>AR s.data.toList e e' h.ok hll he);have HLV:=Ad5 h.ok;obtain ⟨e1,he1⟩:∃ e1:ES,e1={ e with pos:=k1n }:=⟨_,rfl⟩;rw [←he1] at hE;have HE:=Ad5 hE;have HB:=Ad5 hB;have HE1:=Ad5 he1;have HK1:=Ad5 hk1;have HK:=Ad5 hk;have HC:=Ad5 hc;have HX:Hid (CN lo p mp (w.setCell ⟨p,2,none⟩ (.int .i64 (k1n:Int))) s e1):=Ad5 ⟨_,_,_,_,_,_,_,hE⟩;have HLL:=Ad5 hll;clear e3 hcell hgl hg hE hB he1 hk1 h hc hll hk;have hR:Am s.data.toList e=.ok (e1.at e1.st (e1.inner.pcs++[.start])):=by rw [HS0,HE1.out,HK1.out,←HK.out];rfl
 have hadd:=EA HE.out .start (.iface 119 (.agg #[])) ⟨1,rfl⟩ rfl hs (HOK.out _ hR);have HR:=Ad5 hR;clear HS0 hR;go_enter Tryz.func117,Tryz.ntmps117;go_wp2_with fail
 refine hadd.mono ?_;rintro x w2 ⟨rfl,hx2,b2⟩;have HX2:=Ad5 hx2;clear hadd hx2;go_wp2_with fail
 go_ret2
 exact Ay HR.out (HB.out.trans b2) HX2.out
theorem WH (lo p mp:Nat) (w:World) (s:ByteArray) (e:ES) (k:Nat) (h:CN lo p mp w s e) (hs:s.size≤250) (hk:e.pos=k) (hl:k < s.size) (hc:byt s.data.toList k=36):Calls Tryz.prog 117 #[.pointer (some ⟨p,0,none⟩)] w fun x w'=>AU lo p mp s w x w' (Am s.data.toList e):=by
 obtain ⟨own,sv,mv,bv,pv,ov,rows,h⟩:=h;obtain ⟨sa,sc,rfl,e2,e3⟩:=h.sg;obtain ⟨g,rfl,hg,hgl,hcell⟩:=e3 (by omega);have kc:=hcell k hl;rw [hc] at kc;have hll:e.pos < s.data.toList.length:=(by rw [hk];simpa using hl);have HS0:=Bp s.data.toList e 36 hll (by rw [hk];exact hc);have k1:w.cell? ⟨p,1,none⟩=some (.slice (some ⟨g,0,none⟩) s.size sc):=(h.blk.cell 1).trans rfl;have k2:w.cell? ⟨p,2,none⟩=some (.int .i64 (k:Int)):=(by rw [←hk];exact (h.blk.cell 2).trans rfl);have i1:(k:Int) < (s.size:Int):=(by omega);obtain ⟨k1n,hk1⟩:∃ j,j=k+1:=⟨_,rfl⟩;have W1:IntKind.i64.wrap ((k:Int)+1)=(k1n:Int):=(by rw [Aej _ (by omega)];omega);have f2:=h.blk.frozen 2;have hplt:=h.blk.lt;have hgp:g≠p:=(fun x=>hg (x▸h.pown));have hpg:p≠g:=(fun x=>hgp x.symm);have hE:=h.goto k1n (h.ok.goto (by omega) (by simp;omega));have hB:=(Aeh lo w).setCell (p:=⟨p,2,none⟩) h.lop (.int .i64 (k1n:Int));have HOK:=Ad5 (fun e' he=>AR s.data.toList e e' h.ok hll he);have HLV:=Ad5 h.ok;obtain ⟨e1,he1⟩:∃ e1:ES,e1={ e with pos:=k1n }:=⟨_,rfl⟩;rw [←he1] at hE;have HE:=Ad5 hE;have HB:=Ad5 hB;have HE1:=Ad5 he1;have HK1:=Ad5 hk1;have HK:=Ad5 hk;have HC:=Ad5 hc;have HX:Hid (CN lo p mp (w.setCell ⟨p,2,none⟩ (.int .i64 (k1n:Int))) s e1):=Ad5 ⟨_,_,_,_,_,_,_,hE⟩;have HLL:=Ad5 hll;clear e3 hcell hgl hg hE hB he1 hk1 h hc hll hk;have hR:Am s.data.toList e=.ok (e1.at e1.st (e1.inner.pcs++[.fin])):=by rw [HS0,HE1.out,HK1.out,←HK.out];rfl
 have hadd:=EA HE.out .fin (.iface 121 (.agg #[])) ⟨1,rfl⟩ rfl hs (HOK.out _ hR);have HR:=Ad5 hR;clear HS0 hR;go_enter Tryz.func117,Tryz.ntmps117;go_wp2_with fail
 refine hadd.mono ?_;rintro x w2 ⟨rfl,hx2,b2⟩;have HX2:=Ad5 hx2;clear hadd hx2;go_wp2_with fail
 go_ret2
 exact Ay HR.out (HB.out.trans b2) HX2.out
theorem TP (lo p mp:Nat) (w:World) (s:ByteArray) (e:ES) (k:Nat) (h:CN lo p mp w s e) (hs:s.size≤250) (hk:e.pos=k) (hl:k < s.size) (hc:byt s.data.toList k=124):Calls Tryz.prog 117 #[.pointer (some ⟨p,0,none⟩)] w fun x w'=>AU lo p mp s w x w' (Am s.data.toList e):=by
 obtain ⟨own,sv,mv,bv,pv,ov,rows,h⟩:=h;obtain ⟨sa,sc,rfl,e2,e3⟩:=h.sg;obtain ⟨g,rfl,hg,hgl,hcell⟩:=e3 (by omega);have kc:=hcell k hl;rw [hc] at kc;have hll:e.pos < s.data.toList.length:=(by rw [hk];simpa using hl);have HS0:=Bp s.data.toList e 124 hll (by rw [hk];exact hc);have k1:w.cell? ⟨p,1,none⟩=some (.slice (some ⟨g,0,none⟩) s.size sc):=(h.blk.cell 1).trans rfl;have k2:w.cell? ⟨p,2,none⟩=some (.int .i64 (k:Int)):=(by rw [←hk];exact (h.blk.cell 2).trans rfl);have i1:(k:Int) < (s.size:Int):=(by omega);obtain ⟨k1n,hk1⟩:∃ j,j=k+1:=⟨_,rfl⟩;have W1:IntKind.i64.wrap ((k:Int)+1)=(k1n:Int):=(by rw [Aej _ (by omega)];omega);have f2:=h.blk.frozen 2;have hplt:=h.blk.lt;have hgp:g≠p:=(fun x=>hg (x▸h.pown));have hpg:p≠g:=(fun x=>hgp x.symm);have hE:=h.goto k1n (h.ok.goto (by omega) (by simp;omega));have hB:=(Aeh lo w).setCell (p:=⟨p,2,none⟩) h.lop (.int .i64 (k1n:Int));have HOK:=Ad5 (fun e' he=>AR s.data.toList e e' h.ok hll he);have HLV:=Ad5 h.ok;obtain ⟨e1,he1⟩:∃ e1:ES,e1={ e with pos:=k1n }:=⟨_,rfl⟩;rw [←he1] at hE;have HE:=Ad5 hE;have HB:=Ad5 hB;have HE1:=Ad5 he1;have HK1:=Ad5 hk1;have HK:=Ad5 hk;have HC:=Ad5 hc;have HX:Hid (CN lo p mp (w.setCell ⟨p,2,none⟩ (.int .i64 (k1n:Int))) s e1):=Ad5 ⟨_,_,_,_,_,_,_,hE⟩;have HLL:=Ad5 hll;clear e3 hcell hgl hg hE hB he1 hk1 h hc hll hk;have hR:Am s.data.toList e=.ok (e1.lv e1.st (e1.inner.brs++[Bu e1.inner.pcs]) []):=by rw [HS0,HE1.out,HK1.out,←HK.out];rfl
 have hi:=HE.out.ok.inner;have hps:=HE.out.ok.pos;have hsl:s.data.toList.length=s.size:=by simp
 have hend:=Oy lo p own _ _ _ _ _ _ bv pv _ _ _ e1.inner.brs e1.inner.pcs _ HE.out.lop HE.out.blk HE.out.bn HE.out.pn (fun hx=>(HE.out.inown bv (by simp [allV]) p hx).2.1 rfl) HE.out.pown HE.out.ownlt (fun q hq=>(HE.out.inown bv (by simp [allV]) q hq).1) (Aed hi.2.2.2.1 (by omega)) (Ko hi.1 hi.2.2.1 (by omega));have HR:=Ad5 hR;have HO:=Ad5 (HOK.out _ hR);have HEND:=Ad5 hend;clear HS0 hR hi hps hend hsl;go_enter Tryz.func117,Tryz.ntmps117;go_wp2_with fail
 refine HEND.out.mono ?_;rintro x w2 ⟨bv',rfl,hN,hB2,hT,hF⟩;have hX:=Em.branched HE.out hT hF rfl hN hB2 HO.out;have HX2:=Ad5 hX;have HB2:=Ad5 (HB.out.trans (HE.out.low HE.out.bn.lt hT));clear hN hB2 hT hF hX;go_wp2_with fail
 go_ret2
 exact Ay HR.out HB2.out ⟨_,_,_,_,_,_,_,HX2.out⟩
theorem TQ (lo p mp:Nat) (w:World) (s:ByteArray) (e:ES) (k:Nat) (h:CN lo p mp w s e) (hs:s.size≤250) (hk:e.pos=k) (hl:k < s.size) (hc:byt s.data.toList k=40) (hd:e.outer.length=12):Calls Tryz.prog 117 #[.pointer (some ⟨p,0,none⟩)] w fun x w'=>AU lo p mp s w x w' (Am s.data.toList e):=by
 obtain ⟨own,sv,mv,bv,pv,ov,rows,h⟩:=h;obtain ⟨sa,sc,rfl,e2,e3⟩:=h.sg;obtain ⟨g,rfl,hg,hgl,hcell⟩:=e3 (by omega);have kc:=hcell k hl;rw [hc] at kc;have hll:e.pos < s.data.toList.length:=(by rw [hk];simpa using hl);have HS0:=Bp s.data.toList e 40 hll (by rw [hk];exact hc);have k1:w.cell? ⟨p,1,none⟩=some (.slice (some ⟨g,0,none⟩) s.size sc):=(h.blk.cell 1).trans rfl;have k2:w.cell? ⟨p,2,none⟩=some (.int .i64 (k:Int)):=(by rw [←hk];exact (h.blk.cell 2).trans rfl);have i1:(k:Int) < (s.size:Int):=(by omega);obtain ⟨k1n,hk1⟩:∃ j,j=k+1:=⟨_,rfl⟩;have W1:IntKind.i64.wrap ((k:Int)+1)=(k1n:Int):=(by rw [Aej _ (by omega)];omega);have f2:=h.blk.frozen 2;have hplt:=h.blk.lt;have hgp:g≠p:=(fun x=>hg (x▸h.pown));have hpg:p≠g:=(fun x=>hgp x.symm);have hE:=h.goto k1n (h.ok.goto (by omega) (by simp;omega));have hB:=(Aeh lo w).setCell (p:=⟨p,2,none⟩) h.lop (.int .i64 (k1n:Int));have HOK:=Ad5 (fun e' he=>AR s.data.toList e e' h.ok hll he);have HLV:=Ad5 h.ok;obtain ⟨e1,he1⟩:∃ e1:ES,e1={ e with pos:=k1n }:=⟨_,rfl⟩;rw [←he1] at hE;have HE:=Ad5 hE;have HB:=Ad5 hB;have HE1:=Ad5 he1;have HK1:=Ad5 hk1;have HK:=Ad5 hk;have HC:=Ad5 hc;have HX:Hid (CN lo p mp (w.setCell ⟨p,2,none⟩ (.int .i64 (k1n:Int))) s e1):=Ad5 ⟨_,_,_,_,_,_,_,hE⟩;have HLL:=Ad5 hll;clear e3 hcell hgl hg hE hB he1 hk1 h hc hll hk;have hR:Am s.data.toList e=.error (4,k):=by rw [HS0];unfold I3;rw [if_neg (by decide),if_pos rfl,if_pos hd,HK.out]
 have hop:=Qt lo p mp own _ s e1 _ mv bv pv ov rows HE.out k (by rw [HE1.out];exact hd);have HR:=Ad5 hR;have HOP:=Ad5 hop;clear HS0 hR hop hd;go_enter Tryz.func117,Tryz.ntmps117;go_wp2_with fail
 refine HOP.out.mono ?_;rintro x w2 ⟨rfl,rfl⟩;go_wp2_with fail
 go_ret2
 exact A9 HR.out HB.out
theorem WI (lo p mp:Nat) (w:World) (s:ByteArray) (e:ES) (k:Nat) (h:CN lo p mp w s e) (hs:s.size≤250) (hk:e.pos=k) (hl:k < s.size) (hc:byt s.data.toList k=40) (hd:e.outer.length < 12):Calls Tryz.prog 117 #[.pointer (some ⟨p,0,none⟩)] w fun x w'=>AU lo p mp s w x w' (Am s.data.toList e):=by
 obtain ⟨own,sv,mv,bv,pv,ov,rows,h⟩:=h;obtain ⟨sa,sc,rfl,e2,e3⟩:=h.sg;obtain ⟨g,rfl,hg,hgl,hcell⟩:=e3 (by omega);have kc:=hcell k hl;rw [hc] at kc;have hll:e.pos < s.data.toList.length:=(by rw [hk];simpa using hl);have HS0:=Bp s.data.toList e 40 hll (by rw [hk];exact hc);have k1:w.cell? ⟨p,1,none⟩=some (.slice (some ⟨g,0,none⟩) s.size sc):=(h.blk.cell 1).trans rfl;have k2:w.cell? ⟨p,2,none⟩=some (.int .i64 (k:Int)):=(by rw [←hk];exact (h.blk.cell 2).trans rfl);have i1:(k:Int) < (s.size:Int):=(by omega);obtain ⟨k1n,hk1⟩:∃ j,j=k+1:=⟨_,rfl⟩;have W1:IntKind.i64.wrap ((k:Int)+1)=(k1n:Int):=(by rw [Aej _ (by omega)];omega);have f2:=h.blk.frozen 2;have hplt:=h.blk.lt;have hgp:g≠p:=(fun x=>hg (x▸h.pown));have hpg:p≠g:=(fun x=>hgp x.symm);have hE:=h.goto k1n (h.ok.goto (by omega) (by simp;omega));have hB:=(Aeh lo w).setCell (p:=⟨p,2,none⟩) h.lop (.int .i64 (k1n:Int));have HOK:=Ad5 (fun e' he=>AR s.data.toList e e' h.ok hll he);have HLV:=Ad5 h.ok;obtain ⟨e1,he1⟩:∃ e1:ES,e1={ e with pos:=k1n }:=⟨_,rfl⟩;rw [←he1] at hE;have HE:=Ad5 hE;have HB:=Ad5 hB;have HE1:=Ad5 he1;have HK1:=Ad5 hk1;have HK:=Ad5 hk;have HC:=Ad5 hc;have HX:Hid (CN lo p mp (w.setCell ⟨p,2,none⟩ (.int .i64 (k1n:Int))) s e1):=Ad5 ⟨_,_,_,_,_,_,_,hE⟩;have HLL:=Ad5 hll;clear e3 hcell hgl hg hE hB he1 hk1 h hc hll hk;have hR:Am s.data.toList e=.ok { e1 with groups:=e1.groups+1,outer:=e1.outer++[e1.inner],inner:=⟨k,e1.groups+1,[],[]⟩ }:=by rw [HS0];unfold I3;rw [if_neg (by decide),if_pos rfl,if_neg (by omega),HE1.out,HK1.out,←HK.out]
 have hgr:e1.groups≤250:=by rw [HE1.out];show e.groups≤250;have:=HLV.out.groups;have:=HK.out;omega
 have hop:=TD lo p mp own _ s e1 _ mv bv pv ov rows HE.out k (by rw [HE1.out];exact hd) hgr (HOK.out _ hR);have HR:=Ad5 hR;have HOP:=Ad5 hop;clear HS0 hR hop hd hgr;go_enter Tryz.func117,Tryz.ntmps117;go_wp2_with fail
 refine HOP.out.mono ?_;rintro x w2 ⟨rfl,own',ov',hx2,_,hT⟩;have HX2:=Ad5 hx2;have HB2:=Ad5 (HB.out.trans (HE.out.low HE.out.on.lt hT));clear hx2 hT;go_wp2_with fail
 go_ret2
 exact Ay HR.out HB2.out ⟨_,_,_,_,_,_,_,HX2.out⟩
theorem TR (lo p mp:Nat) (w:World) (s:ByteArray) (e:ES) (k:Nat) (h:CN lo p mp w s e) (hs:s.size≤250) (hk:e.pos=k) (hl:k < s.size) (hc:byt s.data.toList k=41) (ho:e.outer=[]):Calls Tryz.prog 117 #[.pointer (some ⟨p,0,none⟩)] w fun x w'=>AU lo p mp s w x w' (Am s.data.toList e):=by
 obtain ⟨own,sv,mv,bv,pv,ov,rows,h⟩:=h;obtain ⟨sa,sc,rfl,e2,e3⟩:=h.sg;obtain ⟨g,rfl,hg,hgl,hcell⟩:=e3 (by omega);have kc:=hcell k hl;rw [hc] at kc;have hll:e.pos < s.data.toList.length:=(by rw [hk];simpa using hl);have HS0:=Bp s.data.toList e 41 hll (by rw [hk];exact hc);have k1:w.cell? ⟨p,1,none⟩=some (.slice (some ⟨g,0,none⟩) s.size sc):=(h.blk.cell 1).trans rfl;have k2:w.cell? ⟨p,2,none⟩=some (.int .i64 (k:Int)):=(by rw [←hk];exact (h.blk.cell 2).trans rfl);have i1:(k:Int) < (s.size:Int):=(by omega);obtain ⟨k1n,hk1⟩:∃ j,j=k+1:=⟨_,rfl⟩;have W1:IntKind.i64.wrap ((k:Int)+1)=(k1n:Int):=(by rw [Aej _ (by omega)];omega);have f2:=h.blk.frozen 2;have hplt:=h.blk.lt;have hgp:g≠p:=(fun x=>hg (x▸h.pown));have hpg:p≠g:=(fun x=>hgp x.symm);have hE:=h.goto k1n (h.ok.goto (by omega) (by simp;omega));have hB:=(Aeh lo w).setCell (p:=⟨p,2,none⟩) h.lop (.int .i64 (k1n:Int));have HOK:=Ad5 (fun e' he=>AR s.data.toList e e' h.ok hll he);have HLV:=Ad5 h.ok;obtain ⟨e1,he1⟩:∃ e1:ES,e1={ e with pos:=k1n }:=⟨_,rfl⟩;rw [←he1] at hE;have HE:=Ad5 hE;have HB:=Ad5 hB;have HE1:=Ad5 he1;have HK1:=Ad5 hk1;have HK:=Ad5 hk;have HC:=Ad5 hc;have HX:Hid (CN lo p mp (w.setCell ⟨p,2,none⟩ (.int .i64 (k1n:Int))) s e1):=Ad5 ⟨_,_,_,_,_,_,_,hE⟩;have HLL:=Ad5 hll;clear e3 hcell hgl hg hE hB he1 hk1 h hc hll hk;have hR:Am s.data.toList e=CC e1 k:=by rw [HS0,HE1.out,HK1.out,←HK.out];rfl
 have hcall:=Oz lo p mp _ s e1 HX.out k (by rw [HE1.out];exact ho);have HC0:=Ad5 hcall;have HR:=Ad5 hR;clear HS0 hR hcall;(obtain ⟨RR,hRR⟩:∃ RR,RR=Am s.data.toList e:=⟨_,rfl⟩);rw [←hRR];have HRR:=Ad5 hRR;clear hRR;clear ho;go_enter Tryz.func117,Tryz.ntmps117;go_wp2_with fail
 refine HC0.out.mono ?_;intro x w2 hx2;rcases Bb hx2 with ⟨q,hq,hb3,rfl⟩ | ⟨e',hq,hb3,rfl,hx4⟩
 ·have HQ:=Ad5 (HRR.out.trans (HR.out.trans hq));clear hx2 hq;go_wp2_with fail
  go_ret2
  exact A9 HQ.out (HB.out.trans hb3)
 ·have HQ:=Ad5 (HRR.out.trans (HR.out.trans hq));have HX4:=Ad5 hx4;clear hx2 hq hx4;go_wp2_with fail
  go_ret2
  exact Ay HQ.out (HB.out.trans hb3) HX4.out
theorem WJ (lo p mp:Nat) (w:World) (s:ByteArray) (e:ES) (k:Nat) (h:CN lo p mp w s e) (hs:s.size≤250) (hk:e.pos=k) (hl:k < s.size) (hc:byt s.data.toList k=41) (L:List Lv) (v:Lv) (ho:e.outer=L++[v]):Calls Tryz.prog 117 #[.pointer (some ⟨p,0,none⟩)] w fun x w'=>AU lo p mp s w x w' (Am s.data.toList e):=by
 obtain ⟨own,sv,mv,bv,pv,ov,rows,h⟩:=h;obtain ⟨sa,sc,rfl,e2,e3⟩:=h.sg;obtain ⟨g,rfl,hg,hgl,hcell⟩:=e3 (by omega);have kc:=hcell k hl;rw [hc] at kc;have hll:e.pos < s.data.toList.length:=(by rw [hk];simpa using hl);have HS0:=Bp s.data.toList e 41 hll (by rw [hk];exact hc);have k1:w.cell? ⟨p,1,none⟩=some (.slice (some ⟨g,0,none⟩) s.size sc):=(h.blk.cell 1).trans rfl;have k2:w.cell? ⟨p,2,none⟩=some (.int .i64 (k:Int)):=(by rw [←hk];exact (h.blk.cell 2).trans rfl);have i1:(k:Int) < (s.size:Int):=(by omega);obtain ⟨k1n,hk1⟩:∃ j,j=k+1:=⟨_,rfl⟩;have W1:IntKind.i64.wrap ((k:Int)+1)=(k1n:Int):=(by rw [Aej _ (by omega)];omega);have f2:=h.blk.frozen 2;have hplt:=h.blk.lt;have hgp:g≠p:=(fun x=>hg (x▸h.pown));have hpg:p≠g:=(fun x=>hgp x.symm);have hE:=h.goto k1n (h.ok.goto (by omega) (by simp;omega));have hB:=(Aeh lo w).setCell (p:=⟨p,2,none⟩) h.lop (.int .i64 (k1n:Int));have HOK:=Ad5 (fun e' he=>AR s.data.toList e e' h.ok hll he);have HLV:=Ad5 h.ok;obtain ⟨e1,he1⟩:∃ e1:ES,e1={ e with pos:=k1n }:=⟨_,rfl⟩;rw [←he1] at hE;have HE:=Ad5 hE;have HB:=Ad5 hB;have HE1:=Ad5 he1;have HK1:=Ad5 hk1;have HK:=Ad5 hk;have HC:=Ad5 hc;have HX:Hid (CN lo p mp (w.setCell ⟨p,2,none⟩ (.int .i64 (k1n:Int))) s e1):=Ad5 ⟨_,_,_,_,_,_,_,hE⟩;have HLL:=Ad5 hll;clear e3 hcell hgl hg hE hB he1 hk1 h hc hll hk;have hR:Am s.data.toList e=CC e1 k:=by rw [HS0,HE1.out,HK1.out,←HK.out];rfl
 have hi:=HE.out.ok.inner;have hps:=HE.out.ok.pos;have hsl:s.data.toList.length=s.size:=by simp
 have ho1:e1.outer=L++[v]:=by rw [HE1.out];exact ho
 have hst:CC e1 k=.ok { e1 with closed:=e1.closed++[(e1.inner.num:Int)],outer:=L,inner:={ v with pcs:=v.pcs++[.group (e1.inner.num:Int) e1.inner.whole] } }:=by unfold CC;rw [ho1,List.getLast?_concat,List.dropLast_concat]
 have hbl:(e1.inner.brs++[Bu e1.inner.pcs]).length≤251:=by rw [Aee];have:=hi.2.2.2.1;simp;omega
 have hcl1:e1.closed.length < e1.pos:=by rw [HE1.out];show e.closed.length < k1n;have:=HLV.out.closed;rw [HK1.out];have:=HK.out;omega
 have hcall:=Qw lo p mp _ s e1 HX.out k hs L v ho1 ⟨HE.out.ok.pos,HE.out.ok.outer v (by rw [ho1];simp),fun u hu=>HE.out.ok.outer u (by rw [ho1];exact List.mem_append_left _ hu),HE.out.ok.marks,HE.out.ok.groups,(by have:=HE.out.ok.deep;rw [ho1,Aee] at this;show L.length≤12;omega),(by show (e1.closed++[(e1.inner.num:Int)]).length≤e1.pos;rw [Aee];simp;omega)⟩ (HOK.out _ (hR.trans hst)) (Ko hi.1 hi.2.2.1 (by omega)) (O2 (BO hi.2.1 (Kk _ hi.1)) hbl (by omega));have HC0:=Ad5 hcall;have HR:=Ad5 hR;clear HS0 hR hcall;(obtain ⟨RR,hRR⟩:∃ RR,RR=Am s.data.toList e:=⟨_,rfl⟩);rw [←hRR];have HRR:=Ad5 hRR;clear hRR;clear ho hi hps hst hbl ho1 hcl1 hsl;go_enter Tryz.func117,Tryz.ntmps117;go_wp2_with fail
 refine HC0.out.mono ?_;intro x w2 hx2;rcases Bb hx2 with ⟨q,hq,hb3,rfl⟩ | ⟨e',hq,hb3,rfl,hx4⟩
 ·have HQ:=Ad5 (HRR.out.trans (HR.out.trans hq));clear hx2 hq;go_wp2_with fail
  go_ret2
  exact A9 HQ.out (HB.out.trans hb3)
 ·have HQ:=Ad5 (HRR.out.trans (HR.out.trans hq));have HX4:=Ad5 hx4;clear hx2 hq hx4;go_wp2_with fail
  go_ret2
  exact Ay HQ.out (HB.out.trans hb3) HX4.out
theorem TS (lo p mp:Nat) (w:World) (s:ByteArray) (e:ES) (k:Nat) (h:CN lo p mp w s e) (hs:s.size≤250) (hk:e.pos=k) (hl:k < s.size) (hc:byt s.data.toList k=42) (hf:A0 e.inner.pcs=true):Calls Tryz.prog 117 #[.pointer (some ⟨p,0,none⟩)] w fun x w'=>AU lo p mp s w x w' (Am s.data.toList e):=by
 obtain ⟨own,sv,mv,bv,pv,ov,rows,h⟩:=h;obtain ⟨sa,sc,rfl,e2,e3⟩:=h.sg;obtain ⟨g,rfl,hg,hgl,hcell⟩:=e3 (by omega);have kc:=hcell k hl;rw [hc] at kc;have hll:e.pos < s.data.toList.length:=(by rw [hk];simpa using hl);have HS0:=Bp s.data.toList e 42 hll (by rw [hk];exact hc);have k1:w.cell? ⟨p,1,none⟩=some (.slice (some ⟨g,0,none⟩) s.size sc):=(h.blk.cell 1).trans rfl;have k2:w.cell? ⟨p,2,none⟩=some (.int .i64 (k:Int)):=(by rw [←hk];exact (h.blk.cell 2).trans rfl);have i1:(k:Int) < (s.size:Int):=(by omega);obtain ⟨k1n,hk1⟩:∃ j,j=k+1:=⟨_,rfl⟩;have W1:IntKind.i64.wrap ((k:Int)+1)=(k1n:Int):=(by rw [Aej _ (by omega)];omega);have f2:=h.blk.frozen 2;have hplt:=h.blk.lt;have hgp:g≠p:=(fun x=>hg (x▸h.pown));have hpg:p≠g:=(fun x=>hgp x.symm);have hE:=h.goto k1n (h.ok.goto (by omega) (by simp;omega));have hB:=(Aeh lo w).setCell (p:=⟨p,2,none⟩) h.lop (.int .i64 (k1n:Int));have HOK:=Ad5 (fun e' he=>AR s.data.toList e e' h.ok hll he);have HLV:=Ad5 h.ok;obtain ⟨e1,he1⟩:∃ e1:ES,e1={ e with pos:=k1n }:=⟨_,rfl⟩;rw [←he1] at hE;have HE:=Ad5 hE;have HB:=Ad5 hB;have HE1:=Ad5 he1;have HK1:=Ad5 hk1;have HK:=Ad5 hk;have HC:=Ad5 hc;have HX:Hid (CN lo p mp (w.setCell ⟨p,2,none⟩ (.int .i64 (k1n:Int))) s e1):=Ad5 ⟨_,_,_,_,_,_,_,hE⟩;have HLL:=Ad5 hll;clear e3 hcell hgl hg hE hB he1 hk1 h hc hll hk;have hR:Am s.data.toList e=AD s.data.toList e1 k:=by rw [HS0,HE1.out,HK1.out,←HK.out];rfl
 have hf1:A0 e1.inner.pcs=true:=by rw [HE1.out];exact hf
 have hp1:e1.pos=k+1:=by rw [HE1.out];exact HK1.out
 have hcall:=Fq lo p mp _ s e1 k HX.out hs hf1;have HC0:=Ad5 hcall;have HR:=Ad5 hR;clear HS0 hR hcall;(obtain ⟨RR,hRR⟩:∃ RR,RR=Am s.data.toList e:=⟨_,rfl⟩);rw [←hRR];have HRR:=Ad5 hRR;clear hRR;clear hf hf1 hp1;go_enter Tryz.func117,Tryz.ntmps117;go_wp2_with fail
 refine HC0.out.mono ?_;intro x w2 hx2;rcases Bb hx2 with ⟨q,hq,hb3,rfl⟩ | ⟨e',hq,hb3,rfl,hx4⟩
 ·have HQ:=Ad5 (HRR.out.trans (HR.out.trans hq));clear hx2 hq;go_wp2_with fail
  go_ret2
  exact A9 HQ.out (HB.out.trans hb3)
 ·have HQ:=Ad5 (HRR.out.trans (HR.out.trans hq));have HX4:=Ad5 hx4;clear hx2 hq hx4;go_wp2_with fail
  go_ret2
  exact Ay HQ.out (HB.out.trans hb3) HX4.out
theorem TT (lo p mp:Nat) (w:World) (s:ByteArray) (e:ES) (k:Nat) (h:CN lo p mp w s e) (hs:s.size≤250) (hk:e.pos=k) (hl:k < s.size) (hc:byt s.data.toList k=43) (hf:A0 e.inner.pcs=true):Calls Tryz.prog 117 #[.pointer (some ⟨p,0,none⟩)] w fun x w'=>AU lo p mp s w x w' (Am s.data.toList e):=by
 obtain ⟨own,sv,mv,bv,pv,ov,rows,h⟩:=h;obtain ⟨sa,sc,rfl,e2,e3⟩:=h.sg;obtain ⟨g,rfl,hg,hgl,hcell⟩:=e3 (by omega);have kc:=hcell k hl;rw [hc] at kc;have hll:e.pos < s.data.toList.length:=(by rw [hk];simpa using hl);have HS0:=Bp s.data.toList e 43 hll (by rw [hk];exact hc);have k1:w.cell? ⟨p,1,none⟩=some (.slice (some ⟨g,0,none⟩) s.size sc):=(h.blk.cell 1).trans rfl;have k2:w.cell? ⟨p,2,none⟩=some (.int .i64 (k:Int)):=(by rw [←hk];exact (h.blk.cell 2).trans rfl);have i1:(k:Int) < (s.size:Int):=(by omega);obtain ⟨k1n,hk1⟩:∃ j,j=k+1:=⟨_,rfl⟩;have W1:IntKind.i64.wrap ((k:Int)+1)=(k1n:Int):=(by rw [Aej _ (by omega)];omega);have f2:=h.blk.frozen 2;have hplt:=h.blk.lt;have hgp:g≠p:=(fun x=>hg (x▸h.pown));have hpg:p≠g:=(fun x=>hgp x.symm);have hE:=h.goto k1n (h.ok.goto (by omega) (by simp;omega));have hB:=(Aeh lo w).setCell (p:=⟨p,2,none⟩) h.lop (.int .i64 (k1n:Int));have HOK:=Ad5 (fun e' he=>AR s.data.toList e e' h.ok hll he);have HLV:=Ad5 h.ok;obtain ⟨e1,he1⟩:∃ e1:ES,e1={ e with pos:=k1n }:=⟨_,rfl⟩;rw [←he1] at hE;have HE:=Ad5 hE;have HB:=Ad5 hB;have HE1:=Ad5 he1;have HK1:=Ad5 hk1;have HK:=Ad5 hk;have HC:=Ad5 hc;have HX:Hid (CN lo p mp (w.setCell ⟨p,2,none⟩ (.int .i64 (k1n:Int))) s e1):=Ad5 ⟨_,_,_,_,_,_,_,hE⟩;have HLL:=Ad5 hll;clear e3 hcell hgl hg hE hB he1 hk1 h hc hll hk;have hR:Am s.data.toList e=AD s.data.toList e1 k:=by rw [HS0,HE1.out,HK1.out,←HK.out];rfl
 have hf1:A0 e1.inner.pcs=true:=by rw [HE1.out];exact hf
 have hp1:e1.pos=k+1:=by rw [HE1.out];exact HK1.out
 have hcall:=Fq lo p mp _ s e1 k HX.out hs hf1;have HC0:=Ad5 hcall;have HR:=Ad5 hR;clear HS0 hR hcall;(obtain ⟨RR,hRR⟩:∃ RR,RR=Am s.data.toList e:=⟨_,rfl⟩);rw [←hRR];have HRR:=Ad5 hRR;clear hRR;clear hf hf1 hp1;go_enter Tryz.func117,Tryz.ntmps117;go_wp2_with fail
 refine HC0.out.mono ?_;intro x w2 hx2;rcases Bb hx2 with ⟨q,hq,hb3,rfl⟩ | ⟨e',hq,hb3,rfl,hx4⟩
 ·have HQ:=Ad5 (HRR.out.trans (HR.out.trans hq));clear hx2 hq;go_wp2_with fail
  go_ret2
  exact A9 HQ.out (HB.out.trans hb3)
 ·have HQ:=Ad5 (HRR.out.trans (HR.out.trans hq));have HX4:=Ad5 hx4;clear hx2 hq hx4;go_wp2_with fail
  go_ret2
  exact Ay HQ.out (HB.out.trans hb3) HX4.out
theorem TU (lo p mp:Nat) (w:World) (s:ByteArray) (e:ES) (k:Nat) (h:CN lo p mp w s e) (hs:s.size≤250) (hk:e.pos=k) (hl:k < s.size) (hc:byt s.data.toList k=63) (hf:A0 e.inner.pcs=true):Calls Tryz.prog 117 #[.pointer (some ⟨p,0,none⟩)] w fun x w'=>AU lo p mp s w x w' (Am s.data.toList e):=by
 obtain ⟨own,sv,mv,bv,pv,ov,rows,h⟩:=h;obtain ⟨sa,sc,rfl,e2,e3⟩:=h.sg;obtain ⟨g,rfl,hg,hgl,hcell⟩:=e3 (by omega);have kc:=hcell k hl;rw [hc] at kc;have hll:e.pos < s.data.toList.length:=(by rw [hk];simpa using hl);have HS0:=Bp s.data.toList e 63 hll (by rw [hk];exact hc);have k1:w.cell? ⟨p,1,none⟩=some (.slice (some ⟨g,0,none⟩) s.size sc):=(h.blk.cell 1).trans rfl;have k2:w.cell? ⟨p,2,none⟩=some (.int .i64 (k:Int)):=(by rw [←hk];exact (h.blk.cell 2).trans rfl);have i1:(k:Int) < (s.size:Int):=(by omega);obtain ⟨k1n,hk1⟩:∃ j,j=k+1:=⟨_,rfl⟩;have W1:IntKind.i64.wrap ((k:Int)+1)=(k1n:Int):=(by rw [Aej _ (by omega)];omega);have f2:=h.blk.frozen 2;have hplt:=h.blk.lt;have hgp:g≠p:=(fun x=>hg (x▸h.pown));have hpg:p≠g:=(fun x=>hgp x.symm);have hE:=h.goto k1n (h.ok.goto (by omega) (by simp;omega));have hB:=(Aeh lo w).setCell (p:=⟨p,2,none⟩) h.lop (.int .i64 (k1n:Int));have HOK:=Ad5 (fun e' he=>AR s.data.toList e e' h.ok hll he);have HLV:=Ad5 h.ok;obtain ⟨e1,he1⟩:∃ e1:ES,e1={ e with pos:=k1n }:=⟨_,rfl⟩;rw [←he1] at hE;have HE:=Ad5 hE;have HB:=Ad5 hB;have HE1:=Ad5 he1;have HK1:=Ad5 hk1;have HK:=Ad5 hk;have HC:=Ad5 hc;have HX:Hid (CN lo p mp (w.setCell ⟨p,2,none⟩ (.int .i64 (k1n:Int))) s e1):=Ad5 ⟨_,_,_,_,_,_,_,hE⟩;have HLL:=Ad5 hll;clear e3 hcell hgl hg hE hB he1 hk1 h hc hll hk;have hR:Am s.data.toList e=AD s.data.toList e1 k:=by rw [HS0,HE1.out,HK1.out,←HK.out];rfl
 have hf1:A0 e1.inner.pcs=true:=by rw [HE1.out];exact hf
 have hp1:e1.pos=k+1:=by rw [HE1.out];exact HK1.out
 have hcall:=Fq lo p mp _ s e1 k HX.out hs hf1;have HC0:=Ad5 hcall;have HR:=Ad5 hR;clear HS0 hR hcall;(obtain ⟨RR,hRR⟩:∃ RR,RR=Am s.data.toList e:=⟨_,rfl⟩);rw [←hRR];have HRR:=Ad5 hRR;clear hRR;clear hf hf1 hp1;go_enter Tryz.func117,Tryz.ntmps117;go_wp2_with fail
 refine HC0.out.mono ?_;intro x w2 hx2;rcases Bb hx2 with ⟨q,hq,hb3,rfl⟩ | ⟨e',hq,hb3,rfl,hx4⟩
 ·have HQ:=Ad5 (HRR.out.trans (HR.out.trans hq));clear hx2 hq;go_wp2_with fail
  go_ret2
  exact A9 HQ.out (HB.out.trans hb3)
 ·have HQ:=Ad5 (HRR.out.trans (HR.out.trans hq));have HX4:=Ad5 hx4;clear hx2 hq hx4;go_wp2_with fail
  go_ret2
  exact Ay HQ.out (HB.out.trans hb3) HX4.out
theorem Qz (lo p mp:Nat) (w:World) (s:ByteArray) (e:ES) (k:Nat) (h:CN lo p mp w s e) (hs:s.size≤250) (hk:e.pos=k) (hl:k < s.size) (hc:byt s.data.toList k=123) (hf:A0 e.inner.pcs=true):Calls Tryz.prog 117 #[.pointer (some ⟨p,0,none⟩)] w fun x w'=>AU lo p mp s w x w' (Am s.data.toList e):=by
 obtain ⟨own,sv,mv,bv,pv,ov,rows,h⟩:=h;obtain ⟨sa,sc,rfl,e2,e3⟩:=h.sg;obtain ⟨g,rfl,hg,hgl,hcell⟩:=e3 (by omega);have kc:=hcell k hl;rw [hc] at kc;have hll:e.pos < s.data.toList.length:=(by rw [hk];simpa using hl);have HS0:=Bp s.data.toList e 123 hll (by rw [hk];exact hc);have k1:w.cell? ⟨p,1,none⟩=some (.slice (some ⟨g,0,none⟩) s.size sc):=(h.blk.cell 1).trans rfl;have k2:w.cell? ⟨p,2,none⟩=some (.int .i64 (k:Int)):=(by rw [←hk];exact (h.blk.cell 2).trans rfl);have i1:(k:Int) < (s.size:Int):=(by omega);obtain ⟨k1n,hk1⟩:∃ j,j=k+1:=⟨_,rfl⟩;have W1:IntKind.i64.wrap ((k:Int)+1)=(k1n:Int):=(by rw [Aej _ (by omega)];omega);have f2:=h.blk.frozen 2;have hplt:=h.blk.lt;have hgp:g≠p:=(fun x=>hg (x▸h.pown));have hpg:p≠g:=(fun x=>hgp x.symm);have hE:=h.goto k1n (h.ok.goto (by omega) (by simp;omega));have hB:=(Aeh lo w).setCell (p:=⟨p,2,none⟩) h.lop (.int .i64 (k1n:Int));have HOK:=Ad5 (fun e' he=>AR s.data.toList e e' h.ok hll he);have HLV:=Ad5 h.ok;obtain ⟨e1,he1⟩:∃ e1:ES,e1={ e with pos:=k1n }:=⟨_,rfl⟩;rw [←he1] at hE;have HE:=Ad5 hE;have HB:=Ad5 hB;have HE1:=Ad5 he1;have HK1:=Ad5 hk1;have HK:=Ad5 hk;have HC:=Ad5 hc;have HX:Hid (CN lo p mp (w.setCell ⟨p,2,none⟩ (.int .i64 (k1n:Int))) s e1):=Ad5 ⟨_,_,_,_,_,_,_,hE⟩;have HLL:=Ad5 hll;clear e3 hcell hgl hg hE hB he1 hk1 h hc hll hk;have hR:Am s.data.toList e=AD s.data.toList e1 k:=by rw [HS0,HE1.out,HK1.out,←HK.out];rfl
 have hf1:A0 e1.inner.pcs=true:=by rw [HE1.out];exact hf
 have hp1:e1.pos=k+1:=by rw [HE1.out];exact HK1.out
 have hcall:=Fq lo p mp _ s e1 k HX.out hs hf1;have HC0:=Ad5 hcall;have HR:=Ad5 hR;clear HS0 hR hcall;(obtain ⟨RR,hRR⟩:∃ RR,RR=Am s.data.toList e:=⟨_,rfl⟩);rw [←hRR];have HRR:=Ad5 hRR;clear hRR;clear hf hf1 hp1;go_enter Tryz.func117,Tryz.ntmps117;go_wp2_with fail
 refine HC0.out.mono ?_;intro x w2 hx2;rcases Bb hx2 with ⟨q,hq,hb3,rfl⟩ | ⟨e',hq,hb3,rfl,hx4⟩
 ·have HQ:=Ad5 (HRR.out.trans (HR.out.trans hq));clear hx2 hq;go_wp2_with fail
  go_ret2
  exact A9 HQ.out (HB.out.trans hb3)
 ·have HQ:=Ad5 (HRR.out.trans (HR.out.trans hq));have HX4:=Ad5 hx4;clear hx2 hq hx4;go_wp2_with fail
  go_ret2
  exact Ay HQ.out (HB.out.trans hb3) HX4.out
theorem TV (lo p mp:Nat) (w:World) (s:ByteArray) (e:ES) (k:Nat) (h:CN lo p mp w s e) (hs:s.size≤250) (hk:e.pos=k) (hl:k < s.size) (hc:byt s.data.toList k=42) (hf:A0 e.inner.pcs=false):Calls Tryz.prog 117 #[.pointer (some ⟨p,0,none⟩)] w fun x w'=>AU lo p mp s w x w' (Am s.data.toList e):=by
 obtain ⟨own,sv,mv,bv,pv,ov,rows,h⟩:=h;obtain ⟨sa,sc,rfl,e2,e3⟩:=h.sg;obtain ⟨g,rfl,hg,hgl,hcell⟩:=e3 (by omega);have kc:=hcell k hl;rw [hc] at kc;have hll:e.pos < s.data.toList.length:=(by rw [hk];simpa using hl);have HS0:=Bp s.data.toList e 42 hll (by rw [hk];exact hc);have k1:w.cell? ⟨p,1,none⟩=some (.slice (some ⟨g,0,none⟩) s.size sc):=(h.blk.cell 1).trans rfl;have k2:w.cell? ⟨p,2,none⟩=some (.int .i64 (k:Int)):=(by rw [←hk];exact (h.blk.cell 2).trans rfl);have i1:(k:Int) < (s.size:Int):=(by omega);obtain ⟨k1n,hk1⟩:∃ j,j=k+1:=⟨_,rfl⟩;have W1:IntKind.i64.wrap ((k:Int)+1)=(k1n:Int):=(by rw [Aej _ (by omega)];omega);have f2:=h.blk.frozen 2;have hplt:=h.blk.lt;have hgp:g≠p:=(fun x=>hg (x▸h.pown));have hpg:p≠g:=(fun x=>hgp x.symm);have hE:=h.goto k1n (h.ok.goto (by omega) (by simp;omega));have hB:=(Aeh lo w).setCell (p:=⟨p,2,none⟩) h.lop (.int .i64 (k1n:Int));have HOK:=Ad5 (fun e' he=>AR s.data.toList e e' h.ok hll he);have HLV:=Ad5 h.ok;obtain ⟨e1,he1⟩:∃ e1:ES,e1={ e with pos:=k1n }:=⟨_,rfl⟩;rw [←he1] at hE;have HE:=Ad5 hE;have HB:=Ad5 hB;have HE1:=Ad5 he1;have HK1:=Ad5 hk1;have HK:=Ad5 hk;have HC:=Ad5 hc;have HX:Hid (CN lo p mp (w.setCell ⟨p,2,none⟩ (.int .i64 (k1n:Int))) s e1):=Ad5 ⟨_,_,_,_,_,_,_,hE⟩;have HLL:=Ad5 hll;clear e3 hcell hgl hg hE hB he1 hk1 h hc hll hk;have hR:Am s.data.toList e=AD s.data.toList e1 k:=by rw [HS0,HE1.out,HK1.out,←HK.out];rfl
 have hf1:A0 e1.inner.pcs=false:=by rw [HE1.out];exact hf
 have hp1:e1.pos=k+1:=by rw [HE1.out];exact HK1.out
 have hrep:repAt true s.data.toList k=.some 0 (-1) 0 (k+1):=TN (by rw [←HK.out];exact HLL.out) HC.out;have hst:AD s.data.toList e1 k=.ok (e1.at e1.st (e1.inner.pcs.dropLast++[.rep (e1.inner.pcs.getLastD .empty) 0 (-1)])):=by unfold AD;rw [hf1,hrep];show Except.ok (e1.at (e1.st.to (k+1)) _)=_;rw [←hp1];rfl
 have hcall:=TG lo p mp _ s e1 k HX.out hs hp1 hf1 HC.out (HOK.out _ (hR.trans hst));have HC0:=Ad5 hcall;have HR:=Ad5 hR;clear HS0 hR hcall;(obtain ⟨RR,hRR⟩:∃ RR,RR=Am s.data.toList e:=⟨_,rfl⟩);rw [←hRR];have HRR:=Ad5 hRR;clear hRR;clear hf hf1 hp1 hrep hst;go_enter Tryz.func117,Tryz.ntmps117;go_wp2_with fail
 refine HC0.out.mono ?_;intro x w2 hx2;rcases Bb hx2 with ⟨q,hq,hb3,rfl⟩ | ⟨e',hq,hb3,rfl,hx4⟩
 ·have HQ:=Ad5 (HRR.out.trans (HR.out.trans hq));clear hx2 hq;go_wp2_with fail
  go_ret2
  exact A9 HQ.out (HB.out.trans hb3)
 ·have HQ:=Ad5 (HRR.out.trans (HR.out.trans hq));have HX4:=Ad5 hx4;clear hx2 hq hx4;go_wp2_with fail
  go_ret2
  exact Ay HQ.out (HB.out.trans hb3) HX4.out
theorem TW (lo p mp:Nat) (w:World) (s:ByteArray) (e:ES) (k:Nat) (h:CN lo p mp w s e) (hs:s.size≤250) (hk:e.pos=k) (hl:k < s.size) (hc:byt s.data.toList k=43) (hf:A0 e.inner.pcs=false):Calls Tryz.prog 117 #[.pointer (some ⟨p,0,none⟩)] w fun x w'=>AU lo p mp s w x w' (Am s.data.toList e):=by
 obtain ⟨own,sv,mv,bv,pv,ov,rows,h⟩:=h;obtain ⟨sa,sc,rfl,e2,e3⟩:=h.sg;obtain ⟨g,rfl,hg,hgl,hcell⟩:=e3 (by omega);have kc:=hcell k hl;rw [hc] at kc;have hll:e.pos < s.data.toList.length:=(by rw [hk];simpa using hl);have HS0:=Bp s.data.toList e 43 hll (by rw [hk];exact hc);have k1:w.cell? ⟨p,1,none⟩=some (.slice (some ⟨g,0,none⟩) s.size sc):=(h.blk.cell 1).trans rfl;have k2:w.cell? ⟨p,2,none⟩=some (.int .i64 (k:Int)):=(by rw [←hk];exact (h.blk.cell 2).trans rfl);have i1:(k:Int) < (s.size:Int):=(by omega);obtain ⟨k1n,hk1⟩:∃ j,j=k+1:=⟨_,rfl⟩;have W1:IntKind.i64.wrap ((k:Int)+1)=(k1n:Int):=(by rw [Aej _ (by omega)];omega);have f2:=h.blk.frozen 2;have hplt:=h.blk.lt;have hgp:g≠p:=(fun x=>hg (x▸h.pown));have hpg:p≠g:=(fun x=>hgp x.symm);have hE:=h.goto k1n (h.ok.goto (by omega) (by simp;omega));have hB:=(Aeh lo w).setCell (p:=⟨p,2,none⟩) h.lop (.int .i64 (k1n:Int));have HOK:=Ad5 (fun e' he=>AR s.data.toList e e' h.ok hll he);have HLV:=Ad5 h.ok;obtain ⟨e1,he1⟩:∃ e1:ES,e1={ e with pos:=k1n }:=⟨_,rfl⟩;rw [←he1] at hE;have HE:=Ad5 hE;have HB:=Ad5 hB;have HE1:=Ad5 he1;have HK1:=Ad5 hk1;have HK:=Ad5 hk;have HC:=Ad5 hc;have HX:Hid (CN lo p mp (w.setCell ⟨p,2,none⟩ (.int .i64 (k1n:Int))) s e1):=Ad5 ⟨_,_,_,_,_,_,_,hE⟩;have HLL:=Ad5 hll;clear e3 hcell hgl hg hE hB he1 hk1 h hc hll hk;have hR:Am s.data.toList e=AD s.data.toList e1 k:=by rw [HS0,HE1.out,HK1.out,←HK.out];rfl
 have hf1:A0 e1.inner.pcs=false:=by rw [HE1.out];exact hf
 have hp1:e1.pos=k+1:=by rw [HE1.out];exact HK1.out
 have hrep:repAt true s.data.toList k=.some 1 (-1) 0 (k+1):=TO (by rw [←HK.out];exact HLL.out) HC.out;have hst:AD s.data.toList e1 k=.ok (e1.at e1.st (e1.inner.pcs.dropLast++[.rep (e1.inner.pcs.getLastD .empty) 1 (-1)])):=by unfold AD;rw [hf1,hrep];show Except.ok (e1.at (e1.st.to (k+1)) _)=_;rw [←hp1];rfl
 have hcall:=TH lo p mp _ s e1 k HX.out hs hp1 hf1 HC.out (HOK.out _ (hR.trans hst));have HC0:=Ad5 hcall;have HR:=Ad5 hR;clear HS0 hR hcall;(obtain ⟨RR,hRR⟩:∃ RR,RR=Am s.data.toList e:=⟨_,rfl⟩);rw [←hRR];have HRR:=Ad5 hRR;clear hRR;clear hf hf1 hp1 hrep hst;go_enter Tryz.func117,Tryz.ntmps117;go_wp2_with fail
 refine HC0.out.mono ?_;intro x w2 hx2;rcases Bb hx2 with ⟨q,hq,hb3,rfl⟩ | ⟨e',hq,hb3,rfl,hx4⟩
 ·have HQ:=Ad5 (HRR.out.trans (HR.out.trans hq));clear hx2 hq;go_wp2_with fail
  go_ret2
  exact A9 HQ.out (HB.out.trans hb3)
 ·have HQ:=Ad5 (HRR.out.trans (HR.out.trans hq));have HX4:=Ad5 hx4;clear hx2 hq hx4;go_wp2_with fail
  go_ret2
  exact Ay HQ.out (HB.out.trans hb3) HX4.out
theorem TX (lo p mp:Nat) (w:World) (s:ByteArray) (e:ES) (k:Nat) (h:CN lo p mp w s e) (hs:s.size≤250) (hk:e.pos=k) (hl:k < s.size) (hc:byt s.data.toList k=63) (hf:A0 e.inner.pcs=false):Calls Tryz.prog 117 #[.pointer (some ⟨p,0,none⟩)] w fun x w'=>AU lo p mp s w x w' (Am s.data.toList e):=by
 obtain ⟨own,sv,mv,bv,pv,ov,rows,h⟩:=h;obtain ⟨sa,sc,rfl,e2,e3⟩:=h.sg;obtain ⟨g,rfl,hg,hgl,hcell⟩:=e3 (by omega);have kc:=hcell k hl;rw [hc] at kc;have hll:e.pos < s.data.toList.length:=(by rw [hk];simpa using hl);have HS0:=Bp s.data.toList e 63 hll (by rw [hk];exact hc);have k1:w.cell? ⟨p,1,none⟩=some (.slice (some ⟨g,0,none⟩) s.size sc):=(h.blk.cell 1).trans rfl;have k2:w.cell? ⟨p,2,none⟩=some (.int .i64 (k:Int)):=(by rw [←hk];exact (h.blk.cell 2).trans rfl);have i1:(k:Int) < (s.size:Int):=(by omega);obtain ⟨k1n,hk1⟩:∃ j,j=k+1:=⟨_,rfl⟩;have W1:IntKind.i64.wrap ((k:Int)+1)=(k1n:Int):=(by rw [Aej _ (by omega)];omega);have f2:=h.blk.frozen 2;have hplt:=h.blk.lt;have hgp:g≠p:=(fun x=>hg (x▸h.pown));have hpg:p≠g:=(fun x=>hgp x.symm);have hE:=h.goto k1n (h.ok.goto (by omega) (by simp;omega));have hB:=(Aeh lo w).setCell (p:=⟨p,2,none⟩) h.lop (.int .i64 (k1n:Int));have HOK:=Ad5 (fun e' he=>AR s.data.toList e e' h.ok hll he);have HLV:=Ad5 h.ok;obtain ⟨e1,he1⟩:∃ e1:ES,e1={ e with pos:=k1n }:=⟨_,rfl⟩;rw [←he1] at hE;have HE:=Ad5 hE;have HB:=Ad5 hB;have HE1:=Ad5 he1;have HK1:=Ad5 hk1;have HK:=Ad5 hk;have HC:=Ad5 hc;have HX:Hid (CN lo p mp (w.setCell ⟨p,2,none⟩ (.int .i64 (k1n:Int))) s e1):=Ad5 ⟨_,_,_,_,_,_,_,hE⟩;have HLL:=Ad5 hll;clear e3 hcell hgl hg hE hB he1 hk1 h hc hll hk;have hR:Am s.data.toList e=AD s.data.toList e1 k:=by rw [HS0,HE1.out,HK1.out,←HK.out];rfl
 have hf1:A0 e1.inner.pcs=false:=by rw [HE1.out];exact hf
 have hp1:e1.pos=k+1:=by rw [HE1.out];exact HK1.out
 have hrep:repAt true s.data.toList k=.some 0 1 0 (k+1):=WF (by rw [←HK.out];exact HLL.out) HC.out;have hst:AD s.data.toList e1 k=.ok (e1.at e1.st (e1.inner.pcs.dropLast++[.rep (e1.inner.pcs.getLastD .empty) 0 1])):=by unfold AD;rw [hf1,hrep];show Except.ok (e1.at (e1.st.to (k+1)) _)=_;rw [←hp1];rfl
 have hcall:=WC lo p mp _ s e1 k HX.out hs hp1 hf1 HC.out (HOK.out _ (hR.trans hst));have HC0:=Ad5 hcall;have HR:=Ad5 hR;clear HS0 hR hcall;(obtain ⟨RR,hRR⟩:∃ RR,RR=Am s.data.toList e:=⟨_,rfl⟩);rw [←hRR];have HRR:=Ad5 hRR;clear hRR;clear hf hf1 hp1 hrep hst;go_enter Tryz.func117,Tryz.ntmps117;go_wp2_with fail
 refine HC0.out.mono ?_;intro x w2 hx2;rcases Bb hx2 with ⟨q,hq,hb3,rfl⟩ | ⟨e',hq,hb3,rfl,hx4⟩
 ·have HQ:=Ad5 (HRR.out.trans (HR.out.trans hq));clear hx2 hq;go_wp2_with fail
  go_ret2
  exact A9 HQ.out (HB.out.trans hb3)
 ·have HQ:=Ad5 (HRR.out.trans (HR.out.trans hq));have HX4:=Ad5 hx4;clear hx2 hq hx4;go_wp2_with fail
  go_ret2
  exact Ay HQ.out (HB.out.trans hb3) HX4.out
theorem Q0 (lo p mp:Nat) (w:World) (s:ByteArray) (e:ES) (k:Nat) (h:CN lo p mp w s e) (hs:s.size≤250) (hk:e.pos=k) (hl:k < s.size) (hc:byt s.data.toList k=123) (hf:A0 e.inner.pcs=false):Calls Tryz.prog 117 #[.pointer (some ⟨p,0,none⟩)] w fun x w'=>AU lo p mp s w x w' (Am s.data.toList e):=by
 obtain ⟨own,sv,mv,bv,pv,ov,rows,h⟩:=h;obtain ⟨sa,sc,rfl,e2,e3⟩:=h.sg;obtain ⟨g,rfl,hg,hgl,hcell⟩:=e3 (by omega);have kc:=hcell k hl;rw [hc] at kc;have hll:e.pos < s.data.toList.length:=(by rw [hk];simpa using hl);have HS0:=Bp s.data.toList e 123 hll (by rw [hk];exact hc);have k1:w.cell? ⟨p,1,none⟩=some (.slice (some ⟨g,0,none⟩) s.size sc):=(h.blk.cell 1).trans rfl;have k2:w.cell? ⟨p,2,none⟩=some (.int .i64 (k:Int)):=(by rw [←hk];exact (h.blk.cell 2).trans rfl);have i1:(k:Int) < (s.size:Int):=(by omega);obtain ⟨k1n,hk1⟩:∃ j,j=k+1:=⟨_,rfl⟩;have W1:IntKind.i64.wrap ((k:Int)+1)=(k1n:Int):=(by rw [Aej _ (by omega)];omega);have f2:=h.blk.frozen 2;have hplt:=h.blk.lt;have hgp:g≠p:=(fun x=>hg (x▸h.pown));have hpg:p≠g:=(fun x=>hgp x.symm);have hE:=h.goto k1n (h.ok.goto (by omega) (by simp;omega));have hB:=(Aeh lo w).setCell (p:=⟨p,2,none⟩) h.lop (.int .i64 (k1n:Int));have HOK:=Ad5 (fun e' he=>AR s.data.toList e e' h.ok hll he);have HLV:=Ad5 h.ok;obtain ⟨e1,he1⟩:∃ e1:ES,e1={ e with pos:=k1n }:=⟨_,rfl⟩;rw [←he1] at hE;have HE:=Ad5 hE;have HB:=Ad5 hB;have HE1:=Ad5 he1;have HK1:=Ad5 hk1;have HK:=Ad5 hk;have HC:=Ad5 hc;have HX:Hid (CN lo p mp (w.setCell ⟨p,2,none⟩ (.int .i64 (k1n:Int))) s e1):=Ad5 ⟨_,_,_,_,_,_,_,hE⟩;have HLL:=Ad5 hll;clear e3 hcell hgl hg hE hB he1 hk1 h hc hll hk;have hR:Am s.data.toList e=AD s.data.toList e1 k:=by rw [HS0,HE1.out,HK1.out,←HK.out];rfl
 have hf1:A0 e1.inner.pcs=false:=by rw [HE1.out];exact hf
 have hp1:e1.pos=k+1:=by rw [HE1.out];exact HK1.out
 have hst:∀ m n j,repAt true s.data.toList k=.some m n 0 j→AD s.data.toList e1 k=.ok (e1.at (e1.st.to j) (e1.inner.pcs.dropLast++[.rep (e1.inner.pcs.getLastD .empty) m n])):=fun m n j hrep=>by unfold AD;rw [hf1,hrep];rfl
 have hcall:=Qv lo p mp _ s e1 k HX.out hs hp1 hf1 HC.out (fun m n j hrep=>HE.out.ok.goto (by rw [hp1];exact (FC _ _ _ _ _ _ _ hrep).1) (FC _ _ _ _ _ _ _ hrep).2) (fun m n j hrep=>HOK.out _ (hR.trans (hst m n j hrep)));have HC0:=Ad5 hcall;have HR:=Ad5 hR;clear HS0 hR hcall;(obtain ⟨RR,hRR⟩:∃ RR,RR=Am s.data.toList e:=⟨_,rfl⟩);rw [←hRR];have HRR:=Ad5 hRR;clear hRR;clear hf hf1 hp1 hst;go_enter Tryz.func117,Tryz.ntmps117;go_wp2_with fail
 refine HC0.out.mono ?_;intro x w2 hx2;rcases Bb hx2 with ⟨q,hq,hb3,rfl⟩ | ⟨e',hq,hb3,rfl,hx4⟩
 ·have HQ:=Ad5 (HRR.out.trans (HR.out.trans hq));clear hx2 hq;go_wp2_with fail
  go_ret2
  exact A9 HQ.out (HB.out.trans hb3)
 ·have HQ:=Ad5 (HRR.out.trans (HR.out.trans hq));have HX4:=Ad5 hx4;clear hx2 hq hx4;go_wp2_with fail
  go_ret2
  exact Ay HQ.out (HB.out.trans hb3) HX4.out
theorem WK (lo p mp:Nat) (w:World) (s:ByteArray) (e:ES) (k:Nat) (h:CN lo p mp w s e) (hs:s.size≤250) (hk:e.pos=k) (hl:k < s.size) (hc:byt s.data.toList k=91) (hG:Gl w) (hlo3:glN≤lo):Calls Tryz.prog 117 #[.pointer (some ⟨p,0,none⟩)] w fun x w'=>AU lo p mp s w x w' (Am s.data.toList e):=by
 obtain ⟨own,sv,mv,bv,pv,ov,rows,h⟩:=h;obtain ⟨sa,sc,rfl,e2,e3⟩:=h.sg;obtain ⟨g,rfl,hg,hgl,hcell⟩:=e3 (by omega);have kc:=hcell k hl;rw [hc] at kc;have hll:e.pos < s.data.toList.length:=(by rw [hk];simpa using hl);have HS0:=Bp s.data.toList e 91 hll (by rw [hk];exact hc);have k1:w.cell? ⟨p,1,none⟩=some (.slice (some ⟨g,0,none⟩) s.size sc):=(h.blk.cell 1).trans rfl;have k2:w.cell? ⟨p,2,none⟩=some (.int .i64 (k:Int)):=(by rw [←hk];exact (h.blk.cell 2).trans rfl);have i1:(k:Int) < (s.size:Int):=(by omega);obtain ⟨k1n,hk1⟩:∃ j,j=k+1:=⟨_,rfl⟩;have W1:IntKind.i64.wrap ((k:Int)+1)=(k1n:Int):=(by rw [Aej _ (by omega)];omega);have f2:=h.blk.frozen 2;have hplt:=h.blk.lt;have hgp:g≠p:=(fun x=>hg (x▸h.pown));have hpg:p≠g:=(fun x=>hgp x.symm);have hE:=h.goto k1n (h.ok.goto (by omega) (by simp;omega));have hB:=(Aeh lo w).setCell (p:=⟨p,2,none⟩) h.lop (.int .i64 (k1n:Int));have HOK:=Ad5 (fun e' he=>AR s.data.toList e e' h.ok hll he);have HLV:=Ad5 h.ok;obtain ⟨e1,he1⟩:∃ e1:ES,e1={ e with pos:=k1n }:=⟨_,rfl⟩;rw [←he1] at hE;have HE:=Ad5 hE;have HB:=Ad5 hB;have HE1:=Ad5 he1;have HK1:=Ad5 hk1;have HK:=Ad5 hk;have HC:=Ad5 hc;have HX:Hid (CN lo p mp (w.setCell ⟨p,2,none⟩ (.int .i64 (k1n:Int))) s e1):=Ad5 ⟨_,_,_,_,_,_,_,hE⟩;have HLL:=Ad5 hll;clear e3 hcell hgl hg hE hB he1 hk1 h hc hll hk;obtain ⟨t,j,er,hprs,hj⟩:=JB s.data.toList k1n (by rw [HK1.out];have:=HLL.out;have:=HK.out;omega);have hkk:((e.pos:Int)+1)=(k1n:Int):=by rw [HK1.out,HK.out];omega
 have hp1:e1.pos=k1n:=by rw [HE1.out]
 have hR:Am s.data.toList e=(if er=0 then .ok (({ e1 with pos:=j }:ES).at ({ e1 with pos:=j }:ES).st (e1.inner.pcs++[.one t])) else .error (er,j)):=by
  rw [HS0];unfold I3;rw [if_neg (by decide),if_neg (by decide),if_neg (by decide),if_neg (by decide),if_neg (by decide),if_neg (by decide),if_pos rfl,hkk,hprs,HE1.out];simp only [Int.toNat_natCast];rfl
 have hcall:=MV lo p mp _ s e1 HX.out (hG.below HB.out hlo3) hs t j er (by rw [hp1];exact hprs) (fun h0=>HE.out.ok.goto (by rw [hp1];exact Aeg (hj h0).1) (hj h0).2) (fun h0=>HOK.out _ (hR.trans (if_pos h0)));have HC0:=Ad5 hcall;have HR:=Ad5 hR;clear HS0 hR hcall;(obtain ⟨RR,hRR⟩:∃ RR,RR=Am s.data.toList e:=⟨_,rfl⟩);rw [←hRR];have HRR:=Ad5 hRR;clear hRR;clear hp1 hkk hj hprs hG;go_enter Tryz.func117,Tryz.ntmps117;go_wp2_with fail
 refine HC0.out.mono ?_;intro x w2 hx2;rcases Bb hx2 with ⟨q,hq,hb3,rfl⟩ | ⟨e',hq,hb3,rfl,hx4⟩
 ·have HQ:=Ad5 (HRR.out.trans (HR.out.trans hq));clear hx2 hq;go_wp2_with fail
  go_ret2
  exact A9 HQ.out (HB.out.trans hb3)
 ·have HQ:=Ad5 (HRR.out.trans (HR.out.trans hq));have HX4:=Ad5 hx4;clear hx2 hq hx4;go_wp2_with fail
  go_ret2
  exact Ay HQ.out (HB.out.trans hb3) HX4.out
theorem WL (lo p mp:Nat) (w:World) (s:ByteArray) (e:ES) (k:Nat) (h:CN lo p mp w s e) (hs:s.size≤250) (hk:e.pos=k) (hl:k < s.size) (hc:byt s.data.toList k=92):Calls Tryz.prog 117 #[.pointer (some ⟨p,0,none⟩)] w fun x w'=>AU lo p mp s w x w' (Am s.data.toList e):=by
 obtain ⟨own,sv,mv,bv,pv,ov,rows,h⟩:=h;obtain ⟨sa,sc,rfl,e2,e3⟩:=h.sg;obtain ⟨g,rfl,hg,hgl,hcell⟩:=e3 (by omega);have kc:=hcell k hl;rw [hc] at kc;have hll:e.pos < s.data.toList.length:=(by rw [hk];simpa using hl);have HS0:=Bp s.data.toList e 92 hll (by rw [hk];exact hc);have k1:w.cell? ⟨p,1,none⟩=some (.slice (some ⟨g,0,none⟩) s.size sc):=(h.blk.cell 1).trans rfl;have k2:w.cell? ⟨p,2,none⟩=some (.int .i64 (k:Int)):=(by rw [←hk];exact (h.blk.cell 2).trans rfl);have i1:(k:Int) < (s.size:Int):=(by omega);obtain ⟨k1n,hk1⟩:∃ j,j=k+1:=⟨_,rfl⟩;have W1:IntKind.i64.wrap ((k:Int)+1)=(k1n:Int):=(by rw [Aej _ (by omega)];omega);have f2:=h.blk.frozen 2;have hplt:=h.blk.lt;have hgp:g≠p:=(fun x=>hg (x▸h.pown));have hpg:p≠g:=(fun x=>hgp x.symm);have hE:=h.goto k1n (h.ok.goto (by omega) (by simp;omega));have hB:=(Aeh lo w).setCell (p:=⟨p,2,none⟩) h.lop (.int .i64 (k1n:Int));have HOK:=Ad5 (fun e' he=>AR s.data.toList e e' h.ok hll he);have HLV:=Ad5 h.ok;obtain ⟨e1,he1⟩:∃ e1:ES,e1={ e with pos:=k1n }:=⟨_,rfl⟩;rw [←he1] at hE;have HE:=Ad5 hE;have HB:=Ad5 hB;have HE1:=Ad5 he1;have HK1:=Ad5 hk1;have HK:=Ad5 hk;have HC:=Ad5 hc;have HX:Hid (CN lo p mp (w.setCell ⟨p,2,none⟩ (.int .i64 (k1n:Int))) s e1):=Ad5 ⟨_,_,_,_,_,_,_,hE⟩;have HLL:=Ad5 hll;clear e3 hcell hgl hg hE hB he1 hk1 h hc hll hk;have hR:Am s.data.toList e=BE s.data.toList e1 k:=by rw [HS0,HE1.out,HK1.out,←HK.out];rfl
 have hp1:e1.pos=k+1:=by rw [HE1.out];exact HK1.out
 have hmk:e1.marks.length≤k:=by rw [HE1.out];show e.marks.length≤k;rw [←HK.out];exact HLV.out.marks
 have hpk:e1.inner.pcs.length≤k:=by rw [HE1.out];show e.inner.pcs.length≤k;rw [←HK.out];exact HLV.out.inner.2.2.1
 have hcall:Calls Tryz.prog 136 #[.pointer (some ⟨p,0,none⟩),.int .i64 (k:Int)] (w.setCell ⟨p,2,none⟩ (.int .i64 (k1n:Int))) fun x w'=>AU lo p mp s (w.setCell ⟨p,2,none⟩ (.int .i64 (k1n:Int))) x w' (BE s.data.toList e1 k):=by
  by_cases hlt:k+1 < s.size
  ·by_cases hd:49≤byt s.data.toList (k+1)∧byt s.data.toList (k+1)≤57
   ·cases hcc:e1.closed.contains (((byt s.data.toList (k+1):Nat):Int) - 48) with
    | true=>exact TK lo p mp _ s e1 k HX.out hs hp1 hlt HC.out _ rfl hd hcc hmk hpk
    | false=>exact WE lo p mp _ s e1 k HX.out hs hp1 hlt _ rfl hd hcc
   ·cases hn:CG (byt s.data.toList (k+1)) with
    | none=>exact TL lo p mp _ s e1 k HX.out hs hp1 hlt _ rfl hd hn
    | some q=>
     obtain ⟨t,m⟩:=q;cases m with
     | true=>exact TM lo p mp _ s e1 k HX.out hs hp1 hlt _ rfl hd t hn HC.out hmk hpk
     | false=>exact Qy lo p mp _ s e1 k HX.out hs hp1 hlt _ rfl hd t hn hpk
  ·exact TJ lo p mp _ s e1 k HX.out hp1 (by omega)
 have HC0:=Ad5 hcall;have HR:=Ad5 hR;clear HS0 hR hcall;(obtain ⟨RR,hRR⟩:∃ RR,RR=Am s.data.toList e:=⟨_,rfl⟩);rw [←hRR];have HRR:=Ad5 hRR;clear hRR;clear hp1 hmk hpk;go_enter Tryz.func117,Tryz.ntmps117;go_wp2_with fail
 refine HC0.out.mono ?_;intro x w2 hx2;rcases Bb hx2 with ⟨q,hq,hb3,rfl⟩ | ⟨e',hq,hb3,rfl,hx4⟩
 ·have HQ:=Ad5 (HRR.out.trans (HR.out.trans hq));clear hx2 hq;go_wp2_with fail
  go_ret2
  exact A9 HQ.out (HB.out.trans hb3)
 ·have HQ:=Ad5 (HRR.out.trans (HR.out.trans hq));have HX4:=Ad5 hx4;clear hx2 hq hx4;go_wp2_with fail
  go_ret2
  exact Ay HQ.out (HB.out.trans hb3) HX4.out
theorem WM (lo p mp:Nat) (w:World) (s:ByteArray) (e:ES) (k:Nat) (h:CN lo p mp w s e) (hs:s.size≤250) (hk:e.pos=k) (hl:k < s.size) (hc:byt s.data.toList k=46):Calls Tryz.prog 117 #[.pointer (some ⟨p,0,none⟩)] w fun x w'=>AU lo p mp s w x w' (Am s.data.toList e):=by
 obtain ⟨own,sv,mv,bv,pv,ov,rows,h⟩:=h;obtain ⟨sa,sc,rfl,e2,e3⟩:=h.sg;obtain ⟨g,rfl,hg,hgl,hcell⟩:=e3 (by omega);have kc:=hcell k hl;rw [hc] at kc;have hll:e.pos < s.data.toList.length:=(by rw [hk];simpa using hl);have HS0:=Bp s.data.toList e 46 hll (by rw [hk];exact hc);have k1:w.cell? ⟨p,1,none⟩=some (.slice (some ⟨g,0,none⟩) s.size sc):=(h.blk.cell 1).trans rfl;have k2:w.cell? ⟨p,2,none⟩=some (.int .i64 (k:Int)):=(by rw [←hk];exact (h.blk.cell 2).trans rfl);have i1:(k:Int) < (s.size:Int):=(by omega);obtain ⟨k1n,hk1⟩:∃ j,j=k+1:=⟨_,rfl⟩;have W1:IntKind.i64.wrap ((k:Int)+1)=(k1n:Int):=(by rw [Aej _ (by omega)];omega);have f2:=h.blk.frozen 2;have hplt:=h.blk.lt;have hgp:g≠p:=(fun x=>hg (x▸h.pown));have hpg:p≠g:=(fun x=>hgp x.symm);have hE:=h.goto k1n (h.ok.goto (by omega) (by simp;omega));have hB:=(Aeh lo w).setCell (p:=⟨p,2,none⟩) h.lop (.int .i64 (k1n:Int));have HOK:=Ad5 (fun e' he=>AR s.data.toList e e' h.ok hll he);have HLV:=Ad5 h.ok;obtain ⟨e1,he1⟩:∃ e1:ES,e1={ e with pos:=k1n }:=⟨_,rfl⟩;rw [←he1] at hE;have HE:=Ad5 hE;have HB:=Ad5 hB;have HE1:=Ad5 he1;have HK1:=Ad5 hk1;have HK:=Ad5 hk;have HC:=Ad5 hc;have HX:Hid (CN lo p mp (w.setCell ⟨p,2,none⟩ (.int .i64 (k1n:Int))) s e1):=Ad5 ⟨_,_,_,_,_,_,_,hE⟩;have HLL:=Ad5 hll;clear e3 hcell hgl hg hE hB he1 hk1 h hc hll hk;have hR:Am s.data.toList e=.ok (e1.at e1.st (e1.inner.pcs++[.one (Ab 0 255)])):=by rw [HS0,HE1.out,HK1.out,←HK.out];rfl
 have HR:=Ad5 hR;clear HS0 hR;have hn:=fun w=>Gb oz w
 rw [VL,Al,Al,Al,Al] at hn;have HN:=Ad5 hn;clear hn;go_enter Tryz.func117,Tryz.ntmps117;go_wp2_with fail
 obtain ⟨V,hV⟩:∃ V,V=w.setCell ⟨p,2,none⟩ (.int .i64 (k1n:Int)):=⟨_,rfl⟩;rw [←hV];have hEV:=HE.out;have hBV:=HB.out;rw [←hV] at hEV hBV;have hadd:=fun (w':World) (hb:Below V.heap.size V w')=>EA (hEV.below hb) (.one (Ab 0 255)) (.iface 111 (.agg #[.int .u64 (ow (Ab 0 255) 0),.int .u64 (ow (Ab 0 255) 1),.int .u64 (ow (Ab 0 255) 2),.int .u64 (ow (Ab 0 255) 3)])) ⟨1,rfl⟩ rfl hs (HOK.out _ HR.out)
 have HAdd:=Ad5 hadd;have HBV:=Ad5 hBV;have HLOV:=Ad5 (Aed hEV.lop (Aeg hEV.blk.lt));clear hadd hEV hBV hV HE HB HX k1 k2 kc f2;go_upto_region 26 with fail
 go_region_law (first
  | (refine Bs rfl _ _ _ rfl 137 _ rfl (by rfl) (enters_of Tryz.func137 (by kernel_rfl) rfl) (HN.out _) ?_;rintro x w2 ⟨rfl,hb2⟩;refine ⟨_,rfl,?_⟩;have HB2:Hid (Below V.heap.size V w2):=Ad5 (by first | exact hb2 | exact (Below.drew (Aeh _ _)).trans hb2);clear hb2)
  | (refine Bs rfl _ _ _ rfl 133 _ rfl (by rfl) (enters_of Tryz.func133 (by kernel_rfl) rfl) (HAdd.out _ HB2.out) ?_;rintro x w4 ⟨rfl,hx4,hb4⟩;refine ⟨_,rfl,?_⟩;have HX4:=Ad5 hx4;have HB4:Hid (Below lo V w4):=Ad5 ((HB2.out.mono HLOV.out).trans hb4);clear hx4 hb4))
 all_goals go_wp2_with fail
 all_goals go_ret2
 all_goals exact Ay HR.out (HBV.out.trans HB4.out) HX4.out
theorem Q4 (lo p mp:Nat) (w:World) (s:ByteArray) (e:ES) (c k:Nat) (h:CN lo p mp w s e) (hs:s.size≤250) (hk:e.pos=k) (hl:k < s.size) (hc:byt s.data.toList k=c) (c1:c≠124) (c2:c≠40) (c3:c≠41) (c4:c≠94) (c5:c≠36) (c6:c≠42) (c7:c≠43) (c8:c≠63) (c9:c≠123) (c10:c≠91) (c11:c≠46) (c12:c≠92):Calls Tryz.prog 117 #[.pointer (some ⟨p,0,none⟩)] w fun x w'=>AU lo p mp s w x w' (Am s.data.toList e):=by
 have hc256:c < 256:=by rw [←hc];exact G5 _ _
 obtain ⟨own,sv,mv,bv,pv,ov,rows,h⟩:=h;obtain ⟨sa,sc,rfl,e2,e3⟩:=h.sg;obtain ⟨g,rfl,hg,hgl,hcell⟩:=e3 (by omega);have kc:=hcell k hl;rw [hc] at kc;have hll:e.pos < s.data.toList.length:=(by rw [hk];simpa using hl);have HS0:=Bp s.data.toList e c hll (by rw [hk];exact hc);have k1:w.cell? ⟨p,1,none⟩=some (.slice (some ⟨g,0,none⟩) s.size sc):=(h.blk.cell 1).trans rfl;have k2:w.cell? ⟨p,2,none⟩=some (.int .i64 (k:Int)):=(by rw [←hk];exact (h.blk.cell 2).trans rfl);have i1:(k:Int) < (s.size:Int):=(by omega);obtain ⟨k1n,hk1⟩:∃ j,j=k+1:=⟨_,rfl⟩;have W1:IntKind.i64.wrap ((k:Int)+1)=(k1n:Int):=(by rw [Aej _ (by omega)];omega);have f2:=h.blk.frozen 2;have hplt:=h.blk.lt;have hgp:g≠p:=(fun x=>hg (x▸h.pown));have hpg:p≠g:=(fun x=>hgp x.symm);have hE:=h.goto k1n (h.ok.goto (by omega) (by simp;omega));have hB:=(Aeh lo w).setCell (p:=⟨p,2,none⟩) h.lop (.int .i64 (k1n:Int));have HOK:=Ad5 (fun e' he=>AR s.data.toList e e' h.ok hll he);have HLV:=Ad5 h.ok;obtain ⟨e1,he1⟩:∃ e1:ES,e1={ e with pos:=k1n }:=⟨_,rfl⟩;rw [←he1] at hE;have HE:=Ad5 hE;have HB:=Ad5 hB;have HE1:=Ad5 he1;have HK1:=Ad5 hk1;have HK:=Ad5 hk;have HC:=Ad5 hc;have HX:Hid (CN lo p mp (w.setCell ⟨p,2,none⟩ (.int .i64 (k1n:Int))) s e1):=Ad5 ⟨_,_,_,_,_,_,_,hE⟩;have HLL:=Ad5 hll;clear e3 hcell hgl hg hE hB he1 hk1 h hc hll hk;have hR:Am s.data.toList e=.ok (e1.at e1.st (e1.inner.pcs++[.one (Ab (c:Int) (c:Int))])):=by
  rw [HS0];unfold I3;rw [if_neg c1,if_neg c2,if_neg c3,if_neg c4,if_neg c5,if_neg (by omega),if_neg c10,if_neg c11,if_neg c12,HE1.out,HK1.out,←HK.out];rfl
 have HR:=Ad5 hR;have hof:=fun (W:World)=>Zv (c:Int) (by omega) (by omega) W
 rw [DK] at hof;have HOF:=Ad5 hof;clear HS0 hR hof;have W2:IntKind.u8.wrap (c:Int)=(c:Int):=IntWalk.u8_in _ (by omega);have d1:((c:Int) == 124)=false:=by rw [beq_eq_false_iff_ne];omega
 have d2:((c:Int) == 40)=false:=by rw [beq_eq_false_iff_ne];omega
 have d3:((c:Int) == 41)=false:=by rw [beq_eq_false_iff_ne];omega
 have d4:((c:Int) == 94)=false:=by rw [beq_eq_false_iff_ne];omega
 have d5:((c:Int) == 36)=false:=by rw [beq_eq_false_iff_ne];omega
 have d6:((c:Int) == 42)=false:=by rw [beq_eq_false_iff_ne];omega
 have d7:((c:Int) == 43)=false:=by rw [beq_eq_false_iff_ne];omega
 have d8:((c:Int) == 63)=false:=by rw [beq_eq_false_iff_ne];omega
 have d9:((c:Int) == 123)=false:=by rw [beq_eq_false_iff_ne];omega
 have d10:((c:Int) == 91)=false:=by rw [beq_eq_false_iff_ne];omega
 have d11:((c:Int) == 46)=false:=by rw [beq_eq_false_iff_ne];omega
 have d12:((c:Int) == 92)=false:=by rw [beq_eq_false_iff_ne];omega
 clear c1 c2 c3 c4 c5 c6 c7 c8 c9 c10 c11 c12;go_enter Tryz.func117,Tryz.ntmps117;go_wp2_with fail
 obtain ⟨V,hV⟩:∃ V,V=w.setCell ⟨p,2,none⟩ (.int .i64 (k1n:Int)):=⟨_,rfl⟩;rw [←hV];have hEV:=HE.out;have hBV:=HB.out;rw [←hV] at hEV hBV;have hadd:=fun (w':World) (hb:Below V.heap.size V w')=>EA (hEV.below hb) (.one (Ab (c:Int) (c:Int))) (.iface 111 (.agg #[.int .u64 (ow (Ab (c:Int) (c:Int)) 0),.int .u64 (ow (Ab (c:Int) (c:Int)) 1),.int .u64 (ow (Ab (c:Int) (c:Int)) 2),.int .u64 (ow (Ab (c:Int) (c:Int)) 3)])) ⟨1,rfl⟩ rfl hs (HOK.out _ HR.out)
 have HAdd:=Ad5 hadd;have HBV:=Ad5 hBV;have HLOV:=Ad5 (Aed hEV.lop (Aeg hEV.blk.lt));clear hadd hEV hBV hV HE HB HX k1 k2 kc f2;go_upto_region 5 with fail
 go_region_law (first
  | (refine Bs rfl _ _ _ rfl 133 _ rfl (by rfl) (enters_of Tryz.func133 (by kernel_rfl) rfl) (HAdd.out _ HB2.out) ?_;rintro x w4 ⟨rfl,hx4,hb4⟩;refine ⟨_,rfl,?_⟩;have HX4:=Ad5 hx4;have HB4:Hid (Below lo V w4):=Ad5 ((HB2.out.mono HLOV.out).trans hb4);clear hx4 hb4)
  | (refine Bs rfl _ _ _ rfl 138 _ rfl (by rfl) (enters_of Tryz.func138 (by kernel_rfl) rfl) (HOF.out _) ?_;rintro x w2 ⟨rfl,hb2⟩;refine ⟨_,rfl,?_⟩;have HB2:Hid (Below V.heap.size V w2):=Ad5 hb2;clear hb2))
 all_goals go_wp2_with fail
 all_goals go_ret2
 all_goals exact Ay HR.out (HBV.out.trans HB4.out) HX4.out
theorem TY (lo p mp:Nat) (w:World) (s:ByteArray) (e:ES) (h:CN lo p mp w s e) (hs:s.size≤250) (hl:e.pos < s.size) (hG:Gl w) (hlo3:glN≤lo):Calls Tryz.prog 117 #[.pointer (some ⟨p,0,none⟩)] w fun x w'=>AU lo p mp s w x w' (Am s.data.toList e):=by
 obtain ⟨c,hc⟩:∃ c,byt s.data.toList e.pos=c:=⟨_,rfl⟩;by_cases c1:c=124
 ·exact TP lo p mp w s e e.pos h hs rfl hl (hc.trans c1)
 by_cases c2:c=40
 ·by_cases hd:e.outer.length=12
  ·exact TQ lo p mp w s e e.pos h hs rfl hl (hc.trans c2) hd
  ·exact WI lo p mp w s e e.pos h hs rfl hl (hc.trans c2) (by obtain ⟨_,_,_,_,_,_,_,h⟩:=h;have:=h.ok.deep;omega)
 by_cases c3:c=41
 ·rcases List.eq_nil_or_concat e.outer with ho | ⟨L,v,ho⟩
  ·exact TR lo p mp w s e e.pos h hs rfl hl (hc.trans c3) ho
  ·exact WJ lo p mp w s e e.pos h hs rfl hl (hc.trans c3) L v (by simpa using ho)
 by_cases c4:c=94
 ·exact WG lo p mp w s e e.pos h hs rfl hl (hc.trans c4)
 by_cases c5:c=36
 ·exact WH lo p mp w s e e.pos h hs rfl hl (hc.trans c5)
 by_cases c6:c=42
 ·cases hf:A0 e.inner.pcs with
  | true=>exact TS lo p mp w s e e.pos h hs rfl hl (hc.trans c6) hf
  | false=>exact TV lo p mp w s e e.pos h hs rfl hl (hc.trans c6) hf
 by_cases c7:c=43
 ·cases hf:A0 e.inner.pcs with
  | true=>exact TT lo p mp w s e e.pos h hs rfl hl (hc.trans c7) hf
  | false=>exact TW lo p mp w s e e.pos h hs rfl hl (hc.trans c7) hf
 by_cases c8:c=63
 ·cases hf:A0 e.inner.pcs with
  | true=>exact TU lo p mp w s e e.pos h hs rfl hl (hc.trans c8) hf
  | false=>exact TX lo p mp w s e e.pos h hs rfl hl (hc.trans c8) hf
 by_cases c9:c=123
 ·cases hf:A0 e.inner.pcs with
  | true=>exact Qz lo p mp w s e e.pos h hs rfl hl (hc.trans c9) hf
  | false=>exact Q0 lo p mp w s e e.pos h hs rfl hl (hc.trans c9) hf
 by_cases c10:c=91
 ·exact WK lo p mp w s e e.pos h hs rfl hl (hc.trans c10) hG hlo3
 by_cases c11:c=46
 ·exact WM lo p mp w s e e.pos h hs rfl hl (hc.trans c11)
 by_cases c12:c=92
 ·exact WL lo p mp w s e e.pos h hs rfl hl (hc.trans c12)
 exact Q4 lo p mp w s e c e.pos h hs rfl hl hc c1 c2 c3 c4 c5 c6 c7 c8 c9 c10 c11 c12
theorem DP {fn:Func} {t u v x:Tmp} (h:fn.results=#[.tmp t,.tmp u,.tmp v,.tmp x]) (tmps:Array Value) (P:Program) (w:World) :
  (results fn tmps).run P w=.ok (.tuple #[tmps.getD t undef,tmps.getD u undef,tmps.getD v undef,tmps.getD x undef]) w:=by
 simp [results,h]
theorem O3 (s:ByteArray) (w:World) (hs:250 < s.size):Calls Tryz.prog 100 #[.string s] w fun e w'=>PW (.error (3,250)) w e w':=by
 have e1:decide ((250:Int) < (s.size:Int))=true:=by simp;omega
 clear hs;go_enter Tryz.func100,Tryz.ntmps100;go_wp2_with fail
 (try simp only [Exit.inBlock,Exit.then]);refine bodyPost_ret (DP rfl _ _ _) rfl ?_
 exact ⟨Aeh _ _,rfl⟩
theorem Zw (lo p mp:Nat) (w1:World) (s:ByteArray) (sv:Value) (hlo:lo≤w1.heap.size) (hrow:w1.ownsRow lo 21 1 sv s.size (Gw s.data.toList)) (hmp:mp=w1.heap.size) (hp:p=w1.heap.size+1) :
  Em lo p mp [p,mp] ((w1.alloc (.map #[] 0)).alloc (.cells (EC (.string s) sv (.int .i64 0) (.slice none 0 0) (.int .i64 0) (.int .i64 0) (.slice none 0 0) (.slice none 0 0) (.slice none 0 0) (.int .i64 0) (.map (some mp))) 211)) s Fw sv (.slice none 0 0) (.slice none 0 0) (.slice none 0 0) (.slice none 0 0) []:=by
 have hnil:∀ b,(Value.slice none 0 0).ownBlock≠some b:=fun b h=>by simp [Value.ownBlock] at h
 have hsz:((w1.alloc (.map #[] 0)).alloc (.cells (EC (.string s) sv (.int .i64 0) (.slice none 0 0) (.int .i64 0) (.int .i64 0) (.slice none 0 0) (.slice none 0 0) (.slice none 0 0) (.int .i64 0) (.map (some mp))) 211)).heap.size=w1.heap.size+2:=by simp
 have hb1:Below w1.heap.size w1 ((w1.alloc (.map #[] 0)).alloc (.cells (EC (.string s) sv (.int .i64 0) (.slice none 0 0) (.int .i64 0) (.int .i64 0) (.slice none 0 0) (.slice none 0 0) (.slice none 0 0) (.int .i64 0) (.map (some mp))) 211)):=((Aeh _ _).alloc (Aec _) _).alloc (by simp) _;refine ⟨Blk.new _ _ _ _ (by rw [hp];simp),by omega,by omega,?_,World.ownsRow_nil _ _ _ _,NR.nil _ _ _,NR.nil _ _ _,World.ownsRow_nil _ _ _ _,rfl,fun i h=>absurd h (Nat.not_lt_zero _),?_,?_,?_,by simp,by simp,by omega,fun b hb=>?_,Zt _⟩
 ·obtain ⟨a,cap,rfl,hc,_,hx⟩:=Gh hrow (by rw [L8];simp);refine ⟨a,cap,rfl,hc,fun h0=>?_⟩;obtain ⟨g,rfl,_,hg,hcell⟩:=hx h0;refine ⟨g,rfl,by simp;omega,by rw [hsz];omega,fun i hi=>?_⟩;have h1:=hcell i (by rw [L8];simpa using hi);rw [Nat.zero_add] at h1;rw [hb1.cell (p:=⟨g,i,none⟩) hg,h1];unfold Gw byt;simp only [List.getElem_map];rw [List.getD_eq_getElem?_getD,List.getElem?_eq_getElem (by simpa using hi),Option.getD_some]
 ·refine ⟨0,.map [],Aec _,?_,fun k=>rfl⟩;have h:=World.ownsMap_made (H:=Unit) w1 Tryz.prog 3 unitElem;obtain ⟨es,clock,hb,r⟩:=h;rw [hmp];exact ⟨es,clock,(Below.heap_alloc _ _ _ (by simp)).trans hb,r⟩
 ·unfold allV;simp only [List.flatMap_nil,List.pairwise_cons];exact ⟨fun v _ b hb=>absurd hb (hnil b),fun v _ b hb=>absurd hb (hnil b),fun v _ b hb=>absurd hb (hnil b),fun v _ b hb=>absurd hb (hnil b),List.Pairwise.nil⟩
 ·intro v hv b hb;unfold allV at hv;simp only [List.flatMap_nil,Ael] at hv;rcases hv with rfl | rfl | rfl | rfl | hv
  ·exact absurd hb (hnil b)
  ·exact absurd hb (hnil b)
  ·exact absurd hb (hnil b)
  ·exact absurd hb (hnil b)
  ·cases hv
 ·rw [hsz];simp only [Ael] at hb;rcases hb with rfl | rfl | hb
  ·omega
  ·omega
  ·cases hb
def Q5 (lo:Nat) (R:Except (Nat × Nat) ES) (w:World) (x:Ending) (w':World):Prop:=Below lo w w'∧match R with
 | .error q=>x=.returned (.tuple #[.nilIface,.slice none 0 0,.int .i64 (q.2:Int),.int .i64 (q.1:Int)])
 | .ok e=>∃ v mv,x=.returned (.tuple #[v,mv,.int .i64 0,.int .i64 0])∧NdX (fun b=>lo≤b) w' e.inner.whole v∧w'.ownsRow lo 33 2 mv e.marks.length (marksC e.marks)
theorem Kq {lo:Nat} {R:Except (Nat × Nat) ES} {w w':World} {n k:Nat} (hR:R=.error (n,k)) (hb:Below lo w w'):Q5 lo R w (.returned (.tuple #[.nilIface,.slice none 0 0,.int .i64 (k:Int),.int .i64 (n:Int)])) w':=by subst hR;exact ⟨hb,rfl⟩
theorem TZ {lo:Nat} {R:Except (Nat × Nat) ES} {w w':World} {e:ES} {v mv:Value} (hR:R=.ok e) (hb:Below lo w w') (hn:NdX (fun b=>lo≤b) w' e.inner.whole v) (hm:w'.ownsRow lo 33 2 mv e.marks.length (marksC e.marks)):Q5 lo R w (.returned (.tuple #[v,mv,.int .i64 0,.int .i64 0])) w':=by subst hR;exact ⟨hb,v,mv,rfl,hn,hm⟩
theorem Kr (s:ByteArray) (w:World) (hs:s.size≤250) (hG:Gl w) (R:Except (Nat × Nat) ES) (hR:DC s.data.toList Fw=R) (hne:∀ q,R=.error q→q.1≠0):Calls Tryz.prog 100 #[.string s] w fun e w'=>Q5 w.heap.size R w e w':=by
 have e1:decide ((250:Int) < (s.size:Int))=false:=by simp;omega
 have hmm:=@run_makeMap Tryz.prog;have hsg:=TC s w hs;have HR:=Ad5 hR;have HNE:=Ad5 hne;have hsl:s.data.toList.length=s.size:=by simp
 have HSL:=Ad5 hsl;have HS:=Ad5 hs;clear hR hne hsl hs;go_enter Tryz.func100,Tryz.ntmps100;go_wp2_with fail
 refine hsg.mono ?_;rintro x w1 ⟨sv,rfl,hrow,b1⟩;obtain ⟨sa,sc,rfl⟩:=Ba hrow;have hz:=Zw w.heap.size (w1.heap.size+1) w1.heap.size w1 s _ b1.size hrow rfl rfl;have hb0:=((b1.alloc b1.size (.map #[] 0)).alloc (by have:=b1.size;simp;omega) (.cells (EC (.string s) (.slice sa s.size sc) (.int .i64 0) (.slice none 0 0) (.int .i64 0) (.int .i64 0) (.slice none 0 0) (.slice none 0 0) (.slice none 0 0) (.int .i64 0) (.map (some w1.heap.size))) 211))
 have HZ:=Ad5 hz;have HB0:=Ad5 hb0;have HB1:=Ad5 b1.size;clear hsg hrow b1 hz hb0;go_wp2_with fail
 go_loopw [] (fun wr=>∃ e,CN w.heap.size (w1.heap.size+1) w1.heap.size wr s e∧DC s.data.toList e=R∧Below w.heap.size w wr) (fun wr=>s.size - (intOf ((wr.cell? ⟨w1.heap.size+1,2,none⟩).getD undef)).toNat)
 case atStart=>exact ⟨Fw,⟨_,_,_,_,_,_,_,HZ.out⟩,HR.out,HB0.out⟩
 case round=>
  obtain ⟨e,hX,hres,hb⟩:=hrel;have HX:=Ad5 hX;obtain ⟨own,sv,mv,bv,pv,ov,rows,h⟩:=hX;obtain ⟨sa',sc',rfl,_,_⟩:=h.sg;obtain ⟨oa,oc,rfl⟩:=Ba h.on;have k1:wr.cell? ⟨w1.heap.size+1,1,none⟩=some (.slice sa' s.size sc'):=(h.blk.cell 1).trans rfl;have k2:wr.cell? ⟨w1.heap.size+1,2,none⟩=some (.int .i64 (e.pos:Int)):=(h.blk.cell 2).trans rfl;have K2:=Ad5 k2;have HRES:=Ad5 hres;have HB:=Ad5 hb;have H:=Ad5 h;have hG2:=hG.up hb;clear h hres hb;by_cases hlt:e.pos < s.size
  ·have d1:decide ((e.pos:Int) < (s.size:Int))=true:=by simp;omega
   have d1':decide (e.pos < s.size)=true:=decide_eq_true hlt;have hst:=TY _ _ _ wr s e HX.out HS.out hlt hG2 hG.lt;have HLT:=Ad5 hlt;clear hlt hG2;go_wp2_with fail
   refine hst.mono ?_;intro x w3 hx;rcases Bb hx with ⟨q,hq,hb3,rfl⟩ | ⟨e',hq,hb3,rfl,hx4⟩
   ·have hRq:R=.error (q.1,q.2):=by rw [←HRES.out,BF _ _ (by rw [HSL.out];exact HLT.out),hq]
    have hq0:=HNE.out _ hRq;have d2:((q.1:Int) != 0)=true:=by simp;omega
    have HRq:=Ad5 hRq;have HB3:=Ad5 (HB.out.trans hb3);clear hst hx hq hb3 hRq hq0;go_wp2_with fail
    (try simp only [Exit.inBlock,Exit.then]);refine bodyPost_ret (DP rfl _ _ _) rfl ?_
    exact Kq HRq.out HB3.out
   ·have hR4:DC s.data.toList e'=R:=by rw [←HRES.out,BF s.data.toList e (by rw [HSL.out];exact HLT.out),hq]
    have hmv:=If _ _ _ (by rw [HSL.out];exact HLT.out) hq;have HR4:=Ad5 hR4;have HMV:=Ad5 hmv;have HB3:=Ad5 (HB.out.trans hb3);have HX4:=Ad5 hx4;clear hst hx hq hb3 hR4 hmv hx4;go_wp2_with fail
    go_roundw
    case rel=>exact ⟨e',HX4.out,HR4.out,HB3.out⟩
    case measure=>
     obtain ⟨own,sv,mv,bv,pv,ov,rows,h4⟩:=HX4.out;have k4:w3.cell? ⟨w1.heap.size+1,2,none⟩=some (.int .i64 (e'.pos:Int)):=(h4.blk.cell 2).trans rfl;rw [k4,K2.out];simp only [Option.getD_some,intOf,Int.toNat_natCast];have:=HMV.out;have:=HLT.out;omega
  ·have d1:decide ((e.pos:Int) < (s.size:Int))=false:=by simp;omega
   have d1':decide (e.pos < s.size)=false:=decide_eq_false hlt;have hend:=Kg s.data.toList e (by rw [HSL.out];omega);rw [HRES.out] at hend;have k8:wr.cell? ⟨w1.heap.size+1,8,none⟩=some (.slice oa e.outer.length oc):=(H.out.blk.cell 8).trans rfl;have k4:wr.cell? ⟨w1.heap.size+1,4,none⟩=some (.int .i64 (e.inner.op:Int)):=(H.out.blk.cell 4).trans rfl;cases ho:e.outer with
   | cons v L=>
    rw [ho] at hend k8;have HF:=Ad5 (show R=.error (8,e.inner.op) from hend);obtain ⟨m,hm⟩:∃ m,m=(v :: L).length:=⟨_,rfl⟩;have d2:decide ((0:Int) < (m:Int))=true:=by rw [hm];simp
    have d3:decide (0 < m)=true:=by rw [hm];simp
    rw [←hm] at k8;clear hm hend ho hlt hG2;go_wp2_with fail
    go_quiet (fail)
    go_wp2_with fail
    (try simp only [Exit.inBlock,Exit.then]);refine bodyPost_ret (DP rfl _ _ _) rfl ?_
    exact Kq HF.out (HB.out.trans (below_drewN (Aeh _ _) _))
   | nil=>
    rw [ho] at hend k8;have HF:=Ad5 (show R=.ok e from hend);have k3:wr.cell? ⟨w1.heap.size+1,3,none⟩=some mv:=(H.out.blk.cell 3).trans rfl;have hi:=H.out.ok.inner;have hps:=H.out.ok.pos;rw [HSL.out] at hps;have hsz:=HS.out;have hbl:(e.inner.brs++[Bu e.inner.pcs]).length≤251:=by rw [Aee];have:=hi.2.2.2.1;simp;omega
    have hW:=fun (w':World) (hb:Below wr.heap.size wr w')=>GG w.heap.size (w1.heap.size+1) own _ _ _ _ _ _ bv pv _ _ _ e.inner.brs e.inner.pcs w' H.out.lop (H.out.blk.below hb H.out.blk.lt) (H.out.below hb).bn (H.out.below hb).pn (fun hx=>(H.out.inown bv (by simp [allV]) _ hx).2.1 rfl) H.out.pown (fun b hx=>Aef (H.out.ownlt b hx) hb.size) (fun q hq=>(H.out.inown bv (by simp [allV]) q hq).1) (Aed hi.2.2.2.1 (by omega)) (Ko hi.1 hi.2.2.1 (by omega)) (O2 (BO hi.2.1 (Kk _ hi.1)) hbl (by omega))
    have HW:=Ad5 hW;have hpl:=H.out.blk.lt;have HMK:∀ w' w'',Below wr.heap.size wr w'→Touch (w1.heap.size+1) bv w' w''→w''.ownsRow w.heap.size 33 2 mv e.marks.length (marksC e.marks)∧Below w.heap.size w w'':=fun w' w'' hb hT=>by
     have hE:=H.out.below hb;refine ⟨Aa hE.mks (fun b hx=>hT.block b (hE.mks.lt b hx).2 (hE.inown mv (by simp [allV]) b hx).2.1 (fun hy=>?_)),(HB.out.trans (hb.mono HB.out.size)).trans (hE.low hE.bn.lt hT)⟩;have hap:=hE.apart;unfold allV at hap;simp only [List.pairwise_cons] at hap;exact hap.1 bv (by simp) b hx hy
    have HMK2:=Ad5 HMK;clear hend ho hlt hi hps hbl hW hsz hG2 HMK;go_wp2_with fail
    go_upto_region 10 with fail
    go_region_law (first
     | (refine Bs rfl _ _ _ rfl 118 _ rfl (by rfl) (enters_of Tryz.func118 (by kernel_rfl) rfl) (HW.out _ (by first | exact Aeh _ _ | exact Below.drew (Aeh _ _))) ?_;rintro x w4 ⟨v4,bv4,rfl,hx4,hB4,hT4,_⟩;refine ⟨_,rfl,?_⟩;have HX4:=Ad5 hx4;have hq4:w4.cell? ⟨w1.heap.size+1,3,none⟩=some mv:=(hB4.cell 3).trans rfl;have HMM:Hid (w4.ownsRow w.heap.size 33 2 mv e.marks.length (marksC e.marks)∧Below w.heap.size w w4):=Ad5 (by first | exact HMK2.out _ _ (Aeh _ _) hT4 | exact HMK2.out _ _ (Below.drew (Aeh _ _)) hT4);clear hx4 hB4 hT4))
    all_goals go_wp2_with fail
    all_goals ((try simp only [Exit.inBlock,Exit.then]);refine bodyPost_ret (DP rfl _ _ _) rfl ?_)
    all_goals exact TZ (v:=v4) (mv:=mv) HF.out HMM.out.2 (HX4.out.keep (Aec _) (fun b hb _=>⟨hb.1,fun _=>rfl⟩)) HMM.out.1
theorem Q6 (s:ByteArray) (w:World) (hG:Gl w):Calls Tryz.prog 100 #[.string s] w fun e w'=>PW (AZ true s.data.toList) w e w':=by
 have hsl:s.data.toList.length=s.size:=by simp
 by_cases hs:s.size≤250
 ·have hp:=T4 s.data.toList (by omega);cases hm:AZ true s.data.toList with
  | error q=>
   rw [hm] at hp;refine (Kr s w hs hG _ hp (fun q' h=>by injection h with h;subst h;exact It hm)).mono ?_;rintro e w' ⟨hb,rfl⟩;exact ⟨hb,rfl⟩
  | ok q=>
   obtain ⟨st,d⟩:=q;rw [hm] at hp;obtain ⟨e0,h1,h2,h3⟩:=hp;refine (Kr s w hs hG _ h1 (fun q' h=>by cases h)).mono ?_;rintro e w' ⟨hb,v,mv,rfl,hn,hmk⟩;rw [h2] at hn;rw [h3] at hmk;exact ⟨hb,v,mv,rfl,hn,hmk⟩
 ·have hm:AZ true s.data.toList=.error (3,250):=by unfold AZ;rw [if_pos (by omega)]
  rw [hm];exact O3 s w (by omega)
end
section
open Go.RowKit
theorem L9 {T e:TypeId} {B b:Nat} {p:Value} {bs:List Value} {W W':World} (h:Lib.BuilderAtF T e B b p bs W) (hb:Below W.heap.size W W'):Lib.BuilderAtF T e B b p bs W':=by
 obtain ⟨hB,v,hv,⟨hl,hr⟩,hne⟩:=h;refine ⟨hB,v,by rw [hb.block b (Array.getElem?_eq_some_iff.1 hv).1];exact hv,⟨hl,?_⟩,hne⟩;rcases hr with h | ⟨g,cap,cur,fz,h1,h2,h3,h4⟩
 ·exact .inl h
 ·exact .inr ⟨g,cap,cur,fz,h1,h2,by rw [hb.block g (Array.getElem?_eq_some_iff.1 h3).1];exact h3,h4⟩
theorem Ua {T e:TypeId} {B b:Nat} {bs:List Value} {W W':World} (h:Lib.IsBuilderF T e B b bs W) (hb:Below W.heap.size W W'):Lib.IsBuilderF T e B b bs W':=
 h.elim (fun x=>.inl (L9 x hb)) (fun x=>.inr (L9 x hb))
structure GP (w:World):Prop where
 c0:w.cell? ⟨3,0,none⟩=some (.int .u8 94)
 c1:w.cell? ⟨3,1,none⟩=some (.int .u8 93)
 lt:3 < w.heap.size
theorem GP.below {w w':World} {B:Nat} (h:GP w) (hb:Below B w w') (hB:3 < B):GP w':=
 ⟨(hb.cell (p:=⟨3,0,none⟩) hB).trans h.c0,(hb.cell (p:=⟨3,1,none⟩) hB).trans h.c1,Aef h.lt hb.size⟩
theorem GP.up {w w':World} (h:GP w) (hb:Below w.heap.size w w'):GP w':=h.below hb h.lt
theorem I4 {s:ByteArray} {l:List UInt8} (h:s.data.toList=l):s=txt l:=by rw [←h,Aar]
theorem O4 (s:ByteArray) (k:Nat) (d:UInt8) (rx:Bool) (w:World) (hs:s.size≤4000000) (hk:k < s.size) (h92:s[k]=92) :
  Calls Tryz.prog 110 #[.string s,.int .i64 k,.int .u8 d.toNat,.bool rx] w fun e w'=>e=pcA (AV d rx 92 (s.data.toList.drop (k+1)) k)∧Below w.heap.size w w':=by
 have W2:IntKind.i64.wrap ((k:Int)+2)=(k:Int)+2:=Aej _ (by omega);have W1:IntKind.i64.wrap ((k:Int)+1)=(k:Int)+1:=Aej _ (by omega);obtain ⟨R,hR⟩:∃ R,AV d rx 92 (s.data.toList.drop (k+1)) k=R:=⟨_,rfl⟩;rw [hR];have HR:=Ad5 hR;have H92:=Ad5 h92;clear hR h92;go_enter Tryz.func110,Tryz.ntmps110;by_cases hend:k+1 < s.size
 ·have c1:¬ (s.size:Int) < (k:Int)+2:=by omega
  have c1':(k:Int)+2≤(s.size:Int):=by omega
  have i1:(k:Int)+1 < (s.size:Int):=by omega
  have hd:=Ad5 (Bi s (k+1) hend);have hl1:=Ad5 (Ci s k (k+2));have hl2:=Ad5 (Ci s (k+1) (k+2));have hd0:=Ad5 (Bi s k hk);obtain ⟨x,hx⟩:∃ x,s[k+1]=x:=⟨_,rfl⟩;have Hx:=Ad5 hx;have Hpart:=Ad5 (show R=if x=d then ([x],k+2,0) else if (x == 10 && rx)=true then ([],k+1,2) else ([92,x],k+2,0) by
   rw [←HR.out,hd.out,Hx.out];rfl)
  by_cases hxd:x=d
  ·have q:((s[k+1].toNat:Int) == (d.toNat:Int))=true:=by rw [hx,hxd];simp
   have Hxd:=Ad5 hxd;clear hx hxd
   go_wp2
   go_ret3
   refine ⟨?_,Aeh _ _⟩;rw [Hpart.out,if_pos Hxd.out];exact CT (I4 (by rw [hl2.out,hd.out,Hx.out,show k+2 - (k+1)=1 by omega];rfl)) rfl rfl
  ·have q:((s[k+1].toNat:Int) == (d.toNat:Int))=false:=beq_eq_false_iff_ne.2 fun h=>hxd (by rw [←hx];exact UInt8.toNat_inj.1 (by omega))
   have Hxd:=Ad5 hxd;clear hxd;by_cases h10:x=10
   ·have q10:((s[k+1].toNat:Int) == 10)=true:=by rw [hx,h10];rfl
    have H10:=Ad5 h10;clear hx h10;cases rx
    ·go_wp2
     go_ret3
     refine ⟨?_,Aeh _ _⟩;rw [Hpart.out,if_neg Hxd.out,if_neg (by simp)];exact CT (I4 (by rw [hl1.out,hd0.out,hd.out,Hx.out,show k+2 - k=2 by omega,H92.out];rfl)) rfl rfl
    ·go_wp2
     go_ret3
     refine ⟨?_,Aeh _ _⟩;rw [Hpart.out,if_neg Hxd.out,if_pos (by rw [H10.out];rfl)];rfl
   ·have q10:((s[k+1].toNat:Int) == 10)=false:=beq_eq_false_iff_ne.2 fun h=>h10 (by rw [←hx];exact UInt8.toNat_inj.1 (by show s[k+1].toNat=10;omega))
    have H10:=Ad5 h10;clear hx h10
    go_wp2
    go_ret3
    refine ⟨?_,Aeh _ _⟩;rw [Hpart.out,if_neg Hxd.out,if_neg (by simp [H10.out])];exact CT (I4 (by rw [hl1.out,hd0.out,hd.out,Hx.out,show k+2 - k=2 by omega,H92.out];rfl)) rfl rfl
 ·have c1:(s.size:Int) < (k:Int)+2:=by omega
  have hd:=Ad5 (Bn s (k+1) (by omega));have hse:(s.size:Int)=((k+1:Nat):Int):=by omega
  have Hse:=Ad5 hse;clear hse hend
  go_wp2
  go_ret3
  refine ⟨?_,Aeh _ _⟩;rw [←HR.out,hd.out];exact CT rfl Hse.out rfl
def FS (t:List UInt8) (i:Nat):Nat:=if i=0 then 0 else if i=1 then D5 94 t else Bz t
theorem Zx (t:List UInt8) (i:Nat):FS t i≤t.length:=by
 unfold FS;split
 ·omega
 ·split
  ·exact GS 94 t
  ·exact G1 t
theorem O5 {c:UInt8} {s:ByteArray} {p:Nat} (h:s.size≤p):D5 c (s.data.toList.drop p)=0:=by rw [Bn s p h];rfl
theorem LA {c:UInt8} {s:ByteArray} {p:Nat} (h:p < s.size) (hc:s[p]=c):D5 c (s.data.toList.drop p)=1:=by rw [Bi s p h];simp [D5,hc]
theorem LB {c:UInt8} {s:ByteArray} {p:Nat} (h:p < s.size) (hc:¬ s[p]=c):D5 c (s.data.toList.drop p)=0:=by rw [Bi s p h];simp [D5,hc]
theorem LC (t:List UInt8) (i:Nat) (c:UInt8) (h:(i=0∧c=94)∨(i=1∧c=93)):FS t (i+1)=FS t i+D5 c (t.drop (FS t i)):=by
 rcases h with ⟨rfl,rfl⟩ | ⟨rfl,rfl⟩
 ·simp [FS]
 ·simp [FS,Bz]
theorem MX (a b:Int) (w:World):(Instr.index 222 (.agg #[.int .u8 a,.int .u8 b]) (.int .i64 0)).run Tryz.prog w=.ok (.int .u8 a) w:=by kernel_rfl
theorem MY (a b:Int) (w:World):(Instr.index 222 (.agg #[.int .u8 a,.int .u8 b]) (.int .i64 1)).run Tryz.prog w=.ok (.int .u8 b) w:=by kernel_rfl
theorem Ks (s:ByteArray) (k:Nat) (w:World) (hs:s.size≤4000000) (hk:k < s.size) (hG:GP w) :
  Calls Tryz.prog 111 #[.string s,.int .i64 k] w fun e w'=>e=.returned (.int .i64 ((k+Cc (s.data.toList.drop (k+1)):Nat):Int))∧Below w.heap.size w w':=by
 have W1:IntKind.i64.wrap ((k:Int)+1)=(k:Int)+1:=Aej _ (by omega);have g0:=hG.c0;have g1:=hG.c1;have htl:(s.data.toList.drop (k+1)).length=s.size - (k+1):=by rw [List.length_drop,←Ad]
 obtain ⟨R,hR⟩:∃ R,k+Cc (s.data.toList.drop (k+1))=R:=⟨_,rfl⟩;rw [hR];have HR:=Ad5 hR;clear hR;go_enter Tryz.func111,Tryz.ntmps111
 go_wp2
 go_loopg [1,6,11] 2 (fun g a _ j wx=>∃ i:Nat,i+g=2∧j=.int .i64 i∧a=.int .i64 ((k+1+FS (s.data.toList.drop (k+1)) i:Nat):Int)∧wx=w)
 case atStart=>exact ⟨0,by omega,rfl,by simp [FS],rfl⟩
 case round=>
  obtain ⟨i,hig,rfl,rfl,rfl⟩:=hrel;have hah:=Zx (s.data.toList.drop (k+1)) i;obtain ⟨p,hp⟩:∃ p,k+1+FS (s.data.toList.drop (k+1)) i=p:=⟨_,rfl⟩;rw [hp];have hps:p≤s.size:=by omega
  cases gk with
  | zero=>
   obtain rfl:i=2:=by omega
   have hI:=F5 (s.extract p s.size) 93 wr;rw [Cd,Ga] at hI;rw [show (((93:UInt8).toNat:Nat):Int)=93 from rfl] at hI;have hR2:R=k+(1+Bz (s.data.toList.drop (k+1))+min (AF (fun b=>!(b == 93)) (s.data.toList.drop p)+1) (s.data.toList.drop p).length):=by
    rw [←HR.out,Cc,List.drop_drop,←hp];rfl
   rw [show FS (s.data.toList.drop (k+1)) 2=Bz (s.data.toList.drop (k+1)) from rfl] at hp;have hle:=Bw (fun b=>!(b == 93)) (s.data.toList.drop p);have hlen:(s.data.toList.drop p).length=s.size - p:=by rw [List.length_drop,←Ad]
   rw [hlen] at hI hR2 hle;generalize AF (fun b=>!(b == 93)) (s.data.toList.drop p)=m at hI hR2 hle;have hps':(p:Int)≤(s.size:Int):=by omega
   clear hlen hah;by_cases hm:m < s.size - p
   ·rw [if_pos hm] at hI;have h0:(0:Int)≤(m:Int):=by omega
    have Wa:IntKind.i64.wrap ((p:Int)+(m:Int))=(p:Int)+(m:Int):=Aej _ (by omega);have Wb:IntKind.i64.wrap ((p:Int)+(m:Int)+1)=(p:Int)+(m:Int)+1:=Aej _ (by omega);have hRi:(R:Int)=(p:Int)+(m:Int)+1:=by omega
    have HRi:=Ad5 hRi;clear hRi hR2 hp;go_wp2_with (go_at_call 112;refine hI.mono ?_;rintro e w1 ⟨rfl,rfl⟩)
    go_ret;exact ⟨by rw [HRi.out];rfl,Aeh _ _⟩
   ·rw [if_neg hm] at hI;have hRi:(R:Int)=(s.size:Int):=by omega
    have HRi:=Ad5 hRi;clear hRi hR2 hp;go_wp2_with (go_at_call 112;refine hI.mono ?_;rintro e w1 ⟨rfl,rfl⟩)
    go_ret;exact ⟨by rw [HRi.out];rfl,Aeh _ _⟩
  | succ g=>
   have e0:=fun w=>MX 94 93 w
   have e1:=fun w=>MY 94 93 w
   rcases (by omega:i=0∨i=1) with rfl | rfl
   ·obtain rfl:g=1:=by omega
    have hnx:FS (s.data.toList.drop (k+1)) 1=FS (s.data.toList.drop (k+1)) 0+D5 94 ((s.data.toList.drop (k+1)).drop (FS (s.data.toList.drop (k+1)) 0)):=LC _ 0 94 (by simp);rw [List.drop_drop,hp] at hnx;have Hnx:=Ad5 hnx;have Hp:=Ad5 hp;clear hnx hp hah;by_cases hlt:p < s.size
    ·have hlti:(p:Int) < (s.size:Int):=by omega
     by_cases hx:s[p]=94
     ·have q:((s[p].toNat:Int) == 94)=true:=by rw [hx];rfl
      have Ho:=Ad5 (LA (c:=94) hlt hx);have W3:IntKind.i64.wrap ((p:Int)+1)=(p:Int)+1:=Aej _ (by omega);clear hx
      go_wp2
      go_roundg 1
      case measure=>omega
      case rel=>exact ⟨1,by omega,rfl,congrArg (Value.int .i64) (by have h1:=Hnx.out;rw [Ho.out] at h1;have h2:=Hp.out;omega),rfl⟩
     ·have q:((s[p].toNat:Int) == 94)=false:=beq_eq_false_iff_ne.2 fun h=>hx (UInt8.toNat_inj.1 (by show s[p].toNat=94;omega))
      have Ho:=Ad5 (LB (c:=94) hlt hx);clear hx
      go_wp2
      go_roundg 1
      case measure=>omega
      case rel=>exact ⟨1,by omega,rfl,congrArg (Value.int .i64) (by have h1:=Hnx.out;rw [Ho.out] at h1;have h2:=Hp.out;omega),rfl⟩
    ·have hlti:¬ (p:Int) < (s.size:Int):=by omega
     have Ho:=Ad5 (O5 (c:=94) (s:=s) (p:=p) (by omega))
     go_wp2
     go_roundg 1
     case measure=>omega
     case rel=>exact ⟨1,by omega,rfl,congrArg (Value.int .i64) (by have h1:=Hnx.out;rw [Ho.out] at h1;have h2:=Hp.out;omega),rfl⟩
   ·obtain rfl:g=0:=by omega
    have hnx:FS (s.data.toList.drop (k+1)) 2=FS (s.data.toList.drop (k+1)) 1+D5 93 ((s.data.toList.drop (k+1)).drop (FS (s.data.toList.drop (k+1)) 1)):=LC _ 1 93 (by simp);rw [List.drop_drop,hp] at hnx;have Hnx:=Ad5 hnx;have Hp:=Ad5 hp;clear hnx hp hah;by_cases hlt:p < s.size
    ·have hlti:(p:Int) < (s.size:Int):=by omega
     by_cases hx:s[p]=93
     ·have q:((s[p].toNat:Int) == 93)=true:=by rw [hx];rfl
      have Ho:=Ad5 (LA (c:=93) hlt hx);have W3:IntKind.i64.wrap ((p:Int)+1)=(p:Int)+1:=Aej _ (by omega);clear hx
      go_wp2
      go_roundg 0
      case measure=>omega
      case rel=>exact ⟨2,by omega,rfl,congrArg (Value.int .i64) (by have h1:=Hnx.out;rw [Ho.out] at h1;have h2:=Hp.out;omega),rfl⟩
     ·have q:((s[p].toNat:Int) == 93)=false:=beq_eq_false_iff_ne.2 fun h=>hx (UInt8.toNat_inj.1 (by show s[p].toNat=93;omega))
      have Ho:=Ad5 (LB (c:=93) hlt hx);clear hx
      go_wp2
      go_roundg 0
      case measure=>omega
      case rel=>exact ⟨2,by omega,rfl,congrArg (Value.int .i64) (by have h1:=Hnx.out;rw [Ho.out] at h1;have h2:=Hp.out;omega),rfl⟩
    ·have hlti:¬ (p:Int) < (s.size:Int):=by omega
     have Ho:=Ad5 (O5 (c:=93) (s:=s) (p:=p) (by omega))
     go_wp2
     go_roundg 0
     case measure=>omega
     case rel=>exact ⟨2,by omega,rfl,congrArg (Value.int .i64) (by have h1:=Hnx.out;rw [Ho.out] at h1;have h2:=Hp.out;omega),rfl⟩
theorem KU (s:ByteArray) (k:Nat) (d:UInt8) (rx:Bool) (w:World) (hs:s.size≤4000000) (hk:k < s.size) (hG:GP w) :
  Calls Tryz.prog 94 #[.string s,.int .i64 k,.int .u8 d.toNat,.bool rx] w fun e w'=>e=pcA (AV d rx s[k] (s.data.toList.drop (k+1)) k)∧Below w.heap.size w w':=by
 have hki:(k:Int) < (s.size:Int):=by omega
 by_cases h92:s[k]=92
 ·have hE:=O4 s k d rx w hs hk h92;rw [←h92] at hE;have q:((s[k].toNat:Int) == 92)=true:=by rw [h92];rfl
  clear h92;generalize AV d rx s[k] (s.data.toList.drop (k+1)) k=R at hE ⊢;go_enter Tryz.func94,Tryz.ntmps94;go_wp2_with (go_at_call 110;refine hE.mono ?_;rintro e w1 ⟨rfl,hb⟩)
  go_ret3
  exact ⟨rfl,hb⟩
 ·have q:((s[k].toNat:Int) == 92)=false:=beq_eq_false_iff_ne.2 fun h=>h92 (UInt8.toNat_inj.1 (by show s[k].toNat=92;omega))
  have hB:=Ks s k w hs hk hG;have hcc:∀ m,(if (rx && s[k] == 91)=true then Cc (s.data.toList.drop (k+1)) else 1)=m→1≤m∧k+m≤s.size→
    ∀ W,Calls Tryz.prog 112 #[.string (s.extract k (k+m)),.int .u8 10] W fun e w'=>e=.returned (.int .i64 (if AF (fun b=>!(b == 10)) ((s[k] :: s.data.toList.drop (k+1)).take m) < m then (AF (fun b=>!(b == 10)) ((s[k] :: s.data.toList.drop (k+1)).take m):Int) else -1))∧w'=W:=fun m _ hm W=>by
   have h:=F5 (s.extract k (k+m)) 10 W;rw [Ci,Ga,show k+m - k=m by omega,Bi s k hk] at h;rw [show (((s[k] :: s.data.toList.drop (k+1)).take m).length)=m by rw [List.length_take,List.length_cons,List.length_drop,←Ad];omega] at h;exact h
  have htx:∀ m,(s.extract k (k+m)).data.toList=(s[k] :: s.data.toList.drop (k+1)).take m:=fun m=>by rw [Ci,show k+m - k=m by omega,Bi s k hk]
  have hbl:=J4 (s.data.toList.drop (k+1));have hbp:=Lc (s.data.toList.drop (k+1));rw [List.length_drop,←Ad] at hbl;have Htx:=Ad5 htx;have Hcc:=Ad5 hcc;clear htx hcc;obtain ⟨R,hR⟩:∃ R,AV d rx s[k] (s.data.toList.drop (k+1)) k=R:=⟨_,rfl⟩;rw [hR];have HR:=Ad5 (show R=(let m:=if (rx && s[k] == 91)=true then Cc (s.data.toList.drop (k+1)) else 1
   let i:=AF (fun b=>!(b == 10)) ((s[k] :: s.data.toList.drop (k+1)).take m)
   if i < m then ([],k+i,2) else ((s[k] :: s.data.toList.drop (k+1)).take m,k+m,0)) by rw [←hR];unfold AV;rw [if_neg h92])
  clear hR h92;have Wk:IntKind.i64.wrap ((k:Int)+1)=(k:Int)+1:=Aej _ (by omega);have tail:∀ m,(if (rx && s[k] == 91)=true then Cc (s.data.toList.drop (k+1)) else 1)=m→1≤m∧k+m≤s.size→
    ∃ i:Nat,i≤m∧(∀ W,Calls Tryz.prog 112 #[.string (s.extract k (k+m)),.int .u8 10] W fun e w'=>e=.returned (.int .i64 (if i < m then (i:Int) else -1))∧w'=W)∧
     Hid (R=if i < m then ([],k+i,2) else ((s[k] :: s.data.toList.drop (k+1)).take m,k+m,0)):=fun m hm1 hm2=>by
   refine ⟨AF (fun b=>!(b == 10)) ((s[k] :: s.data.toList.drop (k+1)).take m),?_,Hcc.out m hm1 hm2,Ad5 (by rw [HR.out];simp only [hm1])⟩;have:=Bw (fun b=>!(b == 10)) ((s[k] :: s.data.toList.drop (k+1)).take m);have h2:=List.length_take_le m (s[k] :: s.data.toList.drop (k+1));omega
  clear HR Hcc;by_cases h91:(rx && s[k] == 91)=true
  ·obtain ⟨i,hi,hI,HR⟩:=tail _ (if_pos h91) (by omega);clear tail;simp only [Bool.and_eq_true] at h91;obtain ⟨rfl,h91⟩:=h91;have q91:((s[k].toNat:Int) == 91)=true:=by rw [eq_of_beq h91];rfl
   clear h91;generalize Cc (s.data.toList.drop (k+1))=m at *;have hm1:(k:Int)≤((k+m:Nat):Int):=by omega
   have hm2:((k+m:Nat):Int)≤(s.size:Int):=by omega
   obtain ⟨E,hE⟩:∃ E,k+m=E:=⟨_,rfl⟩;rw [hE] at hB hI hm1 hm2 HR;have hkE:k≤E:=by omega
   go_enter Tryz.func94,Tryz.ntmps94;by_cases him:i < m
   ·rw [if_pos him] at hI;have h0:(0:Int)≤(i:Int):=by omega
    have Wi:IntKind.i64.wrap ((k:Int)+(i:Int))=(k:Int)+(i:Int):=Aej _ (by omega);have HRi:=Ad5 (show R=([],k+i,2) by rw [HR.out,if_pos him]);clear HR him hE;go_wp2_with (first
     | (go_at_call 111;refine hB.mono ?_;rintro e w1 ⟨rfl,hb⟩)
     | (go_at_call 112;refine (hI _).mono ?_;rintro e w2 ⟨rfl,rfl⟩))
    go_ret3
    refine ⟨?_,hb⟩;rw [HRi.out];exact CT rfl (by show (k:Int)+(i:Int)=((k+i:Nat):Int);omega) rfl
   ·rw [if_neg him] at hI;have HRi:=Ad5 (show R=((s[k] :: s.data.toList.drop (k+1)).take m,E,0) by rw [HR.out,if_neg him]);have HE:=Ad5 hE;clear HR him hE;go_wp2_with (first
     | (go_at_call 111;refine hB.mono ?_;rintro e w1 ⟨rfl,hb⟩)
     | (go_at_call 112;refine (hI _).mono ?_;rintro e w2 ⟨rfl,rfl⟩))
    go_ret3
    refine ⟨?_,hb⟩;rw [HRi.out];exact CT (I4 (by rw [←HE.out];exact Htx.out m)) rfl rfl
  ·obtain ⟨i,hi,hI,HR⟩:=tail _ (if_neg h91) (by omega);clear tail hB hbl hbp hG;have q91:rx=true→((s[k].toNat:Int) == 91)=false:=fun hrx=>by
    subst hrx;exact beq_eq_false_iff_ne.2 fun h=>h91 (by
     have:s[k]=91:=UInt8.toNat_inj.1 (by show s[k].toNat=91;omega);rw [this];rfl)
   clear h91;obtain ⟨E,hE⟩:∃ E,k+1=E:=⟨_,rfl⟩;rw [hE] at hI HR;have hEi:((k:Int)+1)=(E:Int):=by omega
   rw [hEi] at Wk;have Wk':IntKind.i64.wrap ((k:Int)+1)=(E:Int):=by rw [hEi];exact Wk
   have hm1:(k:Int)≤(E:Int):=by omega
   have hm2:(E:Int)≤(s.size:Int):=by omega
   have hkE:k≤E:=by omega
   have HE:=Ad5 hE;clear hE hEi Wk;by_cases him:i < 1
   ·rw [if_pos him] at hI;have h0:(0:Int)≤(i:Int):=by omega
    have Wi:IntKind.i64.wrap ((k:Int)+(i:Int))=(k:Int)+(i:Int):=Aej _ (by omega);have HRi:=Ad5 (show R=([],k+i,2) by rw [HR.out,if_pos him]);clear HR him;go_enter Tryz.func94,Tryz.ntmps94;cases rx
    ·go_wp2_with (go_at_call 112;refine (hI _).mono ?_;rintro e w2 ⟨rfl,rfl⟩)
     go_ret3
     refine ⟨?_,Aeh _ _⟩;rw [HRi.out];exact CT rfl (by show (k:Int)+(i:Int)=((k+i:Nat):Int);omega) rfl
    ·have q91':=q91 rfl;clear q91;go_wp2_with (go_at_call 112;refine (hI _).mono ?_;rintro e w2 ⟨rfl,rfl⟩)
     go_ret3
     refine ⟨?_,Aeh _ _⟩;rw [HRi.out];exact CT rfl (by show (k:Int)+(i:Int)=((k+i:Nat):Int);omega) rfl
   ·rw [if_neg him] at hI;have HRi:=Ad5 (show R=((s[k] :: s.data.toList.drop (k+1)).take 1,E,0) by rw [HR.out,if_neg him];rfl);clear HR him;go_enter Tryz.func94,Tryz.ntmps94;cases rx
    ·go_wp2_with (go_at_call 112;refine (hI _).mono ?_;rintro e w2 ⟨rfl,rfl⟩)
     go_ret3
     refine ⟨?_,Aeh _ _⟩;rw [HRi.out];exact CT (I4 (by rw [←HE.out];exact Htx.out 1)) rfl rfl
    ·have q91':=q91 rfl;clear q91;go_wp2_with (go_at_call 112;refine (hI _).mono ?_;rintro e w2 ⟨rfl,rfl⟩)
     go_ret3
     refine ⟨?_,Aeh _ _⟩;rw [HRi.out];exact CT (I4 (by rw [←HE.out];exact Htx.out 1)) rfl rfl
theorem FT (s:ByteArray) (k:Nat) (d:UInt8) (rx:Bool) (w:World) (hs:s.size≤4000000) (hk:k≤s.size) (hG:GP w) :
  Calls Tryz.prog 76 #[.string s,.int .i64 k,.int .u8 d.toNat,.bool rx] w fun e w'=>e=pcA (Cm d rx s.data.toList (s.size+1) k [])∧Below w.heap.size w w':=by
 have hP:=EL s k w hk;obtain ⟨R,hR⟩:∃ R,Cm d rx s.data.toList (s.size+1) k []=R:=⟨_,rfl⟩;rw [hR];have HR:=Ad5 hR;clear hR;go_enter Tryz.func76,Tryz.ntmps76;go_wp2_with (go_at_call 38;refine hP.mono ?_;rintro e w' ⟨rfl,rfl⟩)
 clear hP;go_loopw [1,12,13,14] (fun i _ _ _ wr=>∃ (p n:Nat) (acc:List UInt8),p≤s.size∧s.size < p+n∧i=.int .i64 p∧Lib.IsBuilderF 167 5 w'.heap.size w'.heap.size (Lib.byteCells acc) wr∧Below w'.heap.size w' wr∧acc.length≤p∧Cm d rx s.data.toList n p acc=R) (fun i _ _ _ _=>s.size - (intOf i).toNat)
 case atStart=>exact ⟨k,s.size+1,[],hk,by omega,rfl,Lib.IsBuilderF.of (Lib.fresh_isBuilder 167 5 w'),(Aeh _ w').alloc (Aec _) _,by simp,HR.out⟩
 case round=>
  obtain ⟨p,n,acc,hp,hn,rfl,hI,hbw,hal,hacc⟩:=hrel;obtain ⟨n,rfl⟩:∃ m,n=m+1:=⟨n - 1,by omega⟩;have HA:=Ad5 hacc;clear hacc;have hsz:=hbw.size;by_cases hlt:p < s.size
  ·have hlti:(p:Int) < (s.size:Int):=by omega
   have Hd:=Ad5 (Bi s p hlt);by_cases hc:s[p]=d
   ·have q:((s[p].toNat:Int) == (d.toNat:Int))=true:=by rw [hc];simp
    have Hc:=Ad5 hc;clear hc;have Wp:IntKind.i64.wrap ((p:Int)+1)=(p:Int)+1:=Aej _ (by omega);have hS:=CA w'.heap.size w'.heap.size acc wr hI hsz;go_wp2_with (go_at_call 88;refine hS.mono ?_;rintro e W2 ⟨rfl,_,b2,_⟩)
    go_ret3
    refine ⟨?_,hbw.trans b2⟩;rw [←HA.out,Dr (t:=s.data.toList.drop (p+1)) (by rw [Hd.out,Hc.out])];rfl
   ·have q:((s[p].toNat:Int) == (d.toNat:Int))=false:=beq_eq_false_iff_ne.2 fun h=>hc (UInt8.toNat_inj.1 (by omega))
    have hPP:=KU s p d rx wr hs hlt (hG.below hbw hG.lt);obtain ⟨x,e,er,hx⟩:∃ x e er,AV d rx s[p] (s.data.toList.drop (p+1)) p=(x,e,er):=⟨_,_,_,rfl⟩;rw [hx] at hPP;have hxs:=CR x;by_cases her:er=0
    ·subst her;obtain ⟨h1,h2,h3⟩:=EK hx;rw [List.length_drop,←Ad] at h2;have Hn:=Ad5 (CE (n:=n) (acc:=acc) (L:=s.data.toList) (p:=p) Hd.out hc hx);have hlen:(Lib.byteCells acc).length+(txt x).size≤140737488355328:=by rw [Lib.byteCells_length];omega
     clear hx hc;go_wp2_with (first
      | (go_at_call 94;refine hPP.mono ?_;rintro e w1 ⟨rfl,b1⟩)
      | (go_at_call 95;refine (KH w'.heap.size w'.heap.size _ _ _ (Ua hI b1) hlen (Aed hsz b1.size)).mono ?_;rintro e w2 ⟨rfl,h4,b2,_⟩))
     go_roundw
     case rel=>
      refine ⟨e,n,acc++x,by omega,by omega,rfl,?_,(hbw.trans (b1.mono hsz)).trans b2,by simp;omega,by rw [←Hn.out];exact HA.out⟩;rw [Lib.byteCells_append];exact Or.inr h4
     case measure=>simp [intOf];omega
    ·obtain ⟨rfl,h2,h3⟩:=G2 hx her;have qe:(((er:Nat):Int) != 0)=true:=bne_iff_ne.2 (by omega);have Hn:=Ad5 (DQ (n:=n) (acc:=acc) (L:=s.data.toList) (p:=p) Hd.out hc her hx);clear hx hc h3 her;go_wp2_with (first
      | (go_at_call 94;refine hPP.mono ?_;rintro e w1 ⟨rfl,b1⟩))
     go_ret3
     refine ⟨?_,hbw.trans (b1.mono hsz)⟩;rw [←HA.out,Hn.out];rfl
  ·have hlti:¬ (p:Int) < (s.size:Int):=by omega
   have Hd:=Ad5 (Bn s p (by omega))
   go_wp2
   go_ret3
   refine ⟨?_,hbw⟩;rw [←HA.out,Dq Hd.out];exact CT rfl rfl rfl
end
section
open Go Go.RowKit
def Ub (w:World) (r:BK (List UInt8 × Nd)) (e:Ending) (w':World):Prop:=Below w.heap.size w w'∧match r with
 | .error q=>e=.returned (.tuple #[.agg #[.string ⟨#[]⟩,.nilIface,.slice none 0 0],.int .i64 (q.2:Int),.int .i64 (q.1:Int)])
 | .ok q=>∃ tv mv,e=.returned (.tuple #[.agg #[.string (txt q.1.1),tv,mv],.int .i64 (q.2.2:Int),.int .i64 0])∧NdX (fun b=>w.heap.size≤b∧mv.ownBlock≠some b) w' q.1.2 tv∧w'.ownsRow w.heap.size 33 2 mv q.2.1.length (wmC q.2.1)
theorem Uc {ext:Bool} {L:List UInt8} {b:Nat} {d:UInt8} {t:List UInt8} {p e:Nat} (hb:b≤L.length) (h:Cm d true L (L.length+1) b []=(t,p,e)) :
  Ar ext L b d=if e=0 then (if t=[] then .error (2,b) else match AZ ext t with | .error q=>.error (q.1,b) | .ok q=>.ok ((t,q.2),Cj b (q.1.marks.map SN),p)) else .error (e,p):=by
 unfold Ar Aj;rw [Dz _ _ _ _ hb,h];rfl
theorem WN (ext:Bool) (s:ByteArray) (w:World) (hG:Gl w):Calls Tryz.prog (if ext then 100 else 99) #[.string s] w fun e w'=>PW (AZ ext s.data.toList) w e w':=by
 cases ext
 ·exact Qo s w hG
 ·exact Q6 s w hG
theorem Kt (ext:Bool) (s:ByteArray) (b:Nat) (d:UInt8) (w:World) (hs:s.size≤4000000) (hb:b≤s.size) (hG:Gl w) (hP:GP w) :
  Calls Tryz.prog 84 #[.string s,.int .i64 (b:Int),.int .u8 d.toNat,.bool ext] w (Ub w (Ar ext s.data.toList b d)):=by
 have hA:=(Aeh w.heap.size w).alloc (Aec _) (.cells #[.string ⟨#[]⟩,.nilIface,.slice none 0 0] 160);have hR0:=Blk.new w #[.string ⟨#[]⟩,.nilIface,.slice none 0 0] 160 w.heap.size rfl;obtain ⟨W,hW⟩:∃ W,w.alloc (.cells #[.string ⟨#[]⟩,.nilIface,.slice none 0 0] 160)=W:=⟨_,rfl⟩;rw [hW] at hA hR0;have hbt:=FT s b d true W hs hb (hP.up hA);obtain ⟨⟨t,p,e0⟩,hR⟩:∃ R,Cm d true s.data.toList (s.size+1) b []=R:=⟨_,rfl⟩;rw [hR] at hbt;rw [Uc (ext:=ext) (t:=t) (p:=p) (e:=e0) (by rw [←Ad];exact hb) (by rw [←Ad];exact hR)];have HA:=Ad5 hA;have HR0:=Ad5 hR0;have HG:=Ad5 (hG.up hA);clear hR hA hR0 hG hP;obtain ⟨z0,z1,z2,v0,v1,v2,hz⟩:=Gr HR0.out;have hbt:Calls Tryz.prog 76 #[.string s,.int .i64 b,.int .u8 d.toNat,.bool true] W fun e w'=>e=.returned (.tuple #[.string (txt t),.int .i64 (p:Int),.int .i64 (e0:Int)])∧Below W.heap.size W w':=hbt
 obtain ⟨T,hT⟩:∃ T,txt t=T:=⟨_,rfl⟩;have hTl:T.data.toList=t:=by rw [←hT,DY]
 have hT1:T.toList.isEmpty=t.isEmpty:=by rw [ByteArray.toList_eq,hTl]
 rw [hT] at hbt;have HT:=Ad5 hTl;have HTx:=Ad5 hT;clear hTl hT;by_cases he:e0=0
 ·subst he;rw [if_pos rfl];by_cases ht:t=[]
  ·rw [if_pos ht];have c1:T.toList.isEmpty=true:=by rw [hT1,ht];rfl
   have c2:T.toList=[]:=List.isEmpty_iff.1 c1;clear ht hT1;go_enter Tryz.func84,Tryz.ntmps84;go_wp2_with (go_at_call 76;refine hbt.mono ?_;clear hbt;rintro e w1 ⟨rfl,b1⟩;have B1:=Ad5 (HA.out.trans (b1.mono HA.out.size));have K1:=Ad5 (HR0.out.below b1 HR0.out.lt);clear b1 z0 z1 z2 v0 v1 v2 hz;obtain ⟨z0,z1,z2,v0,v1,v2,hz⟩:=Gr K1.out)
   first
    | (with_reducible refine RT B1.out K1.out (Aec _) ?_;intro w9 hB9 hk9 hs9 hz9)
    | (have hB9:=B1.out;have hk9:=K1.out;generalize w1=w9 at *)
   clear z0 z1 z2 v0 v1 v2 hz;obtain ⟨z0,z1,z2,_⟩:=Gr hk9;refine bodyPost_ret (v:=.tuple #[.agg #[.string ⟨#[]⟩,.nilIface,.slice none 0 0],.int .i64 (b:Int),.int .i64 2]) (by simp [results,Tryz.results84,go_sem,z0,z1,z2]) rfl ?_;exact ⟨hB9,rfl⟩
  ·rw [if_neg ht];have c1:T.toList.isEmpty=false:=by rw [hT1];cases t <;> simp_all
   have c2:¬ T.toList=[]:=fun h=>by rw [h] at c1;cases c1
   clear ht hT1;have hpa:=fun w1 (hb1:Below W.heap.size W w1)=>WN ext T w1 (HG.out.up hb1)
   rw [HT.out] at hpa;have hwe:∀ q,AZ ext t=.error q→q.1≠0:=fun q h=>It h
   have hwm:∀ q,AZ ext t=.ok q→q.1.marks.length≤250:=fun q h=>by
    have:=Lt (st:=q.1) (d:=q.2) h;unfold AZ at h;split at h
    ·cases h
    ·omega
   obtain ⟨R,hRp⟩:∃ R,AZ ext t=R:=⟨_,rfl⟩;rw [hRp] at hpa hwe hwm ⊢;clear hRp;cases R with
   | error q=>
    obtain ⟨n,k⟩:=q;have hn:n≠0:=hwe _ rfl;have hnn:((n:Int) != 0)=true:=by simp;omega
    clear hwe hwm hn;cases ext
    all_goals
     simp only [Bool.false_eq_true,if_false,if_true] at hpa;go_enter Tryz.func84,Tryz.ntmps84;go_wp2_with (first
      | (go_at_call 76;refine hbt.mono ?_;clear hbt;rintro e w1 ⟨rfl,b1⟩;have hp1:=hpa w1 b1;have B1:=Ad5 (HA.out.trans (b1.mono HA.out.size));have K1:=Ad5 (HR0.out.below b1 HR0.out.lt);clear b1 hpa z0 z1 z2 v0 v1 v2 hz;obtain ⟨z0,z1,z2,v0,v1,v2,hz⟩:=Gr K1.out)
      | (go_at_call 99;refine hp1.mono ?_;clear hp1;rintro e w2 ⟨b2,rfl⟩;have B2:=Ad5 (B1.out.trans (b2.mono B1.out.size));have K2:=Ad5 (K1.out.below b2 K1.out.lt);clear b2 z0 z1 z2 v0 v1 v2 hz;obtain ⟨z0,z1,z2,v0,v1,v2,hz⟩:=Gr K2.out)
      | (go_at_call 100;refine hp1.mono ?_;clear hp1;rintro e w2 ⟨b2,rfl⟩;have B2:=Ad5 (B1.out.trans (b2.mono B1.out.size));have K2:=Ad5 (K1.out.below b2 K1.out.lt);clear b2 z0 z1 z2 v0 v1 v2 hz;obtain ⟨z0,z1,z2,v0,v1,v2,hz⟩:=Gr K2.out))
     first
      | (with_reducible refine RT B2.out K2.out (Aec _) ?_;intro w9 hB9 hk9 hs9 hz9)
      | (have hB9:=B2.out;have hk9:=K2.out;generalize w2=w9 at *)
     clear z0 z1 z2 v0 v1 v2 hz;obtain ⟨z0,z1,z2,_⟩:=Gr hk9;refine bodyPost_ret (v:=.tuple #[.agg #[.string ⟨#[]⟩,.nilIface,.slice none 0 0],.int .i64 (b:Int),.int .i64 (n:Int)]) (by simp [results,Tryz.results84,go_sem,z0,z1,z2]) rfl ?_;exact ⟨hB9,rfl⟩
   | ok q=>
    obtain ⟨st,dn⟩:=q;show Calls _ _ _ _ (Ub w (.ok ((t,dn),Cj (b:Int) (st.marks.map SN),p)));have hm250:st.marks.length≤250:=hwm _ rfl;obtain ⟨n,hn⟩:∃ n,st.marks.length=n:=⟨_,rfl⟩;have hmn:(st.marks.map SN).length=n:=by simp [hn]
    simp only [PW,hn,SY] at hpa;rw [hn] at hm250;have Hmn:=Ad5 hmn;clear hwe hwm hn hmn;generalize st.marks.map SN=l at hpa Hmn ⊢;have HF:∀ (w':World) (tv:Value) (a':Option Addr) (c':Nat),Below w.heap.size w w'→NdX (fun b=>w.heap.size≤b∧(Value.slice a' n c').ownBlock≠some b) w' dn tv→w'.ownsRow w.heap.size 33 2 (.slice a' n c') n (wmC (Cj (b:Int) l))→
      Ub w (.ok ((t,dn),Cj (b:Int) l,p)) (.returned (.tuple #[.agg #[.string T,tv,.slice a' n c'],.int .i64 (p:Int),.int .i64 0])) w':=fun w' tv a' c' h1 h2 h3=>by
     refine ⟨h1,tv,.slice a' n c',?_,h2,?_⟩
     ·rw [←HTx.out]
     ·show w'.ownsRow w.heap.size 33 2 _ (Cj (b:Int) l).length (wmC (Cj (b:Int) l));rw [JU,Hmn.out];exact h3
    have HFh:=Ad5 HF;clear HF;cases ext
    all_goals
     simp only [Bool.false_eq_true,if_false,if_true] at hpa;go_enter Tryz.func84,Tryz.ntmps84;go_upto_region 10 with (first
      | (go_at_call 76;refine hbt.mono ?_;clear hbt;rintro e w1 ⟨rfl,b1⟩;have hp1:=hpa w1 b1;have B1:=Ad5 (HA.out.trans (b1.mono HA.out.size));have K1:=Ad5 (HR0.out.below b1 HR0.out.lt);clear b1 hpa z0 z1 z2 v0 v1 v2 hz;obtain ⟨z0,z1,z2,v0,v1,v2,hz⟩:=Gr K1.out)
      | (go_at_call 99;refine hp1.mono ?_;clear hp1;rintro e w2 ⟨b2,tv,mv,rfl,hd,hm⟩)
      | (go_at_call 100;refine hp1.mono ?_;clear hp1;rintro e w2 ⟨b2,tv,mv,rfl,hd,hm⟩))
     obtain ⟨ma,mc,rfl⟩:=A6 hm;have B2:=Ad5 (B1.out.trans (b2.mono B1.out.size));have K2:=Ad5 (K1.out.below b2 K1.out.lt);have HD2:=Ad5 (NdX.keep (G:=fun b=>w1.heap.size≤b∧b < w2.heap.size) (Aec _) (fun b hb hl=>⟨⟨hb,hl⟩,fun _=>rfl⟩) hd);have hmv:=YT Hmn.out ma mc (b:Int) w1.heap.size w2 hm (by omega);have hsh:=hd.elim fun _ h=>Ax h
     clear b2 hd hm z0 z1 z2 v0 v1 v2 hz;obtain ⟨z0,z1,z2,v0,v1,v2,hz⟩:=Gr K2.out;rcases hsh with ⟨T9,q9,rfl⟩ | rfl
     all_goals
      go_wp2_with (go_at_call 101;refine hmv.mono ?_;clear hmv;rintro e w3 ⟨a3,c3,rfl,b3,ho3⟩;have B3:=Ad5 (B2.out.trans (b3.mono B2.out.size));have K3:=Ad5 (K2.out.below b3 K2.out.lt);have HD3:=Ad5 (NdX.below b3 HD2.out);have HO3:=Ad5 ho3;have hb3:=Ad5 b3.size;clear b3 ho3 z0 z1 z2 v0 v1 v2 hz;obtain ⟨z0,z1,z2,v0,v1,v2,hz⟩:=Gr K3.out)
      with_reducible refine RT B3.out K3.out (Aec _) ?_
      intro w9 hB9 hk9 hs9 hz9;have hne:∀ g,(Value.slice a3 n c3).ownBlock=some g→g≠w.heap.size:=fun g hg e=>by
       have:=AL HO3.out g hg;have:=K2.out.lt;omega
      have hfin:=HFh.out w9 _ a3 c3 hB9 (NdX.keep (G:=fun b=>w.heap.size≤b∧(Value.slice a3 n c3).ownBlock≠some b) (by omega) (fun b hb hl=>⟨⟨Aed B1.out.size hb.1,fun e=>by have:=AL HO3.out b e;have:=hb.2;omega⟩,fun o=>Aek (w:=w3) (a:=⟨b,o,none⟩) (hs9 b (by have:=K1.out.lt;have:=hb.1;omega))⟩) HD3.out) (Aa (BS (Aed B2.out.size (Aec _)) HO3.out) fun g hg=>hs9 g (hne g hg));clear z0 z1 z2 v0 v1 v2 hz;obtain ⟨z0,z1,z2,_⟩:=Gr hk9;refine bodyPost_ret (by simp [results,Tryz.results84,go_sem,z0,z1,z2]) rfl hfin
 ·rw [if_neg he];have hnn:((e0:Int) != 0)=true:=by simp;omega
  clear he hT1;go_enter Tryz.func84,Tryz.ntmps84;go_wp2_with (go_at_call 76;refine hbt.mono ?_;clear hbt;rintro e w1 ⟨rfl,b1⟩;have B1:=Ad5 (HA.out.trans (b1.mono HA.out.size));have K1:=Ad5 (HR0.out.below b1 HR0.out.lt);clear b1 z0 z1 z2 v0 v1 v2 hz;obtain ⟨z0,z1,z2,v0,v1,v2,hz⟩:=Gr K1.out)
  first
   | (with_reducible refine RT B1.out K1.out (Aec _) ?_;intro w9 hB9 hk9 hs9 hz9)
   | (have hB9:=B1.out;have hk9:=K1.out;generalize w1=w9 at *)
  clear z0 z1 z2 v0 v1 v2 hz;obtain ⟨z0,z1,z2,_⟩:=Gr hk9;refine bodyPost_ret (v:=.tuple #[.agg #[.string ⟨#[]⟩,.nilIface,.slice none 0 0],.int .i64 (p:Int),.int .i64 (e0:Int)]) (by simp [results,Tryz.results84,go_sem,z0,z1,z2]) rfl ?_;exact ⟨hB9,rfl⟩
def TrO (F:Nat→Prop) (w:World):Option Nd→Value→Prop
 | none,v=>v=.nilIface
 | some d,v=>NdX F w d v
theorem TrO.keep {F G:Nat→Prop} {w w':World} (hs:w.heap.size≤w'.heap.size) (hF:∀ b,F b→b < w.heap.size→G b∧∀ o,w'.cell? ⟨b,o,none⟩=w.cell? ⟨b,o,none⟩):∀ {t:Option Nd} {v:Value},TrO F w t v→TrO G w' t v
 | none,_,h=>h
 | some _,_,h=>NdX.keep hs hF h
theorem TrO.below {F:Nat→Prop} {w w':World} (hb:Below w.heap.size w w'):∀ {t:Option Nd} {v:Value},TrO F w t v→TrO F w' t v
 | none,_,h=>h
 | some _,_,h=>NdX.below hb h
theorem TrO.shape {F:Nat→Prop} {w:World}:∀ {t:Option Nd} {v:Value},TrO F w t v→(∃ T q,v=.iface T q)∨v=.nilIface
 | none,_,h=>.inr h
 | some _,_,h=>h.elim fun _ k=>Ax k
theorem DT {ext:Bool} {L:List UInt8} {b:Nat} {d:UInt8} {q:Nat × Nat} (h:Ar ext L b d=.error q):q.1≠0:=by
 unfold Ar at h;simp only at h;split at h
 ·split at h
  ·injection h with h;subst h;simp
  ·split at h
   ·rename_i he;injection h with h;have hq:=It he;rw [←h];exact hq
   ·cases h
 ·rename_i he;injection h with h;subst h;exact he
def IR (w:World) (r:BK Adr) (e:Ending) (w':World):Prop:=Below w.heap.size w w'∧match r with
 | .error q=>e=.returned (.tuple #[.agg #[.int .i64 0,.int .i64 0,.string ⟨#[]⟩,.nilIface],.slice none 0 0,.int .i64 (q.2:Int),.int .i64 (q.1:Int)])
 | .ok q=>∃ tv ma mc,e=.returned (.tuple #[.agg #[.int .i64 (q.1.kind:Int),.int .i64 (q.1.line:Int),.string (txt q.1.text),tv],.slice ma q.2.1.length mc,.int .i64 (q.2.2:Int),.int .i64 0])∧
  TrO (fun b=>w.heap.size≤b∧(Value.slice ma q.2.1.length mc).ownBlock≠some b) w' q.1.tree tv∧w'.ownsRow w.heap.size 33 2 (.slice ma q.2.1.length mc) q.2.1.length (wmC q.2.1)
abbrev Gs:Array Value:=#[.int .i64 0,.int .i64 0,.string ⟨#[]⟩,.nilIface]
theorem Ud (s:ByteArray) (k:Nat) (w:World) (hs:s.size≤4000000) (hk:k≤s.size) :
  Calls Tryz.prog 62 #[.string s,.int .i64 (k:Int)] w (IR w (Dt s.data.toList k)):=by
 have hA:=(Aeh w.heap.size w).alloc (Aec _) (.cells Gs 40);have hR0:=Blk.new w Gs 40 w.heap.size rfl;obtain ⟨W,hW⟩:∃ W,w.alloc (.cells Gs 40)=W:=⟨_,rfl⟩;rw [hW] at hA hR0;have hnm:=G4 s k W hs hk;obtain ⟨⟨n,p,e0⟩,hR⟩:∃ R,Bx s.data.toList k=R:=⟨_,rfl⟩;rw [hR] at hnm;unfold Dt;rw [hR];have hnm:Calls Tryz.prog 83 #[.string s,.int .i64 k] W fun e w'=>e=.returned (.tuple #[.int .i64 (n:Int),.int .i64 (p:Int),.int .i64 (e0:Int)])∧Below W.heap.size W w':=hnm
 have HA:=Ad5 hA;have HR0:=Ad5 hR0;clear hR hA hR0;obtain ⟨z0,z1,z2,z3,v0,v1,v2,v3,hz⟩:=Be HR0.out;simp only;by_cases he:e0=0
 ·subst he;rw [if_pos rfl];by_cases hn:n=0
  ·subst hn;rw [if_pos rfl];go_enter Tryz.func62,Tryz.ntmps62;go_wp2_with (go_at_call 83;refine hnm.mono ?_;clear hnm;rintro e w1 ⟨rfl,b1⟩;have B1:=Ad5 (HA.out.trans (b1.mono HA.out.size));have K1:=Ad5 (HR0.out.below b1 HR0.out.lt);clear b1 z0 z1 z2 z3 v0 v1 v2 v3 hz;obtain ⟨z0,z1,z2,z3,v0,v1,v2,v3,hz⟩:=Be K1.out)
   first
    | (with_reducible refine Ct B1.out K1.out (Aec _) ?_;intro w9 hB9 hk9 hs9 hz9)
    | (have hB9:=B1.out;have hk9:=K1.out;generalize w1=w9 at *)
   clear z0 z1 z2 z3 v0 v1 v2 v3 hz;obtain ⟨z0,z1,z2,z3,_⟩:=Be hk9;refine bodyPost_ret (v:=.tuple #[.agg Gs,.slice none 0 0,.int .i64 (k:Int),.int .i64 12]) (by simp [results,Tryz.results62,go_sem,z0,z1,z2,z3]) rfl ?_;exact ⟨hB9,rfl⟩
  ·rw [if_neg hn];have hnn:((n:Int) == 0)=false:=by simp;omega
   clear hn;go_enter Tryz.func62,Tryz.ntmps62;go_wp2_with (go_at_call 83;refine hnm.mono ?_;clear hnm;rintro e w1 ⟨rfl,b1⟩;have B1:=Ad5 (HA.out.trans (b1.mono HA.out.size));have K1:=Ad5 (HR0.out.below b1 HR0.out.lt);clear b1 z0 z1 z2 z3 v0 v1 v2 v3 hz;obtain ⟨z0,z1,z2,z3,v0,v1,v2,v3,hz⟩:=Be K1.out)
   with_reducible refine Ct B1.out K1.out (Aec _) ?_
   intro w9 hB9 hk9 hs9 hz9;clear z0 z1 z2 z3 v0 v1 v2 v3 hz;obtain ⟨z0,z1,z2,z3,_⟩:=Be hk9;refine bodyPost_ret (v:=.tuple #[.agg #[.int .i64 1,.int .i64 (n:Int),.string ⟨#[]⟩,.nilIface],.slice none 0 0,.int .i64 (p:Int),.int .i64 0]) (by simp [results,Tryz.results62,go_sem,z0,z1,z2,z3]) rfl ?_;exact ⟨hB9,.nilIface,none,0,rfl,rfl,World.ownsRow_nil _ _ _ _⟩
 ·rw [if_neg he];have hnn:((e0:Int) != 0)=true:=by simp;omega
  clear he;go_enter Tryz.func62,Tryz.ntmps62;go_wp2_with (go_at_call 83;refine hnm.mono ?_;clear hnm;rintro e w1 ⟨rfl,b1⟩;have B1:=Ad5 (HA.out.trans (b1.mono HA.out.size));have K1:=Ad5 (HR0.out.below b1 HR0.out.lt);clear b1 z0 z1 z2 z3 v0 v1 v2 v3 hz;obtain ⟨z0,z1,z2,z3,v0,v1,v2,v3,hz⟩:=Be K1.out)
  first
   | (with_reducible refine Ct B1.out K1.out (Aec _) ?_;intro w9 hB9 hk9 hs9 hz9)
   | (have hB9:=B1.out;have hk9:=K1.out;generalize w1=w9 at *)
  clear z0 z1 z2 z3 v0 v1 v2 v3 hz;obtain ⟨z0,z1,z2,z3,_⟩:=Be hk9;refine bodyPost_ret (v:=.tuple #[.agg Gs,.slice none 0 0,.int .i64 (p:Int),.int .i64 (e0:Int)]) (by simp [results,Tryz.results62,go_sem,z0,z1,z2,z3]) rfl ?_;exact ⟨hB9,rfl⟩
theorem Ue (s:ByteArray) (k:Nat) (w:World) (hs:s.size≤4000000) (hk:k < s.size) :
  Calls Tryz.prog 65 #[.string s,.int .i64 (k:Int)] w (IR w (Du s.data.toList k)):=by
 have hA:=(Aeh w.heap.size w).alloc (Aec _) (.cells Gs 40);have hR0:=Blk.new w Gs 40 w.heap.size rfl;obtain ⟨W,hW⟩:∃ W,w.alloc (.cells Gs 40)=W:=⟨_,rfl⟩;rw [hW] at hA hR0;obtain ⟨k1,hk1⟩:∃ k1,k+1=k1:=⟨_,rfl⟩;have hnm:=G4 s k1 W hs (by omega);have Wk:IntKind.i64.wrap ((k:Int)+1)=(k1:Int):=by rw [Aej _ (by omega)];omega
 unfold Du;rw [hk1];obtain ⟨⟨n,p,e0⟩,hR⟩:∃ R,Bx s.data.toList k1=R:=⟨_,rfl⟩;rw [hR] at hnm ⊢;have hnm:Calls Tryz.prog 83 #[.string s,.int .i64 k1] W fun e w'=>e=.returned (.tuple #[.int .i64 (n:Int),.int .i64 (p:Int),.int .i64 (e0:Int)])∧Below W.heap.size W w':=hnm
 have HA:=Ad5 hA;have HR0:=Ad5 hR0;clear hR hA hR0 hk1;obtain ⟨z0,z1,z2,z3,v0,v1,v2,v3,hz⟩:=Be HR0.out;simp only;by_cases he:e0=0
 ·subst he;rw [if_pos rfl];go_enter Tryz.func65,Tryz.ntmps65;go_upto_region 4 with (go_at_call 83;refine hnm.mono ?_;clear hnm;rintro e w1 ⟨rfl,b1⟩;have B1:=Ad5 (HA.out.trans (b1.mono HA.out.size));have K1:=Ad5 (HR0.out.below b1 HR0.out.lt);clear b1 z0 z1 z2 z3 v0 v1 v2 v3 hz)
  have b2:=B1.out.alloc B1.out.size (.cells #[.int .i64 (k:Int),.string ⟨#[43]⟩] 33);have k2:=K1.out.alloc (.cells #[.int .i64 (k:Int),.string ⟨#[43]⟩] 33);have ho2:=World.ownsRow_lit (base:=w.heap.size) (size:=2) (e:=33) w1 #[.int .i64 (k:Int),.string ⟨#[43]⟩] 1 B1.out.size (by decide) rfl;have hlt:=K1.out.lt;obtain ⟨g,hg⟩:∃ g,w1.heap.size=g:=⟨_,rfl⟩;obtain ⟨W2,hW2⟩:∃ W2,w1.alloc (.cells #[.int .i64 (k:Int),.string ⟨#[43]⟩] 33)=W2:=⟨_,rfl⟩;rw [hW2] at b2 k2 ho2;rw [hg] at ho2 hlt;have HO:=Ad5 ho2;have B2:=Ad5 b2;have K2:=Ad5 k2;have Hlt:=Ad5 hlt;clear b2 k2 ho2 hlt;obtain ⟨z0,z1,z2,z3,v0,v1,v2,v3,hz⟩:=Be K2.out;go_wp2_with fail
  with_reducible refine Ct B2.out K2.out (Aec _) ?_
  intro w9 hB9 hk9 hs9 hz9;clear z0 z1 z2 z3 v0 v1 v2 v3 hz;obtain ⟨z0,z1,z2,z3,_⟩:=Be hk9;refine bodyPost_ret (v:=.tuple #[.agg #[.int .i64 4,.int .i64 (n:Int),.string ⟨#[]⟩,.nilIface],.slice (some ⟨g,0,none⟩) 1 1,.int .i64 (p:Int),.int .i64 0]) (by simp [results,Tryz.results65,go_sem,z0,z1,z2,z3]) rfl ?_;refine ⟨hB9,.nilIface,_,_,rfl,rfl,Aa HO.out fun b hb=>hs9 b fun e=>?_⟩;have:some g=some b:=hb;injection this with this;have:=Hlt.out;omega
 ·rw [if_neg he];have hnn:((e0:Int) != 0)=true:=by simp;omega
  clear he;go_enter Tryz.func65,Tryz.ntmps65;go_wp2_with (go_at_call 83;refine hnm.mono ?_;clear hnm;rintro e w1 ⟨rfl,b1⟩;have B1:=Ad5 (HA.out.trans (b1.mono HA.out.size));have K1:=Ad5 (HR0.out.below b1 HR0.out.lt);clear b1 z0 z1 z2 z3 v0 v1 v2 v3 hz;obtain ⟨z0,z1,z2,z3,v0,v1,v2,v3,hz⟩:=Be K1.out)
  first
   | (with_reducible refine Ct B1.out K1.out (Aec _) ?_;intro w9 hB9 hk9 hs9 hz9)
   | (have hB9:=B1.out;have hk9:=K1.out;generalize w1=w9 at *)
  clear z0 z1 z2 z3 v0 v1 v2 v3 hz;obtain ⟨z0,z1,z2,z3,_⟩:=Be hk9;refine bodyPost_ret (v:=.tuple #[.agg Gs,.slice none 0 0,.int .i64 (p:Int),.int .i64 (e0:Int)]) (by simp [results,Tryz.results65,go_sem,z0,z1,z2,z3]) rfl ?_;exact ⟨hB9,rfl⟩
theorem LD (ext:Bool) (s:ByteArray) (b:Nat) (d:UInt8) (w:World) (hs:s.size≤4000000) (hb:b≤s.size) (hG:Gl w) (hP:GP w) :
  Calls Tryz.prog 63 #[.string s,.int .i64 (b:Int),.int .u8 d.toNat,.bool ext] w (IR w (En ext s.data.toList b d)):=by
 have hA:=(Aeh w.heap.size w).alloc (Aec _) (.cells Gs 40);have hR0:=Blk.new w Gs 40 w.heap.size rfl;obtain ⟨W,hW⟩:∃ W,w.alloc (.cells Gs 40)=W:=⟨_,rfl⟩;rw [hW] at hA hR0;have hde:=Kt ext s b d W hs hb (hG.up hA) (hP.up hA);have hwe:∀ q,Ar ext s.data.toList b d=.error q→q.1≠0:=fun q h=>DT h
 unfold En;obtain ⟨R,hR⟩:∃ R,Ar ext s.data.toList b d=R:=⟨_,rfl⟩;rw [hR] at hde hwe ⊢;have HA:=Ad5 hA;have HR0:=Ad5 hR0;clear hR hA hR0 hG hP;obtain ⟨z0,z1,z2,z3,v0,v1,v2,v3,hz⟩:=Be HR0.out;cases R with
 | error q=>
  obtain ⟨n,p⟩:=q;have hn:n≠0:=hwe _ rfl;have hnn:((n:Int) != 0)=true:=by simp;omega
  clear hwe hn;go_enter Tryz.func63,Tryz.ntmps63;go_upto_region 2 with (go_at_call 84;refine hde.mono ?_;clear hde;rintro e w1 ⟨b1,rfl⟩;have B1:=Ad5 (HA.out.trans (b1.mono HA.out.size));have K1:=Ad5 (HR0.out.below b1 HR0.out.lt);clear b1 z0 z1 z2 z3 v0 v1 v2 v3 hz)
  have b2:=B1.out.alloc B1.out.size (.cells #[.string ⟨#[]⟩,.nilIface,.slice none 0 0] 160);have k2:=K1.out.alloc (.cells #[.string ⟨#[]⟩,.nilIface,.slice none 0 0] 160);generalize w1.alloc (.cells #[.string ⟨#[]⟩,.nilIface,.slice none 0 0] 160)=w2 at *;have B2:=Ad5 b2;have K2:=Ad5 k2;clear b2 k2;obtain ⟨z0,z1,z2,z3,v0,v1,v2,v3,hz⟩:=Be K2.out;go_wp2_with fail
  first
   | (with_reducible refine Ct B2.out K2.out (Aec _) ?_;intro w9 hB9 hk9 hs9 hz9)
   | (have hB9:=B2.out;have hk9:=K2.out;generalize w2=w9 at *)
  clear z0 z1 z2 z3 v0 v1 v2 v3 hz;obtain ⟨z0,z1,z2,z3,_⟩:=Be hk9;refine bodyPost_ret (v:=.tuple #[.agg Gs,.slice none 0 0,.int .i64 (p:Int),.int .i64 (n:Int)]) (by simp [results,Tryz.results63,go_sem,z0,z1,z2,z3]) rfl ?_;exact ⟨hB9,rfl⟩
 | ok q=>
  obtain ⟨⟨t,dn⟩,ms,p⟩:=q;show Calls _ _ _ _ (IR w (.ok (⟨3,0,t,some dn⟩,ms,p)));have hde:Calls Tryz.prog 84 #[.string s,.int .i64 (b:Int),.int .u8 d.toNat,.bool ext] W fun e w'=>Ub W (.ok ((t,dn),ms,p)) e w':=hde
  simp only [Ub] at hde;clear hwe;obtain ⟨n,hn⟩:∃ n,ms.length=n:=⟨_,rfl⟩;rw [hn] at hde;obtain ⟨T,hT⟩:∃ T,txt t=T:=⟨_,rfl⟩;rw [hT] at hde;have HF:=Ad5 (fun (w':World) (tv:Value) (a':Option Addr) (c':Nat) (h1:Below w.heap.size w w') (h2:NdX (fun b=>w.heap.size≤b∧(Value.slice a' n c').ownBlock≠some b) w' dn tv) (h3:w'.ownsRow w.heap.size 33 2 (.slice a' n c') n (wmC ms))=>
   (show IR w (.ok (⟨3,0,t,some dn⟩,ms,p)) (.returned (.tuple #[.agg #[.int .i64 3,.int .i64 0,.string T,tv],.slice a' n c',.int .i64 (p:Int),.int .i64 0])) w' from by
    subst hn hT;exact ⟨h1,tv,a',c',rfl,h2,h3⟩))
  clear hn hT;go_enter Tryz.func63,Tryz.ntmps63;go_upto_region 2 with (go_at_call 84;refine hde.mono ?_;clear hde;rintro e w1 ⟨b1,tv,mv,rfl,hd,hm⟩;obtain ⟨ma,mc,rfl⟩:=A6 hm;have HD1:=Ad5 hd;have HM1:=Ad5 hm;have hsh:=hd.elim fun _ h=>Ax h;have B1:=Ad5 (HA.out.trans (b1.mono HA.out.size));have K1:=Ad5 (HR0.out.below b1 HR0.out.lt);clear b1 hd hm z0 z1 z2 z3 v0 v1 v2 v3 hz;rcases hsh with ⟨T9,q9,rfl⟩ | rfl)
  all_goals
   have hlt1:=K1.out.lt;generalize hW2:w1.alloc _=w2;have b2:=Ac hW2;have hX:=Ae hW2;have B2:=Ad5 (B1.out.trans (b2.mono B1.out.size));have K2:=Ad5 (K1.out.below b2 hlt1);have HD2:=Ad5 (NdX.below b2 HD1.out);have HM2:=Ad5 (Ag HM1.out b2);have Hlt:=Ad5 (show w.heap.size < W.heap.size from HR0.out.lt);obtain ⟨x0,x1,x2,_,_,_,hxl⟩:=Gr hX;generalize w1.heap.size=r at *;obtain ⟨z0,z1,z2,z3,v0,v1,v2,v3,hz⟩:=Be K2.out;clear b2 hX hW2;go_wp2_with fail
   go_region
   all_goals
    go_wp2_with fail
    first
     | (with_reducible refine Ct B2.out K2.out (Aec _) ?_)
     | (with_reducible refine Ab4 B2.out K2.out (Aec _) ?_)
    intro w9 hB9 hk9 hs9 hz9;have hfin:=HF.out w9 _ ma mc hB9 (NdX.keep (G:=fun b=>w.heap.size≤b∧(Value.slice ma n mc).ownBlock≠some b) (by first | omega | (simp at hz9;omega)) (fun b hb hl=>⟨⟨Aed (Aeg Hlt.out) hb.1,hb.2⟩,fun o=>Aek (w:=w2) (a:=⟨b,o,none⟩) (hs9 b (by have:=Hlt.out;have:=hb.1;omega))⟩) HD2.out) (Aa (BS (Aeg Hlt.out) HM2.out) fun g hg=>hs9 g (by have:=AL HM2.out g hg;have:=Hlt.out;omega));clear z0 z1 z2 z3 v0 v1 v2 v3 hz;obtain ⟨z0,z1,z2,z3,_⟩:=Be hk9;refine bodyPost_ret (by simp [results,Tryz.results63,go_sem,z0,z1,z2,z3]) rfl hfin
theorem Ku {x:UInt8} {n:Nat} (hn:n < 256) (h:x≠UInt8.ofNat n):((x.toNat:Int) == (n:Int))=false:=beq_eq_false_iff_ne.2 fun e=>h (UInt8.toNat_inj.1 (by
 have h2:(UInt8.ofNat n).toNat=n:=by simp;omega
 rw [h2];omega))
theorem IR.hand {w W:World} {r:BK Adr} {e:Ending} {w1:World} (hA:Below w.heap.size w W) (hk:Blk W w.heap.size Gs 40) (h:IR W r e w1) :
  ∃ k l t v mv p n,e=.returned (.tuple #[.agg #[k,l,t,v],mv,.int .i64 p,.int .i64 n])∧Below w.heap.size w w1∧Blk w1 w.heap.size Gs 40∧
   ((∃ T q,v=.iface T q)∨v=.nilIface)∧(∃ i,k=.int .i64 i)∧(∃ i,l=.int .i64 i)∧(∃ s,t=.string s)∧(∃ a m c,mv=.slice a m c)∧
   ∀ w9,Below w.heap.size w w9→(∀ b,b≠w.heap.size→w9.heap[b]?=w1.heap[b]?)→w9.heap.size=w1.heap.size→IR w r e w9:=by
 obtain ⟨h1,h2⟩:=h;have hlt:=hk.lt;have hkk:=hk.below h1 hk.lt;have hbb:=hA.trans (h1.mono hA.size);cases r with
 | error q=>
  subst h2;exact ⟨_,_,_,_,_,_,_,rfl,hbb,hkk,.inr rfl,⟨_,rfl⟩,⟨_,rfl⟩,⟨_,rfl⟩,⟨_,_,_,rfl⟩,fun w9 hb _ _=>⟨hb,rfl⟩⟩
 | ok q=>
  obtain ⟨tv,ma,mc,rfl,h4,h5⟩:=h2;refine ⟨_,_,_,_,_,_,_,rfl,hbb,hkk,h4.shape,⟨_,rfl⟩,⟨_,rfl⟩,⟨_,rfl⟩,⟨_,_,_,rfl⟩,fun w9 hb hs hz=>⟨hb,tv,ma,mc,rfl,TrO.keep (by omega) (fun b hb _=>⟨⟨Aed hA.size hb.1,hb.2⟩,fun o=>Aek (w:=w1) (a:=⟨b,o,none⟩) (hs b (by have:=hb.1;omega))⟩) h4,Aa (BS hA.size h5) fun g hg=>hs g (by have:=AL h5 g hg;omega)⟩⟩
theorem Q7 (ext:Bool) (s:ByteArray) (k:Nat) (w:World) (hs:s.size≤4000000) (hk:k < s.size) (hG:Gl w) (hP:GP w) :
  Calls Tryz.prog 64 #[.string s,.int .i64 (k:Int),.bool ext] w (IR w (EP ext s.data.toList k)):=by
 have hA:=(Aeh w.heap.size w).alloc (Aec _) (.cells Gs 40);have hR0:=Blk.new w Gs 40 w.heap.size rfl;obtain ⟨W,hW⟩:∃ W,w.alloc (.cells Gs 40)=W:=⟨_,rfl⟩;rw [hW] at hA hR0;have hGW:=hG.up hA;have hPW:=hP.up hA;have HA:=Ad5 hA;have HR0:=Ad5 hR0;clear hA hR0 hG hP;obtain ⟨z0,z1,z2,z3,v0,v1,v2,v3,hz⟩:=Be HR0.out;obtain ⟨k1,hk1⟩:∃ k1,k+1=k1:=⟨_,rfl⟩;have Wk:IntKind.i64.wrap ((k:Int)+1)=(k1:Int):=by rw [Aej _ (by omega)];omega
 have Wk2:IntKind.i64.wrap ((k:Int)+2)=((k+2:Nat):Int):=by rw [Aej _ (by omega)];omega
 unfold EP;rw [hk1];by_cases he:k1=s.size
 ·rw [Bn s k1 (by omega)];have hE:((k1:Int) == (s.size:Int))=true:=by simp [he]
  clear he hk1 hGW hPW;simp only;go_enter Tryz.func64,Tryz.ntmps64;go_wp2_with fail
  first
   | (with_reducible refine Ct HA.out HR0.out (Aec _) ?_;intro w9 hB9 hk9 hs9 hz9)
   | (have hB9:=HA.out;have hk9:=HR0.out;generalize W=w9 at *)
  clear z0 z1 z2 z3 v0 v1 v2 v3 hz;obtain ⟨z0,z1,z2,z3,_⟩:=Be hk9;refine bodyPost_ret (v:=.tuple #[.agg Gs,.slice none 0 0,.int .i64 (k:Int),.int .i64 12]) (by simp [results,Tryz.results64,go_sem,z0,z1,z2,z3]) rfl ?_;exact ⟨hB9,rfl⟩
 ·have hlt:k1 < s.size:=by omega
  rw [Bi s k1 hlt];have hE:((k1:Int) == (s.size:Int))=false:=by simp;omega
  have hx0:(0:Int)≤(k1:Int):=by omega
  have hx1:(k1:Int) < (s.size:Int):=by omega
  simp only;generalize hx:s[k1]=x;by_cases h92:x=92
  ·rw [if_pos (.inl h92)];have q92:((s[k1].toNat:Int) == 92)=true:=by rw [hx,h92];rfl
   clear he hk1 hGW hPW hx h92;go_enter Tryz.func64,Tryz.ntmps64;go_wp2_with fail
   first
    | (with_reducible refine Ct HA.out HR0.out (Aec _) ?_;intro w9 hB9 hk9 hs9 hz9)
    | (have hB9:=HA.out;have hk9:=HR0.out;generalize W=w9 at *)
   clear z0 z1 z2 z3 v0 v1 v2 v3 hz;obtain ⟨z0,z1,z2,z3,_⟩:=Be hk9;refine bodyPost_ret (v:=.tuple #[.agg Gs,.slice none 0 0,.int .i64 (k:Int),.int .i64 12]) (by simp [results,Tryz.results64,go_sem,z0,z1,z2,z3]) rfl ?_;exact ⟨hB9,rfl⟩
  ·have q92:((s[k1].toNat:Int) == 92)=false:=by rw [hx];exact Ku (n:=92) (by decide) h92
   by_cases h10:x=10
   ·rw [if_pos (.inr h10)];have q10:((s[k1].toNat:Int) == 10)=true:=by rw [hx,h10];rfl
    clear he hk1 hGW hPW hx h92 h10;go_enter Tryz.func64,Tryz.ntmps64;go_wp2_with fail
    first
     | (with_reducible refine Ct HA.out HR0.out (Aec _) ?_;intro w9 hB9 hk9 hs9 hz9)
     | (have hB9:=HA.out;have hk9:=HR0.out;generalize W=w9 at *)
    clear z0 z1 z2 z3 v0 v1 v2 v3 hz;obtain ⟨z0,z1,z2,z3,_⟩:=Be hk9;refine bodyPost_ret (v:=.tuple #[.agg Gs,.slice none 0 0,.int .i64 (k:Int),.int .i64 12]) (by simp [results,Tryz.results64,go_sem,z0,z1,z2,z3]) rfl ?_;exact ⟨hB9,rfl⟩
   ·rw [if_neg (by intro h;exact h.elim h92 h10)];have q10:((s[k1].toNat:Int) == 10)=false:=by rw [hx];exact Ku (n:=10) (by decide) h10
    have hC:=LD ext s (k+2) s[k1] W hs (by omega) hGW hPW;rw [hx] at hC;generalize En ext s.data.toList (k+2) x=R at hC ⊢;obtain ⟨xn,hxn⟩:∃ xn,x.toNat=xn:=⟨_,rfl⟩;have hxe:s[k1].toNat=xn:=by rw [hx,hxn]
    rw [hxn] at hC;have HX:=Ad5 hxe;clear he hk1 hGW hPW h92 h10 hxn hx hxe;go_enter Tryz.func64,Tryz.ntmps64;go_wp2_with (go_at_call 63;rw [HX.out];refine hC.mono ?_;clear hC;intro e w1 h;obtain ⟨k',l',t',v',mv,p',n',rfl,hb1,hk1,hsh,⟨ki,rfl⟩,⟨li,rfl⟩,⟨ti,rfl⟩,⟨a',m',c',rfl⟩,hF⟩:=IR.hand HA.out HR0.out h;have HB1:=Ad5 hb1;have HK1:=Ad5 hk1;have HF:=Ad5 hF;clear h hb1 hk1 hF z0 z1 z2 z3 v0 v1 v2 v3 hz;obtain ⟨z0,z1,z2,z3,v0,v1,v2,v3,hz⟩:=Be HK1.out;rcases hsh with ⟨T9,q9,rfl⟩ | rfl)
    all_goals
     with_reducible refine Ct HB1.out HK1.out (Aec _) ?_
     intro w9 hB9 hk9 hs9 hz9;clear z0 z1 z2 z3 v0 v1 v2 v3 hz;obtain ⟨z0,z1,z2,z3,_⟩:=Be hk9;exact bodyPost_ret (by simp [results,Tryz.results64,go_sem,z0,z1,z2,z3]) rfl (HF.out w9 hB9 hs9 hz9)
theorem Sa (ext second:Bool) (s:ByteArray) (k:Nat) (w:World) (hs:s.size≤4000000) (hk:k≤s.size) (hG:Gl w) (hP:GP w) :
  Calls Tryz.prog 40 #[.string s,.int .i64 (k:Int),.bool ext,.bool second] w (IR w (EY ext second s.data.toList k)):=by
 have hA:=(Aeh w.heap.size w).alloc (Aec _) (.cells Gs 40);have hR0:=Blk.new w Gs 40 w.heap.size rfl;obtain ⟨W,hW⟩:∃ W,w.alloc (.cells Gs 40)=W:=⟨_,rfl⟩;rw [hW] at hA hR0;have hGW:=hG.up hA;have hPW:=hP.up hA;have HA:=Ad5 hA;have HR0:=Ad5 hR0;clear hA hR0 hG hP;obtain ⟨z0,z1,z2,z3,v0,v1,v2,v3,hz⟩:=Be HR0.out;have hx0:¬ (k:Int) < 0:=by omega
 have hx1:¬ (s.size:Int) < (k:Int):=by omega
 have Wk:IntKind.i64.wrap ((k:Int)+1)=((k+1:Nat):Int):=by rw [Aej _ (by omega)];omega
 have HW:=Ad5 hW;unfold EY;by_cases he:k=s.size
 ·rw [Bn s k (by omega)];have hE:((k:Int) == (s.size:Int))=true:=by simp [he]
  clear he hGW hPW;simp only;go_enter Tryz.func40,Tryz.ntmps40;go_wp2_with fail
  first
   | (with_reducible refine Ct HA.out HR0.out (Aec _) ?_;intro w9 hB9 hk9 hs9 hz9)
   | (have hB9:=HA.out;have hk9:=HR0.out;generalize W=w9 at *)
  clear z0 z1 z2 z3 v0 v1 v2 v3 hz;obtain ⟨z0,z1,z2,z3,_⟩:=Be hk9;refine bodyPost_ret (v:=.tuple #[.agg Gs,.slice none 0 0,.int .i64 (k:Int),.int .i64 0]) (by simp [results,Tryz.results40,go_sem,z0,z1,z2,z3]) rfl ?_;exact ⟨hB9,.nilIface,none,0,rfl,rfl,World.ownsRow_nil _ _ _ _⟩
 ·have hlt:k < s.size:=by omega
  rw [Bi s k hlt];have hE:((k:Int) == (s.size:Int))=false:=by simp;omega
  have hy0:(0:Int)≤(k:Int):=by omega
  have hy1:(k:Int) < (s.size:Int):=by omega
  simp only;have hl:=Ud s k W hs hk;have hp:=Ue s k W hs hlt;have hd:=Q7 ext s k W hs hlt hGW hPW;have hr:=LD ext s (k+1) s[k] W hs (by omega) hGW hPW;clear hGW hPW he;by_cases hdg:48≤s[k].toNat∧s[k].toNat≤57
  ·rw [if_pos hdg];have d1:(48:Int)≤(s[k].toNat:Int):=by omega
   have d2:(s[k].toNat:Int)≤57:=by omega
   have hC:=hl;clear hdg hl hp hd hr;generalize Dt s.data.toList k=R at hC ⊢;go_enter Tryz.func40,Tryz.ntmps40;go_wp2_with (go_at_call 62;refine hC.mono ?_;clear hC;intro e w1 h;obtain ⟨k',l',t',v',mv,p',n',rfl,hb1,hk1,hsh,⟨ki,rfl⟩,⟨li,rfl⟩,⟨ti,rfl⟩,⟨a',m',c',rfl⟩,hF⟩:=IR.hand HA.out HR0.out h;have HB1:=Ad5 hb1;have HK1:=Ad5 hk1;have HF:=Ad5 hF;clear h hb1 hk1 hF z0 z1 z2 z3 v0 v1 v2 v3 hz;obtain ⟨z0,z1,z2,z3,v0,v1,v2,v3,hz⟩:=Be HK1.out;rcases hsh with ⟨T9,q9,rfl⟩ | rfl)
   all_goals
    with_reducible refine Ct HB1.out HK1.out (Aec _) ?_
    intro w9 hB9 hk9 hs9 hz9;clear z0 z1 z2 z3 v0 v1 v2 v3 hz;obtain ⟨z0,z1,z2,z3,_⟩:=Be hk9;exact bodyPost_ret (by simp [results,Tryz.results40,go_sem,z0,z1,z2,z3]) rfl (HF.out w9 hB9 hs9 hz9)
  ·rw [if_neg hdg];have hD:=Ad5 (show (48:Int)≤(s[k].toNat:Int)→¬ (s[k].toNat:Int)≤57 from fun a b=>hdg ⟨by omega,by omega⟩);clear hdg hl;have hdig:(¬ (48:Int)≤(s[k].toNat:Int))∨((48:Int)≤(s[k].toNat:Int)∧¬ (s[k].toNat:Int)≤57):=by
    by_cases h:(48:Int)≤(s[k].toNat:Int)
    ·exact .inr ⟨h,hD.out h⟩
    ·exact .inl h
   clear hD;by_cases h36:s[k]=36
   ·rw [if_pos h36];have q36:((s[k].toNat:Int) == 36)=true:=by rw [h36];rfl
    clear h36 hp hd hr;rcases hdig with d1 | ⟨d1,d2⟩
    all_goals
     go_enter Tryz.func40,Tryz.ntmps40;go_wp2_with fail
     first
      | (with_reducible refine Ct HA.out HR0.out (Aec _) ?_;intro w9 hB9 hk9 hs9 hz9)
      | (have hB9:=HA.out;have hk9:=HR0.out;generalize W=w9 at *)
     clear z0 z1 z2 z3 v0 v1 v2 v3 hz;obtain ⟨z0,z1,z2,z3,_⟩:=Be hk9;refine bodyPost_ret (v:=.tuple #[.agg #[.int .i64 2,.int .i64 0,.string ⟨#[]⟩,.nilIface],.slice none 0 0,.int .i64 ((k+1:Nat):Int),.int .i64 0]) (by simp [results,Tryz.results40,go_sem,z0,z1,z2,z3]) rfl ?_;exact ⟨hB9,.nilIface,none,0,rfl,rfl,World.ownsRow_nil _ _ _ _⟩
   ·rw [if_neg h36];have q36:((s[k].toNat:Int) == 36)=false:=Ku (n:=36) (by decide) h36;clear h36;by_cases h47:s[k]=47
    ·rw [if_pos h47];have q47:((s[k].toNat:Int) == 47)=true:=by rw [h47];rfl
     have hC:Calls Tryz.prog 63 #[.string s,.int .i64 ((k+1:Nat):Int),.int .u8 s[k].toNat,.bool ext] W (IR W (En ext s.data.toList (k+1) 47)):=by
      have h:=hr;rw [show En ext s.data.toList (k+1) s[k]=En ext s.data.toList (k+1) 47 by rw [h47]] at h;exact h
     clear h47 hp hd hr;generalize En ext s.data.toList (k+1) 47=R at hC ⊢;rcases hdig with d1 | ⟨d1,d2⟩
     all_goals
      go_enter Tryz.func40,Tryz.ntmps40;go_wp2_with (go_at_call 63;refine hC.mono ?_;clear hC;intro e w1 h;obtain ⟨k',l',t',v',mv,p',n',rfl,hb1,hk1,hsh,⟨ki,rfl⟩,⟨li,rfl⟩,⟨ti,rfl⟩,⟨a',m',c',rfl⟩,hF⟩:=IR.hand HA.out HR0.out h;have HB1:=Ad5 hb1;have HK1:=Ad5 hk1;have HF:=Ad5 hF;clear h hb1 hk1 hF z0 z1 z2 z3 v0 v1 v2 v3 hz;obtain ⟨z0,z1,z2,z3,v0,v1,v2,v3,hz⟩:=Be HK1.out;rcases hsh with ⟨T9,q9,rfl⟩ | rfl)
      all_goals
       with_reducible refine Ct HB1.out HK1.out (Aec _) ?_
       intro w9 hB9 hk9 hs9 hz9;clear z0 z1 z2 z3 v0 v1 v2 v3 hz;obtain ⟨z0,z1,z2,z3,_⟩:=Be hk9;exact bodyPost_ret (by simp [results,Tryz.results40,go_sem,z0,z1,z2,z3]) rfl (HF.out w9 hB9 hs9 hz9)
    ·rw [if_neg h47];have q47:((s[k].toNat:Int) == 47)=false:=Ku (n:=47) (by decide) h47;clear h47 hr;by_cases h92:s[k]=92
     ·rw [if_pos h92];have q92:((s[k].toNat:Int) == 92)=true:=by rw [h92];rfl
      have hC:=hd;clear h92 hp hd;generalize EP ext s.data.toList k=R at hC ⊢;rcases hdig with d1 | ⟨d1,d2⟩
      all_goals
       go_enter Tryz.func40,Tryz.ntmps40;go_wp2_with (go_at_call 64;refine hC.mono ?_;clear hC;intro e w1 h;obtain ⟨k',l',t',v',mv,p',n',rfl,hb1,hk1,hsh,⟨ki,rfl⟩,⟨li,rfl⟩,⟨ti,rfl⟩,⟨a',m',c',rfl⟩,hF⟩:=IR.hand HA.out HR0.out h;have HB1:=Ad5 hb1;have HK1:=Ad5 hk1;have HF:=Ad5 hF;clear h hb1 hk1 hF z0 z1 z2 z3 v0 v1 v2 v3 hz;obtain ⟨z0,z1,z2,z3,v0,v1,v2,v3,hz⟩:=Be HK1.out;rcases hsh with ⟨T9,q9,rfl⟩ | rfl)
       all_goals
        with_reducible refine Ct HB1.out HK1.out (Aec _) ?_
        intro w9 hB9 hk9 hs9 hz9;clear z0 z1 z2 z3 v0 v1 v2 v3 hz;obtain ⟨z0,z1,z2,z3,_⟩:=Be hk9;exact bodyPost_ret (by simp [results,Tryz.results40,go_sem,z0,z1,z2,z3]) rfl (HF.out w9 hB9 hs9 hz9)
     ·rw [if_neg h92];have q92:((s[k].toNat:Int) == 92)=false:=Ku (n:=92) (by decide) h92;clear h92 hd;by_cases h43:s[k]=43
      ·have q43:((s[k].toNat:Int) == 43)=true:=by rw [h43];rfl
       cases second with
       | true=>
        rw [if_pos ⟨h43,rfl⟩];have hC:=hp;clear h43 hp;generalize Du s.data.toList k=R at hC ⊢;rcases hdig with d1 | ⟨d1,d2⟩
        all_goals
         go_enter Tryz.func40,Tryz.ntmps40;go_wp2_with (go_at_call 65;refine hC.mono ?_;clear hC;intro e w1 h;obtain ⟨k',l',t',v',mv,p',n',rfl,hb1,hk1,hsh,⟨ki,rfl⟩,⟨li,rfl⟩,⟨ti,rfl⟩,⟨a',m',c',rfl⟩,hF⟩:=IR.hand HA.out HR0.out h;have HB1:=Ad5 hb1;have HK1:=Ad5 hk1;have HF:=Ad5 hF;clear h hb1 hk1 hF z0 z1 z2 z3 v0 v1 v2 v3 hz;obtain ⟨z0,z1,z2,z3,v0,v1,v2,v3,hz⟩:=Be HK1.out;rcases hsh with ⟨T9,q9,rfl⟩ | rfl)
         all_goals
          with_reducible refine Ct HB1.out HK1.out (Aec _) ?_
          intro w9 hB9 hk9 hs9 hz9;clear z0 z1 z2 z3 v0 v1 v2 v3 hz;obtain ⟨z0,z1,z2,z3,_⟩:=Be hk9;exact bodyPost_ret (by simp [results,Tryz.results40,go_sem,z0,z1,z2,z3]) rfl (HF.out w9 hB9 hs9 hz9)
       | false=>
        rw [if_neg (by simp)];clear h43 hp;rcases hdig with d1 | ⟨d1,d2⟩
        all_goals
         go_enter Tryz.func40,Tryz.ntmps40;go_wp2_with fail
         first
          | (with_reducible refine Ct HA.out HR0.out (Aec _) ?_;intro w9 hB9 hk9 hs9 hz9)
          | (have hB9:=HA.out;have hk9:=HR0.out;generalize W=w9 at *)
         clear z0 z1 z2 z3 v0 v1 v2 v3 hz;obtain ⟨z0,z1,z2,z3,_⟩:=Be hk9;refine bodyPost_ret (v:=.tuple #[.agg Gs,.slice none 0 0,.int .i64 (k:Int),.int .i64 0]) (by simp [results,Tryz.results40,go_sem,z0,z1,z2,z3]) rfl ?_;exact ⟨hB9,.nilIface,none,0,rfl,rfl,World.ownsRow_nil _ _ _ _⟩
      ·rw [if_neg (fun h=>h43 h.1)];have q43:((s[k].toNat:Int) == 43)=false:=Ku (n:=43) (by decide) h43;clear h43 hp;rcases hdig with d1 | ⟨d1,d2⟩
       all_goals
        go_enter Tryz.func40,Tryz.ntmps40;go_wp2_with fail
        first
         | (with_reducible refine Ct HA.out HR0.out (Aec _) ?_;intro w9 hB9 hk9 hs9 hz9)
         | (have hB9:=HA.out;have hk9:=HR0.out;generalize W=w9 at *)
        clear z0 z1 z2 z3 v0 v1 v2 v3 hz;obtain ⟨z0,z1,z2,z3,_⟩:=Be hk9;refine bodyPost_ret (v:=.tuple #[.agg Gs,.slice none 0 0,.int .i64 (k:Int),.int .i64 0]) (by simp [results,Tryz.results40,go_sem,z0,z1,z2,z3]) rfl ?_;exact ⟨hB9,.nilIface,none,0,rfl,rfl,World.ownsRow_nil _ _ _ _⟩
theorem WO (l:List UInt8) (b:UInt8):Lib.hasPrefix l [b]=decide (l.head?=some b):=by
 cases l with
 | nil=>rfl
 | cons c l=>
  show (b == c && List.isPrefixOf [] l)=decide (some c=some b);by_cases h:c=b
  ·rw [h];simp
  ·rw [decide_eq_false (by simpa using h),beq_eq_false_iff_ne.2 (Ne.symm h)];rfl
theorem MZ (s:ByteArray) (k:Nat) (b:UInt8) (w:World):Calls Tryz.prog 23 #[.string (s.extract k s.size),.string ⟨#[b]⟩] w fun e w'=>e=.returned (.bool (decide ((s.data.toList.drop k).head?=some b)))∧w=w':=by
 have h:=Cs (s.extract k s.size) ⟨#[b]⟩ w;rw [Cd,show (⟨#[b]⟩:ByteArray).data.toList=[b] from rfl,WO] at h;exact h
theorem Jm (s:ByteArray) (k:Nat) (w:World) (hs:s.size≤4000000) (hk:k≤s.size) :
  Calls Tryz.prog 66 #[.string s,.int .i64 (k:Int)] w fun e w'=>e=.returned (.int .i64 (Ak s.data.toList k:Int))∧Below w.heap.size w w':=by
 have h:=IH s k w hs;rw [D4 _ _ _ (by rw [←Ad];exact hk)] at h;exact h
theorem EB (s:ByteArray) (k:Nat) (hk:k≤s.size):Ak s.data.toList k≤s.size:=by
 have:=(FG s.data.toList k (by rw [←Ad];exact hk)).2;rw [Ad];exact this
theorem Gn {s:ByteArray} {k:Nat} {b:UInt8} (h:(s.data.toList.drop k).head?=some b):k < s.size:=by
 by_cases hk:k < s.size
 ·exact hk
 ·rw [Bn s k (by omega)] at h;cases h
theorem O6 (s:ByteArray) (k:Nat) (w:World) (hs:s.size≤4000000) (hk:k≤s.size) :
  Calls Tryz.prog 42 #[.string s,.int .i64 (k:Int)] w fun e w'=>Below w.heap.size w w'∧e=match C7 s.data.toList k with
   | .error q=>.returned (.tuple #[.bool false,.int .i64 (q.2:Int),.int .i64 (q.1:Int)])
   | .ok q=>.returned (.tuple #[.bool q.1,.int .i64 (q.2:Int),.int .i64 0]):=by
 have hB:=Jm s k w hs hk;have hble:=EB s k hk;unfold C7;obtain ⟨b,hb⟩:∃ b,Ak s.data.toList k=b:=⟨_,rfl⟩;rw [hb] at hB hble ⊢;have hx0:(0:Int)≤(b:Int):=by omega
 have hx1:(b:Int)≤(s.size:Int):=by omega
 have hpf:=fun w=>MZ s b 33 w
 clear hb;by_cases h33:(s.data.toList.drop b).head?=some 33
 ·rw [if_pos h33];have hlt:=Gn h33;rw [decide_eq_true h33] at hpf;obtain ⟨b1,hb1⟩:∃ b1,b+1=b1:=⟨_,rfl⟩;rw [hb1];have Wb:IntKind.i64.wrap ((b:Int)+1)=(b1:Int):=by rw [Aej _ (by omega)];omega
  have hB2:=fun w=>Jm s b1 w hs (by omega)
  have hble2:=EB s b1 (by omega);obtain ⟨c,hc⟩:∃ c,Ak s.data.toList b1=c:=⟨_,rfl⟩;rw [hc] at hB2 hble2 ⊢;have hy0:(0:Int)≤(c:Int):=by omega
  have hy1:(c:Int)≤(s.size:Int):=by omega
  have hpf2:=fun w=>MZ s c 33 w
  have hbc:b≠c:=by
   have:=(FG s.data.toList b1 (by rw [←Ad];omega)).1;omega
  clear hc hb1 h33 hlt;by_cases h33':(s.data.toList.drop c).head?=some 33
  ·rw [if_pos h33'];rw [decide_eq_true h33'] at hpf2;clear h33';go_enter Tryz.func42,Tryz.ntmps42;go_upto_region 2 with (go_at_call 66;refine hB.mono ?_;clear hB;rintro e w1 ⟨rfl,b1'⟩;have B1:=Ad5 b1';clear b1')
   go_upto_region 4 with (go_at_call 23;go_loud (refine (hpf _).mono ?_;clear hpf;rintro e w2 ⟨rfl,rfl⟩))
   go_upto_region 5 with (go_at_call 66;refine (hB2 _).mono ?_;clear hB2;rintro e w3 ⟨rfl,b3⟩;have B3:=Ad5 b3;clear b3)
   go_wp2_with (go_at_call 23;refine (hpf2 _).mono ?_;clear hpf2;rintro e w4 ⟨rfl,rfl⟩)
   go_ret3
   exact ⟨B1.out.trans (B3.out.mono B1.out.size),rfl⟩
  ·rw [if_neg h33'];rw [decide_eq_false h33'] at hpf2;clear h33';go_enter Tryz.func42,Tryz.ntmps42;go_upto_region 2 with (go_at_call 66;refine hB.mono ?_;clear hB;rintro e w1 ⟨rfl,b1'⟩;have B1:=Ad5 b1';clear b1')
   go_upto_region 4 with (go_at_call 23;go_loud (refine (hpf _).mono ?_;clear hpf;rintro e w2 ⟨rfl,rfl⟩))
   go_upto_region 5 with (go_at_call 66;refine (hB2 _).mono ?_;clear hB2;rintro e w3 ⟨rfl,b3⟩;have B3:=Ad5 b3;clear b3)
   go_wp2_with (go_at_call 23;refine (hpf2 _).mono ?_;clear hpf2;rintro e w4 ⟨rfl,rfl⟩)
   go_ret3
   exact ⟨B1.out.trans (B3.out.mono B1.out.size),rfl⟩
 ·rw [if_neg h33];rw [decide_eq_false h33] at hpf;clear h33;go_enter Tryz.func42,Tryz.ntmps42;go_wp2_with (first
   | (go_at_call 66;refine hB.mono ?_;clear hB;rintro e w1 ⟨rfl,b1'⟩;have B1:=Ad5 b1';clear b1')
   | (go_at_call 23;refine (hpf _).mono ?_;clear hpf;rintro e w2 ⟨rfl,rfl⟩))
  go_ret3
  exact ⟨B1.out,rfl⟩
theorem Q8 {L:List UInt8} {k:Nat} {q:Nat × Nat} (h:Dt L k=.error q):q.1≠0:=by
 unfold Dt at h;simp only at h;split at h
 ·split at h
  ·injection h with h;rw [←h];exact Nat.succ_ne_zero _
  ·cases h
 ·rename_i he;injection h with h;rw [←h];exact he
theorem Q9 {L:List UInt8} {k:Nat} {q:Nat × Nat} (h:Du L k=.error q):q.1≠0:=by
 unfold Du at h;simp only at h;split at h
 ·cases h
 ·rename_i he;injection h with h;rw [←h];exact he
theorem O7 {ext:Bool} {L:List UInt8} {k:Nat} {d:UInt8} {q:Nat × Nat} (h:En ext L k d=.error q):q.1≠0:=by
 unfold En at h;split at h
 ·rename_i he;injection h with h;rw [←h];exact DT he
 ·cases h
theorem Uf {ext:Bool} {L:List UInt8} {k:Nat} {q:Nat × Nat} (h:EP ext L k=.error q):q.1≠0:=by
 unfold EP at h;split at h
 ·injection h with h;rw [←h];exact Nat.succ_ne_zero _
 ·split at h
  ·injection h with h;rw [←h];exact Nat.succ_ne_zero _
  ·exact O7 h
theorem Jn {ext second:Bool} {L:List UInt8} {k:Nat} {q:Nat × Nat} (h:EY ext second L k=.error q):q.1≠0:=by
 unfold EY at h;split at h
 ·cases h
 ·split at h
  ·exact Q8 h
  ·split at h
   ·cases h
   ·split at h
    ·exact O7 h
    ·split at h
     ·exact Uf h
     ·split at h
      ·exact Q9 h
      ·cases h
theorem LE {ext:Bool} {L:List UInt8} {k:Nat} {q:Nat × Nat} (h:Ce ext L k=.error q):q.1≠0:=by
 unfold Ce E4 at h;split at h
 ·split at h
  ·rename_i he;injection h with h;rw [←h];exact Jn he
  ·split at h
   ·injection h with h;rw [←h];exact Nat.succ_ne_zero _
   ·cases h
 ·cases h
theorem Kv {ext:Bool} {L:List UInt8} {b:Nat} {d:UInt8} {q:(List UInt8 × Nd) × List Wm × Nat} (hb:b≤L.length) (h:Ar ext L b d=.ok q):q.2.2≤L.length∧q.2.1.length≤250:=by
 unfold Ar at h;simp only at h;split at h
 ·split at h
  ·cases h
  ·split at h
   ·cases h
   ·rename_i hp;injection h with h;subst h;refine ⟨?_,?_⟩
    ·show (Aj L b d true).2.1≤_;unfold Aj;rw [Dz _ _ _ _ hb];exact JE d true L _ _ _ hb
    ·show (Cj _ _).length≤_;rw [JU,List.length_map];rename_i q';have h1:=Lt (st:=q'.1) (d:=q'.2) hp;unfold AZ at hp;split at hp
     ·cases hp
     ·omega
 ·cases h
theorem Sc {ext:Bool} {L:List UInt8} {b:Nat} {d:UInt8} {q:Adr × List Wm × Nat} (hb:b≤L.length) (h:En ext L b d=.ok q):q.2.2≤L.length∧q.2.1.length≤251:=by
 unfold En at h;split at h
 ·cases h
 ·rename_i hp;injection h with h;subst h;have:=Kv hb hp;exact ⟨this.1,Nat.le_succ_of_le this.2⟩
theorem Zy {ext second:Bool} {L:List UInt8} {k:Nat} {q:Adr × List Wm × Nat} (hk:k≤L.length) (h:EY ext second L k=.ok q):q.2.2≤L.length∧q.2.1.length≤251:=by
 unfold EY at h;split at h
 ·injection h with h;subst h;exact ⟨hk,by simp⟩
 ·rename_i c t hd;have hlt:k < L.length:=by
   by_cases e:k < L.length
   ·exact e
   ·rw [List.drop_eq_nil_of_le (by omega)] at hd;cases hd
  split at h
  ·unfold Dt at h;simp only at h;split at h
   ·split at h
    ·cases h
    ·injection h with h;subst h;exact ⟨(EQ L k hk).2,by simp⟩
   ·cases h
  ·split at h
   ·injection h with h;subst h;exact ⟨by show k+1≤_;omega,by simp⟩
   ·split at h
    ·exact Sc (by omega) h
    ·split at h
     ·unfold EP at h;split at h
      ·cases h
      ·rename_i x t2 hd2;have:k+1 < L.length:=by
        by_cases e:k+1 < L.length
        ·exact e
        ·rw [List.drop_eq_nil_of_le (by omega)] at hd2;cases hd2
       split at h
       ·cases h
       ·exact Sc (by omega) h
     ·split at h
      ·unfold Du at h;simp only at h;split at h
       ·injection h with h;subst h;exact ⟨(EQ L (k+1) (by omega)).2,by simp⟩
       ·cases h
      ·injection h with h;subst h;exact ⟨hk,by simp⟩
theorem Na {ext second:Bool} {k:Nat} {q:Adr × List Wm × Nat} (s:ByteArray) (hk:k≤s.size) (h:EY ext second s.data.toList k=.ok q):q.2.2≤s.size∧q.2.1.length≤251:=by
 have:=Zy (by rw [←Ad];exact hk) h;rw [←Ad] at this;exact this
theorem WP {ext:Bool} {k:Nat} {q:Adr × List Wm × Nat} (s:ByteArray) (hk:k≤s.size) (h:Ce ext s.data.toList k=.ok q):q.2.2≤s.size∧q.2.1.length≤251:=by
 unfold Ce at h;split at h
 ·rename_i h44;have h1:=EB s k hk;have h2:=Gn h44;have h3:=EB s (Ak s.data.toList k+1) (by omega);unfold E4 at h;split at h
  ·cases h
  ·rename_i he;split at h
   ·cases h
   ·injection h with h;subst h;exact Na s h3 he
 ·injection h with h;subst h;exact ⟨hk,by simp⟩
theorem Kw {B:Nat} {w:World} {e:TypeId} {size n:Nat} {v:Value} {us:List Value} (h:w.ownsRow B e size v n us) (g:Nat) (hg:v.ownBlock=some g):g < w.heap.size:=AB h g hg
theorem IR.mk' {w w9:World} {A:BK Adr} {kd ln p:Nat} {tx:List UInt8} {tr:Option Nd} {ms:List Wm} {tv:Value} {ma:Option Addr} {mc:Nat} (hE:(.ok (⟨kd,ln,tx,tr⟩,ms,p):BK Adr)=A) (h1:Below w.heap.size w w9) (h2:TrO (fun b=>w.heap.size≤b∧(Value.slice ma ms.length mc).ownBlock≠some b) w9 tr tv)
  (h3:w9.ownsRow w.heap.size 33 2 (.slice ma ms.length mc) ms.length (wmC ms)):IR w A (.returned (.tuple #[.agg #[.int .i64 (kd:Int),.int .i64 (ln:Int),.string (txt tx),tv],.slice ma ms.length mc,.int .i64 (p:Int),.int .i64 0])) w9:=by
 subst hE;exact ⟨h1,tv,ma,mc,rfl,h2,h3⟩
theorem WQ (ext:Bool) (s:ByteArray) (k:Nat) (w:World) (hs:s.size≤4000000) (hk:k≤s.size) (hG:Gl w) (hP:GP w) :
  Calls Tryz.prog 41 #[.string s,.int .i64 (k:Int),.bool ext] w (IR w (Ce ext s.data.toList k)):=by
 have hA:=(Aeh w.heap.size w).alloc (Aec _) (.cells Gs 40);have hR0:=Blk.new w Gs 40 w.heap.size rfl;obtain ⟨W,hW⟩:∃ W,w.alloc (.cells Gs 40)=W:=⟨_,rfl⟩;rw [hW] at hA hR0;have hB:=Jm s k W hs hk;have hble:=EB s k hk;unfold Ce;obtain ⟨b,hb⟩:∃ b,Ak s.data.toList k=b:=⟨_,rfl⟩;rw [hb] at hB hble ⊢;have hx0:(0:Int)≤(b:Int):=by omega
 have hx1:(b:Int)≤(s.size:Int):=by omega
 have hpf:=fun w=>MZ s b 44 w
 have hGW:=hG.up hA;have hPW:=hP.up hA;have HA:=Ad5 hA;have HR0:=Ad5 hR0;clear hb hA hR0 hG hP;obtain ⟨z0,z1,z2,z3,v0,v1,v2,v3,hz⟩:=Be HR0.out;by_cases h44:(s.data.toList.drop b).head?=some 44
 ·rw [if_pos h44];have hlt:=Gn h44;rw [decide_eq_true h44] at hpf;obtain ⟨b1,hb1⟩:∃ b1,b+1=b1:=⟨_,rfl⟩;rw [hb1];have Wb:IntKind.i64.wrap ((b:Int)+1)=(b1:Int):=by rw [Aej _ (by omega)];omega
  have hB2:=fun w=>Jm s b1 w hs (by omega)
  have hble2:=EB s b1 (by omega);obtain ⟨c,hc⟩:∃ c,Ak s.data.toList b1=c:=⟨_,rfl⟩;rw [hc] at hB2 hble2 ⊢;have hAd:=fun (w':World) (hb:Below W.heap.size W w')=>Sa ext true s c w' hs hble2 (hGW.up hb) (hPW.up hb)
  have hwe:∀ q,EY ext true s.data.toList c=.error q→q.1≠0:=fun q h=>Jn h
  generalize EY ext true s.data.toList c=R at hAd hwe ⊢;obtain ⟨A,hans⟩:∃ A,E4 c R=A:=⟨_,rfl⟩;rw [hans];have HAN:=Ad5 hans;have HAd:=Ad5 hAd;clear hans;clear hc hb1 h44 hlt hGW hPW hAd;go_enter Tryz.func41,Tryz.ntmps41;go_upto_region 2 with (go_at_call 66;refine hB.mono ?_;clear hB;rintro e w1 ⟨rfl,b1'⟩;have B1:=Ad5 b1';clear b1')
  go_upto_region 4 with (go_at_call 23;refine (hpf _).mono ?_;clear hpf;rintro e w2 ⟨rfl,rfl⟩)
  go_upto_region 5 with (go_at_call 66;refine (hB2 _).mono ?_;clear hB2;rintro e w3 ⟨rfl,b3⟩;have B3:=Ad5 (B1.out.trans (b3.mono B1.out.size));clear b3)
  have A3:=Ad5 (HA.out.trans (B3.out.mono HA.out.size));have K3:=Ad5 (HR0.out.below B3.out HR0.out.lt);have hC:=HAd.out _ B3.out;clear z0 z1 z2 z3 v0 v1 v2 v3 hz;obtain ⟨z0,z1,z2,z3,v0,v1,v2,v3,hz⟩:=Be K3.out;cases R with
  | error q=>
   obtain ⟨n,p⟩:=q;have hn:n≠0:=hwe _ rfl;have hnn:((n:Int) == 0)=false:=by simp;omega
   have HAE:=Ad5 (show (.error (n,p):BK Adr)=A from HAN.out);clear hwe hn;go_upto_region 6 with (go_at_call 40;refine hC.mono ?_;clear hC;rintro e w4 ⟨b4,rfl⟩;have B4:=Ad5 (A3.out.trans (b4.mono A3.out.size));have K4:=Ad5 (K3.out.below b4 K3.out.lt);clear b4 z0 z1 z2 z3 v0 v1 v2 v3 hz)
   have hlt4:=K4.out.lt;generalize hW5:w4.alloc _=w5;have hb5:=Ac hW5;have hX:=Ae hW5;have B5:=Ad5 (B4.out.trans (hb5.mono B4.out.size));have K5:=Ad5 (K4.out.below hb5 hlt4);obtain ⟨x0,x1,x2,x3,_,_,_,_,hxl⟩:=Be hX;obtain ⟨z0,z1,z2,z3,v0,v1,v2,v3,hz⟩:=Be K5.out;clear hb5 hX hW5;go_wp2_with fail
   first
    | (with_reducible refine Ct B5.out K5.out (Aec _) ?_;intro w9 hB9 hk9 hs9 hz9)
    | (have hB9:=B5.out;have hk9:=K5.out;generalize w5=w9 at *)
   clear z0 z1 z2 z3 v0 v1 v2 v3 hz;obtain ⟨z0,z1,z2,z3,_⟩:=Be hk9;refine bodyPost_ret (v:=.tuple #[.agg Gs,.slice none 0 0,.int .i64 (p:Int),.int .i64 (n:Int)]) (by simp [results,Tryz.results41,go_sem,z0,z1,z2,z3]) rfl ?_;rw [←HAE.out];exact ⟨hB9,rfl⟩
  | ok q=>
   obtain ⟨⟨kd,ln,tx,tr⟩,ms,p⟩:=q;clear hwe;have hC:Calls Tryz.prog 40 #[.string s,.int .i64 (c:Int),.bool ext,.bool true] w3 fun e w'=>IR w3 (.ok (⟨kd,ln,tx,tr⟩,ms,p)) e w':=hC
   simp only [IR] at hC;by_cases hkd:kd=0
   ·subst hkd;have HAE:=Ad5 (show (.error (12,c):BK Adr)=A from HAN.out);go_upto_region 6 with (go_at_call 40;refine hC.mono ?_;clear hC;rintro e w4 ⟨b4,tv,ma,mc,rfl,ht,_⟩;have hsh:=ht.shape;have B4:=Ad5 (A3.out.trans (b4.mono A3.out.size));have K4:=Ad5 (K3.out.below b4 K3.out.lt);clear b4 ht z0 z1 z2 z3 v0 v1 v2 v3 hz;rcases hsh with ⟨T9,q9,rfl⟩ | rfl)
    all_goals
     have hlt4:=K4.out.lt;generalize hW5:w4.alloc _=w5;have hb5:=Ac hW5;have hX:=Ae hW5;have B5:=Ad5 (B4.out.trans (hb5.mono B4.out.size));have K5:=Ad5 (K4.out.below hb5 hlt4);obtain ⟨x0,x1,x2,x3,_,_,_,_,hxl⟩:=Be hX;obtain ⟨z0,z1,z2,z3,v0,v1,v2,v3,hz⟩:=Be K5.out;clear hb5 hX hW5;go_wp2_with fail
     first
      | (with_reducible refine Ct B5.out K5.out (Aec _) ?_;intro w9 hB9 hk9 hs9 hz9)
      | (have hB9:=B5.out;have hk9:=K5.out;generalize w5=w9 at *)
     clear z0 z1 z2 z3 v0 v1 v2 v3 hz;obtain ⟨z0,z1,z2,z3,_⟩:=Be hk9;refine bodyPost_ret (v:=.tuple #[.agg Gs,.slice none 0 0,.int .i64 (c:Int),.int .i64 12]) (by simp [results,Tryz.results41,go_sem,z0,z1,z2,z3]) rfl ?_;rw [←HAE.out];exact ⟨hB9,rfl⟩
   ·have hkk:((kd:Int) == 0)=false:=by simp;omega
    have HAE:=Ad5 (show (.ok (⟨kd,ln,tx,tr⟩,ms,p):BK Adr)=A from (if_neg hkd).symm.trans HAN.out);clear hkd;go_upto_region 6 with (go_at_call 40;refine hC.mono ?_;clear hC;rintro e w4 ⟨b4,tv,ma,mc,rfl,ht,hm⟩;have hsh:=ht.shape;have HT4:=Ad5 ht;have HM4:=Ad5 hm;have B4:=Ad5 (A3.out.trans (b4.mono A3.out.size));have K4:=Ad5 (K3.out.below b4 K3.out.lt);clear b4 ht hm z0 z1 z2 z3 v0 v1 v2 v3 hz;rcases hsh with ⟨T9,q9,rfl⟩ | rfl)
    all_goals
     have hlt4:=K4.out.lt;generalize hW5:w4.alloc _=w5;have hb5:=Ac hW5;have hX:=Ae hW5;have B5:=Ad5 (B4.out.trans (hb5.mono B4.out.size));have K5:=Ad5 (K4.out.below hb5 hlt4);have HT5:=Ad5 (TrO.below hb5 HT4.out);have HM5:=Ad5 (Ag HM4.out hb5);have Hlt:=Ad5 K3.out.lt;obtain ⟨x0,x1,x2,x3,_,_,_,_,hxl⟩:=Be hX;obtain ⟨z0,z1,z2,z3,v0,v1,v2,v3,hz⟩:=Be K5.out;clear hb5 hX hW5;go_wp2_with fail
     with_reducible refine Ct B5.out K5.out (Aec _) ?_
     intro w9 hB9 hk9 hs9 hz9;clear z0 z1 z2 z3 v0 v1 v2 v3 hz;obtain ⟨z0,z1,z2,z3,_⟩:=Be hk9;have hfin:=IR.mk' HAE.out hB9 (TrO.keep (by omega) (fun b hb _=>⟨⟨Aed A3.out.size hb.1,hb.2⟩,fun o=>Aek (w:=w5) (a:=⟨b,o,none⟩) (hs9 b (by have:=Hlt.out;have:=hb.1;omega))⟩) HT5.out) (Aa (BS A3.out.size HM5.out) fun g hg=>hs9 g (by have:=AL HM5.out g hg;have:=Hlt.out;omega));exact bodyPost_ret (by simp [results,Tryz.results41,go_sem,z0,z1,z2,z3]) rfl hfin
 ·rw [if_neg h44];rw [decide_eq_false h44] at hpf;clear h44 hGW hPW;go_enter Tryz.func41,Tryz.ntmps41;go_wp2_with (first
   | (go_at_call 66;refine hB.mono ?_;clear hB;rintro e w1 ⟨rfl,b1'⟩;have B1:=Ad5 (HA.out.trans (b1'.mono HA.out.size));have K1:=Ad5 (HR0.out.below b1' HR0.out.lt);clear b1' z0 z1 z2 z3 v0 v1 v2 v3 hz;obtain ⟨z0,z1,z2,z3,v0,v1,v2,v3,hz⟩:=Be K1.out)
   | (go_at_call 23;refine (hpf _).mono ?_;clear hpf;rintro e w2 ⟨rfl,rfl⟩))
  first
   | (with_reducible refine Ct B1.out K1.out (Aec _) ?_;intro w9 hB9 hk9 hs9 hz9)
   | (have hB9:=B1.out;have hk9:=K1.out;generalize w1=w9 at *)
  clear z0 z1 z2 z3 v0 v1 v2 v3 hz;obtain ⟨z0,z1,z2,z3,_⟩:=Be hk9;refine bodyPost_ret (v:=.tuple #[.agg Gs,.slice none 0 0,.int .i64 (k:Int),.int .i64 0]) (by simp [results,Tryz.results41,go_sem,z0,z1,z2,z3]) rfl ?_;exact ⟨hB9,.nilIface,none,0,rfl,rfl,World.ownsRow_nil _ _ _ _⟩
end
end Go.Proofs.YteilldmmihiijaaGreatDoor
