/- The proof's texts EmKL: what the claim reaches of them. -/
import Derived.Test.YtbgfankoojjejaaGreatDoorGd06
import Derived.Test.YtbgfankoojjejaaGreatDoorGd21
import Derived.Test.YtbgfankoojjejaaGreatDoorGd11
import Derived.Test.YtbgfankoojjejaaGreatDoorGd09
import Derived.Deep.RegionHeld3
import Derived.Test.YtbgfankoojjejaaGreatDoorGd07
set_option linter.unusedSimpArgs false
set_option linter.unusedVariables false
set_option maxHeartbeats 8000000
set_option maxRecDepth 1000000
namespace Go.Proofs.YtbgfankoojjejaaGreatDoor
open Go Go.RowKit
def EmOut (lo p mp:Nat) (s:ByteArray) (w:World) (x:Ending) (w':World):Except (Nat × Nat) ES→Prop
 | .error q=>Below lo w w'∧x=.returned (.tuple #[.int .i64 (q.2:Int),.int .i64 (q.1:Int)])
 | .ok e'=>Below lo w w'∧x=.returned (.tuple #[.int .i64 0,.int .i64 0])∧EmX lo p mp w' s e'
theorem emout_ok {lo p mp:Nat} {s:ByteArray} {w w':World} {R:Except (Nat × Nat) ES} {e':ES} (hR:R=.ok e') (hb:Below lo w w') (h:EmX lo p mp w' s e'):EmOut lo p mp s w (.returned (.tuple #[.int .i64 0,.int .i64 0])) w' R:=by subst hR;exact ⟨hb,rfl,h⟩
theorem emout_err {lo p mp:Nat} {s:ByteArray} {w w':World} {R:Except (Nat × Nat) ES} {n k:Nat} (hR:R=.error (n,k)) (hb:Below lo w w'):EmOut lo p mp s w (.returned (.tuple #[.int .i64 (k:Int),.int .i64 (n:Int)])) w' R:=by subst hR;exact ⟨hb,rfl⟩
theorem em_add {lo p mp:Nat} {own:List Nat} {w:World} {s:ByteArray} {e:ES} {sv mv bv pv ov:Value} {rows:List (Value × Value)} (h:Em lo p mp own w s e sv mv bv pv ov rows) (d:Nd) (u:Value) (hu:NdX (fun b=>lo≤b∧b ∉ own) w d u) (hu1:u.oneCell'=true) (hs:s.size≤250) (hok:EOk s.data.toList (e.at e.st (e.inner.pcs++[d]))) :
  Calls Tryz.prog 110 #[.pointer (some ⟨p,4,none⟩),u] w fun x w'=>x=.returned (.tuple #[])∧EmX lo p mp w' s (e.at e.st (e.inner.pcs++[d]))∧Below lo w w':=by
 have hpl:e.inner.pcs.length≤1000:=by have:=h.ok.inner.2.2.1;have:=h.ok.pos;simp at this;omega
 refine (eadd_any lo p own _ _ _ _ _ _ bv pv _ _ _ e.inner.pcs d u w h.lop h.blk h.pn (fun hx=>(h.inown pv (by simp [allV]) p hx).2.1 rfl) h.pown (fun q hq=>(h.inown pv (by simp [allV]) q hq).1) hu hu1 hpl).mono ?_
 rintro x w3 ⟨pv',rfl,hN3,hB3,hT3,hF3⟩
 exact ⟨rfl,⟨_,_,_,_,_,_,_,Em.pieces (l:=e.inner.pcs++[d]) h hT3 hF3 rfl hN3 hB3 hok⟩,h.low h.pn.lt hT3⟩
theorem em_repeat {lo p mp:Nat} {own:List Nat} {w:World} {s:ByteArray} {e:ES} {sv mv bv pv ov:Value} {rows:List (Value × Value)} (h:Em lo p mp own w s e sv mv bv pv ov rows) (mn mx:Int) (h0:0 < e.inner.pcs.length) (hs:s.size≤250) (hok:EOk s.data.toList (e.at e.st (e.inner.pcs.dropLast++[.rep (e.inner.pcs.getLastD .empty) mn mx]))) :
  Calls Tryz.prog 128 #[.pointer (some ⟨p,4,none⟩),.int .i64 mn,.int .i64 mx] w fun x w'=>x=.returned (.tuple #[])∧EmX lo p mp w' s (e.at e.st (e.inner.pcs.dropLast++[.rep (e.inner.pcs.getLastD .empty) mn mx]))∧Below lo w w':=by
 have hpl:e.inner.pcs.length≤1000:=by have:=h.ok.inner.2.2.1;have:=h.ok.pos;simp at this;omega
 refine (erepeat_any lo p own _ _ _ _ _ _ bv pv _ _ _ e.inner.pcs mn mx w h.blk h.pn (fun hx=>(h.inown pv (by simp [allV]) p hx).2.1 rfl) h.pown (fun q hq=>(h.inown pv (by simp [allV]) q hq).1) h0 hpl).mono ?_
 rintro x w3 ⟨rfl,hN3,hB3,hT3⟩
 have hown:∀ b,b∈ownB pv++own ↔ b∈own:=fun b=>by
  rw [List.mem_append,ownB_mem]
  exact ⟨fun x=>x.elim (fun x=>(h.inown pv (by simp [allV]) b x).1) id,.inr⟩
 have hN4:NR lo (ownB pv++own) w3 (e.inner.pcs.dropLast++[.rep (e.inner.pcs.getLastD .empty) mn mx]) pv:=hN3.keep (Nat.le_refl _) (fun _ _=>rfl) (fun b _ hb=>⟨rfl,fun x=>hb ((hown b).1 x)⟩)
 exact ⟨rfl,⟨_,_,_,_,_,_,_,Em.pieces h hT3 (.inl rfl) rfl hN4 hB3 hok⟩,h.low h.pn.lt hT3⟩
theorem ebracket_any (lo p mp:Nat) (w:World) (s:ByteArray) (e:ES) (h:EmX lo p mp w s e) (hG:Gl w) (hs:s.size≤250) (t:OSet) (j er:Nat) (hr:prs s.data.toList (e.pos:Int)=(t,(j:Int),er))
  (hok1:er=0→EOk s.data.toList { e with pos:=j }) (hok2:er=0→EOk s.data.toList (({ e with pos:=j }:ES).at ({ e with pos:=j }:ES).st (e.inner.pcs++[.one t]))) :
  Calls Tryz.prog 112 #[.pointer (some ⟨p,0,none⟩)] w fun x w'=>EmOut lo p mp s w x w' (if er=0 then .ok (({ e with pos:=j }:ES).at ({ e with pos:=j }:ES).st (e.inner.pcs++[.one t])) else .error (er,j)):=by
 obtain ⟨R,hR⟩:∃ R:Except (Nat × Nat) ES,R=if er=0 then .ok (({ e with pos:=j }:ES).at ({ e with pos:=j }:ES).st (e.inner.pcs++[.one t])) else .error (er,j):=⟨_,rfl⟩
 rw [←hR]
 have HR:=Lib.hid hR
 clear hR
 obtain ⟨own,sv,mv,bv,pv,ov,rows,h⟩:=h
 have k0:w.cell? ⟨p,0,none⟩=some (.string s):=(h.blk.cell 0).trans rfl
 have k2:w.cell? ⟨p,2,none⟩=some (.int .i64 (e.pos:Int)):=(h.blk.cell 2).trans rfl
 have hpa:=fun (w:World) (hG:Gl w)=>parse_any s (e.pos:Int) w (by omega) hG
 rw [hr,show prV (t,(j:Int),er)=.tuple #[.agg #[.int .u64 (ow t 0),.int .u64 (ow t 1),.int .u64 (ow t 2),.int .u64 (ow t 3)],.int .i64 (j:Int),.int .i64 (er:Int)] from rfl] at hpa
 have HH:=Lib.hid h
 have HK1:=Lib.hid hok1
 have HK2:=Lib.hid hok2
 have hplt:=h.blk.lt
 have HLo:=Lib.hid (Nat.le_trans h.lop (Nat.le_of_lt hplt))
 clear h hr hok1 hok2
 go_enter Tryz.func112,Tryz.ntmps112
 go_upto_region 1 with fail
 go_cut [4,5,6] (fun s4 s5 s6 wx=>∃ a:Nat,s4=.pointer (some ⟨a,0,none⟩)∧s5=.int .i64 (j:Int)∧s6=.int .i64 (er:Int)∧AtSet w a t wx)
 case first=>
  go_region_with (go_at_call 130;refine (hpa _ (hG.up (by repeat (first | (with_reducible exact Below.refl _ _) | refine Below.drew ?_ | refine below_drewN ?_ _ | refine Below.alloc ?_ (by first | omega | (simp;omega) | simp) _)))).mono ?_;rintro x w' ⟨rfl,hbX⟩;have hbQ:Below w.heap.size w w':=Below.trans (by repeat (first | (with_reducible exact Below.refl _ _) | refine Below.drew ?_ | refine below_drewN ?_ _ | refine Below.alloc ?_ (by first | omega | (simp;omega) | simp) _)) (hbX.mono (by simp));(try (have hPz:=((Blk.new w #[.int .u64 0,.int .u64 0,.int .u64 0,.int .u64 0] 132 w.heap.size rfl).drew).below hbX (by simp);obtain ⟨y0,y1,y2,y3,x0,x1,x2,x3,xl⟩:=blk_four hPz)))
  all_goals go_wp2_with fail
  all_goals go_meet
  all_goals first
   | exact ⟨_,rfl,rfl,rfl,⟨hbQ.alloc hbQ.size _,Blk.new _ _ _ _ rfl,hbQ.size⟩⟩
   | exact ⟨_,rfl,rfl,rfl,⟨(((hbQ.setCell (p:=⟨w.heap.size,0,none⟩) (Nat.le_refl _) _).setCell (p:=⟨w.heap.size,1,none⟩) (Nat.le_refl _) _).setCell (p:=⟨w.heap.size,2,none⟩) (Nat.le_refl _) _).setCell (p:=⟨w.heap.size,3,none⟩) (Nat.le_refl _) _,(((hPz.set 0 _).set 1 _).set 2 _).set 3 _,Nat.le_refl _⟩⟩
 case rest=>
  obtain ⟨a,rfl,rfl,rfl,hA⟩:=hcut
  by_cases her:er=0
  ·have HF:=Lib.hid (HR.out.trans (if_pos her))
   subst her
   have hE1:=HH.out.below hA.b
   have hne:p≠a:=fun x=>by have:=hA.lo;omega
   have hne2:a≠p:=fun x=>hne x.symm
   have f2:=hE1.blk.frozen 2
   have g2:wc.cell? ⟨p,2,none⟩=some (.int .i64 (e.pos:Int)):=(hE1.blk.cell 2).trans rfl
   have hE3:=hE1.goto j (HK1.out rfl)
   have hT3:=hA.s.set_other ⟨p,2,none⟩ (fun x=>hne x) (.int .i64 (j:Int))
   have HL3:=Lib.hid ((hA.b.mono HLo.out).trans ((Below.refl lo wc).setCell (p:=⟨p,2,none⟩) HH.out.lop (.int .i64 (j:Int))))
   obtain ⟨W3,hW3⟩:∃ W3,W3=wc.setCell ⟨p,2,none⟩ (.int .i64 (j:Int)):=⟨_,rfl⟩
   rw [←hW3] at hE3 hT3 HL3
   obtain ⟨y0,y1,y2,y3,_,_,_,_,_⟩:=blk_four hT3
   have hadd:=fun (w':World) (hb:Below W3.heap.size W3 w')=>em_add (hE3.below hb) (.one t) (.iface 134 (.agg #[.int .u64 (ow t 0),.int .u64 (ow t 1),.int .u64 (ow t 2),.int .u64 (ow t 3)])) ⟨1,rfl⟩ rfl hs (HK2.out rfl)
   have HAdd:=Lib.hid hadd
   have hpl2:=hE1.blk.lt
   clear hpa k0 k2 hE1 hT3 hE3 hA hadd
   go_wp2_with fail
   rw [←hW3]
   clear hW3
   go_upto_region 5 with fail
   go_region_law (first
    | (refine step_call rfl _ _ _ rfl 110 _ rfl (by rfl) (enters_of Tryz.func110 (by kernel_rfl) rfl) (HAdd.out _ (by first | exact Below.refl _ _ | exact Below.drew (Below.refl _ _))) ?_;rintro x w4 ⟨rfl,hx4,hb4⟩;refine ⟨_,rfl,?_⟩;have HX4:=Lib.hid hx4;have HB4:Hid (Below lo W3 w4):=Lib.hid (by first | exact hb4 | exact (Below.drew (Below.refl _ _)).trans hb4);clear hx4 hb4))
   all_goals go_wp2_with fail
   all_goals go_ret2
   all_goals exact emout_ok HF.out (HL3.out.trans HB4.out) HX4.out
  ·have e9:((er:Int) != 0)=true:=by simp;omega
   have hlow:=hA.b.mono HLo.out
   have HF:=Lib.hid (HR.out.trans (if_neg her))
   clear hpa k0 k2 hA
   go_wp2_with fail
   go_ret2
   exact emout_err HF.out hlow
end Go.Proofs.YtbgfankoojjejaaGreatDoor
namespace Go.Proofs.YtbgfankoojjejaaGreatDoor
open Go Go.RowKit
def repOut (s:List UInt8) (e:ES) (k:Nat):Except (Nat × Nat) ES:=if frontP e.inner.pcs then .error (10,k) else match repAt true s k with
  | .some mn mx _ j=>.ok (e.at (e.st.to j) (e.inner.pcs.dropLast++[.rep (e.inner.pcs.getLastD .empty) mn mx]))
  | _=>.error (7,k)
theorem front_pos {l:List Nd} (h:frontP l=false):0 < l.length:=by
 cases l with
 | nil=>cases h
 | cons x xs=>simp
theorem heldE_step {W w1 w2:World} {p:Nat} {s:ByteArray} {k:Nat} (hb:Below w1.heap.size w1 w2) (hp:p < W.heap.size) (h:w1.cell? ⟨p,0,none⟩=some (.string s)∧w1.cell? ⟨p,2,none⟩=some (.int .i64 (k:Int))∧Below W.heap.size W w1):w2.cell? ⟨p,0,none⟩=some (.string s)∧w2.cell? ⟨p,2,none⟩=some (.int .i64 (k:Int))∧Below W.heap.size W w2:=
 ⟨(hb.cell (p:=⟨p,0,none⟩) (Nat.lt_of_lt_of_le hp h.2.2.size)).trans h.1,(hb.cell (p:=⟨p,2,none⟩) (Nat.lt_of_lt_of_le hp h.2.2.size)).trans h.2.1,h.2.2.trans (hb.mono h.2.2.size)⟩
theorem heldE_drew {W w1:World} {p:Nat} {s:ByteArray} {k:Nat} (h:w1.cell? ⟨p,0,none⟩=some (.string s)∧w1.cell? ⟨p,2,none⟩=some (.int .i64 (k:Int))∧Below W.heap.size W w1):w1.drew.cell? ⟨p,0,none⟩=some (.string s)∧w1.drew.cell? ⟨p,2,none⟩=some (.int .i64 (k:Int))∧Below W.heap.size W w1.drew:=
 ⟨h.1,h.2.1,h.2.2.drew⟩
theorem rep_dot {s:List UInt8} {k c:Nat} (hl:k < s.length) (h:byt s k=c):chAt s k c=true:=by unfold chAt;simp [hl,h]
theorem erep_front (lo p mp:Nat) (w:World) (s:ByteArray) (e:ES) (k:Nat) (h:EmX lo p mp w s e) (hs:s.size≤250) (hf:frontP e.inner.pcs=true):Calls Tryz.prog 111 #[.pointer (some ⟨p,0,none⟩),.int .i64 (k:Int)] w fun x w'=>EmOut lo p mp s w x w' (repOut s.data.toList e k):=by
 obtain ⟨own,sv,mv,bv,pv,ov,rows,h⟩:=h
 have hpl:e.inner.pcs.length≤1000:=by have:=h.ok.inner.2.2.1;have:=h.ok.pos;simp at this;omega
 have hfr:=efront_any lo p own _ _ _ _ _ _ bv pv _ _ _ e.inner.pcs w h.blk h.pn hpl
 rw [hf] at hfr
 have HO:=Lib.hid (show repOut s.data.toList e k=.error (10,k) by unfold repOut;rw [hf];rfl)
 have hlo:=Nat.le_trans h.lop (Nat.le_of_lt h.blk.lt)
 clear h hf hpl
 go_enter Tryz.func111,Tryz.ntmps111
 go_wp2_with fail
 refine hfr.mono ?_
 rintro x w1 ⟨rfl,b1⟩
 clear hfr
 go_wp2_with fail
 go_ret2
 exact emout_err HO.out (b1.mono hlo)
theorem erep_star (lo p mp:Nat) (w:World) (s:ByteArray) (e:ES) (k:Nat) (h:EmX lo p mp w s e) (hs:s.size≤250) (hk:e.pos=k+1) (hf:frontP e.inner.pcs=false) (hb:byt s.data.toList k=42) (hok:EOk s.data.toList (e.at e.st (e.inner.pcs.dropLast++[.rep (e.inner.pcs.getLastD .empty) 0 (-1)]))):Calls Tryz.prog 111 #[.pointer (some ⟨p,0,none⟩),.int .i64 (k:Int)] w fun x w'=>EmOut lo p mp s w x w' (repOut s.data.toList e k):=by
 have hkl:k < s.data.toList.length:=by obtain ⟨own,sv,mv,bv,pv,ov,rows,h⟩:=h;have:=h.ok.pos;omega
 have hrep:repAt true s.data.toList k=.some 0 (-1) 0 (k+1):=by unfold repAt;rw [rep_dot hkl hb];rfl
 have HO:=Lib.hid (show repOut s.data.toList e k=.ok (e.at e.st (e.inner.pcs.dropLast++[.rep (e.inner.pcs.getLastD .empty) 0 (-1)])) by unfold repOut;rw [hf,hrep];show Except.ok (e.at (e.st.to (k+1)) _)=_;rw [←hk];rfl)
 clear hrep hkl
 obtain ⟨own,sv,mv,bv,pv,ov,rows,h⟩:=h;have hpl:e.inner.pcs.length≤1000:=(by have:=h.ok.inner.2.2.1;have:=h.ok.pos;simp at this;omega);have hks:k < s.size:=(by have:=h.ok.pos;simp at this;omega);have hfr:=efront_any lo p own _ _ _ _ _ _ bv pv _ _ _ e.inner.pcs w h.blk h.pn hpl;rw [hf] at hfr;have HP:=Lib.hid (front_pos hf);have HH:=Lib.hid h;have HLo:=Lib.hid (Nat.le_trans h.lop (Nat.le_of_lt h.blk.lt));have HK:=Lib.hid hk;clear h hf hpl hk
 go_enter Tryz.func111,Tryz.ntmps111
 go_wp2_with fail
 refine hfr.mono ?_;rintro x w1 ⟨rfl,b1⟩;have h1:=HH.out.below b1;have HB1:=Lib.hid (b1.mono HLo.out);have HS1:=Lib.hid b1.size;obtain ⟨sa,sc,rfl,e2,e3⟩:=h1.sg;obtain ⟨g,rfl,hg,hgl,hcell⟩:=e3 (by omega);have kc:=hcell k hks;have k1:w1.cell? ⟨p,1,none⟩=some (.slice (some ⟨g,0,none⟩) s.size sc):=(h1.blk.cell 1).trans rfl;have i1:(k:Int) < (s.size:Int):=(by omega);have H1:=Lib.hid h1;clear hfr b1 h1 e3 hcell
 rw [hb] at kc
 have hrp:=em_repeat H1.out 0 (-1) HP.out hs hok
 clear hb hok
 go_wp2_with fail
 refine hrp.mono ?_
 rintro x w2 ⟨rfl,hx2,b2⟩
 have HX2:=Lib.hid hx2
 clear hrp hx2
 go_wp2_with fail
 go_ret2
 exact emout_ok HO.out (HB1.out.trans b2) HX2.out
theorem erep_plus (lo p mp:Nat) (w:World) (s:ByteArray) (e:ES) (k:Nat) (h:EmX lo p mp w s e) (hs:s.size≤250) (hk:e.pos=k+1) (hf:frontP e.inner.pcs=false) (hb:byt s.data.toList k=43) (hok:EOk s.data.toList (e.at e.st (e.inner.pcs.dropLast++[.rep (e.inner.pcs.getLastD .empty) 1 (-1)]))):Calls Tryz.prog 111 #[.pointer (some ⟨p,0,none⟩),.int .i64 (k:Int)] w fun x w'=>EmOut lo p mp s w x w' (repOut s.data.toList e k):=by
 have hkl:k < s.data.toList.length:=by obtain ⟨own,sv,mv,bv,pv,ov,rows,h⟩:=h;have:=h.ok.pos;omega
 have hrep:repAt true s.data.toList k=.some 1 (-1) 0 (k+1):=by unfold repAt;rw [ch_no (b:=42) (by rw [hb];decide)];simp only [opAt,if_true,Bool.false_eq_true,if_false];rw [rep_dot hkl hb];rfl
 have HO:=Lib.hid (show repOut s.data.toList e k=.ok (e.at e.st (e.inner.pcs.dropLast++[.rep (e.inner.pcs.getLastD .empty) 1 (-1)])) by unfold repOut;rw [hf,hrep];show Except.ok (e.at (e.st.to (k+1)) _)=_;rw [←hk];rfl)
 clear hrep hkl
 obtain ⟨own,sv,mv,bv,pv,ov,rows,h⟩:=h;have hpl:e.inner.pcs.length≤1000:=(by have:=h.ok.inner.2.2.1;have:=h.ok.pos;simp at this;omega);have hks:k < s.size:=(by have:=h.ok.pos;simp at this;omega);have hfr:=efront_any lo p own _ _ _ _ _ _ bv pv _ _ _ e.inner.pcs w h.blk h.pn hpl;rw [hf] at hfr;have HP:=Lib.hid (front_pos hf);have HH:=Lib.hid h;have HLo:=Lib.hid (Nat.le_trans h.lop (Nat.le_of_lt h.blk.lt));have HK:=Lib.hid hk;clear h hf hpl hk
 go_enter Tryz.func111,Tryz.ntmps111
 go_wp2_with fail
 refine hfr.mono ?_;rintro x w1 ⟨rfl,b1⟩;have h1:=HH.out.below b1;have HB1:=Lib.hid (b1.mono HLo.out);have HS1:=Lib.hid b1.size;obtain ⟨sa,sc,rfl,e2,e3⟩:=h1.sg;obtain ⟨g,rfl,hg,hgl,hcell⟩:=e3 (by omega);have kc:=hcell k hks;have k1:w1.cell? ⟨p,1,none⟩=some (.slice (some ⟨g,0,none⟩) s.size sc):=(h1.blk.cell 1).trans rfl;have i1:(k:Int) < (s.size:Int):=(by omega);have H1:=Lib.hid h1;clear hfr b1 h1 e3 hcell
 rw [hb] at kc
 have hrp:=em_repeat H1.out 1 (-1) HP.out hs hok
 clear hb hok
 go_wp2_with fail
 refine hrp.mono ?_
 rintro x w2 ⟨rfl,hx2,b2⟩
 have HX2:=Lib.hid hx2
 clear hrp hx2
 go_wp2_with fail
 go_ret2
 exact emout_ok HO.out (HB1.out.trans b2) HX2.out
theorem erep_ask (lo p mp:Nat) (w:World) (s:ByteArray) (e:ES) (k:Nat) (h:EmX lo p mp w s e) (hs:s.size≤250) (hk:e.pos=k+1) (hf:frontP e.inner.pcs=false) (hb:byt s.data.toList k=63) (hok:EOk s.data.toList (e.at e.st (e.inner.pcs.dropLast++[.rep (e.inner.pcs.getLastD .empty) 0 1]))):Calls Tryz.prog 111 #[.pointer (some ⟨p,0,none⟩),.int .i64 (k:Int)] w fun x w'=>EmOut lo p mp s w x w' (repOut s.data.toList e k):=by
 have hkl:k < s.data.toList.length:=by obtain ⟨own,sv,mv,bv,pv,ov,rows,h⟩:=h;have:=h.ok.pos;omega
 have hrep:repAt true s.data.toList k=.some 0 1 0 (k+1):=by unfold repAt;rw [ch_no (b:=42) (by rw [hb];decide)];simp only [opAt,if_true,Bool.false_eq_true,if_false];rw [ch_no (b:=43) (by rw [hb];decide)];simp only [Bool.false_eq_true,if_false];rw [rep_dot hkl hb];rfl
 have HO:=Lib.hid (show repOut s.data.toList e k=.ok (e.at e.st (e.inner.pcs.dropLast++[.rep (e.inner.pcs.getLastD .empty) 0 1])) by unfold repOut;rw [hf,hrep];show Except.ok (e.at (e.st.to (k+1)) _)=_;rw [←hk];rfl)
 clear hrep hkl
 obtain ⟨own,sv,mv,bv,pv,ov,rows,h⟩:=h;have hpl:e.inner.pcs.length≤1000:=(by have:=h.ok.inner.2.2.1;have:=h.ok.pos;simp at this;omega);have hks:k < s.size:=(by have:=h.ok.pos;simp at this;omega);have hfr:=efront_any lo p own _ _ _ _ _ _ bv pv _ _ _ e.inner.pcs w h.blk h.pn hpl;rw [hf] at hfr;have HP:=Lib.hid (front_pos hf);have HH:=Lib.hid h;have HLo:=Lib.hid (Nat.le_trans h.lop (Nat.le_of_lt h.blk.lt));have HK:=Lib.hid hk;clear h hf hpl hk
 go_enter Tryz.func111,Tryz.ntmps111
 go_wp2_with fail
 refine hfr.mono ?_;rintro x w1 ⟨rfl,b1⟩;have h1:=HH.out.below b1;have HB1:=Lib.hid (b1.mono HLo.out);have HS1:=Lib.hid b1.size;obtain ⟨sa,sc,rfl,e2,e3⟩:=h1.sg;obtain ⟨g,rfl,hg,hgl,hcell⟩:=e3 (by omega);have kc:=hcell k hks;have k1:w1.cell? ⟨p,1,none⟩=some (.slice (some ⟨g,0,none⟩) s.size sc):=(h1.blk.cell 1).trans rfl;have i1:(k:Int) < (s.size:Int):=(by omega);have H1:=Lib.hid h1;clear hfr b1 h1 e3 hcell
 rw [hb] at kc
 have hrp:=em_repeat H1.out 0 1 HP.out hs hok
 clear hb hok
 go_wp2_with fail
 refine hrp.mono ?_
 rintro x w2 ⟨rfl,hx2,b2⟩
 have HX2:=Lib.hid hx2
 clear hrp hx2
 go_wp2_with fail
 go_ret2
 exact emout_ok HO.out (HB1.out.trans b2) HX2.out
theorem rep_brace {s:List UInt8} {k:Nat} (hl:k < s.length) (hb:byt s k=123):repAt true s k=(match (ivl (ivclo true) (s.drop (k+1))).map fun q=>(q.1,q.2.1,k+1+q.2.2) with
  | Option.none=>.bad
  | Option.some (m,n,j)=>.some m n 0 j):=by
 unfold repAt
 rw [ch_no (b:=42) (by rw [hb];decide)]
 simp only [opAt,if_true,Bool.false_eq_true,if_false]
 rw [ch_no (b:=43) (by rw [hb];decide),ch_no (b:=63) (by rw [hb];decide)]
 simp only [Bool.false_eq_true,if_false]
 rw [rep_dot hl hb]
 simp only [if_true]
 rw [intv_at]
 rfl
theorem xi_ere (s:ByteArray) (k:Nat):(s.extract k s.size).data.toList=s.data.toList.drop k:=by
 rw [ByteArray.data_extract,Array.toList_extract]
 simp only [List.extract_eq_take_drop]
 rw [List.take_of_length_le (by simp)]
theorem erep_bound (lo p mp:Nat) (w:World) (s:ByteArray) (e:ES) (k:Nat) (h:EmX lo p mp w s e) (hs:s.size≤250) (hk:e.pos=k+1) (hf:frontP e.inner.pcs=false) (hb:byt s.data.toList k=123) (hok1:∀ m n j,repAt true s.data.toList k=.some m n 0 j→EOk s.data.toList { e with pos:=j }) (hok:∀ m n j,repAt true s.data.toList k=.some m n 0 j→EOk s.data.toList (e.at (e.st.to j) (e.inner.pcs.dropLast++[.rep (e.inner.pcs.getLastD .empty) m n]))):Calls Tryz.prog 111 #[.pointer (some ⟨p,0,none⟩),.int .i64 (k:Int)] w fun x w'=>EmOut lo p mp s w x w' (repOut s.data.toList e k):=by
 have hkl:k < s.data.toList.length:=by obtain ⟨own,sv,mv,bv,pv,ov,rows,h⟩:=h;have:=h.ok.pos;omega
 have hrep:=rep_brace hkl hb
 have HO:repOut s.data.toList e k=(match repAt true s.data.toList k with
  | .some mn mx _ j=>.ok (e.at (e.st.to j) (e.inner.pcs.dropLast++[.rep (e.inner.pcs.getLastD .empty) mn mx]))
  | _=>.error (7,k)):=by unfold repOut;rw [hf];rfl
 have g5:=fun w=>xintv_any (s.extract (k+1) s.size) ⟨#[125]⟩ w (by rw [ext_size];omega) (by simp)
 rw [xi_ere,show (ByteArray.mk #[125]).data.toList=ivclo true from rfl] at g5
 have hsl:s.data.toList.length=s.size:=by simp
 have Hcl:=Lib.hid (show ivclo true≠[] by simp [ivclo])
 cases hiv:ivl (ivclo true) (s.data.toList.drop (k+1)) with
 | none=>
  rw [hiv] at hrep g5
  rw [hrep] at HO
  replace HO:=Lib.hid (show repOut s.data.toList e k=.error (7,k) from HO)
  rw [show ivAns none=.returned (.tuple #[.int .i64 0,.int .i64 0,.int .i64 0,.bool false]) from rfl] at g5
  clear hiv hrep hok hok1 hkl hsl
  obtain ⟨own,sv,mv,bv,pv,ov,rows,h⟩:=h;have hpl:e.inner.pcs.length≤1000:=(by have:=h.ok.inner.2.2.1;have:=h.ok.pos;simp at this;omega);have hks:k < s.size:=(by have:=h.ok.pos;simp at this;omega);have hfr:=efront_any lo p own _ _ _ _ _ _ bv pv _ _ _ e.inner.pcs w h.blk h.pn hpl;rw [hf] at hfr;have HP:=Lib.hid (front_pos hf);have HH:=Lib.hid h;have HLo:=Lib.hid (Nat.le_trans h.lop (Nat.le_of_lt h.blk.lt));have HK:=Lib.hid hk;clear h hf hpl hk
  have hlen2:((k+1:Nat):Int)≤(s.size:Int):=by omega
  go_enter Tryz.func111,Tryz.ntmps111
  go_wp2_with fail
  refine hfr.mono ?_;rintro x w1 ⟨rfl,b1⟩;have h1:=HH.out.below b1;have HB1:=Lib.hid (b1.mono HLo.out);have HS1:=Lib.hid b1.size;obtain ⟨sa,sc,rfl,e2,e3⟩:=h1.sg;obtain ⟨g,rfl,hg,hgl,hcell⟩:=e3 (by omega);have kc:=hcell k hks;have k1:w1.cell? ⟨p,1,none⟩=some (.slice (some ⟨g,0,none⟩) s.size sc):=(h1.blk.cell 1).trans rfl;have i1:(k:Int) < (s.size:Int):=(by omega);have H1:=Lib.hid h1;clear hfr b1 h1 e3 hcell
  have q0:w1.cell? ⟨p,0,none⟩=some (.string s):=(H1.out.blk.cell 0).trans rfl
  have q2:w1.cell? ⟨p,2,none⟩=some (.int .i64 ((k+1:Nat):Int)):=by rw [←HK.out];exact (H1.out.blk.cell 2).trans rfl
  have hall:=And.intro q0 (And.intro q2 (Below.refl w1.heap.size w1))
  have hp1:=H1.out.blk.lt
  rw [hb] at kc
  clear hb
  go_upto_region 11 with fail
  generalize k+1=k2 at *
  go_region_held3 (fun w'=>w'.cell? ⟨p,0,none⟩=some (.string s)∧w'.cell? ⟨p,2,none⟩=some (.int .i64 (k2:Int))∧Below w1.heap.size w1 w')
   (first | (with_reducible exact hall) | (with_reducible exact heldE_step hbX hp1 (by assumption)) | (with_reducible exact heldE_drew (by assumption)))
   (first | (go_at_call 129;refine (g5 _).mono ?_;rintro e w' ⟨rfl,hbX⟩))
  clear hall
  go_split_ands
  rename_i w5 _ _ hX
  go_wp2_with fail
  go_ret2
  exact emout_err HO.out (HB1.out.trans (hX.mono (Nat.le_trans HLo.out HS1.out)))
 | some q=>
  rw [hiv] at hrep g5
  rw [hrep] at HO
  replace HO:=Lib.hid (show repOut s.data.toList e k=.ok (e.at (e.st.to (k+1+q.2.2)) (e.inner.pcs.dropLast++[.rep (e.inner.pcs.getLastD .empty) q.1 q.2.1])) from HO)
  rw [show ivAns (some q)=.returned (.tuple #[.int .i64 q.1,.int .i64 q.2.1,.int .i64 (q.2.2:Int),.bool true]) from rfl] at g5
  have HK1:=Lib.hid (hok1 q.1 q.2.1 (k+1+q.2.2) hrep)
  have HK2:=Lib.hid (hok q.1 q.2.1 (k+1+q.2.2) hrep)
  have hql:=xi_len _ _ _ Hcl.out hiv
  rw [List.length_drop] at hql
  have Wn:IntKind.i64.wrap (((k+1:Nat):Int)+(q.2.2:Int))=((k+1+q.2.2:Nat):Int):=by rw [IntWalk.i64_in _ (by omega)];omega
  clear hiv hrep hok hok1 hkl hsl hql
  generalize q.1=qa at *
  generalize q.2.1=qb at *
  generalize q.2.2=qc at *
  obtain ⟨own,sv,mv,bv,pv,ov,rows,h⟩:=h;have hpl:e.inner.pcs.length≤1000:=(by have:=h.ok.inner.2.2.1;have:=h.ok.pos;simp at this;omega);have hks:k < s.size:=(by have:=h.ok.pos;simp at this;omega);have hfr:=efront_any lo p own _ _ _ _ _ _ bv pv _ _ _ e.inner.pcs w h.blk h.pn hpl;rw [hf] at hfr;have HP:=Lib.hid (front_pos hf);have HH:=Lib.hid h;have HLo:=Lib.hid (Nat.le_trans h.lop (Nat.le_of_lt h.blk.lt));have HK:=Lib.hid hk;clear h hf hpl hk
  have hlen2:((k+1:Nat):Int)≤(s.size:Int):=by omega
  go_enter Tryz.func111,Tryz.ntmps111
  go_wp2_with fail
  refine hfr.mono ?_;rintro x w1 ⟨rfl,b1⟩;have h1:=HH.out.below b1;have HB1:=Lib.hid (b1.mono HLo.out);have HS1:=Lib.hid b1.size;obtain ⟨sa,sc,rfl,e2,e3⟩:=h1.sg;obtain ⟨g,rfl,hg,hgl,hcell⟩:=e3 (by omega);have kc:=hcell k hks;have k1:w1.cell? ⟨p,1,none⟩=some (.slice (some ⟨g,0,none⟩) s.size sc):=(h1.blk.cell 1).trans rfl;have i1:(k:Int) < (s.size:Int):=(by omega);have H1:=Lib.hid h1;clear hfr b1 h1 e3 hcell
  have q0:w1.cell? ⟨p,0,none⟩=some (.string s):=(H1.out.blk.cell 0).trans rfl
  have q2:w1.cell? ⟨p,2,none⟩=some (.int .i64 ((k+1:Nat):Int)):=by rw [←HK.out];exact (H1.out.blk.cell 2).trans rfl
  have hall:=And.intro q0 (And.intro q2 (Below.refl w1.heap.size w1))
  have hp1:=H1.out.blk.lt
  rw [hb] at kc
  clear hb
  go_upto_region 11 with fail
  generalize k+1=k2 at *
  go_region_held3 (fun w'=>w'.cell? ⟨p,0,none⟩=some (.string s)∧w'.cell? ⟨p,2,none⟩=some (.int .i64 (k2:Int))∧Below w1.heap.size w1 w')
   (first | (with_reducible exact hall) | (with_reducible exact heldE_step hbX hp1 (by assumption)) | (with_reducible exact heldE_drew (by assumption)))
   (first | (go_at_call 129;refine (g5 _).mono ?_;rintro e w' ⟨rfl,hbX⟩))
  clear hall
  go_split_ands
  rename_i hX
  have h5:=H1.out.below hX
  have hz2:=h5.blk.frozen 2
  have hE3:=h5.goto (k2+qc) HK1.out
  have HB3:=Lib.hid ((HB1.out.trans (hX.mono (Nat.le_trans HLo.out HS1.out))).trans ((Below.refl lo _).setCell (p:=⟨p,2,none⟩) HH.out.lop (.int .i64 ((k2+qc:Nat):Int))))
  have hrp:=em_repeat hE3 qa qb HP.out hs HK2.out
  have hp5:=h5.blk.lt
  clear h5 hE3 q0 q2 k1 kc
  go_wp2_with fail
  refine hrp.mono ?_
  rintro x w6 ⟨rfl,hx6,b6⟩
  have HX6:=Lib.hid hx6
  clear hrp hx6
  go_wp2_with fail
  go_ret2
  exact emout_ok HO.out (HB3.out.trans b6) HX6.out
end Go.Proofs.YtbgfankoojjejaaGreatDoor
