/- The proof's texts BrProgBC: what the claim reaches of them. -/
import Derived.Test.YtbgfankoojjejaaGreatDoorGd07
import Derived.Test.YtbgfankoojjejaaGreatDoorGd06
set_option linter.unusedSimpArgs false
set_option linter.unusedVariables false
set_option maxHeartbeats 8000000
set_option maxRecDepth 1000000
namespace Go.Proofs.YtbgfankoojjejaaGreatDoor
open Go.RowKit
theorem ofl_one (b:Nat):ofl [(b:Int)]=oSpan b b:=by
 unfold oSpan ofl
 rw [show ((b:Int) - (b:Int)+1).toNat=1 by omega,Int.toNat_natCast]
 simp [ospan]
theorem ziblk_cells {w:World} {a:Nat} {T:TypeId} (h:Blk w a #[.int .u64 0,.int .u64 0,.int .u64 0,.int .u64 0,.bool false] T) :
  w.cell? ⟨a,0,none⟩=some (.int .u64 0)∧w.cell? ⟨a,1,none⟩=some (.int .u64 0)∧w.cell? ⟨a,2,none⟩=some (.int .u64 0)∧w.cell? ⟨a,3,none⟩=some (.int .u64 0)∧w.cell? ⟨a,4,none⟩=some (.bool false):=
 ⟨(h.cell 0).trans rfl,(h.cell 1).trans rfl,(h.cell 2).trans rfl,(h.cell 3).trans rfl,(h.cell 4).trans rfl⟩
def nmV (s:OSet) (m ok:Bool):Value:=.tuple #[.agg #[.int .u64 (ow s 0),.int .u64 (ow s 1),.int .u64 (ow s 2),.int .u64 (ow s 3),.bool m],.bool ok]
theorem named58 (t:ByteArray) (w:World) :
  Calls Tryz.prog 168 #[.string t,.int .u8 58] w fun e w'=>e=.returned (nmV (clsSet t.toList) false (clsOk t.toList))∧Below w.heap.size w w':=by
 have hB:=Blk.new w #[.int .u64 0,.int .u64 0,.int .u64 0,.int .u64 0,.bool false] 243 _ rfl;have hW:=(Below.refl w.heap.size w).alloc (Nat.le_refl _) (.cells #[.int .u64 0,.int .u64 0,.int .u64 0,.int .u64 0,.bool false] 243)
 generalize hcs:clsSet t.toList=cs
 generalize hok:clsOk t.toList=ok
 go_enter Tryz.func168,Tryz.ntmps168
 go_wp2_with fail
 refine (class_any _ _).mono ?_
 rintro e w1 ⟨he,b1⟩
 rw [hcs,hok] at he
 subst he
 replace hW:=hW.trans (b1.mono hW.size)
 replace hB:=hB.below b1 hB.lt
 clear b1
 obtain ⟨d0,d1,d2,d3,d4⟩:=ziblk_cells hB;have f0:=hB.frozen 0;have f1:=hB.frozen 1;have f2:=hB.frozen 2;have f3:=hB.frozen 3;have f4:=hB.frozen 4;have hlB:=hB.lt
 go_wp2_with fail
 refine bodyPost_ret (v:=nmV cs false ok) (by simp [results,Tryz.results168,go_sem,d0,d1,d2,d3,d4,nmV,hlB]) rfl ⟨rfl,?_⟩
 repeat (first | (with_reducible exact hW) | refine Below.setCell ?_ (by first | omega | (simp;omega) | simp) _ | refine Below.alloc ?_ (by first | omega | (simp;omega) | simp) _)
theorem named_one (t:ByteArray) (o:Int) (w:World) (ho:o≠58) (ht:t.size=1) :
  Calls Tryz.prog 168 #[.string t,.int .u8 o] w fun e w'=>e=.returned (nmV (oSpan (byt t.data.toList 0) (byt t.data.toList 0)) (o == 46) true)∧Below w.heap.size w w':=by
 have r1:(o == 58)=false:=by simp [ho]
 have r2:((t.size:Int) != 1)=false:=by simp [ht]
 have hb:=Lib.hid (pbyt_at t 0 (by omega))
 have lt0:0 < t.size:=by omega
 rw [hb.out]
 have hB:=Blk.new w #[.int .u64 0,.int .u64 0,.int .u64 0,.int .u64 0,.bool false] 243 _ rfl;have hW:=(Below.refl w.heap.size w).alloc (Nat.le_refl _) (.cells #[.int .u64 0,.int .u64 0,.int .u64 0,.int .u64 0,.bool false] 243)
 go_enter Tryz.func168,Tryz.ntmps168
 go_wp2_with fail
 refine (of_one (t[0].toNat:Int) (pu8a _) (pu8b _) _ _ (by simp)).mono ?_
 rintro e w1 ⟨rfl,b1⟩
 rw [ofl_one]
 replace hW:=hW.trans (b1.mono hW.size)
 replace hB:=hB.below b1 hB.lt
 clear b1
 obtain ⟨d0,d1,d2,d3,d4⟩:=ziblk_cells hB;have f0:=hB.frozen 0;have f1:=hB.frozen 1;have f2:=hB.frozen 2;have f3:=hB.frozen 3;have f4:=hB.frozen 4;have hlB:=hB.lt
 go_wp2_with fail
 refine bodyPost_ret (v:=nmV (oSpan (t[0].toNat:Int) (t[0].toNat:Int)) (o == 46) true) (by simp [results,Tryz.results168,go_sem,d0,d1,d2,d3,d4,nmV,hlB]) rfl ⟨rfl,?_⟩
 repeat (first | (with_reducible exact hW) | refine Below.setCell ?_ (by first | omega | (simp;omega) | simp) _ | refine Below.alloc ?_ (by first | omega | (simp;omega) | simp) _)
theorem named_none (t:ByteArray) (o:Int) (w:World) (ho:o≠58) (ht:t.size≠1) :
  Calls Tryz.prog 168 #[.string t,.int .u8 o] w fun e w'=>e=.returned (nmV oz false false)∧Below w.heap.size w w':=by
 have r1:(o == 58)=false:=by simp [ho]
 have r2:((t.size:Int) != 1)=true:=by simp;omega
 have hB:=Blk.new w #[.int .u64 0,.int .u64 0,.int .u64 0,.int .u64 0,.bool false] 243 _ rfl;have hW:=(Below.refl w.heap.size w).alloc (Nat.le_refl _) (.cells #[.int .u64 0,.int .u64 0,.int .u64 0,.int .u64 0,.bool false] 243)
 go_enter Tryz.func168,Tryz.ntmps168
 go_wp2_with fail
 refine bodyPost_ret (v:=nmV oz false false) (by simp [results,Tryz.results168,go_sem,nmV,ow_zero]) rfl ⟨rfl,?_⟩
 repeat (first | (with_reducible exact hW) | refine Below.setCell ?_ (by first | omega | (simp;omega) | simp) _ | refine Below.alloc ?_ (by first | omega | (simp;omega) | simp) _)
def clo (s:List UInt8) (o:Nat) (e:Nat):Int:=match fnd s o e with
 | some x=>(x:Int)
 | none=>-1
def cdx (s:List UInt8) (o:Nat) (e:Nat):Int:=match fnd s o e with
 | some x=>(x:Int) - (e:Int)
 | none=>-1
theorem clo_yes (s:List UInt8) (o e:Nat) (h:¬ cdx s o e < 0):clo s o e=(e:Int)+cdx s o e∧0≤cdx s o e∧(e:Int)+cdx s o e < s.length:=by
 unfold clo cdx at *
 cases hf:fnd s o e with
 | none=>rw [hf] at h;simp at h
 | some x=>
  have:=fnd_ge _ _ _ _ hf
  simp only
  omega
theorem clo_no (s:List UInt8) (o e:Nat) (h:cdx s o e < 0):clo s o e=-1:=by
 unfold clo cdx at *
 cases hf:fnd s o e with
 | none=>rfl
 | some x=>
  have:=fnd_ge _ _ _ _ hf
  rw [hf] at h
  simp only at h
  omega
theorem clo_past (s:List UInt8) (o e:Nat) (h:s.length≤e):clo s o e=-1:=by
 unfold clo
 rw [fnd,if_neg (by omega)]
theorem cidx (s:ByteArray) (k o:Nat) (w:World) (m:Int) (hs:s.size≤1000000) (hk:k≤s.size) (ho:o < 256) (hm:w.cell? ⟨1,0,none⟩=some (.int .i64 m)) :
  Calls Tryz.prog 170 #[.string (s.extract k s.size),.string (strOfNums [(o:Int),93])] w fun e w'=>e=.returned (.int .i64 (cdx s.data.toList o k))∧w=w':=by
 have h:=index_any (s.extract k s.size) (strOfNums [(o:Int),((93:Nat):Int)]) m w (by simp;omega) hm
 rw [ext_list,nums_two,show UInt8.ofNat 93=93 from rfl,idx_fnd _ _ _ (by rw [plist_size];exact hk),show (UInt8.ofNat o).toNat=o by simp;omega] at h
 exact h
theorem closer58 (s:ByteArray) (k o:Nat) (w:World) (m:Int) (hs:s.size≤1000000) (hk:k≤s.size) (ho:o < 256) (h58:o=58) (hm:w.cell? ⟨1,0,none⟩=some (.int .i64 m)) (hg:1 < w.heap.size) :
  Calls Tryz.prog 167 #[.string s,.int .i64 (k:Int),.int .u8 (o:Int)] w fun e w'=>e=.returned (.int .i64 (clo s.data.toList o k))∧Below w.heap.size w w':=by
 have kc:=pconv2d w o 93;have hm2:∀ x,(w.alloc x).cell? ⟨1,0,none⟩=some (.int .i64 m):=fun x=>(((Below.refl w.heap.size w).alloc (Nat.le_refl _) x).cell (p:=⟨1,0,none⟩) hg).trans hm;have hm3:∀ x,(w.alloc x).drew.cell? ⟨1,0,none⟩=some (.int .i64 m):=hm2
 have r1:((o:Int) != 58)=false:=by simp [h58]
 have r2:decide ((s.size:Int) < (k:Int))=false:=by simp;omega
 have r3:decide (s.size < k)=false:=decide_eq_false (by omega)
 clear h58
 by_cases hc:cdx s.data.toList o k < 0
 ·have Hc:=Lib.hid (clo_no _ _ _ hc)
  have r4:decide (cdx s.data.toList o k < 0)=true:=decide_eq_true hc
  clear hc
  (go_enter Tryz.func167,Tryz.ntmps167;go_wp2_with fail;go_region_with (go_at_call 170;refine (cidx s k o _ m hs (by omega) ho (hm3 _)).mono ?_;rintro e w1 ⟨rfl,rfl⟩);go_wp2_with fail)
  go_ret
  exact ⟨ret_int (by rw [Hc.out]),Below.drew ((Below.refl w.heap.size w).alloc (Nat.le_refl _) _)⟩
 ·have hy:=clo_yes _ _ _ hc
  rw [plist_size] at hy
  obtain ⟨hy1,hy2,hy3⟩:=hy
  have Hc:=Lib.hid hy1
  clear hy1
  have r4:decide (cdx s.data.toList o k < 0)=false:=decide_eq_false hc
  have r5:IntKind.i64.wrap ((k:Int)+cdx s.data.toList o k)=(k:Int)+cdx s.data.toList o k:=IntWalk.i64_in _ (by omega)
  clear hc
  (go_enter Tryz.func167,Tryz.ntmps167;go_wp2_with fail;go_region_with (go_at_call 170;refine (cidx s k o _ m hs (by omega) ho (hm3 _)).mono ?_;rintro e w1 ⟨rfl,rfl⟩);go_wp2_with fail)
  go_ret
  exact ⟨ret_int (by rw [Hc.out]),Below.drew ((Below.refl w.heap.size w).alloc (Nat.le_refl _) _)⟩
theorem closer_one (s:ByteArray) (k o:Nat) (w:World) (m:Int) (hs:s.size≤1000000) (hk:k≤s.size) (ho:o < 256) (h58:o≠58) (hm:w.cell? ⟨1,0,none⟩=some (.int .i64 m)) (hg:1 < w.heap.size) :
  Calls Tryz.prog 167 #[.string s,.int .i64 (k:Int),.int .u8 (o:Int)] w fun e w'=>e=.returned (.int .i64 (clo s.data.toList o (k+1)))∧Below w.heap.size w w':=by
 have kc:=pconv2d w o 93;have hm2:∀ x,(w.alloc x).cell? ⟨1,0,none⟩=some (.int .i64 m):=fun x=>(((Below.refl w.heap.size w).alloc (Nat.le_refl _) x).cell (p:=⟨1,0,none⟩) hg).trans hm;have hm3:∀ x,(w.alloc x).drew.cell? ⟨1,0,none⟩=some (.int .i64 m):=hm2
 have Wn:IntKind.i64.wrap ((k:Int)+1)=((k+1:Nat):Int):=by rw [IntWalk.i64_in _ (by omega)];omega
 have r1:((o:Int) != 58)=true:=by simp;omega
 clear h58
 by_cases hlt:k+1≤s.size
 ·generalize hk1:k+1=k1 at *
  have r2:decide ((s.size:Int) < (k1:Int))=false:=by simp;omega
  have r3:decide (s.size < k1)=false:=decide_eq_false (by omega)
  by_cases hc:cdx s.data.toList o k1 < 0
  ·have Hc:=Lib.hid (clo_no _ _ _ hc)
   have r4:decide (cdx s.data.toList o k1 < 0)=true:=decide_eq_true hc
   clear hc
   (go_enter Tryz.func167,Tryz.ntmps167;go_wp2_with fail;go_region_with (go_at_call 170;refine (cidx s k1 o _ m hs (by omega) ho (hm3 _)).mono ?_;rintro e w1 ⟨rfl,rfl⟩);go_wp2_with fail)
   go_ret
   exact ⟨ret_int (by rw [Hc.out]),Below.drew ((Below.refl w.heap.size w).alloc (Nat.le_refl _) _)⟩
  ·have hy:=clo_yes _ _ _ hc
   rw [plist_size] at hy
   obtain ⟨hy1,hy2,hy3⟩:=hy
   have Hc:=Lib.hid hy1
   clear hy1
   have r4:decide (cdx s.data.toList o k1 < 0)=false:=decide_eq_false hc
   have r5:IntKind.i64.wrap ((k1:Int)+cdx s.data.toList o k1)=(k1:Int)+cdx s.data.toList o k1:=IntWalk.i64_in _ (by omega)
   clear hc
   (go_enter Tryz.func167,Tryz.ntmps167;go_wp2_with fail;go_region_with (go_at_call 170;refine (cidx s k1 o _ m hs (by omega) ho (hm3 _)).mono ?_;rintro e w1 ⟨rfl,rfl⟩);go_wp2_with fail)
   go_ret
   exact ⟨ret_int (by rw [Hc.out]),Below.drew ((Below.refl w.heap.size w).alloc (Nat.le_refl _) _)⟩
 ·have r2:decide ((s.size:Int) < ((k+1:Nat):Int))=true:=by simp;omega
  have Hp:=Lib.hid (clo_past s.data.toList o (k+1) (by rw [plist_size];omega))
  generalize hk1:k+1=k1 at *
  have r3:decide (s.size < k1)=true:=decide_eq_true (by omega)
  go_enter Tryz.func167,Tryz.ntmps167
  go_wp2_with fail
  go_ret
  exact ⟨ret_int (by rw [Hp.out]),Below.refl _ _⟩
end Go.Proofs.YtbgfankoojjejaaGreatDoor
namespace Go.Proofs.YtbgfankoojjejaaGreatDoor
open Go.RowKit
def glN:Nat:=Nat.max (Nat.max 5 4) 1+1
structure Gl (w:World):Prop where
 tab:TabIn w
 op0:w.cell? ⟨4,0,none⟩=some (.int .u8 58)
 op1:w.cell? ⟨4,1,none⟩=some (.int .u8 61)
 op2:w.cell? ⟨4,2,none⟩=some (.int .u8 46)
 ml:∃ m,w.cell? ⟨1,0,none⟩=some (.int .i64 m)
 lt:glN≤w.heap.size
theorem Gl.below {w w':World} {B:Nat} (h:Gl w) (hb:Below B w w') (hB:glN≤B):Gl w':=
 ⟨tabIn_below h.tab hb (Nat.lt_of_lt_of_le (by decide) hB),
  (hb.cell (p:=⟨4,0,none⟩) (Nat.lt_of_lt_of_le (by decide) hB)).trans h.op0,
  (hb.cell (p:=⟨4,1,none⟩) (Nat.lt_of_lt_of_le (by decide) hB)).trans h.op1,
  (hb.cell (p:=⟨4,2,none⟩) (Nat.lt_of_lt_of_le (by decide) hB)).trans h.op2,
  h.ml.imp fun _ hm=>(hb.cell (p:=⟨1,0,none⟩) (Nat.lt_of_lt_of_le (by decide) hB)).trans hm,
  Nat.le_trans h.lt hb.size⟩
theorem Gl.up {w w':World} (h:Gl w) (hb:Below w.heap.size w w'):Gl w':=h.below hb h.lt
def pgV (s:OSet) (m:Bool) (at':Nat) (er:Nat):Value:=.tuple #[.agg #[.int .u64 (ow s 0),.int .u64 (ow s 1),.int .u64 (ow s 2),.int .u64 (ow s 3),.bool m],.int .i64 (at':Int),.int .i64 (er:Int)]
theorem opened_none (s:ByteArray) (k o:Nat) (w:World) (hs:s.size≤1000000) (hk:k+2≤s.size) (hG:Gl w)
  (hcl:∀ w,Gl w→Calls Tryz.prog 167 #[.string s,.int .i64 ((k:Int)+2),.int .u8 (o:Int)] w fun e w'=>e=.returned (.int .i64 (-1))∧Below w.heap.size w w') :
  Calls Tryz.prog 165 #[.string s,.int .i64 (k:Int),.int .u8 (o:Int)] w fun e w'=>e=.returned (pgV oz false s.size 5)∧Below w.heap.size w w':=by
 have hB:=Blk.new w #[.int .u64 0,.int .u64 0,.int .u64 0,.int .u64 0,.bool false] 243 _ rfl;have hW:=(Below.refl w.heap.size w).alloc (Nat.le_refl _) (.cells #[.int .u64 0,.int .u64 0,.int .u64 0,.int .u64 0,.bool false] 243)
 have Wn:IntKind.i64.wrap ((k:Int)+2)=(k:Int)+2:=IntWalk.i64_in _ (by omega)
 have hG1:=hG.up hW
 go_enter Tryz.func165,Tryz.ntmps165
 go_wp2_with fail
 refine (hcl _ hG1).mono ?_
 rintro e w1 ⟨rfl,b1⟩
 replace hW:=hW.trans (b1.mono hW.size);replace hB:=hB.below b1 hB.lt;clear b1
 obtain ⟨d0,d1,d2,d3,d4⟩:=ziblk_cells hB;have f0:=hB.frozen 0;have f1:=hB.frozen 1;have f2:=hB.frozen 2;have f3:=hB.frozen 3;have f4:=hB.frozen 4;have hlB:=hB.lt
 go_wp2_with fail
 refine bodyPost_ret (v:=pgV oz false s.size 5) (by simp [results,Tryz.results165,go_sem,d0,d1,d2,d3,d4,pgV,hlB,ow_zero]) rfl ⟨rfl,?_⟩
 repeat (first | (with_reducible exact hW) | refine Below.setCell ?_ (by first | omega | (simp;omega) | simp) _ | refine Below.alloc ?_ (by first | omega | (simp;omega) | simp) _)
theorem opened_some (s:ByteArray) (k o x:Nat) (cs:OSet) (m ok:Bool) (w:World) (hs:s.size≤1000000) (hk:k+2≤s.size) (hG:Gl w) (hx0:k+2≤x) (hx1:x+1 < s.size)
  (hcl:∀ w,Gl w→Calls Tryz.prog 167 #[.string s,.int .i64 ((k:Int)+2),.int .u8 (o:Int)] w fun e w'=>e=.returned (.int .i64 (x:Int))∧Below w.heap.size w w')
  (hnm:∀ w,Calls Tryz.prog 168 #[.string (s.extract (k+2) x),.int .u8 (o:Int)] w fun e w'=>e=.returned (nmV cs m ok)∧Below w.heap.size w w') :
  Calls Tryz.prog 165 #[.string s,.int .i64 (k:Int),.int .u8 (o:Int)] w fun e w'=>e=.returned (if ok then pgV cs m (x+2) 0 else pgV oz false k 6)∧Below w.heap.size w w':=by
 have hB:=Blk.new w #[.int .u64 0,.int .u64 0,.int .u64 0,.int .u64 0,.bool false] 243 _ rfl;have hW:=(Below.refl w.heap.size w).alloc (Nat.le_refl _) (.cells #[.int .u64 0,.int .u64 0,.int .u64 0,.int .u64 0,.bool false] 243)
 have Wn:IntKind.i64.wrap ((k:Int)+2)=(k:Int)+2:=IntWalk.i64_in _ (by omega)
 have Wx:IntKind.i64.wrap ((x:Int)+2)=(x:Int)+2:=IntWalk.i64_in _ (by omega)
 have hG1:=hG.up hW
 go_enter Tryz.func165,Tryz.ntmps165
 go_wp2_with fail
 refine (hcl _ hG1).mono ?_
 rintro e w1 ⟨rfl,b1⟩
 replace hW:=hW.trans (b1.mono hW.size);replace hB:=hB.below b1 hB.lt;clear b1
 go_wp2_with fail
 refine (hnm _).mono ?_
 rintro e w2 ⟨rfl,b1⟩
 replace hW:=hW.trans (b1.mono hW.size);replace hB:=hB.below b1 hB.lt;clear b1
 obtain ⟨d0,d1,d2,d3,d4⟩:=ziblk_cells hB;have f0:=hB.frozen 0;have f1:=hB.frozen 1;have f2:=hB.frozen 2;have f3:=hB.frozen 3;have f4:=hB.frozen 4;have hlB:=hB.lt
 unfold nmV
 cases ok
 ·go_wp2_with fail
  refine bodyPost_ret (v:=pgV oz false k 6) (by simp [results,Tryz.results165,go_sem,d0,d1,d2,d3,d4,pgV,hlB,ow_zero]) rfl ⟨rfl,?_⟩
  repeat (first | (with_reducible exact hW) | refine Below.setCell ?_ (by first | omega | (simp;omega) | simp) _ | refine Below.alloc ?_ (by first | omega | (simp;omega) | simp) _)
 ·go_wp2_with fail
  refine bodyPost_ret (v:=pgV cs m (x+2) 0) (by simp [results,Tryz.results165,go_sem,d0,d1,d2,d3,d4,pgV,hlB,ow_zero]) rfl ⟨rfl,?_⟩
  repeat (first | (with_reducible exact hW) | refine Below.setCell ?_ (by first | omega | (simp;omega) | simp) _ | refine Below.alloc ?_ (by first | omega | (simp;omega) | simp) _)
end Go.Proofs.YtbgfankoojjejaaGreatDoor
