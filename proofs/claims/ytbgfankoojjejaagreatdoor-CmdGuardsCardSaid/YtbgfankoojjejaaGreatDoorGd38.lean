/- The proof's texts CmSa, CmGc, CmLd, AdGlob: what the claim reaches of them. -/
import Derived.Test.YtbgfankoojjejaaGreatDoorGd37
import Derived.Test.YtbgfankoojjejaaGreatDoorGd34
import Derived.Test.YtbgfankoojjejaaGreatDoorGd33
import Derived.Test.YtbgfankoojjejaaGreatDoorGd28
import Derived.Test.YtbgfankoojjejaaGreatDoorGd25
import Derived.Test.YtbgfankoojjejaaGreatDoorGd08
import Derived.Test.YtbgfankoojjejaaGreatDoorCards
import Derived.Test.YtbgfankoojjejaaGreatDoorTie
import Derived.ShutString
import Derived.OpenShut
import Derived.Deep.DeepHandedRow
import Derived.Lib.LaidTab
import Derived.Stop.LaidErr
import Derived.Shelf.Vars
set_option linter.unusedSimpArgs false
set_option linter.unusedVariables false
set_option maxHeartbeats 8000000
set_option maxRecDepth 1000000
namespace Go.Proofs.YtbgfankoojjejaaGreatDoor
open Go Go.RowKit
theorem blk20c {w:World} {b:Nat} {T:TypeId} {v0 v1 v2 v3 v4 v5 v6 v7 v8 v9 v10 v11 v12 v13 v14 v15 v16 v17 v18 v19:Value} (h:Blk w b #[v0,v1,v2,v3,v4,v5,v6,v7,v8,v9,v10,v11,v12,v13,v14,v15,v16,v17,v18,v19] T):(w.cell? ⟨b,0,none⟩=some v0∧w.cell? ⟨b,1,none⟩=some v1∧w.cell? ⟨b,2,none⟩=some v2∧w.cell? ⟨b,3,none⟩=some v3∧w.cell? ⟨b,4,none⟩=some v4∧w.cell? ⟨b,5,none⟩=some v5∧w.cell? ⟨b,6,none⟩=some v6∧w.cell? ⟨b,7,none⟩=some v7∧w.cell? ⟨b,8,none⟩=some v8∧w.cell? ⟨b,9,none⟩=some v9∧w.cell? ⟨b,10,none⟩=some v10∧w.cell? ⟨b,11,none⟩=some v11∧w.cell? ⟨b,12,none⟩=some v12∧w.cell? ⟨b,13,none⟩=some v13∧w.cell? ⟨b,14,none⟩=some v14∧w.cell? ⟨b,15,none⟩=some v15∧w.cell? ⟨b,16,none⟩=some v16∧w.cell? ⟨b,17,none⟩=some v17∧w.cell? ⟨b,18,none⟩=some v18∧w.cell? ⟨b,19,none⟩=some v19)∧b < w.heap.size:=
 ⟨⟨(h.cell 0).trans rfl,(h.cell 1).trans rfl,(h.cell 2).trans rfl,(h.cell 3).trans rfl,(h.cell 4).trans rfl,(h.cell 5).trans rfl,(h.cell 6).trans rfl,(h.cell 7).trans rfl,(h.cell 8).trans rfl,(h.cell 9).trans rfl,(h.cell 10).trans rfl,(h.cell 11).trans rfl,(h.cell 12).trans rfl,(h.cell 13).trans rfl,(h.cell 14).trans rfl,(h.cell 15).trans rfl,(h.cell 16).trans rfl,(h.cell 17).trans rfl,(h.cell 18).trans rfl,(h.cell 19).trans rfl⟩,h.lt⟩
theorem same_any (c:Cmd) (pl:Nat) (ts tu:Value) (pa pb:Option Addr) (c1 c2:Nat) (w:World) (ha:c.g.a.tree=none) (hb:c.g.b.tree=none) (ka:c.g.a.kind≠3) (kb:c.g.b.kind≠3) (hts:TrO (fun b=>b < w.heap.size) w c.sub.tree ts) (htu:TrO (fun b=>b < w.heap.size) w c.sub.tree tu) (hf:nsize (c.sub.tree.getD .empty)≤4000000) (h1:PRow w pa c.sub.parts) (h2:PRow w pb c.sub.parts) :
  Calls Tryz.prog 9 #[.agg (cmdC c .nilIface .nilIface ts (.slice pa c.sub.parts.length c1)),.agg (cmdC { c with pl:=pl } .nilIface .nilIface tu (.slice pb c.sub.parts.length c2))] w fun e w'=>e=.returned (.bool true)∧Below w.heap.size w w':=by
 have hS:=fun W (hB:Below w.heap.size w W)=>ssub_any c.sub ts tu pa pb c1 c2 W (tro_up hB hts) (tro_up hB htu) hf (h1.below hB) (h2.below hB)
 have hG:=fun W=>psameG_any c.g c.g .nilIface .nilIface .nilIface .nilIface W ⟨by rw [ha];rfl,by rw [hb];rfl,by rw [ha];rfl,by rw [hb];rfl⟩ (fine_not ka) (fine_not kb) (fine_not ka) (fine_not kb)
 rw [show gdSame c.g c.g=true by unfold gdSame;rw [adSame_refl,adSame_refl];simp] at hG
 have s1:=hts.shape
 have s2:=htu.shape
 clear hts htu hf h1 h2 ha hb ka kb
 unfold cmdC
 simp only
 rcases s1 with ⟨T8,q8,rfl⟩ | rfl <;> rcases s2 with ⟨T9,q9,rfl⟩ | rfl
 all_goals
  go_enter Tryz.func9,Tryz.ntmps9
  go_upto_region 1 with fail
  generalize hW1:w.alloc _=W1
  generalize hW2:W1.alloc _=W2
  have hX:=(blkOfAlloc hW1).below (belowOfAlloc hW2) (blkOfAlloc hW1).lt
  have hY:=blkOfAlloc hW2
  have B2:=Lib.hid ((belowOfAlloc hW1).trans ((belowOfAlloc hW2).mono (belowOfAlloc hW1).size))
  have hp:W1.heap.size=w.heap.size+1:=by rw [←hW1];exact World.size_alloc _ _
  rw [hp] at hY
  clear hp
  generalize w.heap.size+1=p at hY ⊢
  have HX:=Lib.hid hX
  have HY:=Lib.hid hY
  obtain ⟨⟨x0,x1,x2,x3,x4,x5,x6,x7,x8,x9,x10,x11,x12,x13,x14,x15,x16,x17,x18,x19⟩,hxl⟩:=blk20c hX
  obtain ⟨⟨y0,y1,y2,y3,y4,y5,y6,y7,y8,y9,y10,y11,y12,y13,y14,y15,y16,y17,y18,y19⟩,hyl⟩:=blk20c hY
  clear hX hY hW1 hW2
  go_wp2_with (first
   | (go_at_call 12;refine (hG _).mono ?_;rintro e w3 ⟨rfl,b3⟩;have B3:=Lib.hid (B2.out.trans (b3.mono B2.out.size));have HX3:=Lib.hid (HX.out.below b3 hxl);have HY3:=Lib.hid (HY.out.below b3 hyl);clear b3 hG x0 x1 x2 x3 x4 x5 x6 x7 x8 x9 x10 x11 x12 x13 x14 x15 x16 x17 x18 x19 hxl y0 y1 y2 y3 y4 y5 y6 y7 y8 y9 y10 y11 y12 y13 y14 y15 y16 y17 y18 y19 hyl;obtain ⟨⟨x0,x1,x2,x3,x4,x5,x6,x7,x8,x9,x10,x11,x12,x13,x14,x15,x16,x17,x18,x19⟩,hxl⟩:=blk20c HX3.out;obtain ⟨⟨y0,y1,y2,y3,y4,y5,y6,y7,y8,y9,y10,y11,y12,y13,y14,y15,y16,y17,y18,y19⟩,hyl⟩:=blk20c HY3.out)
   | (go_at_call 13;refine (hS _ B3.out).mono ?_;rintro e w4 ⟨rfl,b4⟩;have HX4:=Lib.hid (HX3.out.below b4 hxl);have HY4:=Lib.hid (HY3.out.below b4 hyl);have B4:=Lib.hid (B3.out.trans (b4.mono B3.out.size));clear b4 hS x0 x1 x2 x3 x4 x5 x6 x7 x8 x9 x10 x11 x12 x13 x14 x15 x16 x17 x18 x19 hxl y0 y1 y2 y3 y4 y5 y6 y7 y8 y9 y10 y11 y12 y13 y14 y15 y16 y17 y18 y19 hyl;obtain ⟨⟨x0,x1,x2,x3,x4,x5,x6,x7,x8,x9,x10,x11,x12,x13,x14,x15,x16,x17,x18,x19⟩,hxl⟩:=blk20c HX4.out;obtain ⟨⟨y0,y1,y2,y3,y4,y5,y6,y7,y8,y9,y10,y11,y12,y13,y14,y15,y16,y17,y18,y19⟩,hyl⟩:=blk20c HY4.out))
  go_ret
  exact ⟨rfl,B4.out⟩
end Go.Proofs.YtbgfankoojjejaaGreatDoor
namespace Go.Proofs.YtbgfankoojjejaaGreatDoor
set_option linter.unusedVariables false
def Ft (st r:CS):Prop:=r.c.sub.tree=st.c.sub.tree
theorem Ft.refl (st:CS):Ft st st:=rfl
theorem Ft.trans {a b c:CS} (h:Ft a b) (k:Ft b c):Ft a c:=Eq.trans k h
theorem ft_then {st:CS} {r:CO} {f:CS→CO} (h:Ft st r.2) (hf:Ft r.2 (f r.2).2):Ft st (r.then f).2:=by
 unfold CO.then
 split
 ·exact h.trans hf
 ·exact h
theorem ft_label (L:List UInt8) (st:CS):Ft st (cmLabel L st).2:=rfl
theorem ft_per (L:List UInt8) (st:CS):Ft st (cmPer L st).2:=by
 unfold cmPer
 split
 ·exact rfl
 ·exact ft_label L st
theorem ft_text (L:List UInt8) (st:CS):Ft st (cmText L st).2:=by
 unfold cmText
 split
 ·exact rfl
 ·split
  ·exact rfl
  ·split <;> exact rfl
theorem ft_fileA (L:List UInt8) (st:CS):Ft st (cmFileA L st).2:=by
 unfold cmFileA
 split <;> exact rfl
theorem ft_fileS (L:List UInt8) (st:CS):Ft st (cmFileS L st).2:=by
 unfold cmFileS
 split <;> exact rfl
theorem ft_del (L:List UInt8) (st:CS):Ft st (cmDel L st).2.2:=by
 unfold cmDel
 split
 ·exact rfl
 ·split <;> exact rfl
theorem ft_end (L:List UInt8) (st:CS):Ft st (cmEnd L st).2:=by
 unfold cmEnd
 split
 ·exact rfl
 ·split
  ·exact rfl
  ·split <;> exact rfl
theorem ft_rep (L:List UInt8) (d:UInt8) (st:CS):Ft st (cmRep L d st).2:=by
 unfold cmRep cmRepOf
 split
 ·split <;> exact rfl
 ·exact rfl
theorem ft_flag {L:List UInt8} {b:UInt8} {st:CS} {r:CO} (h:cmFlag L b st=some r):Ft st r.2:=by
 unfold cmFlag at h
 split at h
 ·injection h with h
  subst h
  unfold cmAll
  split <;> exact rfl
 ·split at h
  ·injection h with h
   subst h
   unfold cmPrt
   split <;> exact rfl
  ·split at h
   ·injection h with h
    subst h
    unfold cmNth cmNthOf
    split
    ·split
     ·split <;> exact rfl
     ·exact rfl
    ·exact rfl
   ·cases h
theorem ft_flags (L:List UInt8):∀ (n:Nat) (st:CS),Ft st (cmFlags L n st).2
 | 0,st=>Ft.refl st
 | n+1,st=>by
  unfold cmFlags
  split
  ·exact Ft.refl st
  ·split
   ·rename_i hf
    split
    ·exact (ft_flag hf).trans (ft_flags L n _)
    ·exact ft_flag hf
   ·split
    ·exact Ft.trans (b:=st.go (st.k+1)) rfl (ft_fileS L _)
    ·exact ft_end L st
theorem ft_tbl (L:List UInt8) (st:CS):Ft st (cmTbl L st).2:=by
 unfold cmTbl
 refine ft_then (ft_del L st) ?_
 unfold cmTblA
 split
 ·unfold cmTblB
  split
  ·split
   ·exact Ft.trans (b:=(cmDel L st).2.2.table _ _) rfl (ft_end L _)
   ·exact rfl
  ·exact rfl
 ·exact rfl
def FnS (st:CS):Prop:=nsize (st.c.sub.tree.getD .empty)≤4000000
theorem FnS.ft {a b:CS} (h:FnS a) (k:Ft a b):FnS b:=by unfold FnS;rw [k];exact h
theorem fn_rx {ext:Bool} {L:List UInt8} {d:UInt8} {st:CS}:FnS (cmRx ext L d st).2:=by
 unfold cmRx
 cases hR:delimM ext L st.k d with
 | error q=>show nsize .empty≤_;decide
 | ok q=>exact delim_fine hR
theorem fn_then {r:CO} {f:CS→CO} (h:FnS r.2) (hf:FnS r.2→FnS (f r.2).2):FnS (r.then f).2:=by
 unfold CO.then
 split
 ·exact hf h
 ·exact h
theorem fn_takes {ext:Bool} {L:List UInt8} {st:CS} (h:FnS st):FnS (cmTakes ext L st).2:=by
 unfold cmTakes
 simp only
 split
 ·exact h
 ·split
  ·exact h.ft (ft_label L st)
  ·split
   ·exact h.ft (ft_per L st)
   ·split
    ·exact h.ft (ft_text L st)
    ·split
     ·exact h.ft (ft_fileA L st)
     ·split
      ·unfold cmSub
       exact fn_then (h.ft (ft_del L st)) fun _=>fn_then fn_rx fun h2=>fn_then (h2.ft (ft_rep L _ _)) fun h3=>h3.ft (ft_flags L _ _)
      ·split
       ·exact h.ft (ft_tbl L st)
       ·exact h.ft (ft_end L st)
theorem cm_fine {ext:Bool} {L:List UInt8} {k:Nat} {c:Cmd} {ms:List Wm} {p:Nat} (h:cmM ext L k=.ok (c,ms,p)):nsize (c.sub.tree.getD .empty)≤4000000:=by
 unfold cmM at h
 cases hG:gdM ext L k with
 | error q=>rw [hG] at h;cases h
 | ok q=>
  rw [hG] at h
  unfold cmOf cmAns at h
  simp only at h
  split at h
  ·injection h with h
   injection h with h1 h2
   rw [←h1]
   show FnS _
   unfold cmWhole
   refine fn_then ?_ fun h=>fn_takes h
   have h0:FnS (cmNew q.1 q.2.1 q.2.2):=by show nsize .empty≤_;decide
   refine h0.ft ?_
   unfold cmName
   split
   ·rfl
   ·unfold cmNameOf
    split
    ·rfl
    ·split
     ·rfl
     ·show (CS.name _ _).c.sub.tree=_
      split <;> rfl
  ·cases h
theorem cm_err {ext:Bool} {L:List UInt8} {k:Nat} {q:Nat × Nat} (h:cmM ext L k=.error q):q.1≠0:=by
 unfold cmM at h
 cases hG:gdM ext L k with
 | error r=>
  rw [hG] at h
  injection h with h
  rw [←h]
  exact gdM_err hG
 | ok r=>
  rw [hG] at h
  unfold cmOf cmAns at h
  simp only at h
  split at h
  ·cases h
  ·rename_i h1
   injection h with h
   rw [←h]
   exact h1
end Go.Proofs.YtbgfankoojjejaaGreatDoor
namespace Go.Proofs.YtbgfankoojjejaaGreatDoor
open Go Go.RowKit
def putMany (cs:Array Value):Nat→List Value→Array Value
 | _,[]=>cs
 | o,v :: r=>putMany (cs.setIfInBounds o v) (o+1) r
theorem blk_setCells {b:Nat} {T:TypeId}:∀ (vs:List Value) (o:Nat) {w:World} {cs:Array Value},Blk w b cs T→Blk (w.setCells b o vs) b (putMany cs o vs) T
 | [],_,_,_,h=>h
 | v :: r,o,_,_,h=>blk_setCells r (o+1) (h.set o v)
theorem blk_there {w:World} {b:Nat} {cs:Array Value} {T:TypeId} (h:Blk w b cs T) (o n:Nat) (hn:o+n≤cs.size):w.there b o n:=fun j hj=>
 ⟨by rw [h.cell,Array.getElem?_eq_getElem (show o+j < cs.size by omega)];rfl,h.frozen _⟩
theorem blk_range {w:World} {b:Nat} {cs:Array Value} {T:TypeId} (h:Blk w b cs T) (o:Nat) (vs:List Value) (hv:∀ j v,vs[j]?=some v→cs[o+j]?=some v):w.rangeAt b o vs:=fun j v hj=>by
 rw [h.cell];exact hv j v hj
theorem below_setCells' {B:Nat} {a:World} {b:Nat} (hb:B≤b):∀ (vs:List Value) (o:Nat) {w:World},Below B a w→Below B a (w.setCells b o vs)
 | [],_,_,h=>h
 | v :: r,o,_,h=>below_setCells' hb r (o+1) (h.setCell (p:=⟨b,o,none⟩) hb v)
theorem cmd_range (c:Cmd) (ta tb ts pv:Value):∀ j v,(gdC c.g ta tb).toList[j]?=some v→(cmdC c ta tb ts pv)[1+j]?=some v:=by
 intro j v hj
 have hl:j < 9:=(List.getElem?_eq_some_iff.1 hj).1
 obtain rfl | rfl | rfl | rfl | rfl | rfl | rfl | rfl | rfl:j=0∨j=1∨j=2∨j=3∨j=4∨j=5∨j=6∨j=7∨j=8:=by omega
 all_goals exact hj
theorem gd_one (g:Grd):(gdC g .nilIface .nilIface).all (·.oneCell')=true:=by
 simp only [List.all_toArray,List.all_cons,List.all_nil]
 rfl
theorem cmd_put (c:Cmd) (dp:Nat) (g:Grd) (us pv:Value):putMany (cmdC ⟨dp,g,c.name,c.arg,c.sub,c.table⟩ .nilIface .nilIface us pv) 1 (gdC c.g .nilIface .nilIface).toList=cmdC { c with pl:=dp } .nilIface .nilIface us pv:=by
 unfold cmdC gdC
 simp only [putMany,List.setIfInBounds_toArray,List.set_cons_zero,List.set_cons_succ]
theorem li0 (w:World):(Instr.index 45 (.agg #[.string ⟨#[49]⟩,.string ⟨#[55]⟩,.string ⟨#[36]⟩,.string ⟨#[49,50]⟩]) (.int .u8 0)).run Tryz.prog w=.ok (.string (txt (lnT 0))) w:=by kernel_rfl
theorem li1 (w:World):(Instr.index 45 (.agg #[.string ⟨#[49]⟩,.string ⟨#[55]⟩,.string ⟨#[36]⟩,.string ⟨#[49,50]⟩]) (.int .u8 1)).run Tryz.prog w=.ok (.string (txt (lnT 1))) w:=by kernel_rfl
theorem li2 (w:World):(Instr.index 45 (.agg #[.string ⟨#[49]⟩,.string ⟨#[55]⟩,.string ⟨#[36]⟩,.string ⟨#[49,50]⟩]) (.int .u8 2)).run Tryz.prog w=.ok (.string (txt (lnT 2))) w:=by kernel_rfl
theorem li3 (w:World):(Instr.index 45 (.agg #[.string ⟨#[49]⟩,.string ⟨#[55]⟩,.string ⟨#[36]⟩,.string ⟨#[49,50]⟩]) (.int .u8 3)).run Tryz.prog w=.ok (.string (txt (lnT 3))) w:=by kernel_rfl
theorem lnT_le (j:Nat):(lnT j).length≤2:=by
 match j with
 | 0=>decide
 | 1=>decide
 | 2=>decide
 | n+3=>exact Nat.le_refl 2
theorem lnA_tree (j:Nat):(lnA j).tree=none:=by
 match j with
 | 0=>rfl
 | 1=>rfl
 | 2=>rfl
 | n+3=>rfl
theorem guards_any (s:ByteArray) (n:UInt8) (w:World) (hG:Gl w) (hP:GP w) :
  Calls Tryz.prog 5 #[.string s,.int .u8 (n.toNat:Int)] w fun e w'=>e=.returned (.bool true)∧Below w.heap.size w w':=by
 have hA:=awake13_any w hG hP
 by_cases hs:(200:Int) < (s.size:Int)
 ·have hA2:=fun w1 (b1:Below w.heap.size w w1)=>awake13_any w1 (hG.up b1) (hP.up b1)
  clear hG hP
  go_enter Tryz.func5,Tryz.ntmps5
  go_wp2_with (first
   | (go_at_call 6;refine hA.mono ?_;clear hA;rintro e w1 ⟨rfl,b1⟩;have hA3:=hA2 w1 b1;clear hA2)
   | (go_at_call 6;refine hA3.mono ?_;clear hA3;rintro e w2 ⟨rfl,b2⟩))
  go_ret
  exact ⟨rfl,b1.trans (b2.mono b1.size)⟩
 have hs200:s.size≤200:=by omega
 have hC0:=fun W (h:Below w.heap.size w W)=>kparse_0 false s W (by omega) (hG.up h) (hP.up h)
 obtain ⟨R,hR⟩:∃ R,cmM false s.data.toList 0=R:=⟨_,rfl⟩
 rw [hR] at hC0
 have HR:=Lib.hid hR
 have HG:=Lib.hid hG
 have HP:=Lib.hid hP
 clear hR hG hP
 go_enter Tryz.func5,Tryz.ntmps5
 go_upto_region 3 with (go_at_call 6;refine hA.mono ?_;clear hA;rintro e w1 ⟨rfl,b1⟩)
 have hC:=hC0 w1 b1
 clear hC0
 refine wp_region_list ?_
 refine wpList_plain rfl (fun K hK=>?_);go_simp;refine hK _ _ ?_;clear hK K;(try simp only [List.getElem_toArray,List.getElem_cons_succ,List.getElem_cons_zero,Act.put,List.setIfInBounds_toArray,List.set_cons_zero,List.set_cons_succ])
 cases R with
 | error q=>
  obtain ⟨E,p⟩:=q
  have hE:E≠0:=cm_err (q:=(E,p)) HR.out
  have ce:((E:Int) != 0)=true:=by simpa using hE
  simp only [CmdA] at hC
  refine wpList_plain rfl (fun K hK=>?_);go_simp;go_at_call 7;refine hC.mono ?_;clear hC;rintro e w2 ⟨b2,rfl⟩;refine hK _ _ ?_;clear hK K;(try simp only [List.getElem_toArray,List.getElem_cons_succ,List.getElem_cons_zero,Act.put,List.setIfInBounds_toArray,List.set_cons_zero,List.set_cons_succ])
  refine wpList_plain rfl (fun K hK=>?_);go_simp;refine hK _ _ ?_;clear hK K;(try simp only [List.getElem_toArray,List.getElem_cons_succ,List.getElem_cons_zero,Act.put,List.setIfInBounds_toArray,List.set_cons_zero,List.set_cons_succ])
  refine wpList_plain rfl (fun K hK=>?_);go_simp;refine hK _ _ ?_;clear hK K;(try simp only [List.getElem_toArray,List.getElem_cons_succ,List.getElem_cons_zero,Act.put,List.setIfInBounds_toArray,List.set_cons_zero,List.set_cons_succ])
  refine wpList_plain rfl (fun K hK=>?_);go_simp;refine hK _ _ ?_;clear hK K;(try simp only [List.getElem_toArray,List.getElem_cons_succ,List.getElem_cons_zero,Act.put,List.setIfInBounds_toArray,List.set_cons_zero,List.set_cons_succ])
  refine wpList_plain rfl (fun K hK=>?_);go_simp;refine hK _ _ ?_;clear hK K;(try simp only [List.getElem_toArray,List.getElem_cons_succ,List.getElem_cons_zero,Act.put,List.setIfInBounds_toArray,List.set_cons_zero,List.set_cons_succ])
  refine wpList_plain rfl (fun K hK=>?_);go_simp;refine hK _ _ ?_;clear hK K;(try simp only [List.getElem_toArray,List.getElem_cons_succ,List.getElem_cons_zero,Act.put,List.setIfInBounds_toArray,List.set_cons_zero,List.set_cons_succ])
  refine wpList_plain rfl (fun K hK=>?_);go_simp;generalize hA:(w2).alloc _=wy;refine hK _ _ ?_;clear hK K;(try simp only [List.getElem_toArray,List.getElem_cons_succ,List.getElem_cons_zero,Act.put,List.setIfInBounds_toArray,List.set_cons_zero,List.set_cons_succ]);refine wpList_store_row rfl 35 _ _ rfl (World.heap w2).size (cmdZ) rfl rfl 35 cmdZ (blkOfAlloc hA) (by kernel_rfl) rfl ((by kernel_rfl)) ?_;(try simp only [List.getElem_toArray,List.getElem_cons_succ,List.getElem_cons_zero,Act.put,List.setIfInBounds_toArray,List.set_cons_zero,List.set_cons_succ]);have hbx:=boxOf (cs:=cmdZ) hA;generalize wy.setRow (World.heap w2).size _=w3 at hbx ⊢;clear hA
  refine wpList_plain rfl (fun K hK=>?_);go_simp;refine hK _ _ ?_;clear hK K;(try simp only [List.getElem_toArray,List.getElem_cons_succ,List.getElem_cons_zero,Act.put,List.setIfInBounds_toArray,List.set_cons_zero,List.set_cons_succ])
  refine wpList_plain rfl (fun K hK=>?_);go_simp;refine hK _ _ ?_;clear hK K;(try simp only [List.getElem_toArray,List.getElem_cons_succ,List.getElem_cons_zero,Act.put,List.setIfInBounds_toArray,List.set_cons_zero,List.set_cons_succ])
  refine wpList_plain rfl (fun K hK=>?_);go_simp;refine hK _ _ ?_;clear hK K;(try simp only [List.getElem_toArray,List.getElem_cons_succ,List.getElem_cons_zero,Act.put,List.setIfInBounds_toArray,List.set_cons_zero,List.set_cons_succ])
  refine wpList_nil ?_
  obtain ⟨b3,Q3⟩:=hbx
  have B3:=Lib.hid ((b1.trans (b2.mono b1.size)).trans (b3.mono (b1.trans (b2.mono b1.size)).size))
  clear hE b1 b2 b3 Q3
  go_wp2_with fail
  go_ret
  exact ⟨rfl,B3.out⟩
 | ok q=>
  obtain ⟨c,ms,k⟩:=q
  simp only [CmdA] at hC
  refine wpList_plain rfl (fun K hK=>?_);go_simp;go_at_call 7;refine hC.mono ?_;clear hC;rintro e w2 ⟨b2,ta,tb,ts,pa,pc,ma,mc,rfl,hta,htb,hts,hpr⟩;refine hK _ _ ?_;clear hK K;(try simp only [List.getElem_toArray,List.getElem_cons_succ,List.getElem_cons_zero,Act.put,List.setIfInBounds_toArray,List.set_cons_zero,List.set_cons_succ])
  refine wpList_plain rfl (fun K hK=>?_);go_simp;refine hK _ _ ?_;clear hK K;(try simp only [List.getElem_toArray,List.getElem_cons_succ,List.getElem_cons_zero,Act.put,List.setIfInBounds_toArray,List.set_cons_zero,List.set_cons_succ])
  refine wpList_plain rfl (fun K hK=>?_);go_simp;refine hK _ _ ?_;clear hK K;(try simp only [List.getElem_toArray,List.getElem_cons_succ,List.getElem_cons_zero,Act.put,List.setIfInBounds_toArray,List.set_cons_zero,List.set_cons_succ])
  refine wpList_plain rfl (fun K hK=>?_);go_simp;refine hK _ _ ?_;clear hK K;(try simp only [List.getElem_toArray,List.getElem_cons_succ,List.getElem_cons_zero,Act.put,List.setIfInBounds_toArray,List.set_cons_zero,List.set_cons_succ])
  refine wpList_plain rfl (fun K hK=>?_);go_simp;refine hK _ _ ?_;clear hK K;(try simp only [List.getElem_toArray,List.getElem_cons_succ,List.getElem_cons_zero,Act.put,List.setIfInBounds_toArray,List.set_cons_zero,List.set_cons_succ])
  refine wpList_plain rfl (fun K hK=>?_);go_simp;refine hK _ _ ?_;clear hK K;(try simp only [List.getElem_toArray,List.getElem_cons_succ,List.getElem_cons_zero,Act.put,List.setIfInBounds_toArray,List.set_cons_zero,List.set_cons_succ])
  refine wpList_plain rfl (fun K hK=>?_);go_simp;generalize hA:(w2).alloc _=wy;refine hK _ _ ?_;clear hK K;(try simp only [List.getElem_toArray,List.getElem_cons_succ,List.getElem_cons_zero,Act.put,List.setIfInBounds_toArray,List.set_cons_zero,List.set_cons_succ]);refine wpList_store_row rfl 35 _ _ rfl (World.heap w2).size (cmdC c ta tb ts (.slice pa c.sub.parts.length pc)) rfl rfl 35 cmdZ (blkOfAlloc hA) (by kernel_rfl) rfl (cmd_one _ _ _ _ _ (shape_one hta.shape) (shape_one htb.shape) (shape_one hts.shape) rfl) ?_;(try simp only [List.getElem_toArray,List.getElem_cons_succ,List.getElem_cons_zero,Act.put,List.setIfInBounds_toArray,List.set_cons_zero,List.set_cons_succ]);have hbx:=boxOf (cs:=cmdC c ta tb ts (.slice pa c.sub.parts.length pc)) hA;generalize wy.setRow (World.heap w2).size _=w3 at hbx ⊢;clear hA
  refine wpList_plain rfl (fun K hK=>?_);go_simp;refine hK _ _ ?_;clear hK K;(try simp only [List.getElem_toArray,List.getElem_cons_succ,List.getElem_cons_zero,Act.put,List.setIfInBounds_toArray,List.set_cons_zero,List.set_cons_succ])
  refine wpList_plain rfl (fun K hK=>?_);go_simp;refine hK _ _ ?_;clear hK K;(try simp only [List.getElem_toArray,List.getElem_cons_succ,List.getElem_cons_zero,Act.put,List.setIfInBounds_toArray,List.set_cons_zero,List.set_cons_succ])
  refine wpList_plain rfl (fun K hK=>?_);go_simp;refine hK _ _ ?_;clear hK K;(try simp only [List.getElem_toArray,List.getElem_cons_succ,List.getElem_cons_zero,Act.put,List.setIfInBounds_toArray,List.set_cons_zero,List.set_cons_succ])
  refine wpList_nil ?_
  obtain ⟨b3,Q3⟩:=hbx
  have B2:=b1.trans (b2.mono b1.size)
  have B3:=Lib.hid (B2.trans (b3.mono B2.size))
  obtain ⟨g,hg⟩:∃ g,w2.heap.size=g:=⟨_,rfl⟩
  have HPR:=Lib.hid ((prow_own hpr).below b3)
  have HTS:=Lib.hid (tro_up b3 (tro_all hts))
  rw [hg] at Q3 ⊢
  have HQ:=Lib.hid Q3
  have k0:w3.cell? ⟨g,0,none⟩=some (.int .i64 (c.pl:Int)):=(Q3.cell 0).trans rfl
  have k10:w3.cell? ⟨g,10,none⟩=some (.int .u8 (c.name.toNat:Int)):=(Q3.cell 10).trans rfl
  have HTA:=Lib.hid (And.intro hta htb)
  clear b1 b2 b3 B2 hg Q3 hts hpr hta htb
  by_cases hp:c.pl=0
  ·have cp:((c.pl:Int) != 0)=false:=by simp [hp]
   obtain ⟨j,hj⟩:∃ j,n.toNat % 4=j:=⟨_,rfl⟩
   have hj4:j < 4:=by omega
   obtain ⟨hg0,hmath⟩:=guards_math j (fun k d q h=>delim_err h) HR.out hp
   have hnl:=n.toNat_lt
   have hm1:(n.toNat:Int) % 4=(j:Int):=by omega
   have hm2:(n.toNat:Int).tmod 4=(j:Int):=by rw [Int.tmod_eq_emod_of_nonneg (by omega)];omega
   have hm3:IntKind.u8.wrap (j:Int)=(j:Int):=by
    simp [IntKind.wrap,IntKind.bits,IntKind.signed]
    omega
   have HM:=Lib.hid hmath
   have HG0:=Lib.hid hg0
   have HPL:=Lib.hid hp
   clear hmath hg0 hp hj hnl
   go_upto_region 6 with fail
   go_cut [9] (fun s9 wx=>s9=.string (txt (lnT j))∧wx=w3)
   case first=>
    obtain rfl | rfl | rfl | rfl:j=0∨j=1∨j=2∨j=3:=by omega
    ·have hi:=li0 w3
     go_wp2_with fail
     go_meet
     exact ⟨rfl,rfl⟩
    ·have hi:=li1 w3
     go_wp2_with fail
     go_meet
     exact ⟨rfl,rfl⟩
    ·have hi:=li2 w3
     go_wp2_with fail
     go_meet
     exact ⟨rfl,rfl⟩
    ·have hi:=li3 w3
     go_wp2_with fail
     go_meet
     exact ⟨rfl,rfl⟩
   case rest=>
    obtain ⟨rfl,hwc⟩:=hcut
    subst hwc
    clear hm1 hm2 hm3 hj4 k0 cp
    have hll:=lnT_le j
    obtain ⟨LN,hLN⟩:∃ LN,txt (lnT j)=LN:=⟨_,rfl⟩
    have hLs:LN.size=(lnT j).length:=by rw [←hLN,txt_size]
    have hLl:LN.data.toList=lnT j:=by rw [←hLN];rfl
    rw [hLN]
    have hSz:(LN++s).size≤4000:=by rw [ByteArray.size_append];omega
    have hSl:(LN++s).data.toList=lnT j++s.data.toList:=by simp only [ByteArray.data_append,Array.toList_append,hLl]
    have hC1:=kparse_0 false (LN++s) wc hSz (HG.out.up B3.out) (HP.out.up B3.out)
    rw [hSl] at hC1
    have hLi:LN.size≤2:=by omega
    obtain ⟨m,hm⟩:∃ m,(lnT j).length=m:=⟨_,rfl⟩
    have hmi:(LN.size:Int)=(m:Int):=by omega
    have HMM:=Lib.hid hm
    clear hSz hSl hLl hLN hLs hll
    go_upto_region 7 with fail
    refine wp_region_list ?_
    refine wpList_plain rfl (fun K hK=>?_);go_simp;refine hK _ _ ?_;clear hK K;(try simp only [List.getElem_toArray,List.getElem_cons_succ,List.getElem_cons_zero,Act.put,List.setIfInBounds_toArray,List.set_cons_zero,List.set_cons_succ])
    refine wpList_plain rfl (fun K hK=>?_);go_simp;refine hK _ _ ?_;clear hK K;(try simp only [List.getElem_toArray,List.getElem_cons_succ,List.getElem_cons_zero,Act.put,List.setIfInBounds_toArray,List.set_cons_zero,List.set_cons_succ])
    refine wpList_plain rfl (fun K hK=>?_);go_simp;rw [if_neg (by first | omega | (simp only [ByteArray.size_append];omega) | (simp;omega))];go_simp;refine hK _ _ ?_;clear hK K;(try simp only [List.getElem_toArray,List.getElem_cons_succ,List.getElem_cons_zero,Act.put,List.setIfInBounds_toArray,List.set_cons_zero,List.set_cons_succ])
    by_cases hnm:c.name=58∨c.name=125
    ·have hM:=HM.out
     rw [if_pos hnm] at hM
     rw [hM,HMM.out] at hC1
     simp only [CmdA] at hC1
     clear hM
     refine wpList_plain rfl (fun K hK=>?_);go_simp;go_at_call 7;refine hC1.mono ?_;clear hC1;rintro e w4 ⟨b4,rfl⟩;refine hK _ _ ?_;clear hK K;(try simp only [List.getElem_toArray,List.getElem_cons_succ,List.getElem_cons_zero,Act.put,List.setIfInBounds_toArray,List.set_cons_zero,List.set_cons_succ])
     refine wpList_plain rfl (fun K hK=>?_);go_simp;refine hK _ _ ?_;clear hK K;(try simp only [List.getElem_toArray,List.getElem_cons_succ,List.getElem_cons_zero,Act.put,List.setIfInBounds_toArray,List.set_cons_zero,List.set_cons_succ])
     refine wpList_plain rfl (fun K hK=>?_);go_simp;refine hK _ _ ?_;clear hK K;(try simp only [List.getElem_toArray,List.getElem_cons_succ,List.getElem_cons_zero,Act.put,List.setIfInBounds_toArray,List.set_cons_zero,List.set_cons_succ])
     refine wpList_plain rfl (fun K hK=>?_);go_simp;refine hK _ _ ?_;clear hK K;(try simp only [List.getElem_toArray,List.getElem_cons_succ,List.getElem_cons_zero,Act.put,List.setIfInBounds_toArray,List.set_cons_zero,List.set_cons_succ])
     refine wpList_plain rfl (fun K hK=>?_);go_simp;refine hK _ _ ?_;clear hK K;(try simp only [List.getElem_toArray,List.getElem_cons_succ,List.getElem_cons_zero,Act.put,List.setIfInBounds_toArray,List.set_cons_zero,List.set_cons_succ])
     refine wpList_plain rfl (fun K hK=>?_);go_simp;refine hK _ _ ?_;clear hK K;(try simp only [List.getElem_toArray,List.getElem_cons_succ,List.getElem_cons_zero,Act.put,List.setIfInBounds_toArray,List.set_cons_zero,List.set_cons_succ])
     refine wpList_plain rfl (fun K hK=>?_);go_simp;generalize hA:(w4).alloc _=wy;refine hK _ _ ?_;clear hK K;(try simp only [List.getElem_toArray,List.getElem_cons_succ,List.getElem_cons_zero,Act.put,List.setIfInBounds_toArray,List.set_cons_zero,List.set_cons_succ]);refine wpList_store_row rfl 35 _ _ rfl (World.heap w4).size (cmdZ) rfl rfl 35 cmdZ (blkOfAlloc hA) (by kernel_rfl) rfl ((by kernel_rfl)) ?_;(try simp only [List.getElem_toArray,List.getElem_cons_succ,List.getElem_cons_zero,Act.put,List.setIfInBounds_toArray,List.set_cons_zero,List.set_cons_succ]);have hbx:=boxOf (cs:=cmdZ) hA;generalize wy.setRow (World.heap w4).size _=w5 at hbx ⊢;clear hA
     refine wpList_plain rfl (fun K hK=>?_);go_simp;refine hK _ _ ?_;clear hK K;(try simp only [List.getElem_toArray,List.getElem_cons_succ,List.getElem_cons_zero,Act.put,List.setIfInBounds_toArray,List.set_cons_zero,List.set_cons_succ])
     refine wpList_plain rfl (fun K hK=>?_);go_simp;refine hK _ _ ?_;clear hK K;(try simp only [List.getElem_toArray,List.getElem_cons_succ,List.getElem_cons_zero,Act.put,List.setIfInBounds_toArray,List.set_cons_zero,List.set_cons_succ])
     refine wpList_plain rfl (fun K hK=>?_);go_simp;refine hK _ _ ?_;clear hK K;(try simp only [List.getElem_toArray,List.getElem_cons_succ,List.getElem_cons_zero,Act.put,List.setIfInBounds_toArray,List.set_cons_zero,List.set_cons_succ])
     refine wpList_nil ?_
     obtain ⟨b5,Q5⟩:=hbx
     have B4:=B3.out.trans (b4.mono B3.out.size)
     have B5:=Lib.hid (B4.trans (b5.mono B4.size))
     have j10:=((HQ.out.below b4 HQ.out.lt).below b5 (HQ.out.below b4 HQ.out.lt).lt).cell 10
     replace j10:w5.cell? ⟨g,10,none⟩=some (.int .u8 (c.name.toNat:Int)):=j10.trans rfl
     clear b4 b5 B4 Q5 k10
     rcases hnm with hnm | hnm
     ·have q58:((c.name.toNat:Int) == 58)=true:=by rw [hnm];rfl
      clear hnm
      go_wp2_with fail
      go_ret
      exact ⟨rfl,B5.out⟩
     ·have q58:((c.name.toNat:Int) == 58)=false:=by rw [hnm];rfl
      have q125:((c.name.toNat:Int) == 125)=true:=by rw [hnm];rfl
      clear hnm
      go_wp2_with fail
      go_ret
      exact ⟨rfl,B5.out⟩
    ·have hM:=HM.out
     rw [if_neg hnm] at hM
     obtain ⟨d,ms',k',hd,hdp,hdn,hda,hds,hdt,hdg⟩:=hM
     rw [hd] at hC1
     obtain ⟨dp,dg,dn,da,ds,dt⟩:=d
     simp only at hdp hdn hda hds hdt hdg
     rw [HMM.out] at hdp
     subst hdp hdn hda hds hdt hdg
     simp only [CmdA] at hC1
     have q58:((c.name.toNat:Int) == 58)=false:=cmu_ne (c:=58) fun e=>hnm (.inl e)
     have q125:((c.name.toNat:Int) == 125)=false:=cmu_ne (c:=125) fun e=>hnm (.inr e)
     clear hnm hd
     refine wpList_plain rfl (fun K hK=>?_);go_simp;go_at_call 7;refine hC1.mono ?_;clear hC1;rintro e w4 ⟨b4,ua,ub,us,qa,qc,na,nc,rfl,hua,hub,hus,hqr⟩;refine hK _ _ ?_;clear hK K;(try simp only [List.getElem_toArray,List.getElem_cons_succ,List.getElem_cons_zero,Act.put,List.setIfInBounds_toArray,List.set_cons_zero,List.set_cons_succ])
     refine wpList_plain rfl (fun K hK=>?_);go_simp;refine hK _ _ ?_;clear hK K;(try simp only [List.getElem_toArray,List.getElem_cons_succ,List.getElem_cons_zero,Act.put,List.setIfInBounds_toArray,List.set_cons_zero,List.set_cons_succ])
     refine wpList_plain rfl (fun K hK=>?_);go_simp;refine hK _ _ ?_;clear hK K;(try simp only [List.getElem_toArray,List.getElem_cons_succ,List.getElem_cons_zero,Act.put,List.setIfInBounds_toArray,List.set_cons_zero,List.set_cons_succ])
     refine wpList_plain rfl (fun K hK=>?_);go_simp;refine hK _ _ ?_;clear hK K;(try simp only [List.getElem_toArray,List.getElem_cons_succ,List.getElem_cons_zero,Act.put,List.setIfInBounds_toArray,List.set_cons_zero,List.set_cons_succ])
     refine wpList_plain rfl (fun K hK=>?_);go_simp;refine hK _ _ ?_;clear hK K;(try simp only [List.getElem_toArray,List.getElem_cons_succ,List.getElem_cons_zero,Act.put,List.setIfInBounds_toArray,List.set_cons_zero,List.set_cons_succ])
     refine wpList_plain rfl (fun K hK=>?_);go_simp;refine hK _ _ ?_;clear hK K;(try simp only [List.getElem_toArray,List.getElem_cons_succ,List.getElem_cons_zero,Act.put,List.setIfInBounds_toArray,List.set_cons_zero,List.set_cons_succ])
     refine wpList_plain rfl (fun K hK=>?_);go_simp;generalize hA:(w4).alloc _=wy;refine hK _ _ ?_;clear hK K;(try simp only [List.getElem_toArray,List.getElem_cons_succ,List.getElem_cons_zero,Act.put,List.setIfInBounds_toArray,List.set_cons_zero,List.set_cons_succ]);refine wpList_store_row rfl 35 _ _ rfl (World.heap w4).size (cmdC ⟨dp,⟨lnA j,adNone,false⟩,c.name,c.arg,c.sub,c.table⟩ ua ub us (.slice qa c.sub.parts.length qc)) rfl rfl 35 cmdZ (blkOfAlloc hA) (by kernel_rfl) rfl (cmd_one _ _ _ _ _ (shape_one hua.shape) (shape_one hub.shape) (shape_one hus.shape) rfl) ?_;(try simp only [List.getElem_toArray,List.getElem_cons_succ,List.getElem_cons_zero,Act.put,List.setIfInBounds_toArray,List.set_cons_zero,List.set_cons_succ]);have hbx:=boxOf (cs:=cmdC ⟨dp,⟨lnA j,adNone,false⟩,c.name,c.arg,c.sub,c.table⟩ ua ub us (.slice qa c.sub.parts.length qc)) hA;generalize wy.setRow (World.heap w4).size _=w5 at hbx ⊢;clear hA
     refine wpList_plain rfl (fun K hK=>?_);go_simp;refine hK _ _ ?_;clear hK K;(try simp only [List.getElem_toArray,List.getElem_cons_succ,List.getElem_cons_zero,Act.put,List.setIfInBounds_toArray,List.set_cons_zero,List.set_cons_succ])
     refine wpList_plain rfl (fun K hK=>?_);go_simp;refine hK _ _ ?_;clear hK K;(try simp only [List.getElem_toArray,List.getElem_cons_succ,List.getElem_cons_zero,Act.put,List.setIfInBounds_toArray,List.set_cons_zero,List.set_cons_succ])
     refine wpList_plain rfl (fun K hK=>?_);go_simp;refine hK _ _ ?_;clear hK K;(try simp only [List.getElem_toArray,List.getElem_cons_succ,List.getElem_cons_zero,Act.put,List.setIfInBounds_toArray,List.set_cons_zero,List.set_cons_succ])
     refine wpList_nil ?_
     obtain ⟨b5,Q5⟩:=hbx
     have B4:=B3.out.trans (b4.mono B3.out.size)
     have B5:=Lib.hid (B4.trans (b5.mono B4.size))
     have hgw:=HQ.out.lt
     have hqs:=(HQ.out.below b4 hgw).below b5 (HQ.out.below b4 hgw).lt
     obtain ⟨h,hh⟩:∃ h,w4.heap.size=h:=⟨_,rfl⟩
     have hgh:g≠h:=by have:=b4.size;omega
     have hwh:w.heap.size≤h:=by have:=B4.size;omega
     rw [hh] at Q5 ⊢
     have HX:=Lib.hid hqs
     have HY:=Lib.hid Q5
     have e1:ta=.nilIface:=by have h9:=HTA.out.1;rw [HG0.out] at h9;exact h9
     have e2:tb=.nilIface:=by have h9:=HTA.out.2;rw [HG0.out] at h9;exact h9
     have e3:ua=.nilIface:=by have h9:=hua;simp only [lnA_tree] at h9;exact h9
     have e4:ub=.nilIface:=hub
     obtain ⟨w6,hw6⟩:∃ w6,w5.setCells h 1 (gdC c.g .nilIface .nilIface).toList=w6:=⟨_,rfl⟩
     have b6:Below w4.heap.size w4 w6:=by rw [←hw6];exact below_setCells' (Nat.le_of_eq hh) _ 1 b5
     have B6:=Lib.hid (B4.trans (b6.mono B4.size))
     have HTS6:=Lib.hid (tro_up b6 (tro_up b4 HTS.out))
     have HUS6:=Lib.hid (tro_up b6 (tro_all hus))
     have HPA:=Lib.hid ((HPR.out.below b4).below b6)
     have HPB:=Lib.hid ((prow_own hqr).below b6)
     have HX6:=Lib.hid ((HQ.out.below b4 hgw).below b6 (HQ.out.below b4 hgw).lt)
     have j10:w5.cell? ⟨g,10,none⟩=some (.int .u8 (c.name.toNat:Int)):=(HX.out.cell 10).trans rfl
     have y0:w5.cell? ⟨h,0,none⟩=some (.int .i64 (dp:Int)):=(HY.out.cell 0).trans rfl
     have y10:w5.cell? ⟨h,10,none⟩=some (.int .u8 (c.name.toNat:Int)):=(HY.out.cell 10).trans rfl
     have HR5:=Lib.hid (cm_fine HR.out)
     clear b4 b5 b6 B4 Q5 k10 hqs hh hgw hgh hwh hqr hua hub hus
     subst e1 e2 e3 e4
     have HY6:=Lib.hid (show Blk w6 h (cmdC { c with pl:=dp } .nilIface .nilIface us (.slice qa c.sub.parts.length qc)) 35 by rw [←hw6,←cmd_put];exact blk_setCells _ 1 HY.out)
     have HW6:=Lib.hid hw6
     clear hw6
     go_upto_region 12 with fail
     refine wp_region_list ?_
     refine wpList_plain rfl (fun K hK=>?_);go_simp;refine hK _ _ ?_;clear hK K;(try simp only [List.getElem_toArray,List.getElem_cons_succ,List.getElem_cons_zero,Act.put,List.setIfInBounds_toArray,List.set_cons_zero,List.set_cons_succ])
     refine wpList_load_mid rfl 30 _ rfl g 1 rfl (gdC c.g .nilIface .nilIface).toList _ (blk_range HX.out 1 _ (cmd_range c _ _ _ _)) Tryz.underlying30 rfl (by kernel_rfl) ?_
     (try simp only [List.getElem_toArray,List.getElem_cons_succ,List.getElem_cons_zero,Act.put,List.setIfInBounds_toArray,List.set_cons_zero,List.set_cons_succ])
     refine wpList_plain rfl (fun K hK=>?_);go_simp;refine hK _ _ ?_;clear hK K;(try simp only [List.getElem_toArray,List.getElem_cons_succ,List.getElem_cons_zero,Act.put,List.setIfInBounds_toArray,List.set_cons_zero,List.set_cons_succ])
     refine wpList_store_mid rfl 30 _ _ rfl h 1 (gdC c.g .nilIface .nilIface) rfl rfl (blk_there HY.out 1 9 (by show 1+9≤20;omega)) (by kernel_rfl) (gd_one c.g) ?_
     (try simp only [List.getElem_toArray,List.getElem_cons_succ,List.getElem_cons_zero,Act.put,List.setIfInBounds_toArray,List.set_cons_zero,List.set_cons_succ])
     rw [HW6.out]
     refine wpList_nil ?_
     go_upto_region 13 with fail
     refine wp_region_list ?_
     refine wpList_load_row rfl 35 _ rfl g rfl 35 (cmdC c .nilIface .nilIface ts (.slice pa c.sub.parts.length pc)) _ _ HX6.out Tryz.underlying35 rfl (by kernel_rfl) ?_
     (try simp only [List.getElem_toArray,List.getElem_cons_succ,List.getElem_cons_zero,Act.put,List.setIfInBounds_toArray,List.set_cons_zero,List.set_cons_succ])
     refine wpList_load_row rfl 35 _ rfl h rfl 35 (cmdC { c with pl:=dp } .nilIface .nilIface us (.slice qa c.sub.parts.length qc)) _ _ HY6.out Tryz.underlying35 rfl (by kernel_rfl) ?_
     (try simp only [List.getElem_toArray,List.getElem_cons_succ,List.getElem_cons_zero,Act.put,List.setIfInBounds_toArray,List.set_cons_zero,List.set_cons_succ])
     have hC2:=same_any c dp ts us pa qa pc qc w6 (by rw [HG0.out];rfl) (by rw [HG0.out];rfl) (by rw [HG0.out];decide) (by rw [HG0.out];decide) HTS6.out HUS6.out HR5.out HPA.out HPB.out
     refine wpList_plain rfl (fun K hK=>?_)
     go_simp
     go_at_call 9
     refine hC2.mono ?_
     clear hC2
     rintro e w7 ⟨rfl,b7⟩
     refine hK _ _ ?_
     clear hK K
     (try simp only [List.getElem_toArray,List.getElem_cons_succ,List.getElem_cons_zero,Act.put,List.setIfInBounds_toArray,List.set_cons_zero,List.set_cons_succ])
     refine wpList_plain rfl (fun K hK=>?_);go_simp;refine hK _ _ ?_;clear hK K;(try simp only [List.getElem_toArray,List.getElem_cons_succ,List.getElem_cons_zero,Act.put,List.setIfInBounds_toArray,List.set_cons_zero,List.set_cons_succ])
     refine wpList_nil ?_
     have B7:=Lib.hid (B6.out.trans (b7.mono B6.out.size))
     go_wp2_with fail
     go_ret
     exact ⟨rfl,B7.out⟩
  ·have cp:((c.pl:Int) != 0)=true:=by simpa using hp
   clear hp
   go_wp2_with fail
   go_ret
   exact ⟨rfl,B3.out⟩
end Go.Proofs.YtbgfankoojjejaaGreatDoor
namespace Go.Proofs.YtbgfankoojjejaaGreatDoor
open Go.ChangeShapes Go.WideShapes Go.ChangeAt Go.RowKit
theorem gTab : Tryz.prog.globalNamed "math/bits.deBruijn64tab" = some 5 := by kernel_rfl
theorem gTabType:(Tryz.prog.globals[5]?).map (·.type)=some 256:=by kernel_rfl
theorem cellsTab:Tryz.prog.cellsOf 256=64:=by kernel_rfl
theorem cellsU8:Tryz.prog.cellsOf 5=1:=by kernel_rfl
theorem gOpn : Tryz.prog.globalNamed "placket/bracket.openers" = some 4 := by kernel_rfl
theorem gOpnType:(Tryz.prog.globals[4]?).map (·.type)=some 248:=by kernel_rfl
theorem cellsOpn:Tryz.prog.cellsOf 248=3:=by kernel_rfl
theorem gAhd : Tryz.prog.globalNamed "placket/piece.ahead" = some 0 := by kernel_rfl
theorem gAhdType:(Tryz.prog.globals[0]?).map (·.type)=some 197:=by kernel_rfl
theorem cellsAhd:Tryz.prog.cellsOf 197=2:=by kernel_rfl
theorem block_of_cell {W:World} (b:Nat) (v:Value) (hv:W.cell? ⟨b,0,none⟩=some v):b < W.heap.size:=by
 cases hh:W.heap[b]? with
 | none=>simp [World.cell?,hh] at hv
 | some o=>exact (Array.getElem?_eq_some_iff.1 hh).1
theorem g12_of {W : World} (h : laidMetH Tryz.prog [("math/bits.deBruijn64tab", Rows.laid_math_bits_deBruijn64tab), ("unicode/utf8.acceptRanges", Rows.laid_unicode_utf8_acceptRanges), ("placket/bracket.openers", Rows.laid_placket_bracket_openers), ("placket/piece.ahead", Rows.laid_placket_piece_ahead), ("unicode/utf8.first", Rows.laid_unicode_utf8_first)] W) (hsh : W.ShapedOpen Tryz.prog) : Gl W ∧ GP W := by
 have h0 : laidMet Tryz.prog [("math/bits.deBruijn64tab", Rows.laid_math_bits_deBruijn64tab), ("unicode/utf8.acceptRanges", Rows.laid_unicode_utf8_acceptRanges), ("placket/bracket.openers", Rows.laid_placket_bracket_openers), ("placket/piece.ahead", Rows.laid_placket_piece_ahead), ("unicode/utf8.first", Rows.laid_unicode_utf8_first)] W := h
 have h2:=laidMet.tail (laidMet.tail h0)
 have hT : Lib.TabIs Tryz.prog W "math/bits.deBruijn64tab" .u8 (Lib.deBruijn64tab.map Int.ofNat) :=
  Lib.tabIs_of_head gTab gTabType Tryz.underlying256 Tryz.underlying5 cellsU8 cellsTab h0
 have hO : Lib.TabIs Tryz.prog W "placket/bracket.openers" .u8 [58, 61, 46] :=
  Lib.tabIs_of_head gOpn gOpnType Tryz.underlying248 Tryz.underlying5 cellsU8 cellsOpn h2
 have hH : Lib.TabIs Tryz.prog W "placket/piece.ahead" .u8 [94, 93] :=
  Lib.tabIs_of_head gAhd gAhdType Tryz.underlying197 Tryz.underlying5 cellsU8 cellsAhd (laidMet.tail h2)
 obtain ⟨m,hm⟩:∃ m,W.cell? ⟨1,0,none⟩=some (.int .i64 m):=
  cell_of_shapedOpen_int (t:=3) (zero:=#[.int .i64 0]) hsh (of_decide_eq_true (by kernel_rfl)) (by kernel_rfl) rfl (by kernel_rfl) (by kernel_rfl) Tryz.underlying3
 refine ⟨⟨fun j hj=>?_,hO.cell gOpn 0 (by decide),hO.cell gOpn 1 (by decide),hO.cell gOpn 2 (by decide),⟨m,hm⟩,?_⟩,hH.cell gAhd 0 (by decide),hH.cell gAhd 1 (by decide),block_of_cell _ _ (hH.cell gAhd 0 (by decide))⟩
 ·rw [hT.cell gTab j (by rw [List.length_map];exact hj)]
  simp only [List.getD,List.getElem?_map]
  rw [List.getElem?_eq_getElem hj]
  rfl
 ·exact Nat.max_lt.2 ⟨Nat.max_lt.2 ⟨block_of_cell _ _ (hT.cell gTab 0 (by decide)),block_of_cell _ _ (hO.cell gOpn 0 (by decide))⟩,block_of_cell _ _ hm⟩
def layCells (cs:Array Value):Obj→Obj
 | .cells _ t frozen=>.cells cs t frozen
 | o=>o
noncomputable def laidWorld (os:Os):World:=
 { World.holding Tryz.prog os ⟨#[],#[],[]⟩ with heap:=(((((World.holding Tryz.prog os ⟨#[],#[],[]⟩).heap.modify 5 (layCells (Lib.deBruijn64tab.map fun n=>Value.int .u8 (Int.ofNat n)).toArray)).modify 4 (layCells #[.int .u8 58,.int .u8 61,.int .u8 46])).modify 0 (layCells #[.int .u8 94,.int .u8 93])).modify 3 (layCells (([128,191,160,191,128,159,144,191,128,143,0,0,0,0,0,0,0,0,0,0,0,0,0,0,0,0,0,0,0,0,0,0]:List Nat).map fun n=>Value.int .u8 (Int.ofNat n)).toArray)).modify 2 (layCells (Go.Pinned.utf8FirstZ.map fun n=>Value.int .u8 (Int.ofNat n)).toArray) }
end Go.Proofs.YtbgfankoojjejaaGreatDoor
