/- The proof's texts CmWo, CmLa, CmEq: what the claim reaches of them. -/
import Derived.Test.YtbgfankoojjejaaGreatDoorGd36
import Derived.Test.YtbgfankoojjejaaGreatDoorGd34
import Derived.Laws.Rows
import Derived.Deep.MidRow
import Derived.Laws.Tables
import Derived.Laws.CopyOwn
import Derived.BigQuiet
set_option linter.unusedSimpArgs false
set_option linter.unusedVariables false
set_option maxHeartbeats 8000000
set_option maxRecDepth 1000000
namespace Go.Proofs.YtbgfankoojjejaaGreatDoor
open Go Go.RowKit
theorem gdM_le {ext:Bool} {k:Nat} {q:Grd × List Wm × Nat} (s:ByteArray) (hk:k≤s.size) (h:gdM ext s.data.toList k=.ok q):q.2.2≤s.size∧q.2.1.length≤600:=by
 have hnk:∀ {j:Nat} {r:Bool × Nat},j≤s.size→adNot s.data.toList j=.ok r→r.2≤s.size:=fun {j r} hj h=>by
  have h1:=blk_le s j hj
  unfold adNot at h
  split at h
  ·rename_i hh
   have h2:=head_lt hh
   have h3:=blk_le s (pcBlk s.data.toList j+1) (by omega)
   split at h
   ·cases h
   ·injection h with h;subst h;exact h3
  ·injection h with h;subst h;exact h1
 unfold gdM at h
 cases h1:adM ext false s.data.toList k with
 | error q=>rw [h1] at h;cases h
 | ok r=>
  rw [h1] at h
  obtain ⟨f1,g1⟩:=adM_le s hk h1
  unfold adTwo at h
  simp only at h
  split at h
  ·unfold gdOf gdEnd at h
   simp only at h
   split at h
   ·cases h
   ·rename_i h5
    injection h with h
    subst h
    exact ⟨hnk f1 h5,by show r.2.1.length≤_;omega⟩
  ·cases h2:adSec ext s.data.toList r.2.2 with
   | error q=>rw [h2] at h;cases h
   | ok r2=>
    rw [h2] at h
    have hj:r2.2.2≤s.size∧r2.2.1.length≤251:=by
     have hb:=blk_le s r.2.2 f1
     unfold adSec at h2
     split at h2
     ·rename_i hh
      have hlt:=head_lt hh
      have hb2:=blk_le s (pcBlk s.data.toList r.2.2+1) (by omega)
      unfold adSecOf at h2
      split at h2
      ·cases h2
      ·rename_i h3
       split at h2
       ·cases h2
       ·injection h2 with h2
        subst h2
        exact adM_le s hb2 h3
     ·injection h2 with h2
      subst h2
      exact ⟨f1,by simp⟩
    unfold adJoin gdOf gdEnd at h
    simp only at h
    split at h
    ·cases h
    ·rename_i h5
     injection h with h
     subst h
     exact ⟨hnk hj.1 h5,by show (r.2.1++r2.2.1).length≤_;rw [List.length_append];omega⟩
abbrev cmdC (c:Cmd) (ta tb ts pv:Value):Array Value:=
 #[.int .i64 (c.pl:Int),.int .i64 (c.g.a.kind:Int),.int .i64 (c.g.a.line:Int),.string (txt c.g.a.text),ta,.int .i64 (c.g.b.kind:Int),.int .i64 (c.g.b.line:Int),.string (txt c.g.b.text),tb,.bool c.g.no,.int .u8 c.name.toNat,.string (txt c.arg),.string (txt c.sub.text),ts,pv,.int .i64 (c.sub.nth:Int),.bool c.sub.all,.bool c.sub.prt,.string (txt c.sub.file),.string (txt c.table)]
abbrev cmdZ:Array Value:=
 #[.int .i64 0,.int .i64 0,.int .i64 0,.string ⟨#[]⟩,.nilIface,.int .i64 0,.int .i64 0,.string ⟨#[]⟩,.nilIface,.bool false,.int .u8 0,.string ⟨#[]⟩,.string ⟨#[]⟩,.nilIface,.slice none 0 0,.int .i64 0,.bool false,.bool false,.string ⟨#[]⟩,.string ⟨#[]⟩]
def CmdA (w:World) (r:AdRd Cmd) (e:Ending) (w':World):Prop:=Below w.heap.size w w'∧match r with
 | .error q=>e=.returned (.tuple #[.agg cmdZ,.slice none 0 0,.int .i64 (q.2:Int),.int .i64 (q.1:Int)])
 | .ok q=>∃ ta tb ts pa pc ma mc,e=.returned (.tuple #[.agg (cmdC q.1 ta tb ts (.slice pa q.1.sub.parts.length pc)),.slice ma q.2.1.length mc,.int .i64 (q.2.2:Int),.int .i64 0])∧
  TrO (fun b=>w.heap.size≤b) w' q.1.g.a.tree ta∧TrO (fun b=>w.heap.size≤b) w' q.1.g.b.tree tb∧TrO (fun b=>w.heap.size≤b) w' q.1.sub.tree ts∧
  w'.ownsRow w.heap.size 43 2 (.slice pa q.1.sub.parts.length pc) q.1.sub.parts.length (cpC q.1.sub.parts)
theorem CmSt.fin {w W:World} {p:Nat} {s:ByteArray} {ext:Bool} {st:CS} {ta tb ts:Value} {pa:Option Addr} {pc:Nat} {ma:Option Addr} {mc:Nat} {w5 W9:World} (h:CmSt W p s ext st ta tb ts pa pc ma mc w5) (hw:w.heap.size < W.heap.size) (hb:Below w.heap.size w W9) (hs:∀ b,b≠w.heap.size→W9.heap[b]?=w5.heap[b]?) (hz:W9.heap.size=w5.heap.size) :
  CmdA w (.ok (st.c,st.ms,st.k)) (.returned (.tuple #[.agg (cmdC st.c ta tb ts (.slice pa st.c.sub.parts.length pc)),.slice ma st.ms.length mc,.int .i64 (st.k:Int),.int .i64 0])) W9:=by
 have hk:∀ {t v},TrO (fun b=>W.heap.size≤b∧b≠p∧(Value.slice ma st.ms.length mc).ownBlock≠some b) w5 t v→TrO (fun b=>w.heap.size≤b) W9 t v:=fun hk=>TrO.keep (by omega) (fun b hb _=>⟨by have:=hb.1;omega,fun o=>World.cell?_of_block (w:=w5) (a:=⟨b,o,none⟩) (hs b (by have:=hb.1;omega))⟩) hk
 exact ⟨hb,ta,tb,ts,pa,pc,ma,mc,rfl,hk h.ha,hk h.hb,hk h.hs,own_less (Nat.le_of_lt hw) (own_row_same h.pr fun b e=>hs b (by have:=own_of h.pr b e;omega))⟩
theorem parse_res {tmps:Array Value} {W:World} {r:Nat} {cs:Array Value} {v7 v8 v9:Value} (h6:tmps.getD 6 undef=.pointer (some ⟨r,0,none⟩)) (h7:tmps.getD 7 undef=v7) (h8:tmps.getD 8 undef=v8) (h9:tmps.getD 9 undef=v9) (hl:(loadVar 35 ⟨r,0,none⟩).run Tryz.prog W=.ok (.agg cs) W) :
  (results Tryz.f7 tmps).run Tryz.prog W=.ok (.tuple #[.agg cs,v7,v8,v9]) W:=by
 have ha:(asAddr (.pointer (some ⟨r,0,none⟩))).run Tryz.prog W=.ok ⟨r,0,none⟩ W:=rfl
 simp only [Array.getD_eq_getD_getElem?] at h6 h7 h8 h9
 unfold results
 rw [Tryz.results7]
 simp [Sem.run_bind,h6,h7,h8,h9,hl,ha]
theorem crun_load_sub {P:Program} {op:Oper} {a:Act} {W:World} (ty:TypeId) (x:Operand) (ho:op.op=.load ty x) (g o n:Nat) (hx:a.eval x=.pointer (some ⟨g,o,none⟩)) {cs:Array Value} {T:TypeId} (h:Blk W g cs T) {fs:_} (hu:P.underlying ty=some (.struct fs)) (hi:(P.info? ty).map (·.size)=some ((cs.toList.drop o).take n).length) :
  Sem.run P (execOp a.eval op) W=.ok (.value (.agg ((cs.toList.drop o).take n).toArray)) W:=by
 have hc:W.rangeAt g o ((cs.toList.drop o).take n):=fun j v hj=>by
  rw [List.getElem?_take] at hj
  split at hj
  ·rw [List.getElem?_drop] at hj
   rw [h.cell (o+j),←Array.getElem?_toList]
   exact hj
  ·cases hj
 unfold execOp
 simp only [ho,hx,Instr.loadAt,Instr.sureAddr,Sem.run_bind,Sem.run_pure,Result.andThen_ok,run_loadVar_mid W g o ty _ (.struct fs) hc hu rfl hi]
abbrev gdC (g:Grd) (ta tb:Value):Array Value:=#[.int .i64 (g.a.kind:Int),.int .i64 (g.a.line:Int),.string (txt g.a.text),ta,.int .i64 (g.b.kind:Int),.int .i64 (g.b.line:Int),.string (txt g.b.text),tb,.bool g.no]
structure GxS (W:World) (gx:Nat) (g:Grd) (ms:List Wm) (ta tb:Value) (ma:Option Addr) (mc:Nat) (wx:World):Prop where
 b:Below W.heap.size W wx
 q:Blk wx gx (gdC g ta tb) 30
 ha:TrO (fun b=>W.heap.size≤b∧b < wx.heap.size∧(Value.slice ma ms.length mc).ownBlock≠some b) wx g.a.tree ta
 hb:TrO (fun b=>W.heap.size≤b∧b < wx.heap.size∧(Value.slice ma ms.length mc).ownBlock≠some b) wx g.b.tree tb
 r:wx.ownsRow W.heap.size 77 2 (.slice ma ms.length mc) ms.length (wmC ms)
theorem GxS.mk' {W w1 w2:World} {g:Grd} {ms:List Wm} {ta tb:Value} {ma:Option Addr} {mc:Nat} (b1:Below W.heap.size W w1) (ha:TrO (fun b=>W.heap.size < b∧(Value.slice ma ms.length mc).ownBlock≠some b) w1 g.a.tree ta) (hb:TrO (fun b=>W.heap.size < b∧(Value.slice ma ms.length mc).ownBlock≠some b) w1 g.b.tree tb) (hr:w1.ownsRow (W.heap.size+1) 77 2 (.slice ma ms.length mc) ms.length (wmC ms)) (hW:w1.alloc (.cells (gdC g ta tb) 30)=w2):GxS W w1.heap.size g ms ta tb ma mc w2:=by
 have b2:=belowOfAlloc hW
 have hs:=b2.size
 have hk:∀ {t v},TrO (fun b=>W.heap.size < b∧(Value.slice ma ms.length mc).ownBlock≠some b) w1 t v→TrO (fun b=>W.heap.size≤b∧b < w2.heap.size∧(Value.slice ma ms.length mc).ownBlock≠some b) w2 t v:=fun h=>TrO.keep hs (fun b h1 hl=>⟨⟨Nat.le_of_lt h1.1,Nat.lt_of_lt_of_le hl hs,h1.2⟩,fun o=>b2.cell (p:=⟨b,o,none⟩) hl⟩) h
 exact ⟨b1.trans (b2.mono b1.size),blkOfAlloc hW,hk ha,hk hb,nd_own_below (own_less (Nat.le_succ _) hr) b2⟩
theorem cmC_one (s:ByteArray) (ext:Bool) (st:CS) (ta tb ts pv mv:Value) (h1:ta.oneCell'=true) (h2:tb.oneCell'=true) (h3:ts.oneCell'=true) (h4:pv.oneCell'=true) (h5:mv.oneCell'=true):(cmC s ext st ta tb ts pv mv).all (·.oneCell')=true:=by
 unfold cmC
 simp only [List.all_toArray,List.all_cons,List.all_nil,h1,h2,h3,h4,h5]
 rfl
theorem cmd_one (c:Cmd) (ta tb ts pv:Value) (h1:ta.oneCell'=true) (h2:tb.oneCell'=true) (h3:ts.oneCell'=true) (h4:pv.oneCell'=true):(cmdC c ta tb ts pv).all (·.oneCell')=true:=by
 simp only [List.all_toArray,List.all_cons,List.all_nil,h1,h2,h3,h4]
 rfl
theorem shape_one {v:Value} (h:(∃ T q,v=.iface T q)∨v=.nilIface):v.oneCell'=true:=by
 rcases h with ⟨T,q,rfl⟩ | rfl <;> rfl
theorem GxS.reader {W:World} {gx:Nat} {g:Grd} {ms:List Wm} {ta tb:Value} {ma:Option Addr} {mc:Nat} {wx wy:World} (h:GxS W gx g ms ta tb ma mc wx) (s:ByteArray) (ext:Bool) (k:Nat) {z:Array Value} (hy:wx.alloc (.cells z 51)=wy) :
  CmSt W wx.heap.size s ext (cmNew g ms k) ta tb .nilIface none 0 ma mc (wy.setRow wx.heap.size (cmC s ext (cmNew g ms k) ta tb .nilIface (.slice none 0 0) (.slice ma ms.length mc))):=by
 have b2:=belowOfAlloc hy
 have q2:=blkOfAlloc hy
 have hs:=b2.size
 have hbs:=h.b.size
 have o1:∀ b,b≠wx.heap.size→(wy.setRow wx.heap.size (cmC s ext (cmNew g ms k) ta tb .nilIface (.slice none 0 0) (.slice ma ms.length mc))).heap[b]?=wy.heap[b]?:=fun b hb=>setRow_other wy _ b _ hb
 have hk:∀ {t v},TrO (fun b=>W.heap.size≤b∧b < wx.heap.size∧(Value.slice ma ms.length mc).ownBlock≠some b) wx t v→TrO (fun b=>W.heap.size≤b∧b≠wx.heap.size∧(Value.slice ma ms.length mc).ownBlock≠some b) (wy.setRow wx.heap.size (cmC s ext (cmNew g ms k) ta tb .nilIface (.slice none 0 0) (.slice ma ms.length mc))) t v:=fun h=>TrO.keep (by simp;omega) (fun b h1 hl=>⟨⟨h1.1,by omega,h1.2.2⟩,fun o=>World.cell?_of_block (w:=wx) (a:=⟨b,o,none⟩) ((o1 b (by omega)).trans (b2.block b hl))⟩) h
 have hne:∀ q,(Value.slice ma ms.length mc).ownBlock=some q→q≠wx.heap.size:=fun q e=>Nat.ne_of_lt (own_lt' h.r q e)
 refine ⟨below_setRow (h.b.trans (b2.mono hbs)) hbs _,setRow_heap wy _ _ _ _ _ q2,hbs,hk h.ha,hk h.hb,rfl,own_row_same (nd_own_below h.r b2) fun b e=>o1 b (hne b e),fun e=>hne _ e rfl,World.ownsRow_nil _ _ _ _,fun b e=>?_⟩
 simp [Value.ownBlock] at e
theorem kparse_any (ext:Bool) (s:ByteArray) (k:Nat) (w:World) (hs:s.size≤4000) (hk:k≤s.size) (hG:Gl w) (hP:GP w) :
  Calls Tryz.prog 7 #[.string s,.int .i64 (k:Int),.bool ext] w (CmdA w (cmM ext s.data.toList k)):=by
 obtain ⟨W,hW⟩:∃ W,w.alloc (.cells cmdZ 35)=W:=⟨_,rfl⟩
 have HA:=Lib.hid (belowOfAlloc hW)
 have HR0:=Lib.hid (blkOfAlloc hW)
 have hs4:s.size≤4000000:=by omega
 have hg:=pguard_at ext s k W hs4 hk (hG.up HA.out) (hP.up HA.out)
 have hgle:∀ q,gdM ext s.data.toList k=.ok q→q.2.2≤s.size∧q.2.1.length≤600:=fun q h=>gdM_le s hk h
 have hgne:∀ q,gdM ext s.data.toList k=.error q→q.1≠0:=fun q h=>gdM_err h
 have HG:=Lib.hid (hG.up HA.out)
 have HP:=Lib.hid (hP.up HA.out)
 unfold cmM
 generalize gdM ext s.data.toList k=R at hg hgle hgne ⊢
 unfold cmdZ at hW
 clear hG hP
 cases R with
 | error q=>
  obtain ⟨n,p⟩:=q
  have hn:n≠0:=hgne _ rfl
  have hnn:((n:Int) != 0)=true:=by simp;omega
  show Calls _ _ _ _ (CmdA w (.error (n,p)))
  replace hg:Calls Tryz.prog 10 #[.string s,.int .i64 (k:Int),.bool ext] W fun e w'=>GdA W (.error (n,p)) e w':=hg
  simp only [GdA] at hg
  clear hgle hgne hn
  go_enter Tryz.func7,Tryz.ntmps7
  go_upto_region 2 with (go_at_call 10;refine hg.mono ?_;clear hg;rintro e w1 ⟨b1,rfl⟩)
  generalize hW2:w1.alloc _=w2
  have b2:=b1.trans ((belowOfAlloc hW2).mono b1.size)
  have B2:=Lib.hid (HA.out.trans (b2.mono HA.out.size))
  have K2:=Lib.hid (HR0.out.below b2 HR0.out.lt)
  clear b1 b2 hW2
  go_upto_region 3 with fail
  have hbz:∀ f:Nat × Operand→Nat × Value,((Tryz.prog.built 35 (Array.map f #[]).toList).getD #[])=cmdZ:=fun f=>by kernel_rfl
  refine wp_region_list ?_
  refine wpList_build rfl 35 #[] rfl (by kernel_rfl) ?_
  rw [hbz]
  (try simp only [List.getElem_toArray,List.getElem_cons_succ,List.getElem_cons_zero,Act.put,List.setIfInBounds_toArray,List.set_cons_zero,List.set_cons_succ])
  refine wpList_plain rfl (fun K hK=>?_);go_simp;refine hK _ _ ?_;clear hK K;(try simp only [List.getElem_toArray,List.getElem_cons_succ,List.getElem_cons_zero,Act.put,List.setIfInBounds_toArray,List.set_cons_zero,List.set_cons_succ])
  refine wpList_plain rfl (fun K hK=>?_);go_simp;refine hK _ _ ?_;clear hK K;(try simp only [List.getElem_toArray,List.getElem_cons_succ,List.getElem_cons_zero,Act.put,List.setIfInBounds_toArray,List.set_cons_zero,List.set_cons_succ])
  refine wpList_store_row rfl 35 _ _ rfl w.heap.size cmdZ rfl rfl 35 cmdZ K2.out (by kernel_rfl) rfl (by kernel_rfl) ?_
  (try simp only [List.getElem_toArray,List.getElem_cons_succ,List.getElem_cons_zero,Act.put,List.setIfInBounds_toArray,List.set_cons_zero,List.set_cons_succ])
  have B3:=Lib.hid (below_setRow B2.out (Nat.le_refl w.heap.size) cmdZ)
  have K3:=Lib.hid (setRow_heap w2 w.heap.size _ cmdZ _ _ K2.out)
  generalize w2.setRow w.heap.size cmdZ=w3 at B3 K3 ⊢
  refine wpList_plain rfl (fun K hK=>?_);go_simp;refine hK _ _ ?_;clear hK K;(try simp only [List.getElem_toArray,List.getElem_cons_succ,List.getElem_cons_zero,Act.put,List.setIfInBounds_toArray,List.set_cons_zero,List.set_cons_succ])
  refine wpList_plain rfl (fun K hK=>?_);go_simp;refine hK _ _ ?_;clear hK K;(try simp only [List.getElem_toArray,List.getElem_cons_succ,List.getElem_cons_zero,Act.put,List.setIfInBounds_toArray,List.set_cons_zero,List.set_cons_succ])
  refine wpList_plain rfl (fun K hK=>?_);go_simp;refine hK _ _ ?_;clear hK K;(try simp only [List.getElem_toArray,List.getElem_cons_succ,List.getElem_cons_zero,Act.put,List.setIfInBounds_toArray,List.set_cons_zero,List.set_cons_succ])
  refine wpList_nil ?_
  go_wp2_with fail
  have hl:=run_loadVar_row (P:=Tryz.prog) w3 w.heap.size 35 35 cmdZ _ _ K3.out Tryz.underlying35 rfl (by kernel_rfl)
  refine bodyPost_ret (v:=.tuple #[.agg cmdZ,.slice none 0 0,.int .i64 (p:Int),.int .i64 (n:Int)]) (parse_res rfl rfl rfl rfl hl) rfl ?_
  exact ⟨B3.out,rfl⟩
 | ok q=>
  obtain ⟨g,ms,p⟩:=q
  obtain ⟨hpl,hml⟩:=hgle _ rfl
  simp only at hpl hml
  clear hgle hgne
  replace hg:Calls Tryz.prog 10 #[.string s,.int .i64 (k:Int),.bool ext] W fun e w'=>GdA W (.ok (g,ms,p)) e w':=hg
  simp only [GdA] at hg
  show Calls _ _ _ _ (CmdA w (cmAns (cmWhole ext s.data.toList (cmNew g ms p))))
  have hC:=fun wx r (h:CmR W r s ext (cmNew g ms p) wx)=>kcmd_any W r s ext (cmNew g ms p) wx h hs hpl (show ms.length≤80000 by omega) HG.out HP.out
  obtain ⟨⟨e1,st1⟩,hR⟩:∃ R,cmWhole ext s.data.toList (cmNew g ms p)=R:=⟨_,rfl⟩
  rw [hR] at hC ⊢
  simp only at hC
  obtain ⟨A,hA⟩:∃ A,cmAns (e1,st1)=A:=⟨_,rfl⟩
  rw [hA]
  have HANS:=Lib.hid hA
  clear hA hR hpl hml
  go_enter Tryz.func7,Tryz.ntmps7
  go_upto_region 1 with fail
  go_cut [1,10,11,12] (fun s1 s10 s11 s12 wx=>∃ gx ta tb ma mc,s1=.int .i64 (p:Int)∧s10=.pointer (some ⟨gx,0,none⟩)∧s11=.slice ma ms.length mc∧s12=.int .i64 0∧GxS W gx g ms ta tb ma mc wx)
  case first=>
   go_upto_region 2 with (go_at_call 10;refine hg.mono ?_;clear hg;rintro e w1 ⟨b1,ta,tb,ma,mc,rfl,hta,htb,hr⟩;have hsa:=hta.shape;have hsb:=htb.shape;have HTA:=Lib.hid hta;have HTB:=Lib.hid htb;have HR:=Lib.hid hr;have B1:=Lib.hid b1;clear hta htb hr b1;rcases hsa with ⟨T8,q8,rfl⟩ | rfl <;> rcases hsb with ⟨T9,q9,rfl⟩ | rfl)
   all_goals
    go_meet
    exact ⟨_,_,_,ma,mc,rfl,rfl,rfl,rfl,GxS.mk' B1.out HTA.out HTB.out HR.out rfl⟩
  case rest=>
   obtain ⟨gx,ta,tb,ma,mc,rfl,rfl,rfl,rfl,hx⟩:=hcut
   have HX:=Lib.hid hx
   clear hx hg
   go_upto_region 4 with fail
   refine wp_region_list ?_
   refine wpList_plain rfl (fun K hK=>?_);go_simp;refine hK _ _ ?_;clear hK K;(try simp only [List.getElem_toArray,List.getElem_cons_succ,List.getElem_cons_zero,Act.put,List.setIfInBounds_toArray,List.set_cons_zero,List.set_cons_succ])
   refine wpList_plain rfl (fun K hK=>?_);go_simp;refine hK _ _ ?_;clear hK K;(try simp only [List.getElem_toArray,List.getElem_cons_succ,List.getElem_cons_zero,Act.put,List.setIfInBounds_toArray,List.set_cons_zero,List.set_cons_succ])
   refine wpList_plain rfl (fun K hK=>?_);go_simp;refine hK _ _ ?_;clear hK K;(try simp only [List.getElem_toArray,List.getElem_cons_succ,List.getElem_cons_zero,Act.put,List.setIfInBounds_toArray,List.set_cons_zero,List.set_cons_succ])
   refine wpList_plain rfl (fun K hK=>?_);go_simp;refine hK _ _ ?_;clear hK K;(try simp only [List.getElem_toArray,List.getElem_cons_succ,List.getElem_cons_zero,Act.put,List.setIfInBounds_toArray,List.set_cons_zero,List.set_cons_succ])
   refine wpList_load_row rfl 30 _ rfl gx rfl 30 (gdC g ta tb) _ _ HX.out.q Tryz.underlying30 rfl (by kernel_rfl) ?_
   (try simp only [List.getElem_toArray,List.getElem_cons_succ,List.getElem_cons_zero,Act.put,List.setIfInBounds_toArray,List.set_cons_zero,List.set_cons_succ])
   refine wpList_build rfl 35 _ rfl (by kernel_rfl) ?_
   generalize hB:Option.getD _ #[]=B
   have hB2:B=cmdC (cmNew g ms p).c ta tb .nilIface (.slice none 0 0):=by rw [←hB];kernel_rfl
   subst hB2
   clear hB
   (try simp only [List.getElem_toArray,List.getElem_cons_succ,List.getElem_cons_zero,Act.put,List.setIfInBounds_toArray,List.set_cons_zero,List.set_cons_succ])
   refine wpList_plain rfl (fun K hK=>?_);go_simp;refine hK _ _ ?_;clear hK K;(try simp only [List.getElem_toArray,List.getElem_cons_succ,List.getElem_cons_zero,Act.put,List.setIfInBounds_toArray,List.set_cons_zero,List.set_cons_succ])
   refine wpList_build rfl 51 _ rfl (by kernel_rfl) ?_
   generalize hB:Option.getD _ #[]=B
   have hB2:B=cmC s ext (cmNew g ms p) ta tb .nilIface (.slice none 0 0) (.slice ma ms.length mc):=by rw [←hB];kernel_rfl
   subst hB2
   clear hB
   (try simp only [List.getElem_toArray,List.getElem_cons_succ,List.getElem_cons_zero,Act.put,List.setIfInBounds_toArray,List.set_cons_zero,List.set_cons_succ])
   refine wpList_plain rfl (fun K hK=>?_)
   go_simp
   generalize hA:wc.alloc _=wy
   refine hK _ _ ?_
   clear hK K
   (try simp only [List.getElem_toArray,List.getElem_cons_succ,List.getElem_cons_zero,Act.put,List.setIfInBounds_toArray,List.set_cons_zero,List.set_cons_succ])
   refine wpList_store_row rfl 51 _ _ rfl (World.heap wc).size (cmC s ext (cmNew g ms p) ta tb .nilIface (.slice none 0 0) (.slice ma ms.length mc)) rfl rfl 51 _ (blkOfAlloc hA) (by kernel_rfl) rfl (cmC_one _ _ _ _ _ _ _ _ (shape_one HX.out.ha.shape) (shape_one HX.out.hb.shape) rfl rfl rfl) ?_
   (try simp only [List.getElem_toArray,List.getElem_cons_succ,List.getElem_cons_zero,Act.put,List.setIfInBounds_toArray,List.set_cons_zero,List.set_cons_succ])
   refine wpList_nil ?_
   have H4:=Lib.hid (HX.out.reader s ext p hA)
   have hne:(World.heap wc).size≠w.heap.size:=by have:=HA.out.size;have:=HX.out.b.size;have:=HR0.out.lt;omega
   have Hne:=Lib.hid hne
   obtain ⟨r,hr⟩:∃ r,(World.heap wc).size=r:=⟨_,rfl⟩
   rw [hr] at H4 Hne ⊢
   generalize wy.setRow r _=wz at H4 ⊢
   clear hA hr hne HX
   have hC2:=hC wz r H4.out.R
   go_upto_region 6 with (go_at_call 11;refine hC2.mono ?_;clear hC2;rintro e w5 ⟨rfl,h5⟩)
   obtain ⟨ta,tb,ts,pa,pc,ma,mc,h5⟩:=h5
   have H5:=Lib.hid h5
   clear h5 H4 hC
   have hmix:Tryz.prog.follows .mixedOrders=true:=by kernel_rfl
   have hgw:w.heap.size < W.heap.size:=HR0.out.lt
   have K5:=HR0.out.below H5.out.b0 hgw
   have B5:=Lib.hid (HA.out.trans (H5.out.b0.mono (Nat.le_of_lt hgw)))
   by_cases he:e1=0
   ·subst he
    obtain rfl:(.ok (st1.c,st1.ms,st1.k):AdRd Cmd)=A:=HANS.out
    go_upto_region 8 with fail
    refine wp_region_held_drew (S:=fun W':World=>Blk W' r (cmC s ext st1 ta tb ts (.slice pa st1.c.sub.parts.length pc) (.slice ma st1.ms.length mc)) 51) hmix H5.out.q (fun hHeld=>?_)
    refine wpAnyH_take (i:=0) (v:=.pointer (some ⟨r,3,none⟩)) rfl (by kernel_rfl) (by kernel_rfl) (by kernel_rfl) (fun _ _ _ h=>h) (Or.inl ⟨by rfl,?_⟩) hHeld ?_;(focus (intro W' hSw;go_simp));(try simp only [List.getElem_toArray,List.getElem_cons_succ,List.getElem_cons_zero,Act.put,List.setIfInBounds_toArray,List.set_cons_zero,List.set_cons_succ])
    refine wpAnyH_take (i:=1) (v:=.agg (cmdC st1.c ta tb ts (.slice pa st1.c.sub.parts.length pc))) rfl (by kernel_rfl) (by kernel_rfl) (by kernel_rfl) (fun _ _ _ h=>h) (Or.inl ⟨by rfl,?_⟩) hHeld ?_
    ·intro W' hSw
     exact crun_load_sub 35 _ rfl r 3 20 rfl hSw Tryz.underlying35 (by kernel_rfl)
    (try simp only [List.getElem_toArray,List.getElem_cons_succ,List.getElem_cons_zero,Act.put,List.setIfInBounds_toArray,List.set_cons_zero,List.set_cons_succ])
    refine wpAnyH_take (i:=2) (v:=.pointer (some ⟨r,23,none⟩)) rfl (by kernel_rfl) (by kernel_rfl) (by kernel_rfl) (fun _ _ _ h=>h) (Or.inl ⟨by rfl,?_⟩) hHeld ?_;(focus (intro W' hSw;go_simp));(try simp only [List.getElem_toArray,List.getElem_cons_succ,List.getElem_cons_zero,Act.put,List.setIfInBounds_toArray,List.set_cons_zero,List.set_cons_succ])
    refine wpAnyH_take (i:=3) (v:=.slice ma st1.ms.length mc) rfl (by kernel_rfl) (by kernel_rfl) (by kernel_rfl) (fun _ _ _ h=>h) (Or.inl ⟨by rfl,?_⟩) hHeld ?_;(focus (intro W' hSw;(have c23:W'.cell? ⟨r,23,none⟩=some (.slice ma st1.ms.length mc):=(hSw.cell 23).trans rfl);clear hSw;go_simp));(try simp only [List.getElem_toArray,List.getElem_cons_succ,List.getElem_cons_zero,Act.put,List.setIfInBounds_toArray,List.set_cons_zero,List.set_cons_succ])
    refine wpAnyH_take (i:=4) (v:=.pointer (some ⟨r,2,none⟩)) rfl (by kernel_rfl) (by kernel_rfl) (by kernel_rfl) (fun _ _ _ h=>h) (Or.inl ⟨by rfl,?_⟩) hHeld ?_;(focus (intro W' hSw;go_simp));(try simp only [List.getElem_toArray,List.getElem_cons_succ,List.getElem_cons_zero,Act.put,List.setIfInBounds_toArray,List.set_cons_zero,List.set_cons_succ])
    refine wpAnyH_take (i:=5) (v:=.int .i64 (st1.k:Int)) rfl (by kernel_rfl) (by kernel_rfl) (by kernel_rfl) (fun _ _ _ h=>h) (Or.inl ⟨by rfl,?_⟩) hHeld ?_;(focus (intro W' hSw;(have c2:W'.cell? ⟨r,2,none⟩=some (.int .i64 (st1.k:Int)):=(hSw.cell 2).trans rfl);clear hSw;go_simp));(try simp only [List.getElem_toArray,List.getElem_cons_succ,List.getElem_cons_zero,Act.put,List.setIfInBounds_toArray,List.set_cons_zero,List.set_cons_succ])
    refine wpAnyH_ready (rs:=[6]) (by kernel_rfl) (by simp) ?_
    refine AllReadyH.cons rfl (fun K hK=>?_) AllReadyH.nil
    rw [if_pos (by rfl)]
    refine wp_store_row 35 _ _ rfl w.heap.size (cmdC st1.c ta tb ts (.slice pa st1.c.sub.parts.length pc)) rfl rfl 35 cmdZ K5 (by kernel_rfl) rfl (cmd_one _ _ _ _ _ (shape_one H5.out.ha.shape) (shape_one H5.out.hb.shape) (shape_one H5.out.hs.shape) rfl) ?_
    refine hK.out _ _ ((setRow_other _ w.heap.size r _ Hne.out).trans H5.out.q) (fun hHeld=>?_)
    clear hK K
    (try simp only [List.getElem_toArray,List.getElem_cons_succ,List.getElem_cons_zero,Act.put,List.setIfInBounds_toArray,List.set_cons_zero,List.set_cons_succ])
    refine wpAnyH_take (i:=7) (v:=.slice ma st1.ms.length mc) rfl (by kernel_rfl) (by kernel_rfl) (by kernel_rfl) (fun _ _ _ h=>h) (Or.inl ⟨by rfl,?_⟩) hHeld ?_;(focus (intro W' hSw;go_simp));(try simp only [List.getElem_toArray,List.getElem_cons_succ,List.getElem_cons_zero,Act.put,List.setIfInBounds_toArray,List.set_cons_zero,List.set_cons_succ])
    refine wpAnyH_take (i:=8) (v:=.int .i64 (st1.k:Int)) rfl (by kernel_rfl) (by kernel_rfl) (by kernel_rfl) (fun _ _ _ h=>h) (Or.inl ⟨by rfl,?_⟩) hHeld ?_;(focus (intro W' hSw;go_simp));(try simp only [List.getElem_toArray,List.getElem_cons_succ,List.getElem_cons_zero,Act.put,List.setIfInBounds_toArray,List.set_cons_zero,List.set_cons_succ])
    refine wpAnyH_take (i:=9) (v:=.int .i64 0) rfl (by kernel_rfl) (by kernel_rfl) (by kernel_rfl) (fun _ _ _ h=>h) (Or.inl ⟨by rfl,?_⟩) hHeld ?_;(focus (intro W' hSw;go_simp));(try simp only [List.getElem_toArray,List.getElem_cons_succ,List.getElem_cons_zero,Act.put,List.setIfInBounds_toArray,List.set_cons_zero,List.set_cons_succ])
    refine wpAnyH_done (by kernel_rfl) ?_ _
    (try go_wp2_with fail)
    have hl:=run_loadVar_row (P:=Tryz.prog) _ w.heap.size 35 35 _ _ _ (setRow_heap w5.drew w.heap.size _ (cmdC st1.c ta tb ts (.slice pa st1.c.sub.parts.length pc)) _ _ K5) Tryz.underlying35 rfl (by kernel_rfl)
    refine bodyPost_ret (parse_res rfl rfl rfl rfl hl) rfl ?_
    exact H5.out.fin hgw (below_setRow (Below.drew B5.out) (Nat.le_refl _) _) (fun b hb=>setRow_other w5.drew _ b _ hb) (by simp)
   ·have ce:((e1:Int) != 0)=true:=by simpa using he
    obtain rfl:(.error (e1,st1.k):AdRd Cmd)=A:=by rw [←HANS.out];unfold cmAns;rw [if_neg he]
    clear he
    go_upto_region 7 with fail
    refine wp_region_held_drew (S:=fun W':World=>Blk W' r (cmC s ext st1 ta tb ts (.slice pa st1.c.sub.parts.length pc) (.slice ma st1.ms.length mc)) 51) hmix H5.out.q (fun hHeld=>?_)
    refine wpAnyH_take (i:=0) (v:=.agg cmdZ) rfl (by kernel_rfl) (by kernel_rfl) (by kernel_rfl) (fun _ _ _ h=>h) (Or.inl ⟨by rfl,?_⟩) hHeld ?_;(focus (intro W' hSw;kernel_rfl));(try simp only [List.getElem_toArray,List.getElem_cons_succ,List.getElem_cons_zero,Act.put,List.setIfInBounds_toArray,List.set_cons_zero,List.set_cons_succ])
    refine wpAnyH_take (i:=1) (v:=.pointer (some ⟨r,2,none⟩)) rfl (by kernel_rfl) (by kernel_rfl) (by kernel_rfl) (fun _ _ _ h=>h) (Or.inl ⟨by rfl,?_⟩) hHeld ?_;(focus (intro W' hSw;go_simp));(try simp only [List.getElem_toArray,List.getElem_cons_succ,List.getElem_cons_zero,Act.put,List.setIfInBounds_toArray,List.set_cons_zero,List.set_cons_succ])
    refine wpAnyH_take (i:=2) (v:=.int .i64 (st1.k:Int)) rfl (by kernel_rfl) (by kernel_rfl) (by kernel_rfl) (fun _ _ _ h=>h) (Or.inl ⟨by rfl,?_⟩) hHeld ?_;(focus (intro W' hSw;(have c2:W'.cell? ⟨r,2,none⟩=some (.int .i64 (st1.k:Int)):=(hSw.cell 2).trans rfl);clear hSw;go_simp));(try simp only [List.getElem_toArray,List.getElem_cons_succ,List.getElem_cons_zero,Act.put,List.setIfInBounds_toArray,List.set_cons_zero,List.set_cons_succ])
    refine wpAnyH_take (i:=3) (v:=.int .i64 (e1:Int)) rfl (by kernel_rfl) (by kernel_rfl) (by kernel_rfl) (fun _ _ _ h=>h) (Or.inl ⟨by rfl,?_⟩) hHeld ?_;(focus (intro W' hSw;go_simp));(try simp only [List.getElem_toArray,List.getElem_cons_succ,List.getElem_cons_zero,Act.put,List.setIfInBounds_toArray,List.set_cons_zero,List.set_cons_succ])
    refine wpAnyH_ready (rs:=[4]) (by kernel_rfl) (by simp) ?_
    refine AllReadyH.cons rfl (fun K hK=>?_) AllReadyH.nil
    rw [if_pos (by rfl)]
    refine wp_store_row 35 _ _ rfl w.heap.size cmdZ rfl rfl 35 cmdZ K5 (by kernel_rfl) rfl (by kernel_rfl) ?_
    refine hK.out _ _ ((setRow_other _ w.heap.size r _ Hne.out).trans H5.out.q) (fun hHeld=>?_)
    clear hK K
    (try simp only [List.getElem_toArray,List.getElem_cons_succ,List.getElem_cons_zero,Act.put,List.setIfInBounds_toArray,List.set_cons_zero,List.set_cons_succ])
    refine wpAnyH_take (i:=5) (v:=.slice none 0 0) rfl (by kernel_rfl) (by kernel_rfl) (by kernel_rfl) (fun _ _ _ h=>h) (Or.inl ⟨by rfl,?_⟩) hHeld ?_;(focus (intro W' hSw;go_simp));(try simp only [List.getElem_toArray,List.getElem_cons_succ,List.getElem_cons_zero,Act.put,List.setIfInBounds_toArray,List.set_cons_zero,List.set_cons_succ])
    refine wpAnyH_take (i:=6) (v:=.int .i64 (st1.k:Int)) rfl (by kernel_rfl) (by kernel_rfl) (by kernel_rfl) (fun _ _ _ h=>h) (Or.inl ⟨by rfl,?_⟩) hHeld ?_;(focus (intro W' hSw;go_simp));(try simp only [List.getElem_toArray,List.getElem_cons_succ,List.getElem_cons_zero,Act.put,List.setIfInBounds_toArray,List.set_cons_zero,List.set_cons_succ])
    refine wpAnyH_take (i:=7) (v:=.int .i64 (e1:Int)) rfl (by kernel_rfl) (by kernel_rfl) (by kernel_rfl) (fun _ _ _ h=>h) (Or.inl ⟨by rfl,?_⟩) hHeld ?_;(focus (intro W' hSw;go_simp));(try simp only [List.getElem_toArray,List.getElem_cons_succ,List.getElem_cons_zero,Act.put,List.setIfInBounds_toArray,List.set_cons_zero,List.set_cons_succ])
    refine wpAnyH_done (by kernel_rfl) ?_ _
    (try go_wp2_with fail)
    have hl:=run_loadVar_row (P:=Tryz.prog) _ w.heap.size 35 35 _ _ _ (setRow_heap w5.drew w.heap.size _ cmdZ _ _ K5) Tryz.underlying35 rfl (by kernel_rfl)
    refine bodyPost_ret (parse_res rfl rfl rfl rfl hl) rfl ?_
    exact ⟨below_setRow (Below.drew B5.out) (Nat.le_refl _) _,rfl⟩
end Go.Proofs.YtbgfankoojjejaaGreatDoor
namespace Go.Proofs.YtbgfankoojjejaaGreatDoor
open Go Go.RowKit
def cmEx2B (r:AdRd Cmd):Bool:=match r with
 | .ok q=>q.1.name == 115 && (q.1.sub.parts == [(-1,[60]),(0,[]),(-1,[62])] && (q.1.sub.nth == 2 && (q.1.sub.prt && (q.2.1.isEmpty && (q.2.2 == 10 && (q.1.g.a.tree.isNone && q.1.g.b.tree.isNone))))))
 | .error _=>false
theorem cm_ex2:cmEx2B (cmM false [115,47,97,47,60,38,62,47,50,112] 0)=true:=by decide +kernel
theorem cm_ex3:∃ c,cmM false [115,47,97,47,60,38,62,47,50,112] 0=.ok (c,[],10)∧c.name=115∧c.sub.parts=[(-1,[60]),(0,[]),(-1,[62])]∧c.sub.nth=2∧c.sub.prt=true∧c.g.a.tree=none∧c.g.b.tree=none:=by
 have h:=cm_ex2
 generalize cmM false [115,47,97,47,60,38,62,47,50,112] 0=R at h
 cases R with
 | error q=>cases h
 | ok q=>
  obtain ⟨c,ms,p⟩:=q
  simp only [cmEx2B,Bool.and_eq_true,beq_iff_eq,List.isEmpty_iff,Option.isNone_iff_eq_none] at h
  obtain ⟨h1,h2,h3,h4,h5,h6,h7,h8⟩:=h
  subst h5 h6
  exact ⟨c,rfl,h1,h2,h3,h4,h7,h8⟩
theorem partsAt {w:World} {B n c:Nat} {T:TypeId} {a:Option Addr} {l:List Cp} (h:w.ownsRow B T 2 (.slice a n c) n (cpC l)) (h0:0 < l.length):∃ q,a=some ⟨q,0,none⟩∧B≤q∧q < w.heap.size∧∀ j v,(cpC l)[j]?=some v→w.cell? ⟨q,j,none⟩=some v:=by
 have hl:∀ l:List Cp,(cpC l).length=2 * l.length:=fun l=>by
  induction l with
  | nil=>rfl
  | cons c l ih=>rw [show cpC (c :: l)=[.int .i64 c.1,.string (txt c.2)]++cpC l from rfl,List.length_append,ih,List.length_cons];simp;omega
 have hn:n=l.length:=by have:=h.1;rw [hl] at this;omega
 rcases h.2 with ⟨h1,h2⟩ | ⟨g,cap,cur,h1,hB,hg,hc1,hc2,_,ht⟩
 ·omega
 ·injection h1 with h1 h2 h3
  refine ⟨g,h1,hB,(Array.getElem?_eq_some_iff.1 hg).1,fun j v hh=>?_⟩
  rw [←ht,List.getElem?_take] at hh
  split at hh
  ·simp only [World.cell?,hg]
   rw [Array.getElem?_toList] at hh
   simpa using hh
  ·cases hh
theorem boxOf {w1 wy:World} {cs:Array Value} (hA:w1.alloc (.cells cmdZ 35)=wy):Below w1.heap.size w1 (wy.setRow w1.heap.size cs)∧Blk (wy.setRow w1.heap.size cs) w1.heap.size cs 35:=
 ⟨below_setRow (belowOfAlloc hA) (Nat.le_refl _) _,setRow_heap wy _ _ _ _ _ (blkOfAlloc hA)⟩
theorem kparse_0 (ext:Bool) (s:ByteArray) (w:World) (hs:s.size≤4000) (hG:Gl w) (hP:GP w) :
  Calls Tryz.prog 7 #[.string s,.int .i64 0,.bool ext] w fun e w'=>CmdA w (cmM ext s.data.toList 0) e w':=kparse_any ext s 0 w hs (Nat.zero_le _) hG hP
theorem awake13_any (w:World) (hG:Gl w) (hP:GP w):Calls Tryz.prog 6 #[] w fun e w'=>e=.returned (.bool true)∧Below w.heap.size w w':=by
 have hC:=kparse_0 false ⟨#[115,47,97,47,60,38,62,47,50,112]⟩ w (by decide) hG hP
 rw [show (⟨#[115,47,97,47,60,38,62,47,50,112]⟩:ByteArray).data.toList=[115,47,97,47,60,38,62,47,50,112] from rfl] at hC
 obtain ⟨c,he,h1,h2,h3,h4,h5,h6⟩:=cm_ex3
 rw [he] at hC
 simp only [CmdA,h2,h5,h6,List.length_nil] at hC
 have HF:=Lib.hid (And.intro h1 (And.intro h3 h4))
 clear he h1 h2 h3 h4 h5 h6 hG hP
 go_enter Tryz.func6,Tryz.ntmps6
 go_upto_region 1 with fail
 refine wp_region_list ?_
 refine wpList_plain rfl (fun K hK=>?_);go_simp;go_at_call 7;refine hC.mono ?_;clear hC;rintro e w1 ⟨b1,ta,tb,ts,pa,pc,ma,mc,rfl,hta,htb,hts,hr⟩;obtain rfl:ta=.nilIface:=hta;obtain rfl:tb=.nilIface:=htb;have hsh:=shape_one hts.shape;obtain ⟨q,rfl,_,hql,hqc⟩:=partsAt hr (by decide);(have g1:w1.cell? ⟨q,1,none⟩=some (.string ⟨#[60]⟩):=hqc 1 _ rfl);have B1:=Lib.hid b1;clear hts hr hqc b1;refine hK _ _ ?_;clear hK K;(try simp only [List.getElem_toArray,List.getElem_cons_succ,List.getElem_cons_zero,Act.put,List.setIfInBounds_toArray,List.set_cons_zero,List.set_cons_succ])
 refine wpList_plain rfl (fun K hK=>?_);go_simp;refine hK _ _ ?_;clear hK K;(try simp only [List.getElem_toArray,List.getElem_cons_succ,List.getElem_cons_zero,Act.put,List.setIfInBounds_toArray,List.set_cons_zero,List.set_cons_succ])
 refine wpList_plain rfl (fun K hK=>?_);go_simp;refine hK _ _ ?_;clear hK K;(try simp only [List.getElem_toArray,List.getElem_cons_succ,List.getElem_cons_zero,Act.put,List.setIfInBounds_toArray,List.set_cons_zero,List.set_cons_succ])
 refine wpList_plain rfl (fun K hK=>?_);go_simp;refine hK _ _ ?_;clear hK K;(try simp only [List.getElem_toArray,List.getElem_cons_succ,List.getElem_cons_zero,Act.put,List.setIfInBounds_toArray,List.set_cons_zero,List.set_cons_succ])
 refine wpList_plain rfl (fun K hK=>?_);go_simp;refine hK _ _ ?_;clear hK K;(try simp only [List.getElem_toArray,List.getElem_cons_succ,List.getElem_cons_zero,Act.put,List.setIfInBounds_toArray,List.set_cons_zero,List.set_cons_succ])
 refine wpList_plain rfl (fun K hK=>?_);go_simp;refine hK _ _ ?_;clear hK K;(try simp only [List.getElem_toArray,List.getElem_cons_succ,List.getElem_cons_zero,Act.put,List.setIfInBounds_toArray,List.set_cons_zero,List.set_cons_succ])
 refine wpList_plain rfl (fun K hK=>?_);go_simp;generalize hA:(w1).alloc _=wy;refine hK _ _ ?_;clear hK K;(try simp only [List.getElem_toArray,List.getElem_cons_succ,List.getElem_cons_zero,Act.put,List.setIfInBounds_toArray,List.set_cons_zero,List.set_cons_succ]);refine wpList_store_row rfl 35 _ _ rfl (World.heap w1).size (cmdC c .nilIface .nilIface ts (.slice (some ⟨q,0,none⟩) 3 pc)) rfl rfl 35 cmdZ (blkOfAlloc hA) (by kernel_rfl) rfl (cmd_one _ _ _ _ _ rfl rfl hsh rfl) ?_;(try simp only [List.getElem_toArray,List.getElem_cons_succ,List.getElem_cons_zero,Act.put,List.setIfInBounds_toArray,List.set_cons_zero,List.set_cons_succ]);have hbx:=boxOf (cs:=cmdC c .nilIface .nilIface ts (.slice (some ⟨q,0,none⟩) 3 pc)) hA;generalize wy.setRow (World.heap w1).size _=w2 at hbx ⊢;clear hA
 refine wpList_plain rfl (fun K hK=>?_);go_simp;refine hK _ _ ?_;clear hK K;(try simp only [List.getElem_toArray,List.getElem_cons_succ,List.getElem_cons_zero,Act.put,List.setIfInBounds_toArray,List.set_cons_zero,List.set_cons_succ])
 refine wpList_plain rfl (fun K hK=>?_);go_simp;refine hK _ _ ?_;clear hK K;(try simp only [List.getElem_toArray,List.getElem_cons_succ,List.getElem_cons_zero,Act.put,List.setIfInBounds_toArray,List.set_cons_zero,List.set_cons_succ])
 refine wpList_plain rfl (fun K hK=>?_);go_simp;refine hK _ _ ?_;clear hK K;(try simp only [List.getElem_toArray,List.getElem_cons_succ,List.getElem_cons_zero,Act.put,List.setIfInBounds_toArray,List.set_cons_zero,List.set_cons_succ])
 refine wpList_nil ?_
 obtain ⟨b2,Q2⟩:=hbx
 have g2:w2.cell? ⟨q,1,none⟩=some (.string ⟨#[60]⟩):=(b2.cell (p:=⟨q,1,none⟩) hql).trans g1
 obtain ⟨g,hg⟩:∃ g,w1.heap.size=g:=⟨_,rfl⟩
 have B2:=Lib.hid (B1.out.trans (b2.mono B1.out.size))
 rw [hg] at Q2 ⊢
 have k10:w2.cell? ⟨g,10,none⟩=some (.int .u8 115):=(Q2.cell 10).trans (show some (Value.int .u8 (c.name.toNat:Int))=_ by rw [HF.out.1];rfl)
 have k14:w2.cell? ⟨g,14,none⟩=some (.slice (some ⟨q,0,none⟩) 3 pc):=(Q2.cell 14).trans rfl
 have k15:w2.cell? ⟨g,15,none⟩=some (.int .i64 2):=(Q2.cell 15).trans (show some (Value.int .i64 (c.sub.nth:Int))=_ by rw [HF.out.2.1];rfl)
 have k17:w2.cell? ⟨g,17,none⟩=some (.bool true):=(Q2.cell 17).trans (show some (Value.bool c.sub.prt)=_ by rw [HF.out.2.2])
 clear g1 Q2 b2 hg hql
 go_wp2_with fail
 go_ret
 exact ⟨rfl,B2.out⟩
end Go.Proofs.YtbgfankoojjejaaGreatDoor
namespace Go.Proofs.YtbgfankoojjejaaGreatDoor
open Go Go.RowKit
def PRow (w:World) (a:Option Addr) (ps:List Cp):Prop:=0 < ps.length→ps.length≤maxLen∧∃ q,a=some ⟨q,0,none⟩∧q < w.heap.size∧∀ j v,(cpC ps)[j]?=some v→w.cell? ⟨q,j,none⟩=some v
theorem PRow.below {w w':World} {a:Option Addr} {ps:List Cp} (h:PRow w a ps) (hb:Below w.heap.size w w'):PRow w' a ps:=fun h0=>by
 obtain ⟨hm,q,ha,hl,hc⟩:=h h0
 exact ⟨hm,q,ha,Nat.lt_of_lt_of_le hl hb.size,fun j v hj=>(hb.cell (p:=⟨q,j,none⟩) hl).trans (hc j v hj)⟩
theorem own_max {w:World} {B n c:Nat} {T:TypeId} {a:Option Addr} {l:List Cp} (h:w.ownsRow B T 2 (.slice a n c) n (cpC l)) (h0:0 < l.length):l.length≤maxLen:=by
 have hl:∀ l:List Cp,(cpC l).length=2 * l.length:=fun l=>by
  induction l with
  | nil=>rfl
  | cons c l ih=>rw [show cpC (c :: l)=[.int .i64 c.1,.string (txt c.2)]++cpC l from rfl,List.length_append,ih,List.length_cons];simp;omega
 have hn:n=l.length:=by have:=h.1;rw [hl] at this;omega
 rcases h.2 with ⟨_,h2⟩ | ⟨g,cap,cur,h1,_,_,hc1,hc2,_⟩
 ·omega
 ·omega
theorem prow_own {w:World} {B n c:Nat} {T:TypeId} {a:Option Addr} {l:List Cp} (h:w.ownsRow B T 2 (.slice a n c) n (cpC l)):PRow w a l:=fun h0=>by
 obtain ⟨q,ha,_,hl,hc⟩:=partsAt h h0
 exact ⟨own_max h h0,q,ha,hl,hc⟩
theorem cpC_at:∀ (ps:List Cp) (j:Nat) (h:j < ps.length),(cpC ps)[j * 2]?=some (.int .i64 ps[j].1)∧(cpC ps)[j * 2+1]?=some (.string (txt ps[j].2))
 | c :: ps,0,h=>⟨rfl,rfl⟩
 | c :: ps,j+1,h=>by
  have ih:=cpC_at ps j (by simpa using h)
  rw [show cpC (c :: ps)=.int .i64 c.1 :: .string (txt c.2) :: cpC ps from rfl,show (j+1) * 2=j * 2+1+1 by omega]
  exact ih
theorem eqp_any (ps:List Cp) (pa pb:Option Addr) (c1 c2:Nat) (w:World) (h1:PRow w pa ps) (h2:PRow w pb ps) :
  Calls Tryz.prog 27 #[.slice pa ps.length c1,.slice pb ps.length c2] w fun e w'=>e=.returned (.bool true)∧Below w.heap.size w w':=by
 have H1:=Lib.hid h1
 have H2:=Lib.hid h2
 clear h1 h2
 go_enter Tryz.func27,Tryz.ntmps27
 go_wp2_with fail
 go_loopw [13] (fun i wr=>∃ j:Nat,j≤ps.length∧i=.int .i64 j∧Below w.heap.size w wr) (fun i _=>ps.length - (intOf i).toNat)
 case atStart=>exact ⟨0,by omega,rfl,Below.refl _ _⟩
 case round=>
  obtain ⟨j,hj,rfl,hb⟩:=hrel
  have HB:=Lib.hid hb
  clear hb
  by_cases hlt:j < ps.length
  ·have hji:(j:Int) < (ps.length:Int):=by omega
   have hy0:(0:Int)≤(j:Int):=by omega
   obtain ⟨hmx,q1,rfl,_,k1⟩:=(H1.out.below HB.out) (by omega)
   have Wj:IntKind.i64.wrap ((j:Int)+1)=(j:Int)+1:=IntWalk.i64_in _ (by unfold maxLen at hmx;omega)
   obtain ⟨_,q2,rfl,_,k2⟩:=(H2.out.below HB.out) (by omega)
   obtain ⟨e1,e2⟩:=cpC_at ps j hlt
   have a1:=k1 _ _ e1
   have a2:=k1 _ _ e2
   have b1:=k2 _ _ e1
   have b2:=k2 _ _ e2
   generalize txt ps[j].2=S at a2 b2
   generalize ps[j].1=N at a1 b1
   clear k1 k2 e1 e2
   go_upto_region 6 with fail
   go_quiet (fail)
   generalize nq=n1
   have HB2:=Lib.hid (below_drewN HB.out n1)
   clear a1 a2 b1 b2
   go_wp2_with fail
   go_roundw
   case rel=>exact ⟨j+1,by omega,by go_num,HB2.out⟩
   case measure=>simp [intOf];omega
  ·obtain rfl:j=ps.length:=by omega
   go_wp2_with fail
   go_ret
   exact ⟨rfl,HB.out⟩
theorem tro_nd {F:Nat→Prop} {w:World}:∀ {t:Option Nd} {v:Value},TrO F w t v→NdX F w (t.getD .empty) v
 | none,_,h=>⟨1,.inr h⟩
 | some _,_,h=>h
theorem blk7c {w:World} {b:Nat} {T:TypeId} {v0 v1 v2 v3 v4 v5 v6:Value} (h:Blk w b #[v0,v1,v2,v3,v4,v5,v6] T) :
  (w.cell? ⟨b,1,none⟩=some v1∧w.cell? ⟨b,2,none⟩=some v2∧w.cell? ⟨b,3,none⟩=some v3∧w.cell? ⟨b,4,none⟩=some v4∧w.cell? ⟨b,5,none⟩=some v5∧w.cell? ⟨b,6,none⟩=some v6)∧b < w.heap.size:=
 ⟨⟨(h.cell 1).trans rfl,(h.cell 2).trans rfl,(h.cell 3).trans rfl,(h.cell 4).trans rfl,(h.cell 5).trans rfl,(h.cell 6).trans rfl⟩,h.lt⟩
theorem ssub_any (b:Sb) (ts tu:Value) (pa pb:Option Addr) (c1 c2:Nat) (w:World) (hts:TrO (fun b=>b < w.heap.size) w b.tree ts) (htu:TrO (fun b=>b < w.heap.size) w b.tree tu) (hf:nsize (b.tree.getD .empty)≤4000000) (h1:PRow w pa b.parts) (h2:PRow w pb b.parts) :
  Calls Tryz.prog 13 #[.agg #[.string (txt b.text),ts,.slice pa b.parts.length c1,.int .i64 (b.nth:Int),.bool b.all,.bool b.prt,.string (txt b.file)],.agg #[.string (txt b.text),tu,.slice pb b.parts.length c2,.int .i64 (b.nth:Int),.bool b.all,.bool b.prt,.string (txt b.file)]] w fun e w'=>e=.returned (.bool true)∧Below w.heap.size w w':=by
 have hE:=fun W (hb:Below w.heap.size w W)=>eqp_any b.parts pa pb c1 c2 W (h1.below hb) (h2.below hb)
 have hS:=fun W (hb:Below w.heap.size w W)=>psame_any (b.tree.getD .empty) (b.tree.getD .empty) ts tu W (tro_nd (tro_up hb hts)) (tro_nd (tro_up hb htu)) hf
 rw [nsame_refl] at hS
 have s1:=hts.shape
 have s2:=htu.shape
 clear hts htu hf h1 h2
 generalize txt b.text=T at hE hS ⊢
 generalize txt b.file=U at hE hS ⊢
 generalize b.parts.length=n at hE ⊢
 generalize (b.nth:Int)=k
 generalize b.all=x1
 generalize b.prt=x2
 rcases s1 with ⟨T8,q8,rfl⟩ | rfl <;> rcases s2 with ⟨T9,q9,rfl⟩ | rfl
 all_goals
  go_enter Tryz.func13,Tryz.ntmps13
  go_upto_region 1 with fail
  generalize hW1:w.alloc _=W1
  generalize hW2:W1.alloc _=W2
  have hX:=(blkOfAlloc hW1).below (belowOfAlloc hW2) (blkOfAlloc hW1).lt
  have hY:=blkOfAlloc hW2
  have B2:=Lib.hid ((belowOfAlloc hW1).trans ((belowOfAlloc hW2).mono (belowOfAlloc hW1).size))
  have hp:W1.heap.size=w.heap.size+1:=by rw [←hW1];exact World.size_alloc _ _
  rw [hp] at hY
  clear hp
  generalize w.heap.size+1=p at hY ⊢
  obtain ⟨⟨x1',x2',x3',x4',x5',x6'⟩,hxl⟩:=blk7c hX
  obtain ⟨⟨y1',y2',y3',y4',y5',y6'⟩,hyl⟩:=blk7c hY
  have HX:=Lib.hid hX
  have HY:=Lib.hid hY
  clear hX hY hW1 hW2
  go_wp2_with (first
   | (go_at_call 26;refine (hS _ B2.out).mono ?_;rintro e w3 ⟨rfl,b3⟩;have B3:=Lib.hid (B2.out.trans (b3.mono B2.out.size));(have u2:=(b3.cell (p:=⟨w.heap.size,2,none⟩) hxl).trans x2');(have v2:=(b3.cell (p:=⟨p,2,none⟩) hyl).trans y2');clear b3 hS)
   | (go_at_call 27;refine (hE _ B3.out).mono ?_;rintro e w4 ⟨rfl,b4⟩))
  go_ret
  exact ⟨rfl,B3.out.trans (b4.mono B3.out.size)⟩
end Go.Proofs.YtbgfankoojjejaaGreatDoor
