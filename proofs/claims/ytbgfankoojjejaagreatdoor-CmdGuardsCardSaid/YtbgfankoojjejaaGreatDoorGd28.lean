/- The proof's texts CmMa, CmWa, CmWb, CmWc: what the claim reaches of them. -/
import Derived.Test.YtbgfankoojjejaaGreatDoorGd05
import Derived.Test.YtbgfankoojjejaaGreatDoorGd27
import Derived.Test.YtbgfankoojjejaaGreatDoorGd06
import Derived.Test.YtbgfankoojjejaaGreatDoorGd25
import Derived.BigQuiet
import Derived.Deep.DeepCutAuto
set_option linter.unusedSimpArgs false
set_option linter.unusedVariables false
set_option maxHeartbeats 8000000
set_option maxRecDepth 1000000
namespace Go.Proofs.YtbgfankoojjejaaGreatDoor
set_option linter.unusedVariables false
abbrev Cp:=Int × List UInt8
structure Sb where
 text:List UInt8
 tree:Option Nd
 parts:List Cp
 nth:Nat
 all:Bool
 prt:Bool
 file:List UInt8
structure Cmd where
 pl:Nat
 g:Grd
 name:UInt8
 arg:List UInt8
 sub:Sb
 table:List UInt8
structure CS where
 k:Nat
 c:Cmd
 ms:List Wm
abbrev CO:=Nat × CS
def CS.go (st:CS) (k:Nat):CS:={ st with k:=k }
def CS.arg (st:CS) (a:List UInt8) (k:Nat):CS:={ st with k:=k,c:={ st.c with arg:=a } }
def CS.file (st:CS) (a:List UInt8) (k:Nat):CS:={ st with k:=k,c:={ st.c with sub:={ st.c.sub with file:=a } } }
def CS.mark (st:CS) (p:Nat) (w:List UInt8):CS:={ st with ms:=st.ms++[((p:Int),⟨w.toArray⟩)] }
def CS.name (st:CS) (b:UInt8):CS:={ st with k:=st.k+1,c:={ st.c with name:=b } }
def cmMost (b:UInt8):Option Nat:=
 if b=125∨b=58 then some 0
 else if b∈[61,113,81,97,105,114] then some 1
 else if b∈[123,100,68,103,71,104,72,108,110,78,112,80,120,122,98,116,84,99,119,115,121] then some 2
 else none
def cmAdds (g:Grd):Nat:=if g.a.kind=0 then 0 else if g.b.kind=0 then 1 else 2
def cmTold (b:UInt8):Bool:=b == 81 || b == 84 || b == 122
def cmNameOf (st:CS) (b:UInt8) (m:Option Nat):CO:=
 match m with
 | none=>(13,st)
 | some n=>if n < cmAdds st.c.g then (19,st) else (0,(if cmTold b=true then st.mark st.k [b] else st).name b)
def cmName (L:List UInt8) (st:CS):CO:=
 match L.drop st.k with
 | []=>(5,st)
 | b :: _=>cmNameOf st b (cmMost b)
def cmLabel (L:List UInt8) (st:CS):CO:=((pcName L st.k true).2.2,st.arg (pcName L st.k true).1 (pcName L st.k true).2.1)
def cmPer (L:List UInt8) (st:CS):CO:=if (cmLabel L st).1=14 then (0,(cmLabel L st).2.go (pcBlk L st.k)) else cmLabel L st
def cmLines (L:List UInt8) (st:CS):CO:=((pcLin (L.drop st.k) st.k []).2.2,st.arg (pcLin (L.drop st.k) st.k []).1 (pcLin (L.drop st.k) st.k []).2.1)
def cmText (L:List UInt8) (st:CS):CO:=
 match L.drop (pcBlk L st.k) with
 | []=>(11,st.go (pcBlk L st.k))
 | c :: t=>
  if c=10 then (5,st.go (pcBlk L st.k))
  else if c=92∧t.head?=some 10 then cmLines L (st.go (pcBlk L st.k+2))
  else cmLines L ((st.go (pcBlk L st.k)).mark st.c.pl [116,101,120,116])
def cmFileA (L:List UInt8) (st:CS):CO:=if pcBlk L st.k=st.k then (2,st) else ((pcName L st.k false).2.2,st.arg (pcName L st.k false).1 (pcName L st.k false).2.1)
def cmFileS (L:List UInt8) (st:CS):CO:=if pcBlk L st.k=st.k then (2,st) else ((pcName L st.k false).2.2,st.file (pcName L st.k false).1 (pcName L st.k false).2.1)
def cmDel (L:List UInt8) (st:CS):UInt8 × CO:=
 match L.drop st.k with
 | []=>(0,5,st)
 | d :: _=>if d=92∨d=10 then (0,2,st) else (d,0,st.go (st.k+1))
def cmEnd (L:List UInt8) (st:CS):CO:=
 match L.drop (pcBlk L st.k) with
 | []=>(0,st.go (pcBlk L st.k))
 | b :: _=>if b=59∨b=10∨b=35 then (0,st.go (pcBlk L st.k)) else if b=125 then (0,(st.go (pcBlk L st.k)).mark (pcBlk L st.k) [125]) else (17,st.go (pcBlk L st.k))
def CS.rx (st:CS) (t:List UInt8) (d:Option Nd) (ms:List Wm) (k:Nat):CS:={ st with k:=k,c:={ st.c with sub:={ st.c.sub with text:=t,tree:=d } },ms:=st.ms++ms }
def cmRxOf (st:CS) (R:AdRd (List UInt8 × Nd)):CO:=
 match R with
 | .error q=>(q.1,st.rx [] none [] q.2)
 | .ok q=>(0,st.rx q.1.1 (some q.1.2) q.2.1 q.2.2)
def cmRx (ext:Bool) (L:List UInt8) (d:UInt8) (st:CS):CO:=cmRxOf st (delimM ext L st.k d)
def cpEnd (ps:List Cp) (t:List UInt8):List Cp:=if t=[] then ps else ps++[(-1,t)]
def cpRun (n:Nat):List UInt8→Bool→List Cp→List UInt8→List Cp × Nat
 | [],esc,ps,t=>if esc=true then ([],11) else (cpEnd ps t,0)
 | b :: l,false,ps,t=>if b=92 then cpRun n l true ps t else if b=38 then cpRun n l false (cpEnd ps t++[(0,[])]) [] else cpRun n l false ps (t++[b])
 | b :: l,true,ps,t=>
  if pcDigits.contains b=true then (if n < b.toNat - 48 then ([],9) else cpRun n l false (cpEnd ps t++[(((b.toNat - 48:Nat):Int),[])]) [])
  else if b=110 then cpRun n l false ps (t++[10]) else cpRun n l false ps (t++[b])
def cmTreeGroups (d:Option Nd):Nat:=match d with | none=>0 | some d=>ngroups d
def CS.parts (st:CS) (ps:List Cp) (k:Nat):CS:={ st with k:=k,c:={ st.c with sub:={ st.c.sub with parts:=ps } } }
def cmRepOf (st:CS) (r:PcAns) (q:List Cp × Nat):CO:=if r.2.2=0 then (if q.2=0 then (0,st.parts q.1 r.2.1) else (q.2,st)) else (r.2.2,st.go r.2.1)
def cmRep (L:List UInt8) (d:UInt8) (st:CS):CO:=cmRepOf st (pcBetween L st.k d false) (cpRun (cmTreeGroups st.c.sub.tree) (pcBetween L st.k d false).1 false [] [])
def CS.all (st:CS):CS:={ st with k:=st.k+1,c:={ st.c with sub:={ st.c.sub with all:=true } } }
def CS.prt (st:CS):CS:={ st with k:=st.k+1,c:={ st.c with sub:={ st.c.sub with prt:=true } } }
def CS.nth (st:CS) (n k:Nat):CS:={ st with k:=k,c:={ st.c with sub:={ st.c.sub with nth:=n } } }
def cmAll (st:CS):CO:=if st.c.sub.all=true then (15,st) else (0,st.all)
def cmPrt (st:CS):CO:=if st.c.sub.prt=true then (15,st) else (0,st.prt)
def cmNthOf (st:CS) (r:Nat × Nat × Nat):CO:=if r.2.2=0 then (if st.c.sub.nth=0 then (if r.1=0 then (1,st) else (0,st.nth r.1 r.2.1)) else (15,st)) else (r.2.2,st)
def cmNth (L:List UInt8) (st:CS):CO:=cmNthOf st (pcNum L st.k)
def cmFlag (L:List UInt8) (b:UInt8) (st:CS):Option CO:=if b=103 then some (cmAll st) else if b=112 then some (cmPrt st) else if pcDigits.contains b=true then some (cmNth L st) else none
def cmFlags (L:List UInt8):Nat→CS→CO
 | 0,st=>(0,st)
 | n+1,st=>
  match L.drop st.k with
  | []=>(0,st)
  | b :: _=>
   match cmFlag L b st with
   | some r=>if r.1=0 then cmFlags L n r.2 else r
   | none=>if b=119 then cmFileS L (st.go (st.k+1)) else cmEnd L st
def CO.then (r:CO) (f:CS→CO):CO:=if r.1=0 then f r.2 else r
def cmSub (ext:Bool) (L:List UInt8) (st:CS):CO:=
 (cmDel L st).2.then fun s1=>(cmRx ext L (cmDel L st).1 s1).then fun s2=>(cmRep L (cmDel L st).1 s2).then fun s3=>cmFlags L (L.length+1) s3
def cmList:List UInt8→Bool→List UInt8→Option (List UInt8)
 | [],esc,acc=>if esc=true then none else some acc
 | b :: l,false,acc=>if b=92 then cmList l true acc else cmList l false (acc++[b])
 | b :: l,true,acc=>if b=110 then cmList l false (acc++[10]) else if b=92 then cmList l false (acc++[92]) else none
def tbRun:List UInt8→List UInt8→List UInt8→List UInt8→Option (List UInt8)
 | [],_,_,T=>some T
 | k :: ks,v,seen,T=>if k∈seen then none else tbRun ks v.tail (k :: seen) (T.set k.toNat (v.headD 0))
def tbAll:List UInt8:=(List.range 256).map UInt8.ofNat
def tbOf (a b:Option (List UInt8)):List UInt8 × Nat:=
 match a,b with
 | some ks,some vs=>if ks.length=vs.length then (match tbRun ks vs [] tbAll with | none=>([],15) | some T=>(T,0)) else ([],18)
 | _,_=>([],18)
def cmTab (a b:List UInt8):List UInt8 × Nat:=tbOf (cmList a false []) (cmList b false [])
def CS.table (st:CS) (t:List UInt8) (k:Nat):CS:={ st with k:=k,c:={ st.c with table:=t } }
def cmTblB (L:List UInt8) (st:CS) (p:Nat) (r:PcAns) (q:List UInt8 × Nat):CO:=
 if r.2.2=0 then (if q.2=0 then cmEnd L (st.table q.1 r.2.1) else (q.2,st.go p)) else (r.2.2,st.go r.2.1)
def cmTblA (L:List UInt8) (d:UInt8) (st:CS) (r:PcAns):CO:=
 if r.2.2=0 then cmTblB L st r.2.1 (pcBetween L r.2.1 d false) (cmTab r.1 (pcBetween L r.2.1 d false).1) else (r.2.2,st.go r.2.1)
def cmTbl (L:List UInt8) (st:CS):CO:=(cmDel L st).2.then fun s1=>cmTblA L (cmDel L st).1 s1 (pcBetween L s1.k (cmDel L st).1 false)
def cmTakes (ext:Bool) (L:List UInt8) (st:CS):CO:=
 let b:=st.c.name
 if b=123∨b=125 then (0,st)
 else if b=58 then cmLabel L st
 else if b=98∨b=116∨b=84 then cmPer L st
 else if b=97∨b=105∨b=99 then cmText L st
 else if b=114∨b=119 then cmFileA L st
 else if b=115 then cmSub ext L st
 else if b=121 then cmTbl L st
 else cmEnd L st
def cmWhole (ext:Bool) (L:List UInt8) (st:CS):CO:=(cmName L st).then (cmTakes ext L)
def sb0:Sb:=⟨[],none,[],0,false,false,[]⟩
def cmNew (g:Grd) (ms:List Wm) (k:Nat):CS:=⟨k,⟨k,g,0,[],sb0,[]⟩,ms⟩
def cmAns (r:CO):AdRd Cmd:=if r.1=0 then .ok (r.2.c,r.2.ms,r.2.k) else .error (r.1,r.2.k)
def cmOf (ext:Bool) (L:List UInt8) (R:AdRd Grd):AdRd Cmd:=
 match R with
 | .error q=>.error q
 | .ok q=>cmAns (cmWhole ext L (cmNew q.1 q.2.1 q.2.2))
def cmM (ext:Bool) (L:List UInt8) (k:Nat):AdRd Cmd:=cmOf ext L (gdM ext L k)
end Go.Proofs.YtbgfankoojjejaaGreatDoor
namespace Go.Proofs.YtbgfankoojjejaaGreatDoor
open Go Go.RowKit
theorem blk24c {w:World} {b:Nat} {T:TypeId} {v0 v1 v2 v3 v4 v5 v6 v7 v8 v9 v10 v11 v12 v13 v14 v15 v16 v17 v18 v19 v20 v21 v22 v23:Value} (h:Blk w b #[v0,v1,v2,v3,v4,v5,v6,v7,v8,v9,v10,v11,v12,v13,v14,v15,v16,v17,v18,v19,v20,v21,v22,v23] T) :
  (w.cell? ⟨b,0,none⟩=some v0∧w.cell? ⟨b,1,none⟩=some v1∧w.cell? ⟨b,2,none⟩=some v2)∧(w.cell? ⟨b,3,none⟩=some v3∧w.cell? ⟨b,4,none⟩=some v4∧w.cell? ⟨b,5,none⟩=some v5∧w.cell? ⟨b,6,none⟩=some v6∧w.cell? ⟨b,7,none⟩=some v7∧w.cell? ⟨b,8,none⟩=some v8∧w.cell? ⟨b,9,none⟩=some v9∧w.cell? ⟨b,10,none⟩=some v10∧w.cell? ⟨b,11,none⟩=some v11∧w.cell? ⟨b,12,none⟩=some v12)∧(w.cell? ⟨b,13,none⟩=some v13∧w.cell? ⟨b,14,none⟩=some v14∧w.cell? ⟨b,15,none⟩=some v15∧w.cell? ⟨b,16,none⟩=some v16∧w.cell? ⟨b,17,none⟩=some v17∧w.cell? ⟨b,18,none⟩=some v18∧w.cell? ⟨b,19,none⟩=some v19∧w.cell? ⟨b,20,none⟩=some v20∧w.cell? ⟨b,21,none⟩=some v21∧w.cell? ⟨b,22,none⟩=some v22∧w.cell? ⟨b,23,none⟩=some v23)∧b < w.heap.size:=
 ⟨⟨(h.cell 0).trans rfl,(h.cell 1).trans rfl,(h.cell 2).trans rfl⟩,⟨(h.cell 3).trans rfl,(h.cell 4).trans rfl,(h.cell 5).trans rfl,(h.cell 6).trans rfl,(h.cell 7).trans rfl,(h.cell 8).trans rfl,(h.cell 9).trans rfl,(h.cell 10).trans rfl,(h.cell 11).trans rfl,(h.cell 12).trans rfl⟩,⟨(h.cell 13).trans rfl,(h.cell 14).trans rfl,(h.cell 15).trans rfl,(h.cell 16).trans rfl,(h.cell 17).trans rfl,(h.cell 18).trans rfl,(h.cell 19).trans rfl,(h.cell 20).trans rfl,(h.cell 21).trans rfl,(h.cell 22).trans rfl,(h.cell 23).trans rfl⟩,h.lt⟩
def cpC (l:List Cp):List Value:=l.flatMap fun c=>[.int .i64 c.1,.string (txt c.2)]
theorem cpC_snoc (l:List Cp) (c:Cp):cpC (l++[c])=cpC l++[.int .i64 c.1,.string (txt c.2)]:=by simp [cpC]
def cmC (s:ByteArray) (ext:Bool) (st:CS) (ta tb ts pv mv:Value):Array Value:=
 #[.string s,.bool ext,.int .i64 (st.k:Int),.int .i64 (st.c.pl:Int),.int .i64 (st.c.g.a.kind:Int),.int .i64 (st.c.g.a.line:Int),.string (txt st.c.g.a.text),ta,.int .i64 (st.c.g.b.kind:Int),.int .i64 (st.c.g.b.line:Int),.string (txt st.c.g.b.text),tb,.bool st.c.g.no,.int .u8 st.c.name.toNat,.string (txt st.c.arg),.string (txt st.c.sub.text),ts,pv,.int .i64 (st.c.sub.nth:Int),.bool st.c.sub.all,.bool st.c.sub.prt,.string (txt st.c.sub.file),.string (txt st.c.table),mv]
structure CmSt (w:World) (p:Nat) (s:ByteArray) (ext:Bool) (st:CS) (ta tb ts:Value) (pa:Option Addr) (pc:Nat) (ma:Option Addr) (mc:Nat) (W:World):Prop where
 b0:Below w.heap.size w W
 q:Blk W p (cmC s ext st ta tb ts (.slice pa st.c.sub.parts.length pc) (.slice ma st.ms.length mc)) 51
 pg:w.heap.size≤p
 ha:TrO (fun b=>w.heap.size≤b∧b≠p∧(Value.slice ma st.ms.length mc).ownBlock≠some b) W st.c.g.a.tree ta
 hb:TrO (fun b=>w.heap.size≤b∧b≠p∧(Value.slice ma st.ms.length mc).ownBlock≠some b) W st.c.g.b.tree tb
 hs:TrO (fun b=>w.heap.size≤b∧b≠p∧(Value.slice ma st.ms.length mc).ownBlock≠some b) W st.c.sub.tree ts
 r:W.ownsRow w.heap.size 77 2 (.slice ma st.ms.length mc) st.ms.length (wmC st.ms)
 rg:(Value.slice ma st.ms.length mc).ownBlock≠some p
 pr:W.ownsRow w.heap.size 43 2 (.slice pa st.c.sub.parts.length pc) st.c.sub.parts.length (cpC st.c.sub.parts)
 pp:∀ b,(Value.slice pa st.c.sub.parts.length pc).ownBlock=some b→b≠p∧(Value.slice ma st.ms.length mc).ownBlock≠some b
def CmR (w:World) (p:Nat) (s:ByteArray) (ext:Bool) (st:CS) (W:World):Prop:=∃ ta tb ts pa pc ma mc,CmSt w p s ext st ta tb ts pa pc ma mc W
theorem CmSt.step {w:World} {p:Nat} {s:ByteArray} {ext:Bool} {st:CS} {ta tb ts:Value} {pa:Option Addr} {pc:Nat} {ma:Option Addr} {mc:Nat} {W W':World} (h:CmSt w p s ext st ta tb ts pa pc ma mc W) (hb:Below W.heap.size W W'):CmSt w p s ext st ta tb ts pa pc ma mc W':=
 ⟨h.b0.trans (hb.mono h.b0.size),h.q.below hb h.q.lt,h.pg,h.ha.below hb,h.hb.below hb,h.hs.below hb,nd_own_below h.r hb,h.rg,nd_own_below h.pr hb,h.pp⟩
theorem CmR.step {w:World} {p:Nat} {s:ByteArray} {ext:Bool} {st:CS} {W W':World} (h:CmR w p s ext st W) (hb:Below W.heap.size W W'):CmR w p s ext st W':=by
 obtain ⟨ta,tb,ts,pa,pc,ma,mc,h⟩:=h
 exact ⟨ta,tb,ts,pa,pc,ma,mc,h.step hb⟩
theorem CmSt.put {w:World} {p:Nat} {s:ByteArray} {ext:Bool} {st:CS} {ta tb ts:Value} {pa:Option Addr} {pc:Nat} {ma:Option Addr} {mc:Nat} {W:World} (h:CmSt w p s ext st ta tb ts pa pc ma mc W) (j:Nat) (v:Value) (st':CS) (hg:st'.c.g=st.c.g) (ht:st'.c.sub.tree=st.c.sub.tree) (hp:st'.c.sub.parts=st.c.sub.parts) (hm:st'.ms=st.ms)
  (e:∀ pv mv,(cmC s ext st ta tb ts pv mv).setIfInBounds j v=cmC s ext st' ta tb ts pv mv):CmSt w p s ext st' ta tb ts pa pc ma mc (W.setCell ⟨p,j,none⟩ v):=by
 have o1:∀ b,b≠p→(W.setCell ⟨p,j,none⟩ v).heap[b]?=W.heap[b]?:=fun b hb=>Below.heap_setCell _ _ _ _ (fun e=>hb e)
 have hsz:(W.setCell ⟨p,j,none⟩ v).heap.size=W.heap.size:=by simp [World.setCell]
 have hk:∀ {t x},TrO (fun b=>w.heap.size≤b∧b≠p∧(Value.slice ma st.ms.length mc).ownBlock≠some b) W t x→TrO (fun b=>w.heap.size≤b∧b≠p∧(Value.slice ma st.ms.length mc).ownBlock≠some b) (W.setCell ⟨p,j,none⟩ v) t x:=fun hk=>TrO.keep (by omega) (fun b hb _=>⟨hb,fun o=>World.cell?_of_block (w:=W) (a:=⟨b,o,none⟩) (o1 b hb.2.1)⟩) hk
 refine ⟨h.b0.setCell (p:=⟨p,j,none⟩) h.pg v,?_,h.pg,?_,?_,?_,?_,?_,?_,?_⟩
 ·have h9:=h.q.set j v
  rw [e] at h9
  rw [hp,hm]
  exact h9
 ·rw [hg,hm];exact hk h.ha
 ·rw [hg,hm];exact hk h.hb
 ·rw [ht,hm];exact hk h.hs
 ·rw [hm];exact own_row_same h.r fun b hb=>o1 b fun e=>h.rg (by rw [hb,e])
 ·rw [hm];exact h.rg
 ·rw [hp];exact own_row_same h.pr fun b hb=>o1 b (h.pp b hb).1
 ·rw [hp,hm];exact h.pp
theorem CmSt.go {w:World} {p:Nat} {s:ByteArray} {ext:Bool} {st:CS} {ta tb ts:Value} {pa:Option Addr} {pc:Nat} {ma:Option Addr} {mc:Nat} {W:World} (h:CmSt w p s ext st ta tb ts pa pc ma mc W) (k:Nat):CmSt w p s ext (st.go k) ta tb ts pa pc ma mc (W.setCell ⟨p,2,none⟩ (.int .i64 (k:Int))):=
 h.put 2 _ (st.go k) rfl rfl rfl rfl fun _ _=>rfl
end Go.Proofs.YtbgfankoojjejaaGreatDoor
namespace Go.Proofs.YtbgfankoojjejaaGreatDoor
open Go Go.RowKit
theorem CmSt.push {w:World} {p:Nat} {s:ByteArray} {ext:Bool} {st:CS} {ta tb ts:Value} {pa:Option Addr} {pc:Nat} {ma:Option Addr} {mc:Nat} {W:World} (h:CmSt w p s ext st ta tb ts pa pc ma mc W) {W1 W6:World} (hb:Below W.heap.size W W1) {n:Nat} {ms2:List Wm} (hn:ms2.length=n) {a6:Option Addr} {c6:Nat}
  (hg:W1.grownBy W6 (Value.slice ma st.ms.length mc).ownBlock) (ho:W6.ownsRow w.heap.size 77 2 (.slice a6 (st.ms.length+n) c6) (st.ms.length+n) (wmC st.ms++wmC ms2))
  (hat:(Value.slice a6 (st.ms.length+n) c6).ownBlock=(Value.slice ma st.ms.length mc).ownBlock∨(Value.slice a6 (st.ms.length+n) c6).ownBlock=some W1.heap.size) :
  CmSt w p s ext { st with ms:=st.ms++ms2 } ta tb ts pa pc a6 c6 (W6.setCell ⟨p,23,none⟩ (.slice a6 (st.ms.length+n) c6)):=by
 subst hn
 have hl:(st.ms++ms2).length=st.ms.length+ms2.length:=List.length_append
 have hs1:=hb.size
 have hs6:=hg.size
 have hp1:=h.q.lt
 have o1:∀ b,b≠p→(W6.setCell ⟨p,23,none⟩ (.slice a6 (st.ms.length+ms2.length) c6)).heap[b]?=W6.heap[b]?:=fun b hb=>Below.heap_setCell _ _ _ _ (fun e=>hb e)
 have hsz:(W6.setCell ⟨p,23,none⟩ (.slice a6 (st.ms.length+ms2.length) c6)).heap.size=W6.heap.size:=by simp [World.setCell]
 have hnew:∀ b,b < W.heap.size→(Value.slice ma st.ms.length mc).ownBlock≠some b→(Value.slice a6 (st.ms.length+ms2.length) c6).ownBlock≠some b:=fun b hl h1 e=>by
  rcases hat with h2 | h2
  ·exact h1 (h2.symm.trans e)
  ·rw [h2] at e;injection e with e;omega
 have hkb:∀ b,b < W.heap.size→b≠p→(Value.slice ma st.ms.length mc).ownBlock≠some b→(W6.setCell ⟨p,23,none⟩ (.slice a6 (st.ms.length+ms2.length) c6)).heap[b]?=W.heap[b]?:=fun b hl h1 h2=>by
  rw [o1 b h1,hg.block b (by omega) (fun e=>h2 e.symm),hb.block b hl]
 have hk:∀ {t x},TrO (fun b=>w.heap.size≤b∧b≠p∧(Value.slice ma st.ms.length mc).ownBlock≠some b) W t x→TrO (fun b=>w.heap.size≤b∧b≠p∧(Value.slice a6 (st.ms.length+ms2.length) c6).ownBlock≠some b) (W6.setCell ⟨p,23,none⟩ (.slice a6 (st.ms.length+ms2.length) c6)) t x:=fun hk=>TrO.keep (by omega) (fun b hb hl=>⟨⟨hb.1,hb.2.1,hnew b hl hb.2.2⟩,fun o=>World.cell?_of_block (w:=W) (a:=⟨b,o,none⟩) (hkb b hl hb.2.1 hb.2.2)⟩) hk
 have hb0:Below w.heap.size w (W6.setCell ⟨p,23,none⟩ (.slice a6 (st.ms.length+ms2.length) c6)):=by
  have h0:=h.b0
  have hs0:=h0.size
  refine ⟨hg.os.trans (hb.os.trans h0.os),hg.tape.trans (hb.tape.trans h0.tape),hg.output.trans (hb.output.trans h0.output),by omega,fun b hl=>?_⟩
  have:=h.pg
  rw [hkb b (by omega) (by omega) (fun e=>by have:=own_of h.r b e;omega),h0.block b hl]
 refine ⟨hb0,?_,h.pg,?_,?_,?_,?_,?_,?_,?_⟩
 ·have h9:=(blkGrownR (h.q.below hb h.q.lt) hg h.rg).set 23 (.slice a6 (st.ms.length+ms2.length) c6)
  show Blk _ p (cmC s ext { st with ms:=st.ms++ms2 } ta tb ts (.slice pa st.c.sub.parts.length pc) (.slice a6 (st.ms++ms2).length c6)) _
  rw [hl]
  exact h9
 ·show TrO (fun b=>w.heap.size≤b∧b≠p∧(Value.slice a6 (st.ms++ms2).length c6).ownBlock≠some b) _ _ _
  rw [hl];exact hk h.ha
 ·show TrO (fun b=>w.heap.size≤b∧b≠p∧(Value.slice a6 (st.ms++ms2).length c6).ownBlock≠some b) _ _ _
  rw [hl];exact hk h.hb
 ·show TrO (fun b=>w.heap.size≤b∧b≠p∧(Value.slice a6 (st.ms++ms2).length c6).ownBlock≠some b) _ _ _
  rw [hl];exact hk h.hs
 ·show World.ownsRow _ w.heap.size _ 2 (.slice a6 (st.ms++ms2).length c6) (st.ms++ms2).length (wmC (st.ms++ms2))
  rw [hl,wmC_app]
  exact own_row_same ho fun b hb=>o1 b fun e=>hnew p hp1 h.rg (by rw [hb,e])
 ·show (Value.slice a6 (st.ms++ms2).length c6).ownBlock≠some p
  rw [hl];exact hnew p hp1 h.rg
 ·exact own_row_same h.pr fun b hb=>hkb b (own_lt' h.pr b hb) (h.pp b hb).1 (h.pp b hb).2
 ·intro b hb
  show b≠p∧(Value.slice a6 (st.ms++ms2).length c6).ownBlock≠some b
  rw [hl]
  exact ⟨(h.pp b hb).1,hnew b (own_lt' h.pr b hb) (h.pp b hb).2⟩
theorem kmark_any (w:World) (p:Nat) (s:ByteArray) (ext:Bool) (st:CS) (ta tb ts:Value) (pa:Option Addr) (pc:Nat) (ma:Option Addr) (mc:Nat) (wd:ByteArray) (W:World) (h:CmSt w p s ext st ta tb ts pa pc ma mc W) (hl:st.ms.length≤100000) :
  Calls Tryz.prog 36 #[.pointer (some ⟨p,0,none⟩),.string wd] W fun e W'=>e=.returned (.tuple #[])∧∃ a6 c6,CmSt w p s ext (st.mark st.k wd.data.toList) ta tb ts pa pc a6 c6 W':=by
 obtain ⟨i0,hi,hz0,hz1,hz2⟩:=mark_info
 have HH:=Lib.hid h
 have hplt:=h.q.lt
 have k2:W.cell? ⟨p,2,none⟩=some (.int .i64 (st.k:Int)):=(h.q.cell 2).trans rfl
 have k23:W.cell? ⟨p,23,none⟩=some (.slice ma st.ms.length mc):=(h.q.cell 23).trans rfl
 have hm1:st.ms.length+1≤maxLen:=by unfold maxLen;omega
 have hm2:(st.ms.length+1) * 24≤140737488355328:=by omega
 have hlo:w.heap.size≤W.heap.size:=h.b0.size
 have Hl:=Lib.hid hlo
 clear h
 go_enter Tryz.func36,Tryz.ntmps36
 go_region_law (first
  | (refine step_append_any rfl _ _ 36 rfl w.heap.size 77 i0 (.agg #[.int .i64 0,.string ⟨#[]⟩]) 2 24 Tryz.underlying36 hi hz0 hz1 hz2 rfl (by decide) (.slice ma st.ms.length mc) st.ms.length (wmC st.ms) rfl (nd_own_below HH.out.r (by repeat (first | (with_reducible exact Below.refl _ _) | refine Below.drew ?_ | refine Below.alloc ?_ (Nat.le_refl _) _))) (some ⟨W.heap.size,0,none⟩) 1 1 (wmC1 ((st.k:Int),wd)) rfl rfl (fun _=>⟨_,rfl,wmC1_new W ((st.k:Int),wd) _⟩) (wmC1_one _) hm1 hm2 (by simp;omega) ?_;intro v6 w6 hown6 hgrow6 hat6;obtain ⟨a6,c6,rfl⟩:=own_form' hown6;have HP:=Lib.hid (HH.out.push (n:=1) (ms2:=[((st.k:Int),wd)]) (((Below.refl W.heap.size W).alloc (Nat.le_refl _) _).drew) rfl hgrow6 (by simpa [wmC] using hown6) hat6);have f23:=(blkGrownR (HH.out.q.below (((Below.refl W.heap.size W).alloc (Nat.le_refl _) _).drew) HH.out.q.lt) hgrow6 HH.out.rg).frozen 23;have g23:w6.cell? ⟨p,23,none⟩=some (.slice ma st.ms.length mc):=((blkGrownR (HH.out.q.below (((Below.refl W.heap.size W).alloc (Nat.le_refl _) _).drew) HH.out.q.lt) hgrow6 HH.out.rg).cell 23).trans rfl;clear hown6 hgrow6 hat6))
 all_goals go_wp2_with fail
 all_goals go_end0
 all_goals exact ⟨rfl,_,_,HP.out⟩
end Go.Proofs.YtbgfankoojjejaaGreatDoor
namespace Go.Proofs.YtbgfankoojjejaaGreatDoor
open Go Go.RowKit
theorem CmSt.drewN {w:World} {p:Nat} {s:ByteArray} {ext:Bool} {st:CS} {ta tb ts:Value} {pa:Option Addr} {pc:Nat} {ma:Option Addr} {mc:Nat} {W:World} (h:CmSt w p s ext st ta tb ts pa pc ma mc W) (n:Nat):CmSt w p s ext st ta tb ts pa pc ma mc (W.drewN n):=h.step (below_drewN (Below.refl _ _) n)
theorem CmSt.drew {w:World} {p:Nat} {s:ByteArray} {ext:Bool} {st:CS} {ta tb ts:Value} {pa:Option Addr} {pc:Nat} {ma:Option Addr} {mc:Nat} {W:World} (h:CmSt w p s ext st ta tb ts pa pc ma mc W):CmSt w p s ext st ta tb ts pa pc ma mc W.drew:=h.step (Below.refl _ _).drew
theorem CmSt.R {w:World} {p:Nat} {s:ByteArray} {ext:Bool} {st:CS} {ta tb ts:Value} {pa:Option Addr} {pc:Nat} {ma:Option Addr} {mc:Nat} {W:World} (h:CmSt w p s ext st ta tb ts pa pc ma mc W):CmR w p s ext st W:=⟨_,_,_,_,_,_,_,h⟩
theorem pblk_of (s:ByteArray) (k:Nat) (hs:s.size≤4000000) (hk:k≤s.size) (w:World):Calls Tryz.prog 32 #[.string s,.int .i64 (k:Int)] w fun e w'=>e=.returned (.int .i64 (pcBlk s.data.toList k:Int))∧Below w.heap.size w w':=by
 have e:=pblanks_any s k w hs
 rw [pcBehind_at _ _ _ (by rw [←size_list];exact hk)] at e
 exact e
theorem kend_any (w:World) (p:Nat) (s:ByteArray) (ext:Bool) (st:CS) (W:World) (h:CmR w p s ext st W) (hs:s.size≤4000000) (hk:st.k≤s.size) (hl:st.ms.length≤100000) :
  Calls Tryz.prog 24 #[.pointer (some ⟨p,0,none⟩)] W fun e W'=>e=.returned (.int .i64 ((cmEnd s.data.toList st).1:Int))∧CmR w p s ext (cmEnd s.data.toList st).2 W':=by
 obtain ⟨ta,tb,ts,pa,pc,ma,mc,h⟩:=h
 have hB:=pblk_of s st.k hs hk
 obtain ⟨K,hK⟩:∃ K,pcBlk s.data.toList st.k=K:=⟨_,rfl⟩
 have hKl:K≤s.size:=by rw [←hK,size_list];exact (pcBlk_le _ _ (by rw [←size_list];exact hk)).2
 unfold cmEnd
 rw [hK] at hB ⊢
 have HH:=Lib.hid h
 have k0:W.cell? ⟨p,0,none⟩=some (.string s):=(h.q.cell 0).trans rfl
 have k2:W.cell? ⟨p,2,none⟩=some (.int .i64 (st.k:Int)):=(h.q.cell 2).trans rfl
 have Hl:=Lib.hid hl
 clear h hK hk hl
 by_cases hz:K=s.size
 ·rw [drop_end s K (by omega)]
  have hE:((K:Int) == (s.size:Int))=true:=by simp [hz]
  clear hz
  simp only
  go_enter Tryz.func24,Tryz.ntmps24;go_upto_region 1 with fail;go_cut [] (fun wx=>CmSt w p s ext (st.go K) ta tb ts pa pc ma mc wx);(case first=>((go_region_law (first | (go_simp;go_at_call 32;refine (hB _).mono ?_;rintro e w1 ⟨rfl,b1⟩;have H1:=Lib.hid (by first | exact HH.out.step b1 | exact HH.out.drew.step b1:CmSt w p s ext st ta tb ts pa pc ma mc w1);have f2:=H1.out.q.frozen 2;have g2:w1.cell? ⟨p,2,none⟩=some (.int .i64 (st.k:Int)):=(H1.out.q.cell 2).trans rfl;clear b1)));all_goals ((try go_wp2_with fail);go_meet;exact H1.out.go K)));have H2:=Lib.hid hcut;clear hcut k0 k2;have k0:World.cell? wc ⟨p,0,none⟩=some (.string s):=(H2.out.q.cell 0).trans rfl;have k2:World.cell? wc ⟨p,2,none⟩=some (.int .i64 (K:Int)):=(H2.out.q.cell 2).trans rfl;go_upto_region 2 with fail;go_quiet (fail);generalize nq=n1
  go_wp2_with fail
  go_ret
  exact ⟨rfl,(H2.out.drewN n1).R⟩
 ·have hlt:K < s.size:=by omega
  rw [drop_at s K hlt]
  have hE:((K:Int) == (s.size:Int))=false:=by simp;omega
  have hy0:(0:Int)≤(K:Int):=by omega
  have hy1:(K:Int) < (s.size:Int):=by omega
  clear hz
  simp only
  by_cases h1:s[K]=59∨s[K]=10∨s[K]=35
  ·rw [if_pos h1]
   rcases h1 with h1 | h1 | h1
   all_goals
    have e1:s[K].toNat=_:=congrArg UInt8.toNat h1
    clear h1
    go_enter Tryz.func24,Tryz.ntmps24;go_upto_region 1 with fail;go_cut [] (fun wx=>CmSt w p s ext (st.go K) ta tb ts pa pc ma mc wx);(case first=>((go_region_law (first | (go_simp;go_at_call 32;refine (hB _).mono ?_;rintro e w1 ⟨rfl,b1⟩;have H1:=Lib.hid (by first | exact HH.out.step b1 | exact HH.out.drew.step b1:CmSt w p s ext st ta tb ts pa pc ma mc w1);have f2:=H1.out.q.frozen 2;have g2:w1.cell? ⟨p,2,none⟩=some (.int .i64 (st.k:Int)):=(H1.out.q.cell 2).trans rfl;clear b1)));all_goals ((try go_wp2_with fail);go_meet;exact H1.out.go K)));have H2:=Lib.hid hcut;clear hcut k0 k2;have k0:World.cell? wc ⟨p,0,none⟩=some (.string s):=(H2.out.q.cell 0).trans rfl;have k2:World.cell? wc ⟨p,2,none⟩=some (.int .i64 (K:Int)):=(H2.out.q.cell 2).trans rfl;go_upto_region 2 with fail;go_quiet (fail);generalize nq=n1;go_upto_region 4 with fail;go_quiet (fail);have H4:=Lib.hid (H2.out.drewN (n1+nq))
    go_wp2_with fail
    go_ret
    exact ⟨rfl,H4.out.R⟩
  ·rw [if_neg h1]
   have n1:¬ s[K]=59:=fun e=>h1 (.inl e)
   have n2:¬ s[K]=10:=fun e=>h1 (.inr (.inl e))
   have n3:¬ s[K]=35:=fun e=>h1 (.inr (.inr e))
   have m1:¬ (s[K].toNat:Int)=59:=fun e=>n1 (UInt8.toNat_inj.1 (by show s[K].toNat=59;omega))
   have m2:¬ (s[K].toNat:Int)=10:=fun e=>n2 (UInt8.toNat_inj.1 (by show s[K].toNat=10;omega))
   have m3:¬ (s[K].toNat:Int)=35:=fun e=>n3 (UInt8.toNat_inj.1 (by show s[K].toNat=35;omega))
   have c1:((s[K].toNat:Int) == 59)=false:=by simpa using m1
   have c2:((s[K].toNat:Int) == 10)=false:=by simpa using m2
   have c3:((s[K].toNat:Int) == 35)=false:=by simpa using m3
   clear h1 n1 n2 n3 m1 m2 m3
   by_cases h2:s[K]=125
   ·rw [if_pos h2]
    have c4:((s[K].toNat:Int) == 125)=true:=by rw [h2];rfl
    clear h2
    go_enter Tryz.func24,Tryz.ntmps24;go_upto_region 1 with fail;go_cut [] (fun wx=>CmSt w p s ext (st.go K) ta tb ts pa pc ma mc wx);(case first=>((go_region_law (first | (go_simp;go_at_call 32;refine (hB _).mono ?_;rintro e w1 ⟨rfl,b1⟩;have H1:=Lib.hid (by first | exact HH.out.step b1 | exact HH.out.drew.step b1:CmSt w p s ext st ta tb ts pa pc ma mc w1);have f2:=H1.out.q.frozen 2;have g2:w1.cell? ⟨p,2,none⟩=some (.int .i64 (st.k:Int)):=(H1.out.q.cell 2).trans rfl;clear b1)));all_goals ((try go_wp2_with fail);go_meet;exact H1.out.go K)));have H2:=Lib.hid hcut;clear hcut k0 k2;have k0:World.cell? wc ⟨p,0,none⟩=some (.string s):=(H2.out.q.cell 0).trans rfl;have k2:World.cell? wc ⟨p,2,none⟩=some (.int .i64 (K:Int)):=(H2.out.q.cell 2).trans rfl;go_upto_region 2 with fail;go_quiet (fail);generalize nq=n1;go_upto_region 4 with fail;go_quiet (fail);have H4:=Lib.hid (H2.out.drewN (n1+nq))
    have hM:=kmark_any w p s ext (st.go K) ta tb ts pa pc ma mc ⟨#[125]⟩ _ H4.out Hl.out
    clear H4
    go_wp2_with (go_at_call 36;refine hM.mono ?_;clear hM;rintro e w5 ⟨rfl,a6,c6,h5⟩)
    go_ret
    exact ⟨rfl,h5.R⟩
   ·rw [if_neg h2]
    have c4:((s[K].toNat:Int) == 125)=false:=by
     have m4:¬ (s[K].toNat:Int)=125:=fun e=>h2 (UInt8.toNat_inj.1 (by show s[K].toNat=125;omega))
     simpa using m4
    clear h2
    go_enter Tryz.func24,Tryz.ntmps24;go_upto_region 1 with fail;go_cut [] (fun wx=>CmSt w p s ext (st.go K) ta tb ts pa pc ma mc wx);(case first=>((go_region_law (first | (go_simp;go_at_call 32;refine (hB _).mono ?_;rintro e w1 ⟨rfl,b1⟩;have H1:=Lib.hid (by first | exact HH.out.step b1 | exact HH.out.drew.step b1:CmSt w p s ext st ta tb ts pa pc ma mc w1);have f2:=H1.out.q.frozen 2;have g2:w1.cell? ⟨p,2,none⟩=some (.int .i64 (st.k:Int)):=(H1.out.q.cell 2).trans rfl;clear b1)));all_goals ((try go_wp2_with fail);go_meet;exact H1.out.go K)));have H2:=Lib.hid hcut;clear hcut k0 k2;have k0:World.cell? wc ⟨p,0,none⟩=some (.string s):=(H2.out.q.cell 0).trans rfl;have k2:World.cell? wc ⟨p,2,none⟩=some (.int .i64 (K:Int)):=(H2.out.q.cell 2).trans rfl;go_upto_region 2 with fail;go_quiet (fail);generalize nq=n1;go_upto_region 4 with fail;go_quiet (fail);have H4:=Lib.hid (H2.out.drewN (n1+nq))
    go_wp2_with fail
    go_ret
    exact ⟨rfl,H4.out.R⟩
end Go.Proofs.YtbgfankoojjejaaGreatDoor
