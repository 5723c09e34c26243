/- Texts. -/
import Derived.WalkKit
import Derived.WalkSmall
import Derived.Maps.AppendAt
import Derived.Tactics
import Derived.Deep.RegionLaw
import Derived.Deep.AppendLies
import Derived.RangeFuncIn
import Derived.RangeFuncRecord
import Derived.RangeFuncLeaves
import Derived.RangeFuncSeq
import Derived.Below
import Derived.Test.YteilldmmihiijaaGreatDoorQt01
import Derived.Laws.Bits128
import Derived.Test.YteilldmmihiijaaGreatDoorRows
import Derived.WalkSpells
import Derived.WalkLawsBesides
import Derived.BigRegion
import Derived.Lib.Hide
import Derived.Shelf.Spec.TrailingZeros
set_option linter.unusedSimpArgs false
set_option linter.unusedVariables false
set_option maxHeartbeats 8000000
set_option maxRecDepth 1000000
namespace Go.Proofs.YteilldmmihiijaaGreatDoor
open Go.Lib renaming hid→Ac8
open Nat renaming le_refl→Adf,le_trans→Adg,lt_of_lt_of_le→Adi
open Go.RowKit.Below renaming refl→Adk,heap_setCell→Adl
section
open Go.RowKit
def Blk (w:World) (a:Nat) (cs:Array Value) (T:TypeId):Prop:=w.heap[a]?=some (.cells cs T)
theorem Blk.lt {w:World} {a:Nat} {cs:Array Value} {T:TypeId} (h:Blk w a cs T):a < w.heap.size:=(Array.getElem?_eq_some_iff.1 h).1
theorem Blk.cell {w:World} {a:Nat} {cs:Array Value} {T:TypeId} (h:Blk w a cs T) (j:Nat):w.cell? ⟨a,j,none⟩=cs[j]?:=by
 unfold Blk at h;simp [World.cell?,h]
theorem Blk.frozen {w:World} {a:Nat} {cs:Array Value} {T:TypeId} (h:Blk w a cs T) (j:Nat):w.frozen? ⟨a,j,none⟩=false:=by
 unfold Blk at h;simp [World.frozen?,h]
theorem Blk.set {w:World} {a:Nat} {cs:Array Value} {T:TypeId} (h:Blk w a cs T) (j:Nat) (v:Value):Blk (w.setCell ⟨a,j,none⟩ v) a (cs.setIfInBounds j v) T:=by
 unfold Blk at h ⊢;simp only [World.setCell,Array.getElem?_modify,if_true,h];rfl
theorem Blk.set_other {w:World} {a:Nat} {cs:Array Value} {T:TypeId} (h:Blk w a cs T) (p:Addr) (hp:p.block≠a) (v:Value):Blk (w.setCell p v) a cs T:=by
 unfold Blk at h ⊢;rw [Adl _ _ _ _ (fun e=>hp e.symm)];exact h
theorem Blk.new (w:World) (cs:Array Value) (T:TypeId) (a:Nat) (ha:a=w.heap.size):Blk (w.alloc (.cells cs T)) a cs T:=by
 subst ha;show (w.heap.push _)[w.heap.size]?=_;rw [Array.getElem?_push_size]
theorem Blk.alloc {w:World} {a:Nat} {cs:Array Value} {T:TypeId} (h:Blk w a cs T) (o:Obj):Blk (w.alloc o) a cs T:=by
 have:=h.lt;unfold Blk at h ⊢;rw [Below.heap_alloc _ _ _ this];exact h
theorem Blk.drew {w:World} {a:Nat} {cs:Array Value} {T:TypeId} (h:Blk w a cs T):Blk w.drew a cs T:=h
theorem Blk.drewN {w:World} {a:Nat} {cs:Array Value} {T:TypeId} (h:Blk w a cs T) (n:Nat):Blk (w.drewN n) a cs T:=h
theorem Blk.below {w w':World} {B a:Nat} {cs:Array Value} {T:TypeId} (h:Blk w a cs T) (hb:Below B w w') (ha:a < B):Blk w' a cs T:=by
 unfold Blk at h ⊢;rw [hb.block a ha];exact h
end
section
open Go
variable {P:Program} (w:World)
theorem IQ (base:Nat) (t ty e:TypeId) (i:TypeInfo) (ht:P.underlying t=some (.slice e)) (hi:P.info? e=some i) (size:Nat) (v:Value) (n:Nat) (xs:List Value) (hown:w.ownsRow base e size v n xs) (a:Option Addr) (c:Nat) :
  (Builtin.append_ #[t,t] ty #[v,.slice a 0 c]).run P w=.ok v w:=by
 rcases hown.2 with ⟨rfl,rfl⟩ | ⟨g,cap,cur,rfl,_,_,hn,_⟩
 ·cases a <;> simp [Builtin.append_,run_underlying ht,sizeOf,typeInfo,hi,Builtin.lenOf,Builtin.firstCells,loadCells,loadCellsFrom]
 ·cases a <;> simp [Builtin.append_,run_underlying ht,sizeOf,typeInfo,hi,Builtin.lenOf,Builtin.firstCells,loadCells,loadCellsFrom,hn,storeCells]
theorem DW (base:Nat) (t ty e:TypeId) (i:TypeInfo) (z:Value) (size bytes:Nat) (ht:P.underlying t=some (.slice e)) (hi:P.info? e=some i) (hz:i.zero=some z)
  (hsize:i.size=size) (hby:i.bytes=bytes) (hzs:z.cells.size=size) (hsz:0 < size)
  (v:Value) (n:Nat) (xs:List Value) (hown:w.ownsRow base e size v n xs)
  (oa:Option Addr) (m c:Nat) (news:List Value) (hl:news.length=m * size) (hnews:0 < m→∃ a,oa=some a∧∀ j u,news[j]?=some u→w.cell? (a.add j)=some u) (h1:∀ u∈news,u.oneCell'=true)
  (h63:n+m≤maxLen) (hbytes:(n+m) * bytes≤140737488355328) (hbase:base≤w.heap.size) :
  ∃ v' w',(Builtin.append_ #[t,t] ty #[v,.slice oa m c]).run P w=.ok v' w'∧w'.ownsRow base e size v' (n+m) (xs++news)∧w.grownBy w' v.ownBlock∧
   (v'.ownBlock=v.ownBlock∨v'.ownBlock=some w.heap.size):=by
 by_cases hm:m=0
 ·subst hm
  have hn:news=[]:=List.eq_nil_of_length_eq_zero (by simpa using hl);subst hn;refine ⟨v,w,IQ w base t ty e i ht hi size v n xs hown oa c,?_,⟨rfl,rfl,rfl,Adf _,fun _ _ _=>rfl⟩,.inl rfl⟩;rw [List.append_nil];exact hown
 ·obtain ⟨a,rfl,hc⟩:=hnews (by omega)
  obtain ⟨v',w',h2,h3,h4,_,h5⟩:=run_append_own_at (P:=P) w base t ty e i z size bytes ht hi hz hsize hby hzs hsz v n xs hown a m c news hl hc h1 h63 hbytes hbase;exact ⟨v',w',h2,h3,h4,h5⟩
theorem Af {ops:Array Oper} {rest:List Oper} {o:Oper} {a:Act} {Q:Exit→Act→World→Prop} (hgd:o.guard=none) (s x:Operand) (t:TypeId)
  (ho:o.op=.call { callee:=.builtin .append,args:=#[s,x],argTypes:=#[t,t] })
  (base:Nat) (e:TypeId) (i:TypeInfo) (z:Value) (size bytes:Nat) (ht:P.underlying t=some (.slice e)) (hi:P.info? e=some i) (hz:i.zero=some z)
  (hsize:i.size=size) (hby:i.bytes=bytes) (hzs:z.cells.size=size) (hsz:0 < size)
  (v:Value) (n:Nat) (xs:List Value) (hs:a.eval s=v) (hown:w.ownsRow base e size v n xs)
  (oa:Option Addr) (m c:Nat) (news:List Value) (hx:a.eval x=.slice oa m c) (hl:news.length=m * size) (hnews:0 < m→∃ a,oa=some a∧∀ j u,news[j]?=some u→w.cell? (a.add j)=some u) (h1:∀ u∈news,u.oneCell'=true)
  (h63:n+m≤maxLen) (hbytes:(n+m) * bytes≤140737488355328) (hbase:base≤w.heap.size)
  (h:∀ v' w',w'.ownsRow base e size v' (n+m) (xs++news)→w.grownBy w' v.ownBlock→(v'.ownBlock=v.ownBlock∨v'.ownBlock=some w.heap.size)→wpList P ops Q rest (a.put o.dst v') w') :
  wpList P ops Q (o :: rest) a w:=by
 refine wpList_plain hgd fun K hK=>?_
 obtain ⟨v',w',hr,h2,h3,h4⟩:=DW (P:=P) w base t o.type e i z size bytes ht hi hz hsize hby hzs hsz v n xs hown oa m c news hl hnews h1 h63 hbytes hbase;unfold Oper.wp execOp;simp only [ho,resolve,invoke,builtin,Sem.run_bind,Sem.run_pure,Result.andThen_ok,List.map_toArray,List.map_cons,List.map_nil,hs,hx,hr];exact hK _ _ (h v' w' h2 h3 h4)
end
section
open Go
variable {P:Program}
theorem Bq {ops:Array Oper} {o:Oper} {a:Act} {w:World} {K:Act→World→Prop} {Q:Exit→Act→World→Prop} {E:Prop} (hgd:o.guard=none) (g:Operand) (xs:List Operand) (ts:Array TypeId)
  (ho:o.op=.call { callee:=.value g,args:=xs.toArray,argTypes:=ts }) (f:Nat) (vs:List Value) (hg:a.eval g=.func (.func f) #[] #[]) (hv:xs.map a.eval=vs) (eg:∀ args w,(callFunc f args).run P w=.ok (.enter f args) w)
  {R:Ending→World→Prop} (hC:Calls P f vs.toArray w R) (h:∀ e w',R e w'→∃ v,e=.returned v∧K (a.put o.dst v) w'):if Region.wanted o (yielded ops a.tmps)=true then Oper.wp P o a w K Q else E:=by
 rw [if_pos (by simp [Region.wanted,hgd])];have hE:(execOp a.eval o).run P w=.ok (.enter f vs.toArray) w:=by
  unfold execOp;simp only [ho,resolve,hg,List.map_toArray,hv];simp [go_sem,invoke,eg]
 unfold Oper.wp;rw [hE,Oper.upon_enter];refine hC.mono ?_;intro e w' hr;obtain ⟨v,rfl,hk⟩:=h e w' hr;exact hk
end
section
open Go Go.RowKit
structure Other (B:Nat) (C:Nat→Prop) (W W':World):Prop where
 os:W'.os=W.os
 tape:W'.tape=W.tape
 output:W'.output=W.output
 size:W.heap.size≤W'.heap.size
 block:∀ k,k < W.heap.size→(k < B∨C k)→W'.heap[k]?=W.heap[k]?
structure Rdn (n₀ B:Nat) (C C':Nat→Prop) (W W':World):Prop where
 size:W.heap.size≤W'.heap.size
 block:∀ k,k < W.heap.size→(k < n₀∨(B≤k∧¬ C k))→W'.heap[k]?=W.heap[k]?
 new:∀ k,C' k→C k∨(W.heap.size≤k∧k < W'.heap.size)
theorem Other.refl (B:Nat) (C:Nat→Prop) (W:World):Other B C W W:=⟨rfl,rfl,rfl,Adf _,fun _ _ _=>rfl⟩
theorem Other.trans {B:Nat} {C:Nat→Prop} {X Y Z:World} (h:Other B C X Y) (k:Other B C Y Z):Other B C X Z:=
 ⟨k.os.trans h.os,k.tape.trans h.tape,k.output.trans h.output,Adg h.size k.size,fun i hi hc=>(k.block i (Adi hi h.size) hc).trans (h.block i hi hc)⟩
theorem Other.drew {B:Nat} {C:Nat→Prop} {X Y:World} (h:Other B C X Y):Other B C X Y.drew:=⟨h.os,h.tape,h.output,h.size,h.block⟩
theorem Other.alloc {B:Nat} {C:Nat→Prop} {X Y:World} (h:Other B C X Y) (o:Obj):Other B C X (Y.alloc o):=
 h.trans ⟨rfl,rfl,rfl,by simp,fun k hk _=>Below.heap_alloc _ _ _ hk⟩
theorem Other.setCell {B:Nat} {C:Nat→Prop} {X Y:World} (h:Other B C X Y) {p:Addr} (hp:B≤p.block) (hc:¬ C p.block) (u:Value):Other B C X (Y.setCell p u):=
 h.trans ⟨rfl,rfl,rfl,by simp [World.setCell],fun k _ hk=>Adl _ _ _ _ (fun e=>by subst e;rcases hk with hk | hk <;> first | omega | exact hc hk)⟩
theorem Other.grown {B:Nat} {C:Nat→Prop} {X Y Z:World} {row:Option Nat} (h:Other B C X Y) (hg:Y.grownBy Z row) (hr:∀ k,row=some k→B≤k∧¬ C k):Other B C X Z:=
 h.trans ⟨hg.os,hg.tape,hg.output,hg.size,fun k hk hc=>hg.block k hk (fun e=>by have:=hr k e.symm;rcases hc with hc | hc <;> first | omega | exact this.2 hc)⟩
theorem Other.mono {B B':Nat} {C:Nat→Prop} {X Y:World} (h:Other B C X Y) (hB:B'≤B):Other B' C X Y:=
 ⟨h.os,h.tape,h.output,h.size,fun k hk hc=>h.block k hk (hc.elim (fun h=>.inl (Adi h hB)) .inr)⟩
theorem Other.none {B:Nat} {C:Nat→Prop} {X Y:World} (h:Other B C X Y):Other B (fun _=>False) X Y:=
 ⟨h.os,h.tape,h.output,h.size,fun k hk hc=>h.block k hk (.inl (hc.elim id False.elim))⟩
theorem Other.below {B:Nat} {C:Nat→Prop} {X Y:World} (h:Other B C X Y) (hB:B≤X.heap.size):Below B X Y:=
 ⟨h.os,h.tape,h.output,h.size,fun k hk=>h.block k (by omega) (.inl hk)⟩
theorem Other.of_below {B:Nat} {C:Nat→Prop} {X Y:World} (h:Below X.heap.size X Y):Other B C X Y:=
 ⟨h.os,h.tape,h.output,h.size,fun k hk _=>h.block k hk⟩
theorem Other.putObj {B:Nat} {C:Nat→Prop} (W:World) {k:Nat} (hk:B≤k) (hc:¬ C k) (o:Obj):Other B C W (W.putObj k o):=
 ⟨rfl,rfl,rfl,by simp,fun i _ hi=>World.putObj_heap_other (fun e=>by subst e;rcases hi with h | h <;> first | omega | exact hc h)⟩
def Zx {α:Type} (P:Program) (g:Nat) (lb:Array Value) (n₀:Nat) (Ok:List α→α→Array Value→(Nat→Prop)→Nat→World→Prop) (All:List α→Prop) (w:World):Prop:=
 ∀ (l m:Nat) (J:List α→(Nat→Prop)→World→Prop) (Jx:World→Prop) (W:World),Below w.heap.size w W→
  (∀ pre C X Y,J pre C X→Other W.heap.size C X Y→J pre C Y)→
  (∀ X Y,Jx X→Other W.heap.size (fun _=>False) X Y→Jx Y)→
  (∀ pre x args C X,J pre C X→Ok pre x args C W.heap.size X→YieldAt Fence.wide m P l args X fun e Y=>
   (e=.returned (.bool true)∧∃ C',J (pre++[x]) C' Y∧Rdn n₀ W.heap.size C C' X Y)∨(e=.returned (.bool false)∧Jx Y∧Rdn n₀ W.heap.size C C X Y))→
  J [] (fun _=>False) W→
  Calls P g (#[.func (.yield l) #[] #[]]++lb) W fun e Y=>(∃ v,e=.returned v)∧((∃ xs C,All xs∧J xs C Y)∨Jx Y)
def ZK {α:Type} (n₀ B:Nat) (C:Nat→Prop) (I:List α→(Nat→Prop)→World→Prop) (Ix:Code→World→Prop) (xs:List α) (W:World):Exit→Act→World→Prop
 | .normal,_,W'=>∃ C',Rdn n₀ B C C' W W'∧I xs C' W'
 | .ret,_,W'=>Rdn n₀ B C C W W'∧Ix .ret W'
 | .exit id,_,W'=>Rdn n₀ B C C W W'∧Ix (.exit id) W'
 | .goto t,_,W'=>Rdn n₀ B C C W W'∧Ix (.goto t) W'
 | .panic _,_,_=>False
 | .outgrown,_,_=>False
variable {P:Program} {n:Nat}
theorem Fw {α:Type} {g:Operand} {ps:Array Tmp} {assign body:Code} {Q:Exit→Act→World→Prop} {a:Act} {w w0:World} {gf n₀:Nat} {lb:Array Value}
  {Ok:List α→α→Array Value→(Nat→Prop)→Nat→World→Prop} {All:List α→Prop}
  (hg:a.eval g=.func (.func gf) #[] lb) (eg:∀ args w,(callFunc gf args).run P w=.ok (.enter gf args) w)
  (hseq:Zx P gf lb n₀ Ok All w0) (hb0:Below w0.heap.size w0 w) (hn₀:n₀≤w.heap.size)
  (hps:∀ pre x args C b W,Ok pre x args C b W→args.size=ps.size)
  (hOk:∀ pre x args C b W k o,Ok pre x args C b W→n₀≤k→k < b→Ok pre x args C b (W.putObj k o))
  (I:List α→(Nat→Prop)→World→Prop) (Ix:Code→World→Prop)
  (hI:∀ pre C X Y,I pre C X→Other w.heap.size C X Y→I pre C Y)
  (hIx:∀ c X Y,Ix c X→Other w.heap.size (fun _=>False) X Y→Ix c Y)
  (h0:I [] (fun _=>False) w)
  (hround:∀ (l:Nat) (pre:List α) (x:α) (args:Array Value) (C:Nat→Prop) (W:World),I pre C W→Ok pre x args C (w.heap.size+2) W→
   (∀ k,C k→w.heap.size+2≤k)→w.heap.size+2≤W.heap.size→
   assign.wpIn (Fence.wide.inRound l) n P (Exit.then (fun a₁ W₁=>W₁=W∧∀ W,I pre C W→Ok pre x args C (w.heap.size+2) W→w.heap.size+2≤W.heap.size→body.wpIn (Fence.wide.inRound l) n P (ZK n₀ w.heap.size C I Ix (pre++[x]) W) a₁ W) (fun _ _ _=>False))
    { tmps:=(ps.zip args).foldl (fun t (p,v)=>t.setIfInBounds p v) a.tmps,defers:=[] } W)
  (hdone:∀ (xs:List α) (C:Nat→Prop) (W:World),All xs→I xs C W→W.heap[w.heap.size]?=some (.deferred (some []))→Q .normal { a with defers:={ target:=.collected w.heap.size,args:=#[] } :: a.defers } W)
  (hstop:∀ (c:Code) (W:World),Ix c W→W.heap[w.heap.size]?=some (.deferred (some []))→c.wpIn Fence.wide n P Q { a with defers:={ target:=.collected w.heap.size,args:=#[] } :: a.defers } W) :
  (Code.rangeFunc g ps assign body).wpIn Fence.wide n P Q a w:=by
 refine wpIn_rangeFunc fun fn hfn=>?_
 generalize hD:w.heap.size=D at *
 -- the record, in its states
 obtain ⟨rec,hrec⟩:∃ rec:LoopState→Option Code→Loop,rec=fun st pe=>{ state:=st,pending:=pe,fn,tmps:=a.tmps,params:=ps,assign,body,defers:=D }:=⟨_,rfl⟩
 obtain ⟨V,hV⟩:∃ V,(w.alloc (.deferred (some []))).alloc (.loop (rec .ready none))=V:=⟨_,rfl⟩;have hVs:V.heap.size=D+2:=by rw [←hV];simp [hD]
 have hVl:V.heap[D+1]?=some (.loop (rec .ready none)):=by
  have h:=World.alloc_heap_new (w.alloc (.deferred (some []))) (.loop (rec .ready none));rw [World.size_alloc,hD,hV] at h;exact h
 have hVd:V.heap[D]?=some (.deferred (some [])):=by
  have h:=World.alloc_heap_new w (.deferred (some []));rw [hD] at h;rw [←hV,Below.heap_alloc _ _ _ (by simp [hD])];exact h
 have hVb:Below w.heap.size w V:=by
  rw [←hV];exact ((Adk _ w).alloc (Adf _) _).alloc (by simp) _
 have hVo:Other D (fun _=>False) w V:=Other.of_below hVb;refine ⟨D+1,[{ target:=.collected D,args:=#[] }],V,{ target:=.fn (.func gf) lb,args:=#[.func (.yield (D+1)) #[] #[]] },V,gf,#[.func (.yield (D+1)) #[] #[]]++lb,V,?_,?_,fun _ _=>trivial,?_,fun h=>by simp [Fence.wide] at h,?_⟩
 ·have h:=run_enterLoop_outer (P:=P) (w:=w) fn a.tmps ps assign body
  rw [hD] at h;rw [←hV,hrec];exact h
 ·simp only [resolve,hg]
  simp [go_sem]
 ·simp [invoke,go_sem,eg]
 refine callsIn_wide.2 ((hseq (D+1) n
  (fun pre C W=>I pre C W∧(∀ k,C k→D+2≤k)∧D+2≤W.heap.size∧W.heap[D+1]?=some (.loop (rec .ready none))∧W.heap[D]?=some (.deferred (some [])))
  (fun W=>∃ c,Ix c W∧D+2≤W.heap.size∧W.heap[D+1]?=some (.loop (rec .done (some c)))∧W.heap[D]?=some (.deferred (some [])))
  V (hb0.trans (hVb.mono hb0.size)) ?_ ?_ ?_ ⟨hI _ _ _ _ h0 hVo,fun k h=>h.elim,by omega,hVl,hVd⟩).mono ?_)
 ·rintro pre C X Y ⟨h1,h2,h3,h4,h5⟩ ho
  exact ⟨hI _ _ _ _ h1 (ho.mono (by omega)),h2,Adg h3 ho.size,(ho.block _ (by omega) (.inl (by omega))).trans h4,(ho.block _ (by omega) (.inl (by omega))).trans h5⟩
 ·rintro X Y ⟨c,h1,h3,h4,h5⟩ ho
  exact ⟨c,hIx _ _ _ h1 (ho.mono (by omega)),Adg h3 ho.size,(ho.block _ (by omega) (.inl (by omega))).trans h4,(ho.block _ (by omega) (.inl (by omega))).trans h5⟩
 ·-- one round
  rintro pre x args C X ⟨h1,h2,h3,h4,h5⟩ hok;rw [hVs] at hok ⊢;have hy:=run_yield (P:=P) (args:=args) h4 (by rw [hrec];exact hps _ _ _ _ _ _ hok);rw [hrec] at hy;refine ⟨fn,_,assign,body,hy,roundIn_of_wpIn hfn (wpIn_mono (hround (D+1) pre x args C X h1 hok h2 h3) ?_)⟩;intro e a₁ W₁ hq;cases e with
  | normal=>
   obtain ⟨rfl,hb⟩:=hq;have hc1:¬ C (D+1):=fun h=>by have:=h2 _ h;omega
   have hc0:¬ C D:=fun h=>by have:=h2 _ h;omega
   refine ⟨_,run_beginRound h4 (by rw [hrec]),?_⟩;have hbusy:(W₁.putObj (D+1) (.loop { rec .ready none with state:=.busy })).heap[D+1]?=some (.loop { rec .ready none with state:=.busy }):=World.putObj_heap_same (by omega);have hdef:(W₁.putObj (D+1) (.loop { rec .ready none with state:=.busy })).heap[D]?=some (.deferred (some [])):=(World.putObj_heap_other (by omega)).trans h5;refine wpIn_mono (hb (W₁.putObj (D+1) (.loop { rec .ready none with state:=.busy })) (hI _ _ _ _ h1 (Other.putObj _ (by omega) hc1 _)) (hOk _ _ _ _ _ _ _ _ hok (by omega) (by omega)) (by simpa using h3)) ?_;have fin:∀ (jump:Option Code) (C':Nat→Prop) (W3:World),Rdn n₀ D C C' (W₁.putObj (D+1) (.loop { rec .ready none with state:=.busy })) W3→
     ∃ W4,W4=W3.putObj (D+1) (.loop (rec (if jump.isNone then .ready else .done) jump))∧(Instr.endRound (D+1) jump).run P W3=.ok (.bool jump.isNone) W4∧
     (∀ C,(¬ C (D+1))→Other D C W3 W4)∧W4.heap[D+1]?=some (.loop (rec (if jump.isNone then .ready else .done) jump))∧W4.heap[D]?=some (.deferred (some []))∧D+2≤W4.heap.size∧Rdn n₀ (D+2) C C' W₁ W4:=by
    intro jump C' W3 hr;have hl3:W3.heap[D+1]?=some (.loop { rec .ready none with state:=.busy }):=(hr.block _ (by simp;omega) (.inr ⟨by omega,hc1⟩)).trans hbusy;have hd3:W3.heap[D]?=some (.deferred (some [])):=(hr.block _ (by simp;omega) (.inr ⟨by omega,hc0⟩)).trans hdef;have hs:=hr.size;rw [World.putObj_size] at hs;have hrun:=run_endRound (P:=P) jump hl3;rw [hrec] at hrun ⊢;refine ⟨_,rfl,hrun,fun C hC=>Other.putObj _ (by omega) hC _,World.putObj_heap_same (by omega),(World.putObj_heap_other (by omega)).trans hd3,by simp;omega,⟨by simp;omega,fun k hk hkc=>?_,fun k hk=>(hr.new k hk).elim .inl (fun h=>.inr (by simpa using h))⟩⟩;have hne:k≠D+1:=by
     rcases hkc with h | h <;> omega
    rw [World.putObj_heap_other hne,hr.block k (by simpa using hk) (hkc.elim .inl (fun h=>.inr ⟨by omega,h.2⟩)),World.putObj_heap_other hne]
   rintro e a3 W3 hp;cases e with
   | normal=>
    obtain ⟨C',hr,hi⟩:=hp;obtain ⟨W4,_,hrun,ho,hl,hd,hs,hr4⟩:=fin none C' W3 hr;have hC':∀ k,C' k→D+2≤k:=fun k hk=>(hr.new k hk).elim (h2 k) (fun h=>by have:=h.1;simp at this;omega)
    exact ⟨_,_,hrun,.inl ⟨rfl,C',⟨hI _ _ _ _ hi (ho C' (fun h=>by have:=hC' _ h;omega)),hC',hs,hl,hd⟩,hr4⟩⟩
   | ret=>
    obtain ⟨hr,hi⟩:=hp;obtain ⟨W4,_,hrun,ho,hl,hd,hs,hr4⟩:=fin (some .ret) C W3 hr;exact ⟨_,_,hrun,.inr ⟨rfl,⟨.ret,hIx _ _ _ hi (ho _ (fun h=>h)),hs,hl,hd⟩,hr4⟩⟩
   | exit id=>
    obtain ⟨hr,hi⟩:=hp;obtain ⟨W4,_,hrun,ho,hl,hd,hs,hr4⟩:=fin (some (.exit id)) C W3 hr;exact ⟨_,_,hrun,.inr ⟨rfl,⟨.exit id,hIx _ _ _ hi (ho _ (fun h=>h)),hs,hl,hd⟩,hr4⟩⟩
   | goto t=>
    obtain ⟨hr,hi⟩:=hp;obtain ⟨W4,_,hrun,ho,hl,hd,hs,hr4⟩:=fin (some (.goto t)) C W3 hr;exact ⟨_,_,hrun,.inr ⟨rfl,⟨.goto t,hIx _ _ _ hi (ho _ (fun h=>h)),hs,hl,hd⟩,hr4⟩⟩
   | panic ch=>exact hp.elim
   | outgrown=>exact hp.elim
  | exit id=>exact hq.elim
  | goto t=>exact hq.elim
  | ret=>exact hq.elim
  | panic ch=>exact hq.elim
  | outgrown=>exact hq.elim
 ·-- behind the iterator
  rintro e Y ⟨⟨v,rfl⟩,⟨xs,C,hA,h1,h2,h3,h4,h5⟩ | ⟨c,h1,h3,h4,h5⟩⟩
  ·have hrun:=run_endLoop (P:=P) h4 (by rw [hrec];simp)
   rw [hrec] at hrun;exact ⟨none,_,hrun,hdone xs C _ hA (hI _ _ _ _ h1 (Other.putObj _ (by omega) (fun h=>by have:=h2 _ h;omega) _)) ((World.putObj_heap_other (by omega)).trans h5)⟩
  ·have hrun:=run_endLoop (P:=P) h4 (by rw [hrec];simp)
   rw [hrec] at hrun;exact ⟨some c,_,hrun,hstop c _ (hIx _ _ _ h1 (Other.putObj _ (by omega) (fun h=>h) _)) ((World.putObj_heap_other (by omega)).trans h5)⟩
end
section
def rep (c:Nat):Nat→Nat
 | 0=>0
 | k+1=>c+256 * rep c k
def f1 (b:Nat):Nat:=(b / 2 &&& 85)+(b &&& 85)
def f2 (b:Nat):Nat:=(b / 4 &&& 51)+(b &&& 51)
def f3 (b:Nat):Nat:=b / 16+b % 16
end
section
open Go.RowKit
theorem Fx {a b:Bool} (h:a=b):Ending.returned (.bool a)=.returned (.bool b):=by rw [h]
theorem GL {k:IntKind} {a b:Int} (h:a=b):Ending.returned (.int k a)=.returned (.int k b):=by rw [h]
theorem ZL:IntKind.u64.max=18446744073709551615:=by decide
theorem QR (s:OSet) (x:Int) (h0:0≤x) (h1:x≤255) (w:World) :
  Calls Tryz.prog 162 #[.agg #[.int .u64 (ow s 0),.int .u64 (ow s 1),.int .u64 (ow s 2),.int .u64 (ow s 3)],.int .u8 x] w fun e w'=>e=.returned (.bool (ohas s x.toNat))∧Below w.heap.size w w':=by
 have hq:x / 64=0∨x / 64=1∨x / 64=2∨x / 64=3:=by omega
 rcases hq with hq | hq | hq | hq
 all_goals
  have H:=X6 s _ x h0 h1 hq;have K:=Ac8 H;clear H;go_enter Tryz.func162,Tryz.ntmps162
  go_wp2
  go_ret;exact ⟨Fx K.out,(Adk _ _).alloc (Adf _) _⟩
theorem FR (s:OSet) (w:World) :
  Calls Tryz.prog 137 #[.agg #[.int .u64 (ow s 0),.int .u64 (ow s 1),.int .u64 (ow s 2),.int .u64 (ow s 3)]] w fun e w'=>e=.returned (.agg #[.int .u64 (ow (~~~s) 0),.int .u64 (ow (~~~s) 1),.int .u64 (ow (~~~s) 2),.int .u64 (ow (~~~s) 3)])∧Below w.heap.size w w':=by
 have k0:=Eo s 0 (by decide);have k1:=Eo s 1 (by decide);have k2:=Eo s 2 (by decide);have k3:=Eo s 3 (by decide);rw [←ZL] at k0 k1 k2 k3;go_enter Tryz.func137,Tryz.ntmps137
 go_wp2
 refine wp_loop_rounds 5 ?_
 iterate 5 (rw [rounds_succ];go_wp2)
 refine bodyPost_ret (v:=.agg #[.int .u64 (ow (~~~s) 0),.int .u64 (ow (~~~s) 1),.int .u64 (ow (~~~s) 2),.int .u64 (ow (~~~s) 3)]) (by simp [results,Tryz.results137,go_sem]) rfl ⟨rfl,?_⟩;exact ((Adk _ _).alloc (Adf _) _).alloc (by simp) _
theorem XG (s t:OSet) (w:World) :
  Calls Tryz.prog 182 #[.agg #[.int .u64 (ow s 0),.int .u64 (ow s 1),.int .u64 (ow s 2),.int .u64 (ow s 3)],.agg #[.int .u64 (ow t 0),.int .u64 (ow t 1),.int .u64 (ow t 2),.int .u64 (ow t 3)]] w fun e w'=>e=.returned (.agg #[.int .u64 (ow (s &&& t) 0),.int .u64 (ow (s &&& t) 1),.int .u64 (ow (s &&& t) 2),.int .u64 (ow (s &&& t) 3)])∧Below w.heap.size w w':=by
 have k0:=En s t 0;have k1:=En s t 1;have k2:=En s t 2;have k3:=En s t 3;go_enter Tryz.func182,Tryz.ntmps182
 go_wp2
 refine wp_loop_rounds 5 ?_
 iterate 4 (rw [rounds_succ];go_wp2;go_region;go_wp2)
 rw [rounds_succ]
 go_wp2
 refine bodyPost_ret (v:=.agg #[.int .u64 (ow (s &&& t) 0),.int .u64 (ow (s &&& t) 1),.int .u64 (ow (s &&& t) 2),.int .u64 (ow (s &&& t) 3)]) (by simp [results,Tryz.results182,go_sem]) rfl ⟨rfl,?_⟩
 repeat (first | exact Adk _ _ | refine Below.drew ?_ | refine Below.alloc ?_ (by simp <;> omega) _)
theorem D0 (s t:OSet) (w:World) :
  Calls Tryz.prog 161 #[.agg #[.int .u64 (ow s 0),.int .u64 (ow s 1),.int .u64 (ow s 2),.int .u64 (ow s 3)],.agg #[.int .u64 (ow t 0),.int .u64 (ow t 1),.int .u64 (ow t 2),.int .u64 (ow t 3)]] w fun e w'=>e=.returned (.agg #[.int .u64 (ow (s ||| t) 0),.int .u64 (ow (s ||| t) 1),.int .u64 (ow (s ||| t) 2),.int .u64 (ow (s ||| t) 3)])∧Below w.heap.size w w':=by
 have k0:=EO s t 0;have k1:=EO s t 1;have k2:=EO s t 2;have k3:=EO s t 3;go_enter Tryz.func161,Tryz.ntmps161
 go_wp2
 refine wp_loop_rounds 5 ?_
 iterate 4 (rw [rounds_succ];go_wp2;go_region;go_wp2)
 rw [rounds_succ]
 go_wp2
 refine bodyPost_ret (v:=.agg #[.int .u64 (ow (s ||| t) 0),.int .u64 (ow (s ||| t) 1),.int .u64 (ow (s ||| t) 2),.int .u64 (ow (s ||| t) 3)]) (by simp [results,Tryz.results161,go_sem]) rfl ⟨rfl,?_⟩
 repeat (first | exact Adk _ _ | refine Below.drew ?_ | refine Below.alloc ?_ (by simp <;> omega) _)
theorem K6 (w:World) (n:Nat) (a:Addr) (u:Value):(w.drewN n).setCell a u=(w.setCell a u).drewN n:=rfl
theorem Uh (x:Int) (_h0:0≤x):IntKind.u64.wrap (2 ^ (x % 64).toNat)=2 ^ (x % 64).toNat:=by
 have h1:(x % 64).toNat < 64:=by omega
 have h2:(2:Int) ^ (x % 64).toNat < 2 ^ 64:=Int.pow_lt_pow_of_lt (by decide) h1;have h3:(0:Int)≤2 ^ (x % 64).toNat:=Int.le_of_lt (Int.pow_pos (by decide));rw [IntKind.wrap_u64];exact Int.emod_eq_of_lt h3 h2
theorem K7 (s:OSet) (i:Nat) (x:Int) (h0:0≤x) (h1:x≤255) (hi:x / 64=i):bits .or .u64 (ow s i) (IntKind.u64.wrap (2 ^ (x % 64).toNat))=ow (s ||| Gq x.toNat) i:=by
 rw [Uh x h0];exact MY s i x h0 h1 hi
theorem QS (s:OSet) (x:Int) (h0:0≤x) (h1:x≤255) (n p:Nat) (v:World) (hp:p=v.heap.size) :
  Calls Tryz.prog 152 #[.pointer (some ⟨p,0,none⟩),.int .u8 x] ((v.alloc (.cells #[.int .u64 (ow s 0),.int .u64 (ow s 1),.int .u64 (ow s 2),.int .u64 (ow s 3)] 109)).drewN n) fun e w'=>e=.returned (.tuple #[])∧
   (v.alloc (.cells #[.int .u64 (ow (s ||| Gq x.toNat) 0),.int .u64 (ow (s ||| Gq x.toNat) 1),.int .u64 (ow (s ||| Gq x.toNat) 2),.int .u64 (ow (s ||| Gq x.toNat) 3)] 109)).drewN (n+1)=w':=by
 subst hp;have hq:x / 64=0∨x / 64=1∨x / 64=2∨x / 64=3:=by omega
 rcases hq with hq | hq | hq | hq
 all_goals
  have k:=K7 s _ x h0 h1 hq;have p0:=Ac8 (GE s 0 x h0 h1);have p1:=Ac8 (GE s 1 x h0 h1);have p2:=Ac8 (GE s 2 x h0 h1);have p3:=Ac8 (GE s 3 x h0 h1);go_enter Tryz.func152,Tryz.ntmps152
  go_wp2
  go_region
  go_wp2
  go_end0;refine ⟨rfl,?_⟩;rw [K6,World.setCell_alloc_at _ _ _ _ _ rfl];first | rw [p0.out (by omega)] | skip
  first | rw [p1.out (by omega)] | skip
  first | rw [p2.out (by omega)] | skip
  first | rw [p3.out (by omega)] | skip
  rfl
end
section
open Go.RowKit
theorem OO (zs:List Int) (b o cap:Nat) (w:World) (hb:b < w.heap.size) (hm:zs.length≤maxLen)
  (hc:∀ i,i < zs.length→w.cell? ⟨b,o+i,none⟩=some (.int .u8 (zs.getD i 0))) (hr:∀ i,0≤zs.getD i 0∧zs.getD i 0≤255) :
  Calls Tryz.prog 138 #[.slice (some ⟨b,o,none⟩) zs.length cap] w fun e w'=>e=.returned (.agg #[.int .u64 (ow (Dt zs) 0),.int .u64 (ow (Dt zs) 1),.int .u64 (ow (Dt zs) 2),.int .u64 (ow (Dt zs) 3)])∧Below w.heap.size w w':=by
 unfold maxLen at hm;have Hc:=Ac8 hc;clear hc;have Hr:=Ac8 hr;clear hr;go_enter Tryz.func138,Tryz.ntmps138
 go_wp2
 go_loopw [8] (fun i wr=>∃ k n:Nat,k≤zs.length∧i=.int .i64 k∧wr=((w.alloc (.cells #[.int .u64 0,.int .u64 0,.int .u64 0,.int .u64 0] 109)).alloc (.cells #[.int .u64 (ow (Dt (zs.take k)) 0),.int .u64 (ow (Dt (zs.take k)) 1),.int .u64 (ow (Dt (zs.take k)) 2),.int .u64 (ow (Dt (zs.take k)) 3)] 109)).drewN n) (fun i _=>zs.length - (intOf i).toNat)
 case atStart=>exact ⟨0,0,Nat.zero_le _,rfl,by rw [World.drewN_zero,List.take_zero,X8,Al,Al,Al,Al]⟩
 case round=>
  obtain ⟨k,n,hk,rfl,rfl⟩:=hrel;by_cases hlt:k < zs.length
  ·have hcell:=Hc.out k hlt
   have hrk:=Hr.out k;have hsn0:=Uc zs k hlt;generalize zs.getD k 0=z at hcell hrk hsn0;have hsn:=Ac8 hsn0;clear hsn0;go_wp2_with (go_at_call 152;refine (QS _ _ hrk.1 hrk.2 _ _ _ (by simp)).mono ?_;rintro e w' ⟨rfl,rfl⟩)
   go_roundw
   case rel=>exact ⟨k+1,n+1,by omega,by go_num,by rw [hsn.out]⟩
   case measure=>simp [intOf];omega
  ·go_wp2
   have hkz:=Ac8 (show zs.take k=zs from List.take_of_length_le (by omega));refine bodyPost_ret (v:=.agg #[.int .u64 (ow (Dt (zs.take k)) 0),.int .u64 (ow (Dt (zs.take k)) 1),.int .u64 (ow (Dt (zs.take k)) 2),.int .u64 (ow (Dt (zs.take k)) 3)]) (by simp [results,Tryz.results138,go_sem]) rfl ⟨by rw [hkz.out],?_⟩
   repeat (first | exact Adk _ _ | refine Below.drew ?_ | refine below_drewN ?_ _ | refine Below.setCell ?_ (by simp <;> omega) _ | refine Below.alloc ?_ (by simp <;> omega) _)
theorem EA (lo hi:Int) (w:World) (h0:0≤lo) (h1:lo≤255) (h2:0≤hi) (h3:hi≤255) :
  Calls Tryz.prog 179 #[.int .u8 lo,.int .u8 hi] w fun e w'=>e=.returned (.agg #[.int .u64 (ow (Ab lo hi) 0),.int .u64 (ow (Ab lo hi) 1),.int .u64 (ow (Ab lo hi) 2),.int .u64 (ow (Ab lo hi) 3)])∧Below w.heap.size w w':=by
 go_enter Tryz.func179,Tryz.ntmps179
 go_wp2
 go_loopw [13] (fun i wr=>∃ k n:Nat,k≤(hi - lo+1).toNat∧i=.int .i64 k∧wr=((w.alloc (.cells #[.int .u64 0,.int .u64 0,.int .u64 0,.int .u64 0] 109)).alloc (.cells #[.int .u64 (ow (CH lo.toNat k) 0),.int .u64 (ow (CH lo.toNat k) 1),.int .u64 (ow (CH lo.toNat k) 2),.int .u64 (ow (CH lo.toNat k) 3)] 109)).drewN n) (fun i _=>256 - (intOf i).toNat)
 case atStart=>exact ⟨0,0,Nat.zero_le _,rfl,by rw [World.drewN_zero,CH,Al,Al,Al,Al]⟩
 case round=>
  obtain ⟨k,n,hk,rfl,rfl⟩:=hrel;by_cases hlt:(k:Int) < hi - lo+1
  ·go_wp2_with (go_at_call 152;refine (QS _ _ (by omega) (by omega) _ _ _ (by simp)).mono ?_;rintro e w' ⟨rfl,rfl⟩)
   have hsn:CH lo.toNat (k+1)=CH lo.toNat k ||| Gq (lo+k).toNat:=by
    rw [CH,show lo.toNat+k=(lo+k).toNat by omega]
   go_roundw
   case rel=>exact ⟨k+1,n+1,by omega,by go_num,by rw [hsn]⟩
   case measure=>simp [intOf];omega
  ·have hkz:=Ac8 (show Ab lo hi=CH lo.toNat k from by unfold Ab;rw [show (hi - lo+1).toNat=k by omega])
   go_wp2
   refine bodyPost_ret (v:=.agg #[.int .u64 (ow (CH lo.toNat k) 0),.int .u64 (ow (CH lo.toNat k) 1),.int .u64 (ow (CH lo.toNat k) 2),.int .u64 (ow (CH lo.toNat k) 3)]) (by simp [results,Tryz.results179,go_sem]) rfl ⟨by rw [hkz.out],?_⟩
   repeat (first | exact Adk _ _ | refine Below.drew ?_ | refine below_drewN ?_ _ | refine Below.setCell ?_ (by simp <;> omega) _ | refine Below.alloc ?_ (by simp <;> omega) _)
def oc (s:OSet):Array Value:=#[.int .u64 (ow s 0),.int .u64 (ow s 1),.int .u64 (ow s 2),.int .u64 (ow s 3)]
theorem DX {w:World} {a:Nat} {s:OSet} {T:TypeId} (h:Blk w a (oc s) T) :
  w.cell? ⟨a,0,none⟩=some (.int .u64 (ow s 0))∧w.cell? ⟨a,1,none⟩=some (.int .u64 (ow s 1))∧w.cell? ⟨a,2,none⟩=some (.int .u64 (ow s 2))∧w.cell? ⟨a,3,none⟩=some (.int .u64 (ow s 3)):=
 ⟨by rw [h.cell];rfl,by rw [h.cell];rfl,by rw [h.cell];rfl,by rw [h.cell];rfl⟩
theorem J0 {w:World} {a:Nat} {s:OSet} {T:TypeId} (h:Blk w a (oc s) T) (t:OSet) :
  Blk ((((w.setCell ⟨a,0,none⟩ (.int .u64 (ow t 0))).setCell ⟨a,1,none⟩ (.int .u64 (ow t 1))).setCell ⟨a,2,none⟩ (.int .u64 (ow t 2))).setCell ⟨a,3,none⟩ (.int .u64 (ow t 3))) a (oc t) T:=by
 have:=(((h.set 0 (.int .u64 (ow t 0))).set 1 (.int .u64 (ow t 1))).set 2 (.int .u64 (ow t 2))).set 3 (.int .u64 (ow t 3));exact this
end
section
open Go.RowKit
theorem Ah {w:World} {a:Nat} {T:TypeId} (h:Blk w a #[.int .u64 0,.int .u64 0,.int .u64 0,.int .u64 0] T) :
  w.cell? ⟨a,0,none⟩=some (.int .u64 0)∧w.cell? ⟨a,1,none⟩=some (.int .u64 0)∧w.cell? ⟨a,2,none⟩=some (.int .u64 0)∧w.cell? ⟨a,3,none⟩=some (.int .u64 0):=
 ⟨by rw [h.cell];rfl,by rw [h.cell];rfl,by rw [h.cell];rfl,by rw [h.cell];rfl⟩
def CL:OSet:=Ab 97 122
def CM:OSet:=Ab 65 90
def BS:OSet:=Ab 48 57
def CN:OSet:=Ab 33 126
def CP:OSet:=CL ||| CM
def CQ:OSet:=CP ||| BS
def CR:OSet:=Dt [32,9]
def XH:OSet:=BS ||| Ab 65 70 ||| Ab 97 102
def ZM:OSet:=CR ||| Ab 10 13
def ZN:OSet:=Ab 0 31 ||| Dt [127]
def ZO:OSet:=Ab 32 126
def ZP:OSet:=CN &&& ~~~CQ
def A4 (l:List UInt8):OSet:=
 bif l == [108,111,119,101,114] then CL else bif l == [117,112,112,101,114] then CM else bif l == [97,108,112,104,97] then CP
 else bif l == [100,105,103,105,116] then BS else bif l == [97,108,110,117,109] then CQ else bif l == [120,100,105,103,105,116] then XH
 else bif l == [98,108,97,110,107] then CR else bif l == [115,112,97,99,101] then ZM else bif l == [99,110,116,114,108] then ZN
 else bif l == [112,114,105,110,116] then ZO else bif l == [103,114,97,112,104] then CN else bif l == [112,117,110,99,116] then ZP else oz
def CA (l:List UInt8):Bool:=
 l == [108,111,119,101,114] || l == [117,112,112,101,114] || l == [97,108,112,104,97] || l == [100,105,103,105,116] || l == [97,108,110,117,109] || l == [120,100,105,103,105,116]
 || l == [98,108,97,110,107] || l == [115,112,97,99,101] || l == [99,110,116,114,108] || l == [112,114,105,110,116] || l == [103,114,97,112,104] || l == [112,117,110,99,116]
theorem C8 (x:Int) (h0:0≤x) (h1:x≤255) (W:World) (p:Nat) (hp:p=W.heap.size) :
  Calls Tryz.prog 138 #[.slice (some ⟨p,0,none⟩) 1 1] (W.alloc (.cells #[.int .u8 x] 5)) fun e w'=>e=.returned (.agg #[.int .u64 (ow (Dt [x]) 0),.int .u64 (ow (Dt [x]) 1),.int .u64 (ow (Dt [x]) 2),.int .u64 (ow (Dt [x]) 3)])∧Below W.heap.size W w':=by
 refine (OO [x] p 0 1 _ (by subst hp;simp) (by simp [maxLen]) (fun i hi=>?_) (fun i=>?_)).mono ?_
 ·rw [(Blk.new W _ _ _ hp).cell]
  match i,hi with
  | 0,_=>rfl
 ·match i with
  | 0=>exact ⟨h0,h1⟩
  | _+1=>simp
 ·rintro e w' ⟨rfl,hb⟩
  exact ⟨rfl,((Adk _ _).alloc (Adf _) _).trans (hb.mono (by simp))⟩
theorem ZQ (x y:Int) (h0:0≤x) (h1:x≤255) (h2:0≤y) (h3:y≤255) (W:World) (p:Nat) (hp:p=W.heap.size) :
  Calls Tryz.prog 138 #[.slice (some ⟨p,0,none⟩) 2 2] (W.alloc (.cells #[.int .u8 x,.int .u8 y] 5)) fun e w'=>e=.returned (.agg #[.int .u64 (ow (Dt [x,y]) 0),.int .u64 (ow (Dt [x,y]) 1),.int .u64 (ow (Dt [x,y]) 2),.int .u64 (ow (Dt [x,y]) 3)])∧Below W.heap.size W w':=by
 refine (OO [x,y] p 0 2 _ (by subst hp;simp) (by simp [maxLen]) (fun i hi=>?_) (fun i=>?_)).mono ?_
 ·rw [(Blk.new W _ _ _ hp).cell]
  match i,hi with
  | 0,_=>rfl
  | 1,_=>rfl
 ·match i with
  | 0=>exact ⟨h0,h1⟩
  | 1=>exact ⟨h2,h3⟩
  | _+2=>simp
 ·rintro e w' ⟨rfl,hb⟩
  exact ⟨rfl,((Adk _ _).alloc (Adf _) _).trans (hb.mono (by simp))⟩
theorem KS (w:World) :
  Calls Tryz.prog 174 #[] w fun e w'=>e=.returned (.agg #[.int .u64 (ow CL 0),.int .u64 (ow CL 1),.int .u64 (ow CL 2),.int .u64 (ow CL 3)])∧Below w.heap.size w w':=by
 have hB:=Blk.new w #[.int .u64 0,.int .u64 0,.int .u64 0,.int .u64 0] 109 _ rfl;have hW:=(Adk w.heap.size w).alloc (Adf _) (.cells #[.int .u64 0,.int .u64 0,.int .u64 0,.int .u64 0] 109);go_enter Tryz.func174,Tryz.ntmps174;go_wp2_with (first | (go_at_call 179;refine (EA 97 122 _ (by decide) (by decide) (by decide) (by decide)).mono ?_;rintro e w1 ⟨rfl,b1⟩;replace hW:=Below.trans hW (b1.mono hW.size);replace hB:=Blk.below hB b1 (Blk.lt hB);have f0:=hB.frozen 0;have f1:=hB.frozen 1;have f2:=hB.frozen 2;have f3:=hB.frozen 3;obtain ⟨d0,d1,d2,d3⟩:=Ah hB;have hs:=hB.lt))
 refine bodyPost_ret (v:=.agg #[.int .u64 (ow (Ab 97 122) 0),.int .u64 (ow (Ab 97 122) 1),.int .u64 (ow (Ab 97 122) 2),.int .u64 (ow (Ab 97 122) 3)]) (by simp [results,Tryz.results174,go_sem,d0,d1,d2,d3]) rfl ⟨rfl,?_⟩;repeat (first | exact hW | refine Below.setCell ?_ (by simp) _)
theorem KT (w:World) :
  Calls Tryz.prog 175 #[] w fun e w'=>e=.returned (.agg #[.int .u64 (ow CM 0),.int .u64 (ow CM 1),.int .u64 (ow CM 2),.int .u64 (ow CM 3)])∧Below w.heap.size w w':=by
 have hB:=Blk.new w #[.int .u64 0,.int .u64 0,.int .u64 0,.int .u64 0] 109 _ rfl;have hW:=(Adk w.heap.size w).alloc (Adf _) (.cells #[.int .u64 0,.int .u64 0,.int .u64 0,.int .u64 0] 109);go_enter Tryz.func175,Tryz.ntmps175;go_wp2_with (first | (go_at_call 179;refine (EA 65 90 _ (by decide) (by decide) (by decide) (by decide)).mono ?_;rintro e w1 ⟨rfl,b1⟩;replace hW:=Below.trans hW (b1.mono hW.size);replace hB:=Blk.below hB b1 (Blk.lt hB);have f0:=hB.frozen 0;have f1:=hB.frozen 1;have f2:=hB.frozen 2;have f3:=hB.frozen 3;obtain ⟨d0,d1,d2,d3⟩:=Ah hB;have hs:=hB.lt))
 refine bodyPost_ret (v:=.agg #[.int .u64 (ow (Ab 65 90) 0),.int .u64 (ow (Ab 65 90) 1),.int .u64 (ow (Ab 65 90) 2),.int .u64 (ow (Ab 65 90) 3)]) (by simp [results,Tryz.results175,go_sem,d0,d1,d2,d3]) rfl ⟨rfl,?_⟩;repeat (first | exact hW | refine Below.setCell ?_ (by simp) _)
theorem KU (w:World) :
  Calls Tryz.prog 177 #[] w fun e w'=>e=.returned (.agg #[.int .u64 (ow BS 0),.int .u64 (ow BS 1),.int .u64 (ow BS 2),.int .u64 (ow BS 3)])∧Below w.heap.size w w':=by
 have hB:=Blk.new w #[.int .u64 0,.int .u64 0,.int .u64 0,.int .u64 0] 109 _ rfl;have hW:=(Adk w.heap.size w).alloc (Adf _) (.cells #[.int .u64 0,.int .u64 0,.int .u64 0,.int .u64 0] 109);go_enter Tryz.func177,Tryz.ntmps177;go_wp2_with (first | (go_at_call 179;refine (EA 48 57 _ (by decide) (by decide) (by decide) (by decide)).mono ?_;rintro e w1 ⟨rfl,b1⟩;replace hW:=Below.trans hW (b1.mono hW.size);replace hB:=Blk.below hB b1 (Blk.lt hB);have f0:=hB.frozen 0;have f1:=hB.frozen 1;have f2:=hB.frozen 2;have f3:=hB.frozen 3;obtain ⟨d0,d1,d2,d3⟩:=Ah hB;have hs:=hB.lt))
 refine bodyPost_ret (v:=.agg #[.int .u64 (ow (Ab 48 57) 0),.int .u64 (ow (Ab 48 57) 1),.int .u64 (ow (Ab 48 57) 2),.int .u64 (ow (Ab 48 57) 3)]) (by simp [results,Tryz.results177,go_sem,d0,d1,d2,d3]) rfl ⟨rfl,?_⟩;repeat (first | exact hW | refine Below.setCell ?_ (by simp) _)
theorem RO (w:World) :
  Calls Tryz.prog 181 #[] w fun e w'=>e=.returned (.agg #[.int .u64 (ow CN 0),.int .u64 (ow CN 1),.int .u64 (ow CN 2),.int .u64 (ow CN 3)])∧Below w.heap.size w w':=by
 have hB:=Blk.new w #[.int .u64 0,.int .u64 0,.int .u64 0,.int .u64 0] 109 _ rfl;have hW:=(Adk w.heap.size w).alloc (Adf _) (.cells #[.int .u64 0,.int .u64 0,.int .u64 0,.int .u64 0] 109);go_enter Tryz.func181,Tryz.ntmps181;go_wp2_with (first | (go_at_call 179;refine (EA 33 126 _ (by decide) (by decide) (by decide) (by decide)).mono ?_;rintro e w1 ⟨rfl,b1⟩;replace hW:=Below.trans hW (b1.mono hW.size);replace hB:=Blk.below hB b1 (Blk.lt hB);have f0:=hB.frozen 0;have f1:=hB.frozen 1;have f2:=hB.frozen 2;have f3:=hB.frozen 3;obtain ⟨d0,d1,d2,d3⟩:=Ah hB;have hs:=hB.lt))
 refine bodyPost_ret (v:=.agg #[.int .u64 (ow (Ab 33 126) 0),.int .u64 (ow (Ab 33 126) 1),.int .u64 (ow (Ab 33 126) 2),.int .u64 (ow (Ab 33 126) 3)]) (by simp [results,Tryz.results181,go_sem,d0,d1,d2,d3]) rfl ⟨rfl,?_⟩;repeat (first | exact hW | refine Below.setCell ?_ (by simp) _)
theorem RP (w:World) :
  Calls Tryz.prog 180 #[] w fun e w'=>e=.returned (.agg #[.int .u64 (ow CR 0),.int .u64 (ow CR 1),.int .u64 (ow CR 2),.int .u64 (ow CR 3)])∧Below w.heap.size w w':=by
 have hB:=Blk.new w #[.int .u64 0,.int .u64 0,.int .u64 0,.int .u64 0] 109 _ rfl;have hW:=(Adk w.heap.size w).alloc (Adf _) (.cells #[.int .u64 0,.int .u64 0,.int .u64 0,.int .u64 0] 109);go_enter Tryz.func180,Tryz.ntmps180;go_wp2_with (first | (go_at_call 138;refine (ZQ 32 9 (by decide) (by decide) (by decide) (by decide) _ _ (by simp)).mono ?_;rintro e w1 ⟨rfl,b1⟩;replace hW:=Below.trans hW (b1.mono hW.size);replace hB:=Blk.below hB b1 (Blk.lt hB);have f0:=hB.frozen 0;have f1:=hB.frozen 1;have f2:=hB.frozen 2;have f3:=hB.frozen 3;obtain ⟨d0,d1,d2,d3⟩:=Ah hB;have hs:=hB.lt))
 refine bodyPost_ret (v:=.agg #[.int .u64 (ow (Dt [32,9]) 0),.int .u64 (ow (Dt [32,9]) 1),.int .u64 (ow (Dt [32,9]) 2),.int .u64 (ow (Dt [32,9]) 3)]) (by simp [results,Tryz.results180,go_sem,d0,d1,d2,d3]) rfl ⟨rfl,?_⟩;repeat (first | exact hW | refine Below.setCell ?_ (by simp) _)
theorem KV (w:World) :
  Calls Tryz.prog 176 #[] w fun e w'=>e=.returned (.agg #[.int .u64 (ow CP 0),.int .u64 (ow CP 1),.int .u64 (ow CP 2),.int .u64 (ow CP 3)])∧Below w.heap.size w w':=by
 have hB:=Blk.new w #[.int .u64 0,.int .u64 0,.int .u64 0,.int .u64 0] 109 _ rfl;have hW:=(Adk w.heap.size w).alloc (Adf _) (.cells #[.int .u64 0,.int .u64 0,.int .u64 0,.int .u64 0] 109);go_enter Tryz.func176,Tryz.ntmps176;go_wp2_with (first | (go_at_call 174;refine (KS _).mono ?_;rintro e w1 ⟨rfl,b1⟩;replace hW:=Below.trans hW (b1.mono hW.size);replace hB:=Blk.below hB b1 (Blk.lt hB);have f0:=hB.frozen 0;have f1:=hB.frozen 1;have f2:=hB.frozen 2;have f3:=hB.frozen 3;obtain ⟨d0,d1,d2,d3⟩:=Ah hB;have hs:=hB.lt) | (go_at_call 175;refine (KT _).mono ?_;rintro e w1 ⟨rfl,b1⟩;replace hW:=Below.trans hW (b1.mono hW.size);replace hB:=Blk.below hB b1 (Blk.lt hB);have f0:=hB.frozen 0;have f1:=hB.frozen 1;have f2:=hB.frozen 2;have f3:=hB.frozen 3;obtain ⟨d0,d1,d2,d3⟩:=Ah hB;have hs:=hB.lt) | (go_at_call 161;refine (D0 _ _ _).mono ?_;rintro e w1 ⟨rfl,b1⟩;replace hW:=Below.trans hW (b1.mono hW.size);replace hB:=Blk.below hB b1 (Blk.lt hB);have f0:=hB.frozen 0;have f1:=hB.frozen 1;have f2:=hB.frozen 2;have f3:=hB.frozen 3;obtain ⟨d0,d1,d2,d3⟩:=Ah hB;have hs:=hB.lt))
 refine bodyPost_ret (v:=.agg #[.int .u64 (ow (CL ||| CM) 0),.int .u64 (ow (CL ||| CM) 1),.int .u64 (ow (CL ||| CM) 2),.int .u64 (ow (CL ||| CM) 3)]) (by simp [results,Tryz.results176,go_sem,d0,d1,d2,d3]) rfl ⟨rfl,?_⟩;repeat (first | exact hW | refine Below.setCell ?_ (by simp) _)
theorem RQ (w:World) :
  Calls Tryz.prog 178 #[] w fun e w'=>e=.returned (.agg #[.int .u64 (ow CQ 0),.int .u64 (ow CQ 1),.int .u64 (ow CQ 2),.int .u64 (ow CQ 3)])∧Below w.heap.size w w':=by
 have hB:=Blk.new w #[.int .u64 0,.int .u64 0,.int .u64 0,.int .u64 0] 109 _ rfl;have hW:=(Adk w.heap.size w).alloc (Adf _) (.cells #[.int .u64 0,.int .u64 0,.int .u64 0,.int .u64 0] 109);go_enter Tryz.func178,Tryz.ntmps178;go_wp2_with (first | (go_at_call 176;refine (KV _).mono ?_;rintro e w1 ⟨rfl,b1⟩;replace hW:=Below.trans hW (b1.mono hW.size);replace hB:=Blk.below hB b1 (Blk.lt hB);have f0:=hB.frozen 0;have f1:=hB.frozen 1;have f2:=hB.frozen 2;have f3:=hB.frozen 3;obtain ⟨d0,d1,d2,d3⟩:=Ah hB;have hs:=hB.lt) | (go_at_call 177;refine (KU _).mono ?_;rintro e w1 ⟨rfl,b1⟩;replace hW:=Below.trans hW (b1.mono hW.size);replace hB:=Blk.below hB b1 (Blk.lt hB);have f0:=hB.frozen 0;have f1:=hB.frozen 1;have f2:=hB.frozen 2;have f3:=hB.frozen 3;obtain ⟨d0,d1,d2,d3⟩:=Ah hB;have hs:=hB.lt) | (go_at_call 161;refine (D0 _ _ _).mono ?_;rintro e w1 ⟨rfl,b1⟩;replace hW:=Below.trans hW (b1.mono hW.size);replace hB:=Blk.below hB b1 (Blk.lt hB);have f0:=hB.frozen 0;have f1:=hB.frozen 1;have f2:=hB.frozen 2;have f3:=hB.frozen 3;obtain ⟨d0,d1,d2,d3⟩:=Ah hB;have hs:=hB.lt))
 refine bodyPost_ret (v:=.agg #[.int .u64 (ow (CP ||| BS) 0),.int .u64 (ow (CP ||| BS) 1),.int .u64 (ow (CP ||| BS) 2),.int .u64 (ow (CP ||| BS) 3)]) (by simp [results,Tryz.results178,go_sem,d0,d1,d2,d3]) rfl ⟨rfl,?_⟩;repeat (first | exact hW | refine Below.setCell ?_ (by simp) _)
theorem Cn {s t:OSet} {b c:Bool} (h:s=t) (h2:b=c):Ending.returned (.tuple #[.agg #[.int .u64 (ow s 0),.int .u64 (ow s 1),.int .u64 (ow s 2),.int .u64 (ow s 3)],.bool b])=.returned (.tuple #[.agg #[.int .u64 (ow t 0),.int .u64 (ow t 1),.int .u64 (ow t 2),.int .u64 (ow t 3)],.bool c]):=by rw [h,h2]
theorem KW (s:ByteArray) (w:World) :
  Calls Tryz.prog 168 #[.string s] w fun e w'=>e=.returned (.tuple #[.agg #[.int .u64 (ow (A4 s.toList) 0),.int .u64 (ow (A4 s.toList) 1),.int .u64 (ow (A4 s.toList) 2),.int .u64 (ow (A4 s.toList) 3)],.bool (CA s.toList)])∧Below w.heap.size w w':=by
 have hB:=Blk.new w #[.int .u64 0,.int .u64 0,.int .u64 0,.int .u64 0] 109 _ rfl;have hW:=(Adk w.heap.size w).alloc (Adf _) (.cells #[.int .u64 0,.int .u64 0,.int .u64 0,.int .u64 0] 109);go_enter Tryz.func168,Tryz.ntmps168;go_wp2_with (first | (go_at_call 174;refine (KS _).mono ?_;rintro e w1 ⟨rfl,b1⟩;replace hW:=Below.trans hW (b1.mono hW.size);replace hB:=Blk.below hB b1 (Blk.lt hB);have f0:=hB.frozen 0;have f1:=hB.frozen 1;have f2:=hB.frozen 2;have f3:=hB.frozen 3;obtain ⟨d0,d1,d2,d3⟩:=Ah hB;have hs:=hB.lt) | (go_at_call 175;refine (KT _).mono ?_;rintro e w1 ⟨rfl,b1⟩;replace hW:=Below.trans hW (b1.mono hW.size);replace hB:=Blk.below hB b1 (Blk.lt hB);have f0:=hB.frozen 0;have f1:=hB.frozen 1;have f2:=hB.frozen 2;have f3:=hB.frozen 3;obtain ⟨d0,d1,d2,d3⟩:=Ah hB;have hs:=hB.lt) | (go_at_call 176;refine (KV _).mono ?_;rintro e w1 ⟨rfl,b1⟩;replace hW:=Below.trans hW (b1.mono hW.size);replace hB:=Blk.below hB b1 (Blk.lt hB);have f0:=hB.frozen 0;have f1:=hB.frozen 1;have f2:=hB.frozen 2;have f3:=hB.frozen 3;obtain ⟨d0,d1,d2,d3⟩:=Ah hB;have hs:=hB.lt) | (go_at_call 177;refine (KU _).mono ?_;rintro e w1 ⟨rfl,b1⟩;replace hW:=Below.trans hW (b1.mono hW.size);replace hB:=Blk.below hB b1 (Blk.lt hB);have f0:=hB.frozen 0;have f1:=hB.frozen 1;have f2:=hB.frozen 2;have f3:=hB.frozen 3;obtain ⟨d0,d1,d2,d3⟩:=Ah hB;have hs:=hB.lt) | (go_at_call 178;refine (RQ _).mono ?_;rintro e w1 ⟨rfl,b1⟩;replace hW:=Below.trans hW (b1.mono hW.size);replace hB:=Blk.below hB b1 (Blk.lt hB);have f0:=hB.frozen 0;have f1:=hB.frozen 1;have f2:=hB.frozen 2;have f3:=hB.frozen 3;obtain ⟨d0,d1,d2,d3⟩:=Ah hB;have hs:=hB.lt) | (go_at_call 180;refine (RP _).mono ?_;rintro e w1 ⟨rfl,b1⟩;replace hW:=Below.trans hW (b1.mono hW.size);replace hB:=Blk.below hB b1 (Blk.lt hB);have f0:=hB.frozen 0;have f1:=hB.frozen 1;have f2:=hB.frozen 2;have f3:=hB.frozen 3;obtain ⟨d0,d1,d2,d3⟩:=Ah hB;have hs:=hB.lt) | (go_at_call 181;refine (RO _).mono ?_;rintro e w1 ⟨rfl,b1⟩;replace hW:=Below.trans hW (b1.mono hW.size);replace hB:=Blk.below hB b1 (Blk.lt hB);have f0:=hB.frozen 0;have f1:=hB.frozen 1;have f2:=hB.frozen 2;have f3:=hB.frozen 3;obtain ⟨d0,d1,d2,d3⟩:=Ah hB;have hs:=hB.lt) | (go_at_call 179;refine (EA _ _ _ (by decide) (by decide) (by decide) (by decide)).mono ?_;rintro e w1 ⟨rfl,b1⟩;replace hW:=Below.trans hW (b1.mono hW.size);replace hB:=Blk.below hB b1 (Blk.lt hB);have f0:=hB.frozen 0;have f1:=hB.frozen 1;have f2:=hB.frozen 2;have f3:=hB.frozen 3;obtain ⟨d0,d1,d2,d3⟩:=Ah hB;have hs:=hB.lt) | (go_at_call 138;refine (C8 127 (by decide) (by decide) _ _ (by simp)).mono ?_;rintro e w1 ⟨rfl,b1⟩;replace hW:=Below.trans hW (b1.mono hW.size);replace hB:=Blk.below hB b1 (Blk.lt hB);have f0:=hB.frozen 0;have f1:=hB.frozen 1;have f2:=hB.frozen 2;have f3:=hB.frozen 3;obtain ⟨d0,d1,d2,d3⟩:=Ah hB;have hs:=hB.lt) | (go_at_call 161;refine (D0 _ _ _).mono ?_;rintro e w1 ⟨rfl,b1⟩;replace hW:=Below.trans hW (b1.mono hW.size);replace hB:=Blk.below hB b1 (Blk.lt hB);have f0:=hB.frozen 0;have f1:=hB.frozen 1;have f2:=hB.frozen 2;have f3:=hB.frozen 3;obtain ⟨d0,d1,d2,d3⟩:=Ah hB;have hs:=hB.lt) | (go_at_call 182;refine (XG _ _ _).mono ?_;rintro e w1 ⟨rfl,b1⟩;replace hW:=Below.trans hW (b1.mono hW.size);replace hB:=Blk.below hB b1 (Blk.lt hB);have f0:=hB.frozen 0;have f1:=hB.frozen 1;have f2:=hB.frozen 2;have f3:=hB.frozen 3;obtain ⟨d0,d1,d2,d3⟩:=Ah hB;have hs:=hB.lt) | (go_at_call 137;refine (FR _ _).mono ?_;rintro e w1 ⟨rfl,b1⟩;replace hW:=Below.trans hW (b1.mono hW.size);replace hB:=Blk.below hB b1 (Blk.lt hB);have f0:=hB.frozen 0;have f1:=hB.frozen 1;have f2:=hB.frozen 2;have f3:=hB.frozen 3;obtain ⟨d0,d1,d2,d3⟩:=Ah hB;have hs:=hB.lt))
 ·refine bodyPost_ret (v:=.tuple #[.agg #[.int .u64 (ow CL 0),.int .u64 (ow CL 1),.int .u64 (ow CL 2),.int .u64 (ow CL 3)],.bool true]) (by simp [results,Tryz.results168,go_sem,d0,d1,d2,d3]) rfl ⟨Cn (by simp only [A4,cond_true, *] <;> rfl) (by simp [CA, *]),?_⟩
  repeat (first | exact hW | refine Below.setCell ?_ (by simp) _)
 ·refine bodyPost_ret (v:=.tuple #[.agg #[.int .u64 (ow CM 0),.int .u64 (ow CM 1),.int .u64 (ow CM 2),.int .u64 (ow CM 3)],.bool true]) (by simp [results,Tryz.results168,go_sem,d0,d1,d2,d3]) rfl ⟨Cn (by simp only [A4,cond_true,cond_false, *] <;> rfl) (by simp [CA, *]),?_⟩
  repeat (first | exact hW | refine Below.setCell ?_ (by simp) _)
 ·refine bodyPost_ret (v:=.tuple #[.agg #[.int .u64 (ow CP 0),.int .u64 (ow CP 1),.int .u64 (ow CP 2),.int .u64 (ow CP 3)],.bool true]) (by simp [results,Tryz.results168,go_sem,d0,d1,d2,d3]) rfl ⟨Cn (by simp only [A4,cond_true,cond_false, *] <;> rfl) (by simp [CA, *]),?_⟩
  repeat (first | exact hW | refine Below.setCell ?_ (by simp) _)
 ·refine bodyPost_ret (v:=.tuple #[.agg #[.int .u64 (ow BS 0),.int .u64 (ow BS 1),.int .u64 (ow BS 2),.int .u64 (ow BS 3)],.bool true]) (by simp [results,Tryz.results168,go_sem,d0,d1,d2,d3]) rfl ⟨Cn (by simp only [A4,cond_true,cond_false, *] <;> rfl) (by simp [CA, *]),?_⟩
  repeat (first | exact hW | refine Below.setCell ?_ (by simp) _)
 ·refine bodyPost_ret (v:=.tuple #[.agg #[.int .u64 (ow CQ 0),.int .u64 (ow CQ 1),.int .u64 (ow CQ 2),.int .u64 (ow CQ 3)],.bool true]) (by simp [results,Tryz.results168,go_sem,d0,d1,d2,d3]) rfl ⟨Cn (by simp only [A4,cond_true,cond_false, *] <;> rfl) (by simp [CA, *]),?_⟩
  repeat (first | exact hW | refine Below.setCell ?_ (by simp) _)
 ·refine bodyPost_ret (v:=.tuple #[.agg #[.int .u64 (ow (BS ||| Ab 65 70 ||| Ab 97 102) 0),.int .u64 (ow (BS ||| Ab 65 70 ||| Ab 97 102) 1),.int .u64 (ow (BS ||| Ab 65 70 ||| Ab 97 102) 2),.int .u64 (ow (BS ||| Ab 65 70 ||| Ab 97 102) 3)],.bool true]) (by simp [results,Tryz.results168,go_sem,d0,d1,d2,d3]) rfl ⟨Cn (by simp only [A4,cond_true,cond_false, *] <;> rfl) (by simp [CA, *]),?_⟩
  repeat (first | exact hW | refine Below.setCell ?_ (by simp) _)
 ·refine bodyPost_ret (v:=.tuple #[.agg #[.int .u64 (ow CR 0),.int .u64 (ow CR 1),.int .u64 (ow CR 2),.int .u64 (ow CR 3)],.bool true]) (by simp [results,Tryz.results168,go_sem,d0,d1,d2,d3]) rfl ⟨Cn (by simp only [A4,cond_true,cond_false, *] <;> rfl) (by simp [CA, *]),?_⟩
  repeat (first | exact hW | refine Below.setCell ?_ (by simp) _)
 ·refine bodyPost_ret (v:=.tuple #[.agg #[.int .u64 (ow (CR ||| Ab 10 13) 0),.int .u64 (ow (CR ||| Ab 10 13) 1),.int .u64 (ow (CR ||| Ab 10 13) 2),.int .u64 (ow (CR ||| Ab 10 13) 3)],.bool true]) (by simp [results,Tryz.results168,go_sem,d0,d1,d2,d3]) rfl ⟨Cn (by simp only [A4,cond_true,cond_false, *] <;> rfl) (by simp [CA, *]),?_⟩
  repeat (first | exact hW | refine Below.setCell ?_ (by simp) _)
 ·refine bodyPost_ret (v:=.tuple #[.agg #[.int .u64 (ow (Ab 0 31 ||| Dt [127]) 0),.int .u64 (ow (Ab 0 31 ||| Dt [127]) 1),.int .u64 (ow (Ab 0 31 ||| Dt [127]) 2),.int .u64 (ow (Ab 0 31 ||| Dt [127]) 3)],.bool true]) (by simp [results,Tryz.results168,go_sem,d0,d1,d2,d3]) rfl ⟨Cn (by simp only [A4,cond_true,cond_false, *] <;> rfl) (by simp [CA, *]),?_⟩
  repeat (first | exact hW | refine Below.setCell ?_ (by simp) _)
 ·refine bodyPost_ret (v:=.tuple #[.agg #[.int .u64 (ow (Ab 32 126) 0),.int .u64 (ow (Ab 32 126) 1),.int .u64 (ow (Ab 32 126) 2),.int .u64 (ow (Ab 32 126) 3)],.bool true]) (by simp [results,Tryz.results168,go_sem,d0,d1,d2,d3]) rfl ⟨Cn (by simp only [A4,cond_true,cond_false, *] <;> rfl) (by simp [CA, *]),?_⟩
  repeat (first | exact hW | refine Below.setCell ?_ (by simp) _)
 ·refine bodyPost_ret (v:=.tuple #[.agg #[.int .u64 (ow CN 0),.int .u64 (ow CN 1),.int .u64 (ow CN 2),.int .u64 (ow CN 3)],.bool true]) (by simp [results,Tryz.results168,go_sem,d0,d1,d2,d3]) rfl ⟨Cn (by simp only [A4,cond_true,cond_false, *] <;> rfl) (by simp [CA, *]),?_⟩
  repeat (first | exact hW | refine Below.setCell ?_ (by simp) _)
 ·refine bodyPost_ret (v:=.tuple #[.agg #[.int .u64 (ow (CN &&& ~~~CQ) 0),.int .u64 (ow (CN &&& ~~~CQ) 1),.int .u64 (ow (CN &&& ~~~CQ) 2),.int .u64 (ow (CN &&& ~~~CQ) 3)],.bool true]) (by simp [results,Tryz.results168,go_sem,d0,d1,d2,d3]) rfl ⟨Cn (by simp only [A4,cond_true,cond_false, *] <;> rfl) (by simp [CA, *]),?_⟩
  repeat (first | exact hW | refine Below.setCell ?_ (by simp) _)
 ·refine bodyPost_ret (v:=.tuple #[.agg #[.int .u64 (ow oz 0),.int .u64 (ow oz 1),.int .u64 (ow oz 2),.int .u64 (ow oz 3)],.bool false]) (by simp [results,Tryz.results168,go_sem,Al]) rfl ⟨Cn (by simp only [A4,cond_false, *] <;> rfl) (by simp [CA, *]),?_⟩
  repeat (first | exact hW | refine Below.setCell ?_ (by simp) _)
end
section
open Go.RowKit
end
section
open Go.RowKit
end
section
open Go.RowKit Go.Shelf
def Acv:Go.Shelf.Ren:=⟨fun | 29=>187 | n=>n,fun | 0=>0 | 3=>3 | 4=>4 | 5=>5 | 22=>107 | 25=>125 | 54=>274 | n=>n,fun | 1=>5 | n=>n⟩
theorem Ab2:Go.Proofs.Lays7.n29 Tryz.prog Acv:={
 mixed:=by kernel_rfl
 f29:=Tryz.func187.trans (congrArg some (by kernel_rfl))
 t0:=Tryz.underlying0
 a0:=Tryz.isAgg0
 z0:=Tryz.sizeOf0
 v0:=Tryz.zeroValue0
 i0:=by kernel_rfl
 t3:=Tryz.underlying3
 a3:=Tryz.isAgg3
 z3:=Tryz.sizeOf3
 v3:=Tryz.zeroValue3
 i3:=by kernel_rfl
 t4:=Tryz.underlying4
 a4:=Tryz.isAgg4
 z4:=Tryz.sizeOf4
 v4:=Tryz.zeroValue4
 i4:=by kernel_rfl
 t5:=Tryz.underlying5
 a5:=Tryz.isAgg5
 z5:=Tryz.sizeOf5
 v5:=Tryz.zeroValue5
 i5:=by kernel_rfl
 t22:=Tryz.underlying107
 a22:=Tryz.isAgg107
 z22:=Tryz.sizeOf107
 v22:=Tryz.zeroValue107
 i22:=by kernel_rfl
 t25:=Tryz.underlying125
 a25:=Tryz.isAgg125
 z25:=Tryz.sizeOf125
 v25:=Tryz.zeroValue125
 i25:=by kernel_rfl
 t54:=Tryz.underlying274
 a54:=Tryz.isAgg274
 z54:=Tryz.sizeOf274
 g1:=by kernel_rfl }
def TabIn (w:World):Prop:=TabAt 5 Lib.deBruijn64tab w
theorem Es {w w':World} {B:Nat} (h:TabIn w) (hb:Below B w w') (hB:5 < B):TabIn w':=fun j hj=>(hb.cell (p:=⟨5,j,none⟩) hB).trans (h j hj)
theorem FS (s:OSet) (i:Nat) (w:World) (hT:TabIn w) :
  Calls Tryz.prog 187 #[.int .u64 (ow s i)] w fun e w'=>e=.returned (.int .i64 (Lib.ctz 64 (Fp s i):Int))∧w=w':=
 (Any7.bits_TrailingZeros64 Ab2 (Fp s i) (Ci s i) w (fun _=>hT)).mono fun _ _ ⟨h1,h2⟩=>⟨h1,h2.symm⟩
theorem ZR (x c:Nat) (hx:x < 18446744073709551616) (h1:x.testBit c=true) (h2:∀ j,j < c→x.testBit j=false):Lib.ctz 64 x=c:=by
 have hx0:x≠0:=by
  rintro rfl;simp at h1
 obtain ⟨m,hm,hlt⟩:=Lib.ctzFrom_spec 64 x (by omega) hx;unfold Lib.ctz;rw [if_neg hx0];generalize Lib.ctzFrom 64 x=d at hm hlt;have hd:x.testBit d=true:=by
  rw [hm,Nat.testBit_two_pow_mul];simp
 have hd2:∀ j,j < d→x.testBit j=false:=fun j hj=>by
  rw [hm,Nat.testBit_two_pow_mul];simp;omega
 rcases Nat.lt_trichotomy c d with h | h | h
 ·rw [hd2 c h] at h1;cases h1
 ·exact h.symm
 ·rw [h2 d h] at hd;cases hd
theorem RT (s:OSet) (i k:Nat) (h:∀ b,b < k→ohas s b=false) (hk:64 * i+64≤k):ow s i=0:=by
 have:Fp s i=0:=by
  refine (If s i 0 (by decide) fun j hj=>?_).symm;have:=h (64 * i+j) (by omega);unfold ohas at this;simp [this]
 unfold ow;rw [this];rfl
theorem OP (s:OSet) (k:Nat) (h1:ohas s k=true) (h:∀ b,b < k→ohas s b=false):(ow s (k / 64) != 0)=true∧Lib.ctz 64 (Fp s (k / 64))=k % 64:=by
 have hb:(Fp s (k / 64)).testBit (k % 64)=true:=by
  rw [Be,show 64 * (k / 64)+k % 64=k by omega];unfold ohas at h1;simp [h1];omega
 refine ⟨?_,ZR _ _ (Ci _ _) hb fun j hj=>?_⟩
 ·rw [bne_iff_ne]
  intro h0;have:Fp s (k / 64)=0:=by unfold ow at h0;omega
  rw [this] at hb;simp at hb
 ·rw [Be]
  have:=h (64 * (k / 64)+j) (by omega);unfold ohas at this;simp [this]
theorem LM (a b c d:Int) (w:World):(Instr.index 109 (.agg #[.int .u64 a,.int .u64 b,.int .u64 c,.int .u64 d]) (.int .i64 0)).run Tryz.prog w=.ok (.int .u64 a) w:=by kernel_rfl
theorem LN (a b c d:Int) (w:World):(Instr.index 109 (.agg #[.int .u64 a,.int .u64 b,.int .u64 c,.int .u64 d]) (.int .i64 1)).run Tryz.prog w=.ok (.int .u64 b) w:=by kernel_rfl
theorem LO (a b c d:Int) (w:World):(Instr.index 109 (.agg #[.int .u64 a,.int .u64 b,.int .u64 c,.int .u64 d]) (.int .i64 2)).run Tryz.prog w=.ok (.int .u64 c) w:=by kernel_rfl
theorem LP (a b c d:Int) (w:World):(Instr.index 109 (.agg #[.int .u64 a,.int .u64 b,.int .u64 c,.int .u64 d]) (.int .i64 3)).run Tryz.prog w=.ok (.int .u64 d) w:=by kernel_rfl
theorem OQ (s:OSet) (k:Nat) (hk:k < 256) (h1:ohas s k=true) (h:∀ b,b < k→ohas s b=false) (w:World) (hT:TabIn w) (hg:5 < w.heap.size) :
  Calls Tryz.prog 184 #[.agg #[.int .u64 (ow s 0),.int .u64 (ow s 1),.int .u64 (ow s 2),.int .u64 (ow s 3)]] w fun e w'=>e=.returned (.tuple #[.int .u8 (k:Int),.bool true])∧Below w.heap.size w w':=by
 have i0:=LM (ow s 0) (ow s 1) (ow s 2) (ow s 3);have i1:=LN (ow s 0) (ow s 1) (ow s 2) (ow s 3);have i2:=LO (ow s 0) (ow s 1) (ow s 2) (ow s 3);have i3:=LP (ow s 0) (ow s 1) (ow s 2) (ow s 3);obtain ⟨w1,w2⟩:=OP s k h1 h;have hT1:TabIn (w.alloc (.cells #[.int .u64 (ow s 0),.int .u64 (ow s 1),.int .u64 (ow s 2),.int .u64 (ow s 3)] 109)):=Es hT ((Adk w.heap.size w).alloc (Adf _) _) hg;have Hz:=Ac8 (fun i (hi:64 * i+64≤k)=>show (ow s i != 0)=false by rw [RT s i k h hi];rfl);clear h1 h hT;have hc:k % 64 < 64:=by omega
 generalize hcc:k % 64=c at w2 hc;have Hc:=Ac8 hcc;clear hcc;have hq:k / 64=0∨k / 64=1∨k / 64=2∨k / 64=3:=by omega
 rcases hq with hq | hq | hq | hq
 ·rw [hq] at w1 w2
  have Hq:=Ac8 hq;clear hq;have He:=Ac8 (show ((64 * 0+c:Nat):Int)=(k:Int) by have:=Hq.out;have:=Hc.out;omega);go_enter Tryz.func184,Tryz.ntmps184
  go_wp2
  refine wp_loop_rounds 1 ?_;rw [rounds_succ];go_wp2_with (go_at_call 187;refine (FS s _ _ hT1).mono ?_;rintro e w' ⟨rfl,rfl⟩)
  go_ret2
  refine ⟨by rw [←He.out];simp,(Adk _ _).alloc (Adf _) _⟩
 ·rw [hq] at w1 w2
  have Hq:=Ac8 hq;clear hq;have z0:=Hz.out 0 (by have:=Hq.out;omega);have He:=Ac8 (show ((64 * 1+c:Nat):Int)=(k:Int) by have:=Hq.out;have:=Hc.out;omega);go_enter Tryz.func184,Tryz.ntmps184
  go_wp2
  refine wp_loop_rounds 2 ?_;rw [rounds_succ]
  go_wp2
  rw [rounds_succ];go_wp2_with (go_at_call 187;refine (FS s _ _ hT1).mono ?_;rintro e w' ⟨rfl,rfl⟩)
  go_ret2
  refine ⟨by rw [←He.out];simp,(Adk _ _).alloc (Adf _) _⟩
 ·rw [hq] at w1 w2
  have Hq:=Ac8 hq;clear hq;have z0:=Hz.out 0 (by have:=Hq.out;omega);have z1:=Hz.out 1 (by have:=Hq.out;omega);have He:=Ac8 (show ((64 * 2+c:Nat):Int)=(k:Int) by have:=Hq.out;have:=Hc.out;omega);go_enter Tryz.func184,Tryz.ntmps184
  go_wp2
  refine wp_loop_rounds 3 ?_
  iterate 2 (rw [rounds_succ];go_wp2)
  rw [rounds_succ];go_wp2_with (go_at_call 187;refine (FS s _ _ hT1).mono ?_;rintro e w' ⟨rfl,rfl⟩)
  go_ret2
  refine ⟨by rw [←He.out];simp,(Adk _ _).alloc (Adf _) _⟩
 ·rw [hq] at w1 w2
  have Hq:=Ac8 hq;clear hq;have z0:=Hz.out 0 (by have:=Hq.out;omega);have z1:=Hz.out 1 (by have:=Hq.out;omega);have z2:=Hz.out 2 (by have:=Hq.out;omega);have He:=Ac8 (show ((64 * 3+c:Nat):Int)=(k:Int) by have:=Hq.out;have:=Hc.out;omega);go_enter Tryz.func184,Tryz.ntmps184
  go_wp2
  refine wp_loop_rounds 4 ?_
  iterate 3 (rw [rounds_succ];go_wp2)
  rw [rounds_succ];go_wp2_with (go_at_call 187;refine (FS s _ _ hT1).mono ?_;rintro e w' ⟨rfl,rfl⟩)
  go_ret2
  refine ⟨by rw [←He.out];simp,(Adk _ _).alloc (Adf _) _⟩
end
end Go.Proofs.YteilldmmihiijaaGreatDoor
