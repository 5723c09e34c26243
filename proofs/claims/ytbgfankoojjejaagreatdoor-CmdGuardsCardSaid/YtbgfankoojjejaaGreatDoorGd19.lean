/- The proof's texts MaE: what the claim reaches of them. -/
import Derived.Test.YtbgfankoojjejaaGreatDoorGd18
set_option linter.unusedSimpArgs false
set_option linter.unusedVariables false
set_option maxHeartbeats 8000000
set_option maxRecDepth 1000000
namespace Go.Proofs.YtbgfankoojjejaaGreatDoor
structure Lv where
 op:Nat
 num:Nat
 brs:List Nd
 pcs:List Nd
structure ES where
 pos:Nat
 groups:Nat
 closed:List Int
 marks:List (Nat × Nat)
 inner:Lv
 outer:List Lv
def ES.st (e:ES):ReSt:=⟨e.pos,e.groups,e.closed,e.marks⟩
def ES.at (e:ES) (st:ReSt) (l:List Nd):ES:={ e with pos:=st.pos,groups:=st.opened,closed:=st.closed,marks:=st.marks,inner:={ e.inner with pcs:=l } }
def ES.lv (e:ES) (st:ReSt) (b l:List Nd):ES:={ e with pos:=st.pos,groups:=st.opened,closed:=st.closed,marks:=st.marks,inner:={ e.inner with brs:=b,pcs:=l } }
def frontP (l:List Nd):Bool:=match l.getLast? with
 | none=>true
 | some .start=>true
 | some .fin=>true
 | some _=>false
def Lv.whole (v:Lv):Nd:=nchoose (v.brs++[njoin v.pcs])
def ES.add (e:ES) (k:Nat) (d:Nd):ES:=e.at (e.st.to k) (e.inner.pcs++[d])
def repSign (s:List UInt8) (k:Nat):Bool:=chAt s k 42 || chAt s k 43 || chAt s k 63 || chAt s k 123
def estep (s:List UInt8) (e:ES):Except (Nat × Nat) ES:=
 if chAt s e.pos 124 then .ok (e.lv (e.st.to (e.pos+1)) (e.inner.brs++[njoin e.inner.pcs]) [])
 else if chAt s e.pos 40 then (if e.outer.length=12 then .error (4,e.pos) else .ok { e with pos:=e.pos+1,groups:=e.groups+1,outer:=e.outer++[e.inner],inner:=⟨e.pos,e.groups+1,[],[]⟩ })
 else if chAt s e.pos 41 then (match e.outer.getLast? with
  | none=>.error (8,e.pos)
  | some v=>.ok { e with pos:=e.pos+1,closed:=e.closed++[(e.inner.num:Int)],outer:=e.outer.dropLast,inner:={ v with pcs:=v.pcs++[.group (e.inner.num:Int) e.inner.whole] } })
 else if chAt s e.pos 94 then .ok (e.add (e.pos+1) .start)
 else if chAt s e.pos 36 then .ok (e.add (e.pos+1) .fin)
 else if repSign s e.pos then (if frontP e.inner.pcs then .error (10,e.pos) else match repAt true s e.pos with
  | .some mn mx _ j=>.ok (e.at (e.st.to j) (e.inner.pcs.dropLast++[.rep (e.inner.pcs.getLastD .empty) mn mx]))
  | _=>.error (7,e.pos))
 else match atomM true s none e.st with
  | .error q=>.error q
  | .ok (st,d)=>.ok (e.at st (e.inner.pcs++[d]))
def erun (s:List UInt8):Nat→ES→Except (Nat × Nat) ES
 | 0,_=>.error (0,0)
 | n+1,e=>if s.length≤e.pos then (if e.outer.isEmpty then .ok e else .error (8,e.inner.op)) else match estep s e with
  | .error q=>.error q
  | .ok e'=>erun s n e'
theorem atom_none_mv (s:List UInt8) (st st':ReSt) (d:Nd) (hl:st.pos < s.length) (h:atomM true s none st=.ok (st',d)):st.pos < st'.pos∧st'.pos≤s.length:=
 atom_mv true s none (fun f hf=>by cases hf) st st' d hl h
theorem ch_lt {s:List UInt8} {k b:Nat} (h:chAt s k b=true):k+1≤s.length:=(ch_byt h).1
theorem estep_mv (s:List UInt8) (e e':ES) (hl:e.pos < s.length) (h:estep s e=.ok e'):e.pos < e'.pos∧e'.pos≤s.length:=by
 unfold estep at h
 split at h
 ·injection h with h;subst h;exact ⟨Nat.lt_succ_self _,hl⟩
 ·split at h
  ·split at h
   ·cases h
   ·injection h with h;subst h;exact ⟨Nat.lt_succ_self _,hl⟩
  ·split at h
   ·split at h
    ·cases h
    ·injection h with h;subst h;exact ⟨Nat.lt_succ_self _,hl⟩
   ·split at h
    ·injection h with h;subst h;exact ⟨Nat.lt_succ_self _,hl⟩
    ·split at h
     ·injection h with h;subst h;exact ⟨Nat.lt_succ_self _,hl⟩
     ·split at h
      ·split at h
       ·cases h
       ·split at h
        ·rename_i hr
         injection h with h;subst h
         exact rep_mv _ _ _ _ _ _ _ hr
        ·cases h
      ·split at h
       ·cases h
       ·rename_i st d ha
        injection h with h;subst h
        exact atom_none_mv s e.st st d hl ha
theorem erun_more (s:List UInt8):∀ (n m:Nat) (e:ES),e.pos≤s.length→s.length < n+e.pos→s.length < m+e.pos→erun s n e=erun s m e:=by
 intro n
 induction n with
 | zero=>intro m e h0 h1;omega
 | succ n ih=>
  intro m e h0 h1 h2
  obtain ⟨m,rfl⟩:∃ k,m=k+1:=⟨m - 1,by omega⟩
  rw [erun,erun]
  split
  ·rfl
  ·rename_i hl
   cases he:estep s e with
   | error q=>rfl
   | ok e'=>
    have hm:=estep_mv s e e' (by omega) he
    exact ih m e' hm.2 (by omega) (by omega)
def eres (s:List UInt8) (e:ES):Except (Nat × Nat) ES:=erun s (s.length+1) e
theorem eres_step (s:List UInt8) (e:ES) (hl:e.pos < s.length):eres s e=(match estep s e with
  | .error q=>.error q
  | .ok e'=>eres s e'):=by
 unfold eres
 rw [erun,if_neg (by omega)]
 cases he:estep s e with
 | error q=>rfl
 | ok e'=>
  have hm:=estep_mv s e e' hl he
  exact erun_more s _ _ e' hm.2 (by omega) (by omega)
theorem eres_end (s:List UInt8) (e:ES) (hl:s.length≤e.pos):eres s e=(if e.outer.isEmpty then .ok e else .error (8,e.inner.op)):=by
 unfold eres
 rw [erun,if_pos hl]
theorem front_snoc (l:List Nd) (d:Nd):frontP (l++[d])=(match d with | .start=>true | .fin=>true | _=>false):=by
 unfold frontP
 rw [List.getLast?_concat]
 cases d <;> rfl
theorem front_rep {l:List Nd} {d:Nd} (h:inRep d=true):frontP (l++[d])=false:=by
 rw [front_snoc]
 cases d <;> first | rfl | cases h
theorem sign_no {s:List UInt8} {k:Nat} (h:repAt true s k=.none):repSign s k=false:=by
 unfold repAt at h
 unfold repSign
 simp only [opAt,if_true] at h
 split at h
 ·cases h
 ·rename_i h1
  split at h
  ·cases h
  ·rename_i h2
   split at h
   ·cases h
   ·rename_i h3
    split at h
    ·split at h <;> cases h
    ·rename_i h4
     simp [h1,h2,h3,h4]
theorem sign_yes {s:List UInt8} {k:Nat} (h:repAt true s k≠.none):repSign s k=true:=by
 cases hs:repSign s k with
 | true=>rfl
 | false=>
  unfold repSign at hs
  simp only [Bool.or_eq_false_iff] at hs
  obtain ⟨⟨⟨h1,h2⟩,h3⟩,h4⟩:=hs
  unfold repAt at h
  simp only [opAt,if_true] at h
  rw [h1,h2,h3,h4] at h
  simp at h
theorem sign_other {s:List UInt8} {k:Nat} (h:repSign s k=true):k < s.length∧chAt s k 124=false∧chAt s k 40=false∧chAt s k 41=false∧chAt s k 94=false∧chAt s k 36=false:=by
 unfold repSign at h
 simp only [Bool.or_eq_true] at h
 rcases h with ((h | h) | h) | h
 all_goals
  have hb:=(ch_byt h).2
  exact ⟨(ch_byt h).1,ch_no (by omega),ch_no (by omega),ch_no (by omega),ch_no (by omega),ch_no (by omega)⟩
theorem run_rep (s:List UInt8):∀ (n:Nat) (st:ReSt) (d:Nd) (e:ES) (l:List Nd),st.pos≤s.length→s.length < n+st.pos→inRep d=true→
  match repM true s n st d with
  | .error q=>eres s (e.at st (l++[d]))=.error q
  | .ok (st',d')=>eres s (e.at st (l++[d]))=eres s (e.at st' (l++[d']))∧inRep d'=true:=by
 intro n
 induction n with
 | zero=>intro st d e l h1 h2;omega
 | succ n ih=>
  intro st d e l h1 h2 hr
  rw [repM]
  have hstep:∀ (hne:repAt true s st.pos≠.none),estep s (e.at st (l++[d]))=(match repAt true s st.pos with
    | .some mn mx _ j=>.ok (e.at (st.to j) (l++[.rep d mn mx]))
    | _=>.error (7,st.pos)):=by
   intro hne
   have hs:=sign_yes hne
   obtain ⟨_,k1,k2,k3,k4,k5⟩:=sign_other hs
   unfold estep
   rw [show (e.at st (l++[d])).pos=st.pos from rfl,k1,k2,k3,k4,k5,hs]
   simp only [Bool.false_eq_true,if_false,if_true]
   rw [show (e.at st (l++[d])).inner.pcs=l++[d] from rfl,front_rep hr]
   simp only [Bool.false_eq_true,if_false]
   rw [List.dropLast_concat,show (l++[d]).getLastD .empty=d by simp]
   rfl
  cases hra:repAt true s st.pos with
  | none=>exact ⟨rfl,hr⟩
  | bad=>
   have hne:repAt true s st.pos≠.none:=by rw [hra];intro h;cases h
   have hs:=hstep hne
   rw [hra] at hs
   have hl:=(sign_other (sign_yes hne)).1
   simp only
   rw [eres_step s _ hl,hs]
  | some mn mx c j=>
   have hne:repAt true s st.pos≠.none:=by rw [hra];intro h;cases h
   have hs:=hstep hne
   rw [hra] at hs
   have hl:=(sign_other (sign_yes hne)).1
   obtain ⟨m1,m2⟩:=rep_mv _ _ _ _ _ _ _ hra
   have hc:c=0:=by
    unfold repAt at hra
    simp only [opAt,if_true] at hra
    split at hra
    ·injection hra with _ _ h _;exact h.symm
    ·split at hra
     ·injection hra with _ _ h _;exact h.symm
     ·split at hra
      ·injection hra with _ _ h _;exact h.symm
      ·split at hra
       ·split at hra
        ·cases hra
        ·injection hra with _ _ h _;exact h.symm
       ·cases hra
   have:=ih (st.to j) (.rep d mn mx) e l m2 (by show _ < n+j;omega) rfl
   simp only
   rw [if_pos hc]
   rw [eres_step s _ (show (e.at st (l++[d])).pos < _ from hl),hs]
   exact this
def lvSub (s:List UInt8):Nat→Option (ReSt→ReRes (ReSt × Nd))
 | 0=>none
 | k+1=>some (regM true s k)
theorem reg_lv (s:List UInt8) (k:Nat) (st:ReSt):regM true s k st=choiceM true s (lvSub s k) false (s.length+1) st []:=by cases k <;> rfl
theorem lvSub_ok (s:List UInt8) (k:Nat):SubMv s (lvSub s k)∧SubOk (lvSub s k):=by
 cases k with
 | zero=>exact ⟨fun f hf=>(by cases hf),fun f hf=>(by cases hf)⟩
 | succ k=>exact reg_subs true s k
def RunC (s:List UInt8) (k:Nat):Prop:=∀ (n:Nat) (e:ES),e.pos≤s.length→s.length < n+e.pos→e.outer.length+k=12→e.inner.pcs=[]→
 match choiceM true s (lvSub s k) false n e.st e.inner.brs with
 | .error q=>eres s e=.error q
 | .ok (st',d)=>∃ b p,nchoose (b++[njoin p])=d∧eres s e=eres s (e.lv st' b p)∧(s.length≤st'.pos∨chAt s st'.pos 41=true)∧st'.pos≤s.length
theorem run_atom (s:List UInt8) (k:Nat) (hC:∀ j,k=j+1→RunC s j) (e:ES) (hl:e.pos < s.length) (hk:e.outer.length+k=12) (h124:chAt s e.pos 124=false) (h41:chAt s e.pos 41=false) (h94:chAt s e.pos 94=false) (h36:chAt s e.pos 36=false) (hs:repSign s e.pos=false) :
  match atomM true s (lvSub s k) e.st with
  | .error q=>eres s e=.error q
  | .ok (st',d)=>eres s e=eres s (e.at st' (e.inner.pcs++[d])):=by
 by_cases h40:chAt s e.pos 40=true
 ·have ha:atomM true s (lvSub s k) e.st=grpM true s (lvSub s k) e.st:=by
   unfold atomM
   rw [show opAt true s e.st.pos 40=true from h40]
   rfl
  rw [ha,eres_step s e hl]
  unfold grpM
  have hst:estep s e=(if e.outer.length=12 then .error (4,e.pos) else .ok { e with pos:=e.pos+1,groups:=e.groups+1,outer:=e.outer++[e.inner],inner:=⟨e.pos,e.groups+1,[],[]⟩ }):=by
   unfold estep
   rw [h124,h40]
   rfl
  rw [hst]
  cases k with
  | zero=>rw [if_pos (by omega)];rfl
  | succ j=>
   rw [if_neg (by omega)]
   simp only [lvSub]
   have hR:=hC j rfl (s.length+1) { e with pos:=e.pos+1,groups:=e.groups+1,outer:=e.outer++[e.inner],inner:=⟨e.pos,e.groups+1,[],[]⟩ } hl (by show _ < _+(e.pos+1);omega) (by show (e.outer++[e.inner]).length+j=12;rw [List.length_append,List.length_singleton];omega) rfl
   have hreg:regM true s j { e.st with pos:=e.st.pos+opLen true,opened:=e.st.opened+1 }=choiceM true s (lvSub s j) false (s.length+1) (⟨e.pos+1,e.groups+1,e.closed,e.marks⟩:ReSt) []:=reg_lv s j _
   rw [hreg]
   have hR':(match choiceM true s (lvSub s j) false (s.length+1) (⟨e.pos+1,e.groups+1,e.closed,e.marks⟩:ReSt) [] with
    | .error q=>eres s { e with pos:=e.pos+1,groups:=e.groups+1,outer:=e.outer++[e.inner],inner:=⟨e.pos,e.groups+1,[],[]⟩ }=.error q
    | .ok (st',d)=>∃ b p,nchoose (b++[njoin p])=d∧eres s { e with pos:=e.pos+1,groups:=e.groups+1,outer:=e.outer++[e.inner],inner:=⟨e.pos,e.groups+1,[],[]⟩ }=eres s (({ e with pos:=e.pos+1,groups:=e.groups+1,outer:=e.outer++[e.inner],inner:=⟨e.pos,e.groups+1,[],[]⟩ }:ES).lv st' b p)∧(s.length≤st'.pos∨chAt s st'.pos 41=true)∧st'.pos≤s.length):=hR
   clear hR hreg
   cases hc:choiceM true s (lvSub s j) false (s.length+1) (⟨e.pos+1,e.groups+1,e.closed,e.marks⟩:ReSt) [] with
   | error q=>rw [hc] at hR';exact hR'
   | ok q=>
    obtain ⟨st',d⟩:=q
    rw [hc] at hR'
    obtain ⟨b,p,hd,he,hend,hle⟩:=hR'
    simp only
    rw [he]
    cases h41':opAt true s st'.pos 41 with
    | true=>
     have c41:chAt s st'.pos 41=true:=h41'
     have hlt:st'.pos < s.length:=(ch_byt c41).1
     rw [if_pos rfl,eres_step s _ (show st'.pos < s.length from hlt)]
     have hs2:estep s (({ e with pos:=e.pos+1,groups:=e.groups+1,outer:=e.outer++[e.inner],inner:=⟨e.pos,e.groups+1,[],[]⟩ }:ES).lv st' b p)=.ok (e.at { st' with pos:=st'.pos+opLen true,closed:=st'.closed++[(e.st.opened:Int)+1] } (e.inner.pcs++[.group ((e.st.opened:Int)+1) d])):=by
      unfold estep
      rw [show (({ e with pos:=e.pos+1,groups:=e.groups+1,outer:=e.outer++[e.inner],inner:=⟨e.pos,e.groups+1,[],[]⟩ }:ES).lv st' b p).pos=st'.pos from rfl,ch_no (show byt s st'.pos≠124 by rw [(ch_byt c41).2];decide),ch_no (show byt s st'.pos≠40 by rw [(ch_byt c41).2];decide),c41]
      simp only [Bool.false_eq_true,if_false,if_true]
      rw [show (({ e with pos:=e.pos+1,groups:=e.groups+1,outer:=e.outer++[e.inner],inner:=⟨e.pos,e.groups+1,[],[]⟩ }:ES).lv st' b p).outer=e.outer++[e.inner] from rfl,List.getLast?_concat,List.dropLast_concat]
      simp only
      rw [←hd]
      rfl
     rw [hs2]
    | false=>
     rw [if_neg (by decide)]
     have hlen:s.length≤st'.pos:=by
      rcases hend with h | h
      ·exact h
      ·rw [show chAt s st'.pos 41=false from h41'] at h;cases h
     simp only
     rw [eres_end s _ (show s.length≤st'.pos from hlen)]
     have:(e.outer++[e.inner]).isEmpty=false:=by cases e.outer <;> rfl
     show (if (e.outer++[e.inner]).isEmpty=true then _ else _)=_
     rw [this]
     rfl
 ·have h40':chAt s e.pos 40=false:=by simpa using h40
  have ha:atomM true s (lvSub s k) e.st=atomM true s none e.st:=by
   unfold atomM
   rw [show opAt true s e.st.pos 40=false from h40']
   rfl
  rw [ha,eres_step s e hl]
  have hst:estep s e=(match atomM true s none e.st with
    | .error q=>.error q
    | .ok (st,d)=>.ok (e.at st (e.inner.pcs++[d]))):=by
   unfold estep
   rw [h124,h40',h41,h94,h36,hs]
   rfl
  rw [hst]
  cases atomM true s none e.st with
  | error q=>rfl
  | ok q=>rfl
theorem run_branch (s:List UInt8) (k:Nat) (hC:∀ j,k=j+1→RunC s j) (begin:Nat):∀ (n:Nat) (e:ES),e.pos≤s.length→s.length < n+e.pos→e.outer.length+k=12→(frontP e.inner.pcs=true∨repAt true s e.pos=.none)→
  match branchM true s (lvSub s k) false begin n e.st e.inner.pcs (frontP e.inner.pcs) with
  | .error q=>eres s e=.error q
  | .ok (st',d)=>∃ p,njoin p=d∧eres s e=eres s (e.at st' p):=by
 intro n
 induction n with
 | zero=>intro e h1 h2;omega
 | succ n ih=>
  intro e h1 h2 hk hf
  have hpos:e.st.pos=e.pos:=rfl
  rw [branchM,hpos]
  by_cases hend:(decide (s.length≤e.pos) || opAt true s e.pos 124 || (opAt true s e.pos 41 && !false))=true
  ·rw [if_pos hend]
   exact ⟨e.inner.pcs,rfl,rfl⟩
  ·rw [if_neg hend]
   simp only [Bool.or_eq_true,decide_eq_true_eq,Bool.not_false,Bool.and_true,not_or,Bool.not_eq_true] at hend
   obtain ⟨⟨hlt,h124⟩,h41⟩:=hend
   have hl:e.pos < s.length:=by omega
   have c124:chAt s e.pos 124=false:=h124
   have c41:chAt s e.pos 41=false:=h41
   by_cases h94:chAt s e.pos 94=true
   ·rw [if_pos (by rw [h94];rfl)]
    have hst:estep s e=.ok (e.add (e.pos+1) .start):=by
     unfold estep
     rw [c124,ch_no (show byt s e.pos≠40 by rw [(ch_byt h94).2];decide),c41,h94]
     rfl
    have hi:=ih (e.add (e.pos+1) .start) hl (by show _ < n+(e.pos+1);omega) hk (.inl (front_snoc _ _))
    rw [eres_step s e hl,hst]
    rw [show (e.add (e.pos+1) .start).inner.pcs=e.inner.pcs++[.start] from rfl,front_snoc] at hi
    exact hi
   ·have c94:chAt s e.pos 94=false:=by simpa using h94
    rw [if_neg (by rw [c94];simp)]
    by_cases h36:chAt s e.pos 36=true
    ·rw [if_pos (by rw [h36];rfl)]
     have hst:estep s e=.ok (e.add (e.pos+1) .fin):=by
      unfold estep
      rw [c124,ch_no (show byt s e.pos≠40 by rw [(ch_byt h36).2];decide),c41,c94,h36]
      rfl
     have hi:=ih (e.add (e.pos+1) .fin) hl (by show _ < n+(e.pos+1);omega) hk (.inl (front_snoc _ _))
     rw [eres_step s e hl,hst]
     rw [show (e.add (e.pos+1) .fin).inner.pcs=e.inner.pcs++[.fin] from rfl,front_snoc] at hi
     exact hi
    ·have c36:chAt s e.pos 36=false:=by simpa using h36
     rw [if_neg (by rw [c36];simp)]
     have hsg:(opAt true s e.pos 123 || opAt true s e.pos 43 || opAt true s e.pos 63 || (true && chAt s e.pos 42))=repSign s e.pos:=by
      unfold repSign
      simp only [opAt,if_true,Bool.true_and]
      cases chAt s e.pos 123 <;> cases chAt s e.pos 43 <;> cases chAt s e.pos 63 <;> cases chAt s e.pos 42 <;> rfl
     rw [hsg]
     by_cases hfr:(frontP e.inner.pcs && repSign s e.pos)=true
     ·rw [if_pos hfr]
      rw [Bool.and_eq_true] at hfr
      have hst:estep s e=.error (10,e.pos):=by
       obtain ⟨_,k1,k2,k3,k4,k5⟩:=sign_other hfr.2
       unfold estep
       rw [k1,k2,k3,k4,k5,hfr.2,hfr.1]
       rfl
      rw [eres_step s e hl,hst]
     ·rw [if_neg hfr]
      have hns:repSign s e.pos=false:=by
       rcases hf with hf | hf
       ·rw [hf,Bool.true_and] at hfr
        simpa using hfr
       ·exact sign_no hf
      have hat:=run_atom s k hC e hl hk c124 c41 c94 c36 hns
      cases ha:atomM true s (lvSub s k) e.st with
      | error q=>rw [ha] at hat;exact hat
      | ok q=>
       obtain ⟨st1,d1⟩:=q
       rw [ha] at hat
       simp only at hat ⊢
       have m1:=atom_mv true s (lvSub s k) (lvSub_ok s k).1 e.st st1 d1 hl ha
       obtain ⟨_,hir,_⟩:=atom_takes true s (lvSub s k) (lvSub_ok s k).2 _ _ _ ha
       have hrr:=run_rep s (s.length+1) st1 d1 e e.inner.pcs m1.2 (by omega) hir
       cases hr:repM true s (s.length+1) st1 d1 with
       | error q=>rw [hr] at hrr;rw [hat];exact hrr
       | ok q=>
        obtain ⟨st2,d2⟩:=q
        rw [hr] at hrr
        obtain ⟨hrr,hir2⟩:=hrr
        have m2:=repM_mv true s _ _ _ _ _ m1.2 hr
        have hfz:frontP (e.inner.pcs++[d2])=false:=front_rep hir2
        have hi:=ih (e.at st2 (e.inner.pcs++[d2])) m2.2 (by show _ < n+st2.pos;have:e.st.pos=e.pos:=rfl;omega) hk (.inr (repM_end true s _ _ _ _ _ hr))
        rw [show (e.at st2 (e.inner.pcs++[d2])).inner.pcs=e.inner.pcs++[d2] from rfl,hfz] at hi
        rw [hat,hrr]
        exact hi
theorem run_choice (s:List UInt8) (k:Nat) (hC:∀ j,k=j+1→RunC s j):RunC s k:=by
 intro n
 induction n with
 | zero=>intro e h1 h2;omega
 | succ n ih=>
  intro e h1 h2 hk hp
  rw [choiceM]
  have hb:=run_branch s k hC e.st.pos (s.length+1) e h1 (by omega) hk (.inl (by rw [hp];rfl))
  rw [hp] at hb
  cases hbr:branchM true s (lvSub s k) false e.st.pos (s.length+1) e.st [] true with
  | error q=>rw [show frontP []=true from rfl,hbr] at hb;exact hb
  | ok q=>
   obtain ⟨st1,d1⟩:=q
   rw [show frontP []=true from rfl,hbr] at hb
   obtain ⟨p,hd,he⟩:=hb
   have m1:=branch_mv true s (lvSub s k) (lvSub_ok s k).1 false e.st.pos _ _ _ _ _ _ h1 hbr
   simp only
   cases h124:opAt true s st1.pos 124 with
   | true=>
    have c124:chAt s st1.pos 124=true:=h124
    have hst:estep s (e.at st1 p)=.ok (e.lv (st1.to (st1.pos+1)) (e.inner.brs++[d1]) []):=by
     unfold estep
     rw [show (e.at st1 p).pos=st1.pos from rfl,c124]
     show Except.ok _=Except.ok _
     rw [←hd]
     rfl
    have hi:=ih (e.lv (st1.to (st1.pos+1)) (e.inner.brs++[d1]) []) (ch_lt c124) (by show _ < n+(st1.pos+1);have:e.st.pos=e.pos:=rfl;omega) hk rfl
    rw [if_pos rfl,he,eres_step s _ (show st1.pos < _ from (ch_byt c124).1),hst]
    exact hi
   | false=>
    rw [if_neg (by decide)]
    refine ⟨e.inner.brs,p,by rw [hd],he,?_,m1.2⟩
    rcases branch_stop true s (lvSub s k) e.st.pos _ _ _ _ _ _ hbr with h | h | h
    ·exact .inl h
    ·rw [h124] at h;cases h
    ·exact .inr h
theorem run_all (s:List UInt8):∀ k,RunC s k:=by
 intro k
 induction k with
 | zero=>exact run_choice s 0 (fun j hj=>by omega)
 | succ k ih=>exact run_choice s (k+1) (fun j hj=>by obtain rfl:k=j:=Nat.succ.inj hj;exact ih)
def eZero:ES:=⟨0,0,[],[],⟨0,0,[],[]⟩,[]⟩
theorem parse_run (s:List UInt8) (hl:s.length≤250) :
  match parseM true s with
  | .error q=>eres s eZero=.error q
  | .ok (st,d)=>∃ e,eres s eZero=.ok e∧e.inner.whole=d∧e.marks=st.marks:=by
 rw [parse_shut true s hl]
 have hR:=run_all s 12 (s.length+1) eZero (Nat.zero_le _) (by show _ < _+0;omega) rfl rfl
 have hc:choiceM true s (lvSub s 12) false (s.length+1) eZero.st eZero.inner.brs=choiceM true s (some (regM true s 11)) false (s.length+1) reZero []:=rfl
 rw [hc] at hR
 cases h:choiceM true s (some (regM true s 11)) false (s.length+1) reZero [] with
 | error q=>rw [h] at hR;exact hR
 | ok q=>
  obtain ⟨st,d⟩:=q
  rw [h] at hR
  obtain ⟨b,p,hd,he,hend,hle⟩:=hR
  unfold shutR
  simp only
  cases h41:opAt true s st.pos 41 with
  | true=>
   have c41:chAt s st.pos 41=true:=h41
   rw [if_pos rfl]
   simp only
   rw [he,eres_step s _ (show st.pos < _ from (ch_byt c41).1)]
   have hst:estep s (eZero.lv st b p)=.error (8,st.pos):=by
    unfold estep
    rw [show (eZero.lv st b p).pos=st.pos from rfl,ch_no (show byt s st.pos≠124 by rw [(ch_byt c41).2];decide),ch_no (show byt s st.pos≠40 by rw [(ch_byt c41).2];decide),c41]
    rfl
   rw [hst]
  | false=>
   rw [if_neg (by decide)]
   simp only
   have hlen:s.length≤st.pos:=by
    rcases hend with h | h
    ·exact h
    ·rw [show chAt s st.pos 41=false from h41] at h;cases h
   refine ⟨eZero.lv st b p,?_,hd,rfl⟩
   rw [he,eres_end s _ (show s.length≤st.pos from hlen)]
   rfl
end Go.Proofs.YtbgfankoojjejaaGreatDoor
namespace Go.Proofs.YtbgfankoojjejaaGreatDoor
def LvOk (k:Nat) (v:Lv):Prop:=v.pcs.all inCat=true∧v.brs.all inAlt=true∧v.pcs.length≤k∧v.brs.length≤k∧v.num≤k
theorem LvOk.up {k j:Nat} {v:Lv} (h:LvOk k v) (hj:k≤j):LvOk j v:=⟨h.1,h.2.1,Nat.le_trans h.2.2.1 hj,Nat.le_trans h.2.2.2.1 hj,Nat.le_trans h.2.2.2.2 hj⟩
structure EOk (s:List UInt8) (e:ES):Prop where
 pos:e.pos≤s.length
 inner:LvOk e.pos e.inner
 outer:∀ v∈e.outer,LvOk e.pos v
 marks:e.marks.length≤e.pos
 groups:e.groups≤e.pos
 deep:e.outer.length≤12
 closed:e.closed.length≤e.pos
theorem zero_ok (s:List UInt8):EOk s eZero:=⟨Nat.zero_le _,⟨rfl,rfl,Nat.le_refl _,Nat.le_refl _,Nat.le_refl _⟩,fun _ h=>(by cases h),Nat.le_refl _,Nat.le_refl _,Nat.zero_le _,Nat.le_refl _⟩
theorem join_alt (l:List Nd) (h:l.all inCat=true):inAlt (njoin l)=true:=by
 unfold njoin
 rw [jflat_all l h]
 rcases l with _ | ⟨x,_ | ⟨y,ys⟩⟩
 ·rfl
 ·rw [List.all_cons,Bool.and_eq_true] at h
  exact cat_alt h.1
 ·rfl
theorem LvOk.add {k j:Nat} {v:Lv} {d:Nd} (h:LvOk k v) (hd:inCat d=true) (hj:k < j):LvOk j { v with pcs:=v.pcs++[d] }:=
 ⟨all_snoc h.1 hd,h.2.1,by show (v.pcs++[d]).length≤j;rw [List.length_append];have:=h.2.2.1;simp;omega,by show v.brs.length≤j;have:=h.2.2.2.1;omega,by show v.num≤j;have:=h.2.2.2.2;omega⟩
theorem LvOk.end {k j:Nat} {v:Lv} (h:LvOk k v) (hj:k < j):LvOk j { v with brs:=v.brs++[njoin v.pcs],pcs:=[] }:=
 ⟨rfl,all_snoc h.2.1 (join_alt _ h.1),Nat.zero_le _,by show (v.brs++[njoin v.pcs]).length≤j;rw [List.length_append];have:=h.2.2.2.1;simp;omega,by show v.num≤j;have:=h.2.2.2.2;omega⟩
theorem LvOk.rep {k j:Nat} {v:Lv} {mn mx:Int} (h:LvOk k v) (hj:k < j):LvOk j { v with pcs:=v.pcs.dropLast++[.rep (v.pcs.getLastD .empty) mn mx] }:=by
 refine ⟨all_snoc ?_ rfl,h.2.1,?_,?_,?_⟩
 ·have:=h.1
  rw [List.all_eq_true] at this ⊢
  exact fun x hx=>this x (List.dropLast_subset _ hx)
 ·show (v.pcs.dropLast++[_]).length≤j
  rw [List.length_append,List.length_dropLast]
  have:=h.2.2.1
  simp
  omega
 ·show v.brs.length≤j
  have:=h.2.2.2.1
  omega
 ·show v.num≤j
  have:=h.2.2.2.2
  omega
theorem atom_none_opened (s:List UInt8) (st st':ReSt) (d:Nd) (h:atomM true s none st=.ok (st',d)):st'.opened=st.opened:=by
 unfold atomM at h
 split at h
 ·unfold grpM at h;cases h
 ·split at h
  ·cases h
  ·split at h
   ·split at h
    ·injection h with h;injection h with h1 _;subst h1;rfl
    ·cases h
   ·split at h
    ·injection h with h;injection h with h1 _;subst h1;rfl
    ·split at h
     ·split at h
      ·unfold escM at h
       split at h
       ·split at h
        ·injection h with h;injection h with h1 _;subst h1;rfl
        ·cases h
       ·split at h
        ·cases h
        ·rename_i x m _
         injection h with h;injection h with h1 _;subst h1
         cases m <;> rfl
      ·cases h
     ·injection h with h;injection h with h1 _;subst h1;rfl
theorem atom_none_closed (s:List UInt8) (st st':ReSt) (d:Nd) (h:atomM true s none st=.ok (st',d)):st'.closed=st.closed:=by
 unfold atomM at h
 split at h
 ·unfold grpM at h;cases h
 ·split at h
  ·cases h
  ·split at h
   ·split at h
    ·injection h with h;injection h with h1 _;subst h1;rfl
    ·cases h
   ·split at h
    ·injection h with h;injection h with h1 _;subst h1;rfl
    ·split at h
     ·split at h
      ·unfold escM at h
       split at h
       ·split at h
        ·injection h with h;injection h with h1 _;subst h1;rfl
        ·cases h
       ·split at h
        ·cases h
        ·rename_i x m _
         injection h with h;injection h with h1 _;subst h1
         cases m <;> rfl
      ·cases h
     ·injection h with h;injection h with h1 _;subst h1;rfl
theorem estep_ok (s:List UInt8) (e e':ES) (h:EOk s e) (hl:e.pos < s.length) (hs:estep s e=.ok e'):EOk s e':=by
 obtain ⟨hm,hp⟩:=estep_mv s e e' hl hs
 unfold estep at hs
 split at hs
 ·injection hs with hs;subst hs
  exact ⟨hp,h.inner.end hm,fun v hv=>(h.outer v hv).up (Nat.le_of_lt hm),Nat.le_trans h.marks (Nat.le_of_lt hm),Nat.le_trans h.groups (Nat.le_of_lt hm),h.deep,Nat.le_trans h.closed (Nat.le_of_lt hm)⟩
 ·split at hs
  ·split at hs
   ·cases hs
   ·rename_i h12
    injection hs with hs;subst hs
    refine ⟨hp,⟨rfl,rfl,Nat.zero_le _,Nat.zero_le _,Nat.succ_le_succ h.groups⟩,fun v hv=>?_,Nat.le_trans h.marks (Nat.le_of_lt hm),Nat.succ_le_succ h.groups,?_,Nat.le_trans h.closed (Nat.le_of_lt hm)⟩
    ·rcases List.mem_append.1 hv with hv | hv
     ·exact (h.outer v hv).up (Nat.le_of_lt hm)
     ·rw [List.mem_singleton] at hv;subst hv;exact h.inner.up (Nat.le_of_lt hm)
    ·show (e.outer++[e.inner]).length≤12
     rw [List.length_append,List.length_singleton]
     have:=h.deep
     omega
  ·split at hs
   ·split at hs
    ·cases hs
    ·rename_i v hv
     injection hs with hs;subst hs
     have hmem:v∈e.outer:=List.mem_of_getLast? hv
     refine ⟨hp,(h.outer v hmem).add rfl hm,fun u hu=>(h.outer u (List.dropLast_subset _ hu)).up (Nat.le_of_lt hm),Nat.le_trans h.marks (Nat.le_of_lt hm),Nat.le_trans h.groups (Nat.le_of_lt hm),?_,?_⟩
     ·show e.outer.dropLast.length≤12
      rw [List.length_dropLast]
      have:=h.deep
      omega
     ·show (e.closed++[(e.inner.num:Int)]).length≤e.pos+1
      rw [List.length_append,List.length_singleton]
      have:=h.closed
      omega
   ·split at hs
    ·injection hs with hs;subst hs
     exact ⟨hp,h.inner.add rfl hm,fun v hv=>(h.outer v hv).up (Nat.le_of_lt hm),Nat.le_trans h.marks (Nat.le_of_lt hm),Nat.le_trans h.groups (Nat.le_of_lt hm),h.deep,Nat.le_trans h.closed (Nat.le_of_lt hm)⟩
    ·split at hs
     ·injection hs with hs;subst hs
      exact ⟨hp,h.inner.add rfl hm,fun v hv=>(h.outer v hv).up (Nat.le_of_lt hm),Nat.le_trans h.marks (Nat.le_of_lt hm),Nat.le_trans h.groups (Nat.le_of_lt hm),h.deep,Nat.le_trans h.closed (Nat.le_of_lt hm)⟩
     ·split at hs
      ·split at hs
       ·cases hs
       ·split at hs
        ·injection hs with hs;subst hs
         exact ⟨hp,h.inner.rep hm,fun v hv=>(h.outer v hv).up (Nat.le_of_lt hm),Nat.le_trans h.marks (Nat.le_of_lt hm),Nat.le_trans h.groups (Nat.le_of_lt hm),h.deep,Nat.le_trans h.closed (Nat.le_of_lt hm)⟩
        ·cases hs
      ·split at hs
       ·cases hs
       ·rename_i st d ha
        injection hs with hs;subst hs
        have hmk:=atom_mks true s none (fun f hf=>(by cases hf)) (fun f hf=>(by cases hf)) e.st st d hl ha
        obtain ⟨_,_,hic⟩:=atom_takes true s none (fun f hf=>by cases hf) _ _ _ ha
        have hop:st.opened=e.groups:=atom_none_opened s e.st st d ha
        refine ⟨hp,h.inner.add hic hm,fun v hv=>(h.outer v hv).up (Nat.le_of_lt hm),?_,?_,h.deep,?_⟩
        ·show st.marks.length≤st.pos
         unfold Mks at hmk
         have h1:=h.marks
         have h2:e.st.pos=e.pos:=rfl
         have h3:e.st.marks=e.marks:=rfl
         rw [h2,h3] at hmk
         omega
        ·show st.opened≤st.pos
         rw [hop]
         have:=h.groups
         have hm':e.pos < st.pos:=hm
         omega
        ·show st.closed.length≤st.pos
         rw [atom_none_closed s e.st st d ha]
         have:=h.closed
         have hm':e.pos < st.pos:=hm
         show e.closed.length≤st.pos
         omega
end Go.Proofs.YtbgfankoojjejaaGreatDoor
