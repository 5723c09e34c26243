/- The proof's texts Build, TxtWalk, GrPE: what the claim reaches of them. -/
import Derived.Shelf.Strings.BuilderK
import Derived.Shelf.Strings.BuilderRune
import Derived.Test.YtbgfankoojjejaaGreatDoorRows
import Derived.Test.YtbgfankoojjejaaGreatDoorGd01
import Derived.Test.YtbgfankoojjejaaGreatDoorGd02
import Derived.WalkKit
import Derived.WalkSpells
import Derived.WalkLawsBesides
import Derived.BigCall
import Derived.BigQuiet
import Derived.Deep.QuietTactic
import Derived.Lib.Hide
import Derived.Test.YtbgfankoojjejaaGreatDoorGd04
set_option linter.unusedSimpArgs false
set_option linter.unusedVariables false
set_option maxHeartbeats 8000000
set_option maxRecDepth 1000000
namespace Go.Proofs.YtbgfankoojjejaaGreatDoor
open Go.RowKit Go.Shelf
def bren167:Go.Shelf.Ren:=⟨fun | 167=>54 | 240=>79 | 276=>97 | n=>n,fun | 0=>0 | 4=>4 | 5=>5 | 9=>9 | 20=>20 | 37=>22 | 70=>100 | 72=>102 | 75=>104 | 164=>188 | 80=>106 | n=>n,fun | n=>n⟩
theorem blays167:Go.Proofs.Lays.n167 Tryz.prog bren167:={
 mixed:=by kernel_rfl
 f167:=Tryz.func54.trans (congrArg some (by kernel_rfl))
 f240:=Tryz.func79.trans (congrArg some (by kernel_rfl))
 f276:=Tryz.func97.trans (congrArg some (by kernel_rfl))
 t0:=Tryz.underlying0
 a0:=Tryz.isAgg0
 z0:=Tryz.sizeOf0
 v0:=Tryz.zeroValue0
 t4:=Tryz.underlying4
 a4:=Tryz.isAgg4
 z4:=Tryz.sizeOf4
 v4:=Tryz.zeroValue4
 t5:=Tryz.underlying5
 a5:=Tryz.isAgg5
 z5:=Tryz.sizeOf5
 v5:=Tryz.zeroValue5
 t9:=Tryz.underlying9
 a9:=Tryz.isAgg9
 z9:=Tryz.sizeOf9
 v9:=Tryz.zeroValue9
 t20:=Tryz.underlying20
 a20:=Tryz.isAgg20
 z20:=Tryz.sizeOf20
 v20:=Tryz.zeroValue20
 t37:=Tryz.underlying22
 a37:=Tryz.isAgg22
 z37:=Tryz.sizeOf22
 v37:=Tryz.zeroValue22
 t70:=Tryz.underlying100
 a70:=Tryz.isAgg100
 z70:=Tryz.sizeOf100
 v70:=Tryz.zeroValue100
 t72:=Tryz.underlying102
 a72:=Tryz.isAgg102
 z72:=Tryz.sizeOf102
 v72:=Tryz.zeroValue102
 t75:=Tryz.underlying104
 a75:=Tryz.isAgg104
 z75:=Tryz.sizeOf104
 v75:=Tryz.zeroValue104
 t164:=Tryz.underlying188
 a164:=Tryz.isAgg188
 z164:=Tryz.sizeOf188
 v164:=Tryz.zeroValue188 }
theorem bextra167:Builder.Extra Tryz.prog bren167:={
 sizeBuilder:=by kernel_rfl
 liesBuilder:=by kernel_rfl
 t5:=Tryz.underlying5
 a5:=Tryz.isAgg5
 z5:=Tryz.sizeOf5
 v5:=Tryz.zeroValue5
 infoByte:=by kernel_rfl
 cellsByte:=by kernel_rfl
 sizeByte:=by kernel_rfl
 neB5:=by decide }
theorem writeByte_k (B b:Nat) (bs:List Value) (c:Int) (w:World) (h:Lib.IsBuilderF 102 5 B b bs w) (hlen:bs.length+1≤140737488355328) (hBw:B≤w.heap.size) :
  Calls Tryz.prog 54 #[.pointer (some ⟨b,0,none⟩),.int .u8 c] w fun e w'=>e=.returned .nilIface∧(Lib.BuilderAtF 102 5 B b (.pointer (some ⟨b,0,none⟩)) (bs++[.int .u8 c]) w'∧Below B w w'∧Lib.OthersKept 5 (some b) w w'):=Any.Builder_WriteByte_k blays167 bextra167 B b bs c w h hlen hBw
def bren168:Go.Shelf.Ren:=⟨fun | 168=>126 | 240=>79 | 242=>138 | 276=>97 | 278=>146 | n=>n,fun | 0=>0 | 3=>3 | 4=>4 | 5=>5 | 9=>9 | 20=>20 | 21=>21 | 37=>22 | 46=>210 | 51=>236 | 70=>100 | 72=>102 | 75=>104 | 164=>188 | 80=>106 | n=>n,fun | n=>n⟩
theorem blays168:Go.Proofs.Lays.n168 Tryz.prog bren168:={
 mixed:=by kernel_rfl
 f168:=Tryz.func126.trans (congrArg some (by kernel_rfl))
 f240:=Tryz.func79.trans (congrArg some (by kernel_rfl))
 f242:=Tryz.func138.trans (congrArg some (by kernel_rfl))
 f276:=Tryz.func97.trans (congrArg some (by kernel_rfl))
 f278:=Tryz.func146.trans (congrArg some (by kernel_rfl))
 t0:=Tryz.underlying0
 a0:=Tryz.isAgg0
 z0:=Tryz.sizeOf0
 v0:=Tryz.zeroValue0
 t3:=Tryz.underlying3
 a3:=Tryz.isAgg3
 z3:=Tryz.sizeOf3
 v3:=Tryz.zeroValue3
 t4:=Tryz.underlying4
 a4:=Tryz.isAgg4
 z4:=Tryz.sizeOf4
 v4:=Tryz.zeroValue4
 t5:=Tryz.underlying5
 a5:=Tryz.isAgg5
 z5:=Tryz.sizeOf5
 v5:=Tryz.zeroValue5
 t9:=Tryz.underlying9
 a9:=Tryz.isAgg9
 z9:=Tryz.sizeOf9
 v9:=Tryz.zeroValue9
 t20:=Tryz.underlying20
 a20:=Tryz.isAgg20
 z20:=Tryz.sizeOf20
 v20:=Tryz.zeroValue20
 t21:=Tryz.underlying21
 a21:=Tryz.isAgg21
 z21:=Tryz.sizeOf21
 v21:=Tryz.zeroValue21
 t37:=Tryz.underlying22
 a37:=Tryz.isAgg22
 z37:=Tryz.sizeOf22
 v37:=Tryz.zeroValue22
 t46:=Tryz.underlying210
 a46:=Tryz.isAgg210
 z46:=Tryz.sizeOf210
 v46:=Tryz.zeroValue210
 t51:=Tryz.underlying236
 a51:=Tryz.isAgg236
 z51:=Tryz.sizeOf236
 v51:=Tryz.zeroValue236
 t70:=Tryz.underlying100
 a70:=Tryz.isAgg100
 z70:=Tryz.sizeOf100
 v70:=Tryz.zeroValue100
 t72:=Tryz.underlying102
 a72:=Tryz.isAgg102
 z72:=Tryz.sizeOf102
 v72:=Tryz.zeroValue102
 t75:=Tryz.underlying104
 a75:=Tryz.isAgg104
 z75:=Tryz.sizeOf104
 v75:=Tryz.zeroValue104
 t164:=Tryz.underlying188
 a164:=Tryz.isAgg188
 z164:=Tryz.sizeOf188
 v164:=Tryz.zeroValue188 }
theorem bextra168:Builder.Extra Tryz.prog bren168:={
 sizeBuilder:=by kernel_rfl
 liesBuilder:=by kernel_rfl
 t5:=Tryz.underlying5
 a5:=Tryz.isAgg5
 z5:=Tryz.sizeOf5
 v5:=Tryz.zeroValue5
 infoByte:=by kernel_rfl
 cellsByte:=by kernel_rfl
 sizeByte:=by kernel_rfl
 neB5:=by decide }
theorem writeRune_k (B b:Nat) (bs:List Value) (r:Int) (hr0:-2147483648≤r) (hr1:r≤2147483647) (w:World) (h:Lib.IsBuilderF 102 5 B b bs w) (hlen:bs.length+4≤140737488355328) (hBw:B≤w.heap.size) :
  Calls Tryz.prog 126 #[.pointer (some ⟨b,0,none⟩),.int .i32 r] w fun e w'=>e=.returned (.tuple #[.int .i64 (Lib.runeCells r).length,.nilIface])∧(Lib.BuilderAtF 102 5 B b (.pointer (some ⟨b,0,none⟩)) (bs++Lib.runeCells r) w'∧Below B w w'∧Lib.OthersKept 5 (some b) w w'):=Any.Builder_WriteRune_k blays168 bextra168 B b bs r hr0 hr1 w h hlen hBw
def bren169:Go.Shelf.Ren:=⟨fun | 169=>55 | n=>n,fun | 0=>0 | 3=>3 | 9=>9 | 37=>22 | 70=>100 | 72=>102 | 127=>156 | 5=>5 | n=>n,fun | n=>n⟩
theorem blays169:Go.Proofs.Lays.n169 Tryz.prog bren169:={
 mixed:=by kernel_rfl
 f169:=Tryz.func55.trans (congrArg some (by kernel_rfl))
 t0:=Tryz.underlying0
 a0:=Tryz.isAgg0
 z0:=Tryz.sizeOf0
 v0:=Tryz.zeroValue0
 t3:=Tryz.underlying3
 a3:=Tryz.isAgg3
 z3:=Tryz.sizeOf3
 v3:=Tryz.zeroValue3
 t9:=Tryz.underlying9
 a9:=Tryz.isAgg9
 z9:=Tryz.sizeOf9
 v9:=Tryz.zeroValue9
 t37:=Tryz.underlying22
 a37:=Tryz.isAgg22
 z37:=Tryz.sizeOf22
 v37:=Tryz.zeroValue22
 t70:=Tryz.underlying100
 a70:=Tryz.isAgg100
 z70:=Tryz.sizeOf100
 v70:=Tryz.zeroValue100
 t72:=Tryz.underlying102
 a72:=Tryz.isAgg102
 z72:=Tryz.sizeOf102
 v72:=Tryz.zeroValue102
 t127:=Tryz.underlying156
 a127:=Tryz.isAgg156
 z127:=Tryz.sizeOf156
 v127:=Tryz.zeroValue156 }
theorem bextra169:Builder.Extra Tryz.prog bren169:={
 sizeBuilder:=by kernel_rfl
 liesBuilder:=by kernel_rfl
 t5:=Tryz.underlying5
 a5:=Tryz.isAgg5
 z5:=Tryz.sizeOf5
 v5:=Tryz.zeroValue5
 infoByte:=by kernel_rfl
 cellsByte:=by kernel_rfl
 sizeByte:=by kernel_rfl
 neB5:=by decide }
theorem builderString_k (B b:Nat) (l:List UInt8) (w:World) (h:Lib.IsBuilderF 102 5 B b (Lib.byteCells l) w) (hBw:B≤w.heap.size) :
  Calls Tryz.prog 55 #[.pointer (some ⟨b,0,none⟩)] w fun e w'=>e=.returned (.string ⟨l.toArray⟩)∧(Lib.IsBuilderF 102 5 B b (Lib.byteCells l) w'∧Below B w w'∧Lib.OthersKept 5 (some b) w w'):=Any.Builder_String_any_k blays169 bextra169 B b l w h hBw
end Go.Proofs.YtbgfankoojjejaaGreatDoor
namespace Go.Proofs.YtbgfankoojjejaaGreatDoor
open Go.RowKit
theorem ret_str {a b:ByteArray} (h:a=b):Ending.returned (.string a)=.returned (.string b):=by rw [h]
theorem list_take_snoc (s:ByteArray) (k:Nat) (h:k < s.size):s.data.toList.take (k+1)=s.data.toList.take k++[s[k]]:=by
 rw [List.take_succ_eq_append_getElem (by simpa using h)];rfl
theorem wide_any (s:ByteArray) (w:World) (hs:s.size≤35184372088832) :
  Calls Tryz.prog 106 #[.string s] w fun e w'=>e=.returned (.string (txt (wideL s.data.toList)))∧Below w.heap.size w w':=by
 go_enter Tryz.func106,Tryz.ntmps106
 go_wp2
 go_loopw [7] (fun i wr=>∃ k:Nat,k≤s.size∧i=.int .i64 k∧Lib.IsBuilderF 102 5 w.heap.size w.heap.size (Lib.byteCells (wideL (s.data.toList.take k))) wr∧Below w.heap.size w wr∧w.heap.size≤wr.heap.size) (fun i _=>s.size - (intOf i).toNat)
 case atStart=>
  refine ⟨0,by omega,rfl,Lib.IsBuilderF.of (Lib.fresh_isBuilder 102 5 w),(Below.refl _ w).alloc (Nat.le_refl _) _,by simp⟩
 case round=>
  obtain ⟨k,hk,rfl,hI,hbw,hsz⟩:=hrel
  have hlen:=wideL_len (s.data.toList.take k)
  have hl2:(s.data.toList.take k).length≤k:=List.length_take_le _ _
  have hlc:(Lib.byteCells (wideL (s.data.toList.take k))).length≤2 * k:=by rw [Lib.byteCells_length];omega
  by_cases hlt:k < s.size
  ·have hb:=s[k].toNat_lt
   have Hn:=Lib.hid (show wideL (s.data.toList.take (k+1))=wideL (s.data.toList.take k)++wide1 s[k] by rw [list_take_snoc s k hlt,wideL_snoc])
   go_wp2_with (go_at_call 126;refine (writeRune_k w.heap.size w.heap.size _ _ (by omega) (by omega) _ hI (by omega) hsz).mono ?_)
   rintro e W1 ⟨rfl,h1,b1,_⟩
   go_wp2
   go_roundw
   case rel=>
    refine ⟨k+1,by omega,by go_num,?_,hbw.trans b1,Nat.le_trans hsz b1.size⟩
    rw [Hn.out,Lib.byteCells_append,←rune_wide,Lib.byteCells_encodeRune]
    exact Or.inr h1
   case measure=>simp [intOf];omega
  ·have Hk:=Lib.hid (show s.data.toList.take k=s.data.toList from List.take_of_length_le (by rw [←size_list];omega))
   go_wp2_with (go_at_call 55;refine (builderString_k w.heap.size w.heap.size _ _ hI hsz).mono ?_)
   rintro e W1 ⟨rfl,_,b1,_⟩
   go_wp2
   go_ret
   exact ⟨ret_str (by rw [Hk.out];rfl),hbw.trans b1⟩
end Go.Proofs.YtbgfankoojjejaaGreatDoor
namespace Go.Proofs.YtbgfankoojjejaaGreatDoor
def Stop (ere:Bool) (x:List UInt8):Prop:=x=[]∨∃ c,(c=41∨c=124)∧opAt ere x 0 c=true
def ReRep.up (P:Nat):ReRep→ReRep
 | .none=>.none
 | .bad=>.bad
 | .some a b c j=>.some a b c (P+j)
end Go.Proofs.YtbgfankoojjejaaGreatDoor
namespace Go.Proofs.YtbgfankoojjejaaGreatDoor
theorem branch_stop (ere:Bool) (s:List UInt8) (sub:Option (ReSt→ReRes (ReSt × Nd))) (begin:Nat):∀ (n:Nat) (st:ReSt) (parts:List Nd) (front:Bool) (st':ReSt) (d:Nd),
  branchM ere s sub false begin n st parts front=.ok (st',d)→s.length≤st'.pos∨opAt ere s st'.pos 124=true∨opAt ere s st'.pos 41=true:=by
 intro n
 induction n with
 | zero=>intro st parts front st' d h;cases h
 | succ n ih=>
  intro st parts front st' d h
  rw [branchM] at h
  split at h
  ·rename_i he
   injection h with h
   injection h with h1 _
   subst h1
   simp only [Bool.or_eq_true,decide_eq_true_eq,Bool.and_eq_true,Bool.not_false,and_true] at he
   rcases he with (h | h) | h
   ·exact .inl h
   ·exact .inr (.inl h)
   ·exact .inr (.inr h)
  ·split at h
   ·exact ih _ _ _ _ _ h
   ·split at h
    ·exact ih _ _ _ _ _ h
    ·split at h
     ·cases h
     ·split at h
      ·cases h
      ·split at h
       ·cases h
       ·exact ih _ _ _ _ _ h
section
variable {ere:Bool} {p s x:List UInt8} (hx:Stop ere x) (g:Nat) (M:List (Nat × Nat))
include hx
end
end Go.Proofs.YtbgfankoojjejaaGreatDoor
namespace Go.Proofs.YtbgfankoojjejaaGreatDoor
theorem whole_in {ere:Bool} {s:List UInt8} {st:ReSt} {d:Nd} (h:parseM ere s=.ok (st,d)) :
  s.length≤250∧choiceM ere s (some (regM ere s 11)) false (s.length+1) reZero []=.ok (st,d)∧opAt ere s st.pos 41=false:=by
 have hl:s.length≤250:=by
  unfold parseM at h
  split at h
  ·cases h
  ·omega
 rw [parse_shut _ _ hl] at h
 cases hc:choiceM ere s (some (regM ere s 11)) false (s.length+1) reZero [] with
 | error e=>rw [hc] at h;cases h
 | ok q=>
  obtain ⟨st2,d2⟩:=q
  rw [hc] at h
  unfold shutR at h
  simp only at h
  cases h41:opAt ere s st2.pos 41 with
  | true=>rw [h41] at h;cases h
  | false=>
   rw [h41] at h
   injection h with h
   injection h with h1 h2
   subst h1 h2
   exact ⟨hl,rfl,h41⟩
theorem reg_subs (ere:Bool) (s:List UInt8) (k:Nat):SubMv s (some (regM ere s k))∧SubOk (some (regM ere s k)):=
 ⟨fun f hf=>by injection hf with hf;subst hf;exact reg_mv ere s k,fun f hf=>by injection hf with hf;subst hf;exact reg_takes ere s k⟩
end Go.Proofs.YtbgfankoojjejaaGreatDoor
namespace Go.Proofs.YtbgfankoojjejaaGreatDoor
theorem repM_err (ere:Bool) (s:List UInt8):∀ (n:Nat) (st:ReSt) (d:Nd) (q:Nat × Nat),st.pos≤s.length→s.length < n+st.pos→repM ere s n st d=.error q→q.1≠0:=by
 intro n
 induction n with
 | zero=>intro st d q h1 h2;omega
 | succ n ih=>
  intro st d q h1 h2 h
  rw [repM] at h
  cases hr:repAt ere s st.pos with
  | none=>rw [hr] at h;cases h
  | bad=>rw [hr] at h;injection h with h;subst h;simp
  | some mn mx c j=>
   rw [hr] at h
   obtain ⟨m1,m2⟩:=rep_mv _ _ _ _ _ _ _ hr
   exact ih ((if c=0 then st else st.mark c).to j) _ q m2 (by show _ < n+j;omega) h
def SubErr (s:List UInt8) (sub:Option (ReSt→ReRes (ReSt × Nd))):Prop:=∀ f,sub=some f→∀ st q,st.pos≤s.length→f st=.error q→q.1≠0
theorem escM_err (ere:Bool) (st:ReSt) (c:Nat) (q:Nat × Nat) (h:escM ere st c=.error q):q.1≠0:=by
 unfold escM at h
 split at h
 ·split at h
  ·cases h
  ·injection h with h;subst h;simp
 ·split at h
  ·injection h with h;subst h;simp
  ·cases h
theorem atom_err (ere:Bool) (s:List UInt8) (sub:Option (ReSt→ReRes (ReSt × Nd))) (hs:SubErr s sub) (st:ReSt) (q:Nat × Nat) (h:atomM ere s sub st=.error q):q.1≠0:=by
 unfold atomM at h
 split at h
 ·rename_i h40
  unfold grpM at h
  split at h
  ·injection h with h;subst h;simp
  ·rename_i f
   split at h
   ·rename_i e he
    injection h with h
    subst h
    exact hs f rfl _ _ (op_len h40) he
   ·split at h
    ·cases h
    ·injection h with h;subst h;simp
 ·split at h
  ·injection h with h;subst h;simp
  ·split at h
   ·split at h
    ·cases h
    ·rename_i hz
     injection h with h
     subst h
     exact hz
   ·split at h
    ·cases h
    ·split at h
     ·split at h
      ·exact escM_err _ _ _ _ h
      ·injection h with h;subst h;simp
     ·cases h
theorem branch_err (ere:Bool) (s:List UInt8) (sub:Option (ReSt→ReRes (ReSt × Nd))) (hs:SubErr s sub) (hmv:SubMv s sub) (top:Bool) (begin:Nat):∀ (n:Nat) (st:ReSt) (parts:List Nd) (front:Bool) (q:Nat × Nat),st.pos≤s.length→s.length < n+st.pos→
  branchM ere s sub top begin n st parts front=.error q→q.1≠0:=by
 intro n
 induction n with
 | zero=>intro st parts front q h1 h2;omega
 | succ n ih=>
  intro st parts front q h1 h2 h
  rw [branchM] at h
  split at h
  ·cases h
  ·rename_i he
   have hlt:st.pos < s.length:=by
    simp only [Bool.or_eq_true,decide_eq_true_eq,not_or] at he
    omega
   split at h
   ·exact ih (st.to (st.pos+1)) _ _ q (show st.pos+1≤_ by omega) (show _ < n+(st.pos+1) by omega) h
   ·split at h
    ·exact ih (st.to (st.pos+1)) _ _ q (show st.pos+1≤_ by omega) (show _ < n+(st.pos+1) by omega) h
    ·split at h
     ·injection h with h;subst h;simp
     ·split at h
      ·rename_i e ha
       injection h with h
       subst h
       exact atom_err ere s sub hs st _ ha
      ·rename_i st1 d1 ha
       have m1:=atom_mv ere s sub hmv st st1 d1 hlt ha
       split at h
       ·rename_i e hr
        injection h with h
        subst h
        exact repM_err ere s _ _ _ _ m1.2 (by omega) hr
       ·rename_i st2 d2 hr
        have m2:=repM_mv ere s _ _ _ _ _ m1.2 hr
        exact ih st2 _ _ q m2.2 (by omega) h
theorem choice_err (ere:Bool) (s:List UInt8) (sub:Option (ReSt→ReRes (ReSt × Nd))) (hs:SubErr s sub) (hmv:SubMv s sub) (top:Bool):∀ (n:Nat) (st:ReSt) (l:List Nd) (q:Nat × Nat),st.pos≤s.length→s.length < n+st.pos→
  choiceM ere s sub top n st l=.error q→q.1≠0:=by
 intro n
 induction n with
 | zero=>intro st l q h1 h2;omega
 | succ n ih=>
  intro st l q h1 h2 h
  rw [choiceM] at h
  split at h
  ·rename_i e hb
   injection h with h
   subst h
   exact branch_err ere s sub hs hmv top _ _ _ _ _ _ h1 (by omega) hb
  ·rename_i st1 d1 hb
   have m1:=branch_mv ere s sub hmv top _ _ _ _ _ _ _ h1 hb
   split at h
   ·rename_i h124
    have hp:=op_pos ere
    exact ih ((if ere then st1 else st1.mark 124).to (st1.pos+opLen ere)) _ q (op_len h124) (by show _ < n+(st1.pos+opLen ere);omega) h
   ·cases h
theorem reg_err (ere:Bool) (s:List UInt8):∀ (k:Nat) (st:ReSt) (q:Nat × Nat),st.pos≤s.length→regM ere s k st=.error q→q.1≠0:=by
 intro k
 induction k with
 | zero=>intro st q hp h;exact choice_err ere s none (fun f hf=>by cases hf) (fun f hf=>by cases hf) false _ _ _ _ hp (by omega) h
 | succ k ih=>intro st q hp h;exact choice_err ere s (some (regM ere s k)) (fun f hf=>by injection hf with hf;subst hf;exact ih) (reg_subs ere s k).1 false _ _ _ _ hp (by omega) h
theorem whole_err {ere:Bool} {s:List UInt8} {q:Nat × Nat} (h:parseM ere s=.error q):q.1≠0:=by
 unfold parseM at h
 split at h
 ·injection h with h;subst h;simp
 ·exact choice_err ere s (some (regM ere s 11)) (fun f hf=>by injection hf with hf;subst hf;exact reg_err ere s 11) (reg_subs ere s 11).1 true _ _ _ _ (Nat.zero_le _) (by omega) h
theorem flat_sizes (f:Nd→List Nd) (hf:∀ d,nsizes (f d)≤nsize d) (l:List Nd):nsizes (l.flatMap f)≤nsizes l:=by
 induction l with
 | nil=>exact Nat.le_refl _
 | cons d ds ih=>rw [List.flatMap_cons,nsizes_append,nsizes];have:=hf d;omega
theorem joined_size (l:List Nd):nsize (njoin l)≤1+nsizes l:=by
 have h:=flat_sizes jpart nsizes_jpart l
 unfold njoin
 unfold jflat
 cases hl:l.flatMap jpart with
 | nil=>simp [nsize]
 | cons d ds=>
  rw [hl] at h
  cases ds with
  | nil=>simp only [nsizes] at h;simp only;omega
  | cons e es=>simp only [nsize];omega
theorem chosen_size (l:List Nd):nsize (nchoose l)≤1+nsizes l:=by
 have h:=flat_sizes cpart nsizes_cpart l
 unfold nchoose
 unfold cflat
 cases hl:l.flatMap cpart with
 | nil=>simp [nsize]
 | cons d ds=>
  rw [hl] at h
  cases ds with
  | nil=>simp only [nsizes] at h;simp only;omega
  | cons e es=>simp only [nsize];omega
theorem repM_size (ere:Bool) (s:List UInt8):∀ (n:Nat) (st:ReSt) (d:Nd) (st':ReSt) (d':Nd),repM ere s n st d=.ok (st',d')→nsize d'+3 * st.pos≤nsize d+3 * st'.pos:=by
 intro n
 induction n with
 | zero=>intro st d st' d' h;cases h
 | succ n ih=>
  intro st d st' d' h
  rw [repM] at h
  cases hr:repAt ere s st.pos with
  | none=>rw [hr] at h;injection h with h;injection h with h1 h2;subst h1 h2;exact Nat.le_refl _
  | bad=>rw [hr] at h;cases h
  | some mn mx c j=>
   rw [hr] at h
   have m:=(rep_mv _ _ _ _ _ _ _ hr).1
   have:=ih _ _ _ _ h
   rw [show ((if c=0 then st else st.mark c).to j).pos=j from rfl,nsize] at this
   omega
def SubSize (s:List UInt8) (sub:Option (ReSt→ReRes (ReSt × Nd))):Prop:=∀ f,sub=some f→∀ st st' d,st.pos≤s.length→f st=.ok (st',d)→nsize d+3 * st.pos≤2+3 * st'.pos
theorem atom_size (ere:Bool) (s:List UInt8) (sub:Option (ReSt→ReRes (ReSt × Nd))) (hs:SubSize s sub) (hmv:SubMv s sub) (st st':ReSt) (d:Nd) (hl:st.pos < s.length) (h:atomM ere s sub st=.ok (st',d)):nsize d+3 * st.pos≤3 * st'.pos:=by
 have hp:=op_pos ere
 have hm:=(atom_mv ere s sub hmv st st' d hl h).1
 unfold atomM at h
 split at h
 ·rename_i h40
  unfold grpM at h
  split at h
  ·cases h
  ·rename_i f
   split at h
   ·cases h
   ·rename_i st1 d1 he
    split at h
    ·injection h with h
     injection h with h1 h2
     subst h1 h2
     have:=hs f rfl _ _ _ (op_len h40) he
     simp only at this
     simp only [nsize]
     omega
    ·cases h
 ·split at h
  ·cases h
  ·split at h
   ·split at h
    ·injection h with h;injection h with h1 h2;subst h2;simp only [nsize];omega
    ·cases h
   ·split at h
    ·injection h with h;injection h with h1 h2;subst h2;simp only [nsize];omega
    ·split at h
     ·split at h
      ·unfold escM at h
       split at h
       ·split at h
        ·injection h with h;injection h with h1 h2;subst h2;simp only [nsize];omega
        ·cases h
       ·split at h
        ·cases h
        ·injection h with h;injection h with h1 h2;subst h2;simp only [nsize];omega
      ·cases h
     ·injection h with h;injection h with h1 h2;subst h2;simp only [nsize];omega
theorem branch_size (ere:Bool) (s:List UInt8) (sub:Option (ReSt→ReRes (ReSt × Nd))) (hs:SubSize s sub) (hmv:SubMv s sub) (top:Bool) (begin:Nat):∀ (n:Nat) (st:ReSt) (parts:List Nd) (front:Bool) (st':ReSt) (d:Nd),st.pos≤s.length→
  branchM ere s sub top begin n st parts front=.ok (st',d)→nsize d+3 * st.pos≤1+nsizes parts+3 * st'.pos:=by
 intro n
 induction n with
 | zero=>intro st parts front st' d _ h;cases h
 | succ n ih=>
  intro st parts front st' d h1 h
  have hsn:∀ x,nsizes (parts++[x])=nsizes parts+nsize x:=fun x=>by rw [nsizes_append];simp [nsizes]
  rw [branchM] at h
  split at h
  ·injection h with h;injection h with h2 h3;subst h2 h3
   have:=joined_size parts
   omega
  ·rename_i he
   have hlt:st.pos < s.length:=by
    simp only [Bool.or_eq_true,decide_eq_true_eq,not_or] at he
    omega
   split at h
   ·have:=ih (st.to (st.pos+1)) _ _ _ _ (show st.pos+1≤_ by omega) h
    rw [hsn,show (st.to (st.pos+1)).pos=st.pos+1 from rfl] at this
    simp only [nsize] at this
    omega
   ·split at h
    ·have:=ih (st.to (st.pos+1)) _ _ _ _ (show st.pos+1≤_ by omega) h
     rw [hsn,show (st.to (st.pos+1)).pos=st.pos+1 from rfl] at this
     simp only [nsize] at this
     omega
    ·split at h
     ·cases h
     ·split at h
      ·cases h
      ·rename_i st1 d1 ha
       have m1:=atom_mv ere s sub hmv st st1 d1 hlt ha
       have z1:=atom_size ere s sub hs hmv st st1 d1 hlt ha
       split at h
       ·cases h
       ·rename_i st2 d2 hr
        have m2:=repM_mv ere s _ _ _ _ _ m1.2 hr
        have z2:=repM_size ere s _ _ _ _ _ hr
        have:=ih st2 _ _ _ _ m2.2 h
        rw [hsn] at this
        omega
theorem choice_size (ere:Bool) (s:List UInt8) (sub:Option (ReSt→ReRes (ReSt × Nd))) (hs:SubSize s sub) (hmv:SubMv s sub) (top:Bool):∀ (n:Nat) (st:ReSt) (l:List Nd) (st':ReSt) (d:Nd),st.pos≤s.length→
  choiceM ere s sub top n st l=.ok (st',d)→nsize d+3 * st.pos≤2+nsizes l+3 * st'.pos:=by
 intro n
 induction n with
 | zero=>intro st l st' d _ h;cases h
 | succ n ih=>
  intro st l st' d h1 h
  have hsn:∀ x,nsizes (l++[x])=nsizes l+nsize x:=fun x=>by rw [nsizes_append];simp [nsizes]
  rw [choiceM] at h
  split at h
  ·cases h
  ·rename_i st1 d1 hb
   have z1:=branch_size ere s sub hs hmv top _ _ _ _ _ _ _ h1 hb
   simp only [nsizes] at z1
   split at h
   ·rename_i h124
    have hp:=op_pos ere
    have:=ih ((if ere then st1 else st1.mark 124).to (st1.pos+opLen ere)) _ _ _ (op_len h124) h
    rw [hsn,show ((if ere then st1 else st1.mark 124).to (st1.pos+opLen ere)).pos=st1.pos+opLen ere from rfl] at this
    omega
   ·injection h with h;injection h with h2 h3;subst h2 h3
    have:=chosen_size (l++[d1])
    rw [hsn] at this
    omega
theorem reg_size (ere:Bool) (s:List UInt8):∀ (k:Nat) (st st':ReSt) (d:Nd),st.pos≤s.length→regM ere s k st=.ok (st',d)→nsize d+3 * st.pos≤2+3 * st'.pos:=by
 intro k
 induction k with
 | zero=>intro st st' d hp h;have:=choice_size ere s none (fun f hf=>by cases hf) (fun f hf=>by cases hf) false _ _ _ _ _ hp h;simp only [nsizes] at this;omega
 | succ k ih=>intro st st' d hp h;have:=choice_size ere s (some (regM ere s k)) (fun f hf=>by injection hf with hf;subst hf;exact ih) (reg_subs ere s k).1 false _ _ _ _ _ hp h;simp only [nsizes] at this;omega
theorem whole_size {ere:Bool} {s:List UInt8} {st:ReSt} {d:Nd} (h:parseM ere s=.ok (st,d)):nsize d≤752:=by
 obtain ⟨hl,hc,_⟩:=whole_in h
 have h1:=choice_size ere s (some (regM ere s 11)) (fun f hf=>by injection hf with hf;subst hf;exact reg_size ere s 11) (reg_subs ere s 11).1 false _ _ _ _ _ (Nat.zero_le _) hc
 have h2:=(choice_mv ere s (some (regM ere s 11)) (reg_subs ere s 11).1 false _ _ _ _ _ (Nat.zero_le _) hc).2
 simp only [nsizes] at h1
 omega
def Mks (st st':ReSt):Prop:=st'.marks.length+st.pos≤st.marks.length+st'.pos
theorem mark_len (st:ReSt) (c:Nat):(st.mark c).marks.length=st.marks.length+1:=by unfold ReSt.mark;simp
theorem repM_mks (ere:Bool) (s:List UInt8):∀ (n:Nat) (st:ReSt) (d:Nd) (st':ReSt) (d':Nd),repM ere s n st d=.ok (st',d')→Mks st st':=by
 intro n
 induction n with
 | zero=>intro st d st' d' h;cases h
 | succ n ih=>
  intro st d st' d' h
  rw [repM] at h
  cases hr:repAt ere s st.pos with
  | none=>rw [hr] at h;injection h with h;injection h with h1 h2;subst h1 h2;exact Nat.le_refl _
  | bad=>rw [hr] at h;cases h
  | some mn mx c j=>
   rw [hr] at h
   have m:=(rep_mv _ _ _ _ _ _ _ hr).1
   have:=ih _ _ _ _ h
   unfold Mks at this ⊢
   rw [show ((if c=0 then st else st.mark c).to j).pos=j from rfl,show ((if c=0 then st else st.mark c).to j).marks=(if c=0 then st else st.mark c).marks from rfl] at this
   by_cases hc:c=0
   ·rw [if_pos hc] at this;omega
   ·rw [if_neg hc,mark_len] at this;omega
def SubMks (s:List UInt8) (sub:Option (ReSt→ReRes (ReSt × Nd))):Prop:=∀ f,sub=some f→∀ st st' d,st.pos≤s.length→f st=.ok (st',d)→Mks st st'
theorem atom_mks (ere:Bool) (s:List UInt8) (sub:Option (ReSt→ReRes (ReSt × Nd))) (hs:SubMks s sub) (hmv:SubMv s sub) (st st':ReSt) (d:Nd) (hl:st.pos < s.length) (h:atomM ere s sub st=.ok (st',d)):Mks st st':=by
 have hp:=op_pos ere
 have hm:=(atom_mv ere s sub hmv st st' d hl h).1
 unfold Mks
 unfold atomM at h
 split at h
 ·rename_i h40
  unfold grpM at h
  split at h
  ·cases h
  ·rename_i f
   split at h
   ·cases h
   ·rename_i st1 d1 he
    split at h
    ·injection h with h
     injection h with h1 h2
     subst h1 h2
     have:=hs f rfl _ _ _ (op_len h40) he
     unfold Mks at this
     simp only at this ⊢
     omega
    ·cases h
 ·split at h
  ·cases h
  ·split at h
   ·split at h
    ·injection h with h;injection h with h1 h2;subst h1;exact Nat.add_le_add_left (Nat.le_of_lt hm) _
    ·cases h
   ·split at h
    ·injection h with h;injection h with h1 h2;subst h1;exact Nat.add_le_add_left (Nat.le_of_lt hm) _
    ·split at h
     ·split at h
      ·have hpos:=escM_mv ere st st' _ d h
       unfold escM at h
       split at h
       ·split at h
        ·injection h with h;injection h with h1 h2;subst h1
         cases ere with
         | true=>show (st.mark _).marks.length+_≤_;rw [mark_len,hpos];omega
         | false=>show st.marks.length+_≤_;rw [hpos];omega
        ·cases h
       ·split at h
        ·cases h
        ·rename_i x m _
         injection h with h;injection h with h1 h2;subst h1
         cases m with
         | true=>show (st.mark _).marks.length+_≤_;rw [mark_len,hpos];omega
         | false=>show st.marks.length+_≤_;rw [hpos];omega
      ·cases h
     ·injection h with h;injection h with h1 h2;subst h1;exact Nat.add_le_add_left (Nat.le_of_lt hm) _
theorem branch_mks (ere:Bool) (s:List UInt8) (sub:Option (ReSt→ReRes (ReSt × Nd))) (hs:SubMks s sub) (hmv:SubMv s sub) (top:Bool) (begin:Nat):∀ (n:Nat) (st:ReSt) (parts:List Nd) (front:Bool) (st':ReSt) (d:Nd),st.pos≤s.length→
  branchM ere s sub top begin n st parts front=.ok (st',d)→Mks st st':=by
 intro n
 induction n with
 | zero=>intro st parts front st' d _ h;cases h
 | succ n ih=>
  intro st parts front st' d h1 h
  rw [branchM] at h
  split at h
  ·injection h with h;injection h with h2 h3;subst h2 h3
   exact Nat.le_refl _
  ·rename_i he
   have hlt:st.pos < s.length:=by
    simp only [Bool.or_eq_true,decide_eq_true_eq,not_or] at he
    omega
   have hto:Mks (st.to (st.pos+1)) st'→Mks st st':=fun h=>by
    unfold Mks at h ⊢
    rw [show (st.to (st.pos+1)).pos=st.pos+1 from rfl,show (st.to (st.pos+1)).marks=st.marks from rfl] at h
    omega
   split at h
   ·exact hto (ih (st.to (st.pos+1)) _ _ _ _ (show st.pos+1≤_ by omega) h)
   ·split at h
    ·exact hto (ih (st.to (st.pos+1)) _ _ _ _ (show st.pos+1≤_ by omega) h)
    ·split at h
     ·cases h
     ·split at h
      ·cases h
      ·rename_i st1 d1 ha
       have m1:=atom_mv ere s sub hmv st st1 d1 hlt ha
       have z1:=atom_mks ere s sub hs hmv st st1 d1 hlt ha
       split at h
       ·cases h
       ·rename_i st2 d2 hr
        have m2:=repM_mv ere s _ _ _ _ _ m1.2 hr
        have z2:=repM_mks ere s _ _ _ _ _ hr
        have:=ih st2 _ _ _ _ m2.2 h
        unfold Mks at *
        omega
theorem choice_mks (ere:Bool) (s:List UInt8) (sub:Option (ReSt→ReRes (ReSt × Nd))) (hs:SubMks s sub) (hmv:SubMv s sub) (top:Bool):∀ (n:Nat) (st:ReSt) (l:List Nd) (st':ReSt) (d:Nd),st.pos≤s.length→
  choiceM ere s sub top n st l=.ok (st',d)→Mks st st':=by
 intro n
 induction n with
 | zero=>intro st l st' d _ h;cases h
 | succ n ih=>
  intro st l st' d h1 h
  rw [choiceM] at h
  split at h
  ·cases h
  ·rename_i st1 d1 hb
   have z1:=branch_mks ere s sub hs hmv top _ _ _ _ _ _ _ h1 hb
   split at h
   ·rename_i h124
    have hp:=op_pos ere
    have:=ih ((if ere then st1 else st1.mark 124).to (st1.pos+opLen ere)) _ _ _ (op_len h124) h
    unfold Mks at *
    rw [show ((if ere then st1 else st1.mark 124).to (st1.pos+opLen ere)).pos=st1.pos+opLen ere from rfl,show ((if ere then st1 else st1.mark 124).to (st1.pos+opLen ere)).marks=(if ere then st1 else st1.mark 124).marks from rfl] at this
    cases ere with
    | true=>simp only [if_true] at this;omega
    | false=>simp only [Bool.false_eq_true,if_false,mark_len] at this;omega
   ·injection h with h;injection h with h2 h3;subst h2 h3
    exact z1
theorem reg_mks (ere:Bool) (s:List UInt8):∀ (k:Nat) (st st':ReSt) (d:Nd),st.pos≤s.length→regM ere s k st=.ok (st',d)→Mks st st':=by
 intro k
 induction k with
 | zero=>intro st st' d hp h;exact choice_mks ere s none (fun f hf=>by cases hf) (fun f hf=>by cases hf) false _ _ _ _ _ hp h
 | succ k ih=>intro st st' d hp h;exact choice_mks ere s (some (regM ere s k)) (fun f hf=>by injection hf with hf;subst hf;exact ih) (reg_subs ere s k).1 false _ _ _ _ _ hp h
theorem whole_mks {ere:Bool} {s:List UInt8} {st:ReSt} {d:Nd} (h:parseM ere s=.ok (st,d)):st.marks.length≤s.length:=by
 obtain ⟨hl,hc,_⟩:=whole_in h
 have h1:=choice_mks ere s (some (regM ere s 11)) (fun f hf=>by injection hf with hf;subst hf;exact reg_mks ere s 11) (reg_subs ere s 11).1 false _ _ _ _ _ (Nat.zero_le _) hc
 have h2:=(choice_mv ere s (some (regM ere s 11)) (reg_subs ere s 11).1 false _ _ _ _ _ (Nat.zero_le _) hc).2
 unfold Mks at h1
 rw [show reZero.pos=0 from rfl,show reZero.marks.length=0 from rfl] at h1
 omega
end Go.Proofs.YtbgfankoojjejaaGreatDoor
