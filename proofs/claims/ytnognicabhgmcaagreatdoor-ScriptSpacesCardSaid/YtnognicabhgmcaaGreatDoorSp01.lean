/- Texts. -/
import Derived.Shelf.Strings.BuilderK
import Derived.Shelf.Strings.BuilderRune
import Derived.Test.YtnognicabhgmcaaGreatDoorRows
import GoSem.Claim
import Derived.Laws.Bits64b
import Derived.Laws.Bits64
import Derived.Laws.BitsAllLaws
import Derived.Lib.DecodeN
import Derived.Lib.RuneBytes
import Derived.Laws.BytesArg
import Derived.Lib.SlTrimSet
import Derived.Lib.IndexAny
import Derived.Lib.IndexBytes
import Derived.Shelf.Strings.SlTrimAscii
import Derived.Shelf.Strings.IndexAnyAll
import Derived.Shelf.Small.Strs
import Derived.WalkKit
import Derived.WalkSpells
import Derived.WalkLawsBesides
import Derived.BigCall
import Derived.BigQuiet
import Derived.Deep.QuietTactic
import Derived.Lib.Hide
import Derived.WalkSmall
import Derived.Maps.AppendAt
import Derived.Tactics
import Derived.Deep.RegionLaw
import Derived.Deep.AppendLies
import Derived.RangeFuncIn
import Derived.RangeFuncRecord
import Derived.RangeFuncLeaves
import Derived.RangeFuncSeq
import Derived.Below
import Derived.Laws.Bits128
import Derived.BigRegion
import Derived.Shelf.Spec.TrailingZeros
import Derived.Lib.IndexMore
import Derived.Lib.Strings
import Derived.KernelRfl
import Derived.Deep.DeepCutAuto
import Derived.Outline
import Derived.Shelf.Strings.Search3
import Derived.Shelf.Strings.Prefix
set_option linter.unusedSimpArgs false
set_option linter.unusedVariables false
set_option maxHeartbeats 8000000
set_option maxRecDepth 1000000
namespace Go.Proofs.YtnognicabhgmcaaGreatDoor
open Go.Lib renaming hid→Afj
open List renaming setIfInBounds_toArray→Afk,getElem_cons_zero→Afl,getElem_cons_succ→Afm,getElem_toArray→Afn,set_cons_zero→Afo,set_cons_succ→Afp,length_append→Afs,mem_cons→Afz,getElem_append_left→Af0,mem_append→Af1,length_drop→Af3,getElem?_eq_getElem→Af4,getD_eq_getElem?_getD→Af7
open Nat renaming le_refl→Afq,le_trans→Afr,lt_of_lt_of_le→Aft,add_assoc→Af5
open Go.RowKit.Below renaming refl→Afv,heap_setCell→Afw,setCell→Aga,drew→Agb,alloc→Agc
open Go.IntWalk renaming i64_in→Afx
open Bool renaming false_eq_true→Af2,and_eq_true→Af9
open _root_.Array renaming getElem?_eq_some_iff→Af6
open Go.Proofs.Tryz
set_option linter.defProp false in
def Aa {α:Type}:=And.intro (@Afn α) (And.intro (@Afm α) (And.intro (@Afl α) (And.intro (@Afk α) (And.intro (@Afo α) (@Afp α)))))
section
open Go.RowKit Go.Shelf
def RD:Go.Shelf.Ren:=⟨fun | 167=>85 | 240=>104 | 276=>119 | n=>n,fun | 0=>0 | 4=>4 | 5=>5 | 9=>9 | 20=>20 | 37=>164 | 70=>163 | 72=>166 | 75=>168 | 164=>212 | 80=>59 | n=>n,fun | n=>n⟩
theorem UW:Go.Proofs.Lays.n167 prog RD:={
 mixed:=by kernel_rfl
 f167:=Tryz.func85.trans (congrArg some (by kernel_rfl))
 f240:=Tryz.func104.trans (congrArg some (by kernel_rfl))
 f276:=Tryz.func119.trans (congrArg some (by kernel_rfl))
 t0:=underlying0
 a0:=isAgg0
 z0:=sizeOf0
 v0:=zeroValue0
 t4:=underlying4
 a4:=isAgg4
 z4:=sizeOf4
 v4:=zeroValue4
 t5:=underlying5
 a5:=isAgg5
 z5:=sizeOf5
 v5:=zeroValue5
 t9:=underlying9
 a9:=isAgg9
 z9:=sizeOf9
 v9:=zeroValue9
 t20:=underlying20
 a20:=isAgg20
 z20:=sizeOf20
 v20:=zeroValue20
 t37:=underlying164
 a37:=isAgg164
 z37:=sizeOf164
 v37:=zeroValue164
 t70:=underlying163
 a70:=isAgg163
 z70:=sizeOf163
 v70:=zeroValue163
 t72:=underlying166
 a72:=isAgg166
 z72:=sizeOf166
 v72:=zeroValue166
 t75:=underlying168
 a75:=isAgg168
 z75:=sizeOf168
 v75:=zeroValue168
 t164:=underlying212
 a164:=isAgg212
 z164:=sizeOf212
 v164:=zeroValue212 }
theorem SM:Builder.Extra prog RD:={
 sizeBuilder:=by kernel_rfl
 liesBuilder:=by kernel_rfl
 t5:=underlying5
 a5:=isAgg5
 z5:=sizeOf5
 v5:=zeroValue5
 infoByte:=by kernel_rfl
 cellsByte:=by kernel_rfl
 sizeByte:=by kernel_rfl
 neB5:=by decide }
theorem E4 (B b:Nat) (bs:List Value) (c:Int) (w:World) (h:Lib.IsBuilderF 166 5 B b bs w) (hlen:bs.length+1≤140737488355328) (hBw:B≤w.heap.size) :
  Calls prog 85 #[.pointer (some ⟨b,0,none⟩),.int .u8 c] w fun e w'=>e=.returned .nilIface∧(Lib.BuilderAtF 166 5 B b (.pointer (some ⟨b,0,none⟩)) (bs++[.int .u8 c]) w'∧Below B w w'∧Lib.OthersKept 5 (some b) w w'):=Any.Builder_WriteByte_k UW SM B b bs c w h hlen hBw
def RE:Go.Shelf.Ren:=⟨fun | 168=>142 | 240=>104 | 242=>154 | 276=>119 | 278=>162 | n=>n,fun | 0=>0 | 3=>3 | 4=>4 | 5=>5 | 9=>9 | 20=>20 | 21=>21 | 37=>164 | 46=>124 | 51=>149 | 70=>163 | 72=>166 | 75=>168 | 164=>212 | 80=>59 | n=>n,fun | n=>n⟩
theorem UX:Go.Proofs.Lays.n168 prog RE:={
 mixed:=by kernel_rfl
 f168:=Tryz.func142.trans (congrArg some (by kernel_rfl))
 f240:=Tryz.func104.trans (congrArg some (by kernel_rfl))
 f242:=Tryz.func154.trans (congrArg some (by kernel_rfl))
 f276:=Tryz.func119.trans (congrArg some (by kernel_rfl))
 f278:=Tryz.func162.trans (congrArg some (by kernel_rfl))
 t0:=underlying0
 a0:=isAgg0
 z0:=sizeOf0
 v0:=zeroValue0
 t3:=underlying3
 a3:=isAgg3
 z3:=sizeOf3
 v3:=zeroValue3
 t4:=underlying4
 a4:=isAgg4
 z4:=sizeOf4
 v4:=zeroValue4
 t5:=underlying5
 a5:=isAgg5
 z5:=sizeOf5
 v5:=zeroValue5
 t9:=underlying9
 a9:=isAgg9
 z9:=sizeOf9
 v9:=zeroValue9
 t20:=underlying20
 a20:=isAgg20
 z20:=sizeOf20
 v20:=zeroValue20
 t21:=underlying21
 a21:=isAgg21
 z21:=sizeOf21
 v21:=zeroValue21
 t37:=underlying164
 a37:=isAgg164
 z37:=sizeOf164
 v37:=zeroValue164
 t46:=underlying124
 a46:=isAgg124
 z46:=sizeOf124
 v46:=zeroValue124
 t51:=underlying149
 a51:=isAgg149
 z51:=sizeOf149
 v51:=zeroValue149
 t70:=underlying163
 a70:=isAgg163
 z70:=sizeOf163
 v70:=zeroValue163
 t72:=underlying166
 a72:=isAgg166
 z72:=sizeOf166
 v72:=zeroValue166
 t75:=underlying168
 a75:=isAgg168
 z75:=sizeOf168
 v75:=zeroValue168
 t164:=underlying212
 a164:=isAgg212
 z164:=sizeOf212
 v164:=zeroValue212 }
theorem SN:Builder.Extra prog RE:={
 sizeBuilder:=by kernel_rfl
 liesBuilder:=by kernel_rfl
 t5:=underlying5
 a5:=isAgg5
 z5:=sizeOf5
 v5:=zeroValue5
 infoByte:=by kernel_rfl
 cellsByte:=by kernel_rfl
 sizeByte:=by kernel_rfl
 neB5:=by decide }
theorem Ny (B b:Nat) (bs:List Value) (r:Int) (hr0:-2147483648≤r) (hr1:r≤2147483647) (w:World) (h:Lib.IsBuilderF 166 5 B b bs w) (hlen:bs.length+4≤140737488355328) (hBw:B≤w.heap.size) :
  Calls prog 142 #[.pointer (some ⟨b,0,none⟩),.int .i32 r] w fun e w'=>e=.returned (.tuple #[.int .i64 (Lib.runeCells r).length,.nilIface])∧(Lib.BuilderAtF 166 5 B b (.pointer (some ⟨b,0,none⟩)) (bs++Lib.runeCells r) w'∧Below B w w'∧Lib.OthersKept 5 (some b) w w'):=Any.Builder_WriteRune_k UX SN B b bs r hr0 hr1 w h hlen hBw
def RF:Go.Shelf.Ren:=⟨fun | 169=>86 | n=>n,fun | 0=>0 | 3=>3 | 9=>9 | 37=>164 | 70=>163 | 72=>166 | 127=>185 | 5=>5 | n=>n,fun | n=>n⟩
theorem UY:Go.Proofs.Lays.n169 prog RF:={
 mixed:=by kernel_rfl
 f169:=Tryz.func86.trans (congrArg some (by kernel_rfl))
 t0:=underlying0
 a0:=isAgg0
 z0:=sizeOf0
 v0:=zeroValue0
 t3:=underlying3
 a3:=isAgg3
 z3:=sizeOf3
 v3:=zeroValue3
 t9:=underlying9
 a9:=isAgg9
 z9:=sizeOf9
 v9:=zeroValue9
 t37:=underlying164
 a37:=isAgg164
 z37:=sizeOf164
 v37:=zeroValue164
 t70:=underlying163
 a70:=isAgg163
 z70:=sizeOf163
 v70:=zeroValue163
 t72:=underlying166
 a72:=isAgg166
 z72:=sizeOf166
 v72:=zeroValue166
 t127:=underlying185
 a127:=isAgg185
 z127:=sizeOf185
 v127:=zeroValue185 }
theorem SO:Builder.Extra prog RF:={
 sizeBuilder:=by kernel_rfl
 liesBuilder:=by kernel_rfl
 t5:=underlying5
 a5:=isAgg5
 z5:=sizeOf5
 v5:=zeroValue5
 infoByte:=by kernel_rfl
 cellsByte:=by kernel_rfl
 sizeByte:=by kernel_rfl
 neB5:=by decide }
theorem CE (B b:Nat) (l:List UInt8) (w:World) (h:Lib.IsBuilderF 166 5 B b (Lib.byteCells l) w) (hBw:B≤w.heap.size) :
  Calls prog 86 #[.pointer (some ⟨b,0,none⟩)] w fun e w'=>e=.returned (.string ⟨l.toArray⟩)∧(Lib.IsBuilderF 166 5 B b (Lib.byteCells l) w'∧Below B w w'∧Lib.OthersKept 5 (some b) w w'):=Any.Builder_String_any_k UY SO B b l w h hBw
end
section
abbrev OSet:=BitVec 256
def F8 (s:OSet) (i:Nat):Nat:=s.toNat / 2 ^ (64 * i) % 18446744073709551616
def ow (s:OSet) (i:Nat):Int:=(F8 s i:Int)
theorem Ct (s:OSet) (i:Nat):F8 s i < 18446744073709551616:=Nat.mod_lt _ (by decide)
theorem Lf (s:OSet) (i:Nat):0≤ow s i:=Int.natCast_nonneg _
theorem Ad9 (s:OSet) (i:Nat):ow s i < 18446744073709551616:=by have:=Ct s i;unfold ow;omega
theorem Bk (s:OSet) (i j:Nat):(F8 s i).testBit j=(decide (j < 64) && s.getLsbD (64 * i+j)):=by
 unfold F8;rw [show (18446744073709551616:Nat)=2 ^ 64 from rfl,Nat.testBit_mod_two_pow,Nat.testBit_div_two_pow];rw [BitVec.getLsbD]
 congr 2
 omega
theorem Iw (s:OSet) (i n:Nat) (hn:n < 18446744073709551616) (h:∀ j,j < 64→n.testBit j=s.getLsbD (64 * i+j)):n=F8 s i:=by
 refine Nat.eq_of_testBit_eq fun j=>?_
 rw [Bk];by_cases hj:j < 64
 ·rw [h j hj];simp [hj]
 ·rw [Nat.testBit_lt_two_pow (Aft hn (by rw [show (18446744073709551616:Nat)=2 ^ 64 from rfl];exact Nat.pow_le_pow_right (by decide) (by omega)))];simp [hj]
theorem UZ {s t:OSet} (h:∀ i,i < 4→ow s i=ow t i):s=t:=by
 refine BitVec.eq_of_getLsbD_eq fun k hk=>?_
 have h1:F8 s (k / 64)=F8 t (k / 64):=by
  have:=h (k / 64) (by omega);unfold ow at this;omega
 have h2:=Bk s (k / 64) (k % 64);have h3:=Bk t (k / 64) (k % 64);rw [h1,h3] at h2;have h4:64 * (k / 64)+k % 64=k:=by omega
 have h5:k % 64 < 64:=by omega
 rw [h4] at h2;simpa [h5] using h2.symm
theorem RG {s t:OSet} (h:s≠t):¬ (ow s 0=ow t 0∧ow s 1=ow t 1∧ow s 2=ow t 2∧ow s 3=ow t 3):=by
 intro ⟨h0,h1,h2,h3⟩;refine h (UZ fun i hi=>?_)
 match i,hi with
 | 0,_=>exact h0
 | 1,_=>exact h1
 | 2,_=>exact h2
 | 3,_=>exact h3
theorem Y6 (s t:OSet) (i:Nat):F8 s i &&& F8 t i=F8 (s &&& t) i:=by
 refine Iw _ _ _ (Nat.lt_of_le_of_lt Nat.and_le_left (Ct s i)) fun j hj=>?_
 simp [Nat.testBit_and,Bk,hj]
theorem Abl (s t:OSet) (i:Nat):F8 s i ||| F8 t i=F8 (s ||| t) i:=by
 refine Iw _ _ _ ?_ fun j hj=>?_
 ·rw [show (18446744073709551616:Nat)=2 ^ 64 from rfl];exact Nat.or_lt_two_pow (Ct s i) (Ct t i)
 ·simp [Nat.testBit_or,Bk,hj]
theorem Y7 (s:OSet) (i:Nat) (hi:i < 4):18446744073709551615 - F8 s i=F8 (~~~s) i:=by
 refine Iw _ _ _ (by omega) fun j hj=>?_
 have h:=Nat.testBit_two_pow_sub_succ (n:=64) (Ct s i) j;rw [show (2:Nat) ^ 64 - (F8 s i+1)=18446744073709551615 - F8 s i by have:=Ct s i;omega] at h;rw [h,Bk];have h256:64 * i+j < 256:=by omega
 simp [hj,h256]
theorem E5 (s t:OSet) (i:Nat):bits .and .u64 (ow s i) (ow t i)=ow (s &&& t) i:=by
 unfold ow;rw [bits_and_u64_nat _ _ (Ct s i) (Ct t i),Y6]
theorem Fg (s t:OSet) (i:Nat):bits .or .u64 (ow s i) (ow t i)=ow (s ||| t) i:=by
 unfold ow;rw [bits_or_u64_nat _ _ (Ct s i) (Ct t i),Abl]
theorem Y8 (n:Nat) (h:n < 18446744073709551616):18446744073709551615 ^^^ n=18446744073709551615 - n:=by
 refine Nat.eq_of_testBit_eq fun j=>?_
 have h2:=Nat.testBit_two_pow_sub_succ (n:=64) h j;rw [show (2:Nat) ^ 64 - (n+1)=18446744073709551615 - n by omega] at h2;rw [h2,Nat.testBit_xor,show (18446744073709551615:Nat)=2 ^ 64 - 1 from rfl,Nat.testBit_two_pow_sub_one];by_cases hj:j < 64
 ·simp [hj]
 ·rw [Nat.testBit_lt_two_pow (Aft h (by rw [show (18446744073709551616:Nat)=2 ^ 64 from rfl];exact Nat.pow_le_pow_right (by decide) (by omega)))];simp [hj]
theorem E6 (s:OSet) (i:Nat) (hi:i < 4):bits .xor .u64 18446744073709551615 (ow s i)=ow (~~~s) i:=by
 unfold ow;have h:=bits_xor_u64_nat 18446744073709551615 (F8 s i) (by decide) (Ct s i);rw [Y8 _ (Ct s i),Y7 s i hi] at h;exact h
def ohas (s:OSet) (x:Nat):Bool:=s.getLsbD x
def G3 (x:Nat):OSet:=BitVec.ofNat 256 (2 ^ x)
theorem Jz (x y:Nat) (hx:x < 256):(G3 x).getLsbD y=decide (x=y):=by
 unfold G3;rw [BitVec.getLsbD_ofNat,Nat.testBit_two_pow];by_cases h:x=y
 ·subst h;simp [hx]
 ·simp [h]
theorem Abm (s:OSet) (i j:Nat) (hj:j < 64):F8 s i / 2 ^ j % 2=(s.getLsbD (64 * i+j)).toNat:=by
 have h:=Bk s i j;rw [Nat.testBit_eq_decide_div_mod_eq] at h;simp only [hj,decide_true,Bool.true_and] at h;have h2:F8 s i / 2 ^ j % 2=0∨F8 s i / 2 ^ j % 2=1:=by omega
 rcases h2 with h2 | h2
 ·rw [h2] at h;rw [h2,←h];simp
 ·rw [h2] at h;rw [h2,←h];simp
theorem Va (s:OSet) (i:Nat) (x:Int) (h0:0≤x) (h1:x≤255) (hi:x / 64=i):(ow s i / 2 ^ (x % 64).toNat) % 2=if ohas s x.toNat then 1 else 0:=by
 obtain ⟨n,rfl⟩:=Int.eq_ofNat_of_zero_le h0;have e1:((n:Int) % 64).toNat=n % 64:=by omega
 have e2:64 * i+n % 64=n:=by omega
 have h:=Abm s i (n % 64) (by omega);rw [e2] at h;rw [e1,Int.toNat_natCast];unfold ow ohas;have e3:((F8 s i:Int) / 2 ^ (n % 64) % 2)=((F8 s i / 2 ^ (n % 64) % 2:Nat):Int):=by simp
 rw [e3,h];cases s.getLsbD n <;> simp
theorem J0 (s:OSet) (i k:Nat):0≤ow s i / 2 ^ k:=Int.ediv_nonneg (Lf s i) (by exact_mod_cast Nat.zero_le _)
theorem Pq (s:OSet) (i k:Nat):ow s i / 2 ^ k < 18446744073709551616:=by
 refine Int.lt_of_le_of_lt ?_ (Ad9 s i);exact Int.ediv_le_self _ (Lf s i)
theorem Y9 (s:OSet) (i:Nat) (x:Int) (h0:0≤x) (h1:x≤255) (hi:x / 64=i):(bits .and .u64 (ow s i / 2 ^ (x % 64).toNat) 1 == 1)=ohas s x.toNat:=by
 have h2:=J0 s i (x % 64).toNat
 have h3:=Pq s i (x % 64).toNat
 have h:=bits_and_u64_nat (ow s i / 2 ^ (x % 64).toNat).toNat 1 (by omega) (by omega);rw [Nat.and_one_is_mod,Int.toNat_of_nonneg h2] at h;have h4:=Va s i x h0 h1 hi;have h5:(((ow s i / 2 ^ (x % 64).toNat).toNat % 2:Nat):Int)=(ow s i / 2 ^ (x % 64).toNat) % 2:=by omega
 rw [show ((1:Nat):Int)=1 from rfl] at h;rw [h,h5,h4];cases ohas s x.toNat <;> rfl
theorem YA (s:OSet) (i x:Nat) (hx:x < 256) (hi:x / 64=i):F8 s i ||| 2 ^ (x % 64)=F8 (s ||| G3 x) i:=by
 have hp:2 ^ (x % 64) < 2 ^ 64:=Nat.pow_lt_pow_right (by decide) (by omega);refine Iw _ _ _ ?_ fun j hj=>?_
 ·rw [show (18446744073709551616:Nat)=2 ^ 64 from rfl];exact Nat.or_lt_two_pow (Ct s i) hp
 ·rw [Nat.testBit_or,Bk,BitVec.getLsbD_or,Jz _ _ hx,Nat.testBit_two_pow];simp only [hj,decide_true,Bool.true_and]
  congr 1
  exact decide_eq_decide.2 (by omega)
theorem KO (s:OSet) (i x:Nat) (hx:x < 256) (hi:x / 64≠i):F8 s i=F8 (s ||| G3 x) i:=by
 refine Iw _ _ _ (Ct s i) fun j hj=>?_
 rw [Bk,BitVec.getLsbD_or,Jz _ _ hx];have:x≠64 * i+j:=by omega
 simp [hj,this]
theorem Nz (s:OSet) (i:Nat) (x:Int) (h0:0≤x) (h1:x≤255) (hi:x / 64=i):bits .or .u64 (ow s i) (2 ^ (x % 64).toNat)=ow (s ||| G3 x.toNat) i:=by
 obtain ⟨n,rfl⟩:=Int.eq_ofNat_of_zero_le h0;have e1:((n:Int) % 64).toNat=n % 64:=by omega
 have hp:2 ^ (n % 64) < 2 ^ 64:=Nat.pow_lt_pow_right (by decide) (by omega);have h:=bits_or_u64_nat (F8 s i) (2 ^ (n % 64)) (Ct s i) hp;rw [YA s i n (by omega) (by omega)] at h;rw [e1,Int.toNat_natCast];unfold ow;rw [←h];simp
theorem GT (s:OSet) (i:Nat) (x:Int) (h0:0≤x) (h1:x≤255) (hi:x / 64≠i):ow (s ||| G3 x.toNat) i=ow s i:=by
 unfold ow;rw [←KO s i x.toNat (by omega) (by omega)]
def oz:OSet:=0
theorem Ap (i:Nat):ow oz i=0:=by simp [oz,ow,F8]
def DE (zs:List Int):OSet:=zs.foldl (fun s x=>s ||| G3 x.toNat) oz
def CZ (lo:Nat):Nat→OSet
 | 0=>oz
 | n+1=>CZ lo n ||| G3 (lo+n)
def Ac (lo hi:Int):OSet:=CZ lo.toNat (hi - lo+1).toNat
theorem YB:DE []=oz:=rfl
theorem Vb (zs:List Int) (k:Nat) (h:k < zs.length):DE (zs.take (k+1))=DE (zs.take k) ||| G3 (zs.getD k 0).toNat:=by
 unfold DE;rw [List.take_succ_eq_append_getElem h,List.foldl_append];simp [List.getD,Af4 h]
end
section
def prv (s:OSet) (k:Nat):Bool:=decide (0 < k) && ohas s (k - 1)
def RH:List (Nat × Nat)→Nat→List (Nat × Nat)
 | [],_=>[]
 | [p],k=>[(p.1,k)]
 | p :: q :: l,k=>p :: RH (q :: l) k
def Iy (s:OSet):Nat→List (Nat × Nat)
 | 0=>[]
 | k+1=>if ohas s k then (if prv s k then RH (Iy s k) k else Iy s k++[(k,k)]) else Iy s k
theorem J1 (p:Nat × Nat) (k:Nat):∀ l:List (Nat × Nat),RH (l++[p]) k=l++[(p.1,k)]
 | []=>rfl
 | [a]=>rfl
 | a :: b :: l=>by
  have h:=J1 p k (b :: l);simp only [List.cons_append] at h ⊢;rw [RH,h]
theorem N0 (s:OSet) (k:Nat):prv s (k+1)=ohas s k:=by simp [prv]
structure SpOk (s:OSet) (k:Nat) (l:List (Nat × Nat)):Prop where
 le:∀ p∈l,p.1≤p.2∧p.2 < k
 apart:∀ i,∀ h:i+1 < l.length,(l[i]'(by omega)).2+1 < (l[i+1]'h).1
 mem:∀ b,b < k→(ohas s b=true ↔ ∃ p∈l,p.1≤b∧b≤p.2)
 last:prv s k=true→∃ a p,l=a++[p]∧p.2+1=k
 gap:prv s k=false→∀ p∈l,p.2+1 < k∨k=0
theorem Abn (s:OSet):∀ k,SpOk s k (Iy s k)
 | 0=>⟨by simp [Iy],by simp [Iy],by simp,by simp [prv],by simp [Iy]⟩
 | k+1=>by
  have ih:=Abn s k;unfold Iy;by_cases hk:ohas s k=true
  ·rw [if_pos hk];have hp1:prv s (k+1)=true:=by rw [N0,hk]
   by_cases hp:prv s k=true
   ·rw [if_pos hp];obtain ⟨a,p,hl,hpk⟩:=ih.last hp;rw [hl,J1];rw [hl] at ih;refine ⟨?_,?_,?_,fun _=>⟨a,_,rfl,rfl⟩,fun h=>by rw [hp1] at h;cases h⟩
    ·intro q hq;rcases Af1.1 hq with hq | hq
     ·have:=ih.le q (List.mem_append_left _ hq);omega
     ·simp only [List.mem_singleton] at hq;have:=ih.le p (by simp);subst hq;simp only;omega
    ·intro i h;have h1:=ih.apart i (by simpa using h);simp only [Afs,List.length_cons,List.length_nil] at h;by_cases hi:i+1 < a.length
     ·rw [Af0 (by omega),Af0 hi] at h1 ⊢;exact h1
     ·have e:i+1=a.length:=by omega
      rw [Af0 (by omega),List.getElem_append_right (by omega)] at h1 ⊢;simp only [e,Nat.sub_self,Afl] at h1 ⊢;exact h1
    ·intro b hb;by_cases hbk:b < k
     ·rw [ih.mem b hbk];constructor
      ·rintro ⟨q,hq,h1,h2⟩;rcases Af1.1 hq with hq | hq
       ·exact ⟨q,List.mem_append_left _ hq,h1,h2⟩
       ·simp only [List.mem_singleton] at hq;subst hq;exact ⟨(q.1,k),by simp,h1,by simp only;omega⟩
      ·rintro ⟨q,hq,h1,h2⟩;rcases Af1.1 hq with hq | hq
       ·exact ⟨q,List.mem_append_left _ hq,h1,h2⟩
       ·simp only [List.mem_singleton] at hq;subst hq;simp only at h1 h2;exact ⟨p,by simp,h1,by omega⟩
     ·have e:b=k:=by omega
      subst e;refine ⟨fun _=>⟨(p.1,b),by simp,?_,by simp⟩,fun _=>hk⟩;have:=ih.le p (by simp);simp only;omega
   ·have hp':prv s k=false:=by simpa using hp
    rw [if_neg hp];refine ⟨?_,?_,?_,fun _=>⟨_,_,rfl,rfl⟩,fun h=>by rw [hp1] at h;cases h⟩
    ·intro q hq;rcases Af1.1 hq with hq | hq
     ·have:=ih.le q hq;omega
     ·simp only [List.mem_singleton] at hq;subst hq;simp
    ·intro i h;simp only [Afs,List.length_cons,List.length_nil] at h;by_cases hi:i+1 < (Iy s k).length
     ·rw [Af0 (by omega),Af0 hi];exact ih.apart i hi
     ·have e:i+1=(Iy s k).length:=by omega
      rw [Af0 (by omega),List.getElem_append_right (by omega)];simp only [e,Nat.sub_self,Afl];have hm:=List.getElem_mem (l:=Iy s k) (n:=i) (by omega);rcases ih.gap hp' _ hm with h1 | h1
      ·exact h1
      ·have:=ih.le _ hm;omega
    ·intro b hb;by_cases hbk:b < k
     ·rw [ih.mem b hbk];constructor
      ·rintro ⟨q,hq,h1,h2⟩;exact ⟨q,List.mem_append_left _ hq,h1,h2⟩
      ·rintro ⟨q,hq,h1,h2⟩;rcases Af1.1 hq with hq | hq
       ·exact ⟨q,hq,h1,h2⟩
       ·simp only [List.mem_singleton] at hq;subst hq;simp only at h1 h2;omega
     ·have e:b=k:=by omega
      subst e;exact ⟨fun _=>⟨(b,b),by simp,by simp,by simp⟩,fun _=>hk⟩
  ·have hk':ohas s k=false:=by simpa using hk
   rw [if_neg hk];have hp1:prv s (k+1)=false:=by rw [N0,hk']
   refine ⟨?_,ih.apart,?_,fun h=>(by rw [hp1] at h;cases h),?_⟩
   ·intro q hq;have:=ih.le q hq;omega
   ·intro b hb;by_cases hbk:b < k
    ·exact ih.mem b hbk
    ·have e:b=k:=by omega
     subst e;rw [hk'];refine ⟨fun h=>(by cases h),?_⟩;rintro ⟨q,hq,h1,h2⟩;have:=ih.le q hq;omega
   ·intro _ q hq;have:=ih.le q hq;omega
def sps (s:OSet):List (Nat × Nat):=Iy s 256
theorem Gc (lo:Nat) (k:Nat):∀ n,lo+n≤256→(CZ lo n).getLsbD k=(decide (lo≤k) && decide (k < lo+n))
 | 0,_=>by
  simp only [CZ,oz];by_cases h:lo≤k
  ·simp [h]
  ·simp [h]
 | n+1,hn=>by
  rw [CZ,BitVec.getLsbD_or,Gc lo k n (by omega),Jz _ _ (by omega)];by_cases h:lo≤k <;> by_cases h2:k < lo+n <;> by_cases h3:lo+n=k <;> simp [h,h2,h3] <;> omega
def unn (l:List (Nat × Nat)):OSet:=l.foldl (fun s p=>s ||| Ac p.1 p.2) oz
theorem N1 (k:Nat):∀ (l:List (Nat × Nat)) (s:OSet),(∀ p∈l,p.1≤p.2∧p.2 < 256)→
  ((l.foldl (fun s p=>s ||| Ac p.1 p.2) s).getLsbD k=true ↔ s.getLsbD k=true∨∃ p∈l,p.1≤k∧k≤p.2)
 | [],s,_=>by simp
 | p :: l,s,h=>by
  have hp:=h p (by simp);rw [List.foldl_cons,N1 k l _ (fun q hq=>h q (by simp [hq])),BitVec.getLsbD_or];unfold Ac;rw [Int.toNat_natCast,show ((p.2:Int) - (p.1:Int)+1).toNat=p.2+1 - p.1 by omega,Gc _ _ _ (by omega)];simp only [Bool.or_eq_true,Af9,decide_eq_true_eq,Afz];constructor
  ·rintro ((h1 | h1) | ⟨q,hq,h1⟩)
   ·exact Or.inl h1
   ·exact Or.inr ⟨p,Or.inl rfl,by omega,by omega⟩
   ·exact Or.inr ⟨q,Or.inr hq,h1⟩
  ·rintro (h1 | ⟨q,rfl | hq,h1⟩)
   ·exact Or.inl (Or.inl h1)
   ·exact Or.inl (Or.inr (by omega))
   ·exact Or.inr ⟨q,hq,h1⟩
theorem YC (s:OSet):unn (sps s)=s:=by
 have ok:=Abn s 256;refine BitVec.eq_of_getLsbD_eq fun k hk=>?_
 rw [Bool.eq_iff_iff];unfold unn;rw [N1 k (sps s) oz (fun p hp=>ok.le p hp)];have:=ok.mem k hk;unfold ohas at this;rw [this];simp [oz,sps]
theorem YD (s:OSet) (h:sps s=[]):s=oz:=by rw [←YC s,h];rfl
theorem SP (s:OSet) (p:Nat × Nat) (l:List (Nat × Nat)) (h:sps s=p :: l):p.1 < 256∧ohas s p.1=true∧∀ b,b < p.1→ohas s b=false:=by
 have ok:=Abn s 256;have e:Iy s 256=p :: l:=h;rw [e] at ok;have hp:=ok.le p (by simp);refine ⟨by omega,(ok.mem p.1 (by omega)).2 ⟨p,by simp,by omega,by omega⟩,fun b hb=>?_⟩;cases hx:ohas s b
 ·rfl
 ·exfalso;obtain ⟨q,hq,h1,h2⟩:=(ok.mem b (by omega)).1 hx
  -- every span begins at p.1 or later
  have key:∀ i,∀ hi:i < (p :: l).length,p.1≤((p :: l)[i]'hi).1:=by
   intro i;induction i with
   | zero=>intro hi;exact Afq _
   | succ i ih=>
    intro hi;have h3:=ih (by omega);have h4:=ok.apart i hi;have h5:=ok.le _ (List.getElem_mem (l:=p :: l) (n:=i) (by omega));omega
  obtain ⟨i,hi,rfl⟩:=List.getElem_of_mem hq;have:=key i hi;omega
end
section
inductive Tr where
 | mk (kind:Int) (set:OSet) (mn mx num:Int) (kids:List Tr)
def Tr.kind:Tr→Int | .mk k _ _ _ _ _=>k
def Tr.set:Tr→OSet | .mk _ s _ _ _ _=>s
def Tr.mn:Tr→Int | .mk _ _ a _ _ _=>a
def Tr.mx:Tr→Int | .mk _ _ _ b _ _=>b
def Tr.num:Tr→Int | .mk _ _ _ _ c _=>c
def Tr.parts:Tr→List Tr | .mk _ _ _ _ _ ps=>ps
def tz:Tr:=.mk 0 oz 0 0 0 []
instance:Inhabited Tr:=⟨tz⟩
end
section
inductive Nd where
 | empty
 | one (s:OSet)
 | cat (l:List Nd)
 | alt (l:List Nd)
 | rep (d:Nd) (mn mx:Int)
 | group (num:Int) (d:Nd)
 | back (num:Int)
 | start
 | fin
instance:Inhabited Nd:=⟨.empty⟩
def Cn:Nd→List Nd
 | .cat l=>l
 | .alt l=>l
 | .rep d _ _=>[d]
 | .group _ d=>[d]
 | _=>[]
mutual
/-- How many nodes. -/
def Ax:Nd→Nat
 | .cat l=>1+A0 l
 | .alt l=>1+A0 l
 | .rep d _ _=>1+Ax d
 | .group _ d=>1+Ax d
 | _=>1
def A0:List Nd→Nat
 | []=>0
 | d :: ds=>Ax d+A0 ds
end
mutual
/-- How many groups. -/
def Cz:Nd→Nat
 | .cat l=>F9 l
 | .alt l=>F9 l
 | .rep d _ _=>Cz d
 | .group _ d=>Cz d+1
 | _=>0
def F9:List Nd→Nat
 | []=>0
 | d :: ds=>Cz d+F9 ds
end
mutual
/-- Are two the same? -/
def Dv:Nd→Nd→Bool
 | .empty,.empty=>true
 | .one s,.one t=>decide (s=t)
 | .cat l,.cat m=>Eb l m
 | .alt l,.alt m=>Eb l m
 | .rep d a b,.rep e a' b'=>decide (a=a') && decide (b=b') && Dv d e
 | .group n d,.group m e=>decide (n=m) && Dv d e
 | .back n,.back m=>decide (n=m)
 | .start,.start=>true
 | .fin,.fin=>true
 | _,_=>false
def Eb:List Nd→List Nd→Bool
 | [],[]=>true
 | d :: ds,e :: es=>Dv d e && Eb ds es
 | _,_=>false
end
def inCat:Nd→Bool
 | .empty=>false
 | .cat _=>false
 | .alt _=>false
 | _=>true
def inAlt:Nd→Bool
 | .alt _=>false
 | _=>true
def GU:Nd→Bool
 | .empty=>false
 | .start=>false
 | .fin=>false
 | .cat _=>false
 | .alt _=>false
 | _=>true
def J2 (mn mx:Int):Bool:=decide (0≤mn) && decide (mn≤255) && (decide (mx=-1) || (decide (mn≤mx) && decide (mx≤255)))
mutual
/-- Is a node right, when so many groups were opened, and these were closed? What was opened and closed then. -/
def Bz:Nd→Int→List Int→Option (Int × List Int)
 | .cat l,o,c=>if decide (2≤l.length) && l.all inCat then Cb l o c else none
 | .alt l,o,c=>if decide (2≤l.length) && l.all inAlt then Cb l o c else none
 | .rep d mn mx,o,c=>if J2 mn mx && GU d then Bz d o c else none
 | .group n d,o,c=>if n=o+1 then (Bz d (o+1) c).map fun r=>(r.1,r.2++[n]) else none
 | .back n,o,c=>if c.contains n then some (o,c) else none
 | _,o,c=>some (o,c)
def Cb:List Nd→Int→List Int→Option (Int × List Int)
 | [],o,c=>some (o,c)
 | d :: ds,o,c=>match Bz d o c with
  | none=>none
  | some r=>Cb ds r.1 r.2
end
theorem J3 (d:Nd):Ax d=1+A0 (Cn d):=by cases d <;> simp [Ax,Cn,A0]
theorem D8 (a b:List Nd):A0 (a++b)=A0 a+A0 b:=by
 induction a with
 | nil=>simp [A0]
 | cons t ts ih=>rw [List.cons_append,A0,A0,ih];omega
def Jb:Nd→Bool
 | .group _ _=>true
 | _=>false
def Abo:Nd→Bool
 | .back _=>true
 | _=>false
theorem Gw (ps:List Nd):ps.length≤A0 ps:=by
 induction ps with
 | nil=>simp [A0]
 | cons t ts ih=>have:=J3 t;rw [A0,List.length_cons];omega
def EM:Nd→Nd→Bool
 | .empty,.empty=>true
 | .one s,.one t=>decide (s=t)
 | .cat _,.cat _=>true
 | .alt _,.alt _=>true
 | .rep _ a b,.rep _ a' b'=>decide (a=a') && decide (b=b')
 | .group n _,.group m _=>decide (n=m)
 | .back n,.back m=>decide (n=m)
 | .start,.start=>true
 | .fin,.fin=>true
 | _,_=>false
theorem Pr (d e:Nd):Dv d e=(EM d e && Eb (Cn d) (Cn e)):=by
 cases d <;> cases e <;> simp [Dv,EM,Cn,Eb]
theorem Ps (l m:List Nd) (h:l.length≠m.length):Eb l m=false:=by
 induction l generalizing m with
 | nil=>
  cases m with
  | nil=>simp at h
  | cons e es=>rfl
 | cons d ds ih=>
  cases m with
  | nil=>rfl
  | cons e es=>rw [Eb,ih es (by simpa using h),Bool.and_false]
end
section
def Br:Nd→List Nd
 | .empty=>[]
 | .cat l=>l
 | d=>[d]
def AT:Nd→List Nd
 | .alt l=>l
 | d=>[d]
def AN (l:List Nd):List Nd:=l.flatMap Br
def AO (l:List Nd):List Nd:=l.flatMap AT
def B0 (l:List Nd):Nd:=match AN l with
 | []=>.empty
 | [d]=>d
 | ds=>.cat ds
def Co (l:List Nd):Nd:=match AO l with
 | []=>.empty
 | [d]=>d
 | ds=>.alt ds
theorem Lg (f:Nd→List Nd) (l:List Nd) (k:Nat) (h:k < l.length):(l.take (k+1)).flatMap f=(l.take k).flatMap f++f l[k]:=by
 rw [List.take_succ_eq_append_getElem h,List.flatMap_append];simp
theorem RI (f:Nd→List Nd) (l:List Nd) (k:Nat):((l.take k).flatMap f).length≤(l.flatMap f).length:=by
 have h:=congrArg List.length (congrArg (List.flatMap f) (List.take_append_drop k l));rw [List.flatMap_append,Afs] at h;omega
end
section
def EN (d:Nd) (es:List Bool):Bool:=match d with
 | .cat l=>decide (2≤l.length) && l.all inCat
 | .alt l=>decide (2≤l.length) && l.all inAlt
 | .rep d mn mx=>J2 mn mx && GU d
 | .group n _=>decide (n=(es.length:Int)+1)
 | .back n=>decide (1≤n) && decide (n≤es.length) && es.getD (n - 1).toNat false
 | _=>true
end
section
mutual
/-- What comes of a node, and of nodes. -/
def F4:Nd→List (Nd × Bool)
 | .cat l=>(.cat l,true) :: (F5 l++[(.cat l,false)])
 | .alt l=>(.alt l,true) :: (F5 l++[(.alt l,false)])
 | .rep d a b=>(.rep d a b,true) :: (F4 d++[(.rep d a b,false)])
 | .group n d=>(.group n d,true) :: (F4 d++[(.group n d,false)])
 | .empty=>[(.empty,true),(.empty,false)]
 | .one s=>[(.one s,true),(.one s,false)]
 | .back n=>[(.back n,true),(.back n,false)]
 | .start=>[(.start,true),(.start,false)]
 | .fin=>[(.fin,true),(.fin,false)]
def F5:List Nd→List (Nd × Bool)
 | []=>[]
 | d :: ds=>F4 d++F5 ds
end
theorem EO (d:Nd):F4 d=(d,true) :: (F5 (Cn d)++[(d,false)]):=by cases d <;> simp [F4,Cn,F5]
mutual
theorem Fh:∀ d:Nd,(F4 d).length=2 * Ax d
 | .cat l=>by have:=J4 l;simp [F4,Ax,this];omega
 | .alt l=>by have:=J4 l;simp [F4,Ax,this];omega
 | .rep d _ _=>by have:=Fh d;simp [F4,Ax,this];omega
 | .group _ d=>by have:=Fh d;simp [F4,Ax,this];omega
 | .empty=>rfl
 | .one _=>rfl
 | .back _=>rfl
 | .start=>rfl
 | .fin=>rfl
theorem J4:∀ l:List Nd,(F5 l).length=2 * A0 l
 | []=>rfl
 | d :: ds=>by have:=Fh d;have:=J4 ds;simp [F5,A0, *];omega
end
def Je:List (Nd × List Nd)→List (Nd × Bool)
 | []=>[]
 | x :: s=>Je s++(F5 x.2++[(x.1,false)])
theorem Da (s:List (Nd × List Nd)) (d:Nd) (r:List Nd):Je (s++[(d,r)])=F5 r++((d,false) :: Je s):=by
 induction s with
 | nil=>simp [Je]
 | cons x s ih=>rw [List.cons_append,Je,ih,Je];simp
theorem RJ (s:List (Nd × List Nd)):s.length≤(Je s).length:=by
 induction s with
 | nil=>simp
 | cons x s ih=>rw [Je];simp;omega
end
section
def YE:Nd→Int
 | .group n _=>n
 | _=>0
inductive RS where
 | no
 | bad
 | ok (es:List Bool)
def rs (s:RS) (x:Nd × Bool):RS:=match s with
 | .ok es=>if x.2 then (if EN x.1 es then .ok (if Jb x.1 then es++[false] else es) else .no)
  else if Jb x.1 then (if 1≤YE x.1∧YE x.1≤(es.length:Int) then .ok (es.set (YE x.1 - 1).toNat true) else .bad) else .ok es
 | .no=>.no
 | .bad=>.bad
def Vc (s:RS) (l:List (Nd × Bool)):RS:=l.foldl rs s
theorem Ec (s:RS) (l m:List (Nd × Bool)):Vc s (l++m)=Vc (Vc s l) m:=by unfold Vc;rw [List.foldl_append]
theorem Cu (s:RS) (x:Nd × Bool) (l:List (Nd × Bool)):Vc s (x :: l)=Vc (rs s x) l:=rfl
theorem Ed (l:List (Nd × Bool)):Vc .no l=.no:=by
 induction l with
 | nil=>rfl
 | cons x l ih=>rw [Cu];exact ih
def RR (es:List Bool) (o:Int) (c:List Int):Prop:=o=(es.length:Int)∧∀ n:Int,c.contains n=(decide (1≤n) && decide (n≤(es.length:Int)) && es.getD (n - 1).toNat false)
def ROk (es:List Bool) (s:RS) (r:Option (Int × List Int)):Prop:=match r with
 | none=>s=.no
 | some q=>∃ es',s=.ok es'∧RR es' q.1 q.2∧es.length≤es'.length
theorem EP {es:List Bool} {o:Int} {c:List Int} (h:RR es o c):ROk es (.ok es) (some (o,c)):=⟨es,rfl,h,Afq _⟩
theorem FA {d:Nd} {es:List Bool} (h:EN d es=false):rs (.ok es) (d,true)=.no:=by simp [rs,h]
theorem RK {d:Nd} {es:List Bool} (h:EN d es=true) (hg:Jb d=false):rs (.ok es) (d,true)=.ok es:=by simp [rs,h,hg]
theorem Mc {d:Nd} (s:RS) (hg:Jb d=false):rs s (d,false)=s:=by cases s <;> simp [rs,hg]
theorem Md {es:List Bool} {o:Int} {c:List Int} (h:RR es o c):RR (es++[false]) (o+1) c:=by
 obtain ⟨h1,h2⟩:=h;refine ⟨by simp;omega,fun n=>?_⟩;rw [h2 n];by_cases hn:n≤(es.length:Int)
 ·by_cases hn1:1≤n
  ·rw [Af7,Af7,List.getElem?_append_left (by omega)];rw [decide_eq_true hn,decide_eq_true (show n≤((es++[false]).length:Int) by simp;omega)]
  ·simp [hn1]
 ·by_cases hn1:n=(es.length:Int)+1
  ·subst hn1;simp
  ·simp [hn];intro _ hh;omega
theorem N2 {es:List Bool} {o:Int} {c:List Int} (h:RR es o c) {n:Int} (h1:1≤n) (h2:n≤(es.length:Int)):RR (es.set (n - 1).toNat true) o (c++[n]):=by
 obtain ⟨g1,g2⟩:=h;refine ⟨by simpa using g1,fun m=>?_⟩;have hc:(c++[n]).contains m=(c.contains m || (m == n)):=by
  simp;rfl
 rw [hc,g2 m,List.length_set];by_cases hm:m=n
 ·subst hm;rw [decide_eq_true h1,decide_eq_true h2,@Af7 _ (es.set (m - 1).toNat true),List.getElem?_set_self (by omega)];simp
 ·have hne:(n - 1).toNat≠(m - 1).toNat∨¬ 1≤m:=by omega
  rw [beq_eq_false_iff_ne.2 hm,Bool.or_false];rcases hne with hne | hne
  ·rw [Af7,Af7,List.getElem?_set_ne hne]
  ·simp [hne]
mutual
theorem Gd:∀ (d:Nd) (es:List Bool) (o:Int) (c:List Int),RR es o c→ROk es (Vc (.ok es) (F4 d)) (Bz d o c)
 | .cat l,es,o,c,h=>by
  rw [F4,Cu,Ec,Bz];cases hf:decide (2≤l.length) && l.all inCat
  ·rw [FA (show EN (.cat l) es=false from hf),Ed,Ed];rfl
  ·rw [RK (show EN (.cat l) es=true from hf) rfl,Cu,Mc _ rfl];exact G4 l es o c h
 | .alt l,es,o,c,h=>by
  rw [F4,Cu,Ec,Bz];cases hf:decide (2≤l.length) && l.all inAlt
  ·rw [FA (show EN (.alt l) es=false from hf),Ed,Ed];rfl
  ·rw [RK (show EN (.alt l) es=true from hf) rfl,Cu,Mc _ rfl];exact G4 l es o c h
 | .rep d mn mx,es,o,c,h=>by
  rw [F4,Cu,Ec,Bz];cases hf:J2 mn mx && GU d
  ·rw [FA (show EN (.rep d mn mx) es=false from hf),Ed,Ed];rfl
  ·rw [RK (show EN (.rep d mn mx) es=true from hf) rfl,Cu,Mc _ rfl];exact Gd d es o c h
 | .group n d,es,o,c,h=>by
  rw [F4,Cu,Ec,Bz];by_cases hn:n=o+1
  ·rw [if_pos hn];have hf:EN (.group n d) es=true:=decide_eq_true (by rw [hn,h.1]);have hi:rs (.ok es) (.group n d,true)=.ok (es++[false]):=by simp [rs,hf,Jb]
   rw [hi];have ih:=Gd d (es++[false]) (o+1) c (Md h);cases hr:Bz d (o+1) c with
   | none=>
    rw [hr] at ih;rw [show Vc (.ok (es++[false])) (F4 d)=.no from ih,Ed];rfl
   | some q=>
    rw [hr] at ih;obtain ⟨es',h1,h2,h3⟩:=ih;rw [h1,Cu];simp at h3;have hlo:1≤n:=by have:=h.1;omega
    have hhi:n≤(es'.length:Int):=by have:=h.1;omega
    have ho:rs (.ok es') (.group n d,false)=.ok (es'.set (n - 1).toNat true):=by simp [rs,Jb,YE,hlo,hhi]
    rw [ho];exact ⟨_,rfl,N2 h2 hlo hhi,by rw [List.length_set];omega⟩
  ·rw [if_neg hn];have hf:EN (.group n d) es=false:=decide_eq_false (by rw [←h.1];exact hn);rw [FA hf,Ed,Ed];rfl
 | .back n,es,o,c,h=>by
  rw [F4,Cu,Bz,h.2 n];cases hf:(decide (1≤n) && decide (n≤(es.length:Int)) && es.getD (n - 1).toNat false)
  ·rw [FA (show EN (.back n) es=false from hf),Ed];rfl
  ·rw [RK (show EN (.back n) es=true from hf) rfl,Cu,Mc _ rfl];exact EP h
 | .empty,es,o,c,h=>EP h
 | .one _,es,o,c,h=>EP h
 | .start,es,o,c,h=>EP h
 | .fin,es,o,c,h=>EP h
theorem G4:∀ (l:List Nd) (es:List Bool) (o:Int) (c:List Int),RR es o c→ROk es (Vc (.ok es) (F5 l)) (Cb l o c)
 | [],es,o,c,h=>EP h
 | d :: ds,es,o,c,h=>by
  rw [F5,Ec,Cb];have ih:=Gd d es o c h;cases hr:Bz d o c with
  | none=>
   rw [hr] at ih;rw [show Vc (.ok es) (F4 d)=.no from ih,Ed];rfl
  | some q=>
   rw [hr] at ih;obtain ⟨es',h1,h2,h3⟩:=ih;rw [h1];have ih2:=G4 ds es' q.1 q.2 h2;show ROk es _ (Cb ds q.1 q.2);cases hr2:Cb ds q.1 q.2 with
   | none=>rw [hr2] at ih2;exact ih2
   | some q2=>
    rw [hr2] at ih2;obtain ⟨es2,g1,g2,g3⟩:=ih2;exact ⟨es2,g1,g2,Afr h3 g3⟩
end
theorem Abp:RR [] 0 []:=⟨rfl,fun n=>by
 by_cases h1:1≤n
 ·have h2:decide (n≤(([]:List Bool).length:Int))=false:=decide_eq_false (by simp;omega);rw [h2];simp
 ·rw [decide_eq_false h1];rfl⟩
end
section
theorem FB (d:Nd) (o:Int) (c:List Int):Cb [d] o c=Bz d o c:=by
 rw [Cb];cases Bz d o c with
 | none=>rfl
 | some r=>rfl
theorem J5 (l m:List Nd) (o:Int) (c:List Int):Cb (l++m) o c=(Cb l o c).bind fun r=>Cb m r.1 r.2:=by
 induction l generalizing o c with
 | nil=>rfl
 | cons d ds ih=>
  rw [List.cons_append,Cb,Cb];cases Bz d o c with
  | none=>rfl
  | some r=>exact ih r.1 r.2
end
section
theorem Me (d:Nd):A0 (Br d)≤Ax d:=by cases d <;> simp [Br,Ax,A0]
theorem Mf (d:Nd):A0 (AT d)≤Ax d:=by cases d <;> simp [AT,Ax,A0]
mutual
theorem Ee:∀ d:Nd,Dv d d=true
 | .cat l=>FC l
 | .alt l=>FC l
 | .rep d a b=>by simp [Dv,Ee d]
 | .group n d=>by simp [Dv,Ee d]
 | .one s=>by simp [Dv]
 | .back n=>by simp [Dv]
 | .empty=>rfl
 | .start=>rfl
 | .fin=>rfl
theorem FC:∀ l:List Nd,Eb l l=true
 | []=>rfl
 | d :: ds=>by rw [Eb,Ee d,FC ds];rfl
end
end
section
def Dw (b:UInt8):List UInt8:=if b.toNat < 128 then [b] else [UInt8.ofNat (192+b.toNat / 64),UInt8.ofNat (128+b.toNat % 64)]
def Ar (l:List UInt8):List UInt8:=l.flatMap Dw
theorem Pt (b:UInt8):UInt8.ofNat b.toNat=b:=by simp
theorem IL (n:Nat) (h:n < 256):(UInt8.ofNat n).toNat=n:=by simp;omega
theorem Pu (b:UInt8) (l:List UInt8):Ar (b :: l)=Dw b++Ar l:=by simp [Ar]
theorem J6 (l:List UInt8) (b:UInt8):Ar (l++[b])=Ar l++Dw b:=by simp [Ar]
theorem Lh (b:UInt8):1≤(Dw b).length∧(Dw b).length≤2:=by unfold Dw;split <;> simp
theorem Li:∀ l:List UInt8,(Ar l).length≤2 * l.length
 | []=>by simp [Ar]
 | b :: l=>by have h:=Li l;have:=Lh b;rw [Pu,Afs,List.length_cons];omega
theorem SQ:∀ n:Fin 256,Lib.encodeRune (n.val:Int)=Dw (UInt8.ofNat n.val):=by decide +kernel
theorem SR (b:UInt8):Lib.encodeRune (b.toNat:Int)=Dw b:=by
 have h:=SQ ⟨b.toNat,b.toNat_lt⟩;simp only [Pt] at h;exact h
/-- Decoding by the list's own bytes. -/
theorem GV (s:ByteArray) (i:Nat):s.data.toList.getD i 0=s.get! i:=by
 cases s with
 | mk d=>
  show d.toList.getD i 0=d[i]!;by_cases h:i < d.size
  ·rw [getElem!_pos d i h];simp [List.getD,h]
  ·rw [getElem!_neg d i h];simp [List.getD,h];rfl
theorem Ae (s:ByteArray):s.size=s.data.toList.length:=rfl
theorem E7 (s:ByteArray) (pos:Nat):Utf8.decode s pos=Lib.decodeN (s.data.toList.length - pos) (s.data.toList.getD pos 0).toNat (s.data.toList.getD (pos+1) 0).toNat (s.data.toList.getD (pos+2) 0).toNat (s.data.toList.getD (pos+3) 0).toNat:=by
 rw [Lib.decode_at,←GV,←GV,←GV,←GV,Ae]
theorem IM (n b c d e:Nat) (h:b < 128):Lib.decodeN n b c d e=(b,1):=by rw [Lib.decodeN,if_pos h]
theorem N3 (n b c d e:Nat) (hn:1 < n) (h:b=194∨b=195) (h1:128≤c) (h2:c < 192):Lib.decodeN n b c d e=((b - 192) * 64+c - 128,2):=by
 rw [Lib.decodeN,if_neg (by omega),if_pos (by omega),if_pos (by omega)];refine Prod.ext ?_ rfl;simp only;omega
def txt (l:List UInt8):ByteArray:=⟨l.toArray⟩
theorem C7 (l:List UInt8):(txt l).size=l.length:=by simp [txt,ByteArray.size]
theorem Ef (l:List UInt8):(txt l).data.toList=l:=rfl
theorem Abq (s:ByteArray):txt s.data.toList=s:=by cases s;rfl
/-- Decoding a wide text: the sign of the byte that stands there. -/
theorem N4 (a:List UInt8) (b:UInt8) (c:List UInt8) :
  Utf8.decode (txt (Ar a++(Dw b++Ar c))) (Ar a).length=(b.toNat,(Dw b).length):=by
 rw [E7,Ef];have hb:=b.toNat_lt;have g:∀ k,(Ar a++(Dw b++Ar c)).getD ((Ar a).length+k) 0=(Dw b++Ar c).getD k 0:=by
  intro k;simp only [List.getD];rw [List.getElem?_append_right (by omega),show (Ar a).length+k - (Ar a).length=k by omega]
 have g0:=g 0;rw [Nat.add_zero] at g0;rw [g0,g 1,g 2,g 3,Afs,Afs];unfold Dw;by_cases hl:b.toNat < 128
 ·rw [if_pos hl];simp only [List.cons_append,List.nil_append,List.getD_cons_zero];rw [IM _ _ _ _ _ hl];rfl
 ·rw [if_neg hl];simp only [List.cons_append,List.nil_append,List.getD_cons_zero,List.getD_cons_succ,List.length_cons,List.length_nil];have e1:(UInt8.ofNat (192+b.toNat / 64)).toNat=192+b.toNat / 64:=IL _ (by omega);have e2:(UInt8.ofNat (128+b.toNat % 64)).toNat=128+b.toNat % 64:=IL _ (by omega);rw [N3 _ _ _ _ _ (by omega) (by rw [e1];omega) (by rw [e2];omega) (by rw [e2];omega),e1,e2];refine Prod.ext ?_ rfl;simp only;omega
end
section
def AK (p:UInt8→Bool) (l:List UInt8):Nat:=(l.takeWhile p).length
theorem Iz (p:UInt8→Bool):AK p []=0:=rfl
theorem Bl {p:UInt8→Bool} {c:UInt8} {l:List UInt8} (h:p c=true):AK p (c :: l)=AK p l+1:=by simp [AK,h]
theorem Cv {p:UInt8→Bool} {c:UInt8} {l:List UInt8} (h:p c=false):AK p (c :: l)=0:=by simp [AK,h]
theorem B8 (p:UInt8→Bool):∀ l,AK p l≤l.length
 | []=>Afq _
 | c :: l=>by
  cases h:p c with
  | true=>rw [Bl h];have:=B8 p l;simp;omega
  | false=>rw [Cv h];omega
theorem J7 (p:UInt8→Bool):∀ l:List UInt8,l.dropWhile p=l.drop (AK p l)
 | []=>rfl
 | c :: l=>by
  cases h:p c with
  | true=>rw [Bl h,List.dropWhile_cons,h];simp [J7 p l]
  | false=>rw [Cv h,List.dropWhile_cons,h];simp
theorem GW (p:UInt8→Bool):∀ (l:List UInt8) (j:Nat) b,j < AK p l→l[j]?=some b→p b=true
 | [],j,b,h,_=>by simp [Iz] at h
 | c :: l,j,b,h,hb=>by
  cases hc:p c with
  | false=>rw [Cv hc] at h;omega
  | true=>
   rw [Bl hc] at h;cases j with
   | zero=>simp at hb;rw [←hb];exact hc
   | succ j=>exact GW p l j b (by omega) (by simpa using hb)
theorem Bm (s:ByteArray) (k:Nat) (h:k < s.size):s.data.toList.drop k=s[k] :: s.data.toList.drop (k+1):=by
 rw [List.drop_eq_getElem_cons (by simpa using h)];rfl
theorem Bs (s:ByteArray) (k:Nat) (h:s.size≤k):s.data.toList.drop k=[]:=List.drop_eq_nil_of_le (by rw [←Ae];exact h)
theorem GX (p:UInt8→Bool) (s:ByteArray) (k:Nat) (hk:k≤s.size):k+AK p (s.data.toList.drop k)≤s.size:=by
 have:=B8 p (s.data.toList.drop k);rw [Af3,←Ae] at this;omega
def Eg (cs:List UInt8) (l:List UInt8):Nat:=AK (fun b=>cs.contains b) l
theorem ST (cs l:List UInt8):(Lib.trimLeftS l cs).length+Eg cs l=l.length:=by
 unfold Lib.trimLeftS Eg;rw [J7,Af3];have:=B8 (fun b=>cs.contains b) l;omega
def C8 (cs L:List UInt8) (at':Int):Nat:=if 0≤at'∧at'≤L.length then at'.toNat+Eg cs (L.drop at'.toNat) else 0
theorem DF (cs L:List UInt8) (k:Nat) (h:k≤L.length):C8 cs L k=k+Eg cs (L.drop k):=by
 unfold C8;rw [if_pos (by omega)];simp
theorem IN (cs L:List UInt8) (at':Int) (h:¬ (0≤at'∧at'≤L.length)):C8 cs L at'=0:=by
 unfold C8;rw [if_neg h]
abbrev E8:=List UInt8 × Nat × Nat
def Abr {α:Type} (L:List UInt8) (at':Int) (z:α) (f:Nat→α):α:=if 0≤at'∧at'≤L.length then f at'.toNat else z
theorem D9 {α:Type} (L:List UInt8) (k:Nat) (z:α) (f:Nat→α) (h:k≤L.length):Abr L k z f=f k:=by unfold Abr;rw [if_pos (by omega)];simp
def A7:List UInt8:=[48,49,50,51,52,53,54,55,56,57]
theorem DT (b:UInt8):A7.contains b=(decide (48≤b.toNat) && decide (b.toNat≤57)):=by
 have h:∀ b:Fin 256,A7.contains (UInt8.ofNat b.val)=(decide (48≤(UInt8.ofNat b.val).toNat) && decide ((UInt8.ofNat b.val).toNat≤57)):=by decide +kernel
 have:=h ⟨b.toNat,b.toNat_lt⟩;simpa using this
def EQ (l:List UInt8):Nat:=l.foldl (fun n b=>n * 10+(b.toNat - 48)) 0
theorem Pv (l:List UInt8) (b:UInt8):EQ (l++[b])=EQ l * 10+(b.toNat - 48):=by simp [EQ]
theorem J8:∀ (l:List UInt8) (n:Nat),(∀ b∈l,A7.contains b=true)→l.foldl (fun n b=>n * 10+(b.toNat - 48)) n < (n+1) * 10 ^ l.length
 | [],n,_=>by simp
 | b :: l,n,h=>by
  have hb:=h b (by simp);rw [DT] at hb;simp at hb;have ih:=J8 l (n * 10+(b.toNat - 48)) (fun x hx=>h x (by simp [hx]));rw [List.foldl_cons,List.length_cons,Nat.pow_succ];have h2:(n * 10+(b.toNat - 48)+1) * 10 ^ l.length≤((n+1) * 10) * 10 ^ l.length:=Nat.mul_le_mul_right _ (by omega);rw [Nat.mul_assoc,Nat.mul_comm 10] at h2;omega
theorem Vd (l:List UInt8) (h:∀ b∈l,A7.contains b=true):EQ l < 10 ^ l.length:=by
 have:=J8 l 0 h;unfold EQ;omega
theorem Px (l:List UInt8) (h:∀ b∈l,A7.contains b=true) (h9:l.length≤9):EQ l < 1000000000:=by
 have h1:=Vd l h;have h2:10 ^ l.length≤10 ^ 9:=Nat.pow_le_pow_right (by omega) h9;omega
def B9 (L:List UInt8) (k:Nat):Nat × Nat × Nat:=
 let n:=Eg A7 (L.drop k)
 if n=0 then (0,k,2) else if 9 < n then (0,k,3) else (EQ ((L.drop k).take n),k+n,0)
def BA:List UInt8→Nat→List UInt8→E8
 | [],p,acc=>(acc++[10],p,0)
 | [c],p,acc=>if c=10 then (acc++[10],p+1,0) else if c=92 then ([],p,11) else (acc++[c]++[10],p+1,0)
 | c :: x :: u,p,acc=>if c=10 then (acc++[10],p+1,0) else if c=92 then BA u (p+2) (acc++[x]) else BA (x :: u) (p+1) (acc++[c])
theorem Eh (t:List UInt8) (p:Nat) (acc:List UInt8):BA (10 :: t) p acc=(acc++[10],p+1,0):=by cases t <;> simp [BA]
theorem Ei (x:UInt8) (u:List UInt8) (p:Nat) (acc:List UInt8):BA (92 :: x :: u) p acc=BA u (p+2) (acc++[x]):=by simp [BA]
theorem Dz (p:Nat) (acc:List UInt8):BA [92] p acc=([],p,11):=by simp [BA]
theorem CG (c:UInt8) (t:List UInt8) (p:Nat) (acc:List UInt8) (h1:¬ c=10) (h2:¬ c=92):BA (c :: t) p acc=BA t (p+1) (acc++[c]):=by
 cases t <;> simp [BA,h1,h2]
def Fi (label:Bool) (b:UInt8):Bool:=b == 10 || (label && b == 59)
def Ej (label:Bool) (l:List UInt8):Nat:=AK (fun b=>!Fi label b) l
def Ek (n:List UInt8) (k e:Nat):E8:=if n=[] then ([],k,14) else if 40 < n.length then ([],k,3) else (n,e,0)
def Bu (L:List UInt8) (k:Nat) (label:Bool):E8:=
 Ek (Lib.trimS ((L.drop k).take (Ej label (L.drop k))) [32,9]) k (k+Ej label (L.drop k))
def DG (c:UInt8) (l:List UInt8):Nat:=match l with | []=>0 | x :: _=>if x=c then 1 else 0
def BD (t:List UInt8):Nat:=DG 94 t+DG 93 (t.drop (DG 94 t))
def Ch (t:List UInt8):Nat:=1+BD t+min (AK (fun b=>!(b == 93)) (t.drop (BD t))+1) (t.drop (BD t)).length
def Bd (d:UInt8) (rx:Bool) (c:UInt8) (t:List UInt8) (p:Nat):E8:=
 if c=92 then
  match t with
  | []=>([],p+1,5)
  | x :: _=>if x=d then ([x],p+2,0) else if (x == 10 && rx)=true then ([],p+1,2) else ([92,x],p+2,0)
 else
  let k:=if (rx && c == 91)=true then Ch t else 1
  let i:=AK (fun b=>!(b == 10)) ((c :: t).take k)
  if i < k then ([],p+i,2) else ((c :: t).take k,p+k,0)
def Cq (d:UInt8) (rx:Bool) (L:List UInt8):Nat→Nat→List UInt8→E8
 | 0,_,_=>([],L.length,5)
 | n+1,p,acc=>
  match L.drop p with
  | []=>([],L.length,5)
  | c :: t=>if c=d then (acc,p+1,0) else if (Bd d rx c t p).2.2=0 then Cq d rx L n (Bd d rx c t p).2.1 (acc++(Bd d rx c t p).1) else Bd d rx c t p
theorem D0 {d:UInt8} {rx:Bool} {L:List UInt8} {n p:Nat} {acc:List UInt8} (h:L.drop p=[]):Cq d rx L (n+1) p acc=([],L.length,5):=by rw [Cq,h]
theorem D1 {d:UInt8} {rx:Bool} {L t:List UInt8} {n p:Nat} {acc:List UInt8} (h:L.drop p=d :: t):Cq d rx L (n+1) p acc=(acc,p+1,0):=by rw [Cq,h];simp
theorem CH {d c:UInt8} {rx:Bool} {L t x:List UInt8} {n p k:Nat} {acc:List UInt8} (h:L.drop p=c :: t) (hc:¬ c=d) (hp:Bd d rx c t p=(x,k,0)):Cq d rx L (n+1) p acc=Cq d rx L n k (acc++x):=by rw [Cq,h];simp [hc,hp]
theorem DY {d c:UInt8} {rx:Bool} {L t x:List UInt8} {n p k e:Nat} {acc:List UInt8} (h:L.drop p=c :: t) (hc:¬ c=d) (he:¬ e=0) (hp:Bd d rx c t p=(x,k,e)):Cq d rx L (n+1) p acc=(x,k,e):=by rw [Cq,h];simp [hc,hp,he]
theorem GY (c:UInt8) (l:List UInt8):DG c l≤l.length:=by
 unfold DG;split
 ·simp
 ·split <;> simp
theorem G5 (t:List UInt8):BD t≤t.length:=by
 have h1:=GY 94 t;have h2:=GY 93 (t.drop (DG 94 t));rw [Af3] at h2;unfold BD;omega
theorem J9 (t:List UInt8):Ch t≤t.length+1:=by
 have h1:=G5 t;have h2:(t.drop (BD t)).length=t.length - BD t:=Af3;unfold Ch;omega
theorem Lj (t:List UInt8):1≤Ch t:=by unfold Ch;omega
theorem ER {d c:UInt8} {rx:Bool} {t x:List UInt8} {p k:Nat} (h:Bd d rx c t p=(x,k,0)):p < k∧k≤p+1+t.length∧x.length≤k - p:=by
 unfold Bd at h;split at h
 ·split at h
  ·simp at h
  ·split at h
   ·simp at h;obtain ⟨rfl,rfl⟩:=h;simp;try omega
   ·split at h
    ·simp at h
    ·simp at h;obtain ⟨rfl,rfl⟩:=h;simp;try omega
 ·simp only at h;have hb:1≤(if (rx && c == 91)=true then Ch t else 1)∧(if (rx && c == 91)=true then Ch t else 1)≤t.length+1:=by
   split
   ·exact ⟨Lj t,J9 t⟩
   ·omega
  generalize (if (rx && c == 91)=true then Ch t else 1)=k' at h hb;split at h
  ·simp at h
  ·simp only [Prod.mk.injEq,and_true] at h;obtain ⟨rfl,rfl⟩:=h;have:=List.length_take_le k' (c :: t);omega
theorem G6 {d c:UInt8} {rx:Bool} {t x:List UInt8} {p k e:Nat} (h:Bd d rx c t p=(x,k,e)) (he:¬ e=0):x=[]∧k≤p+1+t.length∧(e=2∨e=5):=by
 unfold Bd at h;split at h
 ·split at h
  ·simp at h;obtain ⟨rfl,rfl,rfl⟩:=h;simp
  ·split at h
   ·simp at h;omega
   ·split at h
    ·simp at h;obtain ⟨rfl,rfl,rfl⟩:=h;simp;try omega
    ·simp at h;omega
 ·simp only at h;have hb:(if (rx && c == 91)=true then Ch t else 1)≤t.length+1:=by
   split
   ·exact J9 t
   ·omega
  generalize (if (rx && c == 91)=true then Ch t else 1)=k' at h hb;split at h
  ·simp only [Prod.mk.injEq] at h;obtain ⟨rfl,rfl,rfl⟩:=h;simp;try omega
  ·simp only [Prod.mk.injEq] at h;omega
theorem Ge:∀ (l:List UInt8) (c:UInt8),Lib.indexByte l c=if AK (fun b=>!(b == c)) l < l.length then (AK (fun b=>!(b == c)) l:Int) else -1
 | [],c=>by simp [Lib.indexByte,Iz]
 | b :: l,c=>by
  rw [Lib.indexByte];cases h:(b == c) with
  | true=>rw [Cv (by simp [h])];rfl
  | false=>
   rw [Bl (by simp [h]),Ge l c];simp only [List.length_cons,Af2,if_false];have:=B8 (fun b=>!(b == c)) l;by_cases h1:AK (fun b=>!(b == c)) l < l.length
   ·rw [if_pos h1,if_neg (by simp),if_pos (by omega)];simp
   ·rw [if_neg h1,if_pos (by simp),if_neg (by omega)]
theorem GZ (cs:List UInt8):∀ l:List UInt8,Lib.indexAny l cs=if AK (fun b=>!cs.contains b) l < l.length then (AK (fun b=>!cs.contains b) l:Int) else -1
 | []=>by simp [Lib.indexAny,Iz]
 | b :: l=>by
  rw [Lib.indexAny];cases h:cs.contains b with
  | true=>rw [Cv (p:=fun b=>!cs.contains b) (by rw [h];rfl)];simp
  | false=>
   rw [Bl (p:=fun b=>!cs.contains b) (by rw [h];rfl),GZ cs l];simp only [List.length_cons,Af2,if_false];have:=B8 (fun b=>!cs.contains b) l;by_cases h1:AK (fun b=>!cs.contains b) l < l.length
   ·rw [if_pos h1,if_neg (by simp),if_pos (by omega)];simp
   ·rw [if_neg h1,if_pos (by simp),if_neg (by omega)]
def Aj (L:List UInt8) (a:Int) (d:UInt8) (rx:Bool):E8:=Abr L a ([],0,1) fun k=>Cq d rx L (L.length+1) k []
end
section
open Go.RowKit Go.Shelf
set_option linter.unusedVariables false
def RL:Go.Shelf.Ren:=⟨fun | 119=>111 | 137=>110 | 151=>80 | 152=>96 | 161=>37 | 197=>79 | 217=>52 | 224=>54 | 225=>53 | 227=>57 | 228=>78 | 231=>56 | 233=>58 | 235=>59 | 260=>95 | 266=>76 | n=>n,fun | 0=>0 | 3=>3 | 4=>4 | 5=>5 | 9=>9 | 21=>21 | 46=>124 | 105=>153 | 116=>127 | 117=>128 | 119=>180 | 124=>131 | 138=>193 | 139=>194 | n=>n,fun | 3=>1 | 4=>2 | n=>n⟩
theorem RM:Go.Proofs.Lays.n161 prog RL:={
 mixed:=by kernel_rfl
 f119:=Tryz.func111.trans (congrArg some (by kernel_rfl))
 f137:=Tryz.func110.trans (congrArg some (by kernel_rfl))
 f151:=Tryz.func80.trans (congrArg some (by kernel_rfl))
 f152:=Tryz.func96.trans (congrArg some (by kernel_rfl))
 f161:=Tryz.func37.trans (congrArg some (by kernel_rfl))
 f197:=Tryz.func79.trans (congrArg some (by kernel_rfl))
 f217:=Tryz.func52.trans (congrArg some (by kernel_rfl))
 f224:=Tryz.func54.trans (congrArg some (by kernel_rfl))
 f225:=Tryz.func53.trans (congrArg some (by kernel_rfl))
 f227:=Tryz.func57.trans (congrArg some (by kernel_rfl))
 f228:=Tryz.func78.trans (congrArg some (by kernel_rfl))
 f231:=Tryz.func56.trans (congrArg some (by kernel_rfl))
 f233:=Tryz.func58.trans (congrArg some (by kernel_rfl))
 f235:=Tryz.func59.trans (congrArg some (by kernel_rfl))
 f260:=Tryz.func95.trans (congrArg some (by kernel_rfl))
 f266:=Tryz.func76.trans (congrArg some (by kernel_rfl))
 t0:=underlying0
 a0:=isAgg0
 z0:=sizeOf0
 v0:=zeroValue0
 t3:=underlying3
 a3:=isAgg3
 z3:=sizeOf3
 v3:=zeroValue3
 t4:=underlying4
 a4:=isAgg4
 z4:=sizeOf4
 v4:=zeroValue4
 t5:=underlying5
 a5:=isAgg5
 z5:=sizeOf5
 v5:=zeroValue5
 t9:=underlying9
 a9:=isAgg9
 z9:=sizeOf9
 v9:=zeroValue9
 t21:=underlying21
 a21:=isAgg21
 z21:=sizeOf21
 v21:=zeroValue21
 t46:=underlying124
 a46:=isAgg124
 z46:=sizeOf124
 v46:=zeroValue124
 t105:=underlying153
 a105:=isAgg153
 z105:=sizeOf153
 v105:=zeroValue153
 t116:=underlying127
 a116:=isAgg127
 z116:=sizeOf127
 t117:=underlying128
 a117:=isAgg128
 z117:=sizeOf128
 v117:=zeroValue128
 t119:=underlying180
 a119:=isAgg180
 z119:=sizeOf180
 t124:=underlying131
 a124:=isAgg131
 z124:=sizeOf131
 v124:=zeroValue131
 t138:=underlying193
 a138:=isAgg193
 z138:=sizeOf193
 v138:=zeroValue193
 t139:=underlying194
 a139:=isAgg194
 z139:=sizeOf194
 v139:=zeroValue194
 g3:=by kernel_rfl
 g4:=by kernel_rfl
}
def YF:Go.Shelf.Ren:=⟨fun | 119=>111 | 120=>137 | 137=>110 | 151=>80 | 152=>96 | 160=>84 | 197=>79 | 217=>52 | 224=>54 | 225=>53 | 227=>57 | 228=>78 | 231=>56 | 232=>101 | 233=>58 | 234=>102 | 235=>59 | 236=>103 | 260=>95 | 266=>76 | 271=>118 | n=>n,fun | 0=>0 | 3=>3 | 4=>4 | 5=>5 | 9=>9 | 21=>21 | 46=>124 | 105=>153 | 116=>127 | 117=>128 | 119=>180 | 124=>131 | 138=>193 | 139=>194 | n=>n,fun | 3=>1 | 4=>2 | n=>n⟩
theorem YG:Go.Proofs.Lays.n160 prog YF:={
 mixed:=by kernel_rfl
 f119:=Tryz.func111.trans (congrArg some (by kernel_rfl))
 f120:=Tryz.func137.trans (congrArg some (by kernel_rfl))
 f137:=Tryz.func110.trans (congrArg some (by kernel_rfl))
 f151:=Tryz.func80.trans (congrArg some (by kernel_rfl))
 f152:=Tryz.func96.trans (congrArg some (by kernel_rfl))
 f160:=Tryz.func84.trans (congrArg some (by kernel_rfl))
 f197:=Tryz.func79.trans (congrArg some (by kernel_rfl))
 f217:=Tryz.func52.trans (congrArg some (by kernel_rfl))
 f224:=Tryz.func54.trans (congrArg some (by kernel_rfl))
 f225:=Tryz.func53.trans (congrArg some (by kernel_rfl))
 f227:=Tryz.func57.trans (congrArg some (by kernel_rfl))
 f228:=Tryz.func78.trans (congrArg some (by kernel_rfl))
 f231:=Tryz.func56.trans (congrArg some (by kernel_rfl))
 f232:=Tryz.func101.trans (congrArg some (by kernel_rfl))
 f233:=Tryz.func58.trans (congrArg some (by kernel_rfl))
 f234:=Tryz.func102.trans (congrArg some (by kernel_rfl))
 f235:=Tryz.func59.trans (congrArg some (by kernel_rfl))
 f236:=Tryz.func103.trans (congrArg some (by kernel_rfl))
 f260:=Tryz.func95.trans (congrArg some (by kernel_rfl))
 f266:=Tryz.func76.trans (congrArg some (by kernel_rfl))
 f271:=Tryz.func118.trans (congrArg some (by kernel_rfl))
 t0:=underlying0
 a0:=isAgg0
 z0:=sizeOf0
 v0:=zeroValue0
 t3:=underlying3
 a3:=isAgg3
 z3:=sizeOf3
 v3:=zeroValue3
 t4:=underlying4
 a4:=isAgg4
 z4:=sizeOf4
 v4:=zeroValue4
 t5:=underlying5
 a5:=isAgg5
 z5:=sizeOf5
 v5:=zeroValue5
 t9:=underlying9
 a9:=isAgg9
 z9:=sizeOf9
 v9:=zeroValue9
 t21:=underlying21
 a21:=isAgg21
 z21:=sizeOf21
 v21:=zeroValue21
 t46:=underlying124
 a46:=isAgg124
 z46:=sizeOf124
 v46:=zeroValue124
 t105:=underlying153
 a105:=isAgg153
 z105:=sizeOf153
 v105:=zeroValue153
 t116:=underlying127
 a116:=isAgg127
 z116:=sizeOf127
 t117:=underlying128
 a117:=isAgg128
 z117:=sizeOf128
 v117:=zeroValue128
 t119:=underlying180
 a119:=isAgg180
 z119:=sizeOf180
 t124:=underlying131
 a124:=isAgg131
 z124:=sizeOf131
 v124:=zeroValue131
 t138:=underlying193
 a138:=isAgg193
 z138:=sizeOf193
 v138:=zeroValue193
 t139:=underlying194
 a139:=isAgg194
 z139:=sizeOf194
 v139:=zeroValue194
 g3:=by kernel_rfl
 g4:=by kernel_rfl
}
def Jf:Go.Shelf.Ren:=⟨fun | 119=>111 | 137=>110 | 152=>96 | 153=>100 | 217=>52 | 224=>54 | 225=>53 | 226=>117 | 227=>57 | 228=>78 | 266=>76 | n=>n,fun | 0=>0 | 3=>3 | 4=>4 | 5=>5 | 9=>9 | 21=>21 | 46=>124 | 116=>127 | 117=>128 | 124=>131 | n=>n,fun  | n=>n⟩
theorem Jg:Go.Proofs.Lays.n153 prog Jf:={
 mixed:=by kernel_rfl
 f119:=Tryz.func111.trans (congrArg some (by kernel_rfl))
 f137:=Tryz.func110.trans (congrArg some (by kernel_rfl))
 f152:=Tryz.func96.trans (congrArg some (by kernel_rfl))
 f153:=Tryz.func100.trans (congrArg some (by kernel_rfl))
 f217:=Tryz.func52.trans (congrArg some (by kernel_rfl))
 f224:=Tryz.func54.trans (congrArg some (by kernel_rfl))
 f225:=Tryz.func53.trans (congrArg some (by kernel_rfl))
 f226:=Tryz.func117.trans (congrArg some (by kernel_rfl))
 f227:=Tryz.func57.trans (congrArg some (by kernel_rfl))
 f228:=Tryz.func78.trans (congrArg some (by kernel_rfl))
 f266:=Tryz.func76.trans (congrArg some (by kernel_rfl))
 t0:=underlying0
 a0:=isAgg0
 z0:=sizeOf0
 v0:=zeroValue0
 t3:=underlying3
 a3:=isAgg3
 z3:=sizeOf3
 v3:=zeroValue3
 t4:=underlying4
 a4:=isAgg4
 z4:=sizeOf4
 v4:=zeroValue4
 t5:=underlying5
 a5:=isAgg5
 z5:=sizeOf5
 v5:=zeroValue5
 t9:=underlying9
 a9:=isAgg9
 z9:=sizeOf9
 v9:=zeroValue9
 t21:=underlying21
 a21:=isAgg21
 z21:=sizeOf21
 v21:=zeroValue21
 t46:=underlying124
 a46:=isAgg124
 z46:=sizeOf124
 v46:=zeroValue124
 t116:=underlying127
 a116:=isAgg127
 z116:=sizeOf127
 t117:=underlying128
 a117:=isAgg128
 z117:=sizeOf128
 v117:=zeroValue128
 t124:=underlying131
 a124:=isAgg131
 z124:=sizeOf131
 v124:=zeroValue131
}
def YH:Go.Shelf.Ren:=⟨fun | 137=>110 | 217=>52 | 266=>76 | n=>n,fun | 3=>3 | 5=>5 | 9=>9 | n=>n,fun  | n=>n⟩
theorem YI:Go.Proofs.Lays.n137 prog YH:={
 mixed:=by kernel_rfl
 f137:=Tryz.func110.trans (congrArg some (by kernel_rfl))
 f217:=Tryz.func52.trans (congrArg some (by kernel_rfl))
 f266:=Tryz.func76.trans (congrArg some (by kernel_rfl))
 t3:=underlying3
 a3:=isAgg3
 z3:=sizeOf3
 v3:=zeroValue3
 t5:=underlying5
 a5:=isAgg5
 z5:=sizeOf5
 v5:=zeroValue5
 t9:=underlying9
 a9:=isAgg9
 z9:=sizeOf9
 v9:=zeroValue9
}
def RN:Go.Shelf.Ren:=⟨fun | 166=>93 | 240=>104 | 276=>119 | n=>n,fun | 0=>0 | 3=>3 | 4=>4 | 5=>5 | 9=>9 | 20=>20 | 37=>164 | 70=>163 | 72=>166 | 75=>168 | 80=>59 | 164=>212 | n=>n,fun  | n=>n⟩
theorem Ve:Go.Proofs.Lays.n166 prog RN:={
 mixed:=by kernel_rfl
 f166:=Tryz.func93.trans (congrArg some (by kernel_rfl))
 f240:=Tryz.func104.trans (congrArg some (by kernel_rfl))
 f276:=Tryz.func119.trans (congrArg some (by kernel_rfl))
 t0:=underlying0
 a0:=isAgg0
 z0:=sizeOf0
 v0:=zeroValue0
 t3:=underlying3
 a3:=isAgg3
 z3:=sizeOf3
 v3:=zeroValue3
 t4:=underlying4
 a4:=isAgg4
 z4:=sizeOf4
 v4:=zeroValue4
 t9:=underlying9
 a9:=isAgg9
 z9:=sizeOf9
 v9:=zeroValue9
 t20:=underlying20
 a20:=isAgg20
 z20:=sizeOf20
 v20:=zeroValue20
 t37:=underlying164
 a37:=isAgg164
 z37:=sizeOf164
 v37:=zeroValue164
 t70:=underlying163
 a70:=isAgg163
 z70:=sizeOf163
 v70:=zeroValue163
 t72:=underlying166
 a72:=isAgg166
 z72:=sizeOf166
 v72:=zeroValue166
 t75:=underlying168
 a75:=isAgg168
 z75:=sizeOf168
 v75:=zeroValue168
 t164:=underlying212
 a164:=isAgg212
 z164:=sizeOf212
 v164:=zeroValue212
}
theorem SU:Builder.Extra prog RN:={
 sizeBuilder:=by kernel_rfl
 liesBuilder:=by kernel_rfl
 t5:=underlying5
 a5:=isAgg5
 z5:=sizeOf5
 v5:=zeroValue5
 infoByte:=by kernel_rfl
 cellsByte:=by kernel_rfl
 sizeByte:=by kernel_rfl
 neB5:=by decide }
theorem KP (B b:Nat) (bs:List Value) (s:ByteArray) (w:World) (h:Lib.IsBuilderF 166 5 B b bs w) (hlen:bs.length+s.size≤140737488355328) (hBw:B≤w.heap.size) :
  Calls prog 93 #[.pointer (some ⟨b,0,none⟩),.string s] w fun e w'=>e=.returned (.tuple #[.int .i64 s.size,.nilIface])∧(Lib.BuilderAtF 166 5 B b (.pointer (some ⟨b,0,none⟩)) (bs++Lib.byteCells s.data.toList) w'∧Below B w w'∧Lib.OthersKept 5 (some b) w w'):=
 Any.Builder_WriteString_k Ve SU B b bs s w h hlen hBw
theorem Py (s cutset:ByteArray) (w:World) (hcs:cutset.size < 4294967281) (ha:∀ (j:Nat) b,cutset.data.toList[j]?=some b→b.toNat < 128) :
  Calls prog 37 #[.string s,.string cutset] w fun e w'=>e=.returned (.string (txt (Lib.trimLeftS s.data.toList cutset.data.toList)))∧Below w.heap.size w w':=
 Any.strings_TrimLeft_laid RM (by kernel_rfl) s cutset w hcs ha
theorem Abs (s cutset:ByteArray) (w:World) (hs:s.size≤9223372036854775807) (hcs:cutset.size < 4294967281) (ha:∀ (j:Nat) b,cutset.data.toList[j]?=some b→b.toNat < 128) :
  Calls prog 84 #[.string s,.string cutset] w fun e w'=>e=.returned (.string (txt (Lib.trimS s.data.toList cutset.data.toList)))∧Below w.heap.size w w':=
 Any.strings_Trim_laid YG (by kernel_rfl) s cutset w hs hcs ha
theorem FD (s:ByteArray) (c:UInt8) (w:World) :
  Calls prog 110 #[.string s,.int .u8 c.toNat] w fun e w'=>e=.returned (.int .i64 (Lib.indexByte s.data.toList c))∧w'=w:=by
 have h:=Any.strings_IndexByte YI s c.toNat w;rw [Lib.byte_back'] at h;exact h
theorem Mg (s chars:ByteArray) (w:World) (h1:chars.size=1) (ha:∀ (j:Nat) b,chars.data.toList[j]?=some b→b.toNat < 128) :
  Calls prog 100 #[.string s,.string chars] w fun e w'=>e=.returned (.int .i64 (Lib.indexAny s.data.toList chars.data.toList))∧w'=w:=
 Any.strings_IndexAny_one Jg s chars w h1 ha
theorem KQ (s chars:ByteArray) (w:World) (h2:2≤chars.size) (h8:8 < s.size) (hs:s.size < 4294967281) (hcs:chars.size < 4294967281) (ha:∀ (j:Nat) b,chars.data.toList[j]?=some b→b.toNat < 128) :
  Calls prog 100 #[.string s,.string chars] w fun e w'=>e=.returned (.int .i64 (Lib.indexAny s.data.toList chars.data.toList))∧Below w.heap.size w w':=by
 have h116:(Tryz.prog.info? (Jf.t 116)).map (fun i=>(i.zero,i.size))=some (some (.agg (Array.replicate 256 (.bool false))),256):=by kernel_rfl
 refine (Any.strings_IndexAny_long Jg (zero_of_info h116).1 (zero_of_info h116).2 s chars w h2 h8 hs hcs ha).mono fun e w' ⟨h1,h2⟩=>⟨h1,?_⟩
 rw [h2];exact ((Afv _ _).alloc (Afq _) _).alloc (by simp) _
end
section
open Go.RowKit
theorem Ci (s:ByteArray) (k:Nat):(s.extract k s.size).data.toList=s.data.toList.drop k:=Lib.extract_to_end s k
theorem Cl (s:ByteArray) (k e:Nat):(s.extract k e).data.toList=(s.data.toList.drop k).take (e - k):=by
 rw [ByteArray.data_extract,Array.toList_extract,List.extract_eq_take_drop]
theorem ET (s:ByteArray) (k:Nat) (w:World) (h:k≤s.size):Calls prog 36 #[.string s,.int .i64 k] w fun e w'=>e=.returned (.bool true)∧w'=w:=by
 go_enter func36,ntmps36;have h0:(0:Int)≤(k:Int):=by omega
 have h1:(k:Int)≤(s.size:Int):=by omega
 go_wp2
 go_ret;exact ⟨rfl,rfl⟩
theorem Vf (s:ByteArray) (a:Int) (w:World) (h:¬ (0≤a∧a≤(s.size:Int))):Calls prog 36 #[.string s,.int .i64 a] w fun e w'=>e=.returned (.bool false)∧w'=w:=by
 go_enter func36,ntmps36;by_cases h0:(0:Int)≤a
 ·have h1:¬ a≤(s.size:Int):=fun h1=>h ⟨h0,h1⟩
  clear h
  go_wp2
  go_ret;exact ⟨rfl,rfl⟩
 ·clear h
  go_wp2
  go_ret;exact ⟨rfl,rfl⟩
theorem G7 (s cs:ByteArray) (k:Nat) (w:World) (hs:s.size≤4000000) (hk:k≤s.size) (hcs:cs.size < 4294967281) (ha:∀ (j:Nat) b,cs.data.toList[j]?=some b→b.toNat < 128) :
  Calls prog 29 #[.string s,.int .i64 k,.string cs] w fun e w'=>e=.returned (.int .i64 ((k+Eg cs.data.toList (s.data.toList.drop k):Nat):Int))∧Below w.heap.size w w':=by
 have hP:=ET s k w hk;have hT:=Py (s.extract k s.size) cs w hcs ha;rw [Ci] at hT;have ht:=ST cs.data.toList (s.data.toList.drop k);rw [Af3,←Ae] at ht;obtain ⟨m,hm⟩:∃ m,Eg cs.data.toList (s.data.toList.drop k)=m:=⟨_,rfl⟩;rw [hm] at ht ⊢;obtain ⟨r,hr⟩:∃ r,txt (Lib.trimLeftS (s.data.toList.drop k) cs.data.toList)=r:=⟨_,rfl⟩;have hrs:r.size+m=s.size - k:=by rw [←hr,C7];exact ht
 rw [hr] at hT;clear hr ht hm ha;have hsum:IntKind.i64.wrap ((s.size:Int) - (r.size:Int))=((k+m:Nat):Int):=by rw [Afx _ (by omega)];omega
 go_enter func29,ntmps29;go_wp2_with (first
  | (go_at_call 36;refine hP.mono ?_;rintro e w' ⟨rfl,rfl⟩)
  | (go_at_call 37;refine hT.mono ?_;rintro e w1 ⟨rfl,hb⟩))
 go_ret;exact ⟨by go_num,hb⟩
theorem JA (s cs:ByteArray) (a:Int) (w:World) (h:¬ (0≤a∧a≤(s.size:Int))) :
  Calls prog 29 #[.string s,.int .i64 a,.string cs] w fun e w'=>e=.returned (.int .i64 0)∧Below w.heap.size w w':=by
 have hP:=Vf s a w h;clear h;go_enter func29,ntmps29;go_wp2_with (go_at_call 36;refine hP.mono ?_;rintro e w' ⟨rfl,rfl⟩)
 go_ret;exact ⟨rfl,Afv _ _⟩
theorem JB:∀ (j:Nat) b,(⟨#[32,9]⟩:ByteArray).data.toList[j]?=some b→b.toNat < 128:=ascii_of_all (by decide)
theorem SV:∀ (j:Nat) b,(⟨#[32,9,10,59]⟩:ByteArray).data.toList[j]?=some b→b.toNat < 128:=ascii_of_all (by decide)
theorem Pz:∀ (j:Nat) b,(⟨#[48,49,50,51,52,53,54,55,56,57]⟩:ByteArray).data.toList[j]?=some b→b.toNat < 128:=ascii_of_all (by decide)
theorem IP (s:ByteArray) (a:Int) (w:World) (hs:s.size≤4000000) :
  Calls prog 64 #[.string s,.int .i64 a] w fun e w'=>e=.returned (.int .i64 (C8 [32,9] s.data.toList a:Nat))∧Below w.heap.size w w':=by
 have hB:Calls prog 29 #[.string s,.int .i64 a,.string ⟨#[32,9]⟩] w fun e w'=>e=.returned (.int .i64 (C8 [32,9] s.data.toList a:Nat))∧Below w.heap.size w w':=by
  by_cases h:0≤a∧a≤(s.size:Int)
  ·obtain ⟨k,rfl⟩:∃ k:Nat,a=k:=⟨a.toNat,by omega⟩;rw [DF _ _ _ (by rw [←Ae];omega)];exact G7 s ⟨#[32,9]⟩ k w hs (by omega) (by decide) JB
  ·rw [IN _ _ _ (by rw [←Ae];exact h)];exact JA s ⟨#[32,9]⟩ a w h
 generalize C8 [32,9] s.data.toList a=r at hB ⊢;go_enter func64,ntmps64;go_wp2_with (go_at_call 29;refine hB.mono ?_;rintro e w1 ⟨rfl,hb⟩)
 go_ret;exact ⟨rfl,hb⟩
theorem P1 (s:ByteArray) (a:Int) (w:World) (hs:s.size≤4000000) :
  Calls prog 20 #[.string s,.int .i64 a] w fun e w'=>e=.returned (.int .i64 (C8 [32,9,10,59] s.data.toList a:Nat))∧Below w.heap.size w w':=by
 have hB:Calls prog 29 #[.string s,.int .i64 a,.string ⟨#[32,9,10,59]⟩] w fun e w'=>e=.returned (.int .i64 (C8 [32,9,10,59] s.data.toList a:Nat))∧Below w.heap.size w w':=by
  by_cases h:0≤a∧a≤(s.size:Int)
  ·obtain ⟨k,rfl⟩:∃ k:Nat,a=k:=⟨a.toNat,by omega⟩;rw [DF _ _ _ (by rw [←Ae];omega)];exact G7 s ⟨#[32,9,10,59]⟩ k w hs (by omega) (by decide) SV
  ·rw [IN _ _ _ (by rw [←Ae];exact h)];exact JA s ⟨#[32,9,10,59]⟩ a w h
 generalize C8 [32,9,10,59] s.data.toList a=r at hB ⊢;go_enter func20,ntmps20;go_wp2_with (go_at_call 29;refine hB.mono ?_;rintro e w1 ⟨rfl,hb⟩)
 go_ret;exact ⟨rfl,hb⟩
abbrev Ae4 (r:Nat × Nat × Nat):Ending:=.returned (.tuple #[.int .i64 (r.1:Nat),.int .i64 (r.2.1:Nat),.int .i64 (r.2.2:Nat)])
abbrev pcA (r:E8):Ending:=.returned (.tuple #[.string (txt r.1),.int .i64 (r.2.1:Nat),.int .i64 (r.2.2:Nat)])
theorem Db {t:ByteArray} {n e:Int} {r:E8} (h1:t=txt r.1) (h2:n=(r.2.1:Nat)) (h3:e=(r.2.2:Nat)):Ending.returned (.tuple #[.string t,.int .i64 n,.int .i64 e])=pcA r:=by rw [h1,h2,h3]
theorem G8 (s:ByteArray) (k:Nat) (w:World) (hs:s.size≤4000000) (hk:k≤s.size) :
  Calls prog 81 #[.string s,.int .i64 k] w fun e w'=>e=Ae4 (B9 s.data.toList k)∧Below w.heap.size w w':=by
 have hP:=ET s k w hk;have hB:=G7 s ⟨#[48,49,50,51,52,53,54,55,56,57]⟩ k w hs hk (by decide) Pz;rw [show (⟨#[48,49,50,51,52,53,54,55,56,57]⟩:ByteArray).data.toList=A7 from rfl] at hB;have hle:=GX (fun b=>A7.contains b) s k hk;have hbf:=GW (fun b=>A7.contains b) (s.data.toList.drop k);obtain ⟨m,hm⟩:∃ m,Eg A7 (s.data.toList.drop k)=m:=⟨_,rfl⟩;have hm':AK (fun b=>A7.contains b) (s.data.toList.drop k)=m:=hm;rw [hm'] at hle hbf;rw [hm] at hB;have hN:B9 s.data.toList k=if m=0 then (0,k,2) else if 9 < m then (0,k,3) else (EQ ((s.data.toList.drop k).take m),k+m,0):=by unfold B9;rw [hm]
 obtain ⟨R,hR⟩:∃ R,B9 s.data.toList k=R:=⟨_,rfl⟩;rw [hR] at hN ⊢;have HR:=Afj hN;clear hN hm' hR;have HB:=Afj hbf;clear hbf;go_enter func81,ntmps81;by_cases h0:m=0
 ·subst h0;have hE:(((k+0:Nat):Int) == (k:Int))=true:=by simp
  go_wp2_with (first
   | (go_at_call 36;refine hP.mono ?_;rintro e w' ⟨rfl,rfl⟩)
   | (go_at_call 29;refine hB.mono ?_;rintro e w1 ⟨rfl,hb⟩))
  go_ret3
  rw [HR.out];exact ⟨rfl,hb⟩
 ·have hE:(((k+m:Nat):Int) == (k:Int))=false:=beq_eq_false_iff_ne.2 (by omega);have hS:IntKind.i64.wrap (((k+m:Nat):Int) - (k:Int))=(m:Int):=by rw [Afx _ (by omega)];omega
  by_cases h9:9 < m
  ·have h9':(9:Int) < (m:Int):=by omega
   go_wp2_with (first
    | (go_at_call 36;refine hP.mono ?_;rintro e w' ⟨rfl,rfl⟩)
    | (go_at_call 29;refine hB.mono ?_;rintro e w1 ⟨rfl,hb⟩))
   go_ret3
   rw [HR.out,if_neg h0,if_pos h9];exact ⟨rfl,hb⟩
  ·have h9':¬ (9:Int) < (m:Int):=by omega
   have hDl:=Cl s k (k+m);rw [show k+m - k=m by omega] at hDl;have hDs:(s.extract k (k+m)).size=m:=by simp;omega
   obtain ⟨D,hD⟩:∃ D,s.extract k (k+m)=D:=⟨_,rfl⟩;rw [hD] at hDl hDs;go_wp2_with (first
    | (go_at_call 36;refine hP.mono ?_;rintro e w' ⟨rfl,rfl⟩)
    | (go_at_call 29;refine hB.mono ?_;rintro e w1 ⟨rfl,hb⟩))
   go_loopg [8,10] m (fun g n _ wx=>∃ i:Nat,i+g=m∧n=.int .i64 (EQ (D.data.toList.take i):Nat)∧wx=w1.iter D i)
   case atStart=>exact ⟨0,by omega,rfl,rfl⟩
   case round=>
    obtain ⟨i,hig,rfl,rfl⟩:=hrel;cases gk with
    | zero=>
     obtain rfl:i=m:=by omega
     have hnx:=fun ty=>run_next_end (P:=prog) w1 D i ty (by omega)
     go_wp2
     go_ret3
     refine ⟨?_,hb.alloc hb.size _⟩;rw [HR.out,if_neg h0,if_neg h9,←hDl,List.take_of_length_le (by rw [←Ae,hDs];exact Afq _)];rfl
    | succ g=>
     have hi:i < D.size:=by omega
     have hx:D.data.toList[i]?=some D[i]:=Lib.data_getElem? D i hi;have hdig:A7.contains D[i]=true:=HB.out i D[i] (by omega) (by rw [hDl,List.getElem?_take_of_lt (by omega)] at hx;exact hx);rw [DT] at hdig;simp only [Af9,decide_eq_true_eq] at hdig;have hnx:=fun ty=>run_next_ascii (P:=prog) w1 D i ty hi (by omega)
     have hlt:EQ (D.data.toList.take i) < 1000000000:=by
      refine Px _ (fun b hb=>?_) (by rw [List.length_take];omega);obtain ⟨j,hj,he⟩:=List.mem_iff_getElem.1 hb;rw [List.length_take] at hj;have hj2:j < D.data.toList.length:=by omega
      refine HB.out j b (by omega) ?_;have h3:D.data.toList[j]?=some b:=by rw [Af4 hj2,←he,List.getElem_take]
      rw [hDl,List.getElem?_take_of_lt (by omega)] at h3;exact h3
     have Hn:=Afj (show EQ (D.data.toList.take (i+1))=EQ (D.data.toList.take i) * 10+(D[i].toNat - 48) by
      rw [List.take_add_one,hx,Option.toList_some,Pv])
     obtain ⟨v,hv⟩:∃ v,EQ (D.data.toList.take i)=v:=⟨_,rfl⟩;rw [hv] at hlt Hn ⊢;clear hx hv;have W1:IntKind.i64.wrap (10 * (v:Int))=10 * (v:Int):=Afx _ (by omega)
     go_wp2
     go_roundg g
     case measure=>omega
     case rel=>
      refine ⟨i+1,by omega,?_,rfl⟩;rw [Hn.out];exact congrArg (Value.int .i64) (by omega)
def Blk (w:World) (a:Nat) (cs:Array Value) (T:TypeId):Prop:=w.heap[a]?=some (.cells cs T)
theorem Blk.lt {w:World} {a:Nat} {cs:Array Value} {T:TypeId} (h:Blk w a cs T):a < w.heap.size:=(Af6.1 h).1
theorem Blk.cell {w:World} {a:Nat} {cs:Array Value} {T:TypeId} (h:Blk w a cs T) (j:Nat):w.cell? ⟨a,j,none⟩=cs[j]?:=by
 unfold Blk at h;simp [World.cell?,h]
theorem Blk.frozen {w:World} {a:Nat} {cs:Array Value} {T:TypeId} (h:Blk w a cs T) (j:Nat):w.frozen? ⟨a,j,none⟩=false:=by
 unfold Blk at h;simp [World.frozen?,h]
theorem Blk.set {w:World} {a:Nat} {cs:Array Value} {T:TypeId} (h:Blk w a cs T) (j:Nat) (v:Value):Blk (w.setCell ⟨a,j,none⟩ v) a (cs.setIfInBounds j v) T:=by
 unfold Blk at h ⊢;simp only [World.setCell,Array.getElem?_modify,if_true,h];rfl
theorem Blk.set_other {w:World} {a:Nat} {cs:Array Value} {T:TypeId} (h:Blk w a cs T) (p:Addr) (hp:p.block≠a) (v:Value):Blk (w.setCell p v) a cs T:=by
 unfold Blk at h ⊢;rw [Afw _ _ _ _ (fun e=>hp e.symm)];exact h
theorem Blk.new (w:World) (cs:Array Value) (T:TypeId) (a:Nat) (ha:a=w.heap.size):Blk (w.alloc (.cells cs T)) a cs T:=by
 subst ha;show (w.heap.push _)[w.heap.size]?=_;rw [Array.getElem?_push_size]
theorem Blk.alloc {w:World} {a:Nat} {cs:Array Value} {T:TypeId} (h:Blk w a cs T) (o:Obj):Blk (w.alloc o) a cs T:=by
 have:=h.lt;unfold Blk at h ⊢;rw [Below.heap_alloc _ _ _ this];exact h
theorem Blk.drew {w:World} {a:Nat} {cs:Array Value} {T:TypeId} (h:Blk w a cs T):Blk w.drew a cs T:=h
theorem Blk.drewN {w:World} {a:Nat} {cs:Array Value} {T:TypeId} (h:Blk w a cs T) (n:Nat):Blk (w.drewN n) a cs T:=h
theorem Blk.below {w w':World} {B a:Nat} {cs:Array Value} {T:TypeId} (h:Blk w a cs T) (hb:Below B w w') (ha:a < B):Blk w' a cs T:=by
 unfold Blk at h ⊢;rw [hb.block a ha];exact h
end
section
open Go
variable {P:Program} (w:World)
theorem Jc (base:Nat) (t ty e:TypeId) (i:TypeInfo) (ht:P.underlying t=some (.slice e)) (hi:P.info? e=some i) (size:Nat) (v:Value) (n:Nat) (xs:List Value) (hown:w.ownsRow base e size v n xs) (a:Option Addr) (c:Nat) :
  (Builtin.append_ #[t,t] ty #[v,.slice a 0 c]).run P w=.ok v w:=by
 rcases hown.2 with ⟨rfl,rfl⟩ | ⟨g,cap,cur,rfl,_,_,hn,_⟩
 ·cases a <;> simp [Builtin.append_,run_underlying ht,sizeOf,typeInfo,hi,Builtin.lenOf,Builtin.firstCells,loadCells,loadCellsFrom]
 ·cases a <;> simp [Builtin.append_,run_underlying ht,sizeOf,typeInfo,hi,Builtin.lenOf,Builtin.firstCells,loadCells,loadCellsFrom,hn,storeCells]
theorem El (base:Nat) (t ty e:TypeId) (i:TypeInfo) (z:Value) (size bytes:Nat) (ht:P.underlying t=some (.slice e)) (hi:P.info? e=some i) (hz:i.zero=some z)
  (hsize:i.size=size) (hby:i.bytes=bytes) (hzs:z.cells.size=size) (hsz:0 < size)
  (v:Value) (n:Nat) (xs:List Value) (hown:w.ownsRow base e size v n xs)
  (oa:Option Addr) (m c:Nat) (news:List Value) (hl:news.length=m * size) (hnews:0 < m→∃ a,oa=some a∧∀ j u,news[j]?=some u→w.cell? (a.add j)=some u) (h1:∀ u∈news,u.oneCell'=true)
  (h63:n+m≤maxLen) (hbytes:(n+m) * bytes≤140737488355328) (hbase:base≤w.heap.size) :
  ∃ v' w',(Builtin.append_ #[t,t] ty #[v,.slice oa m c]).run P w=.ok v' w'∧w'.ownsRow base e size v' (n+m) (xs++news)∧w.grownBy w' v.ownBlock∧
   (v'.ownBlock=v.ownBlock∨v'.ownBlock=some w.heap.size):=by
 by_cases hm:m=0
 ·subst hm;have hn:news=[]:=List.eq_nil_of_length_eq_zero (by simpa using hl);subst hn;refine ⟨v,w,Jc w base t ty e i ht hi size v n xs hown oa c,?_,⟨rfl,rfl,rfl,Afq _,fun _ _ _=>rfl⟩,.inl rfl⟩;rw [List.append_nil];exact hown
 ·obtain ⟨a,rfl,hc⟩:=hnews (by omega);obtain ⟨v',w',h2,h3,h4,_,h5⟩:=run_append_own_at (P:=P) w base t ty e i z size bytes ht hi hz hsize hby hzs hsz v n xs hown a m c news hl hc h1 h63 hbytes hbase;exact ⟨v',w',h2,h3,h4,h5⟩
theorem Ag {ops:Array Oper} {rest:List Oper} {o:Oper} {a:Act} {Q:Exit→Act→World→Prop} (hgd:o.guard=none) (s x:Operand) (t:TypeId)
  (ho:o.op=.call { callee:=.builtin .append,args:=#[s,x],argTypes:=#[t,t] })
  (base:Nat) (e:TypeId) (i:TypeInfo) (z:Value) (size bytes:Nat) (ht:P.underlying t=some (.slice e)) (hi:P.info? e=some i) (hz:i.zero=some z)
  (hsize:i.size=size) (hby:i.bytes=bytes) (hzs:z.cells.size=size) (hsz:0 < size)
  (v:Value) (n:Nat) (xs:List Value) (hs:a.eval s=v) (hown:w.ownsRow base e size v n xs)
  (oa:Option Addr) (m c:Nat) (news:List Value) (hx:a.eval x=.slice oa m c) (hl:news.length=m * size) (hnews:0 < m→∃ a,oa=some a∧∀ j u,news[j]?=some u→w.cell? (a.add j)=some u) (h1:∀ u∈news,u.oneCell'=true)
  (h63:n+m≤maxLen) (hbytes:(n+m) * bytes≤140737488355328) (hbase:base≤w.heap.size)
  (h:∀ v' w',w'.ownsRow base e size v' (n+m) (xs++news)→w.grownBy w' v.ownBlock→(v'.ownBlock=v.ownBlock∨v'.ownBlock=some w.heap.size)→wpList P ops Q rest (a.put o.dst v') w') :
  wpList P ops Q (o :: rest) a w:=by
 refine wpList_plain hgd fun K hK=>?_
 obtain ⟨v',w',hr,h2,h3,h4⟩:=El (P:=P) w base t o.type e i z size bytes ht hi hz hsize hby hzs hsz v n xs hown oa m c news hl hnews h1 h63 hbytes hbase;unfold Oper.wp execOp;simp only [ho,resolve,invoke,builtin,Sem.run_bind,Sem.run_pure,Result.andThen_ok,List.map_toArray,List.map_cons,List.map_nil,hs,hx,hr];exact hK _ _ (h v' w' h2 h3 h4)
end
section
open Go
variable {P:Program}
theorem By {ops:Array Oper} {o:Oper} {a:Act} {w:World} {K:Act→World→Prop} {Q:Exit→Act→World→Prop} {E:Prop} (hgd:o.guard=none) (g:Operand) (xs:List Operand) (ts:Array TypeId)
  (ho:o.op=.call { callee:=.value g,args:=xs.toArray,argTypes:=ts }) (f:Nat) (vs:List Value) (hg:a.eval g=.func (.func f) #[] #[]) (hv:xs.map a.eval=vs) (eg:∀ args w,(callFunc f args).run P w=.ok (.enter f args) w)
  {R:Ending→World→Prop} (hC:Calls P f vs.toArray w R) (h:∀ e w',R e w'→∃ v,e=.returned v∧K (a.put o.dst v) w'):if Region.wanted o (yielded ops a.tmps)=true then Oper.wp P o a w K Q else E:=by
 rw [if_pos (by simp [Region.wanted,hgd])];have hE:(execOp a.eval o).run P w=.ok (.enter f vs.toArray) w:=by
  unfold execOp;simp only [ho,resolve,hg,List.map_toArray,hv];simp [go_sem,invoke,eg]
 unfold Oper.wp;rw [hE,Oper.upon_enter];refine hC.mono ?_;intro e w' hr;obtain ⟨v,rfl,hk⟩:=h e w' hr;exact hk
end
section
open Go Go.RowKit
structure Other (B:Nat) (C:Nat→Prop) (W W':World):Prop where
 os:W'.os=W.os
 tape:W'.tape=W.tape
 output:W'.output=W.output
 size:W.heap.size≤W'.heap.size
 block:∀ k,k < W.heap.size→(k < B∨C k)→W'.heap[k]?=W.heap[k]?
structure Rdn (n₀ B:Nat) (C C':Nat→Prop) (W W':World):Prop where
 size:W.heap.size≤W'.heap.size
 block:∀ k,k < W.heap.size→(k < n₀∨(B≤k∧¬ C k))→W'.heap[k]?=W.heap[k]?
 new:∀ k,C' k→C k∨(W.heap.size≤k∧k < W'.heap.size)
theorem Other.refl (B:Nat) (C:Nat→Prop) (W:World):Other B C W W:=⟨rfl,rfl,rfl,Afq _,fun _ _ _=>rfl⟩
theorem Other.trans {B:Nat} {C:Nat→Prop} {X Y Z:World} (h:Other B C X Y) (k:Other B C Y Z):Other B C X Z:=
 ⟨k.os.trans h.os,k.tape.trans h.tape,k.output.trans h.output,Afr h.size k.size,fun i hi hc=>(k.block i (Aft hi h.size) hc).trans (h.block i hi hc)⟩
theorem Other.drew {B:Nat} {C:Nat→Prop} {X Y:World} (h:Other B C X Y):Other B C X Y.drew:=⟨h.os,h.tape,h.output,h.size,h.block⟩
theorem Other.alloc {B:Nat} {C:Nat→Prop} {X Y:World} (h:Other B C X Y) (o:Obj):Other B C X (Y.alloc o):=
 h.trans ⟨rfl,rfl,rfl,by simp,fun k hk _=>Below.heap_alloc _ _ _ hk⟩
theorem Other.setCell {B:Nat} {C:Nat→Prop} {X Y:World} (h:Other B C X Y) {p:Addr} (hp:B≤p.block) (hc:¬ C p.block) (u:Value):Other B C X (Y.setCell p u):=
 h.trans ⟨rfl,rfl,rfl,by simp [World.setCell],fun k _ hk=>Afw _ _ _ _ (fun e=>by subst e;rcases hk with hk | hk <;> first | omega | exact hc hk)⟩
theorem Other.grown {B:Nat} {C:Nat→Prop} {X Y Z:World} {row:Option Nat} (h:Other B C X Y) (hg:Y.grownBy Z row) (hr:∀ k,row=some k→B≤k∧¬ C k):Other B C X Z:=
 h.trans ⟨hg.os,hg.tape,hg.output,hg.size,fun k hk hc=>hg.block k hk (fun e=>by have:=hr k e.symm;rcases hc with hc | hc <;> first | omega | exact this.2 hc)⟩
theorem Other.mono {B B':Nat} {C:Nat→Prop} {X Y:World} (h:Other B C X Y) (hB:B'≤B):Other B' C X Y:=
 ⟨h.os,h.tape,h.output,h.size,fun k hk hc=>h.block k hk (hc.elim (fun h=>.inl (Aft h hB)) .inr)⟩
theorem Other.none {B:Nat} {C:Nat→Prop} {X Y:World} (h:Other B C X Y):Other B (fun _=>False) X Y:=
 ⟨h.os,h.tape,h.output,h.size,fun k hk hc=>h.block k hk (.inl (hc.elim id False.elim))⟩
theorem Other.below {B:Nat} {C:Nat→Prop} {X Y:World} (h:Other B C X Y) (hB:B≤X.heap.size):Below B X Y:=
 ⟨h.os,h.tape,h.output,h.size,fun k hk=>h.block k (by omega) (.inl hk)⟩
theorem Other.of_below {B:Nat} {C:Nat→Prop} {X Y:World} (h:Below X.heap.size X Y):Other B C X Y:=
 ⟨h.os,h.tape,h.output,h.size,fun k hk _=>h.block k hk⟩
theorem Other.putObj {B:Nat} {C:Nat→Prop} (W:World) {k:Nat} (hk:B≤k) (hc:¬ C k) (o:Obj):Other B C W (W.putObj k o):=
 ⟨rfl,rfl,rfl,by simp,fun i _ hi=>World.putObj_heap_other (fun e=>by subst e;rcases hi with h | h <;> first | omega | exact hc h)⟩
def Aa6 {α:Type} (P:Program) (g:Nat) (lb:Array Value) (n₀:Nat) (Ok:List α→α→Array Value→(Nat→Prop)→Nat→World→Prop) (All:List α→Prop) (w:World):Prop:=
 ∀ (l m:Nat) (J:List α→(Nat→Prop)→World→Prop) (Jx:World→Prop) (W:World),Below w.heap.size w W→
  (∀ pre C X Y,J pre C X→Other W.heap.size C X Y→J pre C Y)→
  (∀ X Y,Jx X→Other W.heap.size (fun _=>False) X Y→Jx Y)→
  (∀ pre x args C X,J pre C X→Ok pre x args C W.heap.size X→YieldAt Fence.wide m P l args X fun e Y=>
   (e=.returned (.bool true)∧∃ C',J (pre++[x]) C' Y∧Rdn n₀ W.heap.size C C' X Y)∨(e=.returned (.bool false)∧Jx Y∧Rdn n₀ W.heap.size C C X Y))→
  J [] (fun _=>False) W→
  Calls P g (#[.func (.yield l) #[] #[]]++lb) W fun e Y=>(∃ v,e=.returned v)∧((∃ xs C,All xs∧J xs C Y)∨Jx Y)
def Abt {α:Type} (n₀ B:Nat) (C:Nat→Prop) (I:List α→(Nat→Prop)→World→Prop) (Ix:Code→World→Prop) (xs:List α) (W:World):Exit→Act→World→Prop
 | .normal,_,W'=>∃ C',Rdn n₀ B C C' W W'∧I xs C' W'
 | .ret,_,W'=>Rdn n₀ B C C W W'∧Ix .ret W'
 | .exit id,_,W'=>Rdn n₀ B C C W W'∧Ix (.exit id) W'
 | .goto t,_,W'=>Rdn n₀ B C C W W'∧Ix (.goto t) W'
 | .panic _,_,_=>False
 | .outgrown,_,_=>False
variable {P:Program} {n:Nat}
theorem FE {α:Type} {g:Operand} {ps:Array Tmp} {assign body:Code} {Q:Exit→Act→World→Prop} {a:Act} {w w0:World} {gf n₀:Nat} {lb:Array Value}
  {Ok:List α→α→Array Value→(Nat→Prop)→Nat→World→Prop} {All:List α→Prop}
  (hg:a.eval g=.func (.func gf) #[] lb) (eg:∀ args w,(callFunc gf args).run P w=.ok (.enter gf args) w)
  (hseq:Aa6 P gf lb n₀ Ok All w0) (hb0:Below w0.heap.size w0 w) (hn₀:n₀≤w.heap.size)
  (hps:∀ pre x args C b W,Ok pre x args C b W→args.size=ps.size)
  (hOk:∀ pre x args C b W k o,Ok pre x args C b W→n₀≤k→k < b→Ok pre x args C b (W.putObj k o))
  (I:List α→(Nat→Prop)→World→Prop) (Ix:Code→World→Prop)
  (hI:∀ pre C X Y,I pre C X→Other w.heap.size C X Y→I pre C Y)
  (hIx:∀ c X Y,Ix c X→Other w.heap.size (fun _=>False) X Y→Ix c Y)
  (h0:I [] (fun _=>False) w)
  (hround:∀ (l:Nat) (pre:List α) (x:α) (args:Array Value) (C:Nat→Prop) (W:World),I pre C W→Ok pre x args C (w.heap.size+2) W→
   (∀ k,C k→w.heap.size+2≤k)→w.heap.size+2≤W.heap.size→
   assign.wpIn (Fence.wide.inRound l) n P (Exit.then (fun a₁ W₁=>W₁=W∧∀ W,I pre C W→Ok pre x args C (w.heap.size+2) W→w.heap.size+2≤W.heap.size→body.wpIn (Fence.wide.inRound l) n P (Abt n₀ w.heap.size C I Ix (pre++[x]) W) a₁ W) (fun _ _ _=>False))
    { tmps:=(ps.zip args).foldl (fun t (p,v)=>t.setIfInBounds p v) a.tmps,defers:=[] } W)
  (hdone:∀ (xs:List α) (C:Nat→Prop) (W:World),All xs→I xs C W→W.heap[w.heap.size]?=some (.deferred (some []))→Q .normal { a with defers:={ target:=.collected w.heap.size,args:=#[] } :: a.defers } W)
  (hstop:∀ (c:Code) (W:World),Ix c W→W.heap[w.heap.size]?=some (.deferred (some []))→c.wpIn Fence.wide n P Q { a with defers:={ target:=.collected w.heap.size,args:=#[] } :: a.defers } W) :
  (Code.rangeFunc g ps assign body).wpIn Fence.wide n P Q a w:=by
 refine wpIn_rangeFunc fun fn hfn=>?_
 generalize hD:w.heap.size=D at *
 -- the record, in its states
 obtain ⟨rec,hrec⟩:∃ rec:LoopState→Option Code→Loop,rec=fun st pe=>{ state:=st,pending:=pe,fn,tmps:=a.tmps,params:=ps,assign,body,defers:=D }:=⟨_,rfl⟩
 obtain ⟨V,hV⟩:∃ V,(w.alloc (.deferred (some []))).alloc (.loop (rec .ready none))=V:=⟨_,rfl⟩;have hVs:V.heap.size=D+2:=by rw [←hV];simp [hD]
 have hVl:V.heap[D+1]?=some (.loop (rec .ready none)):=by
  have h:=World.alloc_heap_new (w.alloc (.deferred (some []))) (.loop (rec .ready none));rw [World.size_alloc,hD,hV] at h;exact h
 have hVd:V.heap[D]?=some (.deferred (some [])):=by
  have h:=World.alloc_heap_new w (.deferred (some []));rw [hD] at h;rw [←hV,Below.heap_alloc _ _ _ (by simp [hD])];exact h
 have hVb:Below w.heap.size w V:=by
  rw [←hV];exact ((Afv _ w).alloc (Afq _) _).alloc (by simp) _
 have hVo:Other D (fun _=>False) w V:=Other.of_below hVb;refine ⟨D+1,[{ target:=.collected D,args:=#[] }],V,{ target:=.fn (.func gf) lb,args:=#[.func (.yield (D+1)) #[] #[]] },V,gf,#[.func (.yield (D+1)) #[] #[]]++lb,V,?_,?_,fun _ _=>trivial,?_,fun h=>by simp [Fence.wide] at h,?_⟩
 ·have h:=run_enterLoop_outer (P:=P) (w:=w) fn a.tmps ps assign body;rw [hD] at h;rw [←hV,hrec];exact h
 ·simp only [resolve,hg];simp [go_sem]
 ·simp [invoke,go_sem,eg]
 refine callsIn_wide.2 ((hseq (D+1) n
  (fun pre C W=>I pre C W∧(∀ k,C k→D+2≤k)∧D+2≤W.heap.size∧W.heap[D+1]?=some (.loop (rec .ready none))∧W.heap[D]?=some (.deferred (some [])))
  (fun W=>∃ c,Ix c W∧D+2≤W.heap.size∧W.heap[D+1]?=some (.loop (rec .done (some c)))∧W.heap[D]?=some (.deferred (some [])))
  V (hb0.trans (hVb.mono hb0.size)) ?_ ?_ ?_ ⟨hI _ _ _ _ h0 hVo,fun k h=>h.elim,by omega,hVl,hVd⟩).mono ?_)
 ·rintro pre C X Y ⟨h1,h2,h3,h4,h5⟩ ho;exact ⟨hI _ _ _ _ h1 (ho.mono (by omega)),h2,Afr h3 ho.size,(ho.block _ (by omega) (.inl (by omega))).trans h4,(ho.block _ (by omega) (.inl (by omega))).trans h5⟩
 ·rintro X Y ⟨c,h1,h3,h4,h5⟩ ho;exact ⟨c,hIx _ _ _ h1 (ho.mono (by omega)),Afr h3 ho.size,(ho.block _ (by omega) (.inl (by omega))).trans h4,(ho.block _ (by omega) (.inl (by omega))).trans h5⟩
 ·-- one round
  rintro pre x args C X ⟨h1,h2,h3,h4,h5⟩ hok;rw [hVs] at hok ⊢;have hy:=run_yield (P:=P) (args:=args) h4 (by rw [hrec];exact hps _ _ _ _ _ _ hok);rw [hrec] at hy;refine ⟨fn,_,assign,body,hy,roundIn_of_wpIn hfn (wpIn_mono (hround (D+1) pre x args C X h1 hok h2 h3) ?_)⟩;intro e a₁ W₁ hq;cases e with
  | normal=>
   obtain ⟨rfl,hb⟩:=hq;have hc1:¬ C (D+1):=fun h=>by have:=h2 _ h;omega
   have hc0:¬ C D:=fun h=>by have:=h2 _ h;omega
   refine ⟨_,run_beginRound h4 (by rw [hrec]),?_⟩;have hbusy:(W₁.putObj (D+1) (.loop { rec .ready none with state:=.busy })).heap[D+1]?=some (.loop { rec .ready none with state:=.busy }):=World.putObj_heap_same (by omega);have hdef:(W₁.putObj (D+1) (.loop { rec .ready none with state:=.busy })).heap[D]?=some (.deferred (some [])):=(World.putObj_heap_other (by omega)).trans h5;refine wpIn_mono (hb (W₁.putObj (D+1) (.loop { rec .ready none with state:=.busy })) (hI _ _ _ _ h1 (Other.putObj _ (by omega) hc1 _)) (hOk _ _ _ _ _ _ _ _ hok (by omega) (by omega)) (by simpa using h3)) ?_;have fin:∀ (jump:Option Code) (C':Nat→Prop) (W3:World),Rdn n₀ D C C' (W₁.putObj (D+1) (.loop { rec .ready none with state:=.busy })) W3→
     ∃ W4,W4=W3.putObj (D+1) (.loop (rec (if jump.isNone then .ready else .done) jump))∧(Instr.endRound (D+1) jump).run P W3=.ok (.bool jump.isNone) W4∧
     (∀ C,(¬ C (D+1))→Other D C W3 W4)∧W4.heap[D+1]?=some (.loop (rec (if jump.isNone then .ready else .done) jump))∧W4.heap[D]?=some (.deferred (some []))∧D+2≤W4.heap.size∧Rdn n₀ (D+2) C C' W₁ W4:=by
    intro jump C' W3 hr;have hl3:W3.heap[D+1]?=some (.loop { rec .ready none with state:=.busy }):=(hr.block _ (by simp;omega) (.inr ⟨by omega,hc1⟩)).trans hbusy;have hd3:W3.heap[D]?=some (.deferred (some [])):=(hr.block _ (by simp;omega) (.inr ⟨by omega,hc0⟩)).trans hdef;have hs:=hr.size;rw [World.putObj_size] at hs;have hrun:=run_endRound (P:=P) jump hl3;rw [hrec] at hrun ⊢;refine ⟨_,rfl,hrun,fun C hC=>Other.putObj _ (by omega) hC _,World.putObj_heap_same (by omega),(World.putObj_heap_other (by omega)).trans hd3,by simp;omega,⟨by simp;omega,fun k hk hkc=>?_,fun k hk=>(hr.new k hk).elim .inl (fun h=>.inr (by simpa using h))⟩⟩;have hne:k≠D+1:=by
     rcases hkc with h | h <;> omega
    rw [World.putObj_heap_other hne,hr.block k (by simpa using hk) (hkc.elim .inl (fun h=>.inr ⟨by omega,h.2⟩)),World.putObj_heap_other hne]
   rintro e a3 W3 hp;cases e with
   | normal=>
    obtain ⟨C',hr,hi⟩:=hp;obtain ⟨W4,_,hrun,ho,hl,hd,hs,hr4⟩:=fin none C' W3 hr;have hC':∀ k,C' k→D+2≤k:=fun k hk=>(hr.new k hk).elim (h2 k) (fun h=>by have:=h.1;simp at this;omega)
    exact ⟨_,_,hrun,.inl ⟨rfl,C',⟨hI _ _ _ _ hi (ho C' (fun h=>by have:=hC' _ h;omega)),hC',hs,hl,hd⟩,hr4⟩⟩
   | ret=>
    obtain ⟨hr,hi⟩:=hp;obtain ⟨W4,_,hrun,ho,hl,hd,hs,hr4⟩:=fin (some .ret) C W3 hr;exact ⟨_,_,hrun,.inr ⟨rfl,⟨.ret,hIx _ _ _ hi (ho _ (fun h=>h)),hs,hl,hd⟩,hr4⟩⟩
   | exit id=>
    obtain ⟨hr,hi⟩:=hp;obtain ⟨W4,_,hrun,ho,hl,hd,hs,hr4⟩:=fin (some (.exit id)) C W3 hr;exact ⟨_,_,hrun,.inr ⟨rfl,⟨.exit id,hIx _ _ _ hi (ho _ (fun h=>h)),hs,hl,hd⟩,hr4⟩⟩
   | goto t=>
    obtain ⟨hr,hi⟩:=hp;obtain ⟨W4,_,hrun,ho,hl,hd,hs,hr4⟩:=fin (some (.goto t)) C W3 hr;exact ⟨_,_,hrun,.inr ⟨rfl,⟨.goto t,hIx _ _ _ hi (ho _ (fun h=>h)),hs,hl,hd⟩,hr4⟩⟩
   | panic ch=>exact hp.elim
   | outgrown=>exact hp.elim
  | exit id=>exact hq.elim
  | goto t=>exact hq.elim
  | ret=>exact hq.elim
  | panic ch=>exact hq.elim
  | outgrown=>exact hq.elim
 ·-- behind the iterator
  rintro e Y ⟨⟨v,rfl⟩,⟨xs,C,hA,h1,h2,h3,h4,h5⟩ | ⟨c,h1,h3,h4,h5⟩⟩
  ·have hrun:=run_endLoop (P:=P) h4 (by rw [hrec];simp);rw [hrec] at hrun;exact ⟨none,_,hrun,hdone xs C _ hA (hI _ _ _ _ h1 (Other.putObj _ (by omega) (fun h=>by have:=h2 _ h;omega) _)) ((World.putObj_heap_other (by omega)).trans h5)⟩
  ·have hrun:=run_endLoop (P:=P) h4 (by rw [hrec];simp);rw [hrec] at hrun;exact ⟨some c,_,hrun,hstop c _ (hIx _ _ _ h1 (Other.putObj _ (by omega) (fun h=>h) _)) ((World.putObj_heap_other (by omega)).trans h5)⟩
end
section
def rep (c:Nat):Nat→Nat
 | 0=>0
 | k+1=>c+256 * rep c k
def f1 (b:Nat):Nat:=(b / 2 &&& 85)+(b &&& 85)
def f2 (b:Nat):Nat:=(b / 4 &&& 51)+(b &&& 51)
def f3 (b:Nat):Nat:=b / 16+b % 16
end
section
open Go.RowKit
theorem FF {a b:Bool} (h:a=b):Ending.returned (.bool a)=.returned (.bool b):=by rw [h]
theorem Ha {k:IntKind} {a b:Int} (h:a=b):Ending.returned (.int k a)=.returned (.int k b):=by rw [h]
theorem Abu:IntKind.u64.max=18446744073709551615:=by decide
theorem RO (s:OSet) (x:Int) (h0:0≤x) (h1:x≤255) (w:World) :
  Calls prog 160 #[.agg #[.int .u64 (ow s 0),.int .u64 (ow s 1),.int .u64 (ow s 2),.int .u64 (ow s 3)],.int .u8 x] w fun e w'=>e=.returned (.bool (ohas s x.toNat))∧Below w.heap.size w w':=by
 have hq:x / 64=0∨x / 64=1∨x / 64=2∨x / 64=3:=by omega
 rcases hq with hq | hq | hq | hq
 all_goals
  have H:=Y9 s _ x h0 h1 hq;have K:=Afj H;clear H;go_enter func160,ntmps160
  go_wp2
  go_ret;exact ⟨FF K.out,(Afv _ _).alloc (Afq _) _⟩
theorem Gf (s:OSet) (w:World) :
  Calls prog 135 #[.agg #[.int .u64 (ow s 0),.int .u64 (ow s 1),.int .u64 (ow s 2),.int .u64 (ow s 3)]] w fun e w'=>e=.returned (.agg #[.int .u64 (ow (~~~s) 0),.int .u64 (ow (~~~s) 1),.int .u64 (ow (~~~s) 2),.int .u64 (ow (~~~s) 3)])∧Below w.heap.size w w':=by
 have k0:=E6 s 0 (by decide);have k1:=E6 s 1 (by decide);have k2:=E6 s 2 (by decide);have k3:=E6 s 3 (by decide);rw [←Abu] at k0 k1 k2 k3;go_enter func135,ntmps135
 go_wp2
 refine wp_loop_rounds 5 ?_
 iterate 5 (rw [rounds_succ];go_wp2)
 refine bodyPost_ret (v:=.agg #[.int .u64 (ow (~~~s) 0),.int .u64 (ow (~~~s) 1),.int .u64 (ow (~~~s) 2),.int .u64 (ow (~~~s) 3)]) (by simp [results,results135,go_sem]) rfl ⟨rfl,?_⟩;exact ((Afv _ _).alloc (Afq _) _).alloc (by simp) _
theorem YJ (s t:OSet) (w:World) :
  Calls prog 180 #[.agg #[.int .u64 (ow s 0),.int .u64 (ow s 1),.int .u64 (ow s 2),.int .u64 (ow s 3)],.agg #[.int .u64 (ow t 0),.int .u64 (ow t 1),.int .u64 (ow t 2),.int .u64 (ow t 3)]] w fun e w'=>e=.returned (.agg #[.int .u64 (ow (s &&& t) 0),.int .u64 (ow (s &&& t) 1),.int .u64 (ow (s &&& t) 2),.int .u64 (ow (s &&& t) 3)])∧Below w.heap.size w w':=by
 have k0:=E5 s t 0;have k1:=E5 s t 1;have k2:=E5 s t 2;have k3:=E5 s t 3;go_enter func180,ntmps180
 go_wp2
 refine wp_loop_rounds 5 ?_
 iterate 4 (rw [rounds_succ];go_wp2;go_region;go_wp2)
 rw [rounds_succ]
 go_wp2
 refine bodyPost_ret (v:=.agg #[.int .u64 (ow (s &&& t) 0),.int .u64 (ow (s &&& t) 1),.int .u64 (ow (s &&& t) 2),.int .u64 (ow (s &&& t) 3)]) (by simp [results,results180,go_sem]) rfl ⟨rfl,?_⟩
 repeat (first | exact Afv _ _ | refine Agb ?_ | refine Agc ?_ (by simp <;> omega) _)
theorem DK (s t:OSet) (w:World) :
  Calls prog 159 #[.agg #[.int .u64 (ow s 0),.int .u64 (ow s 1),.int .u64 (ow s 2),.int .u64 (ow s 3)],.agg #[.int .u64 (ow t 0),.int .u64 (ow t 1),.int .u64 (ow t 2),.int .u64 (ow t 3)]] w fun e w'=>e=.returned (.agg #[.int .u64 (ow (s ||| t) 0),.int .u64 (ow (s ||| t) 1),.int .u64 (ow (s ||| t) 2),.int .u64 (ow (s ||| t) 3)])∧Below w.heap.size w w':=by
 have k0:=Fg s t 0;have k1:=Fg s t 1;have k2:=Fg s t 2;have k3:=Fg s t 3;go_enter func159,ntmps159
 go_wp2
 refine wp_loop_rounds 5 ?_
 iterate 4 (rw [rounds_succ];go_wp2;go_region;go_wp2)
 rw [rounds_succ]
 go_wp2
 refine bodyPost_ret (v:=.agg #[.int .u64 (ow (s ||| t) 0),.int .u64 (ow (s ||| t) 1),.int .u64 (ow (s ||| t) 2),.int .u64 (ow (s ||| t) 3)]) (by simp [results,results159,go_sem]) rfl ⟨rfl,?_⟩
 repeat (first | exact Afv _ _ | refine Agb ?_ | refine Agc ?_ (by simp <;> omega) _)
theorem KR (w:World) (n:Nat) (a:Addr) (u:Value):(w.drewN n).setCell a u=(w.setCell a u).drewN n:=rfl
theorem Vg (x:Int) (_h0:0≤x):IntKind.u64.wrap (2 ^ (x % 64).toNat)=2 ^ (x % 64).toNat:=by
 have h1:(x % 64).toNat < 64:=by omega
 have h2:(2:Int) ^ (x % 64).toNat < 2 ^ 64:=Int.pow_lt_pow_of_lt (by decide) h1;have h3:(0:Int)≤2 ^ (x % 64).toNat:=Int.le_of_lt (Int.pow_pos (by decide));rw [IntKind.wrap_u64];exact Int.emod_eq_of_lt h3 h2
theorem KS (s:OSet) (i:Nat) (x:Int) (h0:0≤x) (h1:x≤255) (hi:x / 64=i):bits .or .u64 (ow s i) (IntKind.u64.wrap (2 ^ (x % 64).toNat))=ow (s ||| G3 x.toNat) i:=by
 rw [Vg x h0];exact Nz s i x h0 h1 hi
theorem RP (s:OSet) (x:Int) (h0:0≤x) (h1:x≤255) (n p:Nat) (v:World) (hp:p=v.heap.size) :
  Calls prog 150 #[.pointer (some ⟨p,0,none⟩),.int .u8 x] ((v.alloc (.cells #[.int .u64 (ow s 0),.int .u64 (ow s 1),.int .u64 (ow s 2),.int .u64 (ow s 3)] 108)).drewN n) fun e w'=>e=.returned (.tuple #[])∧
   (v.alloc (.cells #[.int .u64 (ow (s ||| G3 x.toNat) 0),.int .u64 (ow (s ||| G3 x.toNat) 1),.int .u64 (ow (s ||| G3 x.toNat) 2),.int .u64 (ow (s ||| G3 x.toNat) 3)] 108)).drewN (n+1)=w':=by
 subst hp;have hq:x / 64=0∨x / 64=1∨x / 64=2∨x / 64=3:=by omega
 rcases hq with hq | hq | hq | hq
 all_goals
  have k:=KS s _ x h0 h1 hq;have p0:=Afj (GT s 0 x h0 h1);have p1:=Afj (GT s 1 x h0 h1);have p2:=Afj (GT s 2 x h0 h1);have p3:=Afj (GT s 3 x h0 h1);go_enter func150,ntmps150
  go_wp2
  go_region
  go_wp2
  go_end0;refine ⟨rfl,?_⟩;rw [KR,World.setCell_alloc_at _ _ _ _ _ rfl];first | rw [p0.out (by omega)] | skip
  first | rw [p1.out (by omega)] | skip
  first | rw [p2.out (by omega)] | skip
  first | rw [p3.out (by omega)] | skip
  rfl
theorem P2 (zs:List Int) (b o cap:Nat) (w:World) (hb:b < w.heap.size) (hm:zs.length≤maxLen)
  (hc:∀ i,i < zs.length→w.cell? ⟨b,o+i,none⟩=some (.int .u8 (zs.getD i 0))) (hr:∀ i,0≤zs.getD i 0∧zs.getD i 0≤255) :
  Calls prog 136 #[.slice (some ⟨b,o,none⟩) zs.length cap] w fun e w'=>e=.returned (.agg #[.int .u64 (ow (DE zs) 0),.int .u64 (ow (DE zs) 1),.int .u64 (ow (DE zs) 2),.int .u64 (ow (DE zs) 3)])∧Below w.heap.size w w':=by
 unfold maxLen at hm;have Hc:=Afj hc;clear hc;have Hr:=Afj hr;clear hr;go_enter func136,ntmps136
 go_wp2
 go_loopw [8] (fun i wr=>∃ k n:Nat,k≤zs.length∧i=.int .i64 k∧wr=((w.alloc (.cells #[.int .u64 0,.int .u64 0,.int .u64 0,.int .u64 0] 108)).alloc (.cells #[.int .u64 (ow (DE (zs.take k)) 0),.int .u64 (ow (DE (zs.take k)) 1),.int .u64 (ow (DE (zs.take k)) 2),.int .u64 (ow (DE (zs.take k)) 3)] 108)).drewN n) (fun i _=>zs.length - (intOf i).toNat)
 case atStart=>exact ⟨0,0,Nat.zero_le _,rfl,by rw [World.drewN_zero,List.take_zero,YB,Ap,Ap,Ap,Ap]⟩
 case round=>
  obtain ⟨k,n,hk,rfl,rfl⟩:=hrel;by_cases hlt:k < zs.length
  ·have hcell:=Hc.out k hlt;have hrk:=Hr.out k;have hsn0:=Vb zs k hlt;generalize zs.getD k 0=z at hcell hrk hsn0;have hsn:=Afj hsn0;clear hsn0;go_wp2_with (go_at_call 150;refine (RP _ _ hrk.1 hrk.2 _ _ _ (by simp)).mono ?_;rintro e w' ⟨rfl,rfl⟩)
   go_roundw
   case rel=>exact ⟨k+1,n+1,by omega,by go_num,by rw [hsn.out]⟩
   case measure=>simp [intOf];omega
  ·go_wp2
   have hkz:=Afj (show zs.take k=zs from List.take_of_length_le (by omega));refine bodyPost_ret (v:=.agg #[.int .u64 (ow (DE (zs.take k)) 0),.int .u64 (ow (DE (zs.take k)) 1),.int .u64 (ow (DE (zs.take k)) 2),.int .u64 (ow (DE (zs.take k)) 3)]) (by simp [results,results136,go_sem]) rfl ⟨by rw [hkz.out],?_⟩
   repeat (first | exact Afv _ _ | refine Agb ?_ | refine below_drewN ?_ _ | refine Aga ?_ (by simp <;> omega) _ | refine Agc ?_ (by simp <;> omega) _)
theorem EU (lo hi:Int) (w:World) (h0:0≤lo) (h1:lo≤255) (h2:0≤hi) (h3:hi≤255) :
  Calls prog 177 #[.int .u8 lo,.int .u8 hi] w fun e w'=>e=.returned (.agg #[.int .u64 (ow (Ac lo hi) 0),.int .u64 (ow (Ac lo hi) 1),.int .u64 (ow (Ac lo hi) 2),.int .u64 (ow (Ac lo hi) 3)])∧Below w.heap.size w w':=by
 go_enter func177,ntmps177
 go_wp2
 go_loopw [13] (fun i wr=>∃ k n:Nat,k≤(hi - lo+1).toNat∧i=.int .i64 k∧wr=((w.alloc (.cells #[.int .u64 0,.int .u64 0,.int .u64 0,.int .u64 0] 108)).alloc (.cells #[.int .u64 (ow (CZ lo.toNat k) 0),.int .u64 (ow (CZ lo.toNat k) 1),.int .u64 (ow (CZ lo.toNat k) 2),.int .u64 (ow (CZ lo.toNat k) 3)] 108)).drewN n) (fun i _=>256 - (intOf i).toNat)
 case atStart=>exact ⟨0,0,Nat.zero_le _,rfl,by rw [World.drewN_zero,CZ,Ap,Ap,Ap,Ap]⟩
 case round=>
  obtain ⟨k,n,hk,rfl,rfl⟩:=hrel;by_cases hlt:(k:Int) < hi - lo+1
  ·go_wp2_with (go_at_call 150;refine (RP _ _ (by omega) (by omega) _ _ _ (by simp)).mono ?_;rintro e w' ⟨rfl,rfl⟩)
   have hsn:CZ lo.toNat (k+1)=CZ lo.toNat k ||| G3 (lo+k).toNat:=by
    rw [CZ,show lo.toNat+k=(lo+k).toNat by omega]
   go_roundw
   case rel=>exact ⟨k+1,n+1,by omega,by go_num,by rw [hsn]⟩
   case measure=>simp [intOf];omega
  ·have hkz:=Afj (show Ac lo hi=CZ lo.toNat k from by unfold Ac;rw [show (hi - lo+1).toNat=k by omega])
   go_wp2
   refine bodyPost_ret (v:=.agg #[.int .u64 (ow (CZ lo.toNat k) 0),.int .u64 (ow (CZ lo.toNat k) 1),.int .u64 (ow (CZ lo.toNat k) 2),.int .u64 (ow (CZ lo.toNat k) 3)]) (by simp [results,results177,go_sem]) rfl ⟨by rw [hkz.out],?_⟩
   repeat (first | exact Afv _ _ | refine Agb ?_ | refine below_drewN ?_ _ | refine Aga ?_ (by simp <;> omega) _ | refine Agc ?_ (by simp <;> omega) _)
def oc (s:OSet):Array Value:=#[.int .u64 (ow s 0),.int .u64 (ow s 1),.int .u64 (ow s 2),.int .u64 (ow s 3)]
theorem En {w:World} {a:Nat} {s:OSet} {T:TypeId} (h:Blk w a (oc s) T) :
  w.cell? ⟨a,0,none⟩=some (.int .u64 (ow s 0))∧w.cell? ⟨a,1,none⟩=some (.int .u64 (ow s 1))∧w.cell? ⟨a,2,none⟩=some (.int .u64 (ow s 2))∧w.cell? ⟨a,3,none⟩=some (.int .u64 (ow s 3)):=
 ⟨by rw [h.cell];rfl,by rw [h.cell];rfl,by rw [h.cell];rfl,by rw [h.cell];rfl⟩
theorem JC {w:World} {a:Nat} {s:OSet} {T:TypeId} (h:Blk w a (oc s) T) (t:OSet) :
  Blk ((((w.setCell ⟨a,0,none⟩ (.int .u64 (ow t 0))).setCell ⟨a,1,none⟩ (.int .u64 (ow t 1))).setCell ⟨a,2,none⟩ (.int .u64 (ow t 2))).setCell ⟨a,3,none⟩ (.int .u64 (ow t 3))) a (oc t) T:=by
 have:=(((h.set 0 (.int .u64 (ow t 0))).set 1 (.int .u64 (ow t 1))).set 2 (.int .u64 (ow t 2))).set 3 (.int .u64 (ow t 3));exact this
theorem Ai {w:World} {a:Nat} {T:TypeId} (h:Blk w a #[.int .u64 0,.int .u64 0,.int .u64 0,.int .u64 0] T) :
  w.cell? ⟨a,0,none⟩=some (.int .u64 0)∧w.cell? ⟨a,1,none⟩=some (.int .u64 0)∧w.cell? ⟨a,2,none⟩=some (.int .u64 0)∧w.cell? ⟨a,3,none⟩=some (.int .u64 0):=
 ⟨by rw [h.cell];rfl,by rw [h.cell];rfl,by rw [h.cell];rfl,by rw [h.cell];rfl⟩
def Dc:OSet:=Ac 97 122
def Dd:OSet:=Ac 65 90
def Cc:OSet:=Ac 48 57
def De:OSet:=Ac 33 126
def Df:OSet:=Dc ||| Dd
def Dg:OSet:=Df ||| Cc
def Dh:OSet:=DE [32,9]
def YK:OSet:=Cc ||| Ac 65 70 ||| Ac 97 102
def Abv:OSet:=Dh ||| Ac 10 13
def Abw:OSet:=Ac 0 31 ||| DE [127]
def Abx:OSet:=Ac 32 126
def Aby:OSet:=De &&& ~~~Dg
def A8 (l:List UInt8):OSet:=
 bif l == [108,111,119,101,114] then Dc else bif l == [117,112,112,101,114] then Dd else bif l == [97,108,112,104,97] then Df
 else bif l == [100,105,103,105,116] then Cc else bif l == [97,108,110,117,109] then Dg else bif l == [120,100,105,103,105,116] then YK
 else bif l == [98,108,97,110,107] then Dh else bif l == [115,112,97,99,101] then Abv else bif l == [99,110,116,114,108] then Abw
 else bif l == [112,114,105,110,116] then Abx else bif l == [103,114,97,112,104] then De else bif l == [112,117,110,99,116] then Aby else oz
def CN (l:List UInt8):Bool:=
 l == [108,111,119,101,114] || l == [117,112,112,101,114] || l == [97,108,112,104,97] || l == [100,105,103,105,116] || l == [97,108,110,117,109] || l == [120,100,105,103,105,116]
 || l == [98,108,97,110,107] || l == [115,112,97,99,101] || l == [99,110,116,114,108] || l == [112,114,105,110,116] || l == [103,114,97,112,104] || l == [112,117,110,99,116]
theorem CI (x:Int) (h0:0≤x) (h1:x≤255) (W:World) (p:Nat) (hp:p=W.heap.size) :
  Calls prog 136 #[.slice (some ⟨p,0,none⟩) 1 1] (W.alloc (.cells #[.int .u8 x] 5)) fun e w'=>e=.returned (.agg #[.int .u64 (ow (DE [x]) 0),.int .u64 (ow (DE [x]) 1),.int .u64 (ow (DE [x]) 2),.int .u64 (ow (DE [x]) 3)])∧Below W.heap.size W w':=by
 refine (P2 [x] p 0 1 _ (by subst hp;simp) (by simp [maxLen]) (fun i hi=>?_) (fun i=>?_)).mono ?_
 ·rw [(Blk.new W _ _ _ hp).cell]
  match i,hi with
  | 0,_=>rfl
 ·match i with
  | 0=>exact ⟨h0,h1⟩
  | _+1=>simp
 ·rintro e w' ⟨rfl,hb⟩;exact ⟨rfl,((Afv _ _).alloc (Afq _) _).trans (hb.mono (by simp))⟩
theorem Abz (x y:Int) (h0:0≤x) (h1:x≤255) (h2:0≤y) (h3:y≤255) (W:World) (p:Nat) (hp:p=W.heap.size) :
  Calls prog 136 #[.slice (some ⟨p,0,none⟩) 2 2] (W.alloc (.cells #[.int .u8 x,.int .u8 y] 5)) fun e w'=>e=.returned (.agg #[.int .u64 (ow (DE [x,y]) 0),.int .u64 (ow (DE [x,y]) 1),.int .u64 (ow (DE [x,y]) 2),.int .u64 (ow (DE [x,y]) 3)])∧Below W.heap.size W w':=by
 refine (P2 [x,y] p 0 2 _ (by subst hp;simp) (by simp [maxLen]) (fun i hi=>?_) (fun i=>?_)).mono ?_
 ·rw [(Blk.new W _ _ _ hp).cell]
  match i,hi with
  | 0,_=>rfl
  | 1,_=>rfl
 ·match i with
  | 0=>exact ⟨h0,h1⟩
  | 1=>exact ⟨h2,h3⟩
  | _+2=>simp
 ·rintro e w' ⟨rfl,hb⟩;exact ⟨rfl,((Afv _ _).alloc (Afq _) _).trans (hb.mono (by simp))⟩
theorem Lk (w:World) :
  Calls prog 172 #[] w fun e w'=>e=.returned (.agg #[.int .u64 (ow Dc 0),.int .u64 (ow Dc 1),.int .u64 (ow Dc 2),.int .u64 (ow Dc 3)])∧Below w.heap.size w w':=by
 have hB:=Blk.new w #[.int .u64 0,.int .u64 0,.int .u64 0,.int .u64 0] 108 _ rfl;have hW:=(Afv w.heap.size w).alloc (Afq _) (.cells #[.int .u64 0,.int .u64 0,.int .u64 0,.int .u64 0] 108);go_enter func172,ntmps172;go_wp2_with (first | (go_at_call 177;refine (EU 97 122 _ (by decide) (by decide) (by decide) (by decide)).mono ?_;rintro e w1 ⟨rfl,b1⟩;replace hW:=Below.trans hW (b1.mono hW.size);replace hB:=Blk.below hB b1 (Blk.lt hB);have f0:=hB.frozen 0;have f1:=hB.frozen 1;have f2:=hB.frozen 2;have f3:=hB.frozen 3;obtain ⟨d0,d1,d2,d3⟩:=Ai hB;have hs:=hB.lt))
 refine bodyPost_ret (v:=.agg #[.int .u64 (ow (Ac 97 122) 0),.int .u64 (ow (Ac 97 122) 1),.int .u64 (ow (Ac 97 122) 2),.int .u64 (ow (Ac 97 122) 3)]) (by simp [results,results172,go_sem,d0,d1,d2,d3]) rfl ⟨rfl,?_⟩;repeat (first | exact hW | refine Aga ?_ (by simp) _)
theorem Ll (w:World) :
  Calls prog 173 #[] w fun e w'=>e=.returned (.agg #[.int .u64 (ow Dd 0),.int .u64 (ow Dd 1),.int .u64 (ow Dd 2),.int .u64 (ow Dd 3)])∧Below w.heap.size w w':=by
 have hB:=Blk.new w #[.int .u64 0,.int .u64 0,.int .u64 0,.int .u64 0] 108 _ rfl;have hW:=(Afv w.heap.size w).alloc (Afq _) (.cells #[.int .u64 0,.int .u64 0,.int .u64 0,.int .u64 0] 108);go_enter func173,ntmps173;go_wp2_with (first | (go_at_call 177;refine (EU 65 90 _ (by decide) (by decide) (by decide) (by decide)).mono ?_;rintro e w1 ⟨rfl,b1⟩;replace hW:=Below.trans hW (b1.mono hW.size);replace hB:=Blk.below hB b1 (Blk.lt hB);have f0:=hB.frozen 0;have f1:=hB.frozen 1;have f2:=hB.frozen 2;have f3:=hB.frozen 3;obtain ⟨d0,d1,d2,d3⟩:=Ai hB;have hs:=hB.lt))
 refine bodyPost_ret (v:=.agg #[.int .u64 (ow (Ac 65 90) 0),.int .u64 (ow (Ac 65 90) 1),.int .u64 (ow (Ac 65 90) 2),.int .u64 (ow (Ac 65 90) 3)]) (by simp [results,results173,go_sem,d0,d1,d2,d3]) rfl ⟨rfl,?_⟩;repeat (first | exact hW | refine Aga ?_ (by simp) _)
theorem Lm (w:World) :
  Calls prog 175 #[] w fun e w'=>e=.returned (.agg #[.int .u64 (ow Cc 0),.int .u64 (ow Cc 1),.int .u64 (ow Cc 2),.int .u64 (ow Cc 3)])∧Below w.heap.size w w':=by
 have hB:=Blk.new w #[.int .u64 0,.int .u64 0,.int .u64 0,.int .u64 0] 108 _ rfl;have hW:=(Afv w.heap.size w).alloc (Afq _) (.cells #[.int .u64 0,.int .u64 0,.int .u64 0,.int .u64 0] 108);go_enter func175,ntmps175;go_wp2_with (first | (go_at_call 177;refine (EU 48 57 _ (by decide) (by decide) (by decide) (by decide)).mono ?_;rintro e w1 ⟨rfl,b1⟩;replace hW:=Below.trans hW (b1.mono hW.size);replace hB:=Blk.below hB b1 (Blk.lt hB);have f0:=hB.frozen 0;have f1:=hB.frozen 1;have f2:=hB.frozen 2;have f3:=hB.frozen 3;obtain ⟨d0,d1,d2,d3⟩:=Ai hB;have hs:=hB.lt))
 refine bodyPost_ret (v:=.agg #[.int .u64 (ow (Ac 48 57) 0),.int .u64 (ow (Ac 48 57) 1),.int .u64 (ow (Ac 48 57) 2),.int .u64 (ow (Ac 48 57) 3)]) (by simp [results,results175,go_sem,d0,d1,d2,d3]) rfl ⟨rfl,?_⟩;repeat (first | exact hW | refine Aga ?_ (by simp) _)
theorem SW (w:World) :
  Calls prog 179 #[] w fun e w'=>e=.returned (.agg #[.int .u64 (ow De 0),.int .u64 (ow De 1),.int .u64 (ow De 2),.int .u64 (ow De 3)])∧Below w.heap.size w w':=by
 have hB:=Blk.new w #[.int .u64 0,.int .u64 0,.int .u64 0,.int .u64 0] 108 _ rfl;have hW:=(Afv w.heap.size w).alloc (Afq _) (.cells #[.int .u64 0,.int .u64 0,.int .u64 0,.int .u64 0] 108);go_enter func179,ntmps179;go_wp2_with (first | (go_at_call 177;refine (EU 33 126 _ (by decide) (by decide) (by decide) (by decide)).mono ?_;rintro e w1 ⟨rfl,b1⟩;replace hW:=Below.trans hW (b1.mono hW.size);replace hB:=Blk.below hB b1 (Blk.lt hB);have f0:=hB.frozen 0;have f1:=hB.frozen 1;have f2:=hB.frozen 2;have f3:=hB.frozen 3;obtain ⟨d0,d1,d2,d3⟩:=Ai hB;have hs:=hB.lt))
 refine bodyPost_ret (v:=.agg #[.int .u64 (ow (Ac 33 126) 0),.int .u64 (ow (Ac 33 126) 1),.int .u64 (ow (Ac 33 126) 2),.int .u64 (ow (Ac 33 126) 3)]) (by simp [results,results179,go_sem,d0,d1,d2,d3]) rfl ⟨rfl,?_⟩;repeat (first | exact hW | refine Aga ?_ (by simp) _)
theorem SX (w:World) :
  Calls prog 178 #[] w fun e w'=>e=.returned (.agg #[.int .u64 (ow Dh 0),.int .u64 (ow Dh 1),.int .u64 (ow Dh 2),.int .u64 (ow Dh 3)])∧Below w.heap.size w w':=by
 have hB:=Blk.new w #[.int .u64 0,.int .u64 0,.int .u64 0,.int .u64 0] 108 _ rfl;have hW:=(Afv w.heap.size w).alloc (Afq _) (.cells #[.int .u64 0,.int .u64 0,.int .u64 0,.int .u64 0] 108);go_enter func178,ntmps178;go_wp2_with (first | (go_at_call 136;refine (Abz 32 9 (by decide) (by decide) (by decide) (by decide) _ _ (by simp)).mono ?_;rintro e w1 ⟨rfl,b1⟩;replace hW:=Below.trans hW (b1.mono hW.size);replace hB:=Blk.below hB b1 (Blk.lt hB);have f0:=hB.frozen 0;have f1:=hB.frozen 1;have f2:=hB.frozen 2;have f3:=hB.frozen 3;obtain ⟨d0,d1,d2,d3⟩:=Ai hB;have hs:=hB.lt))
 refine bodyPost_ret (v:=.agg #[.int .u64 (ow (DE [32,9]) 0),.int .u64 (ow (DE [32,9]) 1),.int .u64 (ow (DE [32,9]) 2),.int .u64 (ow (DE [32,9]) 3)]) (by simp [results,results178,go_sem,d0,d1,d2,d3]) rfl ⟨rfl,?_⟩;repeat (first | exact hW | refine Aga ?_ (by simp) _)
theorem Ln (w:World) :
  Calls prog 174 #[] w fun e w'=>e=.returned (.agg #[.int .u64 (ow Df 0),.int .u64 (ow Df 1),.int .u64 (ow Df 2),.int .u64 (ow Df 3)])∧Below w.heap.size w w':=by
 have hB:=Blk.new w #[.int .u64 0,.int .u64 0,.int .u64 0,.int .u64 0] 108 _ rfl;have hW:=(Afv w.heap.size w).alloc (Afq _) (.cells #[.int .u64 0,.int .u64 0,.int .u64 0,.int .u64 0] 108);go_enter func174,ntmps174;go_wp2_with (first | (go_at_call 172;refine (Lk _).mono ?_;rintro e w1 ⟨rfl,b1⟩;replace hW:=Below.trans hW (b1.mono hW.size);replace hB:=Blk.below hB b1 (Blk.lt hB);have f0:=hB.frozen 0;have f1:=hB.frozen 1;have f2:=hB.frozen 2;have f3:=hB.frozen 3;obtain ⟨d0,d1,d2,d3⟩:=Ai hB;have hs:=hB.lt) | (go_at_call 173;refine (Ll _).mono ?_;rintro e w1 ⟨rfl,b1⟩;replace hW:=Below.trans hW (b1.mono hW.size);replace hB:=Blk.below hB b1 (Blk.lt hB);have f0:=hB.frozen 0;have f1:=hB.frozen 1;have f2:=hB.frozen 2;have f3:=hB.frozen 3;obtain ⟨d0,d1,d2,d3⟩:=Ai hB;have hs:=hB.lt) | (go_at_call 159;refine (DK _ _ _).mono ?_;rintro e w1 ⟨rfl,b1⟩;replace hW:=Below.trans hW (b1.mono hW.size);replace hB:=Blk.below hB b1 (Blk.lt hB);have f0:=hB.frozen 0;have f1:=hB.frozen 1;have f2:=hB.frozen 2;have f3:=hB.frozen 3;obtain ⟨d0,d1,d2,d3⟩:=Ai hB;have hs:=hB.lt))
 refine bodyPost_ret (v:=.agg #[.int .u64 (ow (Dc ||| Dd) 0),.int .u64 (ow (Dc ||| Dd) 1),.int .u64 (ow (Dc ||| Dd) 2),.int .u64 (ow (Dc ||| Dd) 3)]) (by simp [results,results174,go_sem,d0,d1,d2,d3]) rfl ⟨rfl,?_⟩;repeat (first | exact hW | refine Aga ?_ (by simp) _)
theorem SY (w:World) :
  Calls prog 176 #[] w fun e w'=>e=.returned (.agg #[.int .u64 (ow Dg 0),.int .u64 (ow Dg 1),.int .u64 (ow Dg 2),.int .u64 (ow Dg 3)])∧Below w.heap.size w w':=by
 have hB:=Blk.new w #[.int .u64 0,.int .u64 0,.int .u64 0,.int .u64 0] 108 _ rfl;have hW:=(Afv w.heap.size w).alloc (Afq _) (.cells #[.int .u64 0,.int .u64 0,.int .u64 0,.int .u64 0] 108);go_enter func176,ntmps176;go_wp2_with (first | (go_at_call 174;refine (Ln _).mono ?_;rintro e w1 ⟨rfl,b1⟩;replace hW:=Below.trans hW (b1.mono hW.size);replace hB:=Blk.below hB b1 (Blk.lt hB);have f0:=hB.frozen 0;have f1:=hB.frozen 1;have f2:=hB.frozen 2;have f3:=hB.frozen 3;obtain ⟨d0,d1,d2,d3⟩:=Ai hB;have hs:=hB.lt) | (go_at_call 175;refine (Lm _).mono ?_;rintro e w1 ⟨rfl,b1⟩;replace hW:=Below.trans hW (b1.mono hW.size);replace hB:=Blk.below hB b1 (Blk.lt hB);have f0:=hB.frozen 0;have f1:=hB.frozen 1;have f2:=hB.frozen 2;have f3:=hB.frozen 3;obtain ⟨d0,d1,d2,d3⟩:=Ai hB;have hs:=hB.lt) | (go_at_call 159;refine (DK _ _ _).mono ?_;rintro e w1 ⟨rfl,b1⟩;replace hW:=Below.trans hW (b1.mono hW.size);replace hB:=Blk.below hB b1 (Blk.lt hB);have f0:=hB.frozen 0;have f1:=hB.frozen 1;have f2:=hB.frozen 2;have f3:=hB.frozen 3;obtain ⟨d0,d1,d2,d3⟩:=Ai hB;have hs:=hB.lt))
 refine bodyPost_ret (v:=.agg #[.int .u64 (ow (Df ||| Cc) 0),.int .u64 (ow (Df ||| Cc) 1),.int .u64 (ow (Df ||| Cc) 2),.int .u64 (ow (Df ||| Cc) 3)]) (by simp [results,results176,go_sem,d0,d1,d2,d3]) rfl ⟨rfl,?_⟩;repeat (first | exact hW | refine Aga ?_ (by simp) _)
theorem C0 {s t:OSet} {b c:Bool} (h:s=t) (h2:b=c):Ending.returned (.tuple #[.agg #[.int .u64 (ow s 0),.int .u64 (ow s 1),.int .u64 (ow s 2),.int .u64 (ow s 3)],.bool b])=.returned (.tuple #[.agg #[.int .u64 (ow t 0),.int .u64 (ow t 1),.int .u64 (ow t 2),.int .u64 (ow t 3)],.bool c]):=by rw [h,h2]
theorem Lo (s:ByteArray) (w:World) :
  Calls prog 166 #[.string s] w fun e w'=>e=.returned (.tuple #[.agg #[.int .u64 (ow (A8 s.toList) 0),.int .u64 (ow (A8 s.toList) 1),.int .u64 (ow (A8 s.toList) 2),.int .u64 (ow (A8 s.toList) 3)],.bool (CN s.toList)])∧Below w.heap.size w w':=by
 have hB:=Blk.new w #[.int .u64 0,.int .u64 0,.int .u64 0,.int .u64 0] 108 _ rfl;have hW:=(Afv w.heap.size w).alloc (Afq _) (.cells #[.int .u64 0,.int .u64 0,.int .u64 0,.int .u64 0] 108);go_enter func166,ntmps166;go_wp2_with (first | (go_at_call 172;refine (Lk _).mono ?_;rintro e w1 ⟨rfl,b1⟩;replace hW:=Below.trans hW (b1.mono hW.size);replace hB:=Blk.below hB b1 (Blk.lt hB);have f0:=hB.frozen 0;have f1:=hB.frozen 1;have f2:=hB.frozen 2;have f3:=hB.frozen 3;obtain ⟨d0,d1,d2,d3⟩:=Ai hB;have hs:=hB.lt) | (go_at_call 173;refine (Ll _).mono ?_;rintro e w1 ⟨rfl,b1⟩;replace hW:=Below.trans hW (b1.mono hW.size);replace hB:=Blk.below hB b1 (Blk.lt hB);have f0:=hB.frozen 0;have f1:=hB.frozen 1;have f2:=hB.frozen 2;have f3:=hB.frozen 3;obtain ⟨d0,d1,d2,d3⟩:=Ai hB;have hs:=hB.lt) | (go_at_call 174;refine (Ln _).mono ?_;rintro e w1 ⟨rfl,b1⟩;replace hW:=Below.trans hW (b1.mono hW.size);replace hB:=Blk.below hB b1 (Blk.lt hB);have f0:=hB.frozen 0;have f1:=hB.frozen 1;have f2:=hB.frozen 2;have f3:=hB.frozen 3;obtain ⟨d0,d1,d2,d3⟩:=Ai hB;have hs:=hB.lt) | (go_at_call 175;refine (Lm _).mono ?_;rintro e w1 ⟨rfl,b1⟩;replace hW:=Below.trans hW (b1.mono hW.size);replace hB:=Blk.below hB b1 (Blk.lt hB);have f0:=hB.frozen 0;have f1:=hB.frozen 1;have f2:=hB.frozen 2;have f3:=hB.frozen 3;obtain ⟨d0,d1,d2,d3⟩:=Ai hB;have hs:=hB.lt) | (go_at_call 176;refine (SY _).mono ?_;rintro e w1 ⟨rfl,b1⟩;replace hW:=Below.trans hW (b1.mono hW.size);replace hB:=Blk.below hB b1 (Blk.lt hB);have f0:=hB.frozen 0;have f1:=hB.frozen 1;have f2:=hB.frozen 2;have f3:=hB.frozen 3;obtain ⟨d0,d1,d2,d3⟩:=Ai hB;have hs:=hB.lt) | (go_at_call 178;refine (SX _).mono ?_;rintro e w1 ⟨rfl,b1⟩;replace hW:=Below.trans hW (b1.mono hW.size);replace hB:=Blk.below hB b1 (Blk.lt hB);have f0:=hB.frozen 0;have f1:=hB.frozen 1;have f2:=hB.frozen 2;have f3:=hB.frozen 3;obtain ⟨d0,d1,d2,d3⟩:=Ai hB;have hs:=hB.lt) | (go_at_call 179;refine (SW _).mono ?_;rintro e w1 ⟨rfl,b1⟩;replace hW:=Below.trans hW (b1.mono hW.size);replace hB:=Blk.below hB b1 (Blk.lt hB);have f0:=hB.frozen 0;have f1:=hB.frozen 1;have f2:=hB.frozen 2;have f3:=hB.frozen 3;obtain ⟨d0,d1,d2,d3⟩:=Ai hB;have hs:=hB.lt) | (go_at_call 177;refine (EU _ _ _ (by decide) (by decide) (by decide) (by decide)).mono ?_;rintro e w1 ⟨rfl,b1⟩;replace hW:=Below.trans hW (b1.mono hW.size);replace hB:=Blk.below hB b1 (Blk.lt hB);have f0:=hB.frozen 0;have f1:=hB.frozen 1;have f2:=hB.frozen 2;have f3:=hB.frozen 3;obtain ⟨d0,d1,d2,d3⟩:=Ai hB;have hs:=hB.lt) | (go_at_call 136;refine (CI 127 (by decide) (by decide) _ _ (by simp)).mono ?_;rintro e w1 ⟨rfl,b1⟩;replace hW:=Below.trans hW (b1.mono hW.size);replace hB:=Blk.below hB b1 (Blk.lt hB);have f0:=hB.frozen 0;have f1:=hB.frozen 1;have f2:=hB.frozen 2;have f3:=hB.frozen 3;obtain ⟨d0,d1,d2,d3⟩:=Ai hB;have hs:=hB.lt) | (go_at_call 159;refine (DK _ _ _).mono ?_;rintro e w1 ⟨rfl,b1⟩;replace hW:=Below.trans hW (b1.mono hW.size);replace hB:=Blk.below hB b1 (Blk.lt hB);have f0:=hB.frozen 0;have f1:=hB.frozen 1;have f2:=hB.frozen 2;have f3:=hB.frozen 3;obtain ⟨d0,d1,d2,d3⟩:=Ai hB;have hs:=hB.lt) | (go_at_call 180;refine (YJ _ _ _).mono ?_;rintro e w1 ⟨rfl,b1⟩;replace hW:=Below.trans hW (b1.mono hW.size);replace hB:=Blk.below hB b1 (Blk.lt hB);have f0:=hB.frozen 0;have f1:=hB.frozen 1;have f2:=hB.frozen 2;have f3:=hB.frozen 3;obtain ⟨d0,d1,d2,d3⟩:=Ai hB;have hs:=hB.lt) | (go_at_call 135;refine (Gf _ _).mono ?_;rintro e w1 ⟨rfl,b1⟩;replace hW:=Below.trans hW (b1.mono hW.size);replace hB:=Blk.below hB b1 (Blk.lt hB);have f0:=hB.frozen 0;have f1:=hB.frozen 1;have f2:=hB.frozen 2;have f3:=hB.frozen 3;obtain ⟨d0,d1,d2,d3⟩:=Ai hB;have hs:=hB.lt))
 ·refine bodyPost_ret (v:=.tuple #[.agg #[.int .u64 (ow Dc 0),.int .u64 (ow Dc 1),.int .u64 (ow Dc 2),.int .u64 (ow Dc 3)],.bool true]) (by simp [results,results166,go_sem,d0,d1,d2,d3]) rfl ⟨C0 (by simp only [A8,cond_true, *] <;> rfl) (by simp [CN, *]),?_⟩
  repeat (first | exact hW | refine Aga ?_ (by simp) _)
 ·refine bodyPost_ret (v:=.tuple #[.agg #[.int .u64 (ow Dd 0),.int .u64 (ow Dd 1),.int .u64 (ow Dd 2),.int .u64 (ow Dd 3)],.bool true]) (by simp [results,results166,go_sem,d0,d1,d2,d3]) rfl ⟨C0 (by simp only [A8,cond_true,cond_false, *] <;> rfl) (by simp [CN, *]),?_⟩
  repeat (first | exact hW | refine Aga ?_ (by simp) _)
 ·refine bodyPost_ret (v:=.tuple #[.agg #[.int .u64 (ow Df 0),.int .u64 (ow Df 1),.int .u64 (ow Df 2),.int .u64 (ow Df 3)],.bool true]) (by simp [results,results166,go_sem,d0,d1,d2,d3]) rfl ⟨C0 (by simp only [A8,cond_true,cond_false, *] <;> rfl) (by simp [CN, *]),?_⟩
  repeat (first | exact hW | refine Aga ?_ (by simp) _)
 ·refine bodyPost_ret (v:=.tuple #[.agg #[.int .u64 (ow Cc 0),.int .u64 (ow Cc 1),.int .u64 (ow Cc 2),.int .u64 (ow Cc 3)],.bool true]) (by simp [results,results166,go_sem,d0,d1,d2,d3]) rfl ⟨C0 (by simp only [A8,cond_true,cond_false, *] <;> rfl) (by simp [CN, *]),?_⟩
  repeat (first | exact hW | refine Aga ?_ (by simp) _)
 ·refine bodyPost_ret (v:=.tuple #[.agg #[.int .u64 (ow Dg 0),.int .u64 (ow Dg 1),.int .u64 (ow Dg 2),.int .u64 (ow Dg 3)],.bool true]) (by simp [results,results166,go_sem,d0,d1,d2,d3]) rfl ⟨C0 (by simp only [A8,cond_true,cond_false, *] <;> rfl) (by simp [CN, *]),?_⟩
  repeat (first | exact hW | refine Aga ?_ (by simp) _)
 ·refine bodyPost_ret (v:=.tuple #[.agg #[.int .u64 (ow (Cc ||| Ac 65 70 ||| Ac 97 102) 0),.int .u64 (ow (Cc ||| Ac 65 70 ||| Ac 97 102) 1),.int .u64 (ow (Cc ||| Ac 65 70 ||| Ac 97 102) 2),.int .u64 (ow (Cc ||| Ac 65 70 ||| Ac 97 102) 3)],.bool true]) (by simp [results,results166,go_sem,d0,d1,d2,d3]) rfl ⟨C0 (by simp only [A8,cond_true,cond_false, *] <;> rfl) (by simp [CN, *]),?_⟩
  repeat (first | exact hW | refine Aga ?_ (by simp) _)
 ·refine bodyPost_ret (v:=.tuple #[.agg #[.int .u64 (ow Dh 0),.int .u64 (ow Dh 1),.int .u64 (ow Dh 2),.int .u64 (ow Dh 3)],.bool true]) (by simp [results,results166,go_sem,d0,d1,d2,d3]) rfl ⟨C0 (by simp only [A8,cond_true,cond_false, *] <;> rfl) (by simp [CN, *]),?_⟩
  repeat (first | exact hW | refine Aga ?_ (by simp) _)
 ·refine bodyPost_ret (v:=.tuple #[.agg #[.int .u64 (ow (Dh ||| Ac 10 13) 0),.int .u64 (ow (Dh ||| Ac 10 13) 1),.int .u64 (ow (Dh ||| Ac 10 13) 2),.int .u64 (ow (Dh ||| Ac 10 13) 3)],.bool true]) (by simp [results,results166,go_sem,d0,d1,d2,d3]) rfl ⟨C0 (by simp only [A8,cond_true,cond_false, *] <;> rfl) (by simp [CN, *]),?_⟩
  repeat (first | exact hW | refine Aga ?_ (by simp) _)
 ·refine bodyPost_ret (v:=.tuple #[.agg #[.int .u64 (ow (Ac 0 31 ||| DE [127]) 0),.int .u64 (ow (Ac 0 31 ||| DE [127]) 1),.int .u64 (ow (Ac 0 31 ||| DE [127]) 2),.int .u64 (ow (Ac 0 31 ||| DE [127]) 3)],.bool true]) (by simp [results,results166,go_sem,d0,d1,d2,d3]) rfl ⟨C0 (by simp only [A8,cond_true,cond_false, *] <;> rfl) (by simp [CN, *]),?_⟩
  repeat (first | exact hW | refine Aga ?_ (by simp) _)
 ·refine bodyPost_ret (v:=.tuple #[.agg #[.int .u64 (ow (Ac 32 126) 0),.int .u64 (ow (Ac 32 126) 1),.int .u64 (ow (Ac 32 126) 2),.int .u64 (ow (Ac 32 126) 3)],.bool true]) (by simp [results,results166,go_sem,d0,d1,d2,d3]) rfl ⟨C0 (by simp only [A8,cond_true,cond_false, *] <;> rfl) (by simp [CN, *]),?_⟩
  repeat (first | exact hW | refine Aga ?_ (by simp) _)
 ·refine bodyPost_ret (v:=.tuple #[.agg #[.int .u64 (ow De 0),.int .u64 (ow De 1),.int .u64 (ow De 2),.int .u64 (ow De 3)],.bool true]) (by simp [results,results166,go_sem,d0,d1,d2,d3]) rfl ⟨C0 (by simp only [A8,cond_true,cond_false, *] <;> rfl) (by simp [CN, *]),?_⟩
  repeat (first | exact hW | refine Aga ?_ (by simp) _)
 ·refine bodyPost_ret (v:=.tuple #[.agg #[.int .u64 (ow (De &&& ~~~Dg) 0),.int .u64 (ow (De &&& ~~~Dg) 1),.int .u64 (ow (De &&& ~~~Dg) 2),.int .u64 (ow (De &&& ~~~Dg) 3)],.bool true]) (by simp [results,results166,go_sem,d0,d1,d2,d3]) rfl ⟨C0 (by simp only [A8,cond_true,cond_false, *] <;> rfl) (by simp [CN, *]),?_⟩
  repeat (first | exact hW | refine Aga ?_ (by simp) _)
 ·refine bodyPost_ret (v:=.tuple #[.agg #[.int .u64 (ow oz 0),.int .u64 (ow oz 1),.int .u64 (ow oz 2),.int .u64 (ow oz 3)],.bool false]) (by simp [results,results166,go_sem,Ap]) rfl ⟨C0 (by simp only [A8,cond_false, *] <;> rfl) (by simp [CN, *]),?_⟩
  repeat (first | exact hW | refine Aga ?_ (by simp) _)
end
section
open Go.RowKit Go.Shelf
def Ae5:Go.Shelf.Ren:=⟨fun | 29=>185 | n=>n,fun | 0=>0 | 3=>3 | 4=>4 | 5=>5 | 22=>106 | 25=>124 | 54=>273 | n=>n,fun | 1=>5 | n=>n⟩
theorem Aea:Go.Proofs.Lays7.n29 prog Ae5:={
 mixed:=by kernel_rfl
 f29:=Tryz.func185.trans (congrArg some (by kernel_rfl))
 t0:=underlying0
 a0:=isAgg0
 z0:=sizeOf0
 v0:=zeroValue0
 i0:=by kernel_rfl
 t3:=underlying3
 a3:=isAgg3
 z3:=sizeOf3
 v3:=zeroValue3
 i3:=by kernel_rfl
 t4:=underlying4
 a4:=isAgg4
 z4:=sizeOf4
 v4:=zeroValue4
 i4:=by kernel_rfl
 t5:=underlying5
 a5:=isAgg5
 z5:=sizeOf5
 v5:=zeroValue5
 i5:=by kernel_rfl
 t22:=underlying106
 a22:=isAgg106
 z22:=sizeOf106
 v22:=zeroValue106
 i22:=by kernel_rfl
 t25:=underlying124
 a25:=isAgg124
 z25:=sizeOf124
 v25:=zeroValue124
 i25:=by kernel_rfl
 t54:=underlying273
 a54:=isAgg273
 z54:=sizeOf273
 g1:=by kernel_rfl }
def TabIn (w:World):Prop:=TabAt 5 Lib.deBruijn64tab w
theorem E9 {w w':World} {B:Nat} (h:TabIn w) (hb:Below B w w') (hB:5 < B):TabIn w':=fun j hj=>(hb.cell (p:=⟨5,j,none⟩) hB).trans (h j hj)
theorem Gg (s:OSet) (i:Nat) (w:World) (hT:TabIn w) :
  Calls prog 185 #[.int .u64 (ow s i)] w fun e w'=>e=.returned (.int .i64 (Lib.ctz 64 (F8 s i):Int))∧w=w':=
 (Any7.bits_TrailingZeros64 Aea (F8 s i) (Ct s i) w (fun _=>hT)).mono fun _ _ ⟨h1,h2⟩=>⟨h1,h2.symm⟩
theorem Ab0 (x c:Nat) (hx:x < 18446744073709551616) (h1:x.testBit c=true) (h2:∀ j,j < c→x.testBit j=false):Lib.ctz 64 x=c:=by
 have hx0:x≠0:=by
  rintro rfl;simp at h1
 obtain ⟨m,hm,hlt⟩:=Lib.ctzFrom_spec 64 x (by omega) hx;unfold Lib.ctz;rw [if_neg hx0];generalize Lib.ctzFrom 64 x=d at hm hlt;have hd:x.testBit d=true:=by
  rw [hm,Nat.testBit_two_pow_mul];simp
 have hd2:∀ j,j < d→x.testBit j=false:=fun j hj=>by
  rw [hm,Nat.testBit_two_pow_mul];simp;omega
 rcases Nat.lt_trichotomy c d with h | h | h
 ·rw [hd2 c h] at h1;cases h1
 ·exact h.symm
 ·rw [h2 d h] at hd;cases hd
theorem SZ (s:OSet) (i k:Nat) (h:∀ b,b < k→ohas s b=false) (hk:64 * i+64≤k):ow s i=0:=by
 have:F8 s i=0:=by
  refine (Iw s i 0 (by decide) fun j hj=>?_).symm;have:=h (64 * i+j) (by omega);unfold ohas at this;simp [this]
 unfold ow;rw [this];rfl
theorem P3 (s:OSet) (k:Nat) (h1:ohas s k=true) (h:∀ b,b < k→ohas s b=false):(ow s (k / 64) != 0)=true∧Lib.ctz 64 (F8 s (k / 64))=k % 64:=by
 have hb:(F8 s (k / 64)).testBit (k % 64)=true:=by
  rw [Bk,show 64 * (k / 64)+k % 64=k by omega];unfold ohas at h1;simp [h1];omega
 refine ⟨?_,Ab0 _ _ (Ct _ _) hb fun j hj=>?_⟩
 ·rw [bne_iff_ne];intro h0;have:F8 s (k / 64)=0:=by unfold ow at h0;omega
  rw [this] at hb;simp at hb
 ·rw [Bk];have:=h (64 * (k / 64)+j) (by omega);unfold ohas at this;simp [this]
theorem Mh (a b c d:Int) (w:World):(Instr.index 108 (.agg #[.int .u64 a,.int .u64 b,.int .u64 c,.int .u64 d]) (.int .i64 0)).run prog w=.ok (.int .u64 a) w:=by kernel_rfl
theorem Mi (a b c d:Int) (w:World):(Instr.index 108 (.agg #[.int .u64 a,.int .u64 b,.int .u64 c,.int .u64 d]) (.int .i64 1)).run prog w=.ok (.int .u64 b) w:=by kernel_rfl
theorem Mj (a b c d:Int) (w:World):(Instr.index 108 (.agg #[.int .u64 a,.int .u64 b,.int .u64 c,.int .u64 d]) (.int .i64 2)).run prog w=.ok (.int .u64 c) w:=by kernel_rfl
theorem Mk (a b c d:Int) (w:World):(Instr.index 108 (.agg #[.int .u64 a,.int .u64 b,.int .u64 c,.int .u64 d]) (.int .i64 3)).run prog w=.ok (.int .u64 d) w:=by kernel_rfl
theorem P4 (s:OSet) (k:Nat) (hk:k < 256) (h1:ohas s k=true) (h:∀ b,b < k→ohas s b=false) (w:World) (hT:TabIn w) (hg:5 < w.heap.size) :
  Calls prog 182 #[.agg #[.int .u64 (ow s 0),.int .u64 (ow s 1),.int .u64 (ow s 2),.int .u64 (ow s 3)]] w fun e w'=>e=.returned (.tuple #[.int .u8 (k:Int),.bool true])∧Below w.heap.size w w':=by
 have i0:=Mh (ow s 0) (ow s 1) (ow s 2) (ow s 3);have i1:=Mi (ow s 0) (ow s 1) (ow s 2) (ow s 3);have i2:=Mj (ow s 0) (ow s 1) (ow s 2) (ow s 3);have i3:=Mk (ow s 0) (ow s 1) (ow s 2) (ow s 3);obtain ⟨w1,w2⟩:=P3 s k h1 h;have hT1:TabIn (w.alloc (.cells #[.int .u64 (ow s 0),.int .u64 (ow s 1),.int .u64 (ow s 2),.int .u64 (ow s 3)] 108)):=E9 hT ((Afv w.heap.size w).alloc (Afq _) _) hg;have Hz:=Afj (fun i (hi:64 * i+64≤k)=>show (ow s i != 0)=false by rw [SZ s i k h hi];rfl);clear h1 h hT;have hc:k % 64 < 64:=by omega
 generalize hcc:k % 64=c at w2 hc;have Hc:=Afj hcc;clear hcc;have hq:k / 64=0∨k / 64=1∨k / 64=2∨k / 64=3:=by omega
 rcases hq with hq | hq | hq | hq
 ·rw [hq] at w1 w2;have Hq:=Afj hq;clear hq;have He:=Afj (show ((64 * 0+c:Nat):Int)=(k:Int) by have:=Hq.out;have:=Hc.out;omega);go_enter func182,ntmps182
  go_wp2
  refine wp_loop_rounds 1 ?_;rw [rounds_succ];go_wp2_with (go_at_call 185;refine (Gg s _ _ hT1).mono ?_;rintro e w' ⟨rfl,rfl⟩)
  go_ret2
  refine ⟨by rw [←He.out];simp,(Afv _ _).alloc (Afq _) _⟩
 ·rw [hq] at w1 w2;have Hq:=Afj hq;clear hq;have z0:=Hz.out 0 (by have:=Hq.out;omega);have He:=Afj (show ((64 * 1+c:Nat):Int)=(k:Int) by have:=Hq.out;have:=Hc.out;omega);go_enter func182,ntmps182
  go_wp2
  refine wp_loop_rounds 2 ?_;rw [rounds_succ]
  go_wp2
  rw [rounds_succ];go_wp2_with (go_at_call 185;refine (Gg s _ _ hT1).mono ?_;rintro e w' ⟨rfl,rfl⟩)
  go_ret2
  refine ⟨by rw [←He.out];simp,(Afv _ _).alloc (Afq _) _⟩
 ·rw [hq] at w1 w2;have Hq:=Afj hq;clear hq;have z0:=Hz.out 0 (by have:=Hq.out;omega);have z1:=Hz.out 1 (by have:=Hq.out;omega);have He:=Afj (show ((64 * 2+c:Nat):Int)=(k:Int) by have:=Hq.out;have:=Hc.out;omega);go_enter func182,ntmps182
  go_wp2
  refine wp_loop_rounds 3 ?_
  iterate 2 (rw [rounds_succ];go_wp2)
  rw [rounds_succ];go_wp2_with (go_at_call 185;refine (Gg s _ _ hT1).mono ?_;rintro e w' ⟨rfl,rfl⟩)
  go_ret2
  refine ⟨by rw [←He.out];simp,(Afv _ _).alloc (Afq _) _⟩
 ·rw [hq] at w1 w2;have Hq:=Afj hq;clear hq;have z0:=Hz.out 0 (by have:=Hq.out;omega);have z1:=Hz.out 1 (by have:=Hq.out;omega);have z2:=Hz.out 2 (by have:=Hq.out;omega);have He:=Afj (show ((64 * 3+c:Nat):Int)=(k:Int) by have:=Hq.out;have:=Hc.out;omega);go_enter func182,ntmps182
  go_wp2
  refine wp_loop_rounds 4 ?_
  iterate 3 (rw [rounds_succ];go_wp2)
  rw [rounds_succ];go_wp2_with (go_at_call 185;refine (Gg s _ _ hT1).mono ?_;rintro e w' ⟨rfl,rfl⟩)
  go_ret2
  refine ⟨by rw [←He.out];simp,(Afv _ _).alloc (Afq _) _⟩
end
section
def byt (s:List UInt8) (k:Nat):Nat:=(s.getD k 0).toNat
def N5 (s:List UInt8) (kind:Nat) (e:Nat):Option Nat:=
 if e+1 < s.length then (if byt s e=kind∧byt s (e+1)=93 then some e else N5 s kind (e+1)) else none
termination_by s.length - e
structure Itm where
 set:OSet
 may:Bool
 next:Nat
 err:Nat
 place:Nat
def opens (s:List UInt8) (k:Nat):Bool:=decide (byt s k=91) && decide (k+1 < s.length) && (decide (byt s (k+1)=58) || decide (byt s (k+1)=61) || decide (byt s (k+1)=46))
def sub (s:List UInt8) (i j:Nat):List UInt8:=(s.drop i).take (j - i)
def Lp (s:List UInt8) (k e:Nat):Itm:=
 if byt s (k+1)=58 then (if CN (sub s (k+2) e) then ⟨A8 (sub s (k+2) e),false,e+2,0,0⟩ else ⟨oz,false,0,6,k⟩)
 else if e=k+3 then ⟨Ac (byt s (k+2)) (byt s (k+2)),decide (byt s (k+1)=46),e+2,0,0⟩
 else ⟨oz,false,0,6,k⟩
def Gx (s:List UInt8) (k:Nat):Nat:=if byt s (k+1)=58 then k+2 else k+3
def Fj (s:List UInt8) (k:Nat):Itm:=
 if s.length≤k then ⟨oz,false,0,5,s.length⟩
 else if opens s k then (match N5 s (byt s (k+1)) (Gx s k) with
  | some e=>Lp s k e
  | none=>⟨oz,false,0,5,s.length⟩)
 else ⟨Ac (byt s k) (byt s k),true,k+1,0,0⟩
theorem JD (s:List UInt8) (kind:Nat) (e x:Nat) (h:N5 s kind e=some x):e≤x∧x+1 < s.length:=by
 fun_induction N5 s kind e with
 | case1 e h1 h2=>simp at h;omega
 | case2 e h1 h2 ih=>have:=ih h;omega
 | case3 e h1=>simp at h
theorem JE (s:List UInt8) (k:Nat) (h:(Fj s k).err=0):k < (Fj s k).next∧(Fj s k).next≤s.length:=by
 unfold Fj at h ⊢;split at h
 ·simp at h
 ·rename_i hk;rw [if_neg hk];split at h
  ·rename_i ho;rw [if_pos ho];split at h
   ·rename_i e he;have hge:=JD _ _ _ _ he;have hf:k+2≤Gx s k:=by unfold Gx;split <;> omega
    unfold Lp at h ⊢;split at h
    ·split at h
     ·rename_i h1 h2;rw [if_pos h1,if_pos h2];simp only;omega
     ·simp at h
    ·split at h
     ·rename_i h1 h2;rw [if_neg h1,if_pos h2];simp only;omega
     ·simp at h
   ·simp at h
  ·rename_i ho;rw [if_neg ho];simp only;omega
def Vh (s:OSet):Nat:=match sps s with
 | []=>0
 | p :: _=>p.1
def UT (s:List UInt8) (k:Nat):Except (Nat × Nat) (OSet × Nat):=
 let a:=Fj s k
 if a.err≠0 then .error (a.err,a.place)
 else if a.next+1 < s.length∧byt s a.next=45∧byt s (a.next+1)≠93 then
  let b:=Fj s (a.next+1)
  if b.err≠0 then .error (b.err,b.place)
  else if a.may && b.may && decide (Vh a.set≤Vh b.set) then .ok (Ac (Vh a.set) (Vh b.set),b.next)
  else .error (1,k)
 else .ok (a.set,a.next)
theorem JF (s:List UInt8) (k:Nat) (t:OSet) (j:Nat) (h:UT s k=.ok (t,j)):k < j∧j≤s.length:=by
 unfold UT at h;simp only at h;split at h
 ·cases h
 ·rename_i h1;have h2:=JE s k (by simpa using h1);split at h
  ·split at h
   ·cases h
   ·rename_i h3;have h4:=JE s _ (by simpa using h3);split at h
    ·injection h with h;injection h with _ h;omega
    ·cases h
  ·injection h with h;injection h with _ h;omega
/-- The rest of an expression from k on: its set beside what was there, and the place behind it; or the error. -/
def IQ (s:List UInt8) (first:Bool) (k:Nat) (out:OSet):Except (Nat × Nat) (OSet × Nat):=
 if first=false∧k < s.length∧byt s k=93 then .ok (out,k+1)
 else match h:UT s k with
  | .error e=>.error e
  | .ok (t,j)=>IQ s false j (out ||| t)
termination_by s.length - k
decreasing_by have:=JF s k t j h;omega
def F7 (s:List UInt8) (k:Int):OSet × Int × Nat:=
 if k < 0∨(s.length:Int) < k then (oz,0,1)
 else
  let k:=k.toNat
  let not:=decide (k < s.length) && decide (byt s k=94)
  match IQ s true (if not then k+1 else k) oz with
  | .error (e,p)=>(oz,p,e)
  | .ok (t,j)=>(if not then ~~~t else t,j,0)
end
section
theorem Jh (b k:Nat) (hb:b < 256):ohas (Ac b b) k=(decide (b≤k) && decide (k < b+1)):=by
 unfold ohas Ac;rw [Int.toNat_natCast,show ((b:Int) - (b:Int)+1).toNat=1 by omega,Gc _ _ _ (by omega)]
theorem Ml (b:Nat) (hb:b < 256):sps (Ac b b)≠[]∧Vh (Ac b b)=b:=by
 have h1:ohas (Ac b b) b=true:=by rw [Jh b b hb];simp
 cases hs:sps (Ac b b) with
 | nil=>
  have h:=YD _ hs;rw [h] at h1;simp [ohas,oz] at h1
 | cons p l=>
  refine ⟨by simp,?_⟩;obtain ⟨_,h2,h3⟩:=SP _ p l hs;unfold Vh;rw [hs];rw [Jh b p.1 hb] at h2;simp only [Af9,decide_eq_true_eq] at h2;simp only;omega
theorem G9 (s:List UInt8) (k:Nat):byt s k < 256:=(s.getD k 0).toNat_lt
theorem RQ (s:List UInt8) (k:Nat) (h:(Fj s k).may=true):∃ b:Nat,b < 256∧(Fj s k).set=Ac b b:=by
 unfold Fj at h ⊢;split at h
 ·simp at h
 ·rename_i hk;rw [if_neg hk];split at h
  ·rename_i ho;rw [if_pos ho];split at h
   ·rename_i e he;unfold Lp at h ⊢;split at h
    ·split at h <;> simp at h
    ·rename_i h1;rw [if_neg h1];split at h
     ·rename_i h2;rw [if_pos h2];exact ⟨_,G9 s (k+2),rfl⟩
     ·simp at h
   ·simp at h
  ·rename_i ho;rw [if_neg ho];exact ⟨_,G9 s k,rfl⟩
theorem Ab1 (s:List UInt8) (first:Bool) (k:Nat) (out t:OSet) (j:Nat) (hn:¬ (first=false∧k < s.length∧byt s k=93)) (h:UT s k=.ok (t,j)):IQ s first k out=IQ s false j (out ||| t):=by
 rw [IQ,if_neg hn];split
 ·rename_i e h2;rw [h] at h2;cases h2
 ·rename_i t' j' h2;rw [h] at h2;cases h2
  rfl
theorem RT (s:List UInt8) (first:Bool) (k:Nat) (out:OSet) (e:Nat × Nat) (hn:¬ (first=false∧k < s.length∧byt s k=93)) (h:UT s k=.error e):IQ s first k out=.error e:=by
 rw [IQ,if_neg hn];split
 ·rename_i e2 h2;rw [h] at h2;cases h2
  rfl
 ·rename_i t' j' h2;rw [h] at h2;cases h2
end
section
theorem Hj (s:List UInt8) (k:Nat) (h:k < s.length):s.drop k=s[k] :: s.drop (k+1)∧byt s k=s[k].toNat:=by
 refine ⟨List.drop_eq_getElem_cons h,?_⟩;unfold byt;rw [Af7,Af4 h];rfl
theorem RU (a b:UInt8):(a == b)=decide (a.toNat=b.toNat):=by
 by_cases h:a=b
 ·subst h;simp
 ·have h2:a.toNat≠b.toNat:=fun e=>h (UInt8.toNat_inj.1 e)
  simp [h,h2]
theorem YL (s:List UInt8) (k:UInt8) (e:Nat) (he:e≤s.length):Lib.index (s.drop e) [k,93]=match N5 s k.toNat e with
  | some x=>(x:Int) - (e:Int)
  | none=>-1:=by
 obtain ⟨n,hn⟩:∃ n,n=s.length - e:=⟨_,rfl⟩;induction n generalizing e with
 | zero=>
  have:e=s.length:=by omega
  subst this;rw [N5,if_neg (by omega),List.drop_length];rfl
 | succ n ih=>
  have hlt:e < s.length:=by omega
  obtain ⟨h1,h2⟩:=Hj s e hlt;have ih:=ih (e+1) (by omega) (by omega);rw [h1,N5];unfold Lib.index;rw [ih];by_cases hl:e+1 < s.length
  ·obtain ⟨h3,h4⟩:=Hj s (e+1) hl;rw [if_pos hl,h3,h2,h4];have hp:[k,93].isPrefixOf (s[e] :: s[e+1] :: s.drop (e+1+1))=(decide (s[e].toNat=k.toNat) && decide (s[e+1].toNat=93)):=by
    simp only [List.isPrefixOf,Bool.and_true];rw [RU,RU]
    congr 1
    ·exact decide_eq_decide.2 ⟨Eq.symm,Eq.symm⟩
    ·exact decide_eq_decide.2 ⟨Eq.symm,Eq.symm⟩
   rw [hp];by_cases hc:s[e].toNat=k.toNat∧s[e+1].toNat=93
   ·rw [if_pos hc,if_pos (by simp [hc])];simp
   ·rw [if_neg hc,if_neg (by simpa using hc)];cases hf:N5 s k.toNat (e+1) with
    | none=>simp
    | some x=>
     have:=JD _ _ _ _ hf;simp only;rw [if_neg (by simp;omega)];omega
  ·rw [if_neg hl];have h3:s.drop (e+1)=[]:=List.drop_eq_nil_of_le (by omega);rw [h3];have h4:N5 s k.toNat (e+1)=none:=by rw [N5,if_neg (by omega)]
   rw [h4];have hp:[k,93].isPrefixOf [s[e]]=false:=by simp [List.isPrefixOf]
   rw [hp];simp
theorem RW (s:List UInt8) (k:Nat) (o:UInt8):Lib.hasPrefix (s.drop k) [o]=(decide (k < s.length) && decide (byt s k=o.toNat)):=by
 unfold Lib.hasPrefix;by_cases hl:k < s.length
 ·obtain ⟨h3,h4⟩:=Hj s k hl;rw [h3,h4];simp only [List.isPrefixOf,Bool.and_true,hl,decide_true,Bool.true_and];rw [RU];exact decide_eq_decide.2 ⟨Eq.symm,Eq.symm⟩
 ·rw [List.drop_eq_nil_of_le (by omega)];simp [hl]
theorem YM (s:List UInt8) (k:Nat) (a o:UInt8):Lib.hasPrefix (s.drop k) [a,o]=(decide (k+1 < s.length) && decide (byt s k=a.toNat) && decide (byt s (k+1)=o.toNat)):=by
 unfold Lib.hasPrefix;by_cases hl:k < s.length
 ·obtain ⟨h3,h4⟩:=Hj s k hl;have:=RW s (k+1) o;unfold Lib.hasPrefix at this;rw [h3,h4];show (a == s[k] && [o].isPrefixOf (s.drop (k+1)))=_;rw [this,RU];rw [show decide (a.toNat=s[k].toNat)=decide (s[k].toNat=a.toNat) from decide_eq_decide.2 ⟨Eq.symm,Eq.symm⟩];cases decide (k+1 < s.length) <;> cases decide (s[k].toNat=a.toNat) <;> rfl
 ·rw [List.drop_eq_nil_of_le (by omega)];simp [show ¬ (k+1 < s.length) by omega]
theorem Ta (a b:Nat) (h:b < a):Ac a b=oz:=by
 unfold Ac;rw [show ((b:Int) - (a:Int)+1).toNat=0 by omega];rfl
theorem Tb (a b:Nat) (hb:b < 256) (h:a≤b):Ac a b≠oz:=by
 intro hz;have h1:ohas (Ac a b) a=true:=by
  unfold ohas Ac;rw [Int.toNat_natCast,Gc _ _ _ (by omega)];simp;omega
 rw [hz] at h1;simp [ohas,oz] at h1
end
section
def KT (r:OSet × Int × Nat):Value:=.tuple #[.agg #[.int .u64 (ow r.1 0),.int .u64 (ow r.1 1),.int .u64 (ow r.1 2),.int .u64 (ow r.1 3)],.int .i64 r.2.1,.int .i64 (r.2.2:Int)]
def Vi (s:List UInt8) (k:Nat):Bool:=decide (k < s.length) && decide (byt s k=94)
theorem YN (s:List UInt8) (k:Int) (h:k < 0∨(s.length:Int) < k):F7 s k=(oz,0,1):=by
 unfold F7;rw [if_pos h]
theorem P5 (s:List UInt8) (n:Nat) (h:n≤s.length) (t:OSet) (j:Nat) (hr:IQ s true (if Vi s n then n+1 else n) oz=.ok (t,j)):F7 s (n:Int)=(if Vi s n then ~~~t else t,(j:Int),0):=by
 unfold F7;rw [if_neg (by omega)];simp only [Int.toNat_natCast];unfold Vi at hr ⊢;rw [hr]
theorem Mm (s:List UInt8) (n:Nat) (h:n≤s.length) (e p:Nat) (hr:IQ s true (if Vi s n then n+1 else n) oz=.error (e,p)):F7 s (n:Int)=(oz,(p:Int),e):=by
 unfold F7;rw [if_neg (by omega)];simp only [Int.toNat_natCast];unfold Vi at hr;rw [hr]
theorem Mn (s:List UInt8) (k e p:Nat) (h:UT s k=.error (e,p)):e≠0:=by
 unfold UT at h;simp only at h;split at h
 ·rename_i h1;injection h with h;injection h with h2 _;rw [←h2];exact h1
 ·split at h
  ·split at h
   ·rename_i h1;injection h with h;injection h with h2 _;rw [←h2];exact h1
   ·split at h
    ·cases h
    ·injection h with h;injection h with h2 _;omega
  ·cases h
theorem RX (s:List UInt8) (fl:Bool) (k:Nat) (out:OSet) (e p:Nat) (h:IQ s fl k out=.error (e,p)):e≠0:=by
 fun_induction IQ s fl k out with
 | case1=>cases h
 | case2 _ _ _ _ x hx=>
  injection h with h;subst h;exact Mn _ _ _ _ hx
 | case3 _ _ _ _ _ _ _ ih=>exact ih h
end
section
theorem Vj (s:List UInt8) (fl:Bool) (k:Nat) (acc t:OSet) (j:Nat) (h:IQ s fl k acc=.ok (t,j)):k < j∧j≤s.length:=by
 fun_induction IQ s fl k acc with
 | case1 fl k acc h1=>
  injection h with h;injection h with _ h;omega
 | case2 fl k acc hn e he=>cases h
 | case3 fl k acc hn t' j' he ih=>
  have h1:=ih h;have h2:=JF _ _ _ _ he;omega
theorem Vk (s:List UInt8) (fl:Bool) (k:Nat) (acc:OSet) (e p:Nat) (h:IQ s fl k acc=.error (e,p)):e≠0:=by
 fun_induction IQ s fl k acc with
 | case1 fl k acc h1=>cases h
 | case2 fl k acc hn e' he=>
  injection h with h;subst h;exact Mn _ _ _ _ he
 | case3 fl k acc hn t' j' he ih=>exact ih h
theorem JG (s:List UInt8) (n:Nat) (h:n≤s.length):∃ (t:OSet) (j e:Nat),F7 s (n:Int)=(t,(j:Int),e)∧(e=0→n < j∧j≤s.length):=by
 cases hr:IQ s true (if Vi s n then n+1 else n) oz with
 | error q=>
  obtain ⟨e,p⟩:=q;exact ⟨_,_,_,Mm s n h e p hr,fun h0=>absurd h0 (Vk _ _ _ _ _ _ hr)⟩
 | ok q=>
  obtain ⟨t,j⟩:=q;refine ⟨_,_,_,P5 s n h t j hr,fun _=>?_⟩;have:=Vj _ _ _ _ _ _ hr;split at this <;> omega
end
section
end
section
def chAt (s:List UInt8) (k b:Nat):Bool:=decide (k < s.length) && decide (byt s k=b)
def BP (s:List UInt8) (k b:Nat):Bool:=decide (k+1 < s.length) && decide (byt s k=92) && decide (byt s (k+1)=b)
def A5 (ere:Bool) (s:List UInt8) (k b:Nat):Bool:=if ere then chAt s k b else BP s k b
def AZ (ere:Bool):Nat:=if ere then 1 else 2
def FG (s:List UInt8) (k:Nat):Bool:=decide (k < s.length) && decide (48≤byt s k) && decide (byt s k≤57)
def A9 (s:List UInt8):Nat→Nat→Nat→Nat × Nat
 | 0,_,v=>(0,v)
 | n+1,k,v=>if FG s k then ((A9 s n (k+1) (10 * v+(byt s k - 48))).1+1,(A9 s n (k+1) (10 * v+(byt s k - 48))).2) else (0,v)
def Dx (s:List UInt8) (k:Nat):Nat × Nat:=if (A9 s 3 k 0).2≤255 then ((A9 s 3 k 0).2,(A9 s 3 k 0).1) else (0,0)
def GA (ere:Bool) (s:List UInt8) (k:Nat):Option (Int × Int × Nat):=
 let m:=Dx s k
 if m.2=0 then none
 else
  let k1:=k+m.2
  let q:Int × Nat:=if chAt s k1 44 then (let x:=Dx s (k1+1);if x.2=0 then (-1,k1+1) else ((x.1:Int),k1+1+x.2)) else ((m.1:Int),k1)
  if A5 ere s q.2 125 && !(decide (0≤q.1) && decide (q.1 < (m.1:Int))) then some ((m.1:Int),q.1,q.2+AZ ere) else none
structure ReSt where
 pos:Nat
 opened:Nat
 closed:List Int
 marks:List (Nat × Nat)
abbrev ReRes (α:Type):=Except (Nat × Nat) α
def ReSt.mark (st:ReSt) (c:Nat):ReSt:={ st with marks:=st.marks++[(st.pos,c)] }
def ReSt.to (st:ReSt) (k:Nat):ReSt:={ st with pos:=k }
inductive ReRep where
 | none
 | bad
 | some (mn mx:Int) (c:Nat) (next:Nat)
def repAt (ere:Bool) (s:List UInt8) (k:Nat):ReRep:=
 if chAt s k 42 then .some 0 (-1) 0 (k+1)
 else if A5 ere s k 43 then .some 1 (-1) (if ere then 0 else 43) (k+AZ ere)
 else if A5 ere s k 63 then .some 0 1 (if ere then 0 else 63) (k+AZ ere)
 else if A5 ere s k 123 then (match GA ere s (k+AZ ere) with
  | Option.none=>.bad
  | Option.some (m,n,j)=>.some m n 0 j)
 else .none
def D2 (ere:Bool) (s:List UInt8):Nat→ReSt→Nd→ReRes (ReSt × Nd)
 | 0,_,_=>.error (0,0)
 | n+1,st,d=>match repAt ere s st.pos with
  | .none=>.ok (st,d)
  | .bad=>.error (7,st.pos)
  | .some mn mx c j=>D2 ere s n ((if c=0 then st else st.mark c).to j) (.rep d mn mx)
def Al:OSet:=A8 [97,108,110,117,109] ||| Ac 95 95
def As:OSet:=A8 [115,112,97,99,101]
def Eo:OSet:=A8 [112,117,110,99,116]
def CJ (c:Nat):Option (OSet × Bool):=
 if c=110 then some (Ac 10 10,false)
 else if c=116 then some (Ac 9 9,true)
 else if c=119 then some (Al,true)
 else if c=87 then some (~~~Al,true)
 else if c=115 then some (As,true)
 else if c=83 then some (~~~As,true)
 else if ohas Eo c then some (Ac c c,false)
 else none
def Dt (ere:Bool) (st:ReSt) (c:Nat):ReRes (ReSt × Nd):=
 if 49≤c∧c≤57 then (if st.closed.contains ((c:Int) - 48) then .ok ((if ere then st.mark c else st).to (st.pos+2),.back ((c:Int) - 48)) else .error (9,st.pos))
 else match CJ c with
  | none=>.error (2,st.pos)
  | some (t,m)=>.ok ((if m then st.mark c else st).to (st.pos+2),.one t)
def F6 (ere:Bool) (s:List UInt8) (sub:Option (ReSt→ReRes (ReSt × Nd))) (st:ReSt):ReRes (ReSt × Nd):=match sub with
 | none=>.error (4,st.pos)
 | some f=>match f { st with pos:=st.pos+AZ ere,opened:=st.opened+1 } with
  | .error e=>.error e
  | .ok (st',d)=>if A5 ere s st'.pos 41 then .ok ({ st' with pos:=st'.pos+AZ ere,closed:=st'.closed++[(st.opened:Int)+1] },.group ((st.opened:Int)+1) d) else .error (8,st.pos)
def Ba (ere:Bool) (s:List UInt8) (sub:Option (ReSt→ReRes (ReSt × Nd))) (st:ReSt):ReRes (ReSt × Nd):=
 if A5 ere s st.pos 40 then F6 ere s sub st
 else if A5 ere s st.pos 41 then .error (8,st.pos)
 else if chAt s st.pos 91 then (if (F7 s ((st.pos:Int)+1)).2.2=0 then .ok (st.to (F7 s ((st.pos:Int)+1)).2.1.toNat,.one (F7 s ((st.pos:Int)+1)).1) else .error ((F7 s ((st.pos:Int)+1)).2.2,(F7 s ((st.pos:Int)+1)).2.1.toNat))
 else if chAt s st.pos 46 then .ok (st.to (st.pos+1),.one (Ac 0 255))
 else if chAt s st.pos 92 then (if st.pos+1 < s.length then Dt ere st (byt s (st.pos+1)) else .error (11,st.pos))
 else .ok (st.to (st.pos+1),.one (Ac (byt s st.pos) (byt s st.pos)))
def AG (s:List UInt8) (k:Nat):Bool:=decide (s.length≤k) || BP s k 124 || BP s k 41
def branchM (ere:Bool) (s:List UInt8) (sub:Option (ReSt→ReRes (ReSt × Nd))) (top:Bool) (begin:Nat):Nat→ReSt→List Nd→Bool→ReRes (ReSt × Nd)
 | 0,_,_,_=>.error (0,0)
 | n+1,st,parts,front=>
  if decide (s.length≤st.pos) || A5 ere s st.pos 124 || (A5 ere s st.pos 41 && !top) then .ok (st,B0 parts)
  else if chAt s st.pos 94 && (ere || decide (st.pos=begin)) then branchM ere s sub top begin n (st.to (st.pos+1)) (parts++[.start]) true
  else if chAt s st.pos 36 && (ere || AG s (st.pos+1)) then branchM ere s sub top begin n (st.to (st.pos+1)) (parts++[.fin]) true
  else if front && (A5 ere s st.pos 123 || A5 ere s st.pos 43 || A5 ere s st.pos 63 || (ere && chAt s st.pos 42)) then .error (10,st.pos)
  else match Ba ere s sub st with
   | .error e=>.error e
   | .ok (st1,d)=>match D2 ere s (s.length+1) st1 d with
    | .error e=>.error e
    | .ok (st2,d2)=>branchM ere s sub top begin n st2 (parts++[d2]) false
def At (ere:Bool) (s:List UInt8) (sub:Option (ReSt→ReRes (ReSt × Nd))) (top:Bool):Nat→ReSt→List Nd→ReRes (ReSt × Nd)
 | 0,_,_=>.error (0,0)
 | n+1,st,l=>match branchM ere s sub top st.pos (s.length+1) st [] true with
  | .error e=>.error e
  | .ok (st1,d)=>if A5 ere s st1.pos 124 then At ere s sub top n ((if ere then st1 else st1.mark 124).to (st1.pos+AZ ere)) (l++[d]) else .ok (st1,Co (l++[d]))
def Cs (ere:Bool) (s:List UInt8):Nat→ReSt→ReRes (ReSt × Nd)
 | 0,st=>At ere s none false (s.length+1) st []
 | k+1,st=>At ere s (some (Cs ere s k)) false (s.length+1) st []
def Ep:ReSt:=⟨0,0,[],[]⟩
def AU (ere:Bool) (s:List UInt8):ReRes (ReSt × Nd):=
 if 250 < s.length then .error (3,250) else At ere s (some (Cs ere s 11)) true (s.length+1) Ep []
end
section
def AV (s:List UInt8) (k:Nat) (t:List UInt8):Bool:=Lib.hasPrefix (s.drop k) t
theorem P6 (s:List UInt8) (k b:Nat) (hb:b < 256) (h:k < s.length):(UInt8.ofNat b == s[k])=decide (byt s k=b):=by
 unfold byt;rw [Af7,Af4 h,Option.getD_some];by_cases e:s[k].toNat=b
 ·rw [decide_eq_true e,beq_iff_eq,←e];simp
 ·rw [decide_eq_false e,beq_eq_false_iff_ne];intro e2;apply e;rw [←e2];simp;omega
theorem DH (s:List UInt8) (k b:Nat) (hb:b < 256):AV s k [UInt8.ofNat b]=chAt s k b:=by
 unfold AV Lib.hasPrefix chAt;by_cases h:k < s.length
 ·rw [List.drop_eq_getElem_cons h,decide_eq_true h];simp only [List.isPrefixOf,Bool.and_true,Bool.true_and];exact P6 s k b hb h
 ·rw [List.drop_eq_nil_of_le (by omega),decide_eq_false h];rfl
theorem BQ (s:List UInt8) (k b:Nat) (hb:b < 256):AV s k [92,UInt8.ofNat b]=BP s k b:=by
 unfold AV Lib.hasPrefix BP;by_cases h:k < s.length
 ·rw [List.drop_eq_getElem_cons h];by_cases h2:k+1 < s.length
  ·rw [List.drop_eq_getElem_cons h2,decide_eq_true h2];simp only [List.isPrefixOf,Bool.and_true,Bool.true_and];rw [P6 s (k+1) b hb h2,show ((92:UInt8) == s[k])=decide (byt s k=92) from P6 s k 92 (by decide) h]
  ·rw [List.drop_eq_nil_of_le (by omega),decide_eq_false h2];simp [List.isPrefixOf]
 ·rw [List.drop_eq_nil_of_le (by omega),decide_eq_false (by omega)];rfl
theorem FH (s:List UInt8) (k:Nat) (t:List UInt8) (h:AV s k t=true) (h0:t≠[]):k+t.length≤s.length:=by
 unfold AV Lib.hasPrefix at h;have h1:=(List.isPrefixOf_iff_prefix.1 h).length_le;rw [Af3] at h1;have h2:0 < t.length:=List.length_pos_iff.2 h0;omega
theorem P7 (s:List UInt8) (k:Nat):AG s k=(((s.drop k).isEmpty || AV s k [92,124]) || AV s k [92,41]):=by
 unfold AG;rw [show AV s k [92,124]=BP s k 124 from BQ s k 124 (by decide),show AV s k [92,41]=BP s k 41 from BQ s k 41 (by decide)]
 congr 2
 rw [Bool.eq_iff_iff];simp
theorem Mo (s:List UInt8) (n k v:Nat) (h:n=0∨FG s k=false):A9 s n k v=(0,v):=by
 cases n with
 | zero=>rfl
 | succ n=>
  rcases h with h | h
  ·cases h
  ·rw [A9,h];rfl
theorem Vl (s:List UInt8) (n k v:Nat) (h:FG s k=true):A9 s (n+1) k v=((A9 s n (k+1) (10 * v+(byt s k - 48))).1+1,(A9 s n (k+1) (10 * v+(byt s k - 48))).2):=by
 rw [A9,h];rfl
end
section
theorem N6 (ere:Bool) (s:List UInt8):∀ (n:Nat) (st:ReSt) (d:Nd) (st':ReSt) (d':Nd),D2 ere s n st d=.ok (st',d')→repAt ere s st'.pos=.none:=by
 intro n;induction n with
 | zero=>intro st d st' d' h;cases h
 | succ n ih=>
  intro st d st' d' h;rw [D2] at h;cases hr:repAt ere s st.pos with
  | none=>
   rw [hr] at h;injection h with h;injection h with h1 _;rw [←h1];exact hr
  | bad=>rw [hr] at h;cases h
  | some mn mx c j=>rw [hr] at h;exact ih _ _ _ _ h
theorem BK {s:List UInt8} {k b:Nat} (h:chAt s k b=true):k < s.length∧byt s k=b:=by
 unfold chAt at h;simp only [Af9,decide_eq_true_eq] at h;exact h
theorem Fk {s:List UInt8} {k b:Nat} (h:BP s k b=true):k+1 < s.length∧byt s k=92∧byt s (k+1)=b:=by
 unfold BP at h;simp only [Af9,decide_eq_true_eq] at h;exact ⟨h.1.1,h.1.2,h.2⟩
theorem BF {s:List UInt8} {k b:Nat} (h:byt s k≠b):chAt s k b=false:=by
 cases hc:chAt s k b with
 | false=>rfl
 | true=>exact (h (BK hc).2).elim
theorem EV {ere:Bool} {s:List UInt8} {k b c:Nat} (h:A5 ere s k b=true) (hbc:b≠c):A5 ere s k c=false:=by
 cases hc:A5 ere s k c with
 | false=>rfl
 | true=>
  cases ere with
  | true=>exact (hbc ((BK h).2.symm.trans (BK hc).2)).elim
  | false=>exact (hbc ((Fk h).2.2.symm.trans (Fk hc).2.2)).elim
theorem Vm {ere:Bool} {s:List UInt8} {k b c:Nat} (h:A5 ere s k b=true) (h1:b≠c) (h2:c≠92):chAt s k c=false:=by
 cases ere with
 | true=>exact BF (by rw [(BK h).2];exact h1)
 | false=>exact BF (by rw [(Fk h).2.1];exact fun e=>h2 e.symm)
theorem Aeb {ere:Bool} {s:List UInt8} {k b:Nat} (h:A5 ere s k b=true):k < s.length:=by
 cases ere with
 | true=>exact (BK h).1
 | false=>have:=(Fk h).1;omega
def F1 (ere:Bool) (s:List UInt8) (r:ReRes (ReSt × Nd)):ReRes (ReSt × Nd):=match r with
 | .error e=>.error e
 | .ok (st,d)=>if A5 ere s st.pos 41 then .error (8,st.pos) else .ok (st,d)
theorem P8 (ere:Bool) (s:List UInt8) (sub:Option (ReSt→ReRes (ReSt × Nd))) (begin:Nat):∀ (n:Nat) (st:ReSt) (parts:List Nd) (front:Bool),
  branchM ere s sub true begin n st parts front=F1 ere s (branchM ere s sub false begin n st parts front):=by
 intro n;induction n with
 | zero=>intro _ _ _;rfl
 | succ n ih=>
  intro st parts front;rw [branchM,branchM];cases h41:A5 ere s st.pos 41 with
  | true=>
   have h1:decide (s.length≤st.pos)=false:=decide_eq_false (by have:=Aeb h41;omega);have h2:A5 ere s st.pos 124=false:=EV h41 (by decide);have h3:=Vm h41 (c:=94) (by decide) (by decide);have h4:=Vm h41 (c:=36) (by decide) (by decide);have h5:=Vm h41 (c:=42) (by decide) (by decide);have h6:A5 ere s st.pos 123=false:=EV h41 (by decide);have h7:A5 ere s st.pos 43=false:=EV h41 (by decide);have h8:A5 ere s st.pos 63=false:=EV h41 (by decide);have h9:A5 ere s st.pos 40=false:=EV h41 (by decide);have ha:Ba ere s sub st=.error (8,st.pos):=by unfold Ba;rw [h9,h41];rfl
   simp [h1,h2,h3,h4,h5,h6,h7,h8,ha,F1,h41]
  | false=>
   by_cases he:(decide (s.length≤st.pos) || A5 ere s st.pos 124)=true
   ·simp [he,F1,h41]
   ·rw [Bool.not_eq_true] at he;simp only [he,Bool.false_and,Bool.or_false,Af2,if_false];split
    ·exact ih _ _ _
    ·split
     ·exact ih _ _ _
     ·split
      ·rfl
      ·cases Ba ere s sub st with
       | error e=>rfl
       | ok q=>
        obtain ⟨st1,d⟩:=q;simp only;cases D2 ere s (s.length+1) st1 d with
        | error e=>rfl
        | ok q2=>exact ih _ _ _
theorem P9 (ere:Bool) (s:List UInt8) (sub:Option (ReSt→ReRes (ReSt × Nd))):∀ (n:Nat) (st:ReSt) (l:List Nd),
  At ere s sub true n st l=F1 ere s (At ere s sub false n st l):=by
 intro n;induction n with
 | zero=>intro _ _;rfl
 | succ n ih=>
  intro st l;rw [At,At,P8];cases branchM ere s sub false st.pos (s.length+1) st [] true with
  | error e=>rfl
  | ok q=>
   obtain ⟨st1,d⟩:=q;simp only [F1];cases h41:A5 ere s st1.pos 41 with
   | true=>
    rw [show A5 ere s st1.pos 124=false from EV h41 (by decide)];simp [h41]
   | false=>
    simp only [Af2,if_false];split
    ·rw [ih];rfl
    ·simp [h41]
theorem GB (ere:Bool) (s:List UInt8) (h:s.length≤250):AU ere s=F1 ere s (At ere s (some (Cs ere s 11)) false (s.length+1) Ep []):=by
 unfold AU;rw [if_neg (by omega),P9]
end
section
theorem FI (s:List UInt8) (k j:Nat):byt (s.drop k) j=byt s (k+j):=by
 unfold byt;rw [Af7,Af7,List.getElem?_drop]
theorem Mp (s:List UInt8) (k j:Nat):decide (j < (s.drop k).length)=decide (k+j < s.length):=by
 rw [Af3];exact decide_eq_decide.2 (by omega)
theorem RY (s:List UInt8) (k j b:Nat):chAt (s.drop k) j b=chAt s (k+j) b:=by
 unfold chAt;rw [FI,Mp]
theorem YO (s:List UInt8) (k j b:Nat):BP (s.drop k) j b=BP s (k+j) b:=by
 unfold BP;rw [FI,FI,Mp,Af5]
theorem YP (ere:Bool) (s:List UInt8) (k j b:Nat):A5 ere (s.drop k) j b=A5 ere s (k+j) b:=by
 unfold A5;rw [RY,YO]
theorem Vn (s:List UInt8) (k j:Nat):FG (s.drop k) j=FG s (k+j):=by
 unfold FG;rw [FI,Mp]
theorem I0 (s:List UInt8) (k:Nat):∀ (n j v:Nat),A9 (s.drop k) n j v=A9 s n (k+j) v:=by
 intro n;induction n with
 | zero=>intro j v;rfl
 | succ n ih=>
  intro j v;rw [A9,A9,Vn,FI,ih,Af5]
theorem Vo (s:List UInt8) (k j:Nat):Dx (s.drop k) j=Dx s (k+j):=by
 unfold Dx;rw [I0]
def CP (s:List UInt8) (k:Nat):Bool:=decide (0 < (A9 s 3 k 0).1) && decide ((A9 s 3 k 0).2≤255)
theorem Vp (s:List UInt8) (k:Nat) (h:CP s k=false):(Dx s k).2=0:=by
 unfold CP at h;unfold Dx;split
 ·rename_i h1;rw [decide_eq_true h1,Bool.and_true] at h;have:=of_decide_eq_false h;simp only;omega
 ·rfl
theorem RZ (s:List UInt8) (k:Nat) (h:CP s k=true):Dx s k=((A9 s 3 k 0).2,(A9 s 3 k 0).1)∧(Dx s k).2≠0:=by
 unfold CP at h;simp only [Af9,decide_eq_true_eq] at h;unfold Dx;rw [if_pos h.2];exact ⟨rfl,by simp only;omega⟩
theorem Tc (x y:Nat):(!(decide (0≤(y:Int)) && decide ((y:Int) < (x:Int))))=decide (x≤y):=by
 by_cases h:x≤y
 ·rw [decide_eq_true h,decide_eq_false (show ¬ (y:Int) < (x:Int) by omega),Bool.and_false];rfl
 ·rw [decide_eq_false h,decide_eq_true (show (y:Int) < (x:Int) by omega),decide_eq_true (show (0:Int)≤(y:Int) by omega)];rfl
def CQ (ere:Bool):List UInt8:=if ere then [125] else [92,125]
theorem Vq (ere:Bool) (s:List UInt8) (k:Nat):AV s k (CQ ere)=A5 ere s k 125:=by
 cases ere with
 | true=>exact DH s k 125 (by decide)
 | false=>exact BQ s k 125 (by decide)
theorem Td (ere:Bool):(CQ ere).length=AZ ere:=by cases ere <;> rfl
def Lq (cl L:List UInt8):Int × Int × Nat × Bool:=
 if CP L 0 then
  (if chAt L (A9 L 3 0 0).1 44 then
   (if AV L ((A9 L 3 0 0).1+1) cl then (((A9 L 3 0 0).2:Int),-1,(A9 L 3 0 0).1+1,true)
    else (((A9 L 3 0 0).2:Int),((A9 L 3 ((A9 L 3 0 0).1+1) 0).2:Int),(A9 L 3 0 0).1+1+(A9 L 3 ((A9 L 3 0 0).1+1) 0).1,CP L ((A9 L 3 0 0).1+1) && decide ((A9 L 3 0 0).2≤(A9 L 3 ((A9 L 3 0 0).1+1) 0).2)))
   else (((A9 L 3 0 0).2:Int),((A9 L 3 0 0).2:Int),(A9 L 3 0 0).1,true))
 else (((A9 L 3 0 0).2:Int),((A9 L 3 0 0).2:Int),(A9 L 3 0 0).1,false)
def Lr (cl L:List UInt8):Option (Int × Int × Nat):=
 if (Lq cl L).2.2.2 && AV L (Lq cl L).2.2.1 cl then some ((Lq cl L).1,(Lq cl L).2.1,(Lq cl L).2.2.1+cl.length) else none
theorem Vr (ere:Bool) (L:List UInt8):GA ere L 0=Lr (CQ ere) L:=by
 unfold Lr Lq GA;simp only [Td,Vq,Nat.zero_add];cases h1:CP L 0 with
 | false=>simp [Vp L 0 h1]
 | true=>
  obtain ⟨e1,e2⟩:=RZ L 0 h1;rw [if_neg e2,e1];simp only [if_true];cases h2:chAt L (A9 L 3 0 0).1 44 with
  | false=>simp
  | true=>
   simp only [if_true];cases h3:A5 ere L ((A9 L 3 0 0).1+1) 125 with
   | true=>
    have hd:FG L ((A9 L 3 0 0).1+1)=false:=by
     unfold FG;cases ere with
     | true=>
      simp only [A5,if_true,chAt,Af9,decide_eq_true_eq] at h3;rw [h3.2];simp
     | false=>
      simp only [A5,Af2,if_false,BP,Af9,decide_eq_true_eq] at h3;rw [h3.1.2];simp
    have hn:Dx L ((A9 L 3 0 0).1+1)=(0,0):=by unfold Dx;rw [Mo _ _ _ _ (.inr hd)];rfl
    rw [hn];simp [h3]
   | false=>
    cases h4:CP L ((A9 L 3 0 0).1+1) with
    | false=>
     rw [if_pos (Vp _ _ h4)];simp [h3]
    | true=>
     obtain ⟨f1,f2⟩:=RZ _ _ h4;rw [if_neg f2,f1];simp only [Bool.true_and,Af2,if_false];rw [Tc,Bool.and_comm]
theorem Te (ere:Bool) (s:List UInt8) (k:Nat):GA ere s k=(GA ere (s.drop k) 0).map fun q=>(q.1,q.2.1,k+q.2.2):=by
 unfold GA;simp only [Vo,RY,YP,Nat.add_zero,Nat.zero_add];split
 ·rfl
 ·simp only [Af5];cases h2:chAt s (k+(Dx s k).2) 44 with
  | false=>
   simp only [Af2,if_false];split
   ·simp [Af5]
   ·rfl
  | true=>
   simp only [if_true];split
   ·split
    ·simp [Af5]
    ·rfl
   ·split
    ·simp [Af5]
    ·rfl
theorem Hw (ere:Bool) (s:List UInt8) (k:Nat):GA ere s k=(Lr (CQ ere) (s.drop k)).map fun q=>(q.1,q.2.1,k+q.2.2):=by rw [Te,Vr]
end
section
theorem Di {ere:Bool} {s:List UInt8} {k b:Nat} (h:A5 ere s k b=true):k+AZ ere≤s.length:=by
 cases ere with
 | true=>have:=(BK h).1;simp [AZ];omega
 | false=>have:=(Fk h).1;simp [AZ];omega
theorem Fl (ere:Bool):0 < AZ ere:=by cases ere <;> decide
theorem YQ (ere:Bool) (s:List UInt8) (k:Nat) (m n:Int) (j:Nat) (h:GA ere s k=some (m,n,j)):k < j∧j≤s.length:=by
 rw [Hw] at h;obtain ⟨q,hq,he⟩:=Option.map_eq_some_iff.1 h;have h0:CQ ere≠[]:=by cases ere <;> simp [CQ]
 have h1:q.2.2≤(s.drop k).length:=by
  unfold Lr at hq;split at hq
  ·rename_i hc;injection hq with hq;subst hq;rw [Af9] at hc;exact FH _ _ _ hc.2 h0
  ·cases hq
 have h2:0 < q.2.2:=by
  unfold Lr at hq;split at hq
  ·injection hq with hq;subst hq;have:0 < (CQ ere).length:=List.length_pos_iff.2 h0;simp only;omega
  ·cases hq
 rw [Af3] at h1;injection he with he1 he2;injection he2 with he2 he3;omega
theorem Fm (ere:Bool) (s:List UInt8) (k:Nat) (a b:Int) (c j:Nat) (h:repAt ere s k=.some a b c j):k < j∧j≤s.length:=by
 have hp:=Fl ere;unfold repAt at h;split at h
 ·rename_i h1;injection h with _ _ _ h;have:=(BK h1).1;omega
 split at h
 ·rename_i _ h1;injection h with _ _ _ h;have:=Di h1;omega
 split at h
 ·rename_i _ _ h1;injection h with _ _ _ h;have:=Di h1;omega
 split at h
 ·rename_i _ _ _ h1;split at h
  ·cases h
  ·rename_i m n j' hi;injection h with _ _ _ h;have h3:=YQ _ _ _ _ _ _ hi;omega
 ·cases h
theorem Fo (ere:Bool) (s:List UInt8):∀ (n:Nat) (st:ReSt) (d:Nd) (st':ReSt) (d':Nd),st.pos≤s.length→D2 ere s n st d=.ok (st',d')→st.pos≤st'.pos∧st'.pos≤s.length:=by
 intro n;induction n with
 | zero=>intro st d st' d' _ h;cases h
 | succ n ih=>
  intro st d st' d' hl h;rw [D2] at h;cases hra:repAt ere s st.pos with
  | none=>
   rw [hra] at h;injection h with h;injection h with h1 h2;subst h1;exact ⟨Afq _,hl⟩
  | bad=>rw [hra] at h;cases h
  | some mn mx c j=>
   rw [hra] at h;have hj:=Fm _ _ _ _ _ _ _ hra;have h2:=ih _ _ _ _ (show j≤s.length from hj.2) h;have h3:j≤st'.pos:=h2.1;exact ⟨by omega,h2.2⟩
theorem Sa (ere:Bool) (st st':ReSt) (c:Nat) (d:Nd) (h:Dt ere st c=.ok (st',d)):st'.pos=st.pos+2:=by
 unfold Dt at h;split at h
 ·split at h
  ·injection h with h;injection h with h1 _;subst h1;rfl
  ·cases h
 ·split at h
  ·cases h
  ·injection h with h;injection h with h1 _;subst h1;rfl
def Dj (s:List UInt8) (sub:Option (ReSt→ReRes (ReSt × Nd))):Prop:=∀ f,sub=some f→∀ st st' d,st.pos≤s.length→f st=.ok (st',d)→st.pos≤st'.pos∧st'.pos≤s.length
theorem DA (ere:Bool) (s:List UInt8) (sub:Option (ReSt→ReRes (ReSt × Nd))) (hsub:Dj s sub) (st st':ReSt) (d:Nd) (hl:st.pos < s.length) (h:Ba ere s sub st=.ok (st',d)):st.pos < st'.pos∧st'.pos≤s.length:=by
 have hp:=Fl ere;unfold Ba at h;split at h
 ·rename_i ho;unfold F6 at h;split at h
  ·cases h
  ·rename_i f;split at h
   ·cases h
   ·rename_i st1 d1 hf;split at h
    ·rename_i h41;injection h with h;injection h with h1 h2;subst h1;have h3:=hsub f rfl _ _ _ (show st.pos+AZ ere≤s.length from Di ho) hf;have h4:st.pos+AZ ere≤st1.pos:=h3.1;have h5:=Di h41;exact ⟨show st.pos < st1.pos+AZ ere by omega,h5⟩
    ·cases h
 ·split at h
  ·cases h
  ·split at h
   ·obtain ⟨t,j,e,hpr,hj⟩:=JG s (st.pos+1) hl;rw [show ((st.pos:Int)+1)=((st.pos+1:Nat):Int) by omega,hpr] at h;simp only at h;split at h
    ·rename_i h0;have:=hj h0;injection h with h;injection h with h1 h2;subst h1;show st.pos < ((j:Int)).toNat∧((j:Int)).toNat≤s.length;omega
    ·cases h
   ·split at h
    ·injection h with h;injection h with h1 h2;subst h1;exact ⟨show st.pos < st.pos+1 by omega,hl⟩
    ·split at h
     ·split at h
      ·rename_i h9;have:=Sa _ _ _ _ _ h;omega
      ·cases h
     ·injection h with h;injection h with h1 h2;subst h1;exact ⟨show st.pos < st.pos+1 by omega,hl⟩
theorem Gh (ere:Bool) (s:List UInt8) (sub:Option (ReSt→ReRes (ReSt × Nd))) (hsub:Dj s sub) (top:Bool) (begin:Nat):∀ (n:Nat) (st:ReSt) (parts:List Nd) (front:Bool) (st':ReSt) (d:Nd),st.pos≤s.length→
  branchM ere s sub top begin n st parts front=.ok (st',d)→st.pos≤st'.pos∧st'.pos≤s.length:=by
 intro n;induction n with
 | zero=>intro _ _ _ _ _ _ h;cases h
 | succ n ih=>
  intro st parts front st' d hl h;rw [branchM] at h;split at h
  ·injection h with h;injection h with h1 _;subst h1;exact ⟨Afq _,hl⟩
  ·rename_i he;have hlt:st.pos < s.length:=by
    simp only [Bool.or_eq_true,decide_eq_true_eq,not_or] at he;omega
   split at h
   ·have h2:=ih _ _ _ _ _ (show st.pos+1≤s.length from hlt) h;have h3:st.pos+1≤st'.pos:=h2.1;exact ⟨by omega,h2.2⟩
   split at h
   ·have h2:=ih _ _ _ _ _ (show st.pos+1≤s.length from hlt) h;have h3:st.pos+1≤st'.pos:=h2.1;exact ⟨by omega,h2.2⟩
   split at h
   ·cases h
   split at h
   ·cases h
   ·rename_i st1 d1 ha;have h1:=DA _ _ _ hsub _ _ _ hlt ha;split at h
    ·cases h
    ·rename_i st2 d2 hr;have h2:=Fo _ _ _ _ _ _ _ h1.2 hr;have h3:=ih _ _ _ _ _ h2.2 h;omega
theorem Gi (ere:Bool) (s:List UInt8) (sub:Option (ReSt→ReRes (ReSt × Nd))) (hsub:Dj s sub) (top:Bool):∀ (n:Nat) (st:ReSt) (l:List Nd) (st':ReSt) (d:Nd),st.pos≤s.length→
  At ere s sub top n st l=.ok (st',d)→st.pos≤st'.pos∧st'.pos≤s.length:=by
 intro n;induction n with
 | zero=>intro _ _ _ _ _ h;cases h
 | succ n ih=>
  intro st l st' d hl h;rw [At] at h;split at h
  ·cases h
  ·rename_i st1 d1 hb;have h1:=Gh _ _ _ hsub _ _ _ _ _ _ _ _ hl hb;split at h
   ·rename_i ho;have h2:=ih _ _ _ _ (show st1.pos+AZ ere≤s.length from Di ho) h;have h3:st1.pos+AZ ere≤st'.pos:=h2.1;exact ⟨by omega,h2.2⟩
   ·injection h with h;injection h with h2 _;subst h2;exact h1
theorem Vs (ere:Bool) (s:List UInt8):∀ (k:Nat) (st st':ReSt) (d:Nd),st.pos≤s.length→Cs ere s k st=.ok (st',d)→st.pos≤st'.pos∧st'.pos≤s.length:=by
 intro k;induction k with
 | zero=>intro st st' d hl h;exact Gi ere s none (fun f hf=>by cases hf) false _ _ _ _ _ hl h
 | succ k ih=>intro st st' d hl h;exact Gi ere s (some (Cs ere s k)) (fun f hf=>by cases hf;exact ih) false _ _ _ _ _ hl h
end
section
def CR (d:Nd) (st st':ReSt):Prop:=Bz d (st.opened:Int) st.closed=some ((st'.opened:Int),st'.closed)
def DL (l:List Nd) (st st':ReSt):Prop:=Cb l (st.opened:Int) st.closed=some ((st'.opened:Int),st'.closed)
theorem Er {l:List Nd} {d:Nd} {st st1 st2:ReSt} (h:DL l st st1) (k:CR d st1 st2):DL (l++[d]) st st2:=by
 unfold DL at h ⊢;rw [J5,h];simp only [Option.bind_some];rw [FB];exact k
theorem YR (ere:Bool) (s:List UInt8) (k:Nat) (m n:Int) (j:Nat) (h:GA ere s k=some (m,n,j)):J2 m n=true:=by
 have h255:∀ k,(Dx s k).1≤255:=by
  intro k;unfold Dx;split
  ·rename_i h;exact h
  ·exact Nat.zero_le _
 have hx:=h255 k;have hall:∀ q:Int × Nat,(q.1=-1∨(0≤q.1∧q.1≤255))→(if A5 ere s q.2 125 && !(decide (0≤q.1) && decide (q.1 < ((Dx s k).1:Int))) then some (((Dx s k).1:Int),q.1,q.2+AZ ere) else none)=some (m,n,j)→J2 m n=true:=by
  intro q hq h;split at h
  ·rename_i hc;injection h with h;injection h with h1 h2;injection h2 with h2 _;subst h1 h2;simp only [Af9,Bool.not_eq_true',Bool.and_eq_false_iff,decide_eq_false_iff_not] at hc;have hq2:=hc.2;unfold J2;simp only [Af9,Bool.or_eq_true,decide_eq_true_eq];rcases hq with hq | hq
   ·exact ⟨⟨by omega,by omega⟩,.inl hq⟩
   ·exact ⟨⟨by omega,by omega⟩,.inr ⟨by omega,by omega⟩⟩
  ·cases h
 unfold GA at h;simp only at h;split at h
 ·cases h
 ·refine hall _ ?_ h;split
  ·split
   ·exact .inl rfl
   ·exact .inr ⟨by simp only;omega,by have:=h255 (k+(Dx s k).2+1);simp only;omega⟩
  ·exact .inr ⟨by simp only;omega,by simp only;omega⟩
theorem Ab2 (ere:Bool) (s:List UInt8) (k:Nat) (m n:Int) (c j:Nat) (h:repAt ere s k=.some m n c j):J2 m n=true:=by
 unfold repAt at h;split at h
 ·injection h with h1 h2;rw [←h1,←h2];rfl
 ·split at h
  ·injection h with h1 h2;rw [←h1,←h2];rfl
  ·split at h
   ·injection h with h1 h2;rw [←h1,←h2];rfl
   ·split at h
    ·split at h
     ·cases h
     ·rename_i m' n' j' hi;injection h with h1 h2;rw [←h1,←h2];exact YR _ _ _ _ _ _ hi
    ·cases h
theorem JH (ere:Bool) (s:List UInt8):∀ (n:Nat) (st:ReSt) (d:Nd) (st':ReSt) (d':Nd) (st0:ReSt),CR d st0 st→GU d=true→inCat d=true→D2 ere s n st d=.ok (st',d')→CR d' st0 st'∧inCat d'=true:=by
 intro n;induction n with
 | zero=>intro st d st' d' st0 _ _ _ h;cases h
 | succ n ih=>
  intro st d st' d' st0 ht hr hc h;rw [D2] at h;cases hra:repAt ere s st.pos with
  | none=>
   rw [hra] at h;injection h with h;injection h with h1 h2;subst h1 h2;exact ⟨ht,hc⟩
  | bad=>rw [hra] at h;cases h
  | some mn mx c j=>
   rw [hra] at h;refine ih _ _ _ _ st0 ?_ rfl rfl h;have hs:CR (.rep d mn mx) st0 st:=by
    unfold CR;rw [Bz,Ab2 _ _ _ _ _ _ _ hra,hr];exact ht
   by_cases hc0:c=0
   ·rw [if_pos hc0];exact hs
   ·rw [if_neg hc0];exact hs
theorem Tf (ere:Bool) (st st':ReSt) (c:Nat) (d:Nd) (h:Dt ere st c=.ok (st',d)):CR d st st'∧GU d=true∧inCat d=true:=by
 unfold Dt at h;split at h
 ·split at h
  ·rename_i hcl;injection h with h;injection h with h1 h2;subst h1 h2;refine ⟨?_,rfl,rfl⟩;unfold CR;rw [Bz,if_pos hcl];cases ere <;> rfl
  ·cases h
 ·split at h
  ·cases h
  ·rename_i t m _;injection h with h;injection h with h1 h2;subst h1 h2;refine ⟨?_,rfl,rfl⟩;cases m <;> rfl
def Hy (sub:Option (ReSt→ReRes (ReSt × Nd))):Prop:=∀ f,sub=some f→∀ st st' d,f st=.ok (st',d)→CR d st st'
theorem Fp (ere:Bool) (s:List UInt8) (sub:Option (ReSt→ReRes (ReSt × Nd))) (hsub:Hy sub) (st st':ReSt) (d:Nd) (h:Ba ere s sub st=.ok (st',d)):CR d st st'∧GU d=true∧inCat d=true:=by
 unfold Ba at h;split at h
 ·unfold F6 at h;split at h
  ·cases h
  ·rename_i f;split at h
   ·cases h
   ·rename_i st1 d1 hf;split at h
    ·injection h with h;injection h with h1 h2;subst h1 h2;refine ⟨?_,rfl,rfl⟩;have ht:=hsub f rfl _ _ _ hf;unfold CR at ht ⊢;rw [Bz,if_pos rfl];simp only [Int.natCast_add,Int.natCast_one] at ht;rw [ht];rfl
    ·cases h
 ·split at h
  ·cases h
  ·split at h
   ·split at h
    ·injection h with h;injection h with h1 h2;subst h1 h2;exact ⟨rfl,rfl,rfl⟩
    ·cases h
   ·split at h
    ·injection h with h;injection h with h1 h2;subst h1 h2;exact ⟨rfl,rfl,rfl⟩
    ·split at h
     ·split at h
      ·exact Tf _ _ _ _ _ h
      ·cases h
     ·injection h with h;injection h with h1 h2;subst h1 h2;exact ⟨rfl,rfl,rfl⟩
theorem EW (l:List Nd) (h:l.all inCat=true):AN l=l:=by
 induction l with
 | nil=>rfl
 | cons d ds ih=>
  rw [List.all_cons,Af9] at h;have hd:Br d=[d]:=by cases d <;> first | rfl | (have h1:=h.1;cases h1)
  show Br d++AN ds=_;rw [hd,ih h.2];rfl
theorem I1 (l:List Nd) (h:l.all inAlt=true):AO l=l:=by
 induction l with
 | nil=>rfl
 | cons d ds ih=>
  rw [List.all_cons,Af9] at h;have hd:AT d=[d]:=by cases d <;> first | rfl | (have h1:=h.1;cases h1)
  show AT d++AO ds=_;rw [hd,ih h.2];rfl
theorem Sc {d:Nd} (h:inCat d=true):inAlt d=true:=by cases d <;> first | rfl | exact h
theorem PA {l:List Nd} {st st':ReSt} (h:DL l st st') (ha:l.all inCat=true):CR (B0 l) st st'∧inAlt (B0 l)=true:=by
 have hj:=EW l ha;unfold B0;rw [hj];rcases l with _ | ⟨x,_ | ⟨y,ys⟩⟩
 ·exact ⟨h,rfl⟩
 ·refine ⟨?_,?_⟩
  ·unfold DL at h;rw [FB] at h;exact h
  ·rw [List.all_cons,Af9] at ha;exact Sc ha.1
 ·refine ⟨?_,rfl⟩;unfold CR;show Bz (.cat (x :: y :: ys)) _ _=_;rw [Bz,ha,decide_eq_true (show 2≤(x :: y :: ys).length by simp)];exact h
theorem Mq {l:List Nd} {st st':ReSt} (h:DL l st st') (ha:l.all inAlt=true):CR (Co l) st st':=by
 have hj:=I1 l ha;unfold Co;rw [hj];rcases l with _ | ⟨x,_ | ⟨y,ys⟩⟩
 ·exact h
 ·unfold DL at h;rw [FB] at h;exact h
 ·unfold CR;show Bz (.alt (x :: y :: ys)) _ _=_;rw [Bz,ha,decide_eq_true (show 2≤(x :: y :: ys).length by simp)];exact h
theorem BR {p:Nd→Bool} {l:List Nd} {d:Nd} (h:l.all p=true) (k:p d=true):(l++[d]).all p=true:=by rw [List.all_append,h];simp [k]
theorem H8 (ere:Bool) (s:List UInt8) (sub:Option (ReSt→ReRes (ReSt × Nd))) (hsub:Hy sub) (top:Bool) (begin:Nat):∀ (n:Nat) (st:ReSt) (parts:List Nd) (front:Bool) (st':ReSt) (d:Nd) (st0:ReSt),DL parts st0 st→parts.all inCat=true→
  branchM ere s sub top begin n st parts front=.ok (st',d)→CR d st0 st'∧inAlt d=true:=by
 intro n;induction n with
 | zero=>intro st parts front st' d st0 _ _ h;cases h
 | succ n ih=>
  intro st parts front st' d st0 ht ha h;rw [branchM] at h;split at h
  ·injection h with h;injection h with h1 h2;subst h1 h2;exact PA ht ha
  ·split at h
   ·exact ih _ _ _ _ _ st0 (Er ht (show CR .start st (st.to (st.pos+1)) from rfl)) (BR ha rfl) h
   ·split at h
    ·exact ih _ _ _ _ _ st0 (Er ht (show CR .fin st (st.to (st.pos+1)) from rfl)) (BR ha rfl) h
    ·split at h
     ·cases h
     ·split at h
      ·cases h
      ·rename_i st1 d1 hat;obtain ⟨k1,k2,k3⟩:=Fp ere s sub hsub _ _ _ hat;split at h
       ·cases h
       ·rename_i st2 d2 hrp;obtain ⟨k4,k5⟩:=JH ere s _ _ _ _ _ st k1 k2 k3 hrp;exact ih _ _ _ _ _ st0 (Er ht k4) (BR ha k5) h
theorem H9 (ere:Bool) (s:List UInt8) (sub:Option (ReSt→ReRes (ReSt × Nd))) (hsub:Hy sub) (top:Bool):∀ (n:Nat) (st:ReSt) (l:List Nd) (st':ReSt) (d:Nd) (st0:ReSt),DL l st0 st→l.all inAlt=true→
  At ere s sub top n st l=.ok (st',d)→CR d st0 st':=by
 intro n;induction n with
 | zero=>intro st l st' d st0 _ _ h;cases h
 | succ n ih=>
  intro st l st' d st0 ht ha h;rw [At] at h;split at h
  ·cases h
  ·rename_i st1 d1 hb;obtain ⟨k1,k2⟩:=H8 ere s sub hsub top _ _ _ _ _ _ _ st (show DL [] st st from rfl) rfl hb;split at h
   ·refine ih _ _ _ _ st0 ?_ (BR ha k2) h;have:=Er ht k1;cases ere <;> exact this
   ·injection h with h;injection h with h1 h2;subst h1 h2;exact Mq (Er ht k1) (BR ha k2)
theorem I3 (ere:Bool) (s:List UInt8):∀ (k:Nat) (st st':ReSt) (d:Nd),Cs ere s k st=.ok (st',d)→CR d st st':=by
 intro k;induction k with
 | zero=>
  intro st st' d h;exact H9 ere s none (fun f hf=>by cases hf) false _ _ _ _ _ st (show DL [] st st from rfl) rfl h
 | succ k ih=>
  intro st st' d h;exact H9 ere s (some (Cs ere s k)) (fun f hf=>by injection hf with hf;subst hf;exact ih) false _ _ _ _ _ st (show DL [] st st from rfl) rfl h
end
section
end
section
end
section
def Itm.up (a:Itm) (d:Nat):Itm:=⟨a.set,a.may,if a.err=0 then a.next+d else 0,a.err,if a.err=0 then 0 else a.place+d⟩
theorem JI (s:List UInt8) (sub:Option (ReSt→ReRes (ReSt × Nd))) (begin n:Nat) (st:ReSt) (parts:List Nd) (front:Bool) (h:AG s st.pos=true):branchM false s sub false begin (n+1) st parts front=.ok (st,B0 parts):=by
 rw [branchM];unfold AG at h;simp only [A5,Af2,if_false,Bool.not_false,Bool.and_true];rw [h,if_pos rfl]
end
section
open Go.RowKit
theorem Dk (s:ByteArray) (k:Nat) (h:k < s.size):byt s.data.toList k=s[k].toNat:=by
 unfold byt;rw [Af7,Af4 (by simpa using h)];rfl
theorem Av (s:ByteArray):s.data.toList.length=s.size:=by simp
theorem Ab3 (b:UInt8):(0:Int)≤(b.toNat:Int):=Int.natCast_nonneg _
theorem Ab4 (b:UInt8):(b.toNat:Int)≤255:=by have:=b.toNat_lt;omega
def Y2 (s:List UInt8) (k:Nat):Bool:=decide (k+1 < s.length) && decide (byt s k=45) && !decide (byt s (k+1)=93)
theorem N7 (s:ByteArray) (k:Nat) (w:World) (hs:s.size≤35184372088832) (hk:k≤s.size) :
  Calls prog 170 #[.string s,.int .i64 (k:Int)] w fun e w'=>e=.returned (.bool (Y2 s.data.toList k))∧Below w.heap.size w w':=by
 have Wn:IntKind.i64.wrap ((k:Int)+1)=(k:Int)+1:=Afx _ (by omega);by_cases q1:k+1 < s.size
 ·have Hd:=Afj (show Y2 s.data.toList k=(decide (s[k].toNat=45) && !decide (s[k+1].toNat=93)) by
   unfold Y2;rw [Av,Dk s k (by omega),Dk s (k+1) q1,decide_eq_true q1,Bool.true_and])
  have r1:decide ((k:Int)+1 < (s.size:Int))=true:=by simp;omega
  by_cases q2:s[k].toNat=45
  ·have r2:((s[k].toNat:Int) == 45)=true:=by simp;omega
   have Q2:=Afj q2;clear q2;by_cases q3:s[k+1].toNat=93
   ·have r3:((s[k+1].toNat:Int) != 93)=false:=by simp;omega
    have Q3:=Afj q3;clear q3;go_enter func170,ntmps170;go_wp2_with fail
    go_ret;exact ⟨FF (by rw [Hd.out,Q2.out,Q3.out];rfl),Afv _ _⟩
   ·have r3:((s[k+1].toNat:Int) != 93)=true:=by simp;omega
    have Q3:=Afj q3;clear q3;go_enter func170,ntmps170;go_wp2_with fail
    go_ret;exact ⟨FF (by rw [Hd.out,Q2.out,decide_eq_false Q3.out];rfl),Afv _ _⟩
  ·have r2:((s[k].toNat:Int) == 45)=false:=by simp;omega
   have Q2:=Afj q2;clear q2;go_enter func170,ntmps170;go_wp2_with fail
   go_ret;exact ⟨FF (by rw [Hd.out,decide_eq_false Q2.out];rfl),Afv _ _⟩
 ·have r1:decide ((k:Int)+1 < (s.size:Int))=false:=by simp;omega
  have Hd:=Afj (show Y2 s.data.toList k=false by
   unfold Y2;rw [Av,decide_eq_false q1];rfl)
  go_enter func170,ntmps170;go_wp2_with fail
  go_ret;exact ⟨FF (by rw [Hd.out]),Afv _ _⟩
theorem GC {w:World} {a:Nat} {s:OSet} {m:Bool} {T:TypeId} (h:Blk w a #[.int .u64 (ow s 0),.int .u64 (ow s 1),.int .u64 (ow s 2),.int .u64 (ow s 3),.bool m] T) :
  w.cell? ⟨a,0,none⟩=some (.int .u64 (ow s 0))∧w.cell? ⟨a,1,none⟩=some (.int .u64 (ow s 1))∧w.cell? ⟨a,2,none⟩=some (.int .u64 (ow s 2))∧w.cell? ⟨a,3,none⟩=some (.int .u64 (ow s 3))∧w.cell? ⟨a,4,none⟩=some (.bool m):=
 ⟨(h.cell 0).trans rfl,(h.cell 1).trans rfl,(h.cell 2).trans rfl,(h.cell 3).trans rfl,(h.cell 4).trans rfl⟩
theorem Vt:(.agg #[.int .u64 (ow oz 0),.int .u64 (ow oz 1),.int .u64 (ow oz 2),.int .u64 (ow oz 3)]:Value)=.agg #[.int .u64 0,.int .u64 0,.int .u64 0,.int .u64 0]:=by rw [Ap,Ap,Ap,Ap]
theorem Ls (b:Nat) (hb:b < 256) (w:World) (hT:TabIn w) (hg:5 < w.heap.size) :
  Calls prog 182 #[.agg #[.int .u64 (ow (Ac b b) 0),.int .u64 (ow (Ac b b) 1),.int .u64 (ow (Ac b b) 2),.int .u64 (ow (Ac b b) 3)]] w fun e w'=>e=.returned (.tuple #[.int .u8 (b:Int),.bool true])∧Below w.heap.size w w':=
 P4 (Ac b b) b hb (by rw [Jh b b hb];simp) (fun c hc=>by rw [Jh b c hb];simp;omega) w hT hg
def Sd (A B:OSet) (ma mb:Bool):OSet:=if ma && mb then Ac (Vh A) (Vh B) else oz
theorem Tg (A B:OSet) (ma mb:Bool) (hA:ma=true→∃ b:Nat,b < 256∧A=Ac b b) (hB:mb=true→∃ b:Nat,b < 256∧B=Ac b b) (w:World) (hT:TabIn w) (hg:5 < w.heap.size) :
  Calls prog 171 #[.agg #[.int .u64 (ow A 0),.int .u64 (ow A 1),.int .u64 (ow A 2),.int .u64 (ow A 3),.bool ma],.agg #[.int .u64 (ow B 0),.int .u64 (ow B 1),.int .u64 (ow B 2),.int .u64 (ow B 3),.bool mb]] w fun e w'=>e=.returned (.agg #[.int .u64 (ow (Sd A B ma mb) 0),.int .u64 (ow (Sd A B ma mb) 1),.int .u64 (ow (Sd A B ma mb) 2),.int .u64 (ow (Sd A B ma mb) 3)])∧Below w.heap.size w w':=by
 have hW:=(((Afv w.heap.size w).alloc (Afq _) (.cells #[.int .u64 (ow A 0),.int .u64 (ow A 1),.int .u64 (ow A 2),.int .u64 (ow A 3),.bool ma] 260)).alloc (by simp) (.cells #[.int .u64 (ow B 0),.int .u64 (ow B 1),.int .u64 (ow B 2),.int .u64 (ow B 3),.bool mb] 260)).alloc (by simp;omega) (.cells #[.int .u64 0,.int .u64 0,.int .u64 0,.int .u64 0] 108);cases ma
 ·go_enter func171,ntmps171;go_wp2_with fail
  refine bodyPost_ret (v:=.agg #[.int .u64 0,.int .u64 0,.int .u64 0,.int .u64 0]) (by simp [results,results171,go_sem]) rfl ⟨by rw [show Sd A B false mb=oz from rfl,Vt],hW⟩
 ·cases mb
  ·go_enter func171,ntmps171;go_wp2_with fail
   refine bodyPost_ret (v:=.agg #[.int .u64 0,.int .u64 0,.int .u64 0,.int .u64 0]) (by simp [results,results171,go_sem]) rfl ⟨by rw [show Sd A B true false=oz from rfl,Vt],hW⟩
  ·obtain ⟨a,ha,rfl⟩:=hA rfl;obtain ⟨b,hb,rfl⟩:=hB rfl;have hs:Sd (Ac a a) (Ac b b) true true=Ac a b:=by
    unfold Sd;rw [(Ml a ha).2,(Ml b hb).2];rfl
   rw [hs];have hb2:=(((Blk.new w #[.int .u64 (ow (Ac a a) 0),.int .u64 (ow (Ac a a) 1),.int .u64 (ow (Ac a a) 2),.int .u64 (ow (Ac a a) 3),.bool true] 260 _ rfl).alloc (.cells #[.int .u64 (ow (Ac b b) 0),.int .u64 (ow (Ac b b) 1),.int .u64 (ow (Ac b b) 2),.int .u64 (ow (Ac b b) 3),.bool true] 260)).alloc (.cells #[.int .u64 0,.int .u64 0,.int .u64 0,.int .u64 0] 108))
   have hb3:=((Blk.new (w.alloc (.cells #[.int .u64 (ow (Ac a a) 0),.int .u64 (ow (Ac a a) 1),.int .u64 (ow (Ac a a) 2),.int .u64 (ow (Ac a a) 3),.bool true] 260)) #[.int .u64 (ow (Ac b b) 0),.int .u64 (ow (Ac b b) 1),.int .u64 (ow (Ac b b) 2),.int .u64 (ow (Ac b b) 3),.bool true] 260 _ rfl).alloc (.cells #[.int .u64 0,.int .u64 0,.int .u64 0,.int .u64 0] 108))
   have hb4:=Blk.new ((w.alloc (.cells #[.int .u64 (ow (Ac a a) 0),.int .u64 (ow (Ac a a) 1),.int .u64 (ow (Ac a a) 2),.int .u64 (ow (Ac a a) 3),.bool true] 260)).alloc (.cells #[.int .u64 (ow (Ac b b) 0),.int .u64 (ow (Ac b b) 1),.int .u64 (ow (Ac b b) 2),.int .u64 (ow (Ac b b) 3),.bool true] 260)) #[.int .u64 0,.int .u64 0,.int .u64 0,.int .u64 0] 108 _ rfl;simp only [World.size_alloc] at hb3 hb4;have hT2:=E9 hT hW hg;go_enter func171,ntmps171;go_wp2_with fail
   refine (Ls a ha _ hT2 (Aft hg hW.size)).mono ?_;rintro e w1 ⟨rfl,b1⟩;replace hW:=hW.trans (b1.mono hW.size);replace hb3:=hb3.below b1 hb3.lt;replace hb4:=hb4.below b1 hb4.lt;clear hT2 hb2 b1;have hT3:=E9 hT hW hg;obtain ⟨c0,c1,c2,c3,c4⟩:=GC hb3;go_wp2_with fail
   refine (Ls b hb _ hT3 (Aft hg hW.size)).mono ?_;rintro e w2 ⟨rfl,b2⟩;replace hW:=hW.trans (b2.mono hW.size);replace hb4:=hb4.below b2 hb4.lt;clear c0 c1 c2 c3 c4 hb3 b2 hT3;go_wp2_with fail
   refine (EU a b _ (by omega) (by omega) (by omega) (by omega)).mono ?_;rintro e w3 ⟨rfl,b3⟩;replace hW:=hW.trans (b3.mono hW.size);replace hb4:=hb4.below b3 hb4.lt;clear b3;obtain ⟨d0,d1,d2,d3⟩:=Ai hb4;have f0:=hb4.frozen 0;have f1:=hb4.frozen 1;have f2:=hb4.frozen 2;have f3:=hb4.frozen 3;have hlB:=hb4.lt;go_wp2_with fail
   refine bodyPost_ret (v:=.agg #[.int .u64 (ow (Ac a b) 0),.int .u64 (ow (Ac a b) 1),.int .u64 (ow (Ac a b) 2),.int .u64 (ow (Ac a b) 3)]) (by simp [results,results171,go_sem,d0,d1,d2,d3,hlB]) rfl ⟨rfl,?_⟩
   repeat (first | exact hW | refine Aga ?_ (by first | omega | (simp;omega) | simp) _)
end
section
open Go.RowKit Go.Shelf
theorem Ab5 (W:World) (x y:Int):(convert 164 9 (.slice (some ⟨W.heap.size,0,none⟩) 2 2)).run prog (W.alloc (.cells #[.int .u8 x,.int .u8 y] 5))=.ok (.string (strOfNums [x,y])) (W.alloc (.cells #[.int .u8 x,.int .u8 y] 5)):=
 run_convert_bytes_arg _ 164 5 underlying164 underlying5 _ 0 2 2 [x,y] rfl (fun i hi=>by
  rw [(Blk.new W _ _ _ rfl).cell]
  match i,hi with
  | 0,_=>rfl
  | 1,_=>rfl) _ underlying9
theorem Gj (W:World) (x y:Int):(convert 164 9 (.slice (some ⟨W.heap.size,0,none⟩) 2 2)).run prog (W.alloc (.cells #[.int .u8 x,.int .u8 y] 5)).drew=.ok (.string (strOfNums [x,y])) (W.alloc (.cells #[.int .u8 x,.int .u8 y] 5)).drew:=Ab5 W.drew x y
theorem N8 (x y:Nat):(strOfNums [(x:Int),(y:Int)]).data.toList=[UInt8.ofNat x,UInt8.ofNat y]:=rfl
theorem BS (s:ByteArray) (k:Nat):(s.extract k s.size).data.toList=s.data.toList.drop k:=by
 rw [ByteArray.data_extract,Array.toList_extract,List.extract_eq_take_drop];rw [List.take_of_length_le];simp
def Ae6:Go.Shelf.Ren:=⟨fun | 143=>186 | 217=>52 | 219=>35 | 224=>54 | 225=>53 | 266=>76 | 267=>55 | 314=>77 | n=>n,fun | 3=>3 | 4=>4 | 5=>5 | 9=>9 | 46=>124 | 51=>149 | 146=>150 | n=>n,fun | 1=>0 | n=>n⟩
theorem Aec:Go.Proofs.Lays.n143 prog Ae6:={
 mixed:=by kernel_rfl
 f143:=Tryz.func186.trans (congrArg some (by kernel_rfl))
 f217:=Tryz.func52.trans (congrArg some (by kernel_rfl))
 f219:=Tryz.func35.trans (congrArg some (by kernel_rfl))
 f224:=Tryz.func54.trans (congrArg some (by kernel_rfl))
 f225:=Tryz.func53.trans (congrArg some (by kernel_rfl))
 f266:=Tryz.func76.trans (congrArg some (by kernel_rfl))
 f267:=Tryz.func55.trans (congrArg some (by kernel_rfl))
 f314:=Tryz.func77.trans (congrArg some (by kernel_rfl))
 t3:=underlying3
 a3:=isAgg3
 z3:=sizeOf3
 v3:=zeroValue3
 t4:=underlying4
 a4:=isAgg4
 z4:=sizeOf4
 v4:=zeroValue4
 t5:=underlying5
 a5:=isAgg5
 z5:=sizeOf5
 v5:=zeroValue5
 t9:=underlying9
 a9:=isAgg9
 z9:=sizeOf9
 v9:=zeroValue9
 t46:=underlying124
 a46:=isAgg124
 z46:=sizeOf124
 v46:=zeroValue124
 t51:=underlying149
 a51:=isAgg149
 z51:=sizeOf149
 v51:=zeroValue149
 t146:=underlying150
 a146:=isAgg150
 z146:=sizeOf150
 v146:=zeroValue150
 g1:=by kernel_rfl }
theorem Th (s t:ByteArray) (m:Int) (w:World) (hs:s.size < 4294967281) (hm:w.cell? ⟨0,0,none⟩=some (.int .i64 m)) :
  Calls prog 186 #[.string s,.string t] w fun e w'=>e=.returned (.int .i64 (Lib.index s.data.toList t.data.toList))∧w=w':=
 (Any.strings_Index Aec s t m w hs hm).mono fun _ _ ⟨h1,h2⟩=>⟨h1,h2.symm⟩
def Aed:Go.Shelf.Ren:=⟨fun | 99=>21 | 206=>30 | n=>n,fun | 3=>3 | 4=>4 | 9=>9 | n=>n,fun n=>n⟩
theorem Aee:Go.Proofs.Lays.n99 prog Aed:={
 mixed:=by kernel_rfl
 f99:=Tryz.func21.trans (congrArg some (by kernel_rfl))
 f206:=Tryz.func30.trans (congrArg some (by kernel_rfl))
 t3:=underlying3
 a3:=isAgg3
 z3:=sizeOf3
 v3:=zeroValue3
 t4:=underlying4
 a4:=isAgg4
 z4:=sizeOf4
 v4:=zeroValue4
 t9:=underlying9
 a9:=isAgg9
 z9:=sizeOf9
 v9:=zeroValue9 }
theorem Cw (s t:ByteArray) (w:World) :
  Calls prog 21 #[.string s,.string t] w fun e w'=>e=.returned (.bool (Lib.hasPrefix s.data.toList t.data.toList))∧w=w':=
 (Any.strings_HasPrefix Aee s t w).mono fun _ _ ⟨h1,h2⟩=>⟨h1,h2.symm⟩
end
section
open Go.RowKit
theorem DU (b:Nat):DE [(b:Int)]=Ac b b:=by
 unfold Ac DE;rw [show ((b:Int) - (b:Int)+1).toNat=1 by omega,Int.toNat_natCast];simp [CZ]
theorem Ca {w:World} {a:Nat} {T:TypeId} (h:Blk w a #[.int .u64 0,.int .u64 0,.int .u64 0,.int .u64 0,.bool false] T) :
  w.cell? ⟨a,0,none⟩=some (.int .u64 0)∧w.cell? ⟨a,1,none⟩=some (.int .u64 0)∧w.cell? ⟨a,2,none⟩=some (.int .u64 0)∧w.cell? ⟨a,3,none⟩=some (.int .u64 0)∧w.cell? ⟨a,4,none⟩=some (.bool false):=
 ⟨(h.cell 0).trans rfl,(h.cell 1).trans rfl,(h.cell 2).trans rfl,(h.cell 3).trans rfl,(h.cell 4).trans rfl⟩
def Vu (s:OSet) (m ok:Bool):Value:=.tuple #[.agg #[.int .u64 (ow s 0),.int .u64 (ow s 1),.int .u64 (ow s 2),.int .u64 (ow s 3),.bool m],.bool ok]
theorem YS (t:ByteArray) (w:World) :
  Calls prog 184 #[.string t,.int .u8 58] w fun e w'=>e=.returned (Vu (A8 t.toList) false (CN t.toList))∧Below w.heap.size w w':=by
 have hB:=Blk.new w #[.int .u64 0,.int .u64 0,.int .u64 0,.int .u64 0,.bool false] 260 _ rfl;have hW:=(Afv w.heap.size w).alloc (Afq _) (.cells #[.int .u64 0,.int .u64 0,.int .u64 0,.int .u64 0,.bool false] 260);generalize hcs:A8 t.toList=cs;generalize hok:CN t.toList=ok;go_enter func184,ntmps184;go_wp2_with fail
 refine (Lo _ _).mono ?_;rintro e w1 ⟨he,b1⟩;rw [hcs,hok] at he;subst he;replace hW:=hW.trans (b1.mono hW.size);replace hB:=hB.below b1 hB.lt;clear b1;obtain ⟨d0,d1,d2,d3,d4⟩:=Ca hB;have f0:=hB.frozen 0;have f1:=hB.frozen 1;have f2:=hB.frozen 2;have f3:=hB.frozen 3;have f4:=hB.frozen 4;have hlB:=hB.lt;go_wp2_with fail
 refine bodyPost_ret (v:=Vu cs false ok) (by simp [results,results184,go_sem,d0,d1,d2,d3,d4,Vu,hlB]) rfl ⟨rfl,?_⟩
 repeat (first | (with_reducible exact hW) | refine Aga ?_ (by first | omega | (simp;omega) | simp) _ | refine Agc ?_ (by first | omega | (simp;omega) | simp) _)
theorem Ti (t:ByteArray) (o:Int) (w:World) (ho:o≠58) (ht:t.size=1) :
  Calls prog 184 #[.string t,.int .u8 o] w fun e w'=>e=.returned (Vu (Ac (byt t.data.toList 0) (byt t.data.toList 0)) (o == 46) true)∧Below w.heap.size w w':=by
 have r1:(o == 58)=false:=by simp [ho]
 have r2:((t.size:Int) != 1)=false:=by simp [ht]
 have hb:=Afj (Dk t 0 (by omega));have lt0:0 < t.size:=by omega
 rw [hb.out];have hB:=Blk.new w #[.int .u64 0,.int .u64 0,.int .u64 0,.int .u64 0,.bool false] 260 _ rfl;have hW:=(Afv w.heap.size w).alloc (Afq _) (.cells #[.int .u64 0,.int .u64 0,.int .u64 0,.int .u64 0,.bool false] 260);go_enter func184,ntmps184;go_wp2_with fail
 refine (CI (t[0].toNat:Int) (Ab3 _) (Ab4 _) _ _ (by simp)).mono ?_;rintro e w1 ⟨rfl,b1⟩;rw [DU];replace hW:=hW.trans (b1.mono hW.size);replace hB:=hB.below b1 hB.lt;clear b1;obtain ⟨d0,d1,d2,d3,d4⟩:=Ca hB;have f0:=hB.frozen 0;have f1:=hB.frozen 1;have f2:=hB.frozen 2;have f3:=hB.frozen 3;have f4:=hB.frozen 4;have hlB:=hB.lt;go_wp2_with fail
 refine bodyPost_ret (v:=Vu (Ac (t[0].toNat:Int) (t[0].toNat:Int)) (o == 46) true) (by simp [results,results184,go_sem,d0,d1,d2,d3,d4,Vu,hlB]) rfl ⟨rfl,?_⟩
 repeat (first | (with_reducible exact hW) | refine Aga ?_ (by first | omega | (simp;omega) | simp) _ | refine Agc ?_ (by first | omega | (simp;omega) | simp) _)
theorem PB (t:ByteArray) (o:Int) (w:World) (ho:o≠58) (ht:t.size≠1) :
  Calls prog 184 #[.string t,.int .u8 o] w fun e w'=>e=.returned (Vu oz false false)∧Below w.heap.size w w':=by
 have r1:(o == 58)=false:=by simp [ho]
 have r2:((t.size:Int) != 1)=true:=by simp;omega
 have hB:=Blk.new w #[.int .u64 0,.int .u64 0,.int .u64 0,.int .u64 0,.bool false] 260 _ rfl;have hW:=(Afv w.heap.size w).alloc (Afq _) (.cells #[.int .u64 0,.int .u64 0,.int .u64 0,.int .u64 0,.bool false] 260);go_enter func184,ntmps184;go_wp2_with fail
 refine bodyPost_ret (v:=Vu oz false false) (by simp [results,results184,go_sem,Vu,Ap]) rfl ⟨rfl,?_⟩
 repeat (first | (with_reducible exact hW) | refine Aga ?_ (by first | omega | (simp;omega) | simp) _ | refine Agc ?_ (by first | omega | (simp;omega) | simp) _)
def Tj (s:List UInt8) (o:Nat) (e:Nat):Int:=match N5 s o e with
 | some x=>(x:Int)
 | none=>-1
def Nx (s:List UInt8) (o:Nat) (e:Nat):Int:=match N5 s o e with
 | some x=>(x:Int) - (e:Int)
 | none=>-1
theorem Se (s:List UInt8) (o e:Nat) (h:¬ Nx s o e < 0):Tj s o e=(e:Int)+Nx s o e∧0≤Nx s o e∧(e:Int)+Nx s o e < s.length:=by
 unfold Tj Nx at *;cases hf:N5 s o e with
 | none=>rw [hf] at h;simp at h
 | some x=>
  have:=JD _ _ _ _ hf;simp only;omega
theorem Vv (s:List UInt8) (o e:Nat) (h:Nx s o e < 0):Tj s o e=-1:=by
 unfold Tj Nx at *;cases hf:N5 s o e with
 | none=>rfl
 | some x=>
  have:=JD _ _ _ _ hf;rw [hf] at h;simp only at h;omega
theorem Vw (s:List UInt8) (o e:Nat) (h:s.length≤e):Tj s o e=-1:=by
 unfold Tj;rw [N5,if_neg (by omega)]
theorem YT (s:ByteArray) (k o:Nat) (w:World) (m:Int) (hs:s.size≤1000000) (hk:k≤s.size) (ho:o < 256) (hm:w.cell? ⟨0,0,none⟩=some (.int .i64 m)) :
  Calls prog 186 #[.string (s.extract k s.size),.string (strOfNums [(o:Int),93])] w fun e w'=>e=.returned (.int .i64 (Nx s.data.toList o k))∧w=w':=by
 have h:=Th (s.extract k s.size) (strOfNums [(o:Int),((93:Nat):Int)]) m w (by simp;omega) hm;rw [BS,N8,show UInt8.ofNat 93=93 from rfl,YL _ _ _ (by rw [Av];exact hk),show (UInt8.ofNat o).toNat=o by simp;omega] at h;exact h
theorem Vx (s:ByteArray) (k o:Nat) (w:World) (m:Int) (hs:s.size≤1000000) (hk:k≤s.size) (ho:o < 256) (h58:o=58) (hm:w.cell? ⟨0,0,none⟩=some (.int .i64 m)) (hg:0 < w.heap.size) :
  Calls prog 183 #[.string s,.int .i64 (k:Int),.int .u8 (o:Int)] w fun e w'=>e=.returned (.int .i64 (Tj s.data.toList o k))∧Below w.heap.size w w':=by
 have kc:=Gj w o 93;have hm2:∀ x,(w.alloc x).cell? ⟨0,0,none⟩=some (.int .i64 m):=fun x=>(((Afv w.heap.size w).alloc (Afq _) x).cell (p:=⟨0,0,none⟩) hg).trans hm;have hm3:∀ x,(w.alloc x).drew.cell? ⟨0,0,none⟩=some (.int .i64 m):=hm2
 have r1:((o:Int) != 58)=false:=by simp [h58]
 have r2:decide ((s.size:Int) < (k:Int))=false:=by simp;omega
 have r3:decide (s.size < k)=false:=decide_eq_false (by omega);clear h58;by_cases hc:Nx s.data.toList o k < 0
 ·have Hc:=Afj (Vv _ _ _ hc);have r4:decide (Nx s.data.toList o k < 0)=true:=decide_eq_true hc;clear hc
  (go_enter func183,ntmps183;go_wp2_with fail;go_region_with (go_at_call 186;refine (YT s k o _ m hs (by omega) ho (hm3 _)).mono ?_;rintro e w1 ⟨rfl,rfl⟩);go_wp2_with fail)
  go_ret;exact ⟨Ha (by rw [Hc.out]),Agb ((Afv w.heap.size w).alloc (Afq _) _)⟩
 ·have hy:=Se _ _ _ hc;rw [Av] at hy;obtain ⟨hy1,hy2,hy3⟩:=hy;have Hc:=Afj hy1;clear hy1;have r4:decide (Nx s.data.toList o k < 0)=false:=decide_eq_false hc;have r5:IntKind.i64.wrap ((k:Int)+Nx s.data.toList o k)=(k:Int)+Nx s.data.toList o k:=Afx _ (by omega);clear hc
  (go_enter func183,ntmps183;go_wp2_with fail;go_region_with (go_at_call 186;refine (YT s k o _ m hs (by omega) ho (hm3 _)).mono ?_;rintro e w1 ⟨rfl,rfl⟩);go_wp2_with fail)
  go_ret;exact ⟨Ha (by rw [Hc.out]),Agb ((Afv w.heap.size w).alloc (Afq _) _)⟩
theorem PC (s:ByteArray) (k o:Nat) (w:World) (m:Int) (hs:s.size≤1000000) (hk:k≤s.size) (ho:o < 256) (h58:o≠58) (hm:w.cell? ⟨0,0,none⟩=some (.int .i64 m)) (hg:0 < w.heap.size) :
  Calls prog 183 #[.string s,.int .i64 (k:Int),.int .u8 (o:Int)] w fun e w'=>e=.returned (.int .i64 (Tj s.data.toList o (k+1)))∧Below w.heap.size w w':=by
 have kc:=Gj w o 93;have hm2:∀ x,(w.alloc x).cell? ⟨0,0,none⟩=some (.int .i64 m):=fun x=>(((Afv w.heap.size w).alloc (Afq _) x).cell (p:=⟨0,0,none⟩) hg).trans hm;have hm3:∀ x,(w.alloc x).drew.cell? ⟨0,0,none⟩=some (.int .i64 m):=hm2
 have Wn:IntKind.i64.wrap ((k:Int)+1)=((k+1:Nat):Int):=by rw [Afx _ (by omega)];omega
 have r1:((o:Int) != 58)=true:=by simp;omega
 clear h58;by_cases hlt:k+1≤s.size
 ·generalize hk1:k+1=k1 at *;have r2:decide ((s.size:Int) < (k1:Int))=false:=by simp;omega
  have r3:decide (s.size < k1)=false:=decide_eq_false (by omega);by_cases hc:Nx s.data.toList o k1 < 0
  ·have Hc:=Afj (Vv _ _ _ hc);have r4:decide (Nx s.data.toList o k1 < 0)=true:=decide_eq_true hc;clear hc
   (go_enter func183,ntmps183;go_wp2_with fail;go_region_with (go_at_call 186;refine (YT s k1 o _ m hs (by omega) ho (hm3 _)).mono ?_;rintro e w1 ⟨rfl,rfl⟩);go_wp2_with fail)
   go_ret;exact ⟨Ha (by rw [Hc.out]),Agb ((Afv w.heap.size w).alloc (Afq _) _)⟩
  ·have hy:=Se _ _ _ hc;rw [Av] at hy;obtain ⟨hy1,hy2,hy3⟩:=hy;have Hc:=Afj hy1;clear hy1;have r4:decide (Nx s.data.toList o k1 < 0)=false:=decide_eq_false hc;have r5:IntKind.i64.wrap ((k1:Int)+Nx s.data.toList o k1)=(k1:Int)+Nx s.data.toList o k1:=Afx _ (by omega);clear hc
   (go_enter func183,ntmps183;go_wp2_with fail;go_region_with (go_at_call 186;refine (YT s k1 o _ m hs (by omega) ho (hm3 _)).mono ?_;rintro e w1 ⟨rfl,rfl⟩);go_wp2_with fail)
   go_ret;exact ⟨Ha (by rw [Hc.out]),Agb ((Afv w.heap.size w).alloc (Afq _) _)⟩
 ·have r2:decide ((s.size:Int) < ((k+1:Nat):Int))=true:=by simp;omega
  have Hp:=Afj (Vw s.data.toList o (k+1) (by rw [Av];omega));generalize hk1:k+1=k1 at *;have r3:decide (s.size < k1)=true:=decide_eq_true (by omega);go_enter func183,ntmps183;go_wp2_with fail
  go_ret;exact ⟨Ha (by rw [Hp.out]),Afv _ _⟩
def glN:Nat:=Nat.max (Nat.max 5 4) 0+1
structure Gl (w:World):Prop where
 tab:TabIn w
 op0:w.cell? ⟨4,0,none⟩=some (.int .u8 58)
 op1:w.cell? ⟨4,1,none⟩=some (.int .u8 61)
 op2:w.cell? ⟨4,2,none⟩=some (.int .u8 46)
 ml:∃ m,w.cell? ⟨0,0,none⟩=some (.int .i64 m)
 lt:glN≤w.heap.size
theorem Gl.below {w w':World} {B:Nat} (h:Gl w) (hb:Below B w w') (hB:glN≤B):Gl w':=
 ⟨E9 h.tab hb (Aft (by decide) hB),
  (hb.cell (p:=⟨4,0,none⟩) (Aft (by decide) hB)).trans h.op0,
  (hb.cell (p:=⟨4,1,none⟩) (Aft (by decide) hB)).trans h.op1,
  (hb.cell (p:=⟨4,2,none⟩) (Aft (by decide) hB)).trans h.op2,
  h.ml.imp fun _ hm=>(hb.cell (p:=⟨0,0,none⟩) (Aft (by decide) hB)).trans hm,
  Afr h.lt hb.size⟩
theorem Gl.up {w w':World} (h:Gl w) (hb:Below w.heap.size w w'):Gl w':=h.below hb h.lt
def GR (s:OSet) (m:Bool) (at':Nat) (er:Nat):Value:=.tuple #[.agg #[.int .u64 (ow s 0),.int .u64 (ow s 1),.int .u64 (ow s 2),.int .u64 (ow s 3),.bool m],.int .i64 (at':Int),.int .i64 (er:Int)]
theorem N9 (s:ByteArray) (k o:Nat) (w:World) (hs:s.size≤1000000) (hk:k+2≤s.size) (hG:Gl w)
  (hcl:∀ w,Gl w→Calls prog 183 #[.string s,.int .i64 ((k:Int)+2),.int .u8 (o:Int)] w fun e w'=>e=.returned (.int .i64 (-1))∧Below w.heap.size w w') :
  Calls prog 181 #[.string s,.int .i64 (k:Int),.int .u8 (o:Int)] w fun e w'=>e=.returned (GR oz false s.size 5)∧Below w.heap.size w w':=by
 have hB:=Blk.new w #[.int .u64 0,.int .u64 0,.int .u64 0,.int .u64 0,.bool false] 260 _ rfl;have hW:=(Afv w.heap.size w).alloc (Afq _) (.cells #[.int .u64 0,.int .u64 0,.int .u64 0,.int .u64 0,.bool false] 260);have Wn:IntKind.i64.wrap ((k:Int)+2)=(k:Int)+2:=Afx _ (by omega);have hG1:=hG.up hW;go_enter func181,ntmps181;go_wp2_with fail
 refine (hcl _ hG1).mono ?_;rintro e w1 ⟨rfl,b1⟩;replace hW:=hW.trans (b1.mono hW.size);replace hB:=hB.below b1 hB.lt;clear b1;obtain ⟨d0,d1,d2,d3,d4⟩:=Ca hB;have f0:=hB.frozen 0;have f1:=hB.frozen 1;have f2:=hB.frozen 2;have f3:=hB.frozen 3;have f4:=hB.frozen 4;have hlB:=hB.lt;go_wp2_with fail
 refine bodyPost_ret (v:=GR oz false s.size 5) (by simp [results,results181,go_sem,d0,d1,d2,d3,d4,GR,hlB,Ap]) rfl ⟨rfl,?_⟩
 repeat (first | (with_reducible exact hW) | refine Aga ?_ (by first | omega | (simp;omega) | simp) _ | refine Agc ?_ (by first | omega | (simp;omega) | simp) _)
theorem FJ (s:ByteArray) (k o x:Nat) (cs:OSet) (m ok:Bool) (w:World) (hs:s.size≤1000000) (hk:k+2≤s.size) (hG:Gl w) (hx0:k+2≤x) (hx1:x+1 < s.size)
  (hcl:∀ w,Gl w→Calls prog 183 #[.string s,.int .i64 ((k:Int)+2),.int .u8 (o:Int)] w fun e w'=>e=.returned (.int .i64 (x:Int))∧Below w.heap.size w w')
  (hnm:∀ w,Calls prog 184 #[.string (s.extract (k+2) x),.int .u8 (o:Int)] w fun e w'=>e=.returned (Vu cs m ok)∧Below w.heap.size w w') :
  Calls prog 181 #[.string s,.int .i64 (k:Int),.int .u8 (o:Int)] w fun e w'=>e=.returned (if ok then GR cs m (x+2) 0 else GR oz false k 6)∧Below w.heap.size w w':=by
 have hB:=Blk.new w #[.int .u64 0,.int .u64 0,.int .u64 0,.int .u64 0,.bool false] 260 _ rfl;have hW:=(Afv w.heap.size w).alloc (Afq _) (.cells #[.int .u64 0,.int .u64 0,.int .u64 0,.int .u64 0,.bool false] 260);have Wn:IntKind.i64.wrap ((k:Int)+2)=(k:Int)+2:=Afx _ (by omega);have Wx:IntKind.i64.wrap ((x:Int)+2)=(x:Int)+2:=Afx _ (by omega);have hG1:=hG.up hW;go_enter func181,ntmps181;go_wp2_with fail
 refine (hcl _ hG1).mono ?_;rintro e w1 ⟨rfl,b1⟩;replace hW:=hW.trans (b1.mono hW.size);replace hB:=hB.below b1 hB.lt;clear b1;go_wp2_with fail
 refine (hnm _).mono ?_;rintro e w2 ⟨rfl,b1⟩;replace hW:=hW.trans (b1.mono hW.size);replace hB:=hB.below b1 hB.lt;clear b1;obtain ⟨d0,d1,d2,d3,d4⟩:=Ca hB;have f0:=hB.frozen 0;have f1:=hB.frozen 1;have f2:=hB.frozen 2;have f3:=hB.frozen 3;have f4:=hB.frozen 4;have hlB:=hB.lt;unfold Vu;cases ok
 ·go_wp2_with fail
  refine bodyPost_ret (v:=GR oz false k 6) (by simp [results,results181,go_sem,d0,d1,d2,d3,d4,GR,hlB,Ap]) rfl ⟨rfl,?_⟩
  repeat (first | (with_reducible exact hW) | refine Aga ?_ (by first | omega | (simp;omega) | simp) _ | refine Agc ?_ (by first | omega | (simp;omega) | simp) _)
 ·go_wp2_with fail
  refine bodyPost_ret (v:=GR cs m (x+2) 0) (by simp [results,results181,go_sem,d0,d1,d2,d3,d4,GR,hlB,Ap]) rfl ⟨rfl,?_⟩
  repeat (first | (with_reducible exact hW) | refine Aga ?_ (by first | omega | (simp;omega) | simp) _ | refine Agc ?_ (by first | omega | (simp;omega) | simp) _)
end
section
set_option linter.unusedVariables false
abbrev Wm:=Int × ByteArray
def NA (m:Nat × Nat):Wm:=((m.1:Int),⟨#[92,UInt8.ofNat m.2]⟩)
def BH (by':Int) (l:List Wm):List Wm:=l.map fun m=>(Go.IntKind.i64.wrap (m.1+by'),m.2)
abbrev BO (α:Type):=Except (Nat × Nat) (α × List Wm × Nat)
structure Adr where
 kind:Nat
 line:Nat
 text:List UInt8
 tree:Option Nd
def GD:Adr:=⟨0,0,[],none⟩
def An (ext:Bool) (L:List UInt8) (b:Nat) (d:UInt8):BO (List UInt8 × Nd):=
 let r:=Aj L b d true
 if r.2.2=0 then
  (if r.1=[] then .error (2,b) else
   match AU ext r.1 with
   | .error q=>.error (q.1,b)
   | .ok q=>.ok ((r.1,q.2),BH b (q.1.marks.map NA),r.2.1))
 else .error (r.2.2,r.2.1)
def Du (ext:Bool) (L:List UInt8) (b:Nat) (d:UInt8):BO Adr:=
 match An ext L b d with
 | .error q=>.error q
 | .ok q=>.ok (⟨3,0,q.1.1,some q.1.2⟩,q.2)
def CK (L:List UInt8) (k:Nat):BO Adr:=
 let r:=B9 L k
 if r.2.2=0 then (if r.1=0 then .error (12,k) else .ok (⟨1,r.1,[],none⟩,[],r.2.1)) else .error (r.2.2,r.2.1)
def CL (L:List UInt8) (k:Nat):BO Adr:=
 let r:=B9 L (k+1)
 if r.2.2=0 then .ok (⟨4,r.1,[],none⟩,[((k:Int),⟨#[43]⟩)],r.2.1) else .error (r.2.2,r.2.1)
def Es (ext:Bool) (L:List UInt8) (k:Nat):BO Adr:=
 match L.drop (k+1) with
 | []=>.error (12,k)
 | x :: _=>if x=92∨x=10 then .error (12,k) else Du ext L (k+2) x
def DQ (ext second:Bool) (L:List UInt8) (k:Nat):BO Adr:=
 match L.drop k with
 | []=>.ok (GD,[],k)
 | c :: _=>
  if 48≤c.toNat∧c.toNat≤57 then CK L k
  else if c=36 then .ok (⟨2,0,[],none⟩,[],k+1)
  else if c=47 then Du ext L (k+1) 47
  else if c=92 then Es ext L k
  else if c=43∧second=true then CL L k
  else .ok (GD,[],k)
structure Grd where
 a:Adr
 b:Adr
 no:Bool
def Ak (L:List UInt8) (k:Nat):Nat:=k+Eg [32,9] (L.drop k)
def DB (c:Nat) (R:BO Adr):BO Adr:=
 match R with
 | .error q=>.error q
 | .ok q=>if q.1.kind=0 then .error (12,c) else .ok q
def BC (ext:Bool) (L:List UInt8) (k:Nat):BO Adr:=
 if (L.drop (Ak L k)).head?=some 44 then DB (Ak L (Ak L k+1)) (DQ ext true L (Ak L (Ak L k+1)))
 else .ok (GD,[],k)
def C4 (L:List UInt8) (k:Nat):Except (Nat × Nat) (Bool × Nat):=
 if (L.drop (Ak L k)).head?=some 33 then
  (if (L.drop (Ak L (Ak L k+1))).head?=some 33 then .error (15,Ak L (Ak L k+1)) else .ok (true,Ak L (Ak L k+1)))
 else .ok (false,Ak L k)
def EG (a:Adr) (ms:List Wm) (R:BO Adr):BO (Adr × Adr):=
 match R with
 | .error r=>.error r
 | .ok r=>.ok ((a,r.1),ms++r.2.1,r.2.2)
def CT (ext:Bool) (L:List UInt8) (R:BO Adr):BO (Adr × Adr):=
 match R with
 | .error q=>.error q
 | .ok q=>if q.1.kind=0 then .ok ((q.1,GD),q.2) else EG q.1 q.2.1 (BC ext L q.2.2)
def EX (a b:Adr) (ms:List Wm) (R:Except (Nat × Nat) (Bool × Nat)):BO Grd:=
 match R with
 | .error r=>.error r
 | .ok r=>.ok (⟨a,b,r.1⟩,ms,r.2)
def FK (L:List UInt8) (R:BO (Adr × Adr)):BO Grd:=
 match R with
 | .error q=>.error q
 | .ok q=>EX q.1.1 q.1.2 q.2.1 (C4 L q.2.2)
def GS (ext:Bool) (L:List UInt8) (k:Nat):BO Grd:=FK L (CT ext L (DQ ext false L k))
theorem FL (L:List UInt8) (k:Nat) (h:k≤L.length):k≤Ak L k∧Ak L k≤L.length:=by
 unfold Ak Eg;have:=B8 (fun b=>([32,9]:List UInt8).contains b) (L.drop k);rw [Af3] at this;omega
theorem EY (L:List UInt8) (k:Nat) (h:k≤L.length):k≤(B9 L k).2.1∧(B9 L k).2.1≤L.length:=by
 unfold B9 Eg;have:=B8 (fun b=>A7.contains b) (L.drop k);rw [Af3] at this;simp only;split
 ·exact ⟨Afq _,h⟩
 ·split
  ·exact ⟨Afq _,h⟩
  ·simp only;omega
theorem JJ (d:UInt8) (rx:Bool) (L:List UInt8):∀ (n p:Nat) (acc:List UInt8),p≤L.length→(Cq d rx L n p acc).2.1≤L.length
 | 0,p,acc,h=>Afq _
 | n+1,p,acc,h=>by
  cases hd:L.drop p with
  | nil=>rw [D0 hd];exact Afq _
  | cons c t=>
   have hl:t.length+1=L.length - p:=by rw [←Af3,hd];rfl
   by_cases hc:c=d
   ·subst hc;rw [D1 hd];simp only;omega
   ·obtain ⟨x,k,e,he⟩:∃ x k e,Bd d rx c t p=(x,k,e):=⟨_,_,_,rfl⟩;by_cases h0:e=0
    ·subst h0;rw [CH hd hc he];obtain ⟨h1,h2,_⟩:=ER he;exact JJ d rx L n k (acc++x) (by omega)
    ·rw [DY hd hc h0 he];obtain ⟨_,h2,_⟩:=G6 he h0;simp only;omega
abbrev Cp:=Int × List UInt8
structure Sb where
 text:List UInt8
 tree:Option Nd
 parts:List Cp
 nth:Nat
 all:Bool
 prt:Bool
 file:List UInt8
structure Cmd where
 pl:Nat
 g:Grd
 name:UInt8
 arg:List UInt8
 sub:Sb
 table:List UInt8
structure CS where
 k:Nat
 c:Cmd
 ms:List Wm
abbrev CO:=Nat × CS
def CS.go (st:CS) (k:Nat):CS:={ st with k:=k }
def CS.arg (st:CS) (a:List UInt8) (k:Nat):CS:={ st with k:=k,c:={ st.c with arg:=a } }
def CS.file (st:CS) (a:List UInt8) (k:Nat):CS:={ st with k:=k,c:={ st.c with sub:={ st.c.sub with file:=a } } }
def CS.mark (st:CS) (p:Nat) (w:List UInt8):CS:={ st with ms:=st.ms++[((p:Int),⟨w.toArray⟩)] }
def CS.name (st:CS) (b:UInt8):CS:={ st with k:=st.k+1,c:={ st.c with name:=b } }
def Et (b:UInt8):Option Nat:=
 if b=125∨b=58 then some 0
 else if b∈[61,113,81,97,105,114] then some 1
 else if b∈[123,100,68,103,71,104,72,108,110,78,112,80,120,122,98,116,84,99,119,115,121] then some 2
 else none
def GE (g:Grd):Nat:=if g.a.kind=0 then 0 else if g.b.kind=0 then 1 else 2
def FM (b:UInt8):Bool:=b == 81 || b == 84 || b == 122
def Bt (st:CS) (b:UInt8) (m:Option Nat):CO:=
 match m with
 | none=>(13,st)
 | some n=>if n < GE st.c.g then (19,st) else (0,(if FM b=true then st.mark st.k [b] else st).name b)
def AW (L:List UInt8) (st:CS):CO:=
 match L.drop st.k with
 | []=>(5,st)
 | b :: _=>Bt st b (Et b)
def BE (L:List UInt8) (st:CS):CO:=((Bu L st.k true).2.2,st.arg (Bu L st.k true).1 (Bu L st.k true).2.1)
def C9 (L:List UInt8) (st:CS):CO:=if (BE L st).1=14 then (0,(BE L st).2.go (Ak L st.k)) else BE L st
def Dl (L:List UInt8) (st:CS):CO:=((BA (L.drop st.k) st.k []).2.2,st.arg (BA (L.drop st.k) st.k []).1 (BA (L.drop st.k) st.k []).2.1)
def BT (L:List UInt8) (st:CS):CO:=
 match L.drop (Ak L st.k) with
 | []=>(11,st.go (Ak L st.k))
 | c :: t=>
  if c=10 then (5,st.go (Ak L st.k))
  else if c=92∧t.head?=some 10 then Dl L (st.go (Ak L st.k+2))
  else Dl L ((st.go (Ak L st.k)).mark st.c.pl [116,101,120,116])
def Bn (L:List UInt8) (st:CS):CO:=if Ak L st.k=st.k then (2,st) else ((Bu L st.k false).2.2,st.arg (Bu L st.k false).1 (Bu L st.k false).2.1)
def Bi (L:List UInt8) (st:CS):CO:=if Ak L st.k=st.k then (2,st) else ((Bu L st.k false).2.2,st.file (Bu L st.k false).1 (Bu L st.k false).2.1)
def Au (L:List UInt8) (st:CS):UInt8 × CO:=
 match L.drop st.k with
 | []=>(0,5,st)
 | d :: _=>if d=92∨d=10 then (0,2,st) else (d,0,st.go (st.k+1))
def BG (L:List UInt8) (st:CS):CO:=
 match L.drop (Ak L st.k) with
 | []=>(0,st.go (Ak L st.k))
 | b :: _=>if b=59∨b=10∨b=35 then (0,st.go (Ak L st.k)) else if b=125 then (0,(st.go (Ak L st.k)).mark (Ak L st.k) [125]) else (17,st.go (Ak L st.k))
def CS.rx (st:CS) (t:List UInt8) (d:Option Nd) (ms:List Wm) (k:Nat):CS:={ st with k:=k,c:={ st.c with sub:={ st.c.sub with text:=t,tree:=d } },ms:=st.ms++ms }
def JK (st:CS) (R:BO (List UInt8 × Nd)):CO:=
 match R with
 | .error q=>(q.1,st.rx [] none [] q.2)
 | .ok q=>(0,st.rx q.1.1 (some q.1.2) q.2.1 q.2.2)
def Dm (ext:Bool) (L:List UInt8) (d:UInt8) (st:CS):CO:=JK st (An ext L st.k d)
def DR (ps:List Cp) (t:List UInt8):List Cp:=if t=[] then ps else ps++[(-1,t)]
def Cj (n:Nat):List UInt8→Bool→List Cp→List UInt8→List Cp × Nat
 | [],esc,ps,t=>if esc=true then ([],11) else (DR ps t,0)
 | b :: l,false,ps,t=>if b=92 then Cj n l true ps t else if b=38 then Cj n l false (DR ps t++[(0,[])]) [] else Cj n l false ps (t++[b])
 | b :: l,true,ps,t=>
  if A7.contains b=true then (if n < b.toNat - 48 then ([],9) else Cj n l false (DR ps t++[(((b.toNat - 48:Nat):Int),[])]) [])
  else if b=110 then Cj n l false ps (t++[10]) else Cj n l false ps (t++[b])
def Fq (d:Option Nd):Nat:=match d with | none=>0 | some d=>Cz d
def CS.parts (st:CS) (ps:List Cp) (k:Nat):CS:={ st with k:=k,c:={ st.c with sub:={ st.c.sub with parts:=ps } } }
def DC (st:CS) (r:E8) (q:List Cp × Nat):CO:=if r.2.2=0 then (if q.2=0 then (0,st.parts q.1 r.2.1) else (q.2,st)) else (r.2.2,st.go r.2.1)
def CA (L:List UInt8) (d:UInt8) (st:CS):CO:=DC st (Aj L st.k d false) (Cj (Fq st.c.sub.tree) (Aj L st.k d false).1 false [] [])
def CS.all (st:CS):CS:={ st with k:=st.k+1,c:={ st.c with sub:={ st.c.sub with all:=true } } }
def CS.prt (st:CS):CS:={ st with k:=st.k+1,c:={ st.c with sub:={ st.c.sub with prt:=true } } }
def CS.nth (st:CS) (n k:Nat):CS:={ st with k:=k,c:={ st.c with sub:={ st.c.sub with nth:=n } } }
def CU (st:CS):CO:=if st.c.sub.all=true then (15,st) else (0,st.all)
def CW (st:CS):CO:=if st.c.sub.prt=true then (15,st) else (0,st.prt)
def Cr (st:CS) (r:Nat × Nat × Nat):CO:=if r.2.2=0 then (if st.c.sub.nth=0 then (if r.1=0 then (1,st) else (0,st.nth r.1 r.2.1)) else (15,st)) else (r.2.2,st)
def CB (L:List UInt8) (st:CS):CO:=Cr st (B9 L st.k)
def AH (L:List UInt8) (b:UInt8) (st:CS):Option CO:=if b=103 then some (CU st) else if b=112 then some (CW st) else if A7.contains b=true then some (CB L st) else none
def A2 (L:List UInt8):Nat→CS→CO
 | 0,st=>(0,st)
 | n+1,st=>
  match L.drop st.k with
  | []=>(0,st)
  | b :: _=>
   match AH L b st with
   | some r=>if r.1=0 then A2 L n r.2 else r
   | none=>if b=119 then Bi L (st.go (st.k+1)) else BG L st
def CO.then (r:CO) (f:CS→CO):CO:=if r.1=0 then f r.2 else r
def BU (ext:Bool) (L:List UInt8) (st:CS):CO:=
 (Au L st).2.then fun s1=>(Dm ext L (Au L st).1 s1).then fun s2=>(CA L (Au L st).1 s2).then fun s3=>A2 L (L.length+1) s3
def BV:List UInt8→Bool→List UInt8→Option (List UInt8)
 | [],esc,acc=>if esc=true then none else some acc
 | b :: l,false,acc=>if b=92 then BV l true acc else BV l false (acc++[b])
 | b :: l,true,acc=>if b=110 then BV l false (acc++[10]) else if b=92 then BV l false (acc++[92]) else none
def Ia:List UInt8→List UInt8→List UInt8→List UInt8→Option (List UInt8)
 | [],_,_,T=>some T
 | k :: ks,v,seen,T=>if k∈seen then none else Ia ks v.tail (k :: seen) (T.set k.toNat (v.headD 0))
def JL:List UInt8:=(List.range 256).map UInt8.ofNat
def YU (a b:Option (List UInt8)):List UInt8 × Nat:=
 match a,b with
 | some ks,some vs=>if ks.length=vs.length then (match Ia ks vs [] JL with | none=>([],15) | some T=>(T,0)) else ([],18)
 | _,_=>([],18)
def JM (a b:List UInt8):List UInt8 × Nat:=YU (BV a false []) (BV b false [])
def CS.table (st:CS) (t:List UInt8) (k:Nat):CS:={ st with k:=k,c:={ st.c with table:=t } }
def EH (L:List UInt8) (st:CS) (p:Nat) (r:E8) (q:List UInt8 × Nat):CO:=
 if r.2.2=0 then (if q.2=0 then BG L (st.table q.1 r.2.1) else (q.2,st.go p)) else (r.2.2,st.go r.2.1)
def EI (L:List UInt8) (d:UInt8) (st:CS) (r:E8):CO:=
 if r.2.2=0 then EH L st r.2.1 (Aj L r.2.1 d false) (JM r.1 (Aj L r.2.1 d false).1) else (r.2.2,st.go r.2.1)
def BL (L:List UInt8) (st:CS):CO:=(Au L st).2.then fun s1=>EI L (Au L st).1 s1 (Aj L s1.k (Au L st).1 false)
def AP (ext:Bool) (L:List UInt8) (st:CS):CO:=
 let b:=st.c.name
 if b=123∨b=125 then (0,st)
 else if b=58 then BE L st
 else if b=98∨b=116∨b=84 then C9 L st
 else if b=97∨b=105∨b=99 then BT L st
 else if b=114∨b=119 then Bn L st
 else if b=115 then BU ext L st
 else if b=121 then BL L st
 else BG L st
def AE (ext:Bool) (L:List UInt8) (st:CS):CO:=(AW L st).then (AP ext L)
def sb0:Sb:=⟨[],none,[],0,false,false,[]⟩
def AA (g:Grd) (ms:List Wm) (k:Nat):CS:=⟨k,⟨k,g,0,[],sb0,[]⟩,ms⟩
def EZ (r:CO):BO Cmd:=if r.1=0 then .ok (r.2.c,r.2.ms,r.2.k) else .error (r.1,r.2.k)
def PD (ext:Bool) (L:List UInt8) (R:BO Grd):BO Cmd:=
 match R with
 | .error q=>.error q
 | .ok q=>EZ (AE ext L (AA q.1 q.2.1 q.2.2))
def Ji (ext:Bool) (L:List UInt8) (k:Nat):BO Cmd:=PD ext L (GS ext L k)
theorem AL (A L:List UInt8) (k:Nat):(A++L).drop (A.length+k)=L.drop k:=by rw [←List.drop_drop,List.drop_left]
theorem AD {L t:List UInt8} {k:Nat} {c:UInt8} (h:L.drop k=c :: t):k < L.length:=by
 by_cases e:k < L.length
 ·exact e
 ·rw [List.drop_eq_nil_of_le (by omega)] at h;cases h
def KN (a:Nat) (r:E8):E8:=(r.1,a+r.2.1,r.2.2)
theorem JN (A L:List UInt8) (k:Nat):B9 (A++L) (A.length+k)=((B9 L k).1,A.length+(B9 L k).2.1,(B9 L k).2.2):=by
 unfold B9;rw [AL];simp only;split
 ·rfl
 ·split
  ·rfl
  ·simp only [Af5]
theorem D4 (A L:List UInt8) (k:Nat):Ak (A++L) (A.length+k)=A.length+Ak L k:=by
 unfold Ak;rw [AL,Af5]
theorem Mr (A L:List UInt8) (k:Nat) (b:Bool):Bu (A++L) (A.length+k) b=KN A.length (Bu L k b):=by
 unfold Bu;rw [AL];generalize Lib.trimS ((L.drop k).take (Ej b (L.drop k))) [32,9]=n;generalize Ej b (L.drop k)=m;unfold Ek KN;split
 ·rfl
 ·split
  ·rfl
  ·simp only [Af5]
theorem PE (a:Nat):∀ (n:Nat) (l:List UInt8) (p:Nat) (acc:List UInt8),l.length≤n→BA l (a+p) acc=KN a (BA l p acc)
 | _,[],p,acc,_=>by simp [BA,KN]
 | 0,c :: t,p,acc,h=>by simp at h
 | n+1,c :: t,p,acc,h=>by
  by_cases h1:c=10
  ·subst h1;rw [Eh,Eh];simp [KN,Af5]
  ·by_cases h2:c=92
   ·subst h2;cases t with
    | nil=>rw [Dz,Dz];simp [KN]
    | cons x u=>
     rw [Ei,Ei,Af5];exact PE a n u _ _ (by simp at h;omega)
   ·rw [CG _ _ _ _ h1 h2,CG _ _ _ _ h1 h2,Af5];exact PE a n t _ _ (by simp at h;omega)
theorem YV (a:Nat) (d:UInt8) (rx:Bool) (c:UInt8) (t:List UInt8) (p:Nat):Bd d rx c t (a+p)=KN a (Bd d rx c t p):=by
 unfold Bd;by_cases h1:c=92
 ·rw [if_pos h1,if_pos h1];cases t with
  | nil=>simp [KN,Af5]
  | cons x u=>
   simp only;split
   ·simp [KN,Af5]
   ·split <;> simp [KN,Af5]
 ·rw [if_neg h1,if_neg h1];simp only;generalize (if (rx && c == 91)=true then Ch t else 1)=k;generalize AK (fun b=>!(b == 10)) ((c :: t).take k)=i;split <;> simp [KN,Af5]
theorem Vy (A L:List UInt8) (d:UInt8) (rx:Bool):∀ (n m p:Nat) (acc:List UInt8),p≤L.length→L.length - p < n→L.length - p < m→Cq d rx (A++L) m (A.length+p) acc=KN A.length (Cq d rx L n p acc)
 | 0,m,p,acc,hp,h,_=>by omega
 | n+1,0,p,acc,hp,_,h=>by omega
 | n+1,m+1,p,acc,hp,h1,h2=>by
  cases hd:L.drop p with
  | nil=>
   rw [D0 hd,D0 (by rw [AL,hd])];simp [KN]
  | cons c t=>
   have hlt:=AD hd;have hl:t.length+1=L.length - p:=by rw [←Af3,hd];rfl
   have hd':(A++L).drop (A.length+p)=c :: t:=by rw [AL,hd]
   by_cases hc:c=d
   ·subst hc;rw [D1 hd,D1 hd'];simp [KN,Af5]
   ·obtain ⟨x,k,e,he⟩:∃ x k e,Bd d rx c t p=(x,k,e):=⟨_,_,_,rfl⟩;have he':Bd d rx c t (A.length+p)=(x,A.length+k,e):=by rw [YV,he];rfl
    by_cases h0:e=0
    ·subst h0;rw [CH hd hc he,CH hd' hc he'];obtain ⟨g1,g2,_⟩:=ER he;exact Vy A L d rx n m k (acc++x) (by omega) (by omega) (by omega)
    ·rw [DY hd hc h0 he,DY hd' hc h0 he'];rfl
theorem CM (A L:List UInt8) (d:UInt8) (rx:Bool) (k:Nat) (hk:k≤L.length):Aj (A++L) ((A.length+k:Nat):Int) d rx=KN A.length (Aj L (k:Int) d rx):=by
 unfold Aj;rw [D9 _ _ _ _ hk,D9 _ _ _ _ (by rw [Afs];omega)];exact Vy A L d rx _ _ k [] hk (by omega) (by rw [Afs];omega)
def ShD (a:Nat) (R R':BO (List UInt8 × Nd)):Prop:=
 match R,R' with
 | .error q,.error r=>r=(q.1,a+q.2)
 | .ok q,.ok r=>r.1=q.1∧r.2.2=a+q.2.2
 | _,_=>False
theorem NB (ext:Bool) (A L:List UInt8) (k:Nat) (d:UInt8) (hk:k≤L.length):ShD A.length (An ext L k d) (An ext (A++L) (A.length+k) d):=by
 unfold An;rw [CM A L d true k hk];generalize Aj L (k:Int) d true=r;obtain ⟨t,p,e⟩:=r;rw [show KN A.length (t,p,e)=(t,A.length+p,e) from rfl];simp only;by_cases he:e=0
 ·rw [if_pos he,if_pos he];by_cases ht:t=[]
  ·rw [if_pos ht,if_pos ht];exact rfl
  ·rw [if_neg ht,if_neg ht];cases AU ext t with
   | error q=>exact rfl
   | ok q=>exact ⟨rfl,rfl⟩
 ·rw [if_neg he,if_neg he];exact rfl
structure Sh (a:Nat) (st st':CS):Prop where
 k:st'.k=a+st.k
 name:st'.c.name=st.c.name
 arg:st'.c.arg=st.c.arg
 sub:st'.c.sub=st.c.sub
 table:st'.c.table=st.c.table
def Iv (a:Nat) (r r':CO):Prop:=r'.1=r.1∧Sh a r.2 r'.2
theorem Sh.go {a:Nat} {st st':CS} (h:Sh a st st') {k k':Nat} (e:k'=a+k):Sh a (st.go k) (st'.go k'):=⟨e,h.name,h.arg,h.sub,h.table⟩
theorem Sh.mark {a:Nat} {st st':CS} (h:Sh a st st') (p p':Nat) (w:List UInt8):Sh a (st.mark p w) (st'.mark p' w):=⟨h.k,h.name,h.arg,h.sub,h.table⟩
theorem Sh.argS {a:Nat} {st st':CS} (h:Sh a st st') (t:List UInt8) {k k':Nat} (e:k'=a+k):Sh a (st.arg t k) (st'.arg t k'):=⟨e,h.name,rfl,h.sub,h.table⟩
theorem Sh.fileS {a:Nat} {st st':CS} (h:Sh a st st') (t:List UInt8) {k k':Nat} (e:k'=a+k):Sh a (st.file t k) (st'.file t k'):=⟨e,h.name,h.arg,by show { st'.c.sub with file:=t }={ st.c.sub with file:=t };rw [h.sub],h.table⟩
theorem Sh.rx {a:Nat} {st st':CS} (h:Sh a st st') (t:List UInt8) (d:Option Nd) (ms ms':List Wm) {k k':Nat} (e:k'=a+k):Sh a (st.rx t d ms k) (st'.rx t d ms' k'):=⟨e,h.name,h.arg,by show { st'.c.sub with text:=t,tree:=d }={ st.c.sub with text:=t,tree:=d };rw [h.sub],h.table⟩
theorem Sh.parts {a:Nat} {st st':CS} (h:Sh a st st') (ps:List Cp) {k k':Nat} (e:k'=a+k):Sh a (st.parts ps k) (st'.parts ps k'):=⟨e,h.name,h.arg,by show { st'.c.sub with parts:=ps }={ st.c.sub with parts:=ps };rw [h.sub],h.table⟩
theorem Sh.nth {a:Nat} {st st':CS} (h:Sh a st st') (n:Nat) {k k':Nat} (e:k'=a+k):Sh a (st.nth n k) (st'.nth n k'):=⟨e,h.name,h.arg,by show { st'.c.sub with nth:=n }={ st.c.sub with nth:=n };rw [h.sub],h.table⟩
theorem Sh.all {a:Nat} {st st':CS} (h:Sh a st st'):Sh a st.all st'.all:=⟨by show st'.k+1=a+(st.k+1);rw [h.k,Af5],h.name,h.arg,by show { st'.c.sub with all:=true }={ st.c.sub with all:=true };rw [h.sub],h.table⟩
theorem Sh.prt {a:Nat} {st st':CS} (h:Sh a st st'):Sh a st.prt st'.prt:=⟨by show st'.k+1=a+(st.k+1);rw [h.k,Af5],h.name,h.arg,by show { st'.c.sub with prt:=true }={ st.c.sub with prt:=true };rw [h.sub],h.table⟩
theorem Sh.tableS {a:Nat} {st st':CS} (h:Sh a st st') (t:List UInt8) {k k':Nat} (e:k'=a+k):Sh a (st.table t k) (st'.table t k'):=⟨e,h.name,h.arg,h.sub,rfl⟩
theorem Iv.then {a:Nat} {r r':CO} (h:Iv a r r') {f f':CS→CO} (hf:r.1=0→Iv a (f r.2) (f' r'.2)):Iv a (r.then f) (r'.then f'):=by
 unfold CO.then
 rw [h.1];by_cases h0:r.1=0
 ·rw [if_pos h0,if_pos h0];exact hf h0
 ·rw [if_neg h0,if_neg h0];exact h
theorem NC (A L:List UInt8) {st st':CS} (h:Sh A.length st st'):Iv A.length (BE L st) (BE (A++L) st'):=by
 unfold BE;rw [h.k,Mr];exact ⟨rfl,h.argS _ rfl⟩
theorem Ab6 (A L:List UInt8) {st st':CS} (h:Sh A.length st st'):Iv A.length (C9 L st) (C9 (A++L) st'):=by
 have hl:=NC A L h;unfold C9;rw [hl.1];by_cases h0:(BE L st).1=14
 ·rw [if_pos h0,if_pos h0];exact ⟨rfl,hl.2.go (by rw [h.k,D4])⟩
 ·rw [if_neg h0,if_neg h0];exact hl
theorem ND (A L:List UInt8) {st st':CS} (h:Sh A.length st st'):Iv A.length (Dl L st) (Dl (A++L) st'):=by
 unfold Dl;rw [h.k,AL,PE A.length _ _ _ _ (Afq _)];exact ⟨rfl,h.argS _ rfl⟩
theorem YW (A L:List UInt8) {st st':CS} (h:Sh A.length st st'):Iv A.length (BT L st) (BT (A++L) st'):=by
 unfold BT;rw [h.k,D4,AL];cases L.drop (Ak L st.k) with
 | nil=>exact ⟨rfl,h.go rfl⟩
 | cons c t=>
  simp only;by_cases h1:c=10
  ·rw [if_pos h1,if_pos h1];exact ⟨rfl,h.go rfl⟩
  ·rw [if_neg h1,if_neg h1];by_cases h2:c=92∧t.head?=some 10
   ·rw [if_pos h2,if_pos h2];exact ND A L (h.go (by omega))
   ·rw [if_neg h2,if_neg h2];exact ND A L ((h.go rfl).mark _ _ _)
theorem Vz (A L:List UInt8) {st st':CS} (h:Sh A.length st st'):Iv A.length (Bn L st) (Bn (A++L) st'):=by
 unfold Bn;rw [h.k,D4,Mr];by_cases h1:Ak L st.k=st.k
 ·rw [if_pos h1,if_pos (by omega)];exact ⟨rfl,h⟩
 ·rw [if_neg h1,if_neg (by omega)];exact ⟨rfl,h.argS _ rfl⟩
theorem V0 (A L:List UInt8) {st st':CS} (h:Sh A.length st st'):Iv A.length (Bi L st) (Bi (A++L) st'):=by
 unfold Bi;rw [h.k,D4,Mr];by_cases h1:Ak L st.k=st.k
 ·rw [if_pos h1,if_pos (by omega)];exact ⟨rfl,h⟩
 ·rw [if_neg h1,if_neg (by omega)];exact ⟨rfl,h.fileS _ rfl⟩
theorem Ms (A L:List UInt8) {st st':CS} (h:Sh A.length st st'):(Au (A++L) st').1=(Au L st).1∧Iv A.length (Au L st).2 (Au (A++L) st').2:=by
 unfold Au;rw [h.k,AL];cases L.drop st.k with
 | nil=>exact ⟨rfl,rfl,h⟩
 | cons c t=>
  simp only;split
  ·exact ⟨rfl,rfl,h⟩
  ·exact ⟨rfl,rfl,h.go (Af5 _ _ _)⟩
theorem PF (A L:List UInt8) {st st':CS} (h:Sh A.length st st'):Iv A.length (BG L st) (BG (A++L) st'):=by
 unfold BG;rw [h.k,D4,AL];cases L.drop (Ak L st.k) with
 | nil=>exact ⟨rfl,h.go rfl⟩
 | cons c t=>
  simp only;split
  ·exact ⟨rfl,h.go rfl⟩
  ·split
   ·exact ⟨rfl,(h.go rfl).mark _ _ _⟩
   ·exact ⟨rfl,h.go rfl⟩
theorem V1 (ext:Bool) (A L:List UInt8) (d:UInt8) {st st':CS} (h:Sh A.length st st') (hk:st.k≤L.length):Iv A.length (Dm ext L d st) (Dm ext (A++L) d st'):=by
 unfold Dm;rw [h.k];have hd:=NB ext A L st.k d hk;generalize An ext L st.k d=R at hd ⊢;generalize An ext (A++L) (A.length+st.k) d=R' at hd ⊢;cases R with
 | error q=>
  cases R' with
  | error r=>obtain rfl:r=_:=hd;exact ⟨rfl,h.rx _ _ _ _ rfl⟩
  | ok r=>cases hd
 | ok q=>
  cases R' with
  | error r=>cases hd
  | ok r=>
   obtain ⟨⟨t,D⟩,ms,p⟩:=q;obtain ⟨q',ms',p'⟩:=r;obtain ⟨h1,h2⟩:q'=(t,D)∧p'=A.length+p:=hd;subst h1 h2;exact ⟨rfl,h.rx _ _ _ _ rfl⟩
theorem PG (A L:List UInt8) (d:UInt8) {st st':CS} (h:Sh A.length st st') (hk:st.k≤L.length):Iv A.length (CA L d st) (CA (A++L) d st'):=by
 unfold CA;rw [h.k,h.sub,CM A L d false st.k hk];generalize Aj L (st.k:Int) d false=r;obtain ⟨t,p,e⟩:=r;simp only [KN];generalize Cj (Fq st.c.sub.tree) t false [] []=q;unfold DC;simp only;split
 ·split
  ·exact ⟨rfl,h.parts _ rfl⟩
  ·exact ⟨rfl,h⟩
 ·exact ⟨rfl,h.go rfl⟩
theorem Ab7 (A L:List UInt8) {st st':CS} (h:Sh A.length st st'):Iv A.length (CB L st) (CB (A++L) st'):=by
 unfold CB;rw [h.k,JN];generalize B9 L st.k=r;obtain ⟨n,p,e⟩:=r;unfold Cr;rw [h.sub];simp only;split
 ·split
  ·split
   ·exact ⟨rfl,h⟩
   ·exact ⟨rfl,h.nth _ rfl⟩
  ·exact ⟨rfl,h⟩
 ·exact ⟨rfl,h⟩
theorem Ab8 {a:Nat} {st st':CS} (h:Sh a st st'):Iv a (CU st) (CU st'):=by
 unfold CU;rw [h.sub];split
 ·exact ⟨rfl,h⟩
 ·exact ⟨rfl,h.all⟩
theorem Ab9 {a:Nat} {st st':CS} (h:Sh a st st'):Iv a (CW st) (CW st'):=by
 unfold CW;rw [h.sub];split
 ·exact ⟨rfl,h⟩
 ·exact ⟨rfl,h.prt⟩
theorem YX {L:List UInt8} {k:Nat} (hk:k≤L.length) (h:(B9 L k).2.2=0):k < (B9 L k).2.1∧(B9 L k).2.1≤L.length:=by
 refine ⟨?_,(EY L k hk).2⟩;unfold B9 at h ⊢;simp only at h ⊢;split at h
 ·cases h
 ·split at h
  ·cases h
  ·rename_i h1 h2;rw [if_neg h1,if_neg h2];simp only;omega
theorem Ib {L:List UInt8} {b:UInt8} {st:CS} {r:CO} (hk:st.k < L.length) (hf:AH L b st=some r) (h0:r.1=0):st.k < r.2.k∧r.2.k≤L.length:=by
 unfold AH at hf;split at hf
 ·injection hf with hf;subst hf;unfold CU at h0 ⊢;split at h0
  ·cases h0
  ·rename_i h1;rw [if_neg h1];exact ⟨Nat.lt_succ_self _,hk⟩
 ·split at hf
  ·injection hf with hf;subst hf;unfold CW at h0 ⊢;split at h0
   ·cases h0
   ·rename_i h1;rw [if_neg h1];exact ⟨Nat.lt_succ_self _,hk⟩
  ·split at hf
   ·injection hf with hf;subst hf;unfold CB Cr at h0 ⊢;split at h0
    ·rename_i h1;rw [if_pos h1];split at h0
     ·rename_i h2;rw [if_pos h2];split at h0
      ·cases h0
      ·rename_i h3;rw [if_neg h3];exact YX (by omega) h1
     ·cases h0
    ·rename_i h1;exact absurd h0 h1
   ·cases hf
theorem Sf (A L:List UInt8) (b:UInt8) {st st':CS} (h:Sh A.length st st'):(AH L b st=none∧AH (A++L) b st'=none)∨∃ r r',AH L b st=some r∧AH (A++L) b st'=some r'∧Iv A.length r r':=by
 unfold AH;split
 ·exact .inr ⟨_,_,rfl,rfl,Ab8 h⟩
 ·split
  ·exact .inr ⟨_,_,rfl,rfl,Ab9 h⟩
  ·split
   ·exact .inr ⟨_,_,rfl,rfl,Ab7 A L h⟩
   ·exact .inl ⟨rfl,rfl⟩
theorem NE (A L:List UInt8):∀ (n m:Nat) {st st':CS},Sh A.length st st'→st.k≤L.length→L.length - st.k < n→L.length - st.k < m→Iv A.length (A2 L n st) (A2 (A++L) m st')
 | 0,m,st,st',h,hk,h1,_=>by omega
 | n+1,0,st,st',h,hk,_,h2=>by omega
 | n+1,m+1,st,st',h,hk,h1,h2=>by
  unfold A2;rw [h.k,AL];cases hd:L.drop st.k with
  | nil=>exact ⟨rfl,h⟩
  | cons b t=>
   have hlt:=AD hd;simp only;rcases Sf A L b h with ⟨e1,e2⟩ | ⟨r,r',e1,e2,hr⟩
   ·rw [e1,e2];simp only;split
    ·exact V0 A L (h.go (Af5 _ _ _))
    ·exact PF A L h
   ·rw [e1,e2];simp only;rw [hr.1];by_cases h0:r.1=0
    ·rw [if_pos h0,if_pos h0];obtain ⟨g1,g2⟩:=Ib hlt e1 h0;exact NE A L n m hr.2 g2 (by omega) (by omega)
    ·rw [if_neg h0,if_neg h0];exact hr
theorem Dn {d:UInt8} {rx:Bool} {L:List UInt8} {k:Nat} (hk:k≤L.length):(Aj L (k:Int) d rx).2.1≤L.length:=by
 unfold Aj;rw [D9 _ _ _ _ hk];exact JJ d rx L _ k [] hk
theorem Eu {L:List UInt8} {st:CS} (hk:st.k≤L.length):(Au L st).2.2.k≤L.length:=by
 unfold Au;cases hd:L.drop st.k with
 | nil=>exact hk
 | cons c t=>
  have:=AD hd;simp only;split
  ·exact hk
  ·show st.k+1≤_;omega
theorem Lt {ext:Bool} {L:List UInt8} {b:Nat} {d:UInt8} {q:(List UInt8 × Nd) × List Wm × Nat} (hb:b≤L.length) (h:An ext L b d=.ok q):q.2.2≤L.length:=by
 unfold An at h;simp only at h;split at h
 ·split at h
  ·cases h
  ·split at h
   ·cases h
   ·injection h with h;subst h;exact Dn hb
 ·cases h
theorem Mt {ext:Bool} {L:List UInt8} {d:UInt8} {st:CS} (hk:st.k≤L.length) (h0:(Dm ext L d st).1=0) (he:∀ q,An ext L st.k d=.error q→q.1≠0):(Dm ext L d st).2.k≤L.length:=by
 unfold Dm at h0 ⊢;cases hR:An ext L st.k d with
 | error q=>rw [hR] at h0;exact absurd h0 (he q hR)
 | ok q=>exact Lt hk hR
theorem DI (L:List UInt8) (st:CS):(Au L st).2.2.ms=st.ms:=by
 unfold Au;split
 ·rfl
 ·split <;> rfl
theorem Ic {L:List UInt8} {d:UInt8} {st:CS} (hk:st.k≤L.length):(CA L d st).2.k≤L.length:=by
 unfold CA DC;split
 ·split
  ·exact Dn hk
  ·exact hk
 ·exact Dn hk
theorem Aca (ext:Bool) (A L:List UInt8) {st st':CS} (h:Sh A.length st st') (hk:st.k≤L.length) (he:∀ k d q,An ext L k d=.error q→q.1≠0):Iv A.length (BU ext L st) (BU ext (A++L) st'):=by
 unfold BU;have hd:=Ms A L h;rw [hd.1];refine Iv.then hd.2 fun _=>?_
 have k1:=Eu hk;have h2:=V1 ext A L (Au L st).1 hd.2.2 k1;refine Iv.then h2 fun h0=>?_
 have k2:=Mt k1 h0 (fun q=>he _ _ q);have h3:=PG A L (Au L st).1 h2.2 k2;refine Iv.then h3 fun _=>?_
 exact NE A L _ _ h3.2 (Ic k2) (by omega) (by rw [Afs];omega)
theorem Acb (A L:List UInt8) {st st':CS} (h:Sh A.length st st') (hk:st.k≤L.length):Iv A.length (BL L st) (BL (A++L) st'):=by
 unfold BL;have hd:=Ms A L h;rw [hd.1];refine Iv.then hd.2 fun _=>?_
 have k1:=Eu hk;rw [hd.2.2.k,CM A L _ false _ k1];have k2:=Dn (d:=(Au L st).1) (rx:=false) k1;generalize Aj L ((Au L st).2.2.k:Int) (Au L st).1 false=r at k2 ⊢;obtain ⟨t,p,e⟩:=r;rw [show KN A.length (t,p,e)=(t,A.length+p,e) from rfl];unfold EI;simp only at k2 ⊢;by_cases he:e=0
 ·rw [if_pos he,if_pos he];rw [CM A L _ false _ k2];generalize Aj L (p:Int) (Au L st).1 false=r2;obtain ⟨t2,p2,e2⟩:=r2;rw [show KN A.length (t2,p2,e2)=(t2,A.length+p2,e2) from rfl];simp only;generalize JM t t2=q;unfold EH;simp only;by_cases he2:e2=0
  ·rw [if_pos he2,if_pos he2];by_cases hq:q.2=0
   ·rw [if_pos hq,if_pos hq];exact PF A L (hd.2.2.tableS _ rfl)
   ·rw [if_neg hq,if_neg hq];exact ⟨rfl,hd.2.2.go rfl⟩
  ·rw [if_neg he2,if_neg he2];exact ⟨rfl,hd.2.2.go rfl⟩
 ·rw [if_neg he,if_neg he];exact ⟨rfl,hd.2.2.go rfl⟩
theorem NF (ext:Bool) (A L:List UInt8) {st st':CS} (h:Sh A.length st st') (hk:st.k≤L.length) (he:∀ k d q,An ext L k d=.error q→q.1≠0):Iv A.length (AP ext L st) (AP ext (A++L) st'):=by
 unfold AP;rw [h.name];simp only;split
 ·exact ⟨rfl,h⟩
 ·split
  ·exact NC A L h
  ·split
   ·exact Ab6 A L h
   ·split
    ·exact YW A L h
    ·split
     ·exact Vz A L h
     ·split
      ·exact Aca ext A L h hk he
      ·split
       ·exact Acb A L h hk
       ·exact PF A L h
def Kp (st:CS) (r:CS):Prop:=r.c.pl=st.c.pl∧r.c.name=st.c.name∧r.c.g=st.c.g
theorem Kp.refl (st:CS):Kp st st:=⟨rfl,rfl,rfl⟩
theorem Kp.trans {a b c:CS} (h:Kp a b) (k:Kp b c):Kp a c:=⟨k.1.trans h.1,k.2.1.trans h.2.1,k.2.2.trans h.2.2⟩
theorem Jj {st:CS} {r:CO} {f:CS→CO} (h:Kp st r.2) (hf:Kp r.2 (f r.2).2):Kp st (r.then f).2:=by
 unfold CO.then
 split
 ·exact h.trans hf
 ·exact h
theorem NG (L:List UInt8) (st:CS):Kp st (BE L st).2:=⟨rfl,rfl,rfl⟩
theorem Acc (L:List UInt8) (st:CS):Kp st (C9 L st).2:=by
 unfold C9;split
 ·exact ⟨rfl,rfl,rfl⟩
 ·exact NG L st
theorem YY (L:List UInt8) (st:CS):Kp st (BT L st).2:=by
 unfold BT;split
 ·exact ⟨rfl,rfl,rfl⟩
 ·split
  ·exact ⟨rfl,rfl,rfl⟩
  ·split <;> exact ⟨rfl,rfl,rfl⟩
theorem V2 (L:List UInt8) (st:CS):Kp st (Bn L st).2:=by
 unfold Bn;split <;> exact ⟨rfl,rfl,rfl⟩
theorem V3 (L:List UInt8) (st:CS):Kp st (Bi L st).2:=by
 unfold Bi;split <;> exact ⟨rfl,rfl,rfl⟩
theorem V4 (L:List UInt8) (st:CS):Kp st (Au L st).2.2:=by
 unfold Au;split
 ·exact ⟨rfl,rfl,rfl⟩
 ·split <;> exact ⟨rfl,rfl,rfl⟩
theorem PH (L:List UInt8) (st:CS):Kp st (BG L st).2:=by
 unfold BG;split
 ·exact ⟨rfl,rfl,rfl⟩
 ·split
  ·exact ⟨rfl,rfl,rfl⟩
  ·split <;> exact ⟨rfl,rfl,rfl⟩
theorem Aef (ext:Bool) (L:List UInt8) (d:UInt8) (st:CS):Kp st (Dm ext L d st).2:=by
 unfold Dm JK;split <;> exact ⟨rfl,rfl,rfl⟩
theorem Acd (L:List UInt8) (d:UInt8) (st:CS):Kp st (CA L d st).2:=by
 unfold CA DC;split
 ·split <;> exact ⟨rfl,rfl,rfl⟩
 ·exact ⟨rfl,rfl,rfl⟩
theorem Sg {L:List UInt8} {b:UInt8} {st:CS} {r:CO} (h:AH L b st=some r):Kp st r.2:=by
 unfold AH at h;split at h
 ·injection h with h;subst h;unfold CU;split <;> exact ⟨rfl,rfl,rfl⟩
 ·split at h
  ·injection h with h;subst h;unfold CW;split <;> exact ⟨rfl,rfl,rfl⟩
  ·split at h
   ·injection h with h;subst h;unfold CB Cr;split
    ·split
     ·split <;> exact ⟨rfl,rfl,rfl⟩
     ·exact ⟨rfl,rfl,rfl⟩
    ·exact ⟨rfl,rfl,rfl⟩
   ·cases h
theorem NH (L:List UInt8):∀ (n:Nat) (st:CS),Kp st (A2 L n st).2
 | 0,st=>Kp.refl st
 | n+1,st=>by
  unfold A2;split
  ·exact Kp.refl st
  ·split
   ·rename_i hf;split
    ·exact (Sg hf).trans (NH L n _)
    ·exact Sg hf
   ·split
    ·exact Kp.trans (b:=st.go (st.k+1)) ⟨rfl,rfl,rfl⟩ (V3 L _)
    ·exact PH L st
theorem Ace (ext:Bool) (L:List UInt8) (st:CS):Kp st (BU ext L st).2:=by
 unfold BU;exact Jj (V4 L st) (Jj (Aef ext L _ _) (Jj (Acd L _ _) (NH L _ _)))
theorem Acf (L:List UInt8) (st:CS):Kp st (BL L st).2:=by
 unfold BL;refine Jj (V4 L st) ?_;unfold EI;split
 ·unfold EH;split
  ·split
   ·exact Kp.trans (b:=(Au L st).2.2.table _ _) ⟨rfl,rfl,rfl⟩ (PH L _)
   ·exact ⟨rfl,rfl,rfl⟩
  ·exact ⟨rfl,rfl,rfl⟩
 ·exact ⟨rfl,rfl,rfl⟩
theorem V5 (ext:Bool) (L:List UInt8) (st:CS):Kp st (AP ext L st).2:=by
 unfold AP;simp only;split
 ·exact Kp.refl st
 ·split
  ·exact NG L st
  ·split
   ·exact Acc L st
   ·split
    ·exact YY L st
    ·split
     ·exact V2 L st
     ·split
      ·exact Ace ext L st
      ·split
       ·exact Acf L st
       ·exact PH L st
def Y4 {α:Type} (a:Nat) (f:α→α) (R R':BO α):Prop:=
 match R,R' with
 | .error q,.error r=>r=(q.1,a+q.2)
 | .ok q,.ok r=>r.1=f q.1∧r.2.2=a+q.2.2
 | _,_=>False
theorem Si (ext:Bool) (A L:List UInt8) (b:Nat) (d:UInt8) (hb:b≤L.length):Y4 A.length id (Du ext L b d) (Du ext (A++L) (A.length+b) d):=by
 have h:=NB ext A L b d hb;unfold Du;generalize An ext L b d=R at h ⊢;generalize An ext (A++L) (A.length+b) d=R' at h ⊢;cases R with
 | error q=>
  cases R' with
  | error r=>exact h
  | ok r=>exact h.elim
 | ok q=>
  cases R' with
  | error r=>exact h.elim
  | ok r=>exact ⟨by show (⟨3,0,r.1.1,some r.1.2⟩:Adr)=⟨3,0,q.1.1,some q.1.2⟩;rw [h.1],h.2⟩
theorem Tk (A L:List UInt8) (k:Nat):Y4 A.length id (CK L k) (CK (A++L) (A.length+k)):=by
 unfold CK;rw [JN];obtain ⟨n,p,e⟩:=B9 L k;simp only;by_cases he:e=0
 ·rw [if_pos he,if_pos he];by_cases hn:n=0
  ·rw [if_pos hn,if_pos hn];exact rfl
  ·rw [if_neg hn,if_neg hn];exact ⟨rfl,rfl⟩
 ·rw [if_neg he,if_neg he];exact rfl
theorem Tm (A L:List UInt8) (k:Nat):Y4 A.length id (CL L k) (CL (A++L) (A.length+k)):=by
 unfold CL;rw [Af5 A.length k 1,JN];obtain ⟨n,p,e⟩:=B9 L (k+1);simp only;by_cases he:e=0
 ·rw [if_pos he,if_pos he];exact ⟨rfl,rfl⟩
 ·rw [if_neg he,if_neg he];exact rfl
theorem V6 (ext:Bool) (A L:List UInt8) (k:Nat):Y4 A.length id (Es ext L k) (Es ext (A++L) (A.length+k)):=by
 unfold Es;rw [Af5 A.length k 1,AL,Af5 A.length k 2];cases hd:L.drop (k+1) with
 | nil=>exact rfl
 | cons x t=>
  simp only;by_cases hx:x=92∨x=10
  ·rw [if_pos hx,if_pos hx];exact rfl
  ·rw [if_neg hx,if_neg hx];exact Si ext A L (k+2) x (by have:=AD hd;omega)
theorem V7 (ext second:Bool) (A L:List UInt8) (k:Nat):Y4 A.length id (DQ ext second L k) (DQ ext second (A++L) (A.length+k)):=by
 unfold DQ;rw [AL];cases hd:L.drop k with
 | nil=>exact ⟨rfl,rfl⟩
 | cons c t=>
  have hk:=AD hd;simp only;by_cases h1:48≤c.toNat∧c.toNat≤57
  ·rw [if_pos h1,if_pos h1];exact Tk A L k
  rw [if_neg h1,if_neg h1];by_cases h2:c=36
  ·rw [if_pos h2,if_pos h2];exact ⟨rfl,Af5 _ _ _⟩
  rw [if_neg h2,if_neg h2];by_cases h3:c=47
  ·rw [if_pos h3,if_pos h3,Af5];exact Si ext A L (k+1) 47 (by omega)
  rw [if_neg h3,if_neg h3];by_cases h4:c=92
  ·rw [if_pos h4,if_pos h4];exact V6 ext A L k
  rw [if_neg h4,if_neg h4];by_cases h5:c=43∧second=true
  ·rw [if_pos h5,if_pos h5];exact Tm A L k
  ·rw [if_neg h5,if_neg h5];exact ⟨rfl,rfl⟩
theorem V8 (ext:Bool) (A L:List UInt8) (k:Nat):Y4 A.length id (BC ext L k) (BC ext (A++L) (A.length+k)):=by
 unfold BC;rw [D4,AL,Af5 A.length (Ak L k) 1,D4];by_cases h1:(L.drop (Ak L k)).head?=some 44
 ·rw [if_pos h1,if_pos h1];have h:=V7 ext true A L (Ak L (Ak L k+1));generalize DQ ext true L (Ak L (Ak L k+1))=R at h ⊢;generalize DQ ext true (A++L) (A.length+Ak L (Ak L k+1))=R' at h ⊢;unfold DB;cases R with
  | error q=>
   cases R' with
   | error r=>exact h
   | ok r=>exact h.elim
  | ok q=>
   cases R' with
   | error r=>exact h.elim
   | ok r=>
    have e:r.1=q.1:=h.1;simp only [e];by_cases h0:q.1.kind=0
    ·rw [if_pos h0,if_pos h0];exact rfl
    ·rw [if_neg h0,if_neg h0];exact h
 ·rw [if_neg h1,if_neg h1];exact ⟨rfl,rfl⟩
theorem NI (A L:List UInt8) (k:Nat):C4 (A++L) (A.length+k)=(match C4 L k with | .error q=>.error (q.1,A.length+q.2) | .ok q=>.ok (q.1,A.length+q.2)):=by
 unfold C4;rw [D4,AL,Af5 A.length (Ak L k) 1,D4,AL];by_cases h1:(L.drop (Ak L k)).head?=some 33
 ·rw [if_pos h1,if_pos h1];by_cases h2:(L.drop (Ak L (Ak L k+1))).head?=some 33
  ·rw [if_pos h2,if_pos h2]
  ·rw [if_neg h2,if_neg h2]
 ·rw [if_neg h1,if_neg h1]
theorem Aeg (ext:Bool) (A L:List UInt8) (k:Nat):Y4 A.length id (GS ext L k) (GS ext (A++L) (A.length+k)):=by
 have h2:Y4 A.length id (CT ext L (DQ ext false L k)) (CT ext (A++L) (DQ ext false (A++L) (A.length+k))):=by
  have h:=V7 ext false A L k;generalize DQ ext false L k=R at h ⊢;generalize DQ ext false (A++L) (A.length+k)=R' at h ⊢;unfold CT;cases R with
  | error q=>
   cases R' with
   | error r=>exact h
   | ok r=>exact h.elim
  | ok q=>
   cases R' with
   | error r=>exact h.elim
   | ok r=>
    have e:r.1=q.1:=h.1;have e2:r.2.2=A.length+q.2.2:=h.2;simp only [e,e2];by_cases h0:q.1.kind=0
    ·rw [if_pos h0,if_pos h0];exact ⟨rfl,e2⟩
    ·rw [if_neg h0,if_neg h0];have hs:=V8 ext A L q.2.2;generalize BC ext L q.2.2=S at hs ⊢;generalize BC ext (A++L) (A.length+q.2.2)=S' at hs ⊢;unfold EG;cases S with
     | error q=>cases S' with
      | error r=>exact hs
      | ok r=>exact hs.elim
     | ok q=>cases S' with
      | error r=>exact hs.elim
      | ok r=>exact ⟨by show (_,r.1)=(_,_);rw [show r.1=_ from hs.1];rfl,hs.2⟩
 unfold GS;generalize CT ext L (DQ ext false L k)=R at h2 ⊢;generalize CT ext (A++L) (DQ ext false (A++L) (A.length+k))=R' at h2 ⊢;unfold FK;cases R with
 | error q=>
  cases R' with
  | error r=>exact h2
  | ok r=>exact h2.elim
 | ok q=>
  cases R' with
  | error r=>exact h2.elim
  | ok r=>
   have e:r.1=q.1:=h2.1;have e2:r.2.2=A.length+q.2.2:=h2.2;simp only [e,e2];rw [NI];generalize C4 L q.2.2=S;unfold EX;cases S with
   | error x=>exact rfl
   | ok x=>exact ⟨rfl,rfl⟩
def shC (a:Nat) (c:Cmd):Cmd:={ c with pl:=a+c.pl }
theorem NJ (ext:Bool) (L:List UInt8) (st:CS):(AE ext L st).2.c.pl=st.c.pl∧(AE ext L st).2.c.g=st.c.g:=by
 have hn:(AW L st).2.c.pl=st.c.pl∧(AW L st).2.c.g=st.c.g:=by
  unfold AW;split
  ·exact ⟨rfl,rfl⟩
  ·unfold Bt;split
   ·exact ⟨rfl,rfl⟩
   ·split
    ·exact ⟨rfl,rfl⟩
    ·split
     ·exact ⟨rfl,rfl⟩
     ·exact ⟨rfl,rfl⟩
 unfold AE CO.then
 split
 ·have h:=V5 ext L (AW L st).2;exact ⟨h.1.trans hn.1,h.2.2.trans hn.2⟩
 ·exact hn
theorem NK (ext:Bool) (A L:List UInt8) (g:Grd) (ms ms':List Wm) (p:Nat) (he:∀ k d q,An ext L k d=.error q→q.1≠0) :
  Iv A.length (AE ext L (AA g ms p)) (AE ext (A++L) (AA g ms' (A.length+p))):=by
 have h0:Sh A.length (AA g ms p) (AA g ms' (A.length+p)):=⟨rfl,rfl,rfl,rfl,rfl⟩
 unfold AE AW;rw [show (AA g ms' (A.length+p)).k=A.length+p from rfl,show (AA g ms p).k=p from rfl,AL];cases hd:L.drop p with
 | nil=>exact ⟨rfl,h0⟩
 | cons b t=>
  have hk:=AD hd;simp only;cases Et b with
  | none=>exact ⟨rfl,h0⟩
  | some n=>
   unfold Bt;simp only;rw [show (AA g ms' (A.length+p)).c.g=g from rfl,show (AA g ms p).c.g=g from rfl];by_cases hx:n < GE g
   ·rw [if_pos hx,if_pos hx];exact ⟨rfl,h0⟩
   ·rw [if_neg hx,if_neg hx];cases FM b with
    | true=>exact NF ext A L (st:=((AA g ms p).mark p [b]).name b) (st':=((AA g ms' (A.length+p)).mark (A.length+p) [b]).name b) ⟨by show A.length+p+1=A.length+(p+1);omega,rfl,rfl,rfl,rfl⟩ (by show p+1≤L.length;omega) he
    | false=>exact NF ext A L (st:=(AA g ms p).name b) (st':=(AA g ms' (A.length+p)).name b) ⟨by show A.length+p+1=A.length+(p+1);omega,rfl,rfl,rfl,rfl⟩ (by show p+1≤L.length;omega) he
theorem Aeh (ext:Bool) (A L:List UInt8) (k:Nat) (he:∀ k d q,An ext L k d=.error q→q.1≠0):Y4 A.length (shC A.length) (Ji ext L k) (Ji ext (A++L) (A.length+k)):=by
 have h:=Aeg ext A L k;unfold Ji;generalize GS ext L k=R at h ⊢;generalize GS ext (A++L) (A.length+k)=R' at h ⊢;cases R with
 | error q=>
  cases R' with
  | error r=>exact h
  | ok r=>exact h.elim
 | ok q=>
  cases R' with
  | error r=>exact h.elim
  | ok r=>
   obtain ⟨g,ms,p⟩:=q;obtain ⟨g',ms',p'⟩:=r;have e1:g'=g:=h.1;have e2:p'=A.length+p:=h.2;subst e1 e2;show Y4 _ _ (EZ (AE ext L (AA g' ms p))) (EZ (AE ext (A++L) (AA g' ms' (A.length+p))));obtain ⟨w1,w2⟩:=NK ext A L g' ms ms' p he;have k1:=NJ ext L (AA g' ms p);have k2:=NJ ext (A++L) (AA g' ms' (A.length+p));generalize AE ext L (AA g' ms p)=r at w1 w2 k1 ⊢;generalize AE ext (A++L) (AA g' ms' (A.length+p))=r' at w1 w2 k2 ⊢;obtain ⟨n,st⟩:=r;obtain ⟨n',st'⟩:=r';have e3:n'=n:=w1;subst e3;have w2:Sh A.length st st':=w2;unfold EZ;simp only;by_cases h0:n'=0
   ·rw [if_pos h0,if_pos h0];refine ⟨?_,w2.k⟩;show st'.c=shC A.length st.c;obtain ⟨kk,⟨pl,gg,nm,ar,sb,tb⟩,mm⟩:=st;obtain ⟨kk',⟨pl',gg',nm',ar',sb',tb'⟩,mm'⟩:=st';have a1:nm'=nm:=w2.name;have a2:ar'=ar:=w2.arg;have a3:sb'=sb:=w2.sub;have a4:tb'=tb:=w2.table;have b1:pl=p:=k1.1;have b2:gg=g':=k1.2;have b3:pl'=A.length+p:=k2.1;have b4:gg'=g':=k2.2;subst a1 a2 a3 a4 b1 b2 b3 b4;rfl
   ·rw [if_neg h0,if_neg h0];show (n',st'.k)=(n',A.length+st.k)
    rw [w2.k]
def BZ (L:List UInt8) (k:Nat):Nat:=k+Eg [32,9,10,59] (L.drop k)
def Do (L:List UInt8) (k:Nat):Nat:=AK (fun b=>!(b == 10)) (L.drop k)
def Bw (L:List UInt8):Nat→Nat→Nat
 | 0,k=>k
 | n+1,k=>if (L.drop k).head?=some 35 then Bw L n (BZ L (k+Do L k)) else k
def Am (L:List UInt8) (k:Nat):Nat:=Bw L (L.length+1) (BZ L k)
structure SS where
 k:Nat
 cs:List Cmd
 ms:List Wm
 op:List Nat
def scLabels (cs:List Cmd):List (List UInt8):=(cs.filter fun c=>c.name == 58).map (·.arg)
def Bb (st:SS) (c:Cmd):Nat × List Nat:=
 if c.name=123 then (if st.op.length=12 then (4,st.op) else (0,st.op++[c.pl]))
 else if c.name=125 then (if st.op.length=0 then (16,st.op) else (0,st.op.dropLast))
 else if c.name=58 then (if c.arg∈scLabels st.cs then (15,st.op) else (0,st.op))
 else (0,st.op)
def Gy (st:SS) (q:Cmd × List Wm × Nat) (r:Nat × List Nat):Except (Nat × Nat) SS:=
 if r.1=0 then .ok ⟨q.2.2,st.cs++[q.1],st.ms++q.2.1,r.2⟩ else .error (r.1,q.1.pl)
def EA (st:SS) (R:BO Cmd):Except (Nat × Nat) SS:=
 match R with
 | .error q=>.error q
 | .ok q=>Gy st q (Bb st q.1)
def CX (ext:Bool) (L:List UInt8) (st:SS):Except (Nat × Nat) SS:=
 if st.cs.length=100 then .error (3,st.k) else EA st (Ji ext L st.k)
def SS.go (st:SS) (k:Nat):SS:={ st with k:=k }
def BM (ext:Bool) (L:List UInt8):Nat→SS→Except (Nat × Nat) SS
 | 0,st=>.ok st
 | n+1,st=>
  if Am L st.k < L.length then
   (match CX ext L (st.go (Am L st.k)) with
   | .error q=>.error q
   | .ok st'=>BM ext L n st')
  else .ok (st.go (Am L st.k))
def Dp (ls:List (List UInt8)) (c:Cmd):Bool:=(c.name == 98 || c.name == 116 || c.name == 84) && !c.arg.isEmpty && !ls.contains c.arg
def C5 (st:SS):Nat × Nat:=
 match st.op.getLast? with
 | some p=>(16,p)
 | none=>(match st.cs.find? (Dp (scLabels st.cs)) with
  | some c=>(14,c.pl)
  | none=>(0,0))
def FN (R:Except (Nat × Nat) SS):Except (Nat × Nat) SS:=
 match R with
 | .error q=>.error q
 | .ok st=>if (C5 st).1=0 then .ok st else .error (C5 st)
def Dq (L:List UInt8):Bool:=L.take (Do L 0) == [35,110]
def Ie (ext:Bool) (L:List UInt8):Except (Nat × Nat) SS:=FN (BM ext L 102 ⟨0,[],[],[]⟩)
theorem Aa7 (A L:List UInt8) (k:Nat):BZ (A++L) (A.length+k)=A.length+BZ L k:=by
 unfold BZ;rw [AL,Af5]
theorem Aei (A L:List UInt8) (k:Nat):Do (A++L) (A.length+k)=Do L k:=by unfold Do;rw [AL]
theorem Lu (L:List UInt8) (k:Nat):k≤BZ L k:=Nat.le_add_right _ _
theorem PI {L:List UInt8} {k:Nat} (h:(L.drop k).head?=some 35):0 < Do L k∧k < L.length:=by
 cases hd:L.drop k with
 | nil=>rw [hd] at h;cases h
 | cons c t=>
  rw [hd] at h;injection h with h;subst h;refine ⟨?_,AD hd⟩;unfold Do AK;rw [hd];simp
theorem FO (A L:List UInt8):∀ (n m k:Nat),L.length - k < n→L.length - k < m→Bw (A++L) m (A.length+k)=A.length+Bw L n k
 | 0,_,_,h,_=>absurd h (Nat.not_lt_zero _)
 | _,0,_,_,h=>absurd h (Nat.not_lt_zero _)
 | n+1,m+1,k,h1,h2=>by
  unfold Bw;rw [AL];by_cases hh:(L.drop k).head?=some 35
  ·obtain ⟨ha,hb⟩:=PI hh;have hs:=Lu L (k+Do L k);rw [if_pos hh,if_pos hh,Aei,Af5,Aa7];exact FO A L n m _ (by omega) (by omega)
  ·rw [if_neg hh,if_neg hh]
theorem Sj (A L:List UInt8) (k:Nat):Am (A++L) (A.length+k)=A.length+Am L k:=by
 unfold Am;rw [Aa7];exact FO A L _ _ _ (by omega) (by rw [Afs];omega)
structure SSh (a:Nat) (st st':SS):Prop where
 cs:st'.cs=st.cs.map (shC a)
 op:st'.op=st.op.map (a+·)
theorem Lw (a:Nat) (cs:List Cmd):scLabels (cs.map (shC a))=scLabels cs:=by
 unfold scLabels;rw [List.filter_map,List.map_map];rfl
theorem Acg {a:Nat} {st st':SS} (h:SSh a st st') (c:Cmd):(Bb st' (shC a c)).1=(Bb st c).1∧(Bb st' (shC a c)).2=(Bb st c).2.map (a+·):=by
 unfold Bb;rw [h.op,h.cs,Lw,List.length_map,show (shC a c).name=c.name from rfl,show (shC a c).arg=c.arg from rfl,show (shC a c).pl=a+c.pl from rfl];by_cases h1:c.name=123
 ·rw [if_pos h1,if_pos h1];by_cases h2:st.op.length=12
  ·rw [if_pos h2,if_pos h2];exact ⟨rfl,rfl⟩
  ·rw [if_neg h2,if_neg h2];exact ⟨rfl,by simp⟩
 rw [if_neg h1,if_neg h1];by_cases h3:c.name=125
 ·rw [if_pos h3,if_pos h3];by_cases h2:st.op.length=0
  ·rw [if_pos h2,if_pos h2];exact ⟨rfl,rfl⟩
  ·rw [if_neg h2,if_neg h2];exact ⟨rfl,by simp⟩
 rw [if_neg h3,if_neg h3];by_cases h4:c.name=58
 ·rw [if_pos h4,if_pos h4];by_cases h2:c.arg∈scLabels st.cs
  ·rw [if_pos h2,if_pos h2];exact ⟨rfl,rfl⟩
  ·rw [if_neg h2,if_neg h2];exact ⟨rfl,rfl⟩
 ·rw [if_neg h4,if_neg h4];exact ⟨rfl,rfl⟩
theorem YZ {a:Nat} {st st':SS} (h:SSh a st st'):(C5 st').1=(C5 st).1:=by
 unfold C5;rw [h.op,h.cs,Lw,List.getLast?_map,List.find?_map];cases st.op.getLast? with
 | some p=>rfl
 | none=>
  simp only [Option.map_none];rw [show (Dp (scLabels st.cs) ∘ shC a)=Dp (scLabels st.cs) from rfl];cases st.cs.find? (Dp (scLabels st.cs)) with
  | some c=>rfl
  | none=>rfl
theorem NL (L:List UInt8) (h:L.take 2≠[35,110]):Dq L=false:=by
 unfold Dq;cases hb:(L.take (Do L 0) == [35,110]) with
 | false=>rfl
 | true=>
  exfalso;have e:L.take (Do L 0)=[35,110]:=by simpa using hb
  apply h;have h2:2≤Do L 0:=by have:=congrArg List.length e;rw [List.length_take] at this;simp at this;omega
  have:=congrArg (List.take 2) e
  rwa [List.take_take,Nat.min_eq_left h2] at this
end
end Go.Proofs.YtnognicabhgmcaaGreatDoor
